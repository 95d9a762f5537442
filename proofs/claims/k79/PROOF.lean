import PyProof.Rows.All
import Wide.All
import OpenK.AllK
import Wide.FinOn
import Lean
import PyProof.EqAt
import PyProof.EqKinds
import PyProof.TupleCall
import PySem.Challenge.RW_causebook_k79_whole_chains_worked
set_option Elab.async false
set_option linter.all false
set_option maxRecDepth 100000
set_option genSizeOf false
local macro_rules | `(tactic| omega) => `(tactic| first | lia | omega (config := {}))
abbrev ζa:=@List.length_map
abbrev ζb:=@List.getD_eq_getElem?_getD
abbrev ζc:=PySem.W.Frag
abbrev ζd:=@List.mem_of_getElem?
abbrev ζe:=@List.getElem?_eq_getElem
abbrev ζf:=@List.mem_cons_self
abbrev ζg:=@List.length_append
abbrev ζh:=@List.getElem?_eq_some_iff
abbrev ζi:=@List.mem_singleton
abbrev ζj:=@PySem.Heap.get?_push_of_some
abbrev ζk:=@List.mem_cons_of_mem
abbrev ζl:=@Nat.le_refl
abbrev ζm:=@List.mem_filter
abbrev ζn:=@List.map_congr_left
abbrev ζo:=@List.getElem?_map
abbrev ζp:=@List.mem_map
abbrev ζq:=@PySem.Heap.lt_size
abbrev ζr:=@Option.some.inj
abbrev ζs:=@PySem.F.plainAttrs_list
abbrev ζt:=@List.getElem?_set_self
abbrev ζu:=@List.mem_append
abbrev ζv:=@List.map_append
abbrev ζw:=@List.mem_cons
abbrev ζx:=@List.filter_sublist
abbrev ζy:=@List.getElem?_set_ne
abbrev ζz:=@List.length_range
abbrev ζA:=@List.map_map
abbrev ζB:=@PySem.F.type_list_append
abbrev ζC:=@PySem.F.slot_list_append
abbrev ζD:=@Bool.false_ne_true
abbrev ζE:=@List.mem_range
abbrev ζF:=@List.map_cons
abbrev ζG:=@Int.toNat_natCast
abbrev ζH:=@Nat.lt_of_lt_of_le
abbrev ζI:=@List.take_of_length_le
abbrev ζJ:=@List.mem_append_right
abbrev ζK:=@List.take_zero
abbrev ζL:=@PySem.Heap.get?_push_size
abbrev ζM:=@List.mem_append_left
abbrev ζN:=@List.length_take
abbrev ζO:=@Int.emod_lt_of_pos
abbrev ζP:=@Array.length_toList
abbrev ζQ:=@Nat.ne_of_lt
abbrev ζR:=@List.take_length
abbrev ζS:=@List.size_toArray
abbrev ζT:=@List.length_replicate
abbrev ζU:=@Int.emod_nonneg
abbrev ζV:=@List.length_filter_le
abbrev ζW:=@List.nodup_append
abbrev ζX:=@List.take_append_drop
abbrev ζY:=@List.length_cons
abbrev ζZ:=@List.eq_nil_of_length_eq_zero
abbrev ζ0:=@Int.toNat_of_nonneg
abbrev ζ1:=@List.append_nil
abbrev ζ2:=@List.filter_append
abbrev ζ3:=@List.nodup_cons
abbrev ζ4:=@List.forall_mem_cons
abbrev ζ5:=@List.length_drop
abbrev ζ6:=@Nat.lt_of_le_of_lt
abbrev ζ7:=@List.getElem?_eq_none
abbrev ζ8:=@Nat.le_trans
abbrev ζ9:=@List.getElem_mem
abbrev ξa:=@List.perm_ext_iff_of_nodup
abbrev ξb:=@List.getElem?_append_right
abbrev ξc:=@List.sum_cons
abbrev ξd:=@List.replicate_succ
abbrev ξe:=@Array.getElem?_eq_getElem
abbrev ξf:=@List.dropLast_concat_getLast
abbrev ξg:=@Array.getElem?_toList
abbrev ξh:=@List.mem_of_mem_take
abbrev ξi:=@List.mem_iff_getElem?
abbrev ξj:=@Nat.zero_le
abbrev ξk:=@Nat.lt_irrefl
abbrev ξl:=@Int.natCast_add
abbrev ξm:=@PySem.Heap.get?_update_self
abbrev ξn:=@List.any_eq_true
abbrev ξo:=@Int.mul_comm
abbrev ξp:=@Option.map_eq_some_iff
abbrev ξq:=@List.foldl_append
abbrev ξr:=@List.getElem?_zip_eq_some
abbrev ξs:=@List.getElem?_append_left
abbrev ξt:=@List.drop_eq_getElem_cons
abbrev ξu:=@List.pairwise_cons
abbrev ξv:=@List.idxOf_lt_length_iff
abbrev ξw:=@Nat.pow_le_pow_right
abbrev ξx:=@List.mem_iff_getElem
abbrev ξy:=@List.length_eq_zero_iff
abbrev ξz:=@Int.mul_assoc
abbrev ξA:=@Nat.ne_of_gt
abbrev ξB:=@Int.natAbs_mul
abbrev ξC:=@List.length_set
abbrev ξD:=@List.getElem?_range
abbrev ξE:=@List.all_eq_true
abbrev ξF:=@List.any_cons
abbrev ξG:=@Option.isSome_iff_exists
abbrev ξH:=@List.flatten_cons
abbrev ξI:=@List.append_assoc
abbrev ξJ:=@Int.emod_eq_of_lt
abbrev ξK:=@Int.mul_le_mul_of_nonneg_right
abbrev ξL:=@List.length_zipWith
abbrev ξM:=@List.length_reverse
abbrev ξN:=@Int.mul_le_mul_of_nonneg_left
abbrev ξO:=@List.pairwise_lt_range
abbrev ξP:=@List.mem_filterMap
abbrev ξQ:=@List.length_zip
abbrev ξR:=@Int.natCast_mul
abbrev ξS:=@List.pairwise_map
abbrev ξT:=@Int.gcd_dvd_right
abbrev ξU:=@Int.mul_le_mul
abbrev ξV:=@Nat.zero_lt_succ
abbrev ξW:=@Nat.succ_lt_succ
abbrev ξX:=@List.perm_middle
abbrev ξY:=@List.lookup_cons
abbrev ξZ:=@Bool.and_eq_true
abbrev ξ0:=@Nat.pow_succ
abbrev ξ1:=@Int.mul_ediv_cancel_left
abbrev ξ2:=@Nat.min_eq_left
abbrev ξ3:=@List.getElem_range
abbrev ξ4:=@List.take_sublist
abbrev ξ5:=@List.getElem_drop
abbrev ξ6:=@List.filter_congr
abbrev ξ7:=@List.eraseIdx_eq_take_drop_succ
abbrev ξ8:=@List.nodup_nil
abbrev ξ9:=@Nat.sub_self
abbrev υN (l:List PySem.Str):Prop:=l.Nodup
abbrev AA:=@PySem.wpAny_bind
abbrev AB:=@PySem.wpAny_pure
abbrev AC:=@PySem.PassesOwn.never
abbrev AD:=PySem.PyData
abbrev AE:=List Int
abbrev AF:=List Nat
abbrev AG:=List AD
abbrev AH:=List AE
abbrev AI:=List AF
abbrev AJ:=List PySem.Str
abbrev AK:=List PySem.Value
abbrev AL:=List (PySem.Addr×PySem.Obj)
abbrev AM:=List (Int×Int)
abbrev AN:=PySem.Value→PySem.Shared→Prop
abbrev AO:=PySem.Str→Option PySem.Value
local macro_rules | `(∅) => `(by walk_at "ev")
local macro_rules | `(⋯) => `(by omega)
local macro_rules | `(#[0]) => `(by walk_at "sc")
local macro_rules | `(#[1]) => `(by walk_at "gc")
local macro_rules | `(#[2]) => `(by decide)
namespace L2
open PySem PySem.Spec PyProof.Rows
abbrev Key:=Sum Int Str
def Yv:Key→Value→Bool
 | .inl k,v=>Value.isInt k v
 | .inr x,v=>Value.isStrOf x v
def keyH(w:World):Key→Int
 | .inl k=>hashInt k
 | .inr x=>hashStr w x
theorem yy:∀{k:Key} {v:Value},Yv k v=true→(∃i t,k=Sum.inl i∧v=Value.int i t)∨(∃x t,k=Sum.inr x∧v=Value.str x t)
 | .inl i,v,h=>by
  obtain⟨t,e⟩:=Value.isInt_shape (k:=i) (v:=v) h;exact .inl ⟨i,t,rfl,e⟩
 | .inr x,v,h=>by
  obtain⟨t,e⟩:=Value.isStrOf_shape (x:=x) (v:=v) h;exact .inr ⟨x,t,rfl,e⟩
theorem Tw(i:Int)(t:Tok):Yv (.inl i) (.int i t)=true:=by simp[Yv,Value.isInt]
theorem Tv(x:Str)(t:Tok):Yv (.inr x) (.str x t)=true:=by simp[Yv,Value.isStrOf]
theorem zdS(a b:Int):decide ((Sum.inl a:Key)=Sum.inl b)=(a == b):=by
 by_cases e:a=b
 ·subst e; simp
 ·have h:¬(Sum.inl a:Key)=Sum.inl b:=λq=>e (Sum.inl.inj q);rw[decide_eq_false h];exact(beq_eq_false_iff_ne.mpr e).symm
theorem zdP(a b:Str):decide ((Sum.inr a:Key)=Sum.inr b)=decide (a=b):=by
 by_cases e:a=b
 ·subst e; simp
 ·have h:¬(Sum.inr a:Key)=Sum.inr b:=λq=>e (Sum.inr.inj q);rw[decide_eq_false h,decide_eq_false e]
theorem zdR(a:Int)(b:Str):decide ((Sum.inl a:Key)=Sum.inr b)=false:=decide_eq_false (λq=>nomatch q)
theorem zdQ(a:Str)(b:Int):decide ((Sum.inr a:Key)=Sum.inl b)=false:=decide_eq_false (λq=>nomatch q)
def yZ(prog:Program)(w:World):PySem.KeyKind prog w Key where
 is:=Yv
 hash:=keyH w
 inj:=λv a b ha hb=>by
  rcases yy ha with⟨i,t,rfl,rfl⟩ | ⟨x,t,rfl,rfl⟩
  ·rcases yy hb with⟨j,u,rfl,e⟩ | ⟨y,u,rfl,e⟩
   ·injection e with e1 _; rw[e1]
   ·exact nomatch e
  ·rcases yy hb with⟨j,u,rfl,e⟩ | ⟨y,u,rfl,e⟩
   ·exact nomatch e
   ·injection e with e1 _; rw[e1]
 byValue:=λk v h=>by
  rcases yy h with⟨i,t,rfl,rfl⟩ | ⟨x,t,rfl,rfl⟩ <;> rfl
 pyHash:=λhv h=>by
  rcases yy hv with⟨i,t,rfl,rfl⟩ | ⟨x,t,rfl,rfl⟩
  ·exact wpAny_pyHash_int h
  ·exact wpAny_pyHash_str h
 eqBool:=λhu hv h=>by
  rcases yy hu with⟨i,t,rfl,rfl⟩ | ⟨x,t,rfl,rfl⟩
  ·rcases yy hv with⟨j,u,rfl,rfl⟩ | ⟨y,u,rfl,rfl⟩
   ·rw[zdS]at h; exact wpAny_eqBool_int h
   ·rw[zdR]at h; exact SeqAt.EqAt.int_str i t y u _ _ _ _ h
  ·rcases yy hv with⟨j,u,rfl,rfl⟩ | ⟨y,u,rfl,rfl⟩
   ·rw[zdQ]at h; exact SeqAt.EqAt.str_int x t j u _ _ _ _ h
   ·rw[zdP]at h; exact wpAny_eqBool_str h
 «strs»:=λk x t v h=>by
  rcases yy h with⟨i,u,rfl,e⟩ | ⟨y,u,rfl,e⟩
  ·exact nomatch e
  ·injection e with e1 _;subst e1;cases v <;> rfl
theorem WO(prog:Program)(w:World)(i:Int)(t:Tok):(yZ prog w).is (.inl i) (.int i t)=true:=Tw i t
theorem WN(prog:Program)(w:World)(x:Str)(t:Tok):(yZ prog w).is (.inr x) (.str x t)=true:=Tv x t
inductive V where
 | non | bl (b:Bool) | int (i:Int) | str (x:Str) | byt (b:Array UInt8) | flt (b:UInt64) | ref (a:Addr) | ty (n:String)
 deriving DecidableEq
def RelV:V→Value→Prop
 | .non,u=>u=Value.none
 | .bl b,u=>u=Value.bool b
 | .int i,u=>∃t,u=Value.int i t
 | .str x,u=>∃t,u=Value.str x t
 | .byt b,u=>∃t,u=Value.bytes b t
 | .flt b,u=>∃t,u=Value.float b t
 | .ref a,u=>u=Value.ref a
 | .ty n,u=>u=Value.type n
abbrev Vals:List V→AK→Prop:=Paired RelV
theorem Vals.length{xs:List V}{us:AK}(r:Vals xs us):xs.length=us.length:=Paired.length r
theorem Vals.get:∀{xs:List V} {us:AK} {i:Nat} {x:V},Vals xs us→xs[i]?=some x→∃u,us[i]?=some u∧RelV x u
 | _,_,_,_,.nil,e=>by simp at e
 | _,_,0,_,.cons r _,e=>by simp at e; subst e; exact⟨_,rfl,r⟩
 | _,_,i + 1,x,.cons _ t,e=>by
  obtain⟨u,h1,h2⟩:=Vals.get (i:=i) (x:=x) t (by simpa using e);exact⟨u,by simpa using h1,h2⟩
theorem Vals.set{x:V}{u:Value}(r:RelV x u):∀{xs:List V} {us:AK} (i:Nat),Vals xs us→Vals (xs.set i x) (us.set i u)
 | _,_,_,.nil=>.nil
 | _,_,0,.cons _ t=>.cons r t
 | _,_,i + 1,.cons q t=>.cons q (Vals.set r i t)
theorem Vals.append:∀{xs ys:List V} {us ws:AK},Vals xs us→Vals ys ws→Vals (xs ++ ys) (us ++ ws)
 | _,_,_,_,.nil,s=>s
 | _,_,_,_,.cons r t,s=>.cons r (Vals.append t s)
theorem Vals.take:∀{xs:List V} {us:AK} (n:Nat),Vals xs us→Vals (xs.take n) (us.take n)
 | _,_,0,_=>.nil
 | _,_,_ + 1,.nil=>.nil
 | _,_,n + 1,.cons r t=>.cons r (Vals.take n t)
theorem Vals.drop:∀{xs:List V} {us:AK} (n:Nat),Vals xs us→Vals (xs.drop n) (us.drop n)
 | _,_,0,r=>r
 | _,_,_ + 1,.nil=>.nil
 | _,_,n + 1,.cons _ t=>Vals.drop n t
def RelO:Option V→Option Value→Prop
 | some v,some u=>RelV v u
 | none,none=>True
 | _,_=>False
def KV{κ:Type}:List (κ×V)→List (κ×Value)→Prop:=Paired λ(p:κ×V) (q:κ×Value)=>p.1=q.1∧RelV p.2 q.2
def kV:Key→V
 | .inl i=>.int i
 | .inr x=>.str x
inductive HO where
 | lst (xs:List V)
 | tup (xs:List V)
 | dK (kvs:List (Key×V)) | dT (kvs:List (List Key×V))
 | set (S:Int→Bool) (n:Nat)
 | ins (C dx:Addr) (fs:List (Str×V))
 | own (x:Addr)
 | xd (fs:List (Str×V))
 | met (f x:Addr)
 | rng (lo hi:Int)
 | frz (o:Obj) (u:HO)
 | tbl (ps:Array Value)
 | ext (φ:Heap→Prop)
abbrev Hp:=Addr→Option HO
def upd(H:Hp)(a:Addr)(o:HO):Hp:=λb=>if b=a then some o else H b
theorem zk{H:Hp}{a:Addr}{o:HO}:upd H a o a=some o:=by unfold upd; rw[if_pos rfl]
theorem zr{H:Hp}{a b:Addr}{o:HO}(h:b≠a):upd H a o b=H b:=by unfold upd; rw[if_neg h]
theorem zcY{H:Hp}{a b:Addr}{o u:HO}(h:H a=some o)(h':H b=some u)(d:o≠u):a≠b:=by
 intro e; subst e; rw[h]at h'; exact d (ζr h')
theorem zL{H:Hp}{a b:Addr}{o:HO}(h:H a=some o)(h':H b=none):a≠b:=by
 intro e; subst e; rw[h]at h'; cases h'
def tY(H:Hp)(b:Addr)(ys:List V):Prop:=H b=some (.tup ys)∨∃o:Obj,(∀v,o.data≠.cell v)∧H b=some (.frz o (.tup ys))
def tagQ(ps:Array Value):Str:=match(ps[0]?:Option Value)with | some (.str q _)=>q | _ => ""
section
variable (P:Program)(w:World)
def yA(H:Hp)(h:Heap)(a:Addr):HO→Prop
 | .lst xs=>xs.length≤sizeLine∧∃(its:AK) (n:Nat),Vals xs its∧h.get? a=some { cls:=.type "list", data:=.seq its.toArray n }
 | .tup xs=>xs.length≤sizeLine∧∃its:AK,Vals xs its∧IsTup h a its.toArray
 | .dK kvs=>kvs.length≤sizeLine∧(a == sysModules)=false∧∃vs,KV kvs vs∧h.DictOf (yZ P w) a vs
 | .dT kvs=>kvs.length≤sizeLine∧(a == sysModules)=false∧∃xs:List (List Key×Addr×Value),
   Paired (λ(p:List Key×V) (q:List Key×Addr×Value)=>p.1=q.1∧tY H q.2.1 (p.1.map kV)∧RelV p.2 q.2.2) kvs xs∧
   ∃o es ep,h.get? a=some o∧o.ExactDict∧o.data=.dict es ep∧es.toList=xs.map (entryOfKey (tupleKind (yZ P w)))∧(xs.map (·.1)).Nodup
 | .set S n=>h.SetOf (intKind P w) a S n
 | .ins C dx fs=>H dx=some (.own a)∧fs.length≤1000∧dx≠a∧h.get? a=some (PySem.W.instObj C dx)∧
   ∃mA,h.Ns1 dx mA∧(∀f,RelO (fs.lookup f) (mA f))∧PySem.Within mA (fs.map (·.1))
 | .own _=>∃o,h.get? a=some o
 | .xd fs=>∃mA,h.Ns1 a mA∧∀f,RelO (fs.lookup f) (mA f)
 | .rng lo hi=>∃t u v,h.get? a=some { cls:=.type "range", data:=.fields #[.int lo t,.int hi u,.int 1 v] }
 | .frz o u=>h.get? a=some o∧yA H h a u
 | .tbl ps=>∃vs:Array Value,h.get? a=some (PySem.W.tabObj vs)∧TriplesOk vs.toList∧∀p v,codeAmong p vs.toList=some v→∃b o fs t,v=.ref b∧H b=some (.frz o (.ext λ_=>True))∧o.data=.fields fs∧fs[1]?=some (.str (tagQ ps) t)
 | .met f x=>h.get? a=some (PySem.W.methodObj (.ref f) (.ref x))
 | .ext φ=>φ h∧(∃o,h.get? a=some o)∧∀h1 h2:Heap,φ h1→(∀o,h1.get? a=some o→h2.get? a=some o)→φ h2
def HOk(H:Hp)(h:Heap):Prop:=∀a o,H a=some o→yA P w H h a o
end
section
variable {P:Program}{w:World}{H H':Hp}{h h':Heap}{a:Addr}{o:HO}
theorem yA.lt(x:yA P w H h a o):a < h.objs.size:=by
 cases o with
 | lst xs=>obtain⟨_,_,_,_,e⟩:=x; exact ζq e
 | tup xs=>obtain⟨_,_,_,p⟩:=x; exact p.lt
 | dK kvs=>obtain⟨_,_,_,_,o,_,_,e,_⟩:=x; exact ζq e
 | dT kvs=>obtain⟨_,_,_,_,o,_,_,e,_⟩:=x; exact ζq e
 | set S n=>obtain⟨o,_,_,_,e,_⟩:=x; exact ζq e
 | ins C dx fs=>obtain⟨_,_,_,e,_⟩:=x; exact ζq e
 | own y=>obtain⟨_,e⟩:=x; exact ζq e
 | xd fs=>obtain⟨_,⟨_,_,_,e,_⟩,_⟩:=x; exact ζq e
 | rng lo hi=>obtain⟨_,_,_,e⟩:=x; exact ζq e
 | frz ob u=>obtain⟨e,_⟩:=x; exact ζq e
 | tbl ps=>obtain⟨_,e,_⟩:=x; exact ζq e
 | met f y=>exact ζq (show h.get? a=some _ from x)
 | ext φ=>obtain⟨_,⟨_,e⟩,_⟩:=x; exact ζq e
theorem Paired.mapP{α β:Type}{F G:α→β→Prop}:∀{l₁:List α} {l₂:List β},Paired F l₁ l₂→(∀a b,F a b→G a b)→Paired G l₁ l₂
 | _,_,.nil,_=>.nil
 | _,_,.cons r t,f=>.cons (f _ _ r) (Paired.mapP t f)
theorem yA.stay(x:yA P w H h a o)(k:∀b u,(b=a∨H b=some (.own a))→h.get? b=some u→h'.get? b=some u)
  (ho:∀b,H b=some (.own a)→H' b=some (.own a)) (ht:∀b xs,H b=some (.tup xs)→H' b=some (.tup xs))
  (hc:∀b o u,H b=some (.frz o u)→(∀v,o.data≠.cell v)→H' b=some (.frz o u):=by first | exact λ_ _ _ q _=>q | (intro b o u z _; rw[zr (zL z (by assumption))]; exact z) | (intro b o u z _; rw[zr (λe=>by subst e; simp_all [Mut])]; exact z)):yA P w H' h' a o:=by
 induction o with
 | lst xs=>obtain⟨z,its,n,r,e⟩:=x; exact⟨z,its,n,r,k _ _ (.inl rfl) e⟩
 | tup xs=>obtain⟨z,its,r,ob,e,c⟩:=x; exact⟨z,its,r,ob,k _ _ (.inl rfl) e,c⟩
 | dK kvs=>obtain⟨z,y,vs,r,ob,es,ep,e,c⟩:=x; exact⟨z,y,vs,r,ob,es,ep,k _ _ (.inl rfl) e,c⟩
 | dT kvs =>
  obtain⟨z,y,xs,r,ob,es,ep,e,c⟩:=x;exact⟨z,y,xs,Paired.mapP r λp q z=>⟨z.1,z.2.1.imp (ht _ _) λ⟨o,n,y⟩=>⟨o,n,hc _ _ _ y n⟩,z.2.2⟩,ob,es,ep,k _ _ (.inl rfl) e,c⟩
 | set S n=>obtain⟨ob,es,ep,t,e,c⟩:=x; exact⟨ob,es,ep,t,k _ _ (.inl rfl) e,c⟩
 | ins C dx fs =>
  obtain⟨d,z,ne,e,mA,⟨od,es,ep,e2,c⟩,r⟩:=x;exact⟨ho _ d,z,ne,k _ _ (.inl rfl) e,mA,⟨od,es,ep,k _ _ (.inr d) e2,c⟩,r⟩
 | own y=>obtain⟨ob,e⟩:=x; exact⟨ob,k _ _ (.inl rfl) e⟩
 | xd fs=>obtain⟨mA,⟨od,es,ep,e,c⟩,r⟩:=x; exact⟨mA,⟨od,es,ep,k _ _ (.inl rfl) e,c⟩,r⟩
 | rng lo hi=>obtain⟨t,u,v,e⟩:=x; exact⟨t,u,v,k _ _ (.inl rfl) e⟩
 | frz ob u ih=>obtain⟨e,q⟩:=x; exact⟨k _ _ (.inl rfl) e,ih q⟩
 | tbl ps=>obtain⟨vs,e,t,z⟩:=x; exact⟨vs,k _ _ (.inl rfl) e,t,λp v y=>let⟨b,o,fs,t,e1,e2,e3⟩:=z p v y; ⟨b,o,fs,t,e1,hc _ _ _ e2 (λv y=>by rw[e3.1]at y; cases y),e3⟩⟩
 | met f y =>
  have e:h.get? a=some (PySem.W.methodObj (.ref f) (.ref y)):=x;show h'.get? a=some (PySem.W.methodObj (.ref f) (.ref y));exact k a _ (.inl rfl) e
 | ext φ=>obtain⟨p,⟨o,e⟩,st⟩:=x; exact⟨st _ _ p λo q=>k _ _ (.inl rfl) q,⟨o,k _ _ (.inl rfl) e⟩,st⟩
theorem HOk.lt(x:HOk P w H h)(e:H a=some o):a < h.objs.size:=(x a o e).lt
theorem HOk.fresh(x:HOk P w H h)(e:h.objs.size≤a):H a=none:=by
 cases q:H a with
 | none=>rfl
 | some u=>exact absurd (ζH (x.lt q) e) (ξk _)
theorem HOk.kept(x:HOk P w H h)(k:∀b u,h.get? b=some u→h'.get? b=some u):HOk P w H h':=λa o e =>
 (x a o e).stay (λb u _ q=>k b u q) (λ_ q=>q) λ_ _ q=>q
theorem HOk.laid(x:HOk P w H h)(k:∀b u,h.get? b=some u→h'.get? b=some u)(hp:h.objs.size≤a)(new:yA P w (upd H a o) h' a o):HOk P w (upd H a o) h':=λb u e=>by
 have hn:=x.fresh hp;by_cases hb:b=a
 ·subst hb; rw[zk]at e; cases e; exact new
 ·rw[zr hb]at e;exact(x b u e).stay (λc v _ q=>k c v q) (λc q=>by rw[zr (zL q hn)]; exact q) λc xs q=>by rw[zr (zL q hn)]; exact q
end
def Rd(H:Hp)(a:Addr)(u:HO):Prop:=H a=some u∨∃o,H a=some (.frz o u)
theorem Rd.ok{P:Program}{w:World}{H:Hp}{h:Heap}{a:Addr}{u:HO}(r:Rd H a u)(x:HOk P w H h):yA P w H h a u:=by
 rcases r with r | ⟨o,r⟩
 ·exact x a u r
 ·obtain⟨_,q⟩:=x a _ r;exact q
def Mut:Option HO→Prop
 | some (.lst _)=>True
 | some (.dK _)=>True
 | some (.dT _)=>True
 | some (.set _ _)=>True
 | some (.ins _ _ _)=>True
 | some (.ext _)=>True
 | _=>False
section
variable {P:Program}{w:World}{H:Hp}{h h':Heap}{x e:Addr}{o':HO}
theorem HOk.write(ok:HOk P w H h)(mu:Mut (H x))(he:e=x∨H e=some (.own x))(k:∀b u,b≠e→h.get? b=some u→h'.get? b=some u)(heo:∃u,h'.get? e=some u)
  (new:yA P w (upd H x o') h' x o'):HOk P w (upd H x o') h':=λb u q=>by
 have nown:∀c y,H c=some (.own y)→c≠x:=λc y r z=>by subst z; rw[r]at mu; exact mu
 have ntup:∀c xs,H c=some (.tup xs)→c≠x:=λc xs r z=>by subst z; rw[r]at mu; exact mu
 by_cases hb:b=x
 ·subst hb; rw[zk]at q; cases q; exact new
 ·rw[zr hb]at q;by_cases hbe:b=e
  ·have q':H b=some (.own x):=by
    rcases he with z | z
    ·exact absurd (hbe.trans z) hb
    ·rw[hbe]; exact z
   rw[q]at q'; cases q';obtain⟨v,hv⟩:=heo;exact⟨v,by rw[hbe]; exact hv⟩
  ·refine(ok b u q).stay (λc v hc r=>k c v ?_ r) (λc r=>by rw[zr (nown c b r)]; exact r) λc xs r=>by rw[zr (ntup c xs r)]; exact r
   rcases hc with rfl | hc
   ·exact hbe
   ·rintro rfl;rcases he with z | z
    ·exact nown c b hc z
    ·rw[hc]at z; cases z; exact hb rfl
end
structure Un(fs ex:List Addr)(H H':Hp)(h h':Heap):Prop where
 keep:∀b o,h.get? b=some o→H b=none→b∉fs→b∉ex→h'.get? b=some o
 slot:∀b o,h.get? b=some o→H b=none→b∈fs→b∉ex→∃sl,h'.get? b=some { o with slots:=sl }
 free:∀b o,h.get? b=some o→H b=none→b∉ex→H' b=none
 there:∀b o,h.get? b=some o→b∉ex→∃o',h'.get? b=some o'
 tups:∀b xs,H b=some (.tup xs)→H' b=some (.tup xs)
 frzs:∀b o u,H b=some (.frz o u)→H' b=some (.frz o u)
 tbls:∀b ps,H b=some (.tbl ps)→∃more,H' b=some (.tbl (ps ++ more))
section
variable {fs fs' ex ex':List Addr}{H H1 H2:Hp}{h h1 h2 h':Heap}{a x e:Addr}{o:HO}
theorem Un.any(u:Un fs ex H H1 h h1){b:Addr}{ob:Obj}(q:h.get? b=some ob)(n:H b=none)(hx:b∉ex):∃sl,h1.get? b=some { ob with slots:=sl }:=by
 by_cases hb:b∈fs
 ·exact u.slot b ob q n hb hx
 ·exact⟨ob.slots,u.keep b ob q n hb hx⟩
theorem Un.kept(k:∀b u,h.get? b=some u→h'.get? b=some u):Un fs ex H H h h' :=
 ⟨λb ob q _ _ _=>k b ob q,λb ob q _ _ _=>⟨ob.slots,k b ob q⟩,λ_ _ _ n _=>n,λb ob q _=>⟨ob,k b ob q⟩,λ_ _ q=>q,λ_ _ _ q=>q,λ_ ps q=>⟨#[],by rw[q]; simp⟩⟩
theorem Un.refl:Un fs ex H H h h:=Un.kept λ_ _ q=>q
theorem Un.laid(k:∀b u,h.get? b=some u→h'.get? b=some u)(hp:h.objs.size≤a)(hn:H a=none):Un fs ex H (upd H a o) h h' where
 keep:=λb u q _ _ _=>k b u q
 slot:=λb u q _ _ _=>⟨u.slots,k b u q⟩
 free:=λb u q n _=>by rw[zr (ζQ (ζH (ζq q) hp))]; exact n
 there:=λb u q _=>⟨u,k b u q⟩
 tups:=λb xs q=>by rw[zr (zL q hn)]; exact q
 frzs:=λb u xs q=>by rw[zr (zL q hn)]; exact q
 tbls:=λb ps q=>⟨#[],by rw[zr (zL q hn),q]; simp⟩
theorem Un.write(mu:Mut (H x))(he:e=x∨H e=some (.own x))(k:∀b u,b≠e→h.get? b=some u→h'.get? b=some u)(heo:∃u,h'.get? e=some u):Un fs ex H (upd H x o) h h':=by
 have hx:∀b,H b=none→b≠x:=λb n z=>by subst z; rw[n]at mu; exact mu
 have hb:∀b,H b=none→b≠e:=λb n z=>by
  subst z;rcases he with r | r
  ·exact hx b n r
  ·rw[n]at r; cases r
 have hm:∀b u,H b=some u→¬Mut (some u)→b≠x:=λb u q nm z=>by subst z; rw[q]at mu; exact nm mu
 refine⟨λb u q n _ _=>k b u (hb b n) q,λb u q n _ _=>⟨u.slots,k b u (hb b n) q⟩,λb u q n _=>by rw[zr (hx b n)]; exact n,λb u q _=>?_,
  λb xs q=>by rw[zr (hm b _ q λz=>z)]; exact q,λb u xs q=>by rw[zr (hm b _ q λz=>z)]; exact q,λb ps q=>⟨#[],by rw[zr (hm b _ q λz=>z),q]; simp⟩⟩
 by_cases hbe:b=e
 ·subst hbe; exact heo
 ·exact⟨u,k b u hbe q⟩
end
def trk(h:Heap)(H:Hp):List Addr:=(List.range h.objs.size).filter λa=>(H a).isSome
def hidT(h:Heap)(H:Hp):Heap:=PySem.W.hideAll h (trk h H)
theorem Ty(h:Heap)(H:Hp):(hidT h H).objs.size=h.objs.size:=PySem.W.hideAll_size _ _
theorem zau{h:Heap}{H:Hp}{b:Addr}{o:Obj}(e:h.get? b=some o)(n:H b=none):(hidT h H).get? b=some o :=
 PySem.W.hideAll_get _ e λhm=>by
  have q:(H b).isSome=true:=(ζm.mp hm).2;rw[n]at q; simp at q
theorem zb9{h:Heap}{H:Hp}{b:Addr}{o:Obj}(e:(hidT h H).get? b=some o):h.get? b=some o∧H b=none:=by
 have e':h.get? b=some o:=PySem.W.of_hideAll (trk h H) e;refine⟨e',?_⟩
 cases q:H b with
 | none=>rfl
 | some x =>
  have hm:b∈trk h H:=List.mem_filter.mpr ⟨List.mem_range.mpr (Heap.lt_size e'),by simp[q]⟩;have z:(hidT h H).get? b=none:=PySem.W.hideAll_none (trk h H) hm;rw[z]at e; cases e
def zaq:AJ:=["above","beneath","above_in","clumps","reach","least_parting","least_set","why_not"]
def Qm(o:Obj):Option (Addr×Str):=match o.cls,o.data with
 | .type "code", .fields vs=>(match(vs[1]?:Option Value),(vs[11]?:Option Value)with
  | some (.str q _),some (.ref P)=>if zaq.contains q then some (P,q ++ ".<locals>.<lambda>")else none
  | _,_=>none)
 | _,_=>none
def yq(K:ζc):List (Addr×Str):=K.filterMap λp=>(K.lookup p.1).bind Qm
def YU(K:ζc):Bool:=(yq K).all λp=>(K.lookup p.1).isNone && (yq K).all λq=>decide (p.1=q.1→p.2=q.2)
def TbOk(K:ζc)(H:Hp):Prop:=∀p∈yq K,∃t more,H p.1=some (.tbl (#[.str p.2 t] ++ more))
theorem TbOk.un{K:ζc}{fs ex:List Addr}{H H':Hp}{h h':Heap}(t:TbOk K H)(u:Un fs ex H H' h h'):TbOk K H':=λp hp=>by
 obtain⟨k,m,e⟩:=t p hp;obtain⟨m',e'⟩:=u.tbls _ _ e;exact⟨k,m ++ m',by rw[e',Array.append_assoc]⟩
structure Mod(K:ζc)(mg:AO)(base:Heap):Prop where
 kin:K.In base
 glob:base.Ns mainGlobals mg
 blt:∃mb,base.Ns builtinsNs mb∧∀x:Str,x ≠ "__name__"→mb x=bootBuiltins x
 nolimit:base.NoLimit
 bm:∃bm ob,mg "__builtins__" = some (.ref bm)∧bm≠builtinsNs∧base.get? bm=some ob∧ob.cls=.type "module"∧ob.dict=some builtinsNs∧ob.data=.plain
structure Cx where
 prog:Program
 w:World
 K:ζc
 mg:Str→Option Value
 base:Heap
 A:Around
 N:AJ
 s₀:Shared
 H₀:Hp
 env:Env
 outer:List Env
 stack:List Env
 ex:List Addr
 fn:Str→Bool
 calm:Bool
 pn:AL
 xe:Value→Shared→Prop
def frs(l:List Env):List Addr:=l.filterMap (·.frame)
abbrev Cx.fs(X:Cx):List Addr:=frs X.outer
def Vis(sc:Scope)(x:Str):Prop:=sc.names.lookup x=some .local∨sc.names.lookup x=some .cell∨sc.names.lookup x=some .free
def Loc(sc:Scope)(x:Str):Prop:=sc.names.lookup x=some .local∨sc.names.lookup x=some .cell
def Look(env:Env)(h:Heap)(m:AO)(x:Str)(u:Value):Prop :=
 (env.kindOf x=some .local∧m x=some u)∨((env.kindOf x=some .cell∨env.kindOf x=some .free)∧∃c,env.cells.lookup x=some c∧h.IsCell c (some u))
structure Cx.Ok(X:Cx):Prop where
 mod:Mod X.K X.mg X.base
 kind:X.env.scope.kind=.function
 glob:X.env.globals=mainGlobals
 blt:X.env.builtins=builtinsNs
 above:X.s₀.heap.objs.size≤X.env.locals
 inj:∀x y c,X.env.cells.lookup x=some c→X.env.cells.lookup y=some c→x=y
 has:∀x,(X.env.kindOf x=some .cell∨X.env.kindOf x=some .free)→∃c,X.env.cells.lookup x=some c
 cab:∀x c,X.fn x=true→X.env.cells.lookup x=some c→X.s₀.heap.objs.size≤c
 hd:X.calm=true→X.A.handled=none
 frames:X.A.frames=some X.stack
 stk:X.stack=X.outer∨(X.stack=X.env :: X.outer∧X.env.frame=some X.env.locals)
 exf:∀b∈X.ex,b≠X.env.locals∧∀x c,X.env.cells.lookup x=some c→c≠b
 bs:∀b o,X.base.get? b=some o→X.s₀.heap.get? b=some o∧X.H₀ b=none
 bsz:X.base.objs.size≤X.s₀.heap.objs.size
 noex:∀b o,X.base.get? b=some o→b∉X.ex
 exfs:∀b∈X.ex,b∉X.fs
 funs:X.s₀.heap.FunFrames X.base X.outer
 frf:∀b∈X.fs,X.H₀ b=none
 tb:TbOk X.K X.H₀
structure Inv(X:Cx)(pins:AL)(σ:List (Option V))(H:Hp)(s:Shared):Prop where
 ok:X.Ok
 os:s.os=X.s₀.os
 bare:AllBare s.gens
 base:Un X.fs X.ex X.H₀ H X.s₀.heap s.heap
 loc:∃m,s.heap.Ns X.env.locals m∧∀(i:Nat) (x:Str) (v:V),X.N[i]?=some x→σ[i]?=some (some v)→Vis X.env.scope x→∃u,RelV v u∧Look X.env s.heap m x u
 cell:∀x c,X.env.cells.lookup x=some c→∃v,s.heap.IsCell c v
 free:H X.env.locals=none
 freeC:∀x c,X.env.cells.lookup x=some c→H c=none∨X.fn x=false∧∃o u,H c=some (.frz o u)
 pin:∀p∈X.pn ++ pins,s.heap.get? p.1=some p.2∧H p.1=none∧p.1≠X.env.locals∧p.1∉X.fs∧∀v,p.2.data≠.cell v
 hok:HOk X.prog X.w H s.heap
 len:σ.length=X.N.length
section
variable {X:Cx}{pins:AL}{σ:List (Option V)}{H H':Hp}{s:Shared}{h':Heap}
theorem Cx.Ok.nofr(ok:X.Ok){b:Addr}{o:Obj}(e:X.base.get? b=some o):b∉X.fs:=λhb=>by
 have:=(ok.funs.mem hb).1;rw[e]at this; cases this
theorem Inv.bs(I:Inv X pins σ H s):∀b o,X.base.get? b=some o→s.heap.get? b=some o∧H b=none:=λb o e =>
 ⟨I.base.keep b o (I.ok.bs b o e).1 (I.ok.bs b o e).2 (I.ok.nofr e) (I.ok.noex b o e),I.base.free b o (I.ok.bs b o e).1 (I.ok.bs b o e).2 (I.ok.noex b o e)⟩
theorem Inv.bk(I:Inv X pins σ H s):∀b o,X.base.get? b=some o→s.heap.get? b=some o:=λb o e=>(I.bs b o e).1
theorem Inv.mod(I:Inv X pins σ H s):Mod X.K X.mg X.base:=I.ok.mod
theorem Inv.kIn(I:Inv X pins σ H s):X.K.In s.heap:=I.ok.mod.kin.keeps I.bk
theorem Inv.lt(I:Inv X pins σ H s):X.env.locals < s.heap.objs.size:=let⟨_,hn,_⟩:=I.loc; hn.lt
theorem Inv.sz(I:Inv X pins σ H s):X.s₀.heap.objs.size≤s.heap.objs.size:=ζ8 I.ok.above (Nat.le_of_lt I.lt)
theorem Inv.nofs(I:Inv X pins σ H s){a:Addr}(h:s.heap.objs.size≤a):a∉X.fs:=λhb=>by
 obtain⟨_,o,ho,_⟩:=I.ok.funs.mem hb;exact absurd (ζH (ζq ho) (ζ8 I.sz h)) (ξk _)
theorem Inv.cne(I:Inv X pins σ H s):∀x c,X.env.cells.lookup x=some c→c≠X.env.locals:=λx c e z=>by
 obtain⟨v,o,ho,hd⟩:=I.cell x c e;obtain⟨m,⟨o',es,ep,ho',hd',_⟩,_⟩:=I.loc;rw[z,ho']at ho; cases ho; rw[hd']at hd; cases hd
theorem Inv.funs(I:Inv X pins σ H s):s.heap.FunFrames X.base X.outer:=by
 have all:∀(l:List Env),(∀b∈frs l,b∈X.fs)→X.s₀.heap.FunFrames X.base l→s.heap.FunFrames X.base l:=by
  intro l;induction l with
  | nil=>intro _ _; trivial
  | cons env r ih =>
   intro hs hl;obtain⟨hk,⟨L,o,hf,hn,ho,hd⟩,hr⟩:=hl;have hL:L∈X.fs:=hs L (by unfold frs; rw[List.filterMap_cons,hf]; exact List.mem_cons_self);obtain⟨sl,e⟩:=I.base.slot L o ho (I.ok.frf L hL) hL λz=>I.ok.exfs L z hL;exact⟨hk,⟨L,_,hf,hn,e,hd⟩,ih (λb hb=>hs b (by unfold frs; rw[List.filterMap_cons,hf]; exact List.mem_cons_of_mem _ hb)) hr⟩
 exact all X.outer (λ_ hb=>hb) I.ok.funs
theorem Inv.stack(I:Inv X pins σ H s):s.heap.FunFrames X.base X.stack:=by
 rcases I.ok.stk with e | ⟨e,hf⟩
 ·rw[e]; exact I.funs
 ·rw[e];obtain⟨m,hn,_⟩:=I.loc;refine .cons (by rw[I.ok.kind]; decide) hf hn ?_ I.funs;exact Heap.get?_none_of_le (ζ8 I.ok.bsz I.ok.above)
theorem Inv.stkSub(I:Inv X pins σ H s):∀b∈frs X.stack,b∈X.env.locals :: X.fs:=λb hb=>by
 rcases I.ok.stk with e | ⟨e,hf⟩
 ·rw[e]at hb; exact ζk _ hb
 ·rw[e]at hb;unfold frs at hb;rw[List.filterMap_cons,hf]at hb;exact hb
theorem Inv.stkFree(I:Inv X pins σ H s):∀b∈frs X.stack,H b=none:=λb hb=>by
 rcases ζw.mp (I.stkSub b hb)with e | hb
 ·rw[e]; exact I.free
 ·obtain⟨_,o,ho,_⟩:=I.ok.funs.mem hb;exact I.base.free b o ho (I.ok.frf b hb) λz=>I.ok.exfs b z hb
theorem Inv.step{g':Array GenState}{t':Nat}{d':Drawn}{ch:List Addr}(I:Inv X pins σ H s)
  (hch:∀b∈ch,(b∈X.ex∨X.s₀.heap.objs.size≤b)∧b≠X.env.locals∧(∀x c,X.env.cells.lookup x=some c→c≠b)∧∀p∈X.pn ++ pins,p.1≠b)
  (keep:∀b o,b≠X.env.locals→b∉X.fs→b∉ch→s.heap.get? b=some o→H b=none→h'.get? b=some o)
  (slot:∀b o,b≠X.env.locals→b∈X.fs→b∉ch→s.heap.get? b=some o→H b=none→∃sl,h'.get? b=some { o with slots:=sl }) (free:∀b o,b∉ch→s.heap.get? b=some o→H b=none→H' b=none)
  (there:∀b o,b∉ch→s.heap.get? b=some o→∃o',h'.get? b=some o')
  (tups:∀b xs,H b=some (.tup xs)→H' b=some (.tup xs)) (frzs:∀b o u,H b=some (.frz o u)→H' b=some (.frz o u)) (tbls:∀b ps,H b=some (.tbl ps)→∃more,H' b=some (.tbl (ps ++ more)))
  (ns:∀m,s.heap.Ns X.env.locals m→h'.Ns X.env.locals m) (hok:HOk X.prog X.w H' h') (hg:AllBare g') :
  Inv X pins σ H' { s with heap:=h',gens:=g',drawn:=d',toks:=t' }:=by
 have neL:∀b o,X.s₀.heap.get? b=some o→b≠X.env.locals:=λb o e=>ζQ (ζH (ζq e) I.ok.above);have neC:∀b o,X.s₀.heap.get? b=some o→b∉X.ex→b∉ch:=λb o e hx hb=>by
  rcases(hch b hb).1 with z | z
  ·exact hx z
  ·exact absurd (ζH (ζq e) z) (ξk _)
 have cellK:∀x c,X.env.cells.lookup x=some c→∀v,s.heap.IsCell c v→h'.IsCell c v:=λx c e v ⟨o,ho,hd⟩=>by
  have nch:c∉ch:=λz=>(hch c z).2.2.1 x c e rfl;rcases I.freeC x c e with hn | ⟨_,o1,u1,hn⟩
  ·by_cases hc:c∈X.fs
   ·obtain⟨sl,q⟩:=slot c o (I.cne x c e) hc nch ho hn;exact⟨_,q,hd⟩
   ·exact⟨o,keep c o (I.cne x c e) hc nch ho hn,hd⟩
  ·have q1:=(I.hok c _ hn).1;rw[ho]at q1;cases q1;exact⟨o,(hok c _ (frzs c _ _ hn)).1,hd⟩
 refine⟨I.ok,I.os,hg,⟨λb o e n hb hx=>?_,λb o e n hb hx=>?_,λb o e n hx=>?_,λb o e hx=>?_,λb xs e=>tups b xs (I.base.tups b xs e),λb o xs e=>frzs b o xs (I.base.frzs b o xs e),λb ps e=>?_⟩,?_,λx c e=>?_,?_,λx c e=>?_,λp hp=>?_,hok,I.len⟩
 ·exact keep b o (neL b o e) hb (neC b o e hx) (I.base.keep b o e n hb hx) (I.base.free b o e n hx)
 ·obtain⟨sl,e1⟩:=I.base.slot b o e n hb hx;obtain⟨sl',e2⟩:=slot b _ (neL b o e) hb (neC b o e hx) e1 (I.base.free b o e n hx);exact⟨sl',e2⟩
 ·obtain⟨o',e1⟩:=I.base.there b o e hx;exact free b o' (neC b o e hx) e1 (I.base.free b o e n hx)
 ·obtain⟨o',e1⟩:=I.base.there b o e hx;exact there b o' (neC b o e hx) e1
 ·obtain⟨m1,e1⟩:=I.base.tbls b ps e;obtain⟨m2,e2⟩:=tbls b _ e1;exact⟨m1 ++ m2,by rw[e2,Array.append_assoc]⟩
 ·obtain⟨m,hn,hl⟩:=I.loc;refine⟨m,ns m hn,λi x v e1 e2 e3=>?_⟩
  obtain⟨u,r,l⟩:=hl i x v e1 e2 e3;refine⟨u,r,?_⟩
  rcases l with l | ⟨k,c,e,z⟩
  ·exact .inl l
  ·exact .inr ⟨k,c,e,cellK x c e _ z⟩
 ·obtain⟨v,z⟩:=I.cell x c e;exact⟨v,cellK x c e v z⟩
 ·obtain⟨m,⟨o,_,_,ho,_⟩,_⟩:=I.loc;exact free _ o (λz=>(hch _ z).2.1 rfl) ho I.free
 ·obtain⟨v,o,ho,hd⟩:=I.cell x c e;exact(I.freeC x c e).elim (λn=>.inl (free c o (λz=>(hch c z).2.2.1 x c e rfl) ho n)) λ⟨y1,o1,u1,y2⟩=>.inr ⟨y1,o1,u1,frzs c o1 u1 y2⟩
 ·obtain⟨e,n,ne,nf,d⟩:=I.pin p hp;have nch:p.1∉ch:=λz=>(hch p.1 z).2.2.2 p hp rfl;exact⟨keep p.1 p.2 ne nf nch e n,free p.1 p.2 nch e n,ne,nf,d⟩
theorem Inv.un{t':Nat}(I:Inv X pins σ H s)(u:Un X.fs [] H H' s.heap h')(hok:HOk X.prog X.w H' h'):Inv X pins σ H' { s with heap:=h',toks:=t' }:=by
 obtain⟨m,⟨o,es,ep,ho,r⟩,_⟩:=id I.loc;obtain⟨sl,hL⟩:=u.any ho I.free (by simp);exact I.step (g':=s.gens) (d':=s.drawn) (ch:=[]) (λ_ z=>nomatch z) (λb o _ hb _ e n=>u.keep b o e n hb (by simp)) (λb o _ hb _ e n=>u.slot b o e n hb (by simp)) (λb o _ e n=>u.free b o e n (by simp)) (λb o _ e=>u.there b o e (by simp)) u.tups u.frzs u.tbls (λm' hm=>by
  obtain⟨o',es',ep',ho',r'⟩:=hm;rw[ho]at ho'; cases ho';exact⟨_,es',ep',hL,r'⟩) hok I.bare
theorem Inv.call{g':Array GenState}{t':Nat}{d':Drawn}{ch:List Addr}(I:Inv X pins σ H s)(u:Un (frs X.stack) ch H H' s.heap h')(hok:HOk X.prog X.w H' h')(hg:AllBare g')
  (hch:∀b∈ch,(b∈X.ex∨X.s₀.heap.objs.size≤b)∧b≠X.env.locals∧(∀x c,X.env.cells.lookup x=some c→c≠b)∧∀p∈X.pn ++ pins,p.1≠b) :
  Inv X pins σ H' { s with heap:=h',gens:=g',drawn:=d',toks:=t' }:=by
 obtain⟨m,⟨o,es,ep,ho,r⟩,_⟩:=id I.loc;obtain⟨sl,hL⟩:=u.any ho I.free λz=>(hch _ z).2.1 rfl;exact I.step (ch:=ch) hch (λb o hL hb hc e n=>u.keep b o e n (λz=>(ζw.mp (I.stkSub b z)).elim hL hb) hc) (λb o _ _ hc e n=>u.any e n hc) (λb o hc e n=>u.free b o e n hc) (λb o hc e=>u.there b o e hc) u.tups u.frzs u.tbls (λm' hm=>by
  obtain⟨o',es',ep',ho',r'⟩:=hm;rw[ho]at ho'; cases ho';exact⟨_,es',ep',hL,r'⟩) hok hg
theorem Inv.turned{t':Nat}{it:Addr}(I:Inv X pins σ H s)(k:∀b o,b≠it→s.heap.get? b=some o→h'.get? b=some o)(hn:H it=none)(hL:it≠X.env.locals)
  (h1:it∈X.ex∨X.s₀.heap.objs.size≤it) (h2:∀x c,X.env.cells.lookup x=some c→c≠it) (h3:∀p∈X.pn ++ pins,p.1≠it):Inv X pins σ H { s with heap:=h',toks:=t' }:=by
 have nit:∀b u,H b=some u→b≠it:=λb u e z=>by rw[z,hn]at e; cases e
 refine I.step (g':=s.gens) (d':=s.drawn) (ch:=[it]) (λb hb=>?_) (λb o _ _ hc e _=>k b o (λz=>hc (by simp[z])) e) (λb o _ _ hc e _=>⟨o.slots,k b o (λz=>hc (by simp[z])) e⟩) (λ_ _ _ _ n=>n)
  (λb o hc e=>⟨o,k b o (λz=>hc (by simp[z])) e⟩) (λ_ _ e=>e) (λ_ _ _ e=>e) (λb ps e=>⟨#[],by rw[e]; simp⟩) (λm hm=>?_) (λb u e=>?_) I.bare
 ·have e:b=it:=by simpa using hb
  subst e;exact⟨h1,hL,h2,h3⟩
 ·obtain⟨o,es,ep,ho,r⟩:=hm;exact⟨o,es,ep,k _ o (Ne.symm hL) ho,r⟩
 ·refine(I.hok b u e).stay (λc v hc q=>k c v ?_ q) (λ_ q=>q) λ_ _ q=>q;rcases hc with z | z
  ·rw[z]; exact nit b u e
  ·exact nit c _ z
theorem Inv.tok(I:Inv X pins σ H s)(t:Nat):Inv X pins σ H { s with toks:=t }:=I.un (h':=s.heap) (t':=t) Un.refl I.hok
theorem Inv.kept{t':Nat}(I:Inv X pins σ H s)(k:∀b u,s.heap.get? b=some u→h'.get? b=some u):Inv X pins σ H { s with heap:=h',toks:=t' }:=I.un (Un.kept k) (I.hok.kept k)
theorem Inv.laid{a:Addr}{o:HO}{t':Nat}(I:Inv X pins σ H s)(k:∀b u,s.heap.get? b=some u→h'.get? b=some u)(hp:s.heap.objs.size≤a)(new:yA X.prog X.w (upd H a o) h' a o):
  Inv X pins σ (upd H a o) { s with heap:=h',toks:=t' }:=I.un (Un.laid k hp (I.hok.fresh hp)) (I.hok.laid k hp new)
theorem Inv.write{x e:Addr}{o:HO}{t':Nat}(I:Inv X pins σ H s)(mu:Mut (H x))(he:e=x∨H e=some (.own x))(k:∀b u,b≠e→s.heap.get? b=some u→h'.get? b=some u)(heo:∃u,h'.get? e=some u)
  (new:yA X.prog X.w (upd H x o) h' x o):Inv X pins σ (upd H x o) { s with heap:=h',toks:=t' }:=I.un (Un.write mu he k heo) (I.hok.write mu he k heo new)
theorem Inv.weak{σ':List (Option V)}(I:Inv X pins σ H s)(hl:σ'.length=σ.length)(w:∀(i:Nat) v,σ'[i]?=some (some v)→σ[i]?=some (some v)):Inv X pins σ' H s :=
 ⟨I.ok,I.os,I.bare,I.base,let⟨m,hn,hl'⟩:=I.loc; ⟨m,hn,λi x v e1 e2 e3=>hl' i x v e1 (w i v e2) e3⟩,I.cell,I.free,I.freeC,I.pin,I.hok,hl.trans I.len⟩
theorem Inv.pins_of{pins':AL}(I:Inv X pins σ H s)(h:∀p∈pins',s.heap.get? p.1=some p.2∧H p.1=none∧p.1≠X.env.locals∧p.1∉X.fs∧∀v,p.2.data≠.cell v):Inv X pins' σ H s :=
 ⟨I.ok,I.os,I.bare,I.base,I.loc,I.cell,I.free,I.freeC,λp hp=>(ζu.mp hp).elim (λz=>I.pin p (ζM _ z)) (h p),I.hok,I.len⟩
theorem WL{N:AJ}(hN:N.Nodup){i j:Nat}{x:Str}(a:N[i]?=some x)(b:N[j]?=some x):i=j:=by
 obtain⟨h1,e1⟩:=ζh.mp a;obtain⟨h2,e2⟩:=ζh.mp b;exact(List.getElem_inj hN).mp (e1.trans e2.symm)
theorem Yi{M:Model}{A:Around}{E:AN}{i:Nat}{x:Str}{v:V}{u:Value}{Q:Unit→Shared→Prop}(I:Inv X pins σ H s)(hN:X.N.Nodup)(hi:X.N[i]?=some x)(hx:Loc X.env.scope x)(r:RelV v u)
  (h:∀s',Inv X pins (σ.set i (some v)) H s'→(∃a,Heap.SameBut a s.heap s'.heap∧(a=X.env.locals∨X.env.cells.lookup x=some a))→Q () s') (hf:X.fn x=true∨X.env.scope.names.lookup x=some .local:=by first | exact .inl rfl | exact .inr rfl | assumption):wpAny M A (storeName X.env x u) Q E s:=by
 obtain⟨m,hn,hl⟩:=id I.loc;have hcls:(X.env.scope.kind == .class || (X.env.scope.kind == .module && X.env.locals != X.env.globals))=false:=by rw[I.ok.kind]; rfl
 have hiσ:i < σ.length:=by rw[I.len]; exact(ζh.mp hi).1
 have cne:=I.cne;have tracked:∀{a:Addr} {h':Heap},(∃o,s.heap.get? a=some o∧H a=none)→Heap.SameBut a s.heap h'→HOk X.prog X.w H h':=λ{a h'} ha hs b ob e=>by
  obtain⟨_,_,hfree⟩:=ha;refine(I.hok b ob e).stay (λc w' hc q=>(hs.2 c ?_).trans q) (λ_ q=>q) λ_ _ q=>q;rintro rfl;rcases hc with rfl | hc
  ·rw[hfree]at e; cases e
  ·rw[hfree]at hc; cases hc
 rcases hx with hk | hk
 ·refine wpAny_storeName_local hk hn (λh' hn' hs=>?_) hcls;obtain⟨oL,_,_,hoL,_⟩:=id hn;refine h _ ⟨I.ok,I.os,I.bare,⟨λb o e n hb hx=>?_,λb o e n hb hx=>?_,I.base.free,λb o e hx=>?_,I.base.tups,I.base.frzs,I.base.tbls⟩,⟨_,hn',λj y v' e1 e2 e3=>?_⟩,λy c e=>?_,I.free,I.freeC,λp hp=>?_,tracked ⟨oL,hoL,I.free⟩ hs,by simpa using I.len⟩ ⟨_,hs,.inl rfl⟩
  ·exact(hs.2 b (ζQ (ζH (ζq e) I.ok.above))).trans (I.base.keep b o e n hb hx)
  ·obtain⟨sl,e1⟩:=I.base.slot b o e n hb hx;exact⟨sl,(hs.2 b (ζQ (ζH (ζq e) I.ok.above))).trans e1⟩
  ·obtain⟨o',e1⟩:=I.base.there b o e hx;exact⟨o',(hs.2 b (ζQ (ζH (ζq e) I.ok.above))).trans e1⟩
  ·by_cases hj:j=i
   ·subst hj;rw[hi]at e1; cases e1;rw[ζt hiσ]at e2;cases e2;exact⟨u,r,.inl ⟨hk,by simp⟩⟩
   ·rw[ζy (Ne.symm hj)]at e2;obtain⟨u',r',q⟩:=hl j y v' e1 e2 e3;refine⟨u',r',?_⟩
    rcases q with⟨k,e⟩ | ⟨k,c,e,z⟩
    ·refine .inl ⟨k,?_⟩;have:y≠x:=λe=>hj (WL hN e1 (e ▸ hi));simp[this,e]
    ·exact .inr ⟨k,c,e,z.sameBut hs (cne y c e)⟩
  ·obtain⟨w',z⟩:=I.cell y c e;exact⟨w',z.sameBut hs (cne y c e)⟩
  ·obtain⟨e,n,ne,nf,d⟩:=I.pin p hp;exact⟨(hs.2 p.1 ne).trans e,n,ne,nf,d⟩
 ·have hfn:X.fn x=true:=by
   rcases hf with z | z
   ·exact z
   ·rw[z]at hk; cases hk
  obtain⟨c,hc⟩:=I.ok.has x (.inl hk);obtain⟨w',z⟩:=I.cell x c hc;refine wpAny_storeName_cell I.ok.kind hk hc z (λh' hc' hs=>?_);obtain⟨oc,hoc,hocd⟩:=id z;refine h { s with heap:=h' } ⟨I.ok,I.os,I.bare,⟨λb o e n hb hx=>?_,λb o e n hb hx=>?_,I.base.free,λb o e hx=>?_,I.base.tups,I.base.frzs,I.base.tbls⟩,⟨m,hn.sameBut hs (Ne.symm (cne x c hc)),λj y v' e1 e2 e3=>?_⟩,λy c' e=>?_,I.free,I.freeC,λp hp=>?_,tracked ⟨oc,hoc,(I.freeC x c hc).elim (λn=>n) λz=>by rw[hfn]at z; cases z.1⟩ hs,by simpa using I.len⟩ ⟨c,hs,.inr hc⟩
  ·exact(hs.2 b (ζQ (ζH (ζq e) (I.ok.cab x c hfn hc)))).trans (I.base.keep b o e n hb hx)
  ·obtain⟨sl,e1⟩:=I.base.slot b o e n hb hx;exact⟨sl,(hs.2 b (ζQ (ζH (ζq e) (I.ok.cab x c hfn hc)))).trans e1⟩
  ·obtain⟨o',e1⟩:=I.base.there b o e hx;exact⟨o',(hs.2 b (ζQ (ζH (ζq e) (I.ok.cab x c hfn hc)))).trans e1⟩
  ·by_cases hj:j=i
   ·subst hj;rw[hi]at e1; cases e1;rw[ζt hiσ]at e2;cases e2;exact⟨u,r,.inr ⟨.inl hk,c,hc,hc'⟩⟩
   ·rw[ζy (Ne.symm hj)]at e2;obtain⟨u',r',q⟩:=hl j y v' e1 e2 e3;refine⟨u',r',?_⟩
    rcases q with q | ⟨k,c',e,z'⟩
    ·exact .inl q
    ·refine .inr ⟨k,c',e,z'.sameBut hs ?_⟩;rintro rfl;exact hj (WL hN e1 (I.ok.inj _ _ _ e hc ▸ hi))
  ·by_cases hcc:c'=c
   ·subst hcc; exact⟨_,hc'⟩
   ·obtain⟨w2,z2⟩:=I.cell y c' e;exact⟨w2,z2.sameBut hs hcc⟩
  ·obtain⟨e,n,ne,nf,d⟩:=I.pin p hp;refine⟨(hs.2 p.1 ?_).trans e,n,ne,nf,d⟩
   intro q;rw[q,hoc]at e;have q':oc=p.2:=ζr e;exact d w' (by rw[←q']; exact hocd)
theorem Wb{M:Model}{A:Around}{E:AN}{i:Nat}{x:Str}{v:V}{u:Value}{Q:Unit→Shared→Prop}(I:Inv X pins σ H s)(hN:X.N.Nodup)(hi:X.N[i]?=some x)(hx:Loc X.env.scope x)(r:RelV v u)
  (h:∀s',Inv X pins (σ.set i (some v)) H s'→Q () s') (hf:X.fn x=true∨X.env.scope.names.lookup x=some .local:=by first | exact .inl rfl | exact .inr rfl | assumption):wpAny M A (storeName X.env x u) Q E s :=
 Yi I hN hi hx r (λs' I' _=>h s' I') hf
theorem Inv.call'{s':Shared}{ch:List Addr}(I:Inv X pins σ H s)(ho:s'.os=s.os)(u:Un (frs X.stack) ch H H' s.heap s'.heap)(hok:HOk X.prog X.w H' s'.heap)(hg:AllBare s'.gens)
  (hch:∀b∈ch,(b∈X.ex∨X.s₀.heap.objs.size≤b)∧b≠X.env.locals∧(∀x c,X.env.cells.lookup x=some c→c≠b)∧∀p∈X.pn ++ pins,p.1≠b):Inv X pins σ H' s':=by
 obtain⟨h',g',d',t',o'⟩:=s';have e:o'=s.os:=ho;subst e;exact I.call (g':=g') (t':=t') (d':=d') u hok hg hch
end
abbrev XK:=Value→Option Addr→Hp→Prop
abbrev St:=List (Option V)
abbrev VK:=V→Hp→Prop
abbrev TE:=St→Hp→VK→Prop
abbrev TT:=St→Hp→(Bool→Hp→Prop)→Prop
abbrev TA:=St→Hp→(List V→Hp→Prop)→Prop
structure Ends where
 nx:St→Hp→Prop
 rt:VK
 bk:St→Hp→Prop:=λ_ _=>False
 ct:St→Hp→Prop:=λ_ _=>False
abbrev TS:=Ends→St→Hp→Prop
def EP(X:Cx)(pins:AL)(σ:St)(Q:VK)(u:Value)(s':Shared):Prop:=∃v H',Inv X pins σ H' s'∧RelV v u∧Q v H'
def TP(X:Cx)(pins:AL)(σ:St)(Q:Bool→Hp→Prop)(b:Bool)(s':Shared):Prop:=∃H',Inv X pins σ H' s'∧Q b H'
def AP(X:Cx)(pins:AL)(σ:St)(Q:List V→Hp→Prop)(us:AK)(s':Shared):Prop:=∃vs H',Inv X pins σ H' s'∧Vals vs us∧Q vs H'
def SP(X:Cx)(pins:AL)(D:Ends)(f:Flow)(s':Shared):Prop :=
 match f with
 | .next=>∃σ' H',Inv X pins σ' H' s'∧D.nx σ' H'
 | .brk=>∃σ' H',Inv X pins σ' H' s'∧D.bk σ' H'
 | .cont=>∃σ' H',Inv X pins σ' H' s'∧D.ct σ' H'
 | .ret u=>∃v σ' H',Inv X pins σ' H' s'∧RelV v u∧D.rt v H'
def PE(X:Cx)(e:Expr)(t:TE):Prop :=
 ∀(pins:AL) (s:Shared) (σ:St) (H:Hp) (Q:VK),Inv X pins σ H s→t σ H Q→wpAny (model X.prog X.w) X.A (eval e X.env) (EP X pins σ Q) X.xe s
def PT(X:Cx)(e:Expr)(t:TT):Prop :=
 ∀(pins:AL) (s:Shared) (σ:St) (H:Hp) (Q:Bool→Hp→Prop),Inv X pins σ H s→t σ H Q→wpAny (model X.prog X.w) X.A (isTrue e X.env (eval e X.env)) (TP X pins σ Q) X.xe s
def PW(X:Cx)(e:Expr)(t:TT):Prop :=
 ∀(whole:Sem Value) (pins:AL) (s:Shared) (σ:St) (H:Hp) (Q:Bool→Hp→Prop),Inv X pins σ H s→t σ H Q→wpAny (model X.prog X.w) X.A (isTrue e X.env whole) (TP X pins σ Q) X.xe s
theorem PW.pt{X:Cx}{e:Expr}{t:TT}(h:PW X e t):PT X e t:=h _
def PA(X:Cx)(es:List Expr)(t:TA):Prop :=
 ∀(pos:Pos) (pins:AL) (s:Shared) (σ:St) (H:Hp) (Q:List V→Hp→Prop),Inv X pins σ H s→t σ H Q→wpAny (model X.prog X.w) X.A (spliced (backTo pos (starEach es X.env))) (AP X pins σ Q) X.xe s
def PS(X:Cx)(st:Stmt)(t:TS):Prop :=
 ∀(pins:AL) (s:Shared) (σ:St) (H:Hp) (D:Ends),Inv X pins σ H s→t D σ H→wpAny (model X.prog X.w) X.A (exec st X.env) (SP X pins D) X.xe s
def PSs(X:Cx)(st:List Stmt)(t:TS):Prop :=
 ∀(pins:AL) (s:Shared) (σ:St) (H:Hp) (D:Ends),Inv X pins σ H s→t D σ H→wpAny (model X.prog X.w) X.A (execs st X.env) (SP X pins D) X.xe s
theorem thn{α:Type}{t:Sem α}{Q Q':α→Shared→Prop}{M:Model}{A:Around}{E:AN}{s:Shared}(h:wpAny M A t Q E s)(hQ:∀a s,Q a s→Q' a s):wpAny M A t Q' E s:=wpAny_mono h hQ λ_ _ x=>x
section
variable {X:Cx}
def tVar(i:Nat):TE:=λσ H Q=>∃v,σ[i]?=some (some v)∧Q v H
def tC(v:V):TE:=λ_ H Q=>Q v H
theorem Vs{i:Nat}{x:Str}{pos:Pos}(hN:X.N[i]?=some x)(hv:Vis X.env.scope x)(hd:(x == ("__debug__" : Str))=false:=by decide)(hcd:(x == ("__classdict__" : Str))=false:=by decide):PE X (.Name x pos) (tVar i):=by
 intro pins s σ H Q I h;obtain⟨v,e,h⟩:=h;obtain⟨m,hn,hl⟩:=I.loc;obtain⟨u,r,l⟩:=hl i x v hN e hv;have fin:EP X pins σ Q u s:=⟨v,H,I,r,h⟩
 rcases l with⟨hk,hm⟩ | ⟨hk,c,hc,hcell⟩
 ·exact wpAny_Name (wpAny_loadName_local I.ok.kind hk hn hm fin) hd
 ·rcases hk with hk | hk
  ·exact wpAny_Name (wpAny_loadName_cell I.ok.kind hk hc hcell fin) hd
  ·exact wpAny_Name (wpAny_loadName_free I.ok.kind hk hc hcell fin hcd) hd
theorem zf{i j pos}:PE X (.Constant (.int i) j pos) (tC (.int i)):=λ_ _ _ H _ I h=>wpAny_Constant_int ⟨.int i,H,I.tok _,⟨_,rfl⟩,h⟩
theorem uN{b j pos}:PE X (.Constant (.bool b) j pos) (tC (.bl b)):=λ_ _ _ H _ I h=>Constant_bool ⟨.bl b,H,I,rfl,h⟩
theorem tu{j pos}:PE X (.Constant .none j pos) (tC .non):=λ_ _ _ H _ I h=>Constant_none ⟨.non,H,I,rfl,h⟩
def Gl(X:Cx)(x:Str):Prop:=X.env.kindOf x=some .globalImplicit
theorem XH{E:AN}{pins:AL}{s:Shared}{σ:St}{H:Hp}{x:Str}{u:Value}{pos:Pos}{Q:AN}(I:Inv X pins σ H s)(hg:Gl X x)(hm:X.mg x=some u)(h:Q u s)
  (hd:(x == ("__debug__" : Str))=false:=by decide):wpAny (model X.prog X.w) X.A (eval (.Name x pos) X.env) Q E s :=
 Calls.Name_function_global I.ok.kind hg (Calls.loadGlobal_global (by rw[I.ok.glob]; exact I.mod.glob.keeps I.bk) hm h) hd
theorem ut{E:AN}{pins:AL}{s:Shared}{σ:St}{H:Hp}{x:Str}{u:Value}{pos:Pos}{Q:AN}(I:Inv X pins σ H s)(hg:Gl X x)(hm:X.mg x=none)(hv:bootBuiltins x=some u)(h:Q u s)
  (hn:x ≠ "__name__" := by decide) (hd:(x == ("__debug__" : Str))=false:=by decide):wpAny (model X.prog X.w) X.A (eval (.Name x pos) X.env) Q E s:=by
 obtain⟨mb,h1,h2⟩:=I.mod.blt;exact Calls.Name_function_global I.ok.kind hg (Calls.loadGlobal_builtin (by rw[I.ok.glob]; exact I.mod.glob.keeps I.bk) hm (by rw[I.ok.blt]; exact h1.keeps I.bk) ((h2 x hn).trans hv) h) hd
theorem zbX{x:Str}{v:V}{u:Value}{pos:Pos}(hg:Gl X x)(hm:X.mg x=some u)(r:RelV v u)(hd:(x == ("__debug__" : Str))=false:=by decide):PE X (.Name x pos) (tC v) :=
 λ_ _ _ H _ I h=>XH I hg hm ⟨v,H,I,r,h⟩ hd
theorem t9{x:Str}{v:V}{u:Value}{pos:Pos}(hg:Gl X x)(hm:X.mg x=none)(hv:bootBuiltins x=some u)(r:RelV v u)(hn:x ≠ "__name__" := by decide)(hd:(x == ("__debug__" : Str))=false:=by decide):PE X (.Name x pos) (tC v) :=
 λ_ _ _ H _ I h=>ut I hg hm hv ⟨v,H,I,r,h⟩ hn hd
variable {a b:Expr}{ta tb:TE}{pos:Pos}
def PC(X:Cx)(op:CmpOp)(a b:Expr)(t:TE):Prop :=
 ∀(pins:AL) (s:Shared) (σ:St) (H:Hp) (Q:VK),Inv X pins σ H s→t σ H Q→
  wpAny (model X.prog X.w) X.A (eval a X.env) (λv s₁=>wpAny (model X.prog X.w) X.A (eval b X.env) (λu s₂=>wpAny (model X.prog X.w) X.A (compareOp op v u) (EP X pins σ Q) X.xe s₂) X.xe s₁) X.xe s
def tB(t:TE):TT:=λσ H Q=>t σ H λx H1=>∃c,x=.bl c∧Q c H1
theorem QS{op:CmpOp}{t:TE}(h:PC X op a b t)(h1:behindInMarks op b=false:=by first | exact nobehind _ #[2] #[2] | rfl):PT X (.Compare a [op] [b] pos) (tB t):=by
 intro pins s σ H Q I hw;refine wpAny_isTrue_Compare1 (thn (h pins s σ H _ I hw) λv s1 h1=>thn h1 λu s2 h2=>thn h2 λc s3 ⟨x,H1,I1,r1,q1⟩=>?_) h1;obtain⟨d,rfl,q⟩:=q1;cases r1;exact wpAny_truthy_bool ⟨H1,I1,q⟩
theorem wt{e:Expr}{t:TE}(h:PE X e t)(he:∀whole,isTrue e X.env whole=(do let v←whole; standAt e.pos; holding [v] (truthy v)):=by intro _; rfl):PT X e (tB t):=by
 intro pins s σ H Q I hw;refine isTrue_plain (thn (h pins s σ H _ I hw) λv s1 ⟨x,H1,I1,r1,q1⟩=>?_) (he _);obtain⟨d,rfl,q⟩:=q1;cases r1;exact wpAny_truthy_bool ⟨H1,I1,q⟩
variable {tA tB':TT}{rest:List Expr}
def tAnd(t u:TT):TT:=λσ H Q=>t σ H λc H1=>if c=true then u σ H1 Q else Q false H1
def tOr(t u:TT):TT:=λσ H Q=>t σ H λc H1=>if c=true then Q true H1 else u σ H1 Q
def tNot(t:TT):TT:=λσ H Q=>t σ H λc H1=>Q (!c) H1
theorem uI(ha:PT X a tA):PW X (.BoolOp .And [a] pos) tA:=by
 intro wh pins s σ H Q I h;refine isTrue_and (thn (ha pins s σ H Q I h) λc s1 e=>?_);cases c with
 | true=>exact isTrue_and_nil e
 | false=>exact e
theorem Vq(ha:PT X a tA):PW X (.BoolOp .Or [a] pos) tA:=by
 intro wh pins s σ H Q I h;refine isTrue_or (thn (ha pins s σ H Q I h) λc s1 e=>?_);cases c with
 | false=>exact isTrue_or_nil e
 | true=>exact e
theorem u8(ha:PT X a tA)(hb:PW X (.BoolOp .And (b :: rest) pos) tB'):PW X (.BoolOp .And (a :: b :: rest) pos) (tAnd tA tB'):=by
 intro wh pins s σ H Q I h;refine isTrue_and (thn (ha pins s σ H _ I h) λc s1 ⟨H1,I1,q1⟩=>?_);cases c with
 | true=>exact hb wh pins s1 σ H1 Q I1 q1
 | false=>exact⟨H1,I1,q1⟩
theorem Uc(ha:PT X a tA)(hb:PW X (.BoolOp .Or (b :: rest) pos) tB'):PW X (.BoolOp .Or (a :: b :: rest) pos) (tOr tA tB'):=by
 intro wh pins s σ H Q I h;refine isTrue_or (thn (ha pins s σ H _ I h) λc s1 ⟨H1,I1,q1⟩=>?_);cases c with
 | true=>exact⟨H1,I1,q1⟩
 | false=>exact hb wh pins s1 σ H1 Q I1 q1
theorem uk(ha:PT X a tA):PT X (.UnaryOp .Not a pos) (tNot tA):=by
 intro pins s σ H Q I h;exact isTrue_not (ha pins s σ H (λc H1=>Q (!c) H1) I h)
def zcP(ta tb:TE):TE:=λσ H Q=>ta σ H λx H1=>∃c,x=.bl c∧if c=true then tb σ H1 Q else Q (.bl false) H1
def tOrV(ta tb:TE):TE:=λσ H Q=>ta σ H λx H1=>∃c,x=.bl c∧if c=true then Q (.bl true) H1 else tb σ H1 Q
def zcO(ta:TE):TE:=λσ H Q=>ta σ H λx H1=>∃c,x=.bl c∧Q (.bl (!c)) H1
theorem Vt{op}{t:TE}(h:PE X a t):PE X (.BoolOp op [a] pos) t:=λpins s σ H Q I hw=>BoolOp_one (h pins s σ H Q I hw)
theorem Q5(ha:PE X a ta)(hb:PE X (.BoolOp .And (b :: rest) pos) tb):PE X (.BoolOp .And (a :: b :: rest) pos) (zcP ta tb):=by
 intro pins s σ H Q I h;refine BoolOp_and (thn (ha pins s σ H _ I h) λv s1 ⟨x,H1,I1,r1,q1⟩=>?_);obtain⟨c,rfl,q1⟩:=q1;cases r1;refine wpAny_truthy_bool ?_;cases c with
 | true=>exact hb pins s1 σ H1 Q I1 q1
 | false=>exact⟨.bl false,H1,I1,rfl,q1⟩
theorem zeG(ha:PE X a ta)(hb:PE X (.BoolOp .Or (b :: rest) pos) tb):PE X (.BoolOp .Or (a :: b :: rest) pos) (tOrV ta tb):=by
 intro pins s σ H Q I h;refine BoolOp_or (thn (ha pins s σ H _ I h) λv s1 ⟨x,H1,I1,r1,q1⟩=>?_);obtain⟨c,rfl,q1⟩:=q1;cases r1;refine wpAny_truthy_bool ?_;cases c with
 | false=>exact hb pins s1 σ H1 Q I1 q1
 | true=>exact⟨.bl true,H1,I1,rfl,q1⟩
theorem zdx(ha:PE X a ta):PE X (.UnaryOp .Not a pos) (zcO ta):=by
 intro pins s σ H Q I h;refine UnaryOp_ (thn (ha pins s σ H _ I h) λv s1 ⟨x,H1,I1,r1,q1⟩=>?_);obtain⟨c,rfl,q1⟩:=q1;cases r1;exact not_of (wpAny_truthy_bool ⟨.bl (!c),H1,I1,rfl,q1⟩)
end
def SqL(K:ζc)(H:Hp)(a:Addr)(xs:List V):Prop :=
 Rd H a (.lst xs)∨
  ∃(o:Obj) (its:Array Value) (n:Nat),K.lookup a=some o∧o.cls=.type "list"∧o.dict=none∧o.data=.seq its n∧its.size≤sizeLine∧Vals xs its.toList
def SqT(K:ζc)(H:Hp)(a:Addr)(xs:List V):Prop :=
 Rd H a (.tup xs)∨
  ∃(o:Obj) (its:Array Value) (n:Nat),K.lookup a=some o∧o.cls=.type "tuple"∧o.data=.seq its n∧its.size≤sizeLine∧Vals xs its.toList
def absV:Value→Option V
 | .none=>some .non
 | .bool b=>some (.bl b)
 | .int i _=>some (.int i)
 | .str x _=>some (.str x)
 | .bytes b _=>some (.byt b)
 | .float b _=>some (.flt b)
 | .ref a=>some (.ref a)
 | .type n=>some (.ty n)
 | _=>none
theorem RelV.abs{x:V}{u:Value}(r:RelV x u):absV u=some x:=by
 cases x with
 | non=>cases r; rfl
 | bl _=>cases r; rfl
 | int _=>obtain⟨t,rfl⟩:=r; rfl
 | str _=>obtain⟨t,rfl⟩:=r; rfl
 | byt _=>obtain⟨t,rfl⟩:=r; rfl
 | flt _=>obtain⟨t,rfl⟩:=r; rfl
 | ref _=>cases r; rfl
 | ty _=>cases r; rfl
theorem RelV.inj{x y:V}{u:Value}(r:RelV x u)(q:RelV y u):x=y:=ζr (r.abs.symm.trans q.abs)
theorem Vals.inj:∀{xs ys:List V} {us:AK},Vals xs us→Vals ys us→xs=ys
 | _,_,_,.nil,.nil=>rfl
 | _,_,_,.cons r t,.cons r' t'=>by rw[r.inj r',Vals.inj t t']
section
variable {X:Cx}{pins:AL}{σ:St}{H:Hp}{s:Shared}{a:Addr}{xs ys:List V}
theorem SqL.of{K:ζc}(h:H a=some (.lst xs)):SqL K H a xs:=.inl (.inl h)
theorem SqT.of{K:ζc}(h:H a=some (.tup xs)):SqT K H a xs:=.inl (.inl h)
theorem Inv.list(I:Inv X pins σ H s)(h:SqL X.K H a xs):∃its:AK,Vals xs its∧PlainL s.heap a its.toArray∧xs.length≤sizeLine:=by
 rcases h with h | ⟨o,its,n,hk,hc,hd,hs,hz,r⟩
 ·obtain⟨z,its,n,r,e⟩:=h.ok I.hok;exact⟨its,r,⟨_,n,e,rfl,rfl,rfl⟩,z⟩
 ·refine⟨its.toList,r,⟨o,n,I.kIn a o hk,hc,hd,by simpa using hs⟩,?_⟩
  have e:=r.length;simp only[Array.length_toList]at e;omega
theorem Inv.tuple(I:Inv X pins σ H s)(h:SqT X.K H a xs):∃its:AK,Vals xs its∧IsTup s.heap a its.toArray∧xs.length≤sizeLine:=by
 rcases h with h | ⟨o,its,n,hk,hc,hs,hz,r⟩
 ·obtain⟨z,its,r,p⟩:=h.ok I.hok;exact⟨its,r,p,z⟩
 ·refine⟨its.toList,r,⟨o,I.kIn a o hk,hc,n,by simpa using hs⟩,?_⟩
  have e:=r.length;simp only[Array.length_toList]at e;omega
theorem Inv.list_inj(I:Inv X pins σ H s)(h:SqL X.K H a xs)(h':SqL X.K H a ys):xs=ys:=by
 obtain⟨its,r,⟨o,n,e,_,_,d⟩,_⟩:=I.list h;obtain⟨its',r',⟨o',n',e',_,_,d'⟩,_⟩:=I.list h';rw[e]at e'; cases e';rw[d]at d';injection d' with d1 _;have:its=its':=by simpa using congrArg Array.toList d1
 subst this;exact r.inj r'
end
abbrev Cx.wish(X:Cx)(E:AN):Cx:={ X with xe:=E }
abbrev Cx.nox(X:Cx):Cx:=X.wish λ_ _=>False
theorem Cx.Ok.wish{X:Cx}(ok:X.Ok)(E:AN):(X.wish E).Ok :=
 ⟨ok.mod,ok.kind,ok.glob,ok.blt,ok.above,ok.inj,ok.has,ok.cab,ok.hd,ok.frames,ok.stk,ok.exf,ok.bs,ok.bsz,ok.noex,ok.exfs,ok.funs,ok.frf,ok.tb⟩
theorem Cx.Ok.unwish{X:Cx}{E:AN}(ok:(X.wish E).Ok):X.Ok :=
 ⟨ok.mod,ok.kind,ok.glob,ok.blt,ok.above,ok.inj,ok.has,ok.cab,ok.hd,ok.frames,ok.stk,ok.exf,ok.bs,ok.bsz,ok.noex,ok.exfs,ok.funs,ok.frf,ok.tb⟩
section
variable {X:Cx}{pins:AL}{σ:St}{H:Hp}{s:Shared}{E:AN}
theorem Inv.wish(I:Inv X pins σ H s)(E:AN):Inv (X.wish E) pins σ H s:=⟨I.ok.wish E,I.os,I.bare,I.base,I.loc,I.cell,I.free,I.freeC,I.pin,I.hok,I.len⟩
theorem Inv.unwish(I:Inv (X.wish E) pins σ H s):Inv X pins σ H s:=⟨I.ok.unwish,I.os,I.bare,I.base,I.loc,I.cell,I.free,I.freeC,I.pin,I.hok,I.len⟩
theorem SP.unwish{D:Ends}{f:Flow}{s':Shared}(h:SP (X.wish E) pins D f s'):SP X pins D f s':=by
 cases f with
 | next=>obtain⟨σ',H',I,q⟩:=h; exact⟨σ',H',I.unwish,q⟩
 | brk=>obtain⟨σ',H',I,q⟩:=h; exact⟨σ',H',I.unwish,q⟩
 | cont=>obtain⟨σ',H',I,q⟩:=h; exact⟨σ',H',I.unwish,q⟩
 | ret u=>obtain⟨v,σ',H',I,r,q⟩:=h; exact⟨v,σ',H',I.unwish,r,q⟩
theorem PSs.nox{st:List Stmt}{t:TS}(h:PSs X.nox st t):PSs X st t:=λpins s σ H D I hw =>
 wpAny_mono (h pins s σ H D (I.wish _) hw) (λ_ _ q=>q.unwish) λ_ _ z=>False.elim z
end
section
variable {X:Cx}{st:Stmt}{rest:List Stmt}{t u:TS}{e:Expr}{te:TE}{pos:Pos}
def Wa:TS:=λD σ H=>D.nx σ H
def tSeq(t u:TS):TS:=λD σ H=>t { D with nx:=u D } σ H
theorem zY:PSs X [] Wa:=λ_ _ σ H _ I h=>wpAny_execs_nil ⟨σ,H,I,h⟩
theorem ze(h1:PS X st t)(h2:PSs X rest u):PSs X (st :: rest) (tSeq t u):=by
 intro pins s σ H D I h;refine wpAny_execs_cons (thn (h1 pins s σ H { D with nx:=u D } I h) λf s1 q=>?_);cases f with
 | next =>
  obtain⟨σ',H',I',q⟩:=q;exact h2 pins s1 σ' H' D I' q
 | ret v=>exact q
 | brk=>exact q
 | cont=>exact q
theorem zg(h1:PS X st t):PSs X [st] t:=by
 intro pins s σ H D I h;refine wpAny_execs_cons (thn (h1 pins s σ H D I h) λf s1 q=>?_);cases f with
 | next=>exact wpAny_execs_nil q
 | ret v=>exact q
 | brk=>exact q
 | cont=>exact q
theorem Inv.quiet{pins:AL}{σ:St}{H:Hp}{s:Shared}(I:Inv X pins σ H s):interactive X.env=false:=by simp[interactive,I.ok.kind]
def xX(te:TE):TS:=λD σ H=>te σ H λ_ H1=>D.nx σ H1
theorem yc(he:PE X e te)(hs:swapsWith e none pos.line X.env=pure false:=by rfl):PS X (.Expr e pos) (xX te):=by
 intro pins s σ H D I h;exact wpAny_Expr_any (thn (he pins s σ H _ I h) λv s1 ⟨x,H1,I1,r1,q1⟩=>⟨σ,H1,I1,q1⟩) I.quiet hs
def tRet(te:TE):TS:=λD σ H=>te σ H D.rt
theorem zE(he:PE X e te):PS X (.Return (some e) pos) (tRet te):=by
 intro pins s σ H D I h;exact wpAny_Return_some (thn (he pins s σ H _ I h) λv s1 ⟨x,H1,I1,r1,q1⟩=>⟨x,σ,H1,I1,r1,q1⟩)
def tIfS(c:TT)(t u:TS):TS:=λD σ H=>c σ H λb H1=>if b=true then t D σ H1 else u D σ H1
theorem yK{c:Expr}{a b:List Stmt}{tc:TT}(hc:PT X c tc)(ha:PSs X a t)(hb:PSs X b u):PS X (.If c a b pos) (tIfS tc t u):=by
 intro pins s σ H D I h;refine wpAny_If (thn (hc pins s σ H _ I h) λd s1 ⟨H1,I1,q1⟩=>?_);cases d with
 | true=>exact ha pins s1 σ H1 D I1 q1
 | false=>exact hb pins s1 σ H1 D I1 q1
def zdf:TS:=λ_ _ _=>False
theorem Zv:PS X st zdf:=λ_ _ _ _ _ _ h=>h.elim
end
abbrev TG:=V→St→Hp→(St→Hp→Prop)→Prop
abbrev TGs:=List V→St→Hp→(St→Hp→Prop)→Prop
def PG(X:Cx)(target:Expr)(t:TG):Prop :=
 ∀(pins:AL) (s:Shared) (σ:St) (H:Hp) (v:V) (u:Value) (Q:St→Hp→Prop),Inv X pins σ H s→RelV v u→t v σ H Q→
  wpAny (model X.prog X.w) X.A (assign target X.env u) (λ_ s'=>∃σ' H',Inv X pins σ' H' s'∧Q σ' H') X.xe s
def PGs(X:Cx)(ts:List Expr)(t:TGs):Prop :=
 ∀(pins:AL) (s:Shared) (σ:St) (H:Hp) (vs:List V) (us:AK) (Q:St→Hp→Prop),Inv X pins σ H s→Vals vs us→t vs σ H Q→
  wpAny (model X.prog X.w) X.A (assignInOrder ((assignEach ts X.env).map (·.2)) us) (λ_ s'=>∃σ' H',Inv X pins σ' H' s'∧Q σ' H') X.xe s
abbrev TSet:=V→V→V→Hp→(Hp→Prop)→Prop
def PSet(X:Cx)(t:TSet):Prop :=
 ∀(pins:AL) (s:Shared) (σ:St) (H:Hp) (o i v:V) (ov iv u:Value) (Q:Hp→Prop),Inv X pins σ H s→RelV o ov→RelV i iv→RelV v u→t o i v H Q→
  wpAny (model X.prog X.w) X.A (setItem ov iv u) (λ_ s'=>∃H',Inv X pins σ H' s'∧Q H') X.xe s
section
variable {X:Cx}{pos:Pos}
def yJ(i:Nat):TG:=λv σ H Q=>Q (σ.set i (some v)) H
theorem zbW{i:Nat}{x:Str}(hN:X.N.Nodup)(hi:X.N[i]?=some x)(hx:Loc X.env.scope x)(hf:X.fn x=true∨X.env.scope.names.lookup x=some .local:=by first | exact .inl rfl | exact .inr rfl | assumption):PG X (.Name x pos) (yJ i):=by
 intro pins s σ H v u Q I r h;exact wpAny_assign_Name (Wb I hN hi hx r (λs' I'=>⟨_,H,I',h⟩) hf)
def gNil:TGs:=λvs σ H Q=>vs=[]∧Q σ H
def tV(t:TG)(u:TGs):TGs:=λvs σ H Q=>∃v r,vs=v :: r∧t v σ H λσ' H'=>u r σ' H' Q
theorem xJ:PGs X [] gNil:=by
 intro pins s σ H vs us Q I r h;obtain⟨e,h⟩:=h;subst e;cases r;exact assignInOrder_nil ⟨σ,H,I,h⟩
theorem yd{e:Expr}{es:List Expr}{t:TG}{u:TGs}(h1:PG X e t)(h2:PGs X es u)
  (hs:(assignEach (e :: es) X.env).map (·.2)=assign e X.env :: (assignEach es X.env).map (·.2):=by rfl):PGs X (e :: es) (tV t u):=by
 intro pins s σ H vs us Q I r h;obtain⟨v,vr,e1,h⟩:=h;subst e1;cases r with
 | cons r rr =>
  rw[hs];refine assignInOrder_cons (thn (h1 pins s σ H _ _ _ I r h) λ_ s1 ⟨σ1,H1,I1,q1⟩=>?_);exact h2 pins s1 σ1 H1 _ _ Q I1 rr q1
def gTup(K:ζc)(n:Nat)(t:TGs):TG:=λv σ H Q=>∃a xs,v=.ref a∧SqT K H a xs∧xs.length=n∧t xs σ H Q
theorem zdw{es:List Expr}{k:Nat}{t:TGs}{n:Nat}(hc:X.calm=true)(h:PGs X es t)
  (hn:(assignEach es X.env).length=n:=by rfl) (hst:(assignEach es X.env).findIdx? (·.1)=none:=by rfl):PG X (.Tuple es k pos) (gTup X.K n t):=by
 intro pins s σ H v u Q I r hw;obtain⟨a,xs,e1,hq,hl,hw⟩:=hw;subst e1;cases r;obtain⟨its,rv,ht,hz⟩:=I.tuple hq;refine assign_Tuple_tuple (I.ok.hd hc) ht (by simp[hn,←hl,rv.length]) hst λh' hx=>?_;have I1:Inv X pins σ H { s with heap:=h' }:=I.kept (t':=s.toks) λb o e=>hx b o (ζQ (ζq e)) e;exact h pins _ σ H xs _ Q I1 (by simpa using rv) hw
def gSub(to ti:TE)(t:TSet):TG:=λv σ H Q=>to σ H λo H1=>ti σ H1 λi H2=>t o i v H2 λH3=>Q σ H3
theorem Xn{o i:Expr}{to ti:TE}{t:TSet}(ho:PE X o to)(hi:PE X i ti)(hs:PSet X t)
  (ha:∀v,assign (.Subscript o i pos) X.env v=(do
   let ov←holding [v] (eval o X.env);let iv←holding [v,ov] (eval i X.env)
   standAt pos
   holding [v,ov,iv] (setItem ov iv v)
   release [v,ov,iv] []):=by intro _; rfl):PG X (.Subscript o i pos) (gSub to ti t):=by
 intro pins s σ H v u Q I r h;rw[ha];refine AA (wpAny_holding (thn (ho pins s σ H _ I h) λov s1 ⟨x,H1,I1,r1,q1⟩=>?_));refine AA (wpAny_holding (thn (hi pins s1 σ H1 _ I1 q1) λiv s2 ⟨y,H2,I2,r2,q2⟩=>?_));refine AA (wpAny_standAt (AA (wpAny_holding (thn (hs pins s2 σ H2 x y v ov iv u _ I2 r1 r2 r q2) λ_ s3 ⟨H3,I3,q3⟩=>?_))));exact wpAny_release ⟨σ,H3,I3,q3⟩
def tAsg(te:TE)(g:TG):TS:=λD σ H=>te σ H λx H1=>g x σ H1 D.nx
theorem Zw{tg e:Expr}{te:TE}{g:TG}(he:PE X e te)(hg:PG X tg g)(hs:swapsWithSole [tg] e pos.line X.env=pure false:=by rfl)(hw:swappedStores [tg] e X.env=pure none:=by rfl)
  (h1:(assignEach [tg] X.env).map (·.2)=[assign tg X.env]:=by rfl):PS X (.Assign [tg] e pos) (tAsg te g):=by
 intro pins s σ H D I h;refine wpAny_Assign_stores (thn (he pins s σ H _ I h) λv s1 ⟨x,H1,I1,r1,q1⟩=>?_) hs hw;rw[h1];exact thn (hg pins s1 σ H1 x v _ I1 r1 q1) λ_ s2 q=>q
theorem zdq{i:Nat}{x:Str}{e:Expr}{te:TE}{pos':Pos}(hN:X.N.Nodup)(hi:X.N[i]?=some x)(hx:Loc X.env.scope x)(he:PE X e te)(hs:swapsWith e (some (.Name x pos')) pos.line X.env=pure false:=by rfl)(hf:X.fn x=true∨X.env.scope.names.lookup x=some .local:=by first | exact .inl rfl | exact .inr rfl | assumption):
  PS X (.Assign [.Name x pos'] e pos) (tAsg te (yJ i)):=by
 intro pins s σ H D I h;refine wpAny_Assign_Name (thn (he pins s σ H _ I h) λv s1 ⟨y,H1,I1,r1,q1⟩=>?_) hs;exact Wb I1 hN hi hx r1 (λs2 I2=>⟨_,H1,I2,q1⟩) hf
def Qn(c:TT)(tb:TS):TS:=λD σ H=>∃W:Nat→St→Hp→Prop,(∃m,W m σ H)∧∀m σ H,W m σ H→
 c σ H λb H1=>if b=true then∃N:St→Hp→Prop,(∀σ' H',N σ' H'→∃m',m' < m∧W m' σ' H')∧tb { D with nx:=N,ct:=N,bk:=D.nx } σ H1 else D.nx σ H1
theorem wB{c:Expr}{body:List Stmt}{tc:TT}{tb:TS}(hp:PassesOwn (model X.prog X.w) X.A X.env X.xe)(hc:PT X c tc)(hb:PSs X body tb):PS X (.While c body [] pos) (Qn tc tb):=by
 intro pins s σ H D I h;obtain⟨W,⟨m0,w0⟩,turn⟩:=h;refine wpAny_While (codeAny_whileLoop (λn s'=>∃σ' H',Inv X pins σ' H' s'∧W n σ' H') ?_ m0 ⟨σ,H,I,w0⟩);rintro n s1 ⟨σ1,H1,I1,w1⟩;refine wpAny_passesOwn hp (thn (hc pins s1 σ1 H1 _ I1 (turn n σ1 H1 w1)) λb s2 ⟨H2,I2,q2⟩=>?_);cases b with
 | true =>
  obtain⟨N,hN,q2⟩:=q2;rw[if_pos rfl];refine wpAny_passesOwn hp (thn (hb pins s2 σ1 H2 _ I2 q2) λf s3 q3=>?_);cases f with
  | next =>
   obtain⟨σ3,H3,I3,n3⟩:=q3;obtain⟨m',hm,w3⟩:=hN σ3 H3 n3;exact⟨m',hm,σ3,H3,I3,w3⟩
  | cont =>
   obtain⟨σ3,H3,I3,n3⟩:=q3;obtain⟨m',hm,w3⟩:=hN σ3 H3 n3;exact⟨m',hm,σ3,H3,I3,w3⟩
  | brk=>exact q3
  | ret v=>exact q3
 | false =>
  rw[if_neg ζD];exact wpAny_execs_nil ⟨σ1,H2,I2,q2⟩
end
structure It where
 go:Nat→Hp→Prop
 yld:Nat→Hp→V→Hp→Prop
 stop:Nat→Hp→Prop
def FpOk(X:Cx)(pins:AL)(H:Hp)(b:Addr):Prop :=
 H b=none∧b≠X.env.locals∧b∉X.fs∧(b∈X.ex∨X.s₀.heap.objs.size≤b)∧(∀x c,X.env.cells.lookup x=some c→c≠b)∧∀p∈X.pn ++ pins,p.1≠b
theorem Inv.fpOk{X:Cx}{pins:AL}{σ:St}{H H':Hp}{s:Shared}{b:Addr}(I:Inv X pins σ H s)(hb:s.heap.objs.size≤b)(hn:H' b=none):FpOk X pins H' b:=by
 refine⟨hn,ξA (ζH I.lt hb),I.nofs hb,.inr (ζ8 I.sz hb),λx c e z=>?_,λp hp z=>?_⟩
 ·obtain⟨v,q⟩:=I.cell x c e;exact absurd (ζH q.lt (by rw[z]; exact hb)) (ξk _)
 ·exact absurd (ζH (ζq (I.pin p hp).1) (by rw[z]; exact hb)) (ξk _)
structure Turn(P:Program)(w:World)(K:ζc)(tg:Expr)(J:It)(fp:List Addr)(it:Addr)(tn:Nat→Heap→Prop):Prop where
 mem:it∈fp
 obj:∀i h,tn i h→∀b∈fp,∃o,h.get? b=some o∧∀v,o.data≠.cell v
 keep:∀i h h',tn i h→(∀b∈fp,∀o,h.get? b=some o→h'.get? b=some o)→tn i h'
 item:∀(X:Cx),X.prog=P→X.w=w→X.K=K→X.calm=true→∀(i:Nat) (pins:AL) (s:Shared) (σ:St) (H:Hp) (E:AN),Inv X pins σ H s→(∀b∈fp,FpOk X pins H b)→tn i s.heap→J.go i H→
  wpAny (model P w) X.A (pyNext (.ref it)) (λr s1=>∃u,r=some u∧
   wpAny (model P w) X.A (letOwnedTupleGo tg (.ref it) u) (λ_ s2=>∃x H',Inv X pins σ H' s2∧RelV x u∧J.yld i H x H'∧tn (i + 1) s2.heap∧∀b∈fp,H' b=none) E s1) E s
 done:∀(X:Cx),X.prog=P→X.w=w→X.K=K→X.calm=true→∀(i:Nat) (pins:AL) (s:Shared) (σ:St) (H:Hp) (E:AN),Inv X pins σ H s→(∀b∈fp,FpOk X pins H b)→tn i s.heap→J.stop i H→
  wpAny (model P w) X.A (pyNext (.ref it)) (λr s1=>r=none∧Inv X pins σ H s1) E s
 self:∀(A:Around) (i:Nat) (s:Shared) (Q:AN) (E:AN),tn i s.heap→Q (.ref it) s→wpAny (model P w) A (pyIter (.ref it)) Q E s
abbrev TI:=St→Hp→(It→Hp→Prop)→Prop
def PIE(X:Cx)(pins:AL)(σ:St)(tg:Expr)(R:It→Hp→Prop)(itv:Value)(s2:Shared):Prop :=
 ∃(it:Addr) (fp:List Addr) (tn:Nat→Heap→Prop) (J:It) (H':Hp),itv=.ref it∧Inv X pins σ H' s2∧Turn X.prog X.w X.K tg J fp it tn∧tn 0 s2.heap∧(∀b∈fp,FpOk X pins H' b)∧R J H'
def PI(X:Cx)(tg iter:Expr)(wi:TI):Prop :=
 ∀(pins:AL) (s:Shared) (σ:St) (H:Hp) (R:It→Hp→Prop),Inv X pins σ H s→wi σ H R→
  wpAny (model X.prog X.w) X.A (eval iter X.env) (λv s1=>wpAny (model X.prog X.w) X.A (pyIter v) (PIE X pins σ tg R) X.xe s1) X.xe s
theorem zax{M:Model}{A:Around}{E:AN}{s:Shared}{tg:Expr}{it:Addr}{u:Value}{o:Obj}{n:String}{vs:Array Value}{Q:Unit→Shared→Prop}(ho:s.heap.get? it=some o)(hc:o.cls=.type n)(hd:o.data=.fields vs)
  (hn:["enumerate","zip","dict_itemiterator","dict_reverseitemiterator","odict_iterator","itertools.zip_longest","itertools.pairwise"].contains n=false) (hQ:Q () s):wpAny M A (letOwnedTupleGo tg (.ref it) u) Q E s:=by
 unfold letOwnedTupleGo
 cases tg <;> first
  | exact AB hQ
  | (cases u <;> first
    | exact AB hQ
    | (refine AA (wpAny_load ho ?_)
       rw[hc,hd];show wpAny M A (if(["enumerate","zip","dict_itemiterator","dict_reverseitemiterator","odict_iterator","itertools.zip_longest","itertools.pairwise"].contains n && vs[0]? == some (rawInt _))=true then _ else _) Q E s;rw[if_neg (by intro h; rw[hn,Bool.false_and]at h; cases h)];exact AB hQ))
def Itl(K:ζc)(a:Addr):It :=
 ⟨λi H=>∃xs x,SqL K H a xs∧xs[i]?=some x,λi H x H'=>H'=H∧∀xs,SqL K H a xs→xs[i]?=some x,λi H=>∃xs,SqL K H a xs∧xs.length≤i⟩
def Itr(lo:Int)(n:Nat):It:=⟨λi _=>i < n,λi H x H'=>H'=H∧x=.int (lo + i),λi _=>n≤i⟩
theorem UY{P:Program}{w:World}{K:ζc}{tg:Expr}(a it:Addr):Turn P w K tg (Itl K a) [it] it (λi h=>h.IsListIter it a i) where
 mem:=by simp
 obj:=λi h st b hb=>by
  have e:b=it:=by simpa using hb
  subst e;obtain⟨o,e,c,d⟩:=st;exact⟨o,e,λv z=>by rw[d]at z; cases z⟩
 keep:=λi h h' st k=>st.at λo e=>k it (by simp) o e
 item:=by
  intro X hP hw hK hc i pins s σ H E I hf st hg;subst hP hw hK;obtain⟨xs,x,hq,hx⟩:=hg;obtain⟨its,rv,p,hz⟩:=I.list hq;obtain⟨u,hu,ru⟩:=rv.get hx;obtain⟨f0,f1,f2,f3,f4,f5⟩:=hf it (by simp);refine wpAny_pyNext_list_item st p.isList (x:=u) (by simpa using hu) λh' st' sb=>?_;have I1:Inv X pins σ H { s with heap:=h' }:=I.turned (t':=s.toks) (λb o hb e=>(sb.2 b hb).trans e) f0 f1 f3 f4 f5;obtain⟨o,e,c,d⟩:=id st';exact⟨u,rfl,zax (s:={ s with heap:=h' }) e c d #[2] ⟨x,H,I1,ru,⟨rfl,λys hy=>by rw[I.list_inj hy hq]; exact hx⟩,st',λb hb=>(hf b hb).1⟩⟩
 done:=by
  intro X hP hw hK hc i pins s σ H E I hf st hg;subst hP hw hK;obtain⟨xs,hq,hx⟩:=hg;obtain⟨its,rv,p,hz⟩:=I.list hq;obtain⟨f0,f1,f2,f3,f4,f5⟩:=hf it (by simp);have hl:=rv.length;exact wpAny_pyNext_list_end (I.ok.hd hc) st p.isList (by simp; omega) λh' eb=>⟨rfl,I.turned (t':=s.toks) (λb o hb e=>eb b o hb e) f0 f1 f3 f4 f5⟩
 self:=λ_ _ _ _ _ st h=>wpAny_pyIter_listiter st h
theorem Ve{P:Program}{w:World}{K:ζc}{tg:Expr}(it:Addr)(lo:Int)(n:Nat):Turn P w K tg (Itr lo n) [it] it (λi h=>IsRangeIter h it (lo + (i:Nat) * 1) ((n:Int) - (i:Nat)) 1) where
 mem:=by simp
 obj:=λi h st b hb=>by
  have e:b=it:=by simpa using hb
  subst e;exact⟨_,st,λv z=>by
   have z':Data.fields _=Data.cell v:=z;cases z'⟩
 keep:=λi h h' st k=>k it (by simp) _ st
 item:=by
  intro X hP hw hK hc i pins s σ H E I hf st hg;subst hP hw hK;obtain⟨f0,f1,f2,f3,f4,f5⟩:=hf it (by simp);have W:=Walks.range (prog:=X.prog) (w:=X.w) (I.ok.hd hc) it lo 1 n;refine W.item i s _ _ hg st λv h' tk hv st' kk=>?_;obtain⟨t,rfl⟩:=hv;have I1:Inv X pins σ H { s with heap:=h',toks:=tk }:=I.turned (λb o hb e=>kk b o (by simpa using hb) e) f0 f1 f3 f4 f5;refine⟨_,rfl,zax (s:={ s with heap:=h',toks:=tk }) (n := "range_iterator") st' rfl rfl #[2] ⟨.int (lo + i),H,I1,⟨t,?_⟩,⟨rfl,rfl⟩,st',λb hb=>(hf b hb).1⟩⟩
  rw[Int.mul_one]
 done:=by
  intro X hP hw hK hc i pins s σ H E I hf st hg;subst hP hw hK;obtain⟨f0,f1,f2,f3,f4,f5⟩:=hf it (by simp);exact wpAny_pyNext_range_end (I.ok.hd hc) st (by have:n≤i:=hg; omega) λh' eb=>⟨rfl,I.turned (t':=s.toks) (λb o hb e=>eb b o hb e) f0 f1 f3 f4 f5⟩
 self:=λ_ _ _ _ _ st h=>wpAny_pyIter_rangeiter st h
section
variable {X:Cx}{tg:Expr}
def Uy(K:ζc)(tl:TE):TI:=λσ H R=>tl σ H λx H1=>∃a,x=.ref a∧(∃xs,SqL K H1 a xs)∧R (Itl K a) H1
theorem zbV{l:Expr}{tl:TE}(hl:PE X l tl):PI X tg l (Uy X.K tl):=by
 intro pins s σ H R I h;refine thn (hl pins s σ H _ I h) λv s1 ⟨x,H1,I1,r1,q1⟩=>?_;obtain⟨a,e,⟨xs,hq⟩,q⟩:=q1;subst e;cases r1;obtain⟨its,rv,p,hz⟩:=I1.list hq;refine wpAny_pyIter_list p.isList ?_;refine⟨s1.heap.objs.size,[s1.heap.objs.size],_,_,H1,rfl,I1.kept (t':=s1.toks) λb o e=>ζj _ e,UY a _,⟨_,ζL _ rfl,rfl,rfl⟩,λb hb=>?_,q⟩
 have e:b=s1.heap.objs.size:=by simpa using hb
 subst e;exact I1.fpOk (ζl _) (I1.hok.fresh (ζl _))
theorem Ws{pins:AL}{σ:St}{H:Hp}{s:Shared}{R:It→Hp→Prop}{E:AN}{lo hi:Int}{t u v:Tok}{tk:Nat}(I:Inv X pins σ H s)(h1:-(2 ^ 62)≤lo)(h2:lo < 2 ^ 62)(h3:-(2 ^ 62)≤hi)(h4:hi < 2 ^ 62)
  (q:R (Itr lo (hi - lo).toNat) H):wpAny (model X.prog X.w) X.A (pyIter (.ref s.heap.objs.size)) (PIE X pins σ tg R) E { s with heap:=s.heap.push { cls:=.type "range", data:=.fields #[.int lo t,.int hi u,.int 1 v] },toks:=tk }:=by
 refine wpAny_pyIter_range (IsRange.new ..) (small_one h1 h2 h3 h4) ?_;have I1:Inv X pins σ H { s with heap:=s.heap.push { cls:=.type "range", data:=.fields #[.int lo t,.int hi u,.int 1 v] },toks:=tk }:=I.kept λb o e=>ζj _ e
 refine⟨(s.heap.push { cls:=.type "range", data:=.fields #[.int lo t,.int hi u,.int 1 v] }).objs.size,[(s.heap.push { cls:=.type "range", data:=.fields #[.int lo t,.int hi u,.int 1 v] }).objs.size],_,_,H,rfl,
  I1.kept (t':=tk) λb o e=>ζj _ e,Ve _ lo (hi - lo).toNat,?_,λb hb=>?_,q⟩
 ·have e1:lo + ((0:Nat):Int) * 1=lo:=by simp
  have e2:(((hi - lo).toNat:Nat):Int) - ((0:Nat):Int)=Builtin.Range.rangeSize lo hi 1:=by rw[rangeSize_one]; split <;> omega
  show IsRangeIter _ _ (lo + ((0:Nat):Int) * 1) ((((hi - lo).toNat:Nat):Int) - ((0:Nat):Int)) 1;rw[e1,e2];exact ζL _ rfl
 ·have e:b=(s.heap.push { cls:=.type "range", data:=.fields #[.int lo t,.int hi u,.int 1 v] }).objs.size:=by simpa using hb
  subst e;exact I1.fpOk (ζl _) (I1.hok.fresh (ζl _))
def Ux(ta:TA):TI:=λσ H R=>ta σ H λvs H1=>∃j:Int,vs=[.int j]∧-(2 ^ 62)≤j∧j < 2 ^ 62∧R (Itr 0 j.toNat) H1
def zc3(ta:TA):TI:=λσ H R=>ta σ H λvs H1=>∃i j:Int,vs=[.int i,.int j]∧(-(2 ^ 62)≤i∧i < 2 ^ 62∧-(2 ^ 62)≤j∧j < 2 ^ 62)∧R (Itr i (j - i).toNat) H1
theorem ye{a:Expr}{ta:TA}{p pos:Pos}(hg:Gl X "range")(hm:X.mg "range" = none)(ha:PA X [a] ta)(hs:starEach [a] X.env=[(false,eval a X.env)]:=by rfl):PI X tg (.Call (.Name "range" p) [a] [] pos) (Ux ta):=by
 intro pins s σ H R I h;refine Call_ (ut I hg hm boot_range (PyProof.Rows.callWith_type1 (thn (ha pos pins s σ H _ I h) λus s1 ⟨vs,H1,I1,r1,q1⟩=>?_) hs rfl));obtain⟨j,e,q1,q2,q⟩:=q1;subst e;cases r1 with
 | cons r rr =>
  cases rr;obtain⟨t,rfl⟩:=r;exact call_range_1 (Ws I1 ⋯ ⋯ q1 q2 (by simpa using q))
theorem Td{a b:Expr}{ta:TA}{p pos:Pos}(hg:Gl X "range")(hm:X.mg "range" = none)(ha:PA X [a,b] ta)(hs:starEach [a,b] X.env=[(false,eval a X.env),(false,eval b X.env)]:=by rfl)(hs2:starEach [b] X.env=[(false,eval b X.env)]:=by rfl):
  PI X tg (.Call (.Name "range" p) [a,b] [] pos) (zc3 ta):=by
 intro pins s σ H R I h;refine Call_ (ut I hg hm boot_range (PyProof.Rows.callWith_type1 (thn (ha pos pins s σ H _ I h) λus s1 ⟨vs,H1,I1,r1,q1⟩=>?_) (by rw[hs,hs2]) (by rw[hs2]; rfl)));obtain⟨i,j,e,⟨q1,q2,q3,q4⟩,q⟩:=q1;subst e;cases r1 with
 | cons r rr =>
  cases rr with
  | cons r' rr =>
   cases rr;obtain⟨t,rfl⟩:=r;obtain⟨t',rfl⟩:=r';exact call_range_2 (Ws I1 q1 q2 q3 q4 q)
def tFor(wi:TI)(g:TG)(tb:TS):TS:=λD σ H=>wi σ H λJ H1=>∃W:Nat→Nat→St→Hp→Prop,(∃m,W 0 m σ H1)∧∀i m σ H,W i m σ H→
 (J.stop i H∧D.nx σ H)∨(J.go i H∧∃N:St→Hp→Prop,(∀σ' H',N σ' H'→∃m',m' < m∧W (i + 1) m' σ' H')∧∀x H',J.yld i H x H'→g x σ H' λσ2 H2=>tb { D with nx:=N,ct:=N,bk:=D.nx } σ2 H2)
def ZD(fp:List Addr)(h:Heap):AL:=fp.filterMap λb=>(h.get? b).map λo=>(b,o)
theorem wV{fp:List Addr}{h:Heap}{b:Addr}{o:Obj}(hb:b∈fp)(e:h.get? b=some o):(b,o)∈ZD fp h:=ξP.mpr ⟨b,hb,by rw[e]; rfl⟩
theorem Tp{fp:List Addr}{h:Heap}{p:Addr×Obj}(hp:p∈ZD fp h):p.1∈fp∧h.get? p.1=some p.2:=by
 obtain⟨b,hb,e⟩:=ξP.mp hp;cases q:h.get? b with
 | none=>rw[q]at e; cases e
 | some o =>
  rw[q]at e;have e':(b,o)=p:=ζr e;subst e';exact⟨hb,q⟩
theorem Inv.pinned{pins:AL}{σ:St}{H:Hp}{s:Shared}{fp:List Addr}(I:Inv X pins σ H s)(hf:∀b∈fp,FpOk X pins H b)(ho:∀b∈fp,∃o,s.heap.get? b=some o∧∀v,o.data≠.cell v):Inv X (pins ++ ZD fp s.heap) σ H s :=
 I.pins_of λp hp=>(ζu.mp hp).elim (λz=>I.pin p (ζJ _ z)) λz=>by
  obtain⟨hb,e⟩:=Tp z;obtain⟨f0,f1,f2,_⟩:=hf p.1 hb;obtain⟨o,e',d⟩:=ho p.1 hb;rw[e]at e'; cases e';exact⟨e,f0,f1,f2,d⟩
theorem Inv.unpinned{pins pl:AL}{σ:St}{H:Hp}{s:Shared}(I:Inv X (pins ++ pl) σ H s):Inv X pins σ H s:=I.pins_of λp hp=>I.pin p (ζJ _ (ζM _ hp))
theorem zU{iter:Expr}{body:List Stmt}{wi:TI}{g:TG}{tb:TS}{pos:Pos}(hp:PassesOwn (model X.prog X.w) X.A X.env X.xe)(hc:X.calm=true)(hi:PI X tg iter wi)(hg:PG X tg g)(hb:PSs X body tb)
  (hs:∀x,foldedSetIterable iter X.env x=pure x:=by intro _; rfl):PS X (.For tg iter body [] pos) (tFor wi g tb):=by
 intro pins s σ H D I h;refine wpAny_For (thn (hi pins s σ H _ I h) λv s1 h1=>thn h1 λitv s2 h2=>?_) hs;obtain⟨it,fp,tn,J,H2,e,I2,T,st2,f2,W,⟨m0,w0⟩,turn⟩:=h2;subst e;have stat:∀{H':Hp},(∀b∈fp,H' b=none)→∀b∈fp,FpOk X pins H' b:=λhn b hb=>⟨hn b hb,(f2 b hb).2⟩
 refine codeAny_forLoop_any (λn s'=>∃i σ' H',Inv X pins σ' H' s'∧tn i s'.heap∧(∀b∈fp,H' b=none)∧W i n σ' H') ?_ m0 ⟨0,σ,H2,I2,st2,λb hb=>(f2 b hb).1,w0⟩;rintro n s3 ⟨i,σ3,H3,I3,st3,fr3,w3⟩;rcases turn i n σ3 H3 w3 with⟨stop,qn⟩ | ⟨go,N,hN,step⟩
 ·refine wpAny_passesOwn hp (thn (T.done X rfl rfl rfl hc i pins s3 σ3 H3 X.xe I3 (stat fr3) st3 stop) λr s4 ⟨hr,I4⟩=>?_);subst hr;exact wpAny_execs_nil ⟨σ3,H3,I4,qn⟩
 ·refine wpAny_passesOwn hp (thn (T.item X rfl rfl rfl hc i pins s3 σ3 H3 X.xe I3 (stat fr3) st3 go) λr s4 ⟨u,hr,h4⟩=>?_);subst hr;refine wpAny_passesOwn hp (thn h4 λ_ s5 ⟨x,H5,I5,r5,y5,st5,fr5⟩=>?_);have I5':=I5.pinned (stat fr5) (T.obj _ _ st5);refine wpAny_passesOwn hp (thn (hg _ s5 σ3 H5 x u _ I5' r5 (step x H5 y5)) λ_ s6 ⟨σ6,H6,I6,q6⟩=>?_);refine wpAny_passesOwn hp (thn (hb _ s6 σ6 H6 _ I6 q6) λf s7 q7=>?_);have again:∀{σ7:St} {H7:Hp},Inv X (pins ++ ZD fp s5.heap) σ7 H7 s7→N σ7 H7→∃m,m < n∧∃i σ' H',Inv X pins σ' H' s7∧tn i s7.heap∧(∀b∈fp,H' b=none)∧W i m σ' H':=λ{σ7 H7} I7 n7=>by
   obtain⟨m',hm,w7⟩:=hN σ7 H7 n7;refine⟨m',hm,i + 1,σ7,H7,I7.unpinned,T.keep _ _ _ st5 λb hb o e=>(I7.pin (b,o) (ζJ _ (ζJ _ (wV hb e)))).1,λb hb=>?_,w7⟩
   obtain⟨o,e,d⟩:=T.obj _ _ st5 b hb;exact(I7.pin (b,o) (ζJ _ (ζJ _ (wV hb e)))).2.1
  cases f with
  | next=>obtain⟨σ7,H7,I7,n7⟩:=q7; exact again I7 n7
  | cont=>obtain⟨σ7,H7,I7,n7⟩:=q7; exact again I7 n7
  | brk=>obtain⟨σ7,H7,I7,q7⟩:=q7; exact⟨σ7,H7,I7.unpinned,q7⟩
  | ret v=>obtain⟨x7,σ7,H7,I7,r7,q7⟩:=q7; exact⟨x7,σ7,H7,I7.unpinned,r7,q7⟩
end
abbrev R2:=V→V→Hp→VK→Prop
def OpR(X:Cx)(f:Value→Value→Sem Value)(r:R2):Prop :=
 ∀(pins:AL) (s:Shared) (σ:St) (H:Hp) (x y:V) (v u:Value) (Q:VK),Inv X pins σ H s→RelV x v→RelV y u→r x y H Q→
  wpAny (model X.prog X.w) X.A (f v u) (EP X pins σ Q) X.xe s
def UnR(X:Cx)(f:Value→Sem Value)(r:V→Hp→VK→Prop):Prop :=
 ∀(pins:AL) (s:Shared) (σ:St) (H:Hp) (x:V) (v:Value) (Q:VK),Inv X pins σ H s→RelV x v→r x H Q→
  wpAny (model X.prog X.w) X.A (f v) (EP X pins σ Q) X.xe s
def yX(X:Cx)(f:Value)(r:List V→Hp→VK→Prop):Prop :=
 ∀(pins:AL) (s:Shared) (σ:St) (H:Hp) (xs:List V) (us:AK) (Q:VK),Inv X pins σ H s→Vals xs us→r xs H Q→
  wpAny (model X.prog X.w) X.A (call f us) (EP X pins σ Q) X.xe s
def tOp(r:R2)(ta tb:TE):TE:=λσ H Q=>ta σ H λx H1=>tb σ H1 λy H2=>r x y H2 Q
def tUn(r:V→Hp→VK→Prop)(ta:TE):TE:=λσ H Q=>ta σ H λx H1=>r x H1 Q
def rI(C:Int→Int→Prop)(g:Int→Int→V):R2:=λx y H Q=>∃i j,x=.int i∧y=.int j∧C i j∧Q (g i j) H
def rI0(g:Int→Int→V):R2:=λx y H Q=>∃i j,x=.int i∧y=.int j∧Q (g i j) H
def rU(g:Int→V):V→Hp→VK→Prop:=λx H Q=>∃i,x=.int i∧Q (g i) H
section
variable {X:Cx}{a b c:Expr}{ta tb tc:TE}{pos:Pos}
theorem binT(ha:PE X a ta)(hb:PE X b tb){pins:AL}{s:Shared}{σ:St}{H:Hp}{R:V→V→Hp→Prop}(I:Inv X pins σ H s)
  (h:ta σ H λx H1=>tb σ H1 λy H2=>R x y H2) {Q:AN} {f:Value→Value→Sem Value}
  (hf:∀v u s2 x y H2,Inv X pins σ H2 s2→RelV x v→RelV y u→R x y H2→wpAny (model X.prog X.w) X.A (f v u) Q X.xe s2) :
  wpAny (model X.prog X.w) X.A (eval a X.env) (λv s₁=>wpAny (model X.prog X.w) X.A (eval b X.env) (λu s₂=>wpAny (model X.prog X.w) X.A (f v u) Q X.xe s₂) X.xe s₁) X.xe s:=by
 refine thn (ha pins s σ H _ I h) λv s1 ⟨x,H1,I1,r1,q1⟩=>?_;refine thn (hb pins s1 σ H1 _ I1 q1) λu s2 ⟨y,H2,I2,r2,q2⟩=>?_;exact hf v u s2 x y H2 I2 r1 r2 q2
theorem zm{op:Operator}{r:R2}(ho:OpR X (binaryOp op) r)(ha:PE X a ta)(hb:PE X b tb):PE X (.BinOp a op b pos) (tOp r ta tb):=by
 intro pins s σ H Q I h;exact wpAny_BinOp (binT ha hb I h λv u s2 x y H2 I2 rx ry q=>ho pins s2 σ H2 x y v u Q I2 rx ry q)
theorem Q2{op:UnaryOp}{r:V→Hp→VK→Prop}(ho:UnR X (unaryOp op) r)(ha:PE X a ta):PE X (.UnaryOp op a pos) (tUn r ta):=by
 intro pins s σ H Q I h;exact UnaryOp_ (thn (ha pins s σ H _ I h) λv s1 ⟨x,H1,I1,r1,q1⟩=>ho pins s1 σ H1 x v Q I1 r1 q1)
theorem opI{f:Value→Value→Sem Value}{C:Int→Int→Prop}{g:Int→Int→Int}
  (rule:∀(i j:Int) (t u:Tok) (s:Shared) (Q:AN) (E:AN),C i j→Q (.int (g i j) s.toks) { s with toks:=s.toks + 1 }→wpAny (model X.prog X.w) X.A (f (.int i t) (.int j u)) Q E s) :
  OpR X f (rI C λi j=>.int (g i j)):=by
 intro pins s σ H x y v u Q I rx ry h;obtain⟨i,j,rfl,rfl,hc,q⟩:=h;obtain⟨t,rfl⟩:=rx;obtain⟨t',rfl⟩:=ry;exact rule i j t t' s _ _ hc ⟨.int (g i j),H,I.tok _,⟨_,rfl⟩,q⟩
theorem opI0{f:Value→Value→Sem Value}{g:Int→Int→Int}
  (rule:∀(i j:Int) (t u:Tok) (s:Shared) (Q:AN) (E:AN),Q (.int (g i j) s.toks) { s with toks:=s.toks + 1 }→wpAny (model X.prog X.w) X.A (f (.int i t) (.int j u)) Q E s) :
  OpR X f (rI0 λi j=>.int (g i j)):=by
 intro pins s σ H x y v u Q I rx ry h;obtain⟨i,j,rfl,rfl,q⟩:=h;obtain⟨t,rfl⟩:=rx;obtain⟨t',rfl⟩:=ry;exact rule i j t t' s _ _ ⟨.int (g i j),H,I.tok _,⟨_,rfl⟩,q⟩
theorem opB0{f:Value→Value→Sem Value}{g:Int→Int→Bool}
  (rule:∀(i j:Int) (t u:Tok) (s:Shared) (Q:AN) (E:AN),Q (.bool (g i j)) s→wpAny (model X.prog X.w) X.A (f (.int i t) (.int j u)) Q E s) :
  OpR X f (rI0 λi j=>.bl (g i j)):=by
 intro pins s σ H x y v u Q I rx ry h;obtain⟨i,j,rfl,rfl,q⟩:=h;obtain⟨t,rfl⟩:=rx;obtain⟨t',rfl⟩:=ry;exact rule i j t t' s _ _ ⟨.bl (g i j),H,I,rfl,q⟩
def CDiv(i j:Int):Prop:=0 < j∧j < 1073741824
def CPow(i j:Int):Prop:=0≤j∧j≤1000000∧i.natAbs < 2 ^ 64
theorem zX:OpR X (binaryOp .Add) (rI0 λi j=>.int (i + j)):=opI0 λ_ _ _ _ _ _ _ q=>add_int q
theorem xF:OpR X (binaryOp .Sub) (rI0 λi j=>.int (i - j)):=opI0 λ_ _ _ _ _ _ _ q=>sub_int q
theorem yY:OpR X (binaryOp .FloorDiv) (rI CDiv λi j=>.int (i / j)):=opI λi j _ _ _ _ _ hc q=>by
 have h1:(0:Int) < j:=hc.1;have h2:j < 1073741824:=hc.2;exact floordiv_int ⋯ (by rw[Int.fdiv_eq_ediv_of_nonneg i ⋯]; exact q) (.inl (PyProof.noPylong_small ⋯))
theorem yi:OpR X (binaryOp .Mod) (rI (λ_ j=>0 < j) λi j=>.int (i % j)):=opI λi j _ _ _ _ _ hc q=>by
 have h1:(0:Int) < j:=hc;exact mod_int' ⋯ (by rw[Int.fmod_eq_emod_of_nonneg i ⋯]; exact q)
theorem zdD:OpR X (binaryOp .Pow) (rI CPow λi j=>.int (i ^ j.toNat)):=opI λ_ _ _ _ _ _ _ hc q=>pow_int_small hc.1 hc.2.1 hc.2.2 q
theorem unI{f:Value→Sem Value}{g:Int→Int}
  (rule:∀(i:Int) (t:Tok) (s:Shared) (Q:AN) (E:AN),Q (.int (g i) s.toks) { s with toks:=s.toks + 1 }→wpAny (model X.prog X.w) X.A (f (.int i t)) Q E s) :
  UnR X f (rU λi=>.int (g i)):=by
 intro pins s σ H x v Q I rx h;obtain⟨i,rfl,q⟩:=h;obtain⟨t,rfl⟩:=rx;exact rule i t s _ _ ⟨.int (g i),H,I.tok _,⟨_,rfl⟩,q⟩
theorem Vd:UnR X (unaryOp .USub) (rU λi=>.int (-i)):=unI λ_ _ _ _ _ q=>neg_int q
end
def scal:V→V→Bool
 | .non,.non=>true | .non,.int _=>true | .int _,.non=>true | .non,.bl _=>true | .bl _,.non=>true | .non,.str _=>true | .str _,.non=>true
 | .int _,.int _=>true | .bl _,.bl _=>true | .str _,.str _=>true | .byt _,.byt _=>true
 | .int _,.str _=>true | .str _,.int _=>true | .bl _,.str _=>true | .str _,.bl _=>true
 | _,_=>false
def rEq:R2:=λx y H Q=>scal x y=true∧Q (.bl (decide (x=y))) H
def rNe:R2:=λx y H Q=>scal x y=true∧Q (.bl (!decide (x=y))) H
theorem uY{i j:Int}:decide (V.int i=V.int j)=(i == j):=by
 rw[Bool.eq_iff_iff];simp
theorem XR{i j:Bool}:decide (V.bl i=V.bl j)=(i == j):=by
 rw[Bool.eq_iff_iff];simp
theorem UK{i j:Str}:decide (V.str i=V.str j)=(i == j):=by
 rw[Bool.eq_iff_iff];simp
theorem UL{i j:Array UInt8}:decide (V.byt i=V.byt j)=(i.toList == j.toList):=by
 rw[Bool.eq_iff_iff];cases i;cases j;simp
section
variable {X:Cx}{a b c:Expr}{ta tb tc:TE}{pos:Pos}
theorem ya{pins:AL}{σ:St}{H:Hp}{s:Shared}{Q:VK}{k k':Bool}(I:Inv X pins σ H s)(q:Q (.bl k) H)(e:k=k'):EP X pins σ Q (.bool k') s:=by
 subst e;exact⟨.bl k,H,I,rfl,q⟩
theorem wD:OpR X (compareOp .Eq) rEq:=by
 intro pins s σ H x y v u Q I rx ry h;obtain⟨hs,q⟩:=h;cases x with
 | non =>
  cases rx;cases y with
  | non=>cases ry; exact PySem.EqNone.eq_none_none (ya I q (by simp))
  | bl j=>cases ry; exact PySem.EqNone.eq_none_bool (ya I q (by simp))
  | int j=>obtain⟨t',rfl⟩:=ry; exact PySem.EqNone.eq_none_int (ya I q (by simp))
  | str j=>obtain⟨t',rfl⟩:=ry; exact PySem.EqNone.eq_none_str (ya I q (by simp))
  | _=>exact absurd (show false=true from hs) ζD
 | bl i =>
  cases rx;cases y with
  | non=>cases ry; exact PySem.EqNone.eq_bool_none (ya I q (by simp))
  | bl j=>cases ry; exact eq_bool (ya I q XR)
  | str j=>obtain⟨t',rfl⟩:=ry; exact PySem.EqMixed.eq_bool_str (ya I q (by simp))
  | _=>exact absurd (show false=true from hs) ζD
 | int i =>
  obtain⟨t,rfl⟩:=rx;cases y with
  | non=>cases ry; exact PySem.EqNone.eq_int_none (ya I q (by simp))
  | int j=>obtain⟨t',rfl⟩:=ry; exact eq_int (ya I q uY)
  | str j=>obtain⟨t',rfl⟩:=ry; exact PySem.EqMixed.eq_int_str (ya I q (by simp))
  | _=>exact absurd (show false=true from hs) ζD
 | str i =>
  obtain⟨t,rfl⟩:=rx;cases y with
  | non=>cases ry; exact PySem.EqNone.eq_str_none (ya I q (by simp))
  | bl j=>cases ry; exact PySem.EqMixed.eq_str_bool (ya I q (by simp))
  | int j=>obtain⟨t',rfl⟩:=ry; exact PySem.EqMixed.eq_str_int (ya I q (by simp))
  | str j=>obtain⟨t',rfl⟩:=ry; exact eq_str (ya I q UK)
  | _=>exact absurd (show false=true from hs) ζD
 | byt i =>
  obtain⟨t,rfl⟩:=rx;cases y with
  | byt j=>obtain⟨t',rfl⟩:=ry; exact PySem.W.eq_bytes (ya I q UL)
  | _=>exact absurd (show false=true from hs) ζD
 | _=>cases y <;> exact absurd (show false=true from hs) ζD
theorem Yr:OpR X (compareOp .NotEq) rNe:=by
 intro pins s σ H x y v u Q I rx ry h;obtain⟨hs,q⟩:=h;cases x with
 | non =>
  cases rx;cases y with
  | non=>cases ry; exact PySem.EqNone.ne_none_none (ya I q (by simp))
  | bl j=>cases ry; exact PySem.EqNone.ne_none_bool (ya I q (by simp))
  | int j=>obtain⟨t',rfl⟩:=ry; exact PySem.EqNone.ne_none_int (ya I q (by simp))
  | str j=>obtain⟨t',rfl⟩:=ry; exact PySem.EqNone.ne_none_str (ya I q (by simp))
  | _=>exact absurd (show false=true from hs) ζD
 | bl i =>
  cases rx;cases y with
  | non=>cases ry; exact PySem.EqNone.ne_bool_none (ya I q (by simp))
  | bl j=>cases ry; exact ne_bool (ya I q (congrArg not XR))
  | str j=>obtain⟨t',rfl⟩:=ry; exact PySem.EqMixed.ne_bool_str (ya I q (by simp))
  | _=>exact absurd (show false=true from hs) ζD
 | int i =>
  obtain⟨t,rfl⟩:=rx;cases y with
  | non=>cases ry; exact PySem.EqNone.ne_int_none (ya I q (by simp))
  | int j=>obtain⟨t',rfl⟩:=ry; exact ne_int (ya I q (congrArg not uY))
  | str j=>obtain⟨t',rfl⟩:=ry; exact PySem.EqMixed.ne_int_str (ya I q (by simp))
  | _=>exact absurd (show false=true from hs) ζD
 | str i =>
  obtain⟨t,rfl⟩:=rx;cases y with
  | non=>cases ry; exact PySem.EqNone.ne_str_none (ya I q (by simp))
  | bl j=>cases ry; exact PySem.EqMixed.ne_str_bool (ya I q (by simp))
  | int j=>obtain⟨t',rfl⟩:=ry; exact PySem.EqMixed.ne_str_int (ya I q (by simp))
  | str j=>obtain⟨t',rfl⟩:=ry; exact ne_str (ya I q (congrArg not UK))
  | _=>exact absurd (show false=true from hs) ζD
 | byt i =>
  obtain⟨t,rfl⟩:=rx;cases y with
  | byt j=>obtain⟨t',rfl⟩:=ry; exact PySem.W.ne_bytes (ya I q (congrArg not UL))
  | _=>exact absurd (show false=true from hs) ζD
 | _=>cases y <;> exact absurd (show false=true from hs) ζD
theorem Ys:OpR X (compareOp .Lt) (rI0 λi j=>.bl (decide (i < j))):=opB0 λ_ _ _ _ _ _ _ q=>lt_int q
theorem zeK:OpR X (compareOp .LtE) (rI0 λi j=>.bl (decide (i≤j))):=opB0 λ_ _ _ _ _ _ _ q=>le_int q
theorem ZF:OpR X (compareOp .Gt) (rI0 λi j=>.bl (decide (j < i))):=opB0 λ_ _ _ _ _ _ _ q=>gt_int q
theorem zdH:OpR X (compareOp .Is) (λx y H Q=>y=.non∧Q (.bl (decide (x=.non))) H):=by
 intro pins s σ H x y v u Q I rx ry h;obtain⟨rfl,q⟩:=h;cases ry;refine is_none_gen (ya I q ?_)
 cases x <;> first
  | (cases rx; rfl)
  | (obtain⟨t,rfl⟩:=rx; rfl)
theorem zT(b:Expr){op:CmpOp}(h:op≠.In:=by decide)(h2:op≠.NotIn:=by decide):behindInMarks op b=false:=by
 have e1:(op == CmpOp.In)=false:=by cases op <;> first | rfl | exact absurd rfl h
 have e2:(op == CmpOp.NotIn)=false:=by cases op <;> first | rfl | exact absurd rfl h2
 cases b <;> simp[behindInMarks,e1,e2]
theorem wf{op:CmpOp}{r:R2}(ho:OpR X (compareOp op) r)(ha:PE X a ta)(hb:PE X b tb)(hm:behindInMarks op b=false):PE X (.Compare a [op] [b] pos) (tOp r ta tb):=by
 intro pins s σ H Q I h;exact wpAny_Compare1 (binT ha hb I h λv u s2 x y H2 I2 rx ry q=>ho pins s2 σ H2 x y v u Q I2 rx ry q) hm
def zcM(t:TE):TT:=λσ H Q=>t σ H λx H'=>∃k,x=.bl k∧Q k H'
theorem zF{op:CmpOp}{r:R2}(ho:OpR X (compareOp op) r)(ha:PE X a ta)(hb:PE X b tb)(hm:behindInMarks op b=false):PT X (.Compare a [op] [b] pos) (zcM (tOp r ta tb)):=by
 intro pins s σ H Q I h;refine wpAny_isTrue_Compare1 (thn (ha pins s σ H _ I h) λv s1 ⟨x,H1,I1,r1,q1⟩=>thn (hb pins s1 σ H1 _ I1 q1) λu s2 ⟨y,H2,I2,r2,q2⟩ =>
  thn (ho pins s2 σ H2 x y v u _ I2 r1 r2 q2) λc s3 ⟨z,H3,I3,r3,k,e,q3⟩=>?_) hm
 subst e;cases r3;exact wpAny_truthy_bool ⟨H3,I3,q3⟩
theorem XE:(sizeLine:Nat) < 2 ^ 63:=by rw[sizeLine_eq]; decide
theorem vf{x:V}{us:AK}(r:Vals [x] us):∃u,us=[u]∧RelV x u:=by
 cases r with
 | cons r1 r2=>cases r2; exact⟨_,rfl,r1⟩
theorem zew{x y:V}{us:AK}(r:Vals [x,y] us):∃u w',us=[u,w']∧RelV x u∧RelV y w':=by
 cases r with
 | cons r1 r2 =>
  cases r2 with
  | cons r3 r4=>cases r4; exact⟨_,_,rfl,r1,r3⟩
theorem W5:yX X (.builtin "abs") (λxs H Q=>∃i,xs=[.int i]∧Q (.int (if i < 0 then -i else i)) H):=by
 intro pins s σ H xs us Q I r h;obtain⟨i,rfl,q⟩:=h;obtain⟨u,rfl,t,rfl⟩:=vf r;exact call_abs_int λu tk=>⟨.int (if i < 0 then -i else i),H,I.tok _,⟨_,rfl⟩,q⟩
theorem TY(hc:X.calm=true):yX X (.builtin "min") (λxs H Q=>∃i j,xs=[.int i,.int j]∧Q (.int (if j < i then j else i)) H):=by
 intro pins s σ H xs us Q I r h;obtain⟨i,j,rfl,q⟩:=h;obtain⟨u,w',rfl,⟨t,rfl⟩,⟨t',rfl⟩⟩:=zew r;refine min_two_ints (I.ok.hd hc) λh' tk k=>⟨_,H,I.kept k,?_,q⟩
 by_cases hj:j < i
 ·rw[if_pos hj,if_pos hj]; exact⟨_,rfl⟩
 ·rw[if_neg hj,if_neg hj]; exact⟨_,rfl⟩
end
section
variable {prog:Program}{w:World}{A:Around}{E:AN}{s:Shared}{K:ζc}{x dx C f:Addr}{mA:AO}{name:Str}{v:Value}
end
section
variable {P:Program}{w:World}{H H':Hp}{h h':Heap}{a C dx:Addr}{fs fs':List (Str×V)}
end
section
variable {X:Cx}{pins:AL}{σ:St}{H:Hp}{s:Shared}{a C dx:Addr}{fs:List (Str×V)}{f:Str}{v:V}{A:Around}{E:AN}
end
section
variable {X:Cx}{o e value:Expr}{f:Str}{pos pos' tpos:Pos}{ta tv:TE}
end
section
variable {X:Cx}{pins:AL}{σ:St}{H:Hp}{s:Shared}{A:Around}{E:AN}{Q:AN}{c:Value}{b:Bool}
end
structure Room(k:Nat)(A:Around):Prop where
 hd:A.handled=none
 dp:A.depth + 3 * k + 5 < recursionLimit
 un:A.units + 16 * k + 200 < cLine
 gd:A.guards=some []
theorem Room.mono{j k:Nat}{A:Around}(r:Room k A)(h:j≤k):Room j A:=⟨r.hd,by have:=r.dp; omega,by have:=r.un; omega,r.gd⟩
theorem Room.deeper{k:Nat}{A:Around}(r:Room (k + 1) A)(env:Env):Room k (A.deeper env) :=
 ⟨r.hd,by have:=r.dp; show A.depth + 1 + 3 * k + 5 < _; omega,by have:=r.un; show A.units + 3 + 16 * k + 200 < _; omega,r.gd⟩
theorem Room.depth{k:Nat}{A:Around}(r:Room k A):A.depth < recursionLimit:=by have:=r.dp; omega
theorem Room.units{k:Nat}{A:Around}(r:Room k A):A.units + 64 < cLine:=by have:=r.un; omega
def tNil:TA:=λ_ H Q=>Q [] H
def zS(ta:TE)(tr:TA):TA:=λσ H Q=>ta σ H λx H1=>tr σ H1 λxs H2=>Q (x :: xs) H2
section
variable {X:Cx}{e:Expr}{es:List Expr}{te:TE}{t:TA}{pos:Pos}
theorem zd:PA X [] tNil:=λ_ _ _ _ H Q I h=>Calls.spliced_nil ⟨[],H,I,.nil,h⟩
theorem zb(ha:PE X e te)(hr:PA X es t)(hs:starEach (e :: es) X.env=(false,eval e X.env) :: starEach es X.env:=by rfl):PA X (e :: es) (zS te t):=by
 intro pos pins s σ H Q I h;rw[hs];show wpAny _ _ (spliced ((false,eval e X.env) :: backTo pos (starEach es X.env))) _ _ s;refine Calls.spliced_cons (thn (ha pins s σ H _ I h) λu s1 ⟨x,H1,I1,r1,q1⟩=>?_);exact thn (hr pos pins s1 σ H1 _ I1 q1) λus s2 ⟨xs,H2,I2,r2,q2⟩=>⟨x :: xs,H2,I2,.cons r1 r2,q2⟩
def tTup(t:TA):TE:=λσ H Q=>t σ H λxs H1=>xs.length≤sizeLine∧∀p,H1 p=none→Q (.ref p) (upd H1 p (.tup xs))
def tLst(t:TA):TE:=λσ H Q=>t σ H λxs H1=>xs.length≤sizeLine∧∀p,H1 p=none→Q (.ref p) (upd H1 p (.lst xs))
theorem yH{x1}(h:PA X es t):PE X (.Tuple es x1 pos) (tTup t):=by
 intro pins s σ H Q I hq;refine wpAny_Tuple_spliced (thn (h pos pins s σ H _ I hq) λus s1 ⟨xs,H1,I1,r,z,q⟩=>⟨by rw[←r.length]; exact z,?_⟩);have hf:H1 s1.heap.objs.size=none:=I1.hok.fresh (ζl _);refine⟨.ref s1.heap.objs.size,upd H1 s1.heap.objs.size (.tup xs),I1.laid (t':=s1.toks) (λb u e=>ζj _ e) (ζl _) ?_,rfl,q _ hf⟩
 exact⟨z,us,r,⟨_,ζL _ rfl,rfl,_,rfl⟩⟩
theorem zR(h:PA X es t):PE X (.List es pos) (tLst t):=by
 intro pins s σ H Q I hq;refine wpAny_List_spliced (thn (h pos pins s σ H _ I hq) λus s1 ⟨xs,H1,I1,r,z,q⟩=>⟨by rw[←r.length]; exact z,?_⟩);have hf:H1 s1.heap.objs.size=none:=I1.hok.fresh (ζl _);refine⟨.ref s1.heap.objs.size,upd H1 s1.heap.objs.size (.lst xs),I1.laid (t':=s1.toks) (λb u e=>ζj _ e) (ζl _) ?_,rfl,q _ hf⟩
 exact⟨z,us,0,r,ζL _ rfl⟩
end
abbrev Sp:=List V→Hp→VK→XK→Prop
abbrev CXT:=List Env→Hp→Shared→XK→Value→Shared→Prop
structure Env0(P:Program)(w:World)(K:ζc)(mg:AO)(base:Heap)(A:Around)(outer:List Env)(s:Shared)(H:Hp):Prop where
 frames:A.frames=some outer
 mod:Mod K mg base
 bs:∀b o,base.get? b=some o→s.heap.get? b=some o∧H b=none
 bsz:base.objs.size≤s.heap.objs.size
 funs:s.heap.FunFrames base outer
 frf:∀b∈frs outer,H b=none
 hok:HOk P w H s.heap
 bare:AllBare s.gens
 tb:TbOk K H
def CE(outer:List Env)(P:Program)(w:World)(H:Hp)(s:Shared)(Q:VK)(u:Value)(s':Shared):Prop :=
 ∃v H',s'.os=s.os∧AllBare s'.gens∧Un (frs outer) [] H H' s.heap s'.heap∧HOk P w H' s'.heap∧RelV v u∧Q v H'
def CR(CX:CXT)(outer:List Env)(P:Program)(w:World)(H:Hp)(s:Shared)(Q:VK)(E:XK)(r:Result)(s':Shared):Prop :=
 match r with
 | .ok (.ret u)=>CE outer P w H s Q u s'
 | .ok _=>False
 | .error e=>CX outer H s E e s'
structure FnOk(P:Program)(w:World)(K:ζc)(mg:AO)(base:Heap)(CX:CXT)(k:Nat)(f:Addr)(fd:FuncData)(ps:AJ)(sp:Sp):Prop where
 len:∀vs H Q E,sp vs H Q E→vs.length=ps.length
 run:∀(A:Around) (outer:List Env) (s:Shared) (H:Hp) (args:Args) (us:AK) (vs:List V) (Q:VK) (E:XK),Room k A→Env0 P w K mg base A outer s H→BindsTo s fd args (ps.zip us)→Vals vs us→sp vs H Q E→
  codeAny (model P w) A (.call (.ref f) args) (CR CX outer P w H s Q E) s
section
variable {X:Cx}{pins:AL}{σ:St}{H:Hp}{s s':Shared}
theorem Inv.env0(I:Inv X pins σ H s):Env0 X.prog X.w X.K X.mg X.base X.A X.stack s H :=
 ⟨I.ok.frames,I.ok.mod,I.bs,ζ8 I.ok.bsz I.sz,I.stack,I.stkFree,I.hok,I.bare,I.ok.tb.un I.base⟩
theorem Inv.after{Q:VK}{u:Value}(I:Inv X pins σ H s)(h:CE X.stack X.prog X.w H s Q u s'):EP X pins σ Q u s':=by
 obtain⟨v,H',os,bare,un,hok,r,q⟩:=h;obtain⟨hh,g,d,t,os'⟩:=s';obtain rfl:os'=s.os:=os;exact⟨v,H',I.call (h':=hh) (g':=g) (d':=d) (t':=t) (ch:=[]) un hok bare (λb z=>absurd z (by simp)),r,q⟩
end
def vY(sp:Sp)(dvs:List V)(E:XK)(t:TA):TE:=λσ H Q=>t σ H λvs H1=>sp (vs ++ dvs) H1 Q E
def wJ(K:ζc)(fd:FuncData)(ps:AJ)(ds:AK):Prop :=
 ∀(s:Shared) (us:AK),K.In s.heap→(us ++ ds).length=ps.length→BindsTo s fd ⟨us,[]⟩ (ps.zip (us ++ ds))
theorem wJ.all{K:ζc}{fd:FuncData}{ps:AJ}(h:∀us:AK,us.length=ps.length→bindArgs fd ⟨us,[]⟩=pure (ps.zip us)):wJ K fd ps []:=λs us _ hl=>by
 rw[ζ1]at hl ⊢;exact .of_eq (h us hl)
def ZY(CX:CXT)(X:Cx)(E:XK):Prop:=∀(pins:AL) (σ:St) (H:Hp) (s:Shared) (e:Value) (s':Shared),Inv X pins σ H s→CX X.stack H s E e s'→X.xe e s'
section
variable {X:Cx}{CX:CXT}{k:Nat}{f C:Addr}{fd:FuncData}{ps:AJ}{sp:Sp}{dvs:List V}{ds:AK}{E:XK}{x m:Str}{p pos apos:Pos}{e o:Expr}{es:List Expr}{ta:TE}{t:TA}
theorem Vk{pins:AL}{σ:St}{H:Hp}{s:Shared}{Q:VK}{us:AK}{vs:List V}(F:FnOk X.prog X.w X.K X.mg X.base CX k f fd ps sp)(hr:Room k X.A)(hb:wJ X.K fd ps ds)(hd:Vals dvs ds)(hx:ZY CX X E)
  (I:Inv X pins σ H s) (r:Vals vs us) (h:sp (vs ++ dvs) H Q E):wpAny (model X.prog X.w) X.A (call (.ref f) us) (EP X pins σ Q) X.xe s:=by
 have r2:Vals (vs ++ dvs) (us ++ ds):=r.append hd;have hl:(us ++ ds).length=ps.length:=by rw[←r2.length]; exact F.len _ _ _ _ h
 refine wpAny_call (codeAny_mono (F.run X.A X.stack s H ⟨us,[]⟩ (us ++ ds) (vs ++ dvs) Q E hr I.env0 (hb s us I.kIn hl) r2 h) λr s' hq=>?_);cases r with
 | error e=>exact hx pins σ H s e s' I hq
 | ok fl =>
  cases fl with
  | ret u=>exact I.after hq
  | next=>exact False.elim hq
  | brk=>exact False.elim hq
  | cont=>exact False.elim hq
theorem zbY(F:FnOk X.prog X.w X.K X.mg X.base CX k f fd ps sp)(hr:Room k X.A)(hg:Gl X x)(hm:X.mg x=some (.ref f))(hk:PySem.W.keepIn X.K (.ref f)=true)(hb:wJ X.K fd ps ds)(hd:Vals dvs ds)(hx:ZY CX X E)
  (ha:PA X (e :: es) t) (hdb:(x == ("__debug__" : Str))=false:=by decide) (he:starEach (e :: es) X.env=(false,eval e X.env) :: starEach es X.env:=by rfl) (hpl:(backTo pos (starEach es X.env)).any (·.1)=false:=by rfl) :
  PE X (.Call (.Name x p) (e :: es) [] pos) (vY sp dvs E t):=by
 intro pins s σ H Q I h;refine wpAny_Call_Name_kw (XH I hg hm ?_ hdb);refine PySem.W.callWith_K (h₀:=X.base) I.ok.mod.kin hk (thn (ha pos pins s σ H _ I h) λus s1 ⟨vs,H1,I1,r,q⟩=>⟨I1.kIn,?_⟩) he hpl;exact Vk F hr hb hd hx I1 r q
end
section
variable {X:Cx}{CX:CXT}{k:Nat}{f C:Addr}{fd:FuncData}{ps ks:AJ}{sp:Sp}{E:XK}{x m:Str}{p pos apos kpos:Pos}{e o:Expr}{es:List Expr}{kws:List Keyword}{te ta:TE}{t tk:TA}{nm:Option Str}
variable {g:AK→AK→AK}{gV:List V→List V→List V}
end
structure zw(N P:AJ)(sc:Scope):Prop where
 kind:sc.kind=.function:=by rfl
 co:sc.isCoroutine=false:=by rfl
 gen:sc.isGenerator=false:=by rfl
 nd:N.Nodup:=by decide +kernel
 pre:N.take P.length=P:=by rfl
 par:∀x∈P,sc.names.lookup x=some .local∨sc.names.lookup x=some .cell:=by decide +kernel
 nofree:∀y∈sc.names,y.2≠.free:=by decide +kernel
theorem zw.n{N P:AJ}{sc:Scope}(_:zw N P sc)(k:Nat)(h:N.length=k:=by rfl):N.length=k:=h
theorem YI{kindOf:Str→Option NameKind}{x:Str}:∀{binds:List (Str×Value)} {m:AO},(∀v,(x,v)∉binds)→bindL kindOf binds m x=m x
 | [],_,_=>rfl
 | (n,v) :: r,m,h=>by
  unfold bindL;rw[YI λw hw=>h w (ζk _ hw)];split
  ·have:x≠n:=by rintro rfl; exact h v ζf
   simp[this]
  ·rfl
theorem YK{kindOf:Str→Option NameKind}{x:Str}:∀{binds:List (Str×Value)} {m:AO},(∀v,(x,v)∉binds)→bindC kindOf binds m x=m x
 | [],_,_=>rfl
 | (n,v) :: r,m,h=>by
  unfold bindC;rw[YK λw hw=>h w (ζk _ hw)];split
  ·rfl
  ·have:x≠n:=by rintro rfl; exact h v ζf
   simp[this]
theorem YJ{kindOf:Str→Option NameKind}{x:Str}{v:Value}:∀{P:AJ} {vs:AK} {i:Nat} {m:AO},P.Nodup→P[i]?=some x→vs[i]?=some v→kindOf x=some .local→
  bindL kindOf (P.zip vs) m x=some v
 | [],_,_,_,_,h,_,_=>by simp at h
 | _ :: _,[],_,_,_,_,h,_=>by simp at h
 | p :: P,w :: vs,0,m,nd,h1,h2,hk=>by
  simp at h1 h2; subst h1; subst h2;show bindL kindOf ((p,w) :: P.zip vs) m p=_;unfold bindL;rw[YI λv hv=>(ζ3.mp nd).1 (List.of_mem_zip hv).1,if_pos hk];simp
 | p :: P,w :: vs,i + 1,m,nd,h1,h2,hk=>by
  show bindL kindOf ((p,w) :: P.zip vs) m x=_;unfold bindL;exact YJ (i:=i) (List.nodup_cons.mp nd).2 (by simpa using h1) (by simpa using h2) hk
theorem YL{kindOf:Str→Option NameKind}{x:Str}{v:Value}:∀{P:AJ} {vs:AK} {i:Nat} {m:AO},P.Nodup→P[i]?=some x→vs[i]?=some v→kindOf x≠some .local→
  bindC kindOf (P.zip vs) m x=some v
 | [],_,_,_,_,h,_,_=>by simp at h
 | _ :: _,[],_,_,_,_,h,_=>by simp at h
 | p :: P,w :: vs,0,m,nd,h1,h2,hk=>by
  simp at h1 h2; subst h1; subst h2;show bindC kindOf ((p,w) :: P.zip vs) m p=_;unfold bindC;rw[YK λv hv=>(ζ3.mp nd).1 (List.of_mem_zip hv).1,if_neg hk];simp
 | p :: P,w :: vs,i + 1,m,nd,h1,h2,hk=>by
  show bindC kindOf ((p,w) :: P.zip vs) m x=_;unfold bindC;exact YL (i:=i) (List.nodup_cons.mp nd).2 (by simpa using h1) (by simpa using h2) hk
def yF(N:AJ)(vs:List V):St:=vs.map some ++ List.replicate (N.length - vs.length) none
def cxOf(CX:CXT)(P:Program)(w:World)(K:ζc)(mg:AO)(base:Heap)(N:AJ)(qual:Str)(scope:Scope)(f:Addr)(cd:Value)(A:Around)(outer:List Env)(s:Shared)(H:Hp)(E:XK):Cx where
 prog:=P
 w:=w
 K:=K
 mg:=mg
 base:=base
 A:=A.deeper (envOfC qual scope s.heap.objs.size f cd)
 N:=N
 s₀:=s
 H₀:=H
 env:=envOfC qual scope s.heap.objs.size f cd
 outer:=outer
 stack:=envOfC qual scope s.heap.objs.size f cd :: outer
 ex:=[]
 calm:=true
 fn:=λ_=>true
 pn:=[]
 xe:=λe s'=>wpAny (model P w) (A.deeper (envOfC qual scope s.heap.objs.size f cd)) (leaving (envOfC qual scope s.heap.objs.size f cd) e) (λ_ s''=>CX outer H s E e s'') (λe' s''=>CX outer H s E e' s'') s'
theorem W3{sc:Scope}{n:Nat}{x:Str}(h:sc.names.lookup x=some .cell):∃c,(cellsFrom n sc.names []).lookup x=some c:=by
 have q:=PySem.W.cellsFrom_some sc.names n [] (.inl h);exact ξG.mp q
theorem Tx{CX:CXT}{P:Program}{w:World}{K:ζc}{mg:AO}{base:Heap}{N ps:AJ}{qual:Str}{scope:Scope}{f:Addr}{cd:Value}{A:Around}{outer:List Env}{s s1:Shared}{H:Hp}{E:XK}{us:AK}{vs:List V}
  (S:zw N ps scope) (hd:A.handled=none) (e0:Env0 P w K mg base A outer s H) (hl:vs.length=ps.length) (r:Vals vs us)
  (x:InCallC s s.heap.objs.size (bindL (envOfC qual scope s.heap.objs.size f cd).kindOf (ps.zip us) λ_=>none) (cellsFrom (s.heap.objs.size + 1) scope.names []) (bindC (envOfC qual scope s.heap.objs.size f cd).kindOf (ps.zip us) λ_=>none) s1) :
  Inv (cxOf CX P w K mg base N qual scope f cd A outer s H E) [] (yF N vs) H s1:=by
 have hpl:ps.length≤N.length:=by have:=congrArg List.length S.pre; rw[ζN]at this; omega
 obtain⟨h1,tk,rfl,hk⟩:=x.done;have noA:∀b:Addr,b∉(cxOf CX P w K mg base N qual scope f cd A outer s H E).ex:=λb z=>absurd (show b∈([]:List Addr)from z) (by simp)
 refine⟨⟨e0.mod,S.kind,rfl,rfl,ζl _,λy z c h1 h2=>?_,λy hy=>?_,λy c _ h=>?_,λ_=>hd,Around.frames_deeper e0.frames,.inr ⟨rfl,rfl⟩,λb z=>absurd z (noA b),e0.bs,e0.bsz,λb _ _=>noA b,λb z=>absurd z (noA b),e0.funs,e0.frf,e0.tb⟩,
  rfl,e0.bare,Un.kept hk,⟨_,x.toInCall.ns,λi y v h1 h2 h3=>?_⟩,λy c h=>⟨_,x.cell y c h⟩,e0.hok.fresh (Nat.le_refl _),λy c h=>?_,λp hp=>absurd (show p∈([]:AL)from hp) (by simp),e0.hok.kept hk,?_⟩
 ·exact name_of_addr x.apart (PySem.mem_of_lookup h1) (PySem.mem_of_lookup h2)
 ·have hy:scope.names.lookup y=some .cell∨scope.names.lookup y=some .free:=hy;rcases hy with hy | hy
  ·exact W3 hy
  ·exact absurd rfl (S.nofree _ (PySem.mem_of_lookup hy))
 ·exact Nat.le_of_lt (x.above y c (PySem.mem_of_lookup h))
 ·have hi:i < vs.length:=by
   unfold yF at h2;by_cases hi:i < vs.length
   ·exact hi
   ·rw[List.getElem?_append_right (by simpa using hi)]at h2;rw[List.getElem?_replicate]at h2;split at h2 <;> cases h2
  have ha:vs[i]?=some v:=by
   unfold yF at h2;rw[List.getElem?_append_left (by simpa using hi),List.getElem?_map]at h2;cases e:vs[i]? with
   | none=>rw[e]at h2; cases h2
   | some a=>rw[e]at h2; cases h2; rfl
  obtain⟨u,hu,rv⟩:=r.get ha;have hp:ps[i]?=some y:=by
   rw[←S.pre,List.getElem?_take_of_lt ⋯]; exact h1
  have ndP:ps.Nodup:=by rw[←S.pre]; exact S.nd.sublist (ξ4 _ _)
  refine⟨u,rv,?_⟩
  rcases S.par y (ζd hp)with k | k
  ·exact .inl ⟨k,YJ ndP hp hu k⟩
  ·obtain⟨c,e⟩:=W3 (n:=s.heap.objs.size + 1) k;refine .inr ⟨.inl k,c,e,?_⟩;have q:=x.cell y c e;rw[YL ndP hp hu (by show scope.names.lookup y≠_; rw[k]; decide)]at q;exact q
 ·exact .inl (e0.hok.fresh (Nat.le_of_lt (x.above y c (PySem.mem_of_lookup h))))
 ·unfold yF;show _=N.length;rw[ζg,ζa,ζT];omega
theorem zc5{CX:CXT}{P:Program}{w:World}{K:ζc}{mg:AO}{base:Heap}{k:Nat}{f:Addr}{name qual:Str}{params:Arguments}{body:List Stmt}{scope:Scope}{dV kV doc pm cdv ct oc:Value}{an od:Option Addr}
  {osl:Array (Option Value)} {N ps:AJ} {sp:Sp} (lk:K.lookup f=some ⟨oc,od,.func (PySem.W.fnOf name qual params body scope dV kV doc pm an cdv ct),osl⟩) (hcd:PySem.W.codeIn K cdv qual=true) (S:zw N ps scope)
  (len:∀vs H Q E,sp vs H Q E→vs.length=ps.length)
  (hbody:∀(A:Around) (outer:List Env) (s:Shared) (H:Hp) (vs:List V) (Q:VK) (E:XK),Room k (A.deeper (envOfC qual scope s.heap.objs.size f cdv))→sp vs H Q E→
   ∃t,PSs (cxOf CX P w K mg base N qual scope f cdv A outer s H E) body t∧t { nx:=λ_ H'=>Q .non H',rt:=Q } (yF N vs) H) :
  FnOk P w K mg base CX (k + 1) f (PySem.W.fnOf name qual params body scope dV kV doc pm an cdv ct) ps sp:=by
 refine⟨len,λA outer s H args us vs Q E hr e0 hb r hsp=>?_⟩
 have hl:=len _ _ _ _ hsp;have KX:K.In s.heap:=e0.mod.kin.keeps λb o e=>(e0.bs b o e).1;have lim:s.heap.NoLimit:=e0.mod.nolimit.keeps λb o e=>(e0.bs b o e).1;have hkind:∀y∈ps.zip us,scope.names.lookup y.1=some .local∨(scope.names.lookup y.1=some .cell∧((cellsFrom (s.heap.objs.size + 1) scope.names []).lookup y.1).isSome=true):=λ⟨n,v⟩ hy=>by
  rcases S.par n (List.of_mem_zip hy).1 with q | q
  ·exact .inl q
  ·exact .inr ⟨q,PySem.W.cellsFrom_some _ _ _ (.inl q)⟩
 refine codeAny_call_function hr.depth (KX _ _ lk) rfl S.co S.gen rfl (PySem.W.codeRec_of KX hcd) (hb _ _ _ _ ?_);refine wpAny_newFunctionEnv_cells S.kind hkind λenv he s1 x=>?_;subst he;refine⟨lim.keeps x.toInCall.keep,codeAny_func ?_⟩
 obtain⟨t,ht,hq⟩:=hbody A outer s H vs Q E (hr.deeper _) hsp;have I:Inv (cxOf CX P w K mg base N qual scope f cdv A outer s H E) [] (yF N vs) H s1:=Tx S hr.hd e0 hl r x;refine wpAny_mono (ht [] s1 (yF N vs) H _ I hq) (λfl s' hs=>?_) λe s' hs=>hs
 have fin:∀{σ':St} {H':Hp} {v:V} {u:Value},Inv (cxOf CX P w K mg base N qual scope f cdv A outer s H E) [] σ' H' s'→RelV v u→Q v H'→CE outer P w H s Q u s' :=
  λ{σ' H' v u} J rv q=>⟨v,H',J.os,J.bare,J.base,J.hok,rv,q⟩
 cases fl with
 | ret u =>
  obtain⟨v,σ',H',J,rv,q⟩:=hs;exact fin J rv q
 | next =>
  obtain⟨σ',H',J,q⟩:=hs;exact fin (v:=V.non) (u:=Value.none) J rfl q
 | brk =>
  obtain⟨_,_,_,q⟩:=hs;exact False.elim q
 | cont =>
  obtain⟨_,_,_,q⟩:=hs;exact False.elim q
section
variable {X:Cx}{x:Str}{p pos:Pos}{e:Expr}{es:List Expr}{t:TA}{id T:String}{r:List V→Hp→VK→Prop}
def tCB(r:List V→Hp→VK→Prop)(t:TA):TE:=λσ H Q=>t σ H λvs H1=>r vs H1 Q
theorem Q4(hc:yX X (.builtin id) r)(hg:Gl X x)(hm:X.mg x=none)(hv:bootBuiltins x=some (.builtin id))(ha:PA X (e :: es) t)(hn:x ≠ "__name__" := by decide)(hdb:(x == ("__debug__" : Str))=false:=by decide)
  (he:starEach (e :: es) X.env=(false,eval e X.env) :: starEach es X.env:=by rfl) (hpl:(backTo pos (starEach es X.env)).any (·.1)=false:=by rfl):PE X (.Call (.Name x p) (e :: es) [] pos) (tCB r t):=by
 intro pins s σ H Q I h;refine wpAny_Call_Name_kw (ut I hg hm hv ?_ hn hdb);exact PyProof.Rows.callWith_builtin1 (thn (ha pos pins s σ H _ I h) λus s1 ⟨vs,H1,I1,r1,q1⟩=>hc pins s1 σ H1 vs us Q I1 r1 q1) he hpl
theorem Te(hc:yX X (.type T) r)(hg:Gl X x)(hm:X.mg x=none)(hv:bootBuiltins x=some (.type T))(ha:PA X (e :: es) t)(hn:x ≠ "__name__" := by decide)(hdb:(x == ("__debug__" : Str))=false:=by decide)
  (he:starEach (e :: es) X.env=(false,eval e X.env) :: starEach es X.env:=by rfl) (hpl:(backTo pos (starEach es X.env)).any (·.1)=false:=by rfl):PE X (.Call (.Name x p) (e :: es) [] pos) (tCB r t):=by
 intro pins s σ H Q I h;refine wpAny_Call_Name_kw (ut I hg hm hv ?_ hn hdb);exact PyProof.Rows.callWith_type1 (thn (ha pos pins s σ H _ I h) λus s1 ⟨vs,H1,I1,r1,q1⟩=>hc pins s1 σ H1 vs us Q I1 r1 q1) he hpl
end
end L2
namespace HT
open PySem PyProof.Rows
section
open PySem.SeqAt
open PySem.AutoSeq1 (wpAny_loadPart')
open PySem.MeetsSeq PySem.MeetsSeq2 PySem.MeetsSeq3
end
section
variable {prog:Program}{w:World}{A:Around}{E:AN}{s:Shared}
def sIx(n d:Nat):Option Int→Nat
 | none=>d
 | some v=>if v < 0 then(v + (n:Int)).toNat else min v.toNat n
theorem t7(n d k:Nat):sIx n d (some (k:Int))=min k n:=by
 show(if(k:Int) < 0 then((k:Int) + (n:Int)).toNat else min (k:Int).toNat n)=min k n;rw[if_neg ⋯,ζG]
end
end HT
namespace L2
open PySem PySem.Spec PyProof.Rows
abbrev TO:=St→Hp→(Option Int→Hp→Prop)→Prop
def PO(X:Cx)(e:Option Expr)(t:TO):Prop :=
 ∀(pins:AL) (s:Shared) (σ:St) (H:Hp) (Q:Option Int→Hp→Prop),Inv X pins σ H s→t σ H Q→
  wpAny (model X.prog X.w) X.A (evalPart e X.env) (λu s'=>∃o H',Inv X pins σ H' s'∧IsPart u o∧Q o H') X.xe s
def V4:TO:=λ_ H Q=>Q none H
def zcN(t:TE):TO:=λσ H Q=>t σ H λx H1=>∃i,x=.int i∧Q (some i) H1
theorem xU{ns:AE}:∀{us:AK},Vals (ns.map V.int) us→IntsAre us ns:=by
 induction ns with
 | nil=>intro us r; rw[List.map_nil]at r; cases r; exact .nil
 | cons n ns ih =>
  intro us r;rw[ζF]at r;cases r with
  | cons r1 r2 =>
   obtain⟨t,e⟩:=r1;subst e;exact .cons n t (ih r2)
section
variable {X:Cx}{e:Expr}{te:TE}{lo hi:Option Expr}{tl th:TO}{pos p2:Pos}
theorem uM:PO X none V4:=by
 intro pins s σ H Q I h;rw[evalPart_none];exact AB ⟨none,H,I,.none,h⟩
theorem uL(h:PE X e te):PO X (some e) (zcN te):=by
 intro pins s σ H Q I hw;rw[evalPart_some];refine thn (h pins s σ H _ I hw) λu s1 ⟨x,H1,I1,r1,q1⟩=>?_;obtain⟨i,rfl,q⟩:=q1;obtain⟨t,rfl⟩:=r1;exact⟨some i,H1,I1,.int i t,q⟩
def SlR(X:Cx)(r:V→Option Int→Option Int→Hp→VK→Prop):Prop :=
 ∀(pins:AL) (s:Shared) (σ:St) (H:Hp) (x:V) (v vl vu:Value) (lo hi:Option Int) (sl:Addr) (Q:VK),Inv X pins σ H s→RelV x v→s.heap.IsSliceOf sl vl vu .none→IsPart vl lo→IsPart vu hi→r x lo hi H Q→
  ∃T id,typeLookup (.type T) "__getitem__" = pure (some (.builtin id))∧s.TypeIs v T∧wpAny (model X.prog X.w) X.A (getItem v (.ref sl)) (EP X pins σ Q) X.xe s
def tSl(r:V→Option Int→Option Int→Hp→VK→Prop)(te:TE)(tl th:TO):TE:=λσ H Q=>te σ H λx H1=>tl σ H1 λl H2=>th σ H2 λu H3=>r x l u H3 Q
theorem vz{r:V→Option Int→Option Int→Hp→VK→Prop}(hr:SlR X r)(he:PE X e te)(hl:PO X lo tl)(hu:PO X hi th):PE X (.Subscript e (.Slice lo hi none p2) pos) (tSl r te tl th):=by
 intro pins s σ H Q I h;refine Subscript_ (thn (he pins s σ H _ I h) λv s1 ⟨x,H1,I1,r1,q1⟩=>?_);refine wpAny_Slice (thn (hl pins s1 σ H1 _ I1 q1) λvl s2 ⟨l,H2,I2,pl,q2⟩=>thn (hu pins s2 σ H2 _ I2 q2) λvu s3 ⟨u,H3,I3,pu,q3⟩=>?_);rw[evalPart_none];refine AB ?_;have I4:Inv X pins σ H3 { s3 with heap:=s3.heap.push { cls:=.type "slice", data:=.fields #[vl,vu,.none] } }:=I3.kept (t':=s3.toks) λb ob q=>ζj _ q;obtain⟨T,id,hT,ht,hg⟩:=hr pins { s3 with heap:=s3.heap.push { cls:=.type "slice", data:=.fields #[vl,vu,.none] } } σ H3 x v vl vu l u s3.heap.objs.size Q I4 r1 (Heap.IsSliceOf.new ..) pl pu q3;show wpAny (model X.prog X.w) X.A (subscriptTail e (.Slice lo hi none p2) v (.ref s3.heap.objs.size)) (EP X pins σ Q) X.xe { s3 with heap:=s3.heap.push { cls:=.type "slice", data:=.fields #[vl,vu,.none] } };exact tail_any (ops:=[.ref s3.heap.objs.size,v]) ht hT hg (by with_unfolding_all rfl)
def cutV(xs:List V)(lo hi:Option Int):List V:=(xs.drop (HT.sIx xs.length 0 lo)).take (HT.sIx xs.length xs.length hi - HT.sIx xs.length 0 lo)
theorem WZ(xs:List V)(lo hi:Option Int):(cutV xs lo hi).length≤xs.length:=by
 unfold cutV;rw[ζN,ζ5];omega
end
def ixN(n:Nat)(i:Int):Option Nat:=if 0≤i then(if i < n then some i.toNat else none)else if -(n:Int)≤i then some (i + n).toNat else none
def atI{α:Type}(xs:List α)(i:Int):Option α:=(ixN xs.length i).bind λj=>xs[j]?
theorem Uw{n:Nat}{i:Int}{j:Nat}(h:ixN n i=some j):seqIndex? i n=some j∧j < n∧-(n:Int)≤i∧i < n:=by
 unfold ixN at h;by_cases h0:0≤i
 ·rw[if_pos h0]at h;by_cases h1:i < n
  ·rw[if_pos h1]at h;have e:i.toNat=j:=ζr h;exact⟨by rw[seqIndex_of h0 h1,e],⋯,⋯,h1⟩
  ·rw[if_neg h1]at h; cases h
 ·rw[if_neg h0]at h;by_cases h1:-(n:Int)≤i
  ·rw[if_pos h1]at h;have e:(i + n).toNat=j:=ζr h;exact⟨by rw[seqIndex_neg ⋯ h1,e],⋯,h1,⋯⟩
  ·rw[if_neg h1]at h; cases h
theorem UT{α:Type}{xs:List α}{i:Int}{v:α}(h:atI xs i=some v):∃j,seqIndex? i xs.length=some j∧xs[j]?=some v∧j < xs.length∧-(xs.length:Int)≤i∧i < xs.length:=by
 unfold atI at h;cases e:ixN xs.length i with
 | none=>rw[e]at h; cases h
 | some j =>
  rw[e]at h;obtain⟨h1,h2,h3,h4⟩:=Uw e;exact⟨j,h1,h,h2,h3,h4⟩
theorem vU{α:Type}{xs:List α}{j:Nat}{v:α}(h:xs[j]?=some v):atI xs (j:Int)=some v:=by
 have hj:j < xs.length:=(ζh.mp h).1;have e:ixN xs.length (j:Int)=some j:=by
  unfold ixN;rw[if_pos ⋯,if_pos ⋯]; simp
 unfold atI; rw[e]; exact h
def UW(b:Expr):Prop:=∀o i,subscripted b false o i=operate [o,i] (getItem o i)
def IxR(X:Cx)(r:R2):Prop :=
 ∀(value slice:Expr) (pins:AL) (s:Shared) (σ:St) (H:Hp) (x y:V) (v u:Value) (Q:VK),Inv X pins σ H s→RelV x v→RelV y u→r x y H Q→
  subscripted slice false v u=operate [v,u] (getItem v u)→wpAny (model X.prog X.w) X.A (subscriptTail value slice v u) (EP X pins σ Q) X.xe s
def MtR(X:Cx)(id:String)(r:V→List V→Hp→VK→Prop):Prop :=
 ∀(pins:AL) (s:Shared) (σ:St) (H:Hp) (x:V) (xs:List V) (v:Value) (us:AK) (Q:VK),Inv X pins σ H s→RelV x v→Vals xs us→r x xs H Q→
  wpAny (model X.prog X.w) X.A (call (.builtin id) (v :: us)) (EP X pins σ Q) X.xe s
section
variable {X:Cx}{a b:Expr}{ta tb:TE}{pos:Pos}
theorem zeH{r:R2}(hr:IxR X r)(ha:PE X a ta)(hb:PE X b tb)(hs:UW b):PE X (.Subscript a b pos) (tOp r ta tb):=by
 intro pins s σ H Q I h;exact Subscript_ (binT ha hb I h λv u s2 x y H2 I2 rx ry q=>hr a b pins s2 σ H2 x y v u Q I2 rx ry q (hs _ _))
def rIxL(K:ζc):R2:=λx y H Q=>∃p xs i v,x=.ref p∧y=.int i∧SqL K H p xs∧atI xs i=some v∧Q v H
def rIxT(K:ζc):R2:=λx y H Q=>∃p xs i v,x=.ref p∧y=.int i∧SqT K H p xs∧atI xs i=some v∧Q v H
theorem zcg:IxR X (rIxL X.K):=by
 intro value slice pins s σ H x y v u Q I rx ry h hs;obtain⟨p,xs,i,z,rfl,rfl,hq,he,q⟩:=h;cases rx;obtain⟨t,rfl⟩:=ry;obtain⟨its,r,pl,hz⟩:=I.list hq;obtain⟨j,h1,h2,h3,h4,h5⟩:=UT he;obtain⟨w,ew,rw'⟩:=r.get h2;have hl:=r.length;have hn:=XE;have fin:EP X pins σ Q w s:=⟨z,H,I,rw',q⟩
 by_cases h0:0≤i
 ·have hj:i.toNat=j:=by
   rw[seqIndex_of h0 h5]at h1;exact ζr h1
  exact item_listR pl.isList h0 ⋯ (by rw[hj]; simpa using ew) fin hs
 ·have hj:(i + (its.toArray.size:Int)).toNat=j:=by
   rw[seqIndex_neg ⋯ h4]at h1;rw[ζS,←hl];exact ζr h1
  exact subscriptTail_builtinR (x:=w) pl.isList.typeIs slot_list_getitem.lookup
   (wpAny_getItem_list_neg (Q:=λr s'=>r=w∧EP X pins σ Q r s') pl.isList ⋯ (by rw[List.size_toArray] <;> omega) ⋯ (by rw[hj]; simpa using ew) ⟨rfl,fin⟩) hs
theorem zdT:IxR X (rIxT X.K):=by
 intro value slice pins s σ H x y v u Q I rx ry h hs;obtain⟨p,xs,i,z,rfl,rfl,hq,he,q⟩:=h;cases rx;obtain⟨t,rfl⟩:=ry;obtain⟨its,r,pl,hz⟩:=I.tuple hq;obtain⟨j,h1,h2,h3,h4,h5⟩:=UT he;obtain⟨w,ew,rw'⟩:=r.get h2;have hl:=r.length;have hn:=XE;have fin:EP X pins σ Q w s:=⟨z,H,I,rw',q⟩
 exact subscriptTail_builtinR (x:=w) pl.typeIs slot_tuple_getitem.lookup
  (getItem_tuple (j:=j) (Q:=λr s'=>r=w∧EP X pins σ Q r s') pl ⋯ ⋯ (by rw[List.size_toArray,←hl]; exact h1) (by simpa using ew) ⟨rfl,fin⟩) hs
theorem VD(its:AK)(n j:Nat)(u:Value):Obj.mapSeq (·.setIfInBounds j u) { cls:=.type "list", data:=.seq its.toArray n }={ cls:=.type "list", data:=.seq (its.set j u).toArray n }:=by
 simp[Obj.mapSeq]
theorem Inv.lst{pins:AL}{σ:St}{H:Hp}{s:Shared}{p:Addr}{xs:List V}(I:Inv X pins σ H s)(h:H p=some (.lst xs)):
  ∃(its:AK) (n:Nat),Vals xs its∧s.heap.get? p=some { cls:=.type "list", data:=.seq its.toArray n }∧xs.length≤sizeLine:=by
 obtain⟨z,its,n,r,e⟩:=I.hok p _ h;exact⟨its,n,r,e,z⟩
theorem Inv.lstUpd{pins:AL}{σ:St}{H:Hp}{s:Shared}{p:Addr}{xs ys:List V}{its its':AK}{n n':Nat}{f:Obj→Obj}(I:Inv X pins σ H s)(h:H p=some (.lst xs))
  (ho:s.heap.get? p=some { cls:=.type "list", data:=.seq its.toArray n }) (hf:f { cls:=.type "list", data:=.seq its.toArray n }={ cls:=.type "list", data:=.seq its'.toArray n' }) (r:Vals ys its') (hz:ys.length≤sizeLine) (t:Nat) :
  Inv X pins σ (upd H p (.lst ys)) { s with heap:=s.heap.update p f,toks:=t }:=by
 have e:(s.heap.update p f).get? p=some { cls:=.type "list", data:=.seq its'.toArray n' }:=by
  rw[ξm f ho (by rw[hf] <;> rfl),hf]
 refine I.write (x:=p) (e:=p) (by rw[h]; trivial) (.inl rfl) (λb u hb q=>(Heap.get?_update_other _ _ (Ne.symm hb)).trans q) ⟨_,e⟩ ?_;exact⟨hz,its',n',r,e⟩
def QM:V→V→V→Hp→(Hp→Prop)→Prop:=λo i v H Q=>∃p xs k j,o=.ref p∧i=.int k∧H p=some (.lst xs)∧ixN xs.length k=some j∧Q (upd H p (.lst (xs.set j v)))
theorem uB:PSet X QM:=by
 intro pins s σ H o i v ov iv u Q I ro ri rv h;obtain⟨p,xs,k,j,rfl,rfl,hp,hj,q⟩:=h;cases ro;obtain⟨t,rfl⟩:=ri;obtain⟨its,n,r,ho,hz⟩:=I.lst hp;obtain⟨h1,h2,h3,h4⟩:=Uw hj;have hl:=r.length;have hn:=XE
 have I':Inv X pins σ (upd H p (.lst (xs.set j v))) { s with heap:=s.heap.update p (Obj.mapSeq (·.setIfInBounds j u)) } :=
  I.lstUpd hp ho (VD its n j u) (r.set rv j) (by rw[ξC]; exact hz) s.toks
 by_cases h0:0≤k
 ·have hk:k.toNat=j:=by
   rw[seqIndex_of h0 h4]at h1;exact ζr h1
  exact PySem.W.ki_setAt ho h0 ⋯ (by rw[ζS,←hl]; exact h4) (by rw[hk]; exact⟨_,I',q⟩)
 ·have hk:(k + (its.toArray.size:Int)).toNat=j:=by
   rw[seqIndex_neg ⋯ h3]at h1;rw[ζS,←hl];exact ζr h1
  exact PySem.W.ki_setBack ho ⋯ (by rw[ζS,←hl]; exact h3) ⋯ (by rw[hk]; exact⟨_,I',q⟩)
theorem YX(lo hi:Option Int)(n:Nat):(sliceBounds lo hi none n).1=((HT.sIx n 0 lo:Nat):Int)∧(sliceBounds lo hi none n).2.1=((HT.sIx n n hi:Nat):Int)∧(sliceBounds lo hi none n).2.2=1:=by
 refine⟨?_,?_,rfl⟩
 ·cases lo with
  | none=>simp[sliceBounds,HT.sIx]
  | some i =>
   simp only[sliceBounds,HT.sIx,Option.getD_none,show(1:Int) > 0 by decide,if_true];by_cases h:i < 0
   ·simp only[h,if_true] <;> omega
   ·simp only[h,if_false] <;> omega
 ·cases hi with
  | none=>simp[sliceBounds,HT.sIx]
  | some i =>
   simp only[sliceBounds,HT.sIx,Option.getD_none,show(1:Int) > 0 by decide,if_true];by_cases h:i < 0
   ·simp only[h,if_true] <;> omega
   ·simp only[h,if_false] <;> omega
theorem Z0(its:AK)(lo hi:Option Int):slicePick its.toArray lo hi none=((its.drop (HT.sIx its.length 0 lo)).take (HT.sIx its.length its.length hi - HT.sIx its.length 0 lo)).toArray:=by
 obtain⟨h1,h2,h3⟩:=YX lo hi its.toArray.size;unfold slicePick;rw[h1,h2,h3];simp only[sliceRange_one,pick_run,List.size_toArray] <;> rfl
def rSlL(K:ζc):V→Option Int→Option Int→Hp→VK→Prop:=λx lo hi H Q=>∃a xs,x=.ref a∧SqL K H a xs∧∀p,H p=none→Q (.ref p) (upd H p (.lst (cutV xs lo hi)))
theorem zbA:SlR X (rSlL X.K):=by
 intro pins s σ H x v vl vu lo hi sl Q I rx hs pl pu h;obtain⟨a,xs,rfl,hx,q⟩:=h;cases rx;obtain⟨its,r,ht,hz⟩:=I.list hx;have hlen:=r.length;refine⟨"list", _,slot_list_getitem.lookup,ht.isList.typeIs,?_⟩
 refine wpAny_getItem_list_slice ht.isList hs pl pu .none (by simp) ?_ (by rw[List.size_toArray] <;> omega);rw[Z0,←hlen];refine⟨.ref s.heap.objs.size,_,I.laid (t':=s.toks) (o:=.lst (cutV xs lo hi)) (λb ob q=>ζj _ q) (ζl _) ?_,rfl,q _ (I.hok.fresh (ζl _))⟩
 exact⟨ζ8 (WZ xs lo hi) hz,_,0,(r.drop (HT.sIx xs.length 0 lo)).take (HT.sIx xs.length xs.length hi - HT.sIx xs.length 0 lo),ζL _ rfl⟩
def uS:V→Bool
 | .non=>true
 | .bl _=>true
 | .int _=>true
 | .str _=>true
 | _=>false
def eqV:V→V→Bool
 | .non,.non=>true
 | .bl a,.bl b=>a == b
 | .bl a,.int b=>(if a then 1 else 0) == b
 | .int a,.bl b=>a == (if b then 1 else 0)
 | .int a,.int b=>a == b
 | .str a,.str b=>a == b
 | _,_=>false
theorem zee{A:Around}{s:Shared}{y x:V}{u v:Value}(ry:RelV y u)(rx:RelV x v)(fy:uS y=true)(fx:uS x=true):SeqAt.EqAt A s u v (eqV y x):=by
 cases y with
 | non =>
  cases ry;cases x with
  | non=>cases rx; exact SeqAt.EqAt.same _
  | bl b=>cases rx; exact SeqAt.EqAt.none_bool b
  | int b=>obtain⟨t,rfl⟩:=rx; exact SeqAt.EqAt.none_int b t
  | str b=>obtain⟨t,rfl⟩:=rx; exact SeqAt.EqAt.none_str b t
  | _=>exact absurd (show false=true from fx) ζD
 | bl a =>
  cases ry;cases x with
  | non=>cases rx; exact SeqAt.EqAt.bool_none a
  | bl b=>cases rx; exact SeqAt.EqAt.bool_bool a b
  | int b=>obtain⟨t,rfl⟩:=rx; exact SeqAt.EqAt.bool_int a b t
  | str b=>obtain⟨t,rfl⟩:=rx; exact SeqAt.EqAt.bool_str a b t
  | _=>exact absurd (show false=true from fx) ζD
 | int a =>
  obtain⟨t',rfl⟩:=ry;cases x with
  | non=>cases rx; exact SeqAt.EqAt.int_none a t'
  | bl b=>cases rx; exact SeqAt.EqAt.int_bool a t' b
  | int b=>obtain⟨t,rfl⟩:=rx; exact SeqAt.EqAt.int_int a t' b t
  | str b=>obtain⟨t,rfl⟩:=rx; exact SeqAt.EqAt.int_str a t' b t
  | _=>exact absurd (show false=true from fx) ζD
 | str a =>
  obtain⟨t',rfl⟩:=ry;cases x with
  | non=>cases rx; exact SeqAt.EqAt.str_none a t'
  | bl b=>cases rx; exact SeqAt.EqAt.str_bool a t' b
  | int b=>obtain⟨t,rfl⟩:=rx; exact SeqAt.EqAt.str_int a t' b t
  | str b=>obtain⟨t,rfl⟩:=rx; exact SeqAt.EqAt.str_str a t' b t
  | _=>exact absurd (show false=true from fx) ζD
 | _=>exact absurd (show false=true from fy) ζD
def eqU(x:V)(u:Value):Bool:=match u with
 | .none=>eqV .non x
 | .bool b=>eqV (.bl b) x
 | .int i _=>eqV (.int i) x
 | .str z _=>eqV (.str z) x
 | _=>false
theorem zaY{x y:V}{u:Value}(r:RelV y u)(f:uS y=true):eqU x u=eqV y x:=by
 cases y with
 | non=>cases r; rfl
 | bl b=>cases r; rfl
 | int i=>obtain⟨t,rfl⟩:=r; rfl
 | str z=>obtain⟨t,rfl⟩:=r; rfl
 | _=>exact absurd (show false=true from f) ζD
theorem u6{x:V}:∀{xs:List V} {us:AK},Vals xs us→xs.all uS=true→us.any (eqU x)=xs.any λy=>eqV y x
 | _,_,.nil,_=>rfl
 | y :: xs,u :: us,.cons r t,f=>by
  rw[List.all_cons,ξZ]at f;rw[ξF,ξF,zaY r f.1,u6 t f.2]
theorem vC{A:Around}{s:Shared}{x:V}{v:Value}(rx:RelV x v)(fx:uS x=true):∀{xs:List V} {us:AK},Vals xs us→xs.all uS=true→∀u∈us,SeqAt.EqAt A s u v (eqU x u)
 | _,_,.nil,_=>λu hu=>by cases hu
 | y :: xs,u :: us,.cons r t,f=>λu' hu=>by
  rw[List.all_cons,ξZ]at f;rcases ζw.mp hu with rfl | hu
  ·rw[zaY r f.1]; exact zee r rx f.1 fx
  ·exact vC rx fx t f.2 u' hu
def inV(x:V)(xs:List V):Bool:=xs.any λy=>eqV y x
def rIn(K:ζc)(neg:Bool):R2:=λx y H Q=>∃p xs,y=.ref p∧(SqL K H p xs∨SqT K H p xs)∧uS x=true∧xs.all uS=true∧Q (.bl (if neg then !inV x xs else inV x xs)) H
theorem Tg:OpR X (compareOp .In) (rIn X.K false):=by
 intro pins s σ H x y v u Q I rx ry h;obtain⟨p,xs,rfl,hq,fx,fs,q⟩:=h;cases ry;rcases hq with hq | hq
 ·obtain⟨its,r,pl,hz⟩:=I.list hq;refine SeqAt.in_listAt (eqU x) pl.isList (λw hw=>vC rx fx r fs w (by simpa using hw)) ⟨.bl _,H,I,rfl,?_⟩;rw[show its.toArray.any (eqU x)=its.any (eqU x)by simp,u6 r fs];exact q
 ·obtain⟨its,r,pl,hz⟩:=I.tuple hq;refine SeqAt.in_tupleAt (eqU x) pl (λw hw=>vC rx fx r fs w (by simpa using hw)) ⟨.bl _,H,I,rfl,?_⟩;rw[show its.toArray.any (eqU x)=its.any (eqU x)by simp,u6 r fs];exact q
theorem Xo:OpR X (compareOp .NotIn) (rIn X.K true):=by
 intro pins s σ H x y v u Q I rx ry h;obtain⟨p,xs,rfl,hq,fx,fs,q⟩:=h;cases ry;rcases hq with hq | hq
 ·obtain⟨its,r,pl,hz⟩:=I.list hq;refine SeqAt.notIn_listAt (eqU x) pl.isList (λw hw=>vC rx fx r fs w (by simpa using hw)) ⟨.bl _,H,I,rfl,?_⟩;rw[show its.toArray.any (eqU x)=its.any (eqU x)by simp,u6 r fs];exact q
 ·obtain⟨its,r,pl,hz⟩:=I.tuple hq;refine SeqAt.notIn_tupleAt (eqU x) pl (λw hw=>vC rx fx r fs w (by simpa using hw)) ⟨.bl _,H,I,rfl,?_⟩;rw[show its.toArray.any (eqU x)=its.any (eqU x)by simp,u6 r fs];exact q
theorem XY:yX X (.builtin "len") (λxs H Q=>∃p ys,xs=[.ref p]∧(SqL X.K H p ys∨SqT X.K H p ys)∧Q (.int ys.length) H):=by
 intro pins s σ H xs us Q I r h;obtain⟨p,ys,rfl,hq,q⟩:=h;obtain⟨u,rfl,rx⟩:=vf r;cases rx;have hn:=XE;rcases hq with hq | hq
 ·obtain⟨its,r',pl,hz⟩:=I.list hq;have hlen:=r'.length;exact Calls.call_len_list pl.isList (by simp only[List.size_toArray] <;> omega) ⟨.int ys.length,H,I.tok _,⟨s.toks + 1,by rw[List.size_toArray,hlen]⟩,q⟩
 ·obtain⟨its,r',pl,hz⟩:=I.tuple hq;have hlen:=r'.length;exact len_tuple pl (by simp only[List.size_toArray] <;> omega) ⟨.int ys.length,H,I.tok _,⟨s.toks + 1,by rw[List.size_toArray,hlen]⟩,q⟩
theorem XW:yX X (.type "list") (λxs H Q=>∃p ys,xs=[.ref p]∧(SqL X.K H p ys∨SqT X.K H p ys)∧∀l,H l=none→Q (.ref l) (upd H l (.lst ys))):=by
 intro pins s σ H xs us Q I r h;obtain⟨p,ys,rfl,hq,q⟩:=h;obtain⟨u,rfl,rx⟩:=vf r;cases rx
 have fin:∀(its:AK),Vals ys its→ys.length≤sizeLine→∀(h':Heap) (c':Nat),(∀b o',s.heap.get? b=some o'→h'.get? b=some o')→
   h'.get? s.heap.objs.size=some { cls:=.type "list", dict:=none,data:=.seq its.toArray c',slots:=#[] }→EP X pins σ Q (.ref s.heap.objs.size) { s with heap:=h' }:=λits r' hz h' c' kp e =>
  ⟨.ref s.heap.objs.size,_,I.laid (t':=s.toks) kp (ζl _) (show yA X.prog X.w _ h' _ (.lst ys)from⟨hz,its,c',r',e⟩),rfl,q _ (I.hok.fresh (ζl _))⟩
 rcases hq with hq | hq
 ·obtain⟨its,r',pl,hz⟩:=I.list hq;have hlen:=r'.length;obtain⟨o,ho,hc,n,hd⟩:=pl.isList;exact call_list_seq p (.inl rfl) ho hc hd (λh' c' kp e=>fin its r' hz h' c' kp e) (by simp only[List.size_toArray] <;> omega)
 ·obtain⟨its,r',pl,hz⟩:=I.tuple hq;have hlen:=r'.length;obtain⟨o,ho,hc,n,hd⟩:=pl;exact call_list_seq p (.inr rfl) ho hc hd (λh' c' kp e=>fin its r' hz h' c' kp e) (by simp only[List.size_toArray] <;> omega)
def tyV(K:ζc)(T:String)(x:V)(H:Hp):Prop:=match x with
 | .str _=>T = "str"
 | .int _=>T = "int"
 | .ref p=>(T = "list"∧∃xs,SqL K H p xs)∨(T = "tuple"∧∃o,K.lookup p=some o∧o.cls=.type "tuple"∧o.dict=none)∨
   (T = "dict"∧((∃kvs,H p=some (.dK kvs))∨∃kvs,H p=some (.dT kvs)))∨(T = "set"∧∃S n,H p=some (.set S n))
 | _=>False
theorem Qe{pins:AL}{σ:St}{H:Hp}{s:Shared}{T:String}{x:V}{v:Value}(I:Inv X pins σ H s)(r:RelV x v)(ty:tyV X.K T x H):
  s.TypeIs v T∧∀a,v=.ref a→∃ob,s.heap.get? a=some ob∧ob.dict=none:=by
 cases x with
 | str z =>
  obtain⟨t,rfl⟩:=r;cases(show T = "str" from ty);exact⟨typeIs_str s z t,λ_ e=>nomatch e⟩
 | int i =>
  obtain⟨t,rfl⟩:=r;cases(show T = "int" from ty);exact⟨typeIs_int s i t,λ_ e=>nomatch e⟩
 | ref p =>
  cases r;rcases ty with⟨rfl,xs,hq⟩ | ⟨rfl,o,hk,hc,hd⟩ | ⟨rfl,hk⟩ | ⟨rfl,S,n,hk⟩
  ·obtain⟨its,_,pl,_⟩:=I.list hq;refine⟨pl.isList.typeIs,λa e=>?_⟩
   cases e;obtain⟨o,n,e,c,hd,_⟩:=pl;exact⟨o,e,hd⟩
  ·refine⟨⟨o,I.kIn p o hk,hc⟩,λa e=>?_⟩
   cases e;exact⟨o,I.kIn _ o hk,hd⟩
  ·have z:∃o,s.heap.get? p=some o∧o.ExactDict:=by
    rcases hk with⟨kvs,hk⟩ | ⟨kvs,hk⟩
    ·obtain⟨_,_,_,_,o,_,_,e,ex,_⟩:=I.hok p _ hk;exact⟨o,e,ex⟩
    ·obtain⟨_,_,_,_,o,_,_,e,ex,_⟩:=I.hok p _ hk;exact⟨o,e,ex⟩
   obtain⟨o,e,ex⟩:=z;refine⟨⟨o,e,ex.1⟩,λa e2=>?_⟩
   cases e2;exact⟨o,e,ex.2.1⟩
  ·obtain⟨o,_,_,_,e,ex,_⟩:=I.hok p _ hk;refine⟨⟨o,e,ex.1⟩,λa e2=>?_⟩
   cases e2;exact⟨o,e,ex.2.1⟩
 | _=>exact False.elim ty
def tBM0(K:ζc)(T:String)(r:V→List V→Hp→VK→Prop)(to:TE):TE:=λσ H Q=>to σ H λx H1=>tyV K T x H1∧r x [] H1 Q
def tBM(K:ζc)(T:String)(r:V→List V→Hp→VK→Prop)(to:TE)(t:TA):TE:=λσ H Q=>to σ H λx H1=>tyV K T x H1∧t σ H1 λxs H2=>r x xs H2 Q
variable {o e:Expr}{es:List Expr}{to:TE}{t:TA}{name:Str}{apos cpos:Pos}{T id:String}{r:V→List V→Hp→VK→Prop}
theorem zdA(pa:PlainAttrs T)(slot:Slot T name id)(hty:typeOf (.builtin id)=pure (.type "method_descriptor"))(hm:MtR X id r)(ho:PE X o to)
  (hbase:attributeBase o name X.env (eval o X.env)=eval o X.env:=by rfl) (hline:(apos.endLine == cpos.line)=true:=by rfl):PE X (.Call (.Attribute o name apos) [] [] cpos) (tBM0 X.K T r to):=by
 intro pins s σ H Q I h;refine wpAny_Call_method0_late hbase hline (thn (ho pins s σ H _ I h) λv s1 ⟨x,H1,I1,r1,ty,q1⟩=>?_);obtain⟨h1,h2⟩:=Qe I1 r1 ty;exact⟨T,id,pa,slot,hty,h1,h2,Calls.callWith_builtin rfl (PySem.evalArgs_none (hm pins s1 σ H1 x [] v [] Q I1 r1 .nil q1))⟩
theorem zeJ(pa:PlainAttrs T)(slot:Slot T name id)(hty:typeOf (.builtin id)=pure (.type "method_descriptor"))(hm:MtR X id r)(ho:PE X o to)(ha:PA X (e :: es) t)
  (hbase:attributeBase o name X.env (eval o X.env)=eval o X.env:=by rfl)
  (hfew:((backTo cpos (starEach (e :: es) X.env)).all (λx=>!x.1) && (backToKw cpos (keywordEach [] X.env)).all (λx=>x.1.isSome)
   && decide ((e :: es).length + ([]:List Keyword).length + (if([]:List Keyword).isEmpty then 0 else 1) < 30))=true:=by rfl)
  (hline:(apos.endLine == cpos.line)=true:=by rfl) (hs:starEach (e :: es) X.env=(false,eval e X.env) :: starEach es X.env:=by rfl) (hplain:(backTo cpos (starEach es X.env)).any (·.1)=false:=by rfl) :
  PE X (.Call (.Attribute o name apos) (e :: es) [] cpos) (tBM X.K T r to t):=by
 intro pins s σ H Q I h;refine wpAny_Call_method_late hbase hfew hline rfl (thn (ho pins s σ H _ I h) λv s1 ⟨x,H1,I1,r1,ty,q1⟩=>?_);obtain⟨h1,h2⟩:=Qe I1 r1 ty;refine⟨T,id,pa,slot,hty,h1,h2,?_⟩
 have hA:=ha cpos pins s1 σ H1 _ I1 q1;rw[hs]at hA ⊢;refine Calls.callWith_builtin (by show(false || (backTo cpos (starEach es X.env)).any (·.1))=false; rw[hplain] <;> rfl) (Calls.evalArgs_plain ?_);exact thn hA λus s2 ⟨vs,H2,I2,r2,q2⟩=>hm pins s2 σ H2 x vs v us Q I2 r1 r2 q2
end
def MtM(X:Cx)(id:String)(r:V→List V→Hp→VK→Prop):Prop :=
 ∀(pins:AL) (s:Shared) (σ:St) (H:Hp) (x:V) (xs:List V) (v:Value) (us:AK) (Q:VK),Inv X pins σ H s→RelV x v→Vals xs us→r x xs H Q→
  wpAny (model X.prog X.w) X.A (call (.builtin id) (v :: us)) (EP X pins σ Q) X.xe s
theorem Vals.one:∀{x:V} {us:AK},Vals [x] us→∃u,us=[u]∧RelV x u
 | _,_,.cons r .nil=>⟨_,rfl,r⟩
theorem Vals.two:∀{x y:V} {us:AK},Vals [x,y] us→∃u v,us=[u,v]∧RelV x u∧RelV y v
 | _,_,_,.cons r (.cons q .nil)=>⟨_,_,rfl,r,q⟩
theorem Vals.zero:∀{us:AK},Vals [] us→us=[]
 | _,.nil=>rfl
theorem Vals.dropLast{xs:List V}{us:AK}(h:Vals xs us):Vals xs.dropLast us.dropLast:=by
 induction h with
 | nil=>exact .nil
 | cons r t ih =>
  cases t with
  | nil=>exact .nil
  | cons q t'=>exact .cons r ih
theorem Vals.rep{xs:List V}{us:AK}(h:Vals xs us):∀k:Nat,Vals (List.replicate k xs).flatten (List.replicate k us).flatten
 | 0=>.nil
 | k + 1=>by
  rw[ξd,ξd,ξH,ξH];exact Vals.append h (Vals.rep h k)
theorem VM{α:Type}(l:List α):l.eraseIdx (l.length - 1)=l.dropLast:=by
 induction l with
 | nil=>rfl
 | cons a r ih =>
  cases r with
  | nil=>rfl
  | cons b r =>
   have e:(a :: b :: r).length - 1=((b :: r).length - 1) + 1:=by
    have h1:(a :: b :: r).length=r.length + 2:=rfl;have h2:(b :: r).length=r.length + 1:=rfl;omega
   rw[e,List.eraseIdx_cons_succ,ih]
   all_goals rfl
theorem YA(its:AK):∀(k:Nat) (acc:AK),
  List.foldl (λx1 x2=>x1 ++ x2) acc.toArray (List.replicate k its.toArray)=(acc ++ (List.replicate k its).flatten).toArray
 | 0,acc=>by simp
 | k + 1,acc=>by
  have e:acc.toArray ++ its.toArray=(acc ++ its).toArray:=by simp
  have e2:(acc ++ its) ++ (List.replicate k its).flatten=acc ++ (List.replicate (k + 1) its).flatten:=by
   rw[ξd,ξH,ξI]
  rw[←e2,←YA its k (acc ++ its),←e,ξd,List.foldl_cons]
section
variable {X:Cx}{pins:AL}{σ:St}{H:Hp}{s:Shared}{l b:Addr}{xs ys zs:List V}
theorem Inv.lset{its its':AK}{n:Nat}{f:Array Value→Array Value}{t':Nat}(I:Inv X pins σ H s)(hH:H l=some (.lst xs))
  (e:s.heap.get? l=some { cls:=.type "list", data:=.seq its.toArray n }) (hf:f its.toArray=its'.toArray) (hv:Vals ys its') (hz:ys.length≤sizeLine) :
  Inv X pins σ (upd H l (.lst ys)) { s with heap:=s.heap.update l (Obj.mapSeq f),toks:=t' }:=by
 have q:=PySem.IsL.update e f;rw[hf]at q;refine I.write (x:=l) (e:=l) (by rw[hH]; exact trivial) (.inl rfl) (λb' u hb hu=>(Heap.get?_update_other s.heap (Obj.mapSeq f) (Ne.symm hb)).trans hu) ⟨_,q⟩ ?_;exact⟨hz,its',_,hv,q⟩
theorem Inv.lnew{its:AK}{t':Nat}(I:Inv X pins σ H s)(hv:Vals ys its)(hz:ys.length≤sizeLine):
  Inv X pins σ (upd H s.heap.objs.size (.lst ys)) { s with heap:=s.heap.push { cls:=.type "list", data:=.seq its.toArray },toks:=t' } :=
 I.laid (λ_ _ q=>ζj _ q) (ζl _) ⟨hz,its,0,hv,ζL _ rfl⟩
theorem Inv.fresh(I:Inv X pins σ H s):H s.heap.objs.size=none:=I.hok.fresh (ζl _)
theorem Inv.lstM(I:Inv X pins σ H s)(hH:H l=some (.lst xs)):xs.length≤sizeLine∧∃(its:AK) (n:Nat),Vals xs its∧xs.length=its.length∧s.heap.get? l=some { cls:=.type "list", data:=.seq its.toArray n }:=by
 obtain⟨z,its,n,r,e⟩:=I.hok l _ hH;exact⟨z,its,n,r,r.length,e⟩
theorem WK{n:Nat}(h:n≤sizeLine):Builtin.List.listTooLong n=false:=by
 unfold Builtin.List.listTooLong;exact decide_eq_false ⋯
end
section
variable {X:Cx}
def x4:V→List V→Hp→VK→Prop:=λx vs H Q=>∃l xs y,x=.ref l∧vs=[y]∧H l=some (.lst xs)∧xs.length < sizeLine∧Q .non (upd H l (.lst (xs ++ [y])))
theorem zV:MtM X "list.append" x4:=by
 intro pins s σ H x vs v us Q I rx rv h;obtain⟨l,xs,y,rfl,rfl,hH,hz,q⟩:=h;cases rx;obtain⟨u,rfl,ru⟩:=rv.one;obtain⟨z,its,n,r,hl,e⟩:=I.lstM hH;refine call_meets F.slot_list_append ⟨_,e,rfl⟩ F.entry_list_append (F.args_list_append_2 _ _) (PySem.list_append l its.toArray n u (by rw[ζS]; omega)) ⟨e,?_⟩;refine⟨.non,_,I.lset (its':=its ++ [u]) hH e (by simp) (r.append (.cons ru .nil)) ?_,rfl,q⟩
 rw[ζg,List.length_singleton];omega
def rPop:V→List V→Hp→VK→Prop:=λx vs H Q=>∃l xs y,x=.ref l∧vs=[]∧H l=some (.lst xs)∧xs[xs.length - 1]?=some y∧Q y (upd H l (.lst xs.dropLast))
theorem zab:MtM X "list.pop" rPop:=by
 intro pins s σ H x vs v us Q I rx rv h;obtain⟨l,xs,y,rfl,rfl,hH,hy,q⟩:=h;cases rx;have hus:=rv.zero;subst hus;obtain⟨z,its,n,r,hl,e⟩:=I.lstM hH;obtain⟨u,hu,ru⟩:=r.get hy;have hy':its.toArray[its.toArray.size - 1]?=some u:=by
  show its.toArray[its.length - 1]?=some u;rw[←ξg,←hl];exact hu
 refine call_meets F.slot_list_pop ⟨_,e,rfl⟩ F.entry_list_pop (F.args_list_pop_1 _) (MeetsSeq.list_pop_last l its.toArray n u hy' (by rw[ζS]; omega)) ⟨e,?_⟩;refine⟨y,_,I.lset (its':=its.dropLast) hH e ?_ r.dropLast ?_,ru,q⟩
 ·show its.toArray.eraseIdxIfInBounds (its.toArray.size - 1)=its.dropLast.toArray;rw[ζS,List.eraseIdxIfInBounds_toArray,VM]
 ·rw[List.length_dropLast];omega
def rRep:R2:=λx y H Q=>∃l k xs,x=.ref l∧y=.int k∧H l=some (.lst xs)∧-(2 ^ 63)≤k∧k < 2 ^ 63∧xs.length * k.toNat≤sizeLine∧
 ∀p,H p=none→Q (.ref p) (upd H p (.lst (List.replicate k.toNat xs).flatten))
theorem zce{α:Type}(xs:List α)(k:Nat):(List.replicate k xs).flatten.length=k * xs.length:=by
 induction k with
 | zero=>simp
 | succ k ih=>rw[ξd,ξH,ζg,ih,Nat.succ_mul,Nat.add_comm]
theorem ZE:OpR X (binaryOp .Mult) rRep:=by
 intro pins s σ H x y v u Q I rx ry h;obtain⟨l,k,xs,rfl,rfl,hH,h1,h2,hz,q⟩:=h;cases rx;obtain⟨t,rfl⟩:=ry;obtain⟨z,its,n,r,hl,e⟩:=I.lstM hH;have hlen:its.toArray.size * k.toNat≤sizeLine:=by rw[ζS,←hl]; exact hz
 have hcap:¬its.toArray.size * k.toNat > (2 ^ 63 - 1) / 8:=by
  have:(sizeLine:Nat)≤(2 ^ 63 - 1) / 8:=by decide
  omega
 have hfit:¬(!Builtin.List.listFitsIndex k)=true:=by
  rw[fitsIndex_both h1 h2];exact ζD
 have hlong:¬Builtin.List.listTooLong (its.toArray.size * k.toNat)=true:=by
  rw[WK hlen];exact ζD
 have hnew:List.foldl (λx1 x2=>x1 ++ x2) #[] (List.replicate (if its.toArray.isEmpty=true then 0 else k.toNat) its.toArray)=(List.replicate k.toNat its).flatten.toArray:=by
  have f0:∀m:Nat,List.foldl (λx1 x2=>x1 ++ x2) #[] (List.replicate m its.toArray)=(List.replicate m its).flatten.toArray:=λm=>by
   have:=YA its m [];rw[List.nil_append]at this;exact this
  rw[f0];cases its with
  | nil=>simp
  | cons a r'=>rw[if_neg (by simp)]
 refine wpAny_binaryOp_repeat_ref (T := "list") (U := "int") #[2] ⟨_,e,rfl⟩ (λs'=>typeIs_int s' k t) noFill_list_mul F.fills_int_mul F.slot_int_rmul repeat_list F.slot_int_index.lookup
  (call_meets F.slot_int_rmul (typeIs_int s k t) F.entry_int_rmul (F.args_int_rmul_2 _ _) (int___rmul___int_list k t l its.toArray n)
   ⟨e,rfl,⟨_,e,rfl⟩,call_meets F.slot_list_mul ⟨_,e,rfl⟩ F.entry_list_mul (F.args_list_mul_2 _ _) (AutoListH.list___mul___list_int_3 l its.toArray n k t hfit hcap hlong) ⟨e,?_⟩⟩)
 rw[hnew];exact⟨.ref _,_,I.lnew (t':=s.toks) (r.rep k.toNat) (by rw[zce,Nat.mul_comm]; exact hz),rfl,q _ I.fresh⟩
end
section
variable {prog:Program}{w:World}{A:Around}{E:AN}{s:Shared}
end
section
variable {X:Cx}
end
end L2
namespace Att
open PySem PySem.W PySem.Calls PyProof.Rows
theorem t5{P:Params}{h:Heap}:∀(ns:AE) (vs:AK),WellAll P h vs (ns.map WData.int)→IntsAre vs ns:=by
 intro ns;induction ns with
 | nil =>
  intro vs w;rw[List.map_nil]at w;cases w;exact .nil
 | cons n ns ih =>
  intro vs w;rw[ζF]at w;cases w with
  | cons a b =>
   cases a;exact .cons _ _ (ih _ b)
theorem U2{l:OpenLaw}{n:Nat}(hn:l.most=some n){P:Params}{h:Heap}{args:List WData}{vals:AK}
  (hpre:l.row.toRowW.claim.pre args=true) (hwl:WellAll P h vals args) :
  ∃a vs ns,vals=[Value.ref a]∧args=[WData.list (ns.map WData.int)]∧h.get? a=some { cls:=.type "list", data:=.seq vs.toArray }∧IntsAre vs ns∧ns.length≤n:=by
 have hsh:WShape.hasAll [] args [.list .int]=true:=(pre_splitW hpre).1;have hc:l.pre.holds [] { args:=args }=true:=(pre_splitW hpre).2;obtain⟨d,r,rfl,h1,h2⟩:=hasAllW_cons hsh;obtain rfl:=hasAllW_nil h2;obtain⟨xs,rfl,h3⟩:=hasW_list h1;obtain⟨ns,rfl⟩:=items_int h3;have hlen:ns.length≤n:=by
  unfold OpenLaw.pre at hc;have h4:(WTm.not (.lt (.lit (.int (n:Int))) (.len (.arg 0)))).holds [] { args:=[.list (ns.map .int)] }=true:=by
   have h4:=(holds_andW hc).1;rw[hn]at h4;exact h4
  have h5:=condW_of h4 (w_not (w_lt w_lit (w_len_list (w_arg rfl))));rw[ζa]at h5;refine Nat.le_of_not_lt λq=>?_;have q':(n:Int) < ((ns.length:Nat):Int):=by omega
  first
   | (rw[decide_eq_true q']at h5; exact absurd h5 #[2])
   | (simp at h5; omega)
 cases hwl with
 | cons w1 w2 =>
  cases w2;cases w1 with
  | list ho hall=>exact⟨_,_,ns,rfl,rfl,ho,t5 ns _ hall,hlen⟩
theorem Tc(l:OpenLaw)(args:List WData):l.row.toRowW.claim.post args (.bool true) args=true :=
 postW_of (r:=l.row.toRowW) (X:=(true == true))
  (show WShape.has [] (.bool true) .bool=true by first | rfl | decide | simp[WShape.has,WShape.arms,WShape.armsAll])
  (show(WTm.eq .res (.lit (.bool true))).value [] { args:=args,res:=some (.bool true),after:=args }=some (.bool (true == true))from w_eq_bool (w_res rfl) w_lit) rfl
theorem W6{l:OpenLaw}{n:Nat}{q:Program}{loose:AJ}{XP:(Str→Option Value)→Heap→Prop}{YP:World→Heap→Prop}{d:DefRec}
  (hn:l.most=some n) (hdf:d.params.defaults=[])
  (call:∀(w:World) (s₀ s₁:Shared) (mg mb:AO) (fa:Addr) (o:Obj) (pm cd doc:Value) (a:Addr) (vs:AK) (ns:AE),
   Ground q loose [] XP w s₀ mg mb s₁.heap→YP w s₁.heap→
   s₁.heap.get? fa=some o→o.data=.func (docDef d.name d.params d.body d.scope pm cd doc)→s₁.heap.CodeRec cd d.name→mg d.name=some (.ref fa)→
   s₁.heap.get? a=some { cls:=.type "list", data:=.seq vs.toArray }→IntsAre vs ns→ns.length≤n→s₁.gens=#[]→
   codeAny (model l.prog w) callerA (.call (.ref fa) ⟨[.ref a],[]⟩) (λr s'=>r=.ok (.ret (.bool true))∧OldK s₁.heap s'.heap∧s'.os=s₁.os∧AllBare s'.gens) s₁) :
  WalkO q loose XP YP l.row.toRowW d [] (λf vs=>PySem.call f vs):=by
 intro w s₀ s₁ mg mb G Y fa o pm cd doc dV kV ho hd hcd hD hmg hg args vals as hpre hlay hrd hwl hlo;obtain rfl:dV=.none:=Dflts.none hD hdf;obtain rfl:kV=.none:=Dflts.noKw hD;obtain⟨a,vs,ns,rfl,rfl,hobj,hints,hlen⟩:=U2 hn hpre hwl;refine enter_call (codeAny_mono (call w s₀ s₁ mg mb fa o pm cd doc a vs ns G Y ho (fd_plain hd) hcd hmg hobj hints hlen hg) λr s' hq=>?_);obtain⟨rfl,h2,h3,h4⟩:=hq;exact⟨.inl ⟨.bool true,.bool true,[],rfl,λ_=>rfl,.bool true,Tc l _,λ_=>⟨List.Pairwise.nil,λ_ hm=>(nomatch hm)⟩⟩,h2,h3,h4⟩
section
variable {prog:Program}{w:World}{A:Around}{E:AN}{s:Shared}{K:Frag}
end
end Att
namespace L2
open PySem PySem.Spec PyProof.Rows
theorem Yg:∀{vs:AK} {ns:AE},IntsAre vs ns→Vals (ns.map V.int) vs
 | _,_,.nil=>.nil
 | _,_,.cons n t h=>.cons ⟨t,rfl⟩ (Yg h)
theorem Vg{K:ζc}{p:Addr×Str}(h:p∈yq K):∃c o vs,K.lookup c=some o∧o.cls=.type "code"∧o.data=.fields vs∧vs[11]?=some (.ref p.1):=by
 obtain⟨⟨c,_⟩,_,e⟩:=ξP.mp h;obtain⟨o,e1,e2⟩:=Option.bind_eq_some_iff.mp e;unfold Qm at e2;split at e2
 ·rename_i vs h1 h2;split at e2
  ·rename_i q t P h3 h4;split at e2
   ·cases e2;exact⟨c,o,vs,e1,h1,h2,h4⟩
   ·cases e2
  ·cases e2
 ·cases e2
theorem zan{P:Program}{w:World}{K:ζc}{mg mb:AO}{CX:CXT}{k:Nat}{fa a:Addr}{fd:FuncData}{x:Str}{sp:Sp}{s₁:Shared}{vs:AK}{ns:AE}
  (KX:K.In s₁.heap) (hT0:(∀p∈yq K,s₁.heap.get? p.1=some (PySem.W.tabObj #[]))∧YU K=true)
  (hbm:∃bm ob,mg "__builtins__" = some (.ref bm)∧bm≠builtinsNs∧s₁.heap.get? bm=some ob∧ob.cls=.type "module"∧ob.dict=some builtinsNs∧ob.data=.plain)
  (hns:s₁.heap.Ns mainGlobals mg) (hb:s₁.heap.Ns builtinsNs mb) (hbb:∀x:Str,x ≠ "__name__"→mb x=bootBuiltins x) (hlim:s₁.heap.NoLimit) (hg:s₁.gens=#[])
  (ha:s₁.heap.get? a=some { cls:=.type "list", data:=.seq vs.toArray }) (hi:IntsAre vs ns) (hl:ns.length≤sizeLine) (hr:Room k callerA)
  (F:∀base:Heap,K.In base→base.Ns mainGlobals mg→FnOk P w K mg base CX k fa fd [x] sp) (hbind:∀(s:Shared) (u:Value),BindsTo s fd ⟨[u],[]⟩ [(x,u)])
  (hsp:∀H:Hp,SqL K H a (ns.map V.int)→sp [.ref a] H (λv _=>v=.bl true) λ_ _ _=>False)
  (hCX:∀H e s',CX [] H s₁ (λ_ _ _=>False) e s'→False) :
  codeAny (model P w) callerA (.call (.ref fa) ⟨[.ref a],[]⟩) (λr s'=>r=.ok (.ret (.bool true))∧OldK s₁.heap s'.heap∧s'.os=s₁.os∧AllBare s'.gens) s₁:=by
 have uq:=hT0.2;unfold YU at uq;have hT:∀p∈yq K,s₁.heap.get? p.1=some (PySem.W.tabObj #[])∧K.lookup p.1=none:=λp hp=>⟨hT0.1 p hp,by
  have:=ξE.mp uq p hp;simp only[Bool.and_eq_true]at this;exact Option.isNone_iff_eq_none.mp this.1⟩
 have one:∀p q:Addr×Str,p∈yq K→q∈yq K→p.1=q.1→p.2=q.2:=λp q hp hq e=>by
  have:=ξE.mp uq p hp;simp only[Bool.and_eq_true]at this;have:=ξE.mp this.2 q hq;simpa[e]using this
 have rv:=Yg hi;have lenV:=hi.length
 have core:∀H:Hp,SqL K H a (ns.map V.int)→HOk P w H s₁.heap→(∀b,H b=none∨(b=a∧∃o xs,H b=some (.frz o (.lst xs)))∨∃p∈yq K,b=p.1∧∃ps,H b=some (.tbl ps))→(H a≠none→K.lookup a=none)→TbOk K H→
   codeAny (model P w) callerA (.call (.ref fa) ⟨[.ref a],[]⟩) (λr s'=>r=.ok (.ret (.bool true))∧OldK s₁.heap s'.heap∧s'.os=s₁.os∧AllBare s'.gens) s₁:=by
  intro H hS hok hA hK hTb;have base_of:∀{b:Addr} {o:Obj},s₁.heap.get? b=some o→H b=none→(hidT s₁.heap H).get? b=some o:=λe n=>zau e n;have noA:∀{b:Addr} {o:Obj},s₁.heap.get? b=some o→(∀vs:Array Value,∀n,o.data≠.seq vs n)→(∀vs,o.data≠.fields vs)→H b=none:=λ{b o} e d1 d2=>by
   rcases hA b with z | ⟨rfl,_⟩ | ⟨p,hp,rfl,_⟩
   ·exact z
   ·rw[ha]at e; cases e;exact absurd rfl (d1 _ _)
   ·rw[(hT p hp).1]at e; cases e;exact absurd rfl (d2 _)
  have nsK:∀{b:Addr} {m:AO},s₁.heap.Ns b m→(hidT s₁.heap H).Ns b m:=λ{b m} ⟨o,es,ep,e,d,r⟩=>⟨o,es,ep,base_of e (noA e (λ_ _ z=>by rw[d]at z; cases z) λ_ z=>by rw[d]at z; cases z),d,r⟩
  have hKb:K.In (hidT s₁.heap H):=λb o e=>base_of (KX b o e) (by
   rcases hA b with z | ⟨rfl,_,_,z⟩ | ⟨p,hp,rfl,_⟩
   ·exact z
   ·rw[hK (by rw[z]; simp)]at e; cases e
   ·rw[(hT p hp).2]at e; cases e)
  have hM:Mod K mg (hidT s₁.heap H):=⟨hKb,nsK hns,⟨mb,nsK hb,hbb⟩,let⟨mc,h1,h2⟩:=hlim; ⟨mc,nsK h1,h2⟩,let⟨bm,ob,q1,q2,q3,q4,q5,q6⟩:=hbm; ⟨bm,ob,q1,q2,base_of q3 (noA q3 (λ_ _ z=>by rw[q6]at z; cases z) λ_ z=>by rw[q6]at z; cases z),q4,q5,q6⟩⟩
  have e0:Env0 P w K mg (hidT s₁.heap H) callerA [] s₁ H:=⟨rfl,hM,λb o e=>zb9 e,Nat.le_of_eq (Ty _ _),trivial,λb hb=>absurd (show b∈([]:List Addr)from hb) (by simp),hok,.of_eq hg,hTb⟩
  refine codeAny_mono ((F _ hKb (nsK hns)).run callerA [] s₁ H ⟨[.ref a],[]⟩ [.ref a] [.ref a] _ _ hr e0 (hbind s₁ (.ref a)) (.cons rfl .nil) (hsp H hS)) λr s' h=>?_;cases r with
  | error e=>exact(hCX H e s' h).elim
  | ok fl =>
   cases fl with
   | next=>exact False.elim h
   | brk=>exact False.elim h
   | cont=>exact False.elim h
   | ret u =>
    obtain⟨v,H',os,bare,un,hok',r',q⟩:=h;have q':v=.bl true:=q;subst q';obtain rfl:u=Value.bool true:=r';refine⟨rfl,⟨λb o e=>?_,λb o e=>un.there b o e (by simp)⟩,os,bare⟩
    rcases hA b with z | ⟨rfl,ob,xs,z⟩ | ⟨p,hp,rfl,ps,z⟩
    ·exact .inl (un.keep b o e z (by intro z; exact absurd (show b∈([]:List Addr)from z) (by simp)) (by simp))
    ·have z2:=un.frzs _ ob _ z;obtain⟨e1,_⟩:=hok _ _ z;obtain⟨e2,_⟩:=hok' _ _ z2;rw[e]at e1; cases e1;exact .inl e2
    ·obtain⟨m,z2⟩:=un.tbls _ _ z;obtain⟨vs',e2,_⟩:=hok' _ _ z2;obtain⟨c,oc,cs,k1,k2,k3,k4⟩:=Vg hp;rw[(hT p hp).1]at e;cases e;exact .inr (.inl ⟨⟨c,oc,cs,KX _ _ k1,k2,k3,k4⟩,rfl,#[],vs',rfl,by simpa using e2⟩)
 have tabH:∀{H:Hp} {p:Addr×Str},p∈yq K→yA P w H s₁.heap p.1 (.tbl #[.str p.2 0]):=λ{H p} hp=>⟨#[],(hT p hp).1,trivial,λq v z=>by cases z⟩
 let HT:Hp:=λb=>((yq K).find? λp=>p.1 == b).map λp=>HO.tbl #[.str p.2 0];have HTat:∀b,HT b=none∨∃p∈yq K,b=p.1∧HT b=some (.tbl #[.str p.2 0]):=λb=>by
  cases q:(yq K).find? λp=>p.1 == b with
  | none=>exact .inl (by show Option.map _ _=none; rw[q]; rfl)
  | some p=>exact .inr ⟨p,List.mem_of_find?_eq_some q,(show p.1=b by have:=List.find?_some q; simpa using this).symm,by show Option.map _ _=_; rw[q]; rfl⟩
 have HTok:TbOk K HT:=λp hp=>by
  rcases HTat p.1 with z | ⟨q,hq,e,z⟩
  ·exfalso;have z':Option.map _ ((yq K).find? λq=>q.1 == p.1)=none:=z;rw[Option.map_eq_none_iff,List.find?_eq_none]at z';exact z' p hp (by simp)
  ·exact⟨0,#[],by rw[z,one p q hp hq e]; simp⟩
 cases hk:K.lookup a with
 | some o =>
  have e:=KX a o hk;rw[ha]at e;cases e;refine core HT (.inr ⟨_,vs.toArray,_,hk,rfl,rfl,rfl,by rw[List.size_toArray,lenV]; exact hl,by simpa using rv⟩) (λb u z=>?_) (λb=>?_) (λz=>?_) HTok
  ·rcases HTat b with y | ⟨p,hp,rfl,y⟩
   ·rw[y]at z; cases z
   ·rw[y]at z; cases z; exact tabH hp
  ·rcases HTat b with y | ⟨p,hp,e,y⟩
   ·exact .inl y
   ·exact .inr (.inr ⟨p,hp,e,_,y⟩)
  ·rcases HTat a with y | ⟨p,hp,rfl,y⟩
   ·exact absurd y z
   ·exact(hT p hp).2
 | none =>
  have na:∀p∈yq K,p.1≠a:=λp hp e=>by
   have:=(hT p hp).1;rw[e,ha]at this; cases this
  refine core (λb=>if b=a then some (.frz { cls:=.type "list", data:=.seq vs.toArray } (.lst (ns.map V.int)))else HT b) (.inl (.inr ⟨{ cls:=.type "list", data:=.seq vs.toArray },if_pos rfl⟩)) (λb u z=>?_) (λb=>?_) (λ_=>hk) λp hp=>?_
  ·by_cases hb:b=a
   ·have z':=(if_pos hb).symm.trans z;cases z';subst hb;exact⟨ha,by rw[ζa]; exact hl,vs,_,rv,ha⟩
   ·have z':=(if_neg hb).symm.trans z;rcases HTat b with y | ⟨p,hp,rfl,y⟩
    ·rw[y]at z'; cases z'
    ·rw[y]at z'; cases z'; exact tabH hp
  ·by_cases hb:b=a
   ·exact .inr (.inl ⟨hb,_,_,if_pos hb⟩)
   ·rcases HTat b with y | ⟨p,hp,e,y⟩
    ·exact .inl ((if_neg hb).trans y)
    ·exact .inr (.inr ⟨p,hp,e,_,(if_neg hb).trans y⟩)
  ·obtain⟨t,m,e⟩:=HTok p hp;exact⟨t,m,(if_neg (na p hp)).trans e⟩
theorem zbo{l:PySem.W.OpenLaw}{n k:Nat}{q:Program}{loose:AJ}{XP:(Str→Option Value)→Heap→Prop}{YP:World→Heap→Prop}{d:DefRec}{K:Params→ζc}{CX:World→CXT}{sp:World→Sp}{x:Str}
  (hn:l.most=some n) (hn2:n≤sizeLine) (hdf:d.params.defaults=[]) (hr:Room k callerA)
  (hY:∀(w:World) (h:Heap),YP w h→(K w.params).In h) (hT:∀(w:World) (h:Heap),YP w h→(∀p∈yq (K w.params),h.get? p.1=some (PySem.W.tabObj #[]))∧YU (K w.params)=true)
  (F:∀(w:World) (mg:AO) (fa:Addr) (h:Heap),(K w.params).In h→h.Ns mainGlobals mg→mg d.name=some (.ref fa)→
   ∃fd:FuncData,(∀(s:Shared) (u:Value),BindsTo s fd ⟨[u],[]⟩ [(x,u)])∧
    ∀base:Heap,(K w.params).In base→base.Ns mainGlobals mg→FnOk l.prog w (K w.params) mg base (CX w) k fa fd [x] (sp w))
  (hsp:∀(w:World) (H:Hp) (a:Addr) (ns:AE),ns.length≤n→SqL (K w.params) H a (ns.map V.int)→sp w [.ref a] H (λv _=>v=.bl true) λ_ _ _=>False)
  (hCX:∀(w:World) (H:Hp) (s:Shared) (e:Value) (s':Shared),CX w [] H s (λ_ _ _=>False) e s'→False) :
  PySem.W.WalkO q loose XP YP l.row.toRowW d [] (λf vs=>PySem.call f vs):=by
 refine Att.W6 hn hdf λw s₀ s₁ mg mb fa o pm cd doc a vs ns G Y ho hd hcd hmg hobj hints hlen hg=>?_;have KX:=hY w _ Y;obtain⟨fd,hb,hF⟩:=F w mg fa _ KX G.T.g hmg;exact zan KX (hT w _ Y) G.T.bmain G.T.g G.T.b G.T.builtins G.T.nolimit hg hobj hints (ζ8 hlen hn2) hr hF hb (λH hS=>hsp w H a ns hlen hS) λH e s'=>hCX w H s₁ e s'
def wn(s:Stmt):Arguments:=match s with
 | .FunctionDef _ a _ _ _ _ _ _ _ _=>a
 | _=>{ posonlyargs:=[],args:=[],vararg:=none,kwonlyargs:=[],kw_defaults:=[],kwarg:=none,defaults:=[] }
def xE(s:Stmt):List Stmt:=match s with
 | .FunctionDef _ _ b _ _ _ _ _ _ _=>b
 | _=>[]
def zn(s:Stmt):Scope:=match s with
 | .FunctionDef _ _ _ _ _ _ sc _ _ _=>sc
 | _=>{ kind:=.function,names:=[],isGenerator:=false,isCoroutine:=false }
abbrev CX0:CXT:=λ_ _ _ _ _ _=>False
abbrev E0:XK:=λ_ _ _=>False
theorem Q6{X:Cx}:ZY CX0 X E0:=λ_ _ _ _ _ _ _ h=>h.elim
structure Fun(K:ζc)(x qual:Str)(st:Stmt)(f:Addr)(fd:FuncData):Prop where
 ex:∃(oc:Value) (od:Option Addr) (kV doc pm:Value) (an:Option Addr) (cdv ct:Value) (osl:Array (Option Value)),
  fd=PySem.W.fnOf x qual (wn st) (xE st) (zn st) .none kV doc pm an cdv ct∧K.lookup f=some ⟨oc,od,.func fd,osl⟩∧PySem.W.codeIn K cdv qual=true
 kp:PySem.W.keepIn K (.ref f)=true
section
variable {P:Program}{w:World}{K:ζc}{mg:AO}{base:Heap}
theorem Fun.ok{x qual:Str}{st:Stmt}{f:Addr}{fd:FuncData}{N ps:AJ}{k:Nat}{sp:Sp}(F:Fun K x qual st f fd)(S:zw N ps (zn st))(len:∀vs H Q E,sp vs H Q E→vs.length=ps.length)
  (hbody:∀(cdv:Value) (A:Around) (outer:List Env) (s:Shared) (H:Hp) (vs:List V) (Q:VK) (E:XK),Room k (A.deeper (envOfC qual (zn st) s.heap.objs.size f cdv))→sp vs H Q E→
   ∃t,PSs (cxOf CX0 P w K mg base N qual (zn st) f cdv A outer s H E).nox (xE st) t∧t { nx:=λ_ H'=>Q .non H',rt:=Q } (yF N vs) H):FnOk P w K mg base CX0 (k + 1) f fd ps sp:=by
 obtain⟨oc,od,kV,doc,pm,an,cdv,ct,osl,rfl,lk,hcd⟩:=F.ex;refine zc5 lk hcd S len λA outer s H vs Q E hr hsp=>?_;obtain⟨t,h,q⟩:=hbody cdv A outer s H vs Q E hr hsp;exact⟨t,h.nox,q⟩
theorem Fun.binds{x qual:Str}{st:Stmt}{f:Addr}{fd:FuncData}{ps:AJ}(F:Fun K x qual st f fd)
  (h:∀(kV doc pm:Value) (an:Option Addr) (cdv ct:Value) (us:AK),us.length=ps.length→bindArgs (PySem.W.fnOf x qual (wn st) (xE st) (zn st) .none kV doc pm an cdv ct) ⟨us,[]⟩=pure (ps.zip us)):wJ K fd ps []:=by
 obtain⟨oc,od,kV,doc,pm,an,cdv,ct,osl,rfl,lk,hcd⟩:=F.ex;exact .all (h kV doc pm an cdv ct)
theorem VF{x qual:Str}{st:Stmt}{f:Addr}{oc:Value}{od an:Option Addr}{osl:Array (Option Value)}{kV doc pm cdv ct:Value}(l:K.lookup f=some ⟨oc,od,.func (PySem.W.fnOf x qual (wn st) (xE st) (zn st) .none kV doc pm an cdv ct),osl⟩)
  (c:PySem.W.codeIn K cdv qual=true) (k:PySem.W.keepIn K (.ref f)=true):Fun K x qual st f (PySem.W.fnOf x qual (wn st) (xE st) (zn st) .none kV doc pm an cdv ct):=⟨⟨oc,od,kV,doc,pm,an,cdv,ct,osl,rfl,l,c⟩,k⟩
end
theorem zat{A:Around}{k:Nat}(hr:Room k A):A.units + 1 < cLine:=ζ6 (Nat.add_le_add_left (by decide:1≤64) _) hr.units
section
variable {X:Cx}
theorem pv(i:Nat){x:Str}{pos:Pos}(hN:X.N[i]?=some x:=by rfl)(hv:Vis X.env.scope x:=by first | exact Or.inl rfl | exact Or.inr (.inl rfl) | exact Or.inr (.inr rfl))(hd:(x == ("__debug__" : Str))=false:=by decide)
  (hcd:(x == ("__classdict__" : Str))=false:=by decide):PE X (.Name x pos) (tVar i):=Vs hN hv hd hcd
end
theorem iteF{A B:Prop}(h:B):if false=true then A else B:=by
 rw[if_neg ζD];exact h
theorem iteT{A B:Prop}(h:A):if true=true then A else B:=by
 rw[if_pos rfl];exact h
def Same(H H':Hp):Prop:=∀b o,H b=some o→H' b=some o
theorem Same.refl(H:Hp):Same H H:=λ_ _ h=>h
theorem Same.trans{H H1 H2:Hp}(a:Same H H1)(b:Same H1 H2):Same H H2:=λc o h=>b c o (a c o h)
theorem Same.free{H H':Hp}(e:Same H H'){l:Addr}(h:H' l=Option.none):H l=Option.none:=by
 cases q:H l with
 | none=>rfl
 | some o =>
  rw[e l o q]at h;cases h
theorem Same.seq{K:ζc}{H H':Hp}{a:Addr}{xs:List V}(e:Same H H')(h:SqL K H a xs):SqL K H' a xs:=by
 rcases h with(h | ⟨o,h⟩) | h
 ·exact .inl (.inl (e _ _ h))
 ·exact .inl (.inr ⟨o,e _ _ h⟩)
 ·exact .inr h
end L2
set_option maxHeartbeats 1000000
namespace Sh
theorem Yp{g y:Int}(h:0 < g * y)(g0:0 < g):0 < y:=by
 have h2:g * 0 < g * y:=by rw[Int.mul_zero]; exact h
 exact Int.lt_of_mul_lt_mul_left h2 ⋯
theorem WS(a b:Int):Int.gcd b (a % b)=Int.gcd a b:=by
 have h:a % b=a + b * (-(a / b)):=by
  have:=Int.emod_def a b;rw[this,Int.mul_neg]; rfl
 rw[h,Int.gcd_comm,Int.gcd_add_mul_left_left]
structure Low(a b:Int):Prop where
 pos:1≤b
 co:Int.gcd a b=1
abbrev co(a b:Int):Prop:=Int.gcd a b=1
theorem w4{a b:Int}(h:co a b):co b a:=by rw[co,Int.gcd_comm]; exact h
theorem XU{a b c:Int}(h1:co a b)(h2:co a c):co a (b * c):=by
 show Nat.gcd a.natAbs (b * c).natAbs=1;rw[ξB];exact Nat.Coprime.mul_right h1 h2
theorem Zg{a b c:Int}(h1:co b a)(h2:co c a):co (b * c) a:=w4 (XU (w4 h1) (w4 h2))
theorem u5{a b c:Int}(h:co a b)(d:c ∣ b):co a c:=by
 show Nat.Coprime a.natAbs c.natAbs;exact(Nat.Coprime.coprime_dvd_left (Int.natAbs_dvd_natAbs.mpr d) (w4 h)).symm
theorem Zh{a b c:Int}(h:co a b)(d:c ∣ a):co c b:=w4 (u5 (w4 h) d)
theorem Zc{a b:Int}(h:0 < b):0 < ((Int.gcd a b:Nat):Int):=by
 have:0 < Int.gcd a b:=Int.gcd_pos_of_ne_zero_right a ⋯;omega
theorem Yq{a b:Int}(hb:0 < b):∃g x y:Int,((Int.gcd a b:Nat):Int)=g∧0 < g∧a=g * x∧b=g * y∧0 < y∧co x y∧a / g=x∧b / g=y:=by
 have g0:=Zc (a:=a) hb;obtain⟨x,hx⟩:=Int.gcd_dvd_left a b;obtain⟨y,hy⟩:=ξT a b;refine⟨_,x,y,rfl,g0,hx,hy,?_,?_,?_,?_⟩
 ·exact Yp (by rw[←hy]; exact hb) g0
 ·have e:Int.gcd (((Int.gcd a b:Nat):Int) * x) (((Int.gcd a b:Nat):Int) * y)=Int.gcd a b:=by rw[←hx,←hy]
  rw[Int.gcd_mul_left]at e;have e2:(((Int.gcd a b:Nat):Int)).natAbs=Int.gcd a b:=Int.natAbs_natCast _;rw[e2]at e;have p:0 < Int.gcd a b:=by omega
  have e3:Int.gcd a b * Int.gcd x y=Int.gcd a b * 1:=by rw[e,Nat.mul_one]
  exact Nat.eq_of_mul_eq_mul_left p e3
 ·conv=>lhs; lhs; rw[hx]
  exact ξ1 x ⋯
 ·conv=>lhs; lhs; rw[hy]
  exact ξ1 y ⋯
def mk(a b:Int):Int×Int:=(a / (Int.gcd a b:Nat),b / (Int.gcd a b:Nat))
theorem zdK{a b:Int}(hb:0 < b):Low (mk a b).1 (mk a b).2:=by
 obtain⟨g,x,y,e,g0,ha,hb',hy,c,e1,e2⟩:=Yq (a:=a) hb;show Low (a / _) (b / _);rw[e,e1,e2];exact⟨hy,c⟩
theorem zaf{a b:Int}(hb:0 < b):(mk a b).1 * b=a * (mk a b).2:=by
 obtain⟨g,x,y,e,g0,ha,hb',hy,c,e1,e2⟩:=Yq (a:=a) hb;show(a / _) * b=a * (b / _);rw[e,e1,e2,hb',ha,Int.mul_left_comm,ξz]
def pl(a b c d:Int):Int×Int :=
 let g:Int:=(Int.gcd b d:Nat)
 let t:=a * (d / g) + c * (b / g);let r:Int:=(Int.gcd t g:Nat)
 (t / r,(b / g) * (d / r))
theorem QZ{a b c d:Int}(h1:Low a b)(h2:Low c d):Low (pl a b c d).1 (pl a b c d).2∧(pl a b c d).1 * (b * d)=(a * d + b * c) * (pl a b c d).2:=by
 obtain⟨g,b',d',e,g0,hb,hd,hd0,cbd,e1,e2⟩:=Yq (a:=b) (b:=d) h2.pos;have hb0:0 < b':=Yp (by rw[←hb]; exact h1.pos) g0;obtain⟨r,t',g',e',r0,ht,hg,hg0,ctg,e3,e4⟩:=Yq (a:=a * d' + c * b') (b:=g) g0;have hdr:d / r=g' * d':=by
  rw[hd,hg,ξz];exact ξ1 _ ⋯
 have epl:pl a b c d=(t',b' * (g' * d')):=by
  simp only[pl];rw[e,e1,e2,e',e3,hdr]
 rw[epl];have ca:co a b':=u5 h1.co ⟨g,by rw[hb,ξo]⟩;have cc:co c d':=u5 h2.co ⟨g,by rw[hd,ξo]⟩;have dt:t' ∣ a * d' + c * b':=⟨r,by rw[ht,ξo]⟩
 have ctb:co (a * d' + c * b') b':=by
  show Int.gcd _ _=1;rw[Int.gcd_add_mul_right_left];exact Zg ca (w4 cbd)
 have ctd:co (a * d' + c * b') d':=by
  show Int.gcd _ _=1;rw[Int.add_comm,Int.gcd_add_mul_right_left];exact Zg cc cbd
 refine⟨⟨?_,XU (Zh ctb dt) (XU ctg (Zh ctd dt))⟩,?_⟩
 ·have:0 < b' * (g' * d'):=Int.mul_pos hb0 (Int.mul_pos hg0 hd0);show 1≤b' * (g' * d');omega
 ·show t' * (b * d)=(a * d + b * c) * (b' * (g' * d'));have q:a * d + b * c=g * (r * t'):=by
   rw[←ht,hb,hd,Int.mul_add];congr 1
   ·rw[Int.mul_left_comm]
   ·rw[ξz,ξo b' c]
  have q2:b * d=g * b' * (r * g' * d'):=by rw[hb,←hg,←hd]
  rw[q,q2];simp only[Int.mul_left_comm,Int.mul_comm]
def tm(a b c d:Int):Int×Int :=
 let f:Int:=(Int.gcd a d:Nat)
 let s:Int:=(Int.gcd c b:Nat)
 ((a / f) * (c / s),(b / s) * (d / f))
theorem zde{a b c d:Int}(h1:Low a b)(h2:Low c d):Low (tm a b c d).1 (tm a b c d).2∧(tm a b c d).1 * (b * d)=(a * c) * (tm a b c d).2:=by
 obtain⟨f,a',d',e,f0,ha,hd,hd0,cad,e1,e2⟩:=Yq (a:=a) (b:=d) h2.pos;obtain⟨s,c',b',e',s0,hc,hb,hb0,ccb,e3,e4⟩:=Yq (a:=c) (b:=b) h1.pos;have etm:tm a b c d=(a' * c',b' * d'):=by
  simp only[tm];rw[e,e1,e2,e',e3,e4]
 rw[etm];have ca:co a' b':=Zh (u5 h1.co ⟨s,by rw[hb,ξo]⟩) ⟨f,by rw[ha,ξo]⟩;have cc:co c' d':=Zh (u5 h2.co ⟨f,by rw[hd,ξo]⟩) ⟨s,by rw[hc,ξo]⟩;refine⟨⟨?_,XU (Zg ca ccb) (Zg cad cc)⟩,?_⟩
 ·have:0 < b' * d':=Int.mul_pos hb0 hd0;show 1≤b' * d';omega
 ·show a' * c' * (b * d)=a * c * (b' * d');rw[hb,hd,ha,hc];simp only[Int.mul_left_comm,Int.mul_comm]
theorem zay{a b:Int}(h:1≤b):(((Int.gcd a b:Nat):Int)).natAbs≤b.natAbs:=by
 rw[Int.natAbs_natCast];exact Nat.le_of_dvd ⋯ (Nat.gcd_dvd_right a.natAbs b.natAbs)
theorem uu{a g:Int}(h:g ∣ a):(a / g).natAbs≤a.natAbs:=by
 rw[Int.natAbs_ediv_of_dvd h];exact Nat.div_le_self _ _
theorem QW{m n:Nat}(h:m≤n):2 ^ m≤2 ^ n:=ξw #[2] h
theorem VA{a b:Int}{m n:Nat}(h1:a.natAbs < 2 ^ m)(h2:b.natAbs < 2 ^ n):(a * b).natAbs < 2 ^ (m + n):=by
 rw[ξB,Nat.pow_add];exact Nat.mul_lt_mul'' h1 h2
theorem zeo{a b:Int}{m:Nat}(h1:a.natAbs < 2 ^ m)(h2:b.natAbs < 2 ^ m):(a + b).natAbs < 2 ^ (m + 1):=by
 have:=Int.natAbs_add_le a b;rw[ξ0];omega
theorem up{a:Int}{m n:Nat}(h1:a.natAbs < 2 ^ m)(h:m≤n):a.natAbs < 2 ^ n:=ζH h1 (QW h)
theorem dn{a b:Int}{m:Nat}(h:a.natAbs≤b.natAbs)(h1:b.natAbs < 2 ^ m):a.natAbs < 2 ^ m:=ζ6 h h1
end Sh
namespace Wd
def digs:AE→Int→AE
 | [],_=>[]
 | s :: r,p=>(p % s) :: digs r (p / s)
def prod:AE→Int
 | []=>1
 | s :: r=>s * prod r
theorem ZS:∀(ss:AE) (p:Int),(digs ss p).length=ss.length
 | [],_=>rfl
 | _ :: r,p=>congrArg (· + 1) (ZS r _)
theorem vo:∀{ss:AE},(∀s∈ss,0 < s)→0 < prod ss
 | [],_=>by decide
 | s :: r,h=>Int.mul_pos (h s ζf) (vo λx hx=>h x (ζk _ hx))
def rkF(ss ws:AE):Int:=(ss.zip ws).foldl (λa x=>a * x.1 + x.2) 0
def wld(ss:AE)(p:Int):AE:=(digs ss.reverse p).reverse
theorem tP:∀(a b:AE),prod (a ++ b)=prod a * prod b
 | [],b=>(Int.one_mul _).symm
 | s :: r,b=>by
  show s * prod (r ++ b)=s * prod r * prod b;rw[tP r b,ξz]
theorem YQ(ss:AE)(p:Int):(wld ss p).length=ss.length:=by unfold wld; rw[List.length_reverse,ZS,List.length_reverse]
def rng(n:Nat):AE:=(List.range n).map λ(i:Nat)=>(i:Int)
def chs(s:Int)(k:Option Int):AE:=(rng s.toNat).filter λv=>match k with | none=>true | some x=>decide (v=x)
def grow(hs:AH)(cs:AE):AH:=hs.flatMap λh=>cs.map λc=>h ++ [c]
def wbyF(fd:AH):List (Int×Option Int)→AH
 | []=>fd
 | x :: r=>wbyF (grow fd (chs x.1 x.2)) r
def wby(ss:AE)(vw:List (Option Int)):AH:=wbyF [[]] (ss.zip vw)
theorem u7:∀(l:List (Int×Option Int)) (fd:AH) (x:Int×Option Int),wbyF fd (l ++ [x])=grow (wbyF fd l) (chs x.1 x.2)
 | [],_,_=>rfl
 | y :: r,fd,x=>u7 r (grow fd (chs y.1 y.2)) x
theorem ZL(hs:AH)(cs:AE):(grow hs cs).length=hs.length * cs.length:=by
 induction hs with
 | nil=>simp[grow]
 | cons h r ih =>
  show((cs.map λc=>h ++ [c]) ++ grow r cs).length=_;rw[ζg,ζa,ih,ζY,Nat.succ_mul,Nat.add_comm]
theorem UP(s:Int)(k:Option Int):(chs s k).length≤s.toNat:=by
 refine ζ8 (ζV _ _) ?_;unfold rng;rw[ζa,ζz];exact ζl _
theorem zbb(s:Int):chs s none=rng s.toNat:=by
 unfold chs;rw[List.filter_eq_self];intro a _;rfl
theorem Yy(hs:AH)(h:AE)(cs:AE):grow (hs ++ [h]) cs=grow hs cs ++ cs.map λc=>h ++ [c]:=by
 unfold grow;rw[List.flatMap_append];simp
theorem tf(ss:AE)(s:Int):prod (ss ++ [s])=prod ss * s:=by
 rw[tP];show prod ss * (s * 1)=_;rw[Int.mul_one]
theorem Ta(n s:Nat){α:Type}(f:Nat→α):(List.range (n * s)).map f=(List.range n).flatMap λq=>(List.range s).map λr=>f (q * s + r):=by
 induction n with
 | zero=>simp
 | succ n ih =>
  rw[Nat.succ_mul,List.range_add,ζv,ih,List.range_succ,List.flatMap_append];congr 1;simp
def wds(ss:AE):AH:=(rng (prod ss).toNat).map λi=>wld ss i
theorem X2(ss:AE)(s p:Int):wld (ss ++ [s]) p=wld ss (p / s) ++ [p % s]:=by
 unfold wld;rw[List.reverse_append];show(digs (s :: ss.reverse) p).reverse=_;show((p % s) :: digs ss.reverse (p / s)).reverse=_;rw[List.reverse_cons]
theorem uw{ss:AE}{s:Int}(h:∀x∈ss,0 < x)(hs:0 < s):wds (ss ++ [s])=grow (wds ss) (rng s.toNat):=by
 have pp:=vo h;have e:(prod (ss ++ [s])).toNat=(prod ss).toNat * s.toNat:=by
  rw[tf];have h1:prod ss=((prod ss).toNat:Int):=by omega
  have h2:s=(s.toNat:Int):=by omega
  conv=>lhs; rw[h1,h2,←ξR]
  rw[ζG]
 unfold wds rng grow;rw[e,ζA,Ta,ζA];simp only[List.flatMap_map,List.map_map];congr 1;funext q;refine ζn λr hr=>?_;have hr':r < s.toNat:=ζE.mp hr;show wld (ss ++ [s]) ((q * s.toNat + r:Nat):Int)=wld ss (q:Int) ++ [(r:Int)];rw[X2];have h2:((q * s.toNat + r:Nat):Int)=(r:Int) + s * (q:Int):=by
  have:s=(s.toNat:Int):=by omega
  conv=>rhs; rw[this]
  rw[ξl,ξR,ξo,Int.add_comm]
 rw[h2,Int.add_mul_ediv_left _ _ ⋯,Int.add_mul_emod_self_left,Int.ediv_eq_zero_of_lt ⋯ ⋯,ξJ ⋯ ⋯,Int.zero_add]
theorem zbl:wds []=[[]]:=rfl
theorem zbn:∀(n:Nat) (ss:AE),ss.length=n→(∀x∈ss,0 < x)→wby ss (List.replicate n none)=wds ss:=by
 intro n;induction n with
 | zero =>
  intro ss h _;have e:ss=[]:=ζZ h;subst e;rfl
 | succ n ih =>
  intro ss h hp;obtain⟨t,s,rfl⟩:∃t s,ss=t ++ [s]:=⟨ss.dropLast,ss.getLast (by intro e; rw[e]at h; cases h),(ξf _).symm⟩
  have hl:t.length=n:=by rw[List.length_append]at h; simpa using h
  have e:(t ++ [s]).zip (List.replicate (n + 1) (none:Option Int))=t.zip (List.replicate n none) ++ [(s,none)]:=by
   rw[List.replicate_succ',List.zip_append (by rw[hl,ζT])];rfl
  unfold wby;rw[e,u7];have ih':=ih t hl λx hx=>hp x (ζM _ hx);unfold wby at ih';rw[ih',zbb];exact(uw (λx hx=>hp x (List.mem_append_left _ hx)) (hp s (by simp))).symm
theorem zbN(n:Nat):(rng n).length=n:=by unfold rng; rw[List.length_map,List.length_range]
theorem zbO{n i:Nat}(h:i < n):(rng n)[i]?=some (i:Int):=by
 unfold rng;rw[ζo,ξD h];rfl
theorem yL(ss:AE):(wds ss).length=(prod ss).toNat:=by unfold wds; rw[List.length_map,zbN]
theorem zbm{ss:AE}{i:Nat}(h:i < (prod ss).toNat):(wds ss)[i]?=some (wld ss i):=by
 unfold wds;rw[ζo,zbO h];rfl
end Wd
namespace L2
open PySem PySem.Spec PyProof.Rows PySem.SeqAt
theorem UR{k:Int}{n:Nat}(h:k.natAbs < 2 ^ n):Builtin.Int.intBits k≤n:=by
 unfold Builtin.Int.intBits;by_cases h0:k=0
 ·subst h0; exact ξj _
 ·have hk:k.natAbs≠0:=by omega
  rw[if_neg (by simpa using h0)];exact(Nat.log2_lt hk).mpr h
theorem ZI{i j:Int}{m n:Nat}(hi:i.natAbs < 2 ^ m)(hj:j.natAbs < 2 ^ n)(hs:m + n≤2 ^ 27):IntMulOk i j:=by
 have h1:=UR hi;have h2:=UR hj;unfold IntMulOk;intro h;rw[ξZ]at h;have h3:decide (((Builtin.Int.intBits i + Builtin.Int.intBits j:Nat):Int) > (bitsLine:Int))=true:=by
  have h4:=h.2;unfold Builtin.Int.intTooBig at h4;simpa using h4
 have h5:((Builtin.Int.intBits i + Builtin.Int.intBits j:Nat):Int) > (bitsLine:Int):=of_decide_eq_true h3;have h6:bitsLine=2 ^ 27:=rfl;rw[h6]at h5;omega
section
variable {X:Cx}
theorem yj:OpR X (binaryOp .Mult) (rI IntMulOk λi j=>.int (i * j)):=opI λ_ _ _ _ _ _ _ hc q=>mul_int q hc
def vM(_ j:Int):Prop:=0 < j∧j.natAbs < 2 ^ 9000
theorem yN:OpR X (binaryOp .FloorDiv) (rI vM λi j=>.int (i / j)):=opI λi j _ _ _ _ _ hc q=>by
 have h1:(0:Int) < j:=hc.1;have h2:j.natAbs.log2 < 9000:=(Nat.log2_lt ⋯).mpr hc.2;exact floordiv_int ⋯ (by rw[Int.fdiv_eq_ediv_of_nonneg i ⋯]; exact q) (.inl (PyProof.noPylong_of_log2 h2))
mutual
inductive Dp(K:ζc)(H:Hp):V→AD→Prop
 | non:Dp K H .non .none
 | bl (b:Bool):Dp K H (.bl b) (.bool b)
 | int (i:Int):Dp K H (.int i) (.int i)
 | str (x:Str):Dp K H (.str x) (.str x)
 | lst {a:Addr} {xs:List V} {ds:AG}:SqL K H a xs→zQ K H xs ds→Dp K H (.ref a) (.list ds)
 | tup {a:Addr} {xs:List V} {ds:AG}:SqT K H a xs→zQ K H xs ds→Dp K H (.ref a) (.tuple ds)
inductive zQ(K:ζc)(H:Hp):List V→AG→Prop
 | nil:zQ K H [] []
 | cons {v:V} {vs:List V} {d:AD} {ds:AG}:Dp K H v d→zQ K H vs ds→zQ K H (v :: vs) (d :: ds)
end
mutual
theorem Dp.reads{pins:AL}{σ:St}{H:Hp}{s:Shared}(I:Inv X pins σ H s):∀{x:V} {d:AD} {u:Value},Dp X.K H x d→RelV x u→∃as,Reads s.heap u d as
 | _,_,u,.non,r=>by cases(show u=Value.none from r); exact⟨_,.none⟩
 | _,_,u,.bl b,r=>by cases(show u=Value.bool b from r); exact⟨_,.bool b⟩
 | _,_,u,.int i,r=>by obtain⟨t,e⟩:=(show∃t,u=Value.int i t from r); subst e; exact⟨_,.int i t⟩
 | _,_,u,.str x,r=>by obtain⟨t,e⟩:=(show∃t,u=Value.str x t from r); subst e; exact⟨_,.str x t⟩
 | _,_,u,@Dp.lst _ _ a xs ds h k,r=>by
  cases(show u=Value.ref a from r);obtain⟨its,rv,⟨o,n,e,c,_,d⟩,_⟩:=I.list h;obtain⟨as,ra⟩:=zQ.reads I k rv;exact⟨_,.list e c d (by simpa using ra)⟩
 | _,_,u,@Dp.tup _ _ a xs ds h k,r=>by
  cases(show u=Value.ref a from r);obtain⟨its,rv,⟨o,e,c,n,d⟩,_⟩:=I.tuple h;obtain⟨as,ra⟩:=zQ.reads I k rv;exact⟨_,.tuple e c d (by simpa using ra)⟩
theorem zQ.reads{pins:AL}{σ:St}{H:Hp}{s:Shared}(I:Inv X pins σ H s):∀{xs:List V} {ds:AG} {us:AK},zQ X.K H xs ds→Vals xs us→∃as,ReadsAll s.heap us ds as
 | _,_,_,.nil,.nil=>⟨_,.nil⟩
 | _,_,_,.cons h k,.cons r t=>by
  obtain⟨as,ra⟩:=Dp.reads I h r;obtain⟨bs,rb⟩:=zQ.reads I k t;exact⟨_,.cons ra rb⟩
end
def rEqD(K:ζc)(neg:Bool):R2:=λx y H Q=>∃d e,Dp K H x d∧Dp K H y e∧shaped d=true∧shaped e=true∧Q (.bl (if neg then !PyData.eqv d e else PyData.eqv d e)) H
theorem zdG(hu:X.A.units + 64 < cLine):OpR X (compareOp .NotEq) (rEqD X.K true):=by
 intro pins s σ H x y v u Q I rx ry h;obtain⟨d,e,h1,h2,z1,z2,q⟩:=h;obtain⟨as,ra⟩:=h1.reads I rx;obtain⟨bs,rb⟩:=h2.reads I ry;exact ne_dataH ra rb z1 z2 hu ⟨.bl (!PyData.eqv d e),H,I,rfl,q⟩
theorem Inv.turnNew{pins:AL}{σ:St}{H:Hp}{s:Shared}{h':Heap}{fp:List Addr}{T:Addr}{o:HO}{t':Nat}(I:Inv X pins σ H s)(hf:∀b∈fp,FpOk X pins H b)
  (k:∀b u,b∉fp→s.heap.get? b=some u→h'.get? b=some u) (hT:s.heap.objs.size≤T) (new:yA X.prog X.w (upd H T o) h' T o):Inv X pins σ (upd H T o) { s with heap:=h',toks:=t' }:=by
 have hn:H T=none:=I.hok.fresh hT;have nfp:∀b u,H b=some u→b∉fp:=λb u e z=>by rw[(hf b z).1]at e; cases e
 have neT:∀b u,s.heap.get? b=some u→b≠T:=λb u e=>ζQ (ζH (ζq e) hT)
 refine I.step (g':=s.gens) (d':=s.drawn) (ch:=fp) (λb hb=>⟨(hf b hb).2.2.2.1,(hf b hb).2.1,(hf b hb).2.2.2.2.1,(hf b hb).2.2.2.2.2⟩) (λb u _ _ hc e _=>k b u hc e) (λb u _ _ hc e _=>⟨u.slots,k b u hc e⟩)
  (λb u _ e n=>by rw[zr (neT b u e)]; exact n) (λb u hc e=>⟨u,k b u hc e⟩) (λb xs e=>by rw[zr (zL e hn)]; exact e) (λb u v e=>by rw[zr (zL e hn)]; exact e) (λb ps e=>⟨#[],by rw[zr (zL e hn),e]; simp⟩)
  (λm hm=>?_) (λb u e=>?_) I.bare
 ·obtain⟨ob,es,ep,ho,r⟩:=hm;exact⟨ob,es,ep,k _ ob (λz=>(hf _ z).2.1 rfl) ho,r⟩
 ·by_cases hb:b=T
  ·subst hb; rw[zk]at e; cases e; exact new
  ·rw[zr hb]at e;refine(I.hok b u e).stay (λc v hc q=>k c v ?_ q) (λc q=>by rw[zr (zL q hn)]; exact q) λc xs q=>by rw[zr (zL q hn)]; exact q
   rcases hc with z | z
   ·rw[z]; exact nfp b u e
   ·exact nfp c _ z
theorem Inv.turnAll{pins:AL}{σ:St}{H:Hp}{s:Shared}{h':Heap}{fp:List Addr}{t':Nat}(I:Inv X pins σ H s)(hf:∀b∈fp,FpOk X pins H b)
  (k:∀b u,b∉fp→s.heap.get? b=some u→h'.get? b=some u):Inv X pins σ H { s with heap:=h',toks:=t' }:=by
 have nfp:∀b u,H b=some u→b∉fp:=λb u e z=>by rw[(hf b z).1]at e; cases e
 refine I.step (g':=s.gens) (d':=s.drawn) (ch:=fp) (λb hb=>⟨(hf b hb).2.2.2.1,(hf b hb).2.1,(hf b hb).2.2.2.2.1,(hf b hb).2.2.2.2.2⟩) (λb u _ _ hc e _=>k b u hc e) (λb u _ _ hc e _=>⟨u.slots,k b u hc e⟩)
  (λb u _ e n=>n) (λb u hc e=>⟨u,k b u hc e⟩) (λb xs e=>e) (λb u v e=>e) (λb ps e=>⟨#[],by rw[e]; simp⟩)
  (λm hm=>?_) (λb u e=>?_) I.bare
 ·obtain⟨ob,es,ep,ho,r⟩:=hm;exact⟨ob,es,ep,k _ ob (λz=>(hf _ z).2.1 rfl) ho,r⟩
 ·refine(I.hok b u e).stay (λc v hc q=>k c v ?_ q) (λc q=>q) λc xs q=>q;rcases hc with z | z
  ·rw[z]; exact nfp b u e
  ·exact nfp c _ z
end
theorem ad{m n:Nat}(h:m≠n):(show Addr from m)≠(show Addr from n):=h
def Itz(K:ζc)(a b:Addr):It :=
 ⟨λi H=>∃xs x ys y,SqL K H a xs∧xs[i]?=some x∧SqL K H b ys∧ys[i]?=some y,
  λi H x H'=>∃T u v,H T=none∧x=.ref T∧H'=upd H T (.tup [u,v])∧(∀xs,SqL K H a xs→xs[i]?=some u)∧∀ys,SqL K H b ys→ys[i]?=some v,
  λi H=>∃xs ys,SqL K H a xs∧SqL K H b ys∧(xs.length≤i∨ys.length≤i)⟩
theorem Qg{P:Program}{w:World}{K:ζc}{es:List Expr}{k:Nat}{tpos:Pos}(a b n:Addr):
  Turn P w K (.Tuple es k tpos) (Itz K a b) [n + 4,n + 2,n + 3,n,n + 1] (n + 4)
   (λi h=>IsZip h (n + 4) (n + 2) (n + 3) .none∧IsPair h (n + 2) (.ref n) (.ref (n + 1))∧(∃u v,IsPair h (n + 3) u v)∧h.IsListIter n a i∧h.IsListIter (n + 1) b i) where
 mem:=by simp
 obj:=λi h st c hc=>by
  obtain⟨hz,hI,⟨u,v,hO⟩,⟨o1,e1,_,d1⟩,⟨o2,e2,_,d2⟩⟩:=st;simp only[List.mem_cons,List.not_mem_nil,or_false]at hc;rcases hc with rfl | rfl | rfl | rfl | rfl
  ·exact⟨_,hz,λv z=>by have z':Data.fields _=Data.cell v:=z; cases z'⟩
  ·exact⟨_,hI,λv z=>by have z':Data.seq _ _=Data.cell v:=z; cases z'⟩
  ·exact⟨_,hO,λv z=>by have z':Data.seq _ _=Data.cell v:=z; cases z'⟩
  ·exact⟨_,e1,λv z=>by rw[d1]at z; cases z⟩
  ·exact⟨_,e2,λv z=>by rw[d2]at z; cases z⟩
 keep:=λi h h' st k=>by
  obtain⟨hz,hI,⟨u,v,hO⟩,h1,h2⟩:=st;exact⟨k _ (by simp) _ hz,k _ (by simp) _ hI,⟨u,v,k _ (by simp) _ hO⟩,h1.at λo e=>k _ (by simp) o e,h2.at λo e=>k _ (by simp) o e⟩
 item:=by
  intro X hP hw hK hc i pins s σ H E I hf st hg;subst hP hw hK;obtain⟨hz,hI,⟨u0,v0,hO⟩,h1,h2⟩:=st;obtain⟨xs,x,ys,y,hxs,hx,hys,hy⟩:=hg;obtain⟨its,rx,px,zx⟩:=I.list hxs;obtain⟨jts,ry,py,zy⟩:=I.list hys;obtain⟨u,hu,ru⟩:=rx.get hx;obtain⟨v,hv,rv⟩:=ry.get hy;have nofp:∀{c:Addr} {zs:List V},SqL X.K H c zs→∀d∈[n + 4,n + 2,n + 3,n,n + 1],c≠d:=λ{c zs} hq d hd e=>by
   subst e;have hn:=(hf c hd).1;rcases hq with(q | ⟨o,q⟩) | ⟨o,its,m,q,_⟩
   ·rw[hn]at q; cases q
   ·rw[hn]at q; cases q
   ·have hb:X.base.get? c=some o:=I.ok.mod.kin c o q;rcases(hf c hd).2.2.2.1 with z | z
    ·exact I.ok.noex c o hb z
    ·exact absurd (ζH (ζq hb) (ζ8 I.ok.bsz z)) (ξk _)
  have D:ZipApart (n + 4) (n + 2) (n + 3) n (n + 1) a b:=by
   have na:=nofp hxs;have nb:=nofp hys;exact⟨ad ⋯,ad ⋯,ad ⋯,ad ⋯,ad ⋯,ad ⋯,ad ⋯,ad ⋯,ad ⋯,ad ⋯,na _ (by simp),na _ (by simp),na _ (by simp),na _ (by simp),nb _ (by simp),nb _ (by simp),nb _ (by simp),nb _ (by simp)⟩
  refine wpAny_pyNext_zip_item D hz hI hO h1 h2 px.isList py.isList (x:=u) (y:=v) (by simpa using hu) (by simpa using hv) λh' z' o' i1' i2' t' sz' kp=>?_;refine⟨_,rfl,wpAny_letOwnedTupleGo_zip z' λh'' z'' sb=>?_⟩
  have kp2:∀c o,c∉[n + 4,n + 2,n + 3,n,n + 1]→s.heap.get? c=some o→h''.get? c=some o:=λc o hc e =>
   (sb.2 c (λz=>hc (by simp[z]))).trans (kp c o (λz=>hc (by simp[z])) (λz=>hc (by simp[z])) (λz=>hc (by simp[z])) (λz=>hc (by simp[z])) e)
  have lts:∀c∈[n + 4,n + 2,n + 3,n,n + 1],c < s.heap.objs.size:=λc hc=>by
   obtain⟨_,e1,_⟩:=id h1;obtain⟨_,e2,_⟩:=id h2;simp only[List.mem_cons,List.not_mem_nil,or_false]at hc;rcases hc with rfl | rfl | rfl | rfl | rfl
   ·exact ζq hz
   ·exact ζq hI
   ·exact ζq hO
   ·exact ζq e1
   ·exact ζq e2
  have nez:∀{c:Addr},c∈[n + 2,n + 3,n,n + 1]→c≠n + 4:=λ{c} hc=>by
   simp only[List.mem_cons,List.not_mem_nil,or_false]at hc;rcases hc with rfl | rfl | rfl | rfl
   ·exact ad ⋯
   ·exact ad ⋯
   ·exact ad ⋯
   ·exact ad ⋯
  have tz:s.heap.objs.size≠n + 4:=Nat.ne_of_gt (lts _ (by simp));refine⟨.ref s.heap.objs.size,upd H s.heap.objs.size (.tup [x,y]),I.turnNew (t':=s.toks) hf kp2 (ζl _) ?_,rfl,⟨_,x,y,I.hok.fresh (ζl _),rfl,rfl,λzs hq=>by rw[I.list_inj hq hxs]; exact hx,λzs hq=>by rw[I.list_inj hq hys]; exact hy⟩,?_,λc hc=>?_⟩
  ·refine⟨by show 2≤sizeLine; decide,[u,v],.cons ru (.cons rv .nil),⟨_,(sb.2 _ tz).trans t',rfl,_,rfl⟩⟩
  ·refine⟨z'',?_,⟨_,_,(sb.2 _ (nez (by simp))).trans o'⟩,i1'.at λo e=>(sb.2 _ (nez (by simp))).trans e,i2'.at λo e=>(sb.2 _ (nez (by simp))).trans e⟩
   exact(sb.2 _ (nez (by simp))).trans (kp _ _ (ad ⋯) (ad ⋯) (ad ⋯) (ad ⋯) hI)
  ·rw[zr (ζQ (lts c hc))];exact(hf c hc).1
 done:=by
  intro X hP hw hK hc i pins s σ H E I hf st hg;subst hP hw hK;obtain⟨hz,hI,⟨u0,v0,hO⟩,h1,h2⟩:=st;obtain⟨xs,ys,hxs,hys,hl⟩:=hg;obtain⟨its,rx,px,zx⟩:=I.list hxs;obtain⟨jts,ry,py,zy⟩:=I.list hys;have nofp:∀{c:Addr} {zs:List V},SqL X.K H c zs→∀d∈[n + 4,n + 2,n + 3,n,n + 1],c≠d:=λ{c zs} hq d hd e=>by
   subst e;have hn:=(hf c hd).1;rcases hq with(q | ⟨o,q⟩) | ⟨o,its,m,q,_⟩
   ·rw[hn]at q; cases q
   ·rw[hn]at q; cases q
   ·have hb:X.base.get? c=some o:=I.ok.mod.kin c o q;rcases(hf c hd).2.2.2.1 with z | z
    ·exact I.ok.noex c o hb z
    ·exact absurd (ζH (ζq hb) (ζ8 I.ok.bsz z)) (ξk _)
  have D:ZipApart (n + 4) (n + 2) (n + 3) n (n + 1) a b:=by
   have na:=nofp hxs;have nb:=nofp hys;exact⟨ad ⋯,ad ⋯,ad ⋯,ad ⋯,ad ⋯,ad ⋯,ad ⋯,ad ⋯,ad ⋯,ad ⋯,na _ (by simp),na _ (by simp),na _ (by simp),na _ (by simp),nb _ (by simp),nb _ (by simp),nb _ (by simp),nb _ (by simp)⟩
  have l1:=rx.length;have l2:=ry.length;have hend:its.toArray[i]?=none∨jts.toArray[i]?=none:=by
   rcases hl with q | q
   ·left; simp; omega
   ·right; simp; omega
  refine wpAny_pyNext_zip_end (I.ok.hd hc) D hz hI hO h1 h2 px.isList py.isList hend λh' kp=>⟨rfl,I.turnAll (t':=s.toks) hf λc o hc e=>kp c o (λz=>hc (by simp[z])) (λz=>hc (by simp[z])) (λz=>hc (by simp[z])) (λz=>hc (by simp[z])) e⟩
 self:=λ_ _ _ _ _ st h=>wpAny_pyIter_zip st.1 h
section
variable {X:Cx}
def iZip(K:ζc)(ta:TA):TI:=λσ H R=>ta σ H λvs H1=>∃a b,vs=[.ref a,.ref b]∧(∃xs,SqL K H1 a xs)∧(∃ys,SqL K H1 b ys)∧R (Itz K a b) H1
theorem zdu{a b:Expr}{ta:TA}{p pos:Pos}{es:List Expr}{k:Nat}{tpos:Pos}(hg:Gl X "zip")(hm:X.mg "zip" = none)(ha:PA X [a,b] ta)(he:starEach (a :: [b]) X.env=(false,eval a X.env) :: starEach [b] X.env:=by rfl)
  (hpl:(backTo pos (starEach [b] X.env)).any (·.1)=false:=by rfl):PI X (.Tuple es k tpos) (.Call (.Name "zip" p) [a,b] [] pos) (iZip X.K ta):=by
 intro pins s σ H R I h;refine wpAny_Call_Name_kw (ut I hg hm (u:=.type "zip") (by decide +kernel) ?_ #[2] #[2]);refine PyProof.Rows.callWith_type1 (thn (ha pos pins s σ H _ I h) λus s1 ⟨vs,H1,I1,r1,q1⟩=>?_) he hpl;obtain⟨a1,b1,rfl,⟨xs,hx⟩,⟨ys,hy⟩,q⟩:=q1;obtain⟨u,v,rfl,ru,rv⟩:=r1.two;cases(show u=Value.ref a1 from ru);cases(show v=Value.ref b1 from rv);obtain⟨its,rx,px,zx⟩:=I1.list hx;obtain⟨jts,ry,py,zy⟩:=I1.list hy;refine call_zip_2 px.isList py.isList λh' hz hI hO h1 h2 sz kp=>?_;refine wpAny_pyIter_zip hz ?_;refine⟨s1.heap.objs.size + 4,_,_,_,H1,rfl,I1.kept (t':=s1.toks) kp,Qg a1 b1 s1.heap.objs.size,⟨hz,hI,⟨_,_,hO⟩,h1,h2⟩,λc hc=>?_,q⟩
 have hc':s1.heap.objs.size≤c:=by
  simp only[List.mem_cons,List.not_mem_nil,or_false]at hc;rcases hc with rfl | rfl | rfl | rfl | rfl
  ·exact Nat.le_add_right _ _
  ·exact Nat.le_add_right _ _
  ·exact Nat.le_add_right _ _
  ·exact ζl _
  ·exact Nat.le_add_right _ _
 exact I1.fpOk hc' (I1.hok.fresh hc')
def Itv(K:ζc)(a:Addr)(n:Nat):It :=
 ⟨λi H=>i < n∧∃xs,SqL K H a xs∧xs.length=n,λi H x H'=>H'=H∧∀xs,SqL K H a xs→xs[n - 1 - i]?=some x,λi H=>i=n∧∃xs,SqL K H a xs⟩
theorem Qh{P:Program}{w:World}{K:ζc}{tg:Expr}(a it:Addr)(n:Nat):Turn P w K tg (Itv K a n) [it] it (λi h=>i≤n∧h.IsRevIter it a ((n:Int) - 1 - (i:Int))) where
 mem:=by simp
 obj:=λi h st b hb=>by
  have e:b=it:=by simpa using hb
  subst e;obtain⟨_,o,e,c,d⟩:=st;exact⟨o,e,λv z=>by rw[d]at z; cases z⟩
 keep:=λi h h' st k=>⟨st.1,st.2.at λo e=>k it (by simp) o e⟩
 item:=by
  intro X hP hw hK hc i pins s σ H E I hf st hg;subst hP hw hK;obtain⟨hi,xs,hq,hl⟩:=hg;obtain⟨its,rv,p,hz⟩:=I.list hq;have hlt:n - 1 - i < xs.length:=by omega
  have hx:xs[n - 1 - i]?=some (xs[n - 1 - i]):=ζe hlt;obtain⟨u,hu,ru⟩:=rv.get hx;obtain⟨f0,f1,f2,f3,f4,f5⟩:=hf it (by simp);have e1:(n:Int) - 1 - (i:Int)=((n - 1 - i:Nat):Int):=by omega
  have st2:=st.2;rw[e1]at st2;refine wpAny_pyNext_rev_item st2 p.isList (x:=u) (by simpa using hu) λh' st' sb=>?_;have I1:Inv X pins σ H { s with heap:=h' }:=I.turned (t':=s.toks) (λb o hb e=>(sb.2 b hb).trans e) f0 f1 f3 f4 f5;have e2:((n - 1 - i:Nat):Int) - 1=(n:Int) - 1 - ((i + 1:Nat):Int):=by omega
  rw[e2]at st';obtain⟨o,e,c,d⟩:=id st';exact⟨u,rfl,zax (s:={ s with heap:=h' }) e c d #[2] ⟨_,H,I1,ru,⟨rfl,λys hy=>by rw[I.list_inj hy hq]; exact hx⟩,⟨hi,st'⟩,λb hb=>(hf b hb).1⟩⟩
 done:=by
  intro X hP hw hK hc i pins s σ H E I hf st hg;subst hP hw hK;obtain⟨hi,_⟩:=hg;subst hi;obtain⟨f0,f1,f2,f3,f4,f5⟩:=hf it (by simp);have e1:(i:Int) - 1 - (i:Int)=-1:=by omega
  have st2:=st.2;rw[e1]at st2;exact wpAny_pyNext_rev_end (I.ok.hd hc) st2 λh' eb=>⟨rfl,I.turned (t':=s.toks) (λb o hb e=>eb b o hb e) f0 f1 f3 f4 f5⟩
 self:=λ_ _ _ _ _ st h=>wpAny_pyIter_revIter st.2 h
def iRev(K:ζc)(ta:TA):TI:=λσ H R=>ta σ H λvs H1=>∃a xs,vs=[.ref a]∧SqL K H1 a xs∧R (Itv K a xs.length) H1
theorem zdv{a:Expr}{ta:TA}{tg:Expr}{p pos:Pos}(hg:Gl X "reversed")(hm:X.mg "reversed" = none)(ha:PA X [a] ta)(he:starEach (a :: []) X.env=(false,eval a X.env) :: starEach [] X.env:=by rfl):PI X tg (.Call (.Name "reversed" p) [a] [] pos) (iRev X.K ta):=by
 intro pins s σ H R I h;refine wpAny_Call_Name_kw (ut I hg hm (u:=.type "reversed") (by decide +kernel) ?_ #[2] #[2]);refine PyProof.Rows.callWith_type1 (thn (ha pos pins s σ H _ I h) λus s1 ⟨vs,H1,I1,r1,q1⟩=>?_) he (by rfl);obtain⟨a1,xs,rfl,hx,q⟩:=q1;obtain⟨u,rfl,ru⟩:=r1.one;cases(show u=Value.ref a1 from ru);obtain⟨its,rx,px,zx⟩:=I1.list hx;refine call_reversed_list px.isList ?_;have hl:its.toArray.size=xs.length:=by rw[ζS,rx.length]
 rw[hl];have hit:Heap.IsRevIter (s1.heap.push (revObj a1 ((xs.length:Int) - 1))) s1.heap.objs.size a1 ((xs.length:Int) - 1):=⟨_,ζL _ rfl,rfl,rfl⟩
 refine wpAny_pyIter_revIter (s:={ s1 with heap:=s1.heap.push (revObj a1 ((xs.length:Int) - 1)) }) hit ?_;refine⟨s1.heap.objs.size,[s1.heap.objs.size],_,_,H1,rfl,I1.kept (t':=s1.toks) λb o e=>ζj _ e,Qh a1 _ xs.length,⟨ξj _,?_⟩,λb hb=>?_,q⟩
 ·have e:(xs.length:Int) - 1 - ((0:Nat):Int)=(xs.length:Int) - 1:=by omega
  rw[e]; exact hit
 ·have e:b=s1.heap.objs.size:=by simpa using hb
  subst e;exact I1.fpOk (ζl _) (I1.hok.fresh (ζl _))
end
end L2
namespace L2
open PySem PySem.Spec PyProof.Rows
def Cx.blk(X:Cx)(N:AJ)(scope:Scope)(cl:List (Str×Addr))(C:Addr)(s:Shared)(H:Hp)(fp:List Addr):Cx :=
 { X with N:=N,s₀:=s,H₀:=H,env:=compEnvC scope cl C X.env,outer:=X.stack,stack:=X.stack,ex:=fp,fn:=λ_=>false,pn:=[],xe:=λ_ _=>False }
def capt(js:List (Option Nat))(σ:St):St:=js.map λo=>match o with | none=>none | some j=>(σ[j]?).join
structure vL(X:Cx)(N:AJ)(scope:Scope)(cl:List (Str×Addr))(js:List (Option Nat)):Prop where
 clos:closureFor scope X.env=pure cl
 nocell:∀y∈scope.names,y.2≠.cell
 kind:scope.kind=.function
 names:∀y∈scope.names,y.2=.local→scope.names.lookup y.1=some .local
 cells:∀p∈cl,X.env.cells.lookup p.1=some p.2
 has:∀y∈scope.names,y.2=.free→(cl.lookup y.1).isSome=true
 len:js.length=N.length
 cap:∀(i j:Nat),js[i]?=some (some j)→∃x,N[i]?=some x∧X.N[j]?=some x∧scope.names.lookup x=some .free∧(X.env.scope.names.lookup x=some .cell∨X.env.scope.names.lookup x=some .free)
def Sub(σ σ':St):Prop:=σ.length=σ'.length∧∀(i:Nat) v,σ[i]?=some (some v)→σ'[i]?=some (some v)
theorem uG{env:Env}(hk:env.scope.kind=.function):∀{names:List (Str×NameKind)} {x:Str},names.lookup x=some .free→env.scope.names.lookup x=some .cell→
  (names.map λ(n,k)=>if(k == NameKind.free && env.scope.kind == .function && env.kindOf n == some .cell)then(n,NameKind.cell)else(n,k)).lookup x=some .cell
 | [],_,h,_=>by simp at h
 | (n,k) :: r,x,h,hc=>by
  have ih:=@uG env hk r x;show List.lookup x ((if(k == NameKind.free && env.scope.kind == .function && env.kindOf n == some .cell)=true then(n,NameKind.cell)else(n,k)) :: _)=_;cases hx:x == n with
  | true =>
   have e:x=n:=by simpa using hx
   subst e;simp only[List.lookup_cons,hx]at h;cases h;have c:(NameKind.free == NameKind.free && env.scope.kind == .function && env.kindOf x == some .cell)=true:=by
    have q:env.kindOf x=some .cell:=hc;rw[hk,q]; rfl
   rw[if_pos c,ξY,hx]
  | false =>
   simp only[List.lookup_cons,hx]at h;by_cases hcc:(k == NameKind.free && env.scope.kind == .function && env.kindOf n == some .cell)=true
   ·rw[if_pos hcc,ξY,hx]; exact ih h hc
   ·rw[if_neg hcc,ξY,hx]; exact ih h hc
theorem uF{env:Env}:∀{names:List (Str×NameKind)} {x:Str},names.lookup x=some .free→env.scope.names.lookup x=some .free→
  (names.map λ(n,k)=>if(k == NameKind.free && env.scope.kind == .function && env.kindOf n == some .cell)then(n,NameKind.cell)else(n,k)).lookup x=some .free
 | [],_,h,_=>by simp at h
 | (n,k) :: r,x,h,hc=>by
  have ih:=@uF env r x;show List.lookup x ((if(k == NameKind.free && env.scope.kind == .function && env.kindOf n == some .cell)=true then(n,NameKind.cell)else(n,k)) :: _)=_;cases hx:x == n with
  | true =>
   have e:x=n:=by simpa using hx
   subst e;simp only[List.lookup_cons,hx]at h;cases h;have q:env.kindOf x=some .free:=hc;rw[if_neg (by rw[q]; simp),List.lookup_cons,hx]
  | false =>
   simp only[List.lookup_cons,hx]at h;by_cases hcc:(k == NameKind.free && env.scope.kind == .function && env.kindOf n == some .cell)=true
   ·rw[if_pos hcc,ξY,hx]; exact ih h hc
   ·rw[if_neg hcc,ξY,hx]; exact ih h hc
theorem uH{env:Env}:∀{names:List (Str×NameKind)} {x:Str},(∀y∈names,y.2≠.cell)→
  ((names.map λ(n,k)=>if(k == NameKind.free && env.scope.kind == .function && env.kindOf n == some .cell)then(n,NameKind.cell)else(n,k)).lookup x=some .cell∨
   (names.map λ(n,k)=>if(k == NameKind.free && env.scope.kind == .function && env.kindOf n == some .cell)then(n,NameKind.cell)else(n,k)).lookup x=some .free)→∃y∈names,y.1=x∧y.2=.free
 | [],_,_,h=>by simp at h
 | (n,k) :: r,x,hn,h=>by
  have ih:=@uH env r x (λy hy=>hn y (ζk _ hy))
  have h':List.lookup x ((if(k == NameKind.free && env.scope.kind == .function && env.kindOf n == some .cell)=true then(n,NameKind.cell)else(n,k)) :: (r.map λ(n,k)=>if(k == NameKind.free && env.scope.kind == .function && env.kindOf n == some .cell)then(n,NameKind.cell)else(n,k)))=some .cell∨
   List.lookup x ((if(k == NameKind.free && env.scope.kind == .function && env.kindOf n == some .cell)=true then(n,NameKind.cell)else(n,k)) :: (r.map λ(n,k)=>if(k == NameKind.free && env.scope.kind == .function && env.kindOf n == some .cell)then(n,NameKind.cell)else(n,k)))=some .free:=h
  cases hx:x == n with
  | true =>
   have e:x=n:=by simpa using hx
   subst e;by_cases hcc:(k == NameKind.free && env.scope.kind == .function && env.kindOf x == some .cell)=true
   ·have kf:k=.free:=by
     cases k <;> first | rfl | (simp at hcc)
    exact⟨(x,k),ζf,rfl,kf⟩
   ·rw[if_neg hcc]at h';simp only[List.lookup_cons,hx]at h';rcases h' with q | q
    ·cases q; exact absurd rfl (hn (x,.cell) ζf)
    ·cases q; exact⟨(x,.free),ζf,rfl,rfl⟩
  | false =>
   by_cases hcc:(k == NameKind.free && env.scope.kind == .function && env.kindOf n == some .cell)=true
   ·rw[if_pos hcc]at h';simp only[List.lookup_cons,hx]at h';obtain⟨y,hy,e⟩:=ih h';exact⟨y,ζk _ hy,e⟩
   ·rw[if_neg hcc]at h';simp only[List.lookup_cons,hx]at h';obtain⟨y,hy,e⟩:=ih h';exact⟨y,ζk _ hy,e⟩
section
variable {X:Cx}{N:AJ}{scope:Scope}{cl:List (Str×Addr)}{js:List (Option Nat)}{pins:AL}{σ:St}{H:Hp}{s:Shared}{fp:List Addr}
theorem T3(K:vL X N scope cl js)(I:Inv X pins σ H s)(hf:∀b∈fp,FpOk X pins H b)(hlt:∀b∈fp,b < s.heap.objs.size){h1:Heap}{m1:AO}{tk:Nat}(hn:h1.Ns s.heap.objs.size m1)
  (hk:∀b o,s.heap.get? b=some o→h1.get? b=some o) :
  Inv (X.blk N scope cl s.heap.objs.size s H fp) [] (capt js σ) H { s with heap:=h1,toks:=tk }:=by
 have bigC:∀b∈fp,b≠s.heap.objs.size:=λb hb=>ζQ (hlt b hb);have hcl:∀x c,cl.lookup x=some c→X.env.cells.lookup x=some c:=λx c e=>K.cells (x,c) (PySem.mem_of_lookup e)
 refine⟨⟨I.ok.mod,K.kind,I.ok.glob,I.ok.blt,ζl _,λx y c e1 e2=>I.ok.inj x y c (hcl x c e1) (hcl y c e2),λx hx=>?_,λx c z _=>absurd z (by intro q; cases q),I.ok.hd,I.ok.frames,.inl rfl,λb hb=>⟨bigC b hb,λx c e=>(hf b hb).2.2.2.2.1 x c (hcl x c e)⟩,
  I.bs,Nat.le_trans I.ok.bsz I.sz,λb o e hb=>?_,λb hb z=>?_,I.stack,I.stkFree,I.ok.tb.un I.base⟩,rfl,I.bare,Un.kept hk,⟨m1,hn,λi x v e1 e2 e3=>?_⟩,λx c e=>?_,I.hok.fresh (Nat.le_refl _),λx c e=>(I.freeC x c (hcl x c e)).imp id λz=>⟨rfl,z.2⟩,λp hp=>absurd (show p∈([]:AL)from hp) (by simp),I.hok.kept hk,?_⟩
 ·obtain⟨y,hy,e1,e2⟩:=uH K.nocell hx;have q:=K.has y hy e2;rw[e1]at q;exact ξG.mp q
 ·rcases(hf b hb).2.2.2.1 with z | z
  ·exact I.ok.noex b o e z
  ·exact absurd (ζH (ζq e) (ζ8 I.ok.bsz z)) (ξk _)
 ·rcases ζw.mp (I.stkSub b z)with q | q
  ·exact(hf b hb).2.1 q
  ·exact(hf b hb).2.2.1 q
 ·
  have hi:(capt js σ)[i]?=some (some v):=e2;unfold capt at hi;rw[ζo]at hi;cases ej:js[i]? with
  | none=>rw[ej]at hi; cases hi
  | some o =>
   rw[ej]at hi;cases o with
   | none=>cases hi
   | some j =>
    obtain⟨y,h1',h2',h3',h4'⟩:=K.cap i j ej;have e1':N[i]?=some x:=e1;rw[h1']at e1';cases e1';have hj:σ[j]?=some (some v):=by
     cases q:σ[j]? with
     | none=>have hi':(Option.join σ[j]?)=some v:=ζr hi; rw[q]at hi'; cases hi'
     | some w=>have hi':(Option.join σ[j]?)=some v:=ζr hi; rw[q]at hi'; cases w with
      | none=>cases hi'
      | some w=>exact congrArg some hi'
    obtain⟨m,_,hl⟩:=I.loc;obtain⟨u,r,l⟩:=hl j x v h2' hj (.inr h4');refine⟨u,r,.inr ⟨h4'.imp (λz=>uG I.ok.kind h3' z) (λz=>uF h3' z),?_⟩⟩
    rcases l with⟨k,_⟩ | ⟨_,c,ec,hc⟩
    ·rcases h4' with h4' | h4' <;> exact absurd (k.symm.trans h4') (by intro z; cases z)
    ·obtain⟨c',ec'⟩:=ξG.mp (K.has (x,.free) (PySem.mem_of_lookup h3') rfl);have e3':=hcl x c' ec';rw[ec]at e3';cases e3';exact⟨c,ec',hc.keeps hk⟩
 ·obtain⟨v,hv⟩:=I.cell x c (hcl x c e);exact⟨v,hv.keeps hk⟩
 ·show(capt js σ).length=N.length;unfold capt;rw[ζa];exact K.len
theorem UQ{σ':St}{H':Hp}{s':Shared}{h':Heap}(I:Inv X pins σ H s)(hf:∀b∈fp,FpOk X pins H b)(J:Inv (X.blk N scope cl s.heap.objs.size s H fp) [] σ' H' s')(hs:Heap.SameBut s.heap.objs.size s'.heap h'):
  Inv X pins σ H' { s' with heap:=h' }:=by
 have neC:∀b o,s.heap.get? b=some o→b≠s.heap.objs.size:=λb o e=>ζQ (ζq e);have u:=J.base;have u':Un (frs X.stack) fp H H' s.heap s'.heap:=u;refine I.call' (s':={ s' with heap:=h' }) (ch:=fp) J.os ⟨λb o e n hb hx=>?_,λb o e n hb hx=>?_,u'.free,λb o e hx=>?_,u'.tups,u'.frzs,u'.tbls⟩ (λb ob e=>?_) J.bare λb hb=>?_
 ·exact(hs.2 b (neC b o e)).trans (u'.keep b o e n hb hx)
 ·obtain⟨sl,q⟩:=u'.slot b o e n hb hx;exact⟨sl,(hs.2 b (neC b o e)).trans q⟩
 ·obtain⟨o',q⟩:=u'.there b o e hx;exact⟨o',(hs.2 b (neC b o e)).trans q⟩
 ·have hfree:H' s.heap.objs.size=none:=J.free;refine(J.hok b ob e).stay (λc w' hc q=>(hs.2 c ?_).trans q) (λ_ q=>q) λ_ _ q=>q;rintro rfl;rcases hc with rfl | hc
  ·rw[hfree]at e; cases e
  ·rw[hfree]at hc; cases hc
 ·obtain⟨f0,f1,f2,f3,f4,f5⟩:=hf b hb;exact⟨f3,f1,f4,f5⟩
end
def PIf(X:Cx)(ifs:List Expr)(t:TT):Prop :=
 ∀(pins:AL) (s:Shared) (σ:St) (H:Hp) (Q:Bool→Hp→Prop),Inv X pins σ H s→t σ H Q→
  wpAny (model X.prog X.w) X.A (forIn ifs true λc r=>if r=true then(do let ok←isTrue c X.env (eval c X.env); pure (ForInStep.yield ok))else pure (ForInStep.yield r)) (TP X pins σ Q) X.xe s
def tYes:TT:=λ_ H Q=>Q true H
theorem xf{X:Cx}:PIf X [] tYes:=λ_ _ _ H _ I h=>wpAny_tests_nil ⟨H,I,h⟩
theorem yQ{X:Cx}{c:Expr}{t:TT}(h:PT X c t):PIf X [c] t:=λpins s σ H Q I q=>wpAny_tests_one (h pins s σ H Q I q)
def zc8(J:It)(g:TG)(tt:TT)(te:TE)(σc:St)(Q:VK)(H1:Hp):Prop:=∀D,H1 D=none→
 ∃W:Nat→Nat→List V→Hp→Prop,(∃m,W 0 m [] (upd H1 D (.lst [])))∧∀i m ys H,W i m ys H→
  (J.stop i H∧Q (.ref D) H)∨
  (J.go i H∧∃N:List V→Hp→Prop,(∀zs H',N zs H'→∃m',m' < m∧W (i + 1) m' zs H')∧∀x H',J.yld i H x H'→g x σc H' λσ2 H2=>Sub σc σ2∧tt σ2 H2 λb H3 =>
   if b=true then te σ2 H3 λv H4=>H4 D=some (.lst ys)∧ys.length < sizeLine∧N (ys ++ [v]) (upd H4 D (.lst (ys ++ [v])))else N ys H3)
def vX(js:List (Option Nat))(wi:TI)(g:TG)(tt:TT)(te:TE):TE:=λσ H Q=>wi σ H λJ H1=>zc8 J g tt te (capt js σ) Q H1
section
variable {prog:Program}{w:World}{A:Around}{R:Result→Shared→Prop}{s:Shared}
theorem TV{elt tg iter:Expr}{ifs:List Expr}{scope:Scope}{pos:Pos}{it acc:Value}{env:Env}(Iv:Nat→Shared→Prop)(F:AN)(hF:∀e s,¬F e s)
  (turn:∀n s,Iv n s→wpAny (model prog w) A (pyNext it) (λr s1=>(r=none→R (.ok .next) s1)∧∀v,r=some v→
   wpAny (model prog w) A (letOwnedTupleGo tg it v) (λ_ s2=>wpAny (model prog w) A (assign tg env v) (λ_ s3 =>
    wpAny (model prog w) A (forIn ifs true λc r=>if r=true then(do let ok←isTrue c env (eval c env); pure (ForInStep.yield ok))else pure (ForInStep.yield r)) (λok s4 =>
     (ok=false→∃m,m < n∧Iv m s4)∧(ok=true→wpAny (model prog w) A (eval elt env) (λx s5=>wpAny (model prog w) A (call (.builtin "list.append") [acc,x]) (λ_ s6=>∃m,m < n∧Iv m s6) F s5) F s4)) F s3) F s2) F s1) F s)
  (n:Nat) (h:Iv n s):codeAny (model prog w) A (.compLoop (.ListComp elt [⟨tg,iter,ifs,0⟩] scope pos) 0 it acc env) R s:=by
 refine codeAny_loop rfl Iv (λn s hI=>?_) n h;show wpAny _ A (Sem.onRaise (compTurn (.ListComp elt [⟨tg,iter,ifs,0⟩] scope pos) 0 it acc env) (λx=>do noteFrame x env; theTreesLotGoes x)) _ _ s;refine wpAny_noted ?_;rw[compTurn_list];have ff:∀{E:AN} (e:Value) (s:Shared),F e s→E e s:=λe s z=>(hF e s z).elim;refine AA (wpAny_standAt (AA (wpAny_mono (turn n s hI) (λr s1 h1=>?_) ff)));obtain⟨h0,h1⟩:=h1;cases r with
 | none=>exact AB (h0 rfl)
 | some v =>
  refine AA (wpAny_mono (h1 v rfl) (λ_ s2 h2=>?_) ff);refine AA (wpAny_mono h2 (λ_ s3 h3=>?_) ff);refine AA (wpAny_mono h3 (λok s4 h4=>?_) ff);cases ok with
  | false=>exact AB ⟨rfl,h4.1 rfl⟩
  | true =>
   refine AA (AA (wpAny_mono (h4.2 rfl) (λx s5 h5=>?_) ff));exact AA (wpAny_mono h5 (λ_ s6 h6=>AB (AB ⟨rfl,h6⟩)) ff)
end
section
variable {X:Cx}{N:AJ}{scope:Scope}{cl:List (Str×Addr)}{js:List (Option Nat)}{pins:AL}{σ:St}{H:Hp}{s:Shared}
theorem YH{elt tg iter:Expr}{ifs:List Expr}{pos:Pos}{J:It}{fp:List Addr}{it:Addr}{tn:Nat→Heap→Prop}{g:TG}{tt:TT}{te:TE}{Q:VK}{E:AN}{RR:Value→Addr→Result→Shared→Prop}
  (hc:X.calm=true) (K:vL X N scope cl js) (I:Inv X pins σ H s) (T:Turn X.prog X.w X.K tg J fp it tn) (st:tn 0 s.heap) (hf:∀b∈fp,FpOk X pins H b)
  (hg:∀C s H fp,PG (X.blk N scope cl C s H fp) tg g) (ht:∀C s H fp,PIf (X.blk N scope cl C s H fp) ifs tt) (he:∀C s H fp,PE (X.blk N scope cl C s H fp) elt te)
  (hq:zc8 J g tt te (capt js σ) Q H)
  (hRR:∀(D:Addr) (s3 s':Shared) (H':Hp) (σ':St),Inv X pins σ (upd H D (.lst [])) s3→(∀b∈fp,FpOk X pins (upd H D (.lst [])) b)→Inv (X.blk N scope cl s3.heap.objs.size s3 (upd H D (.lst [])) fp) [] σ' H' s'→Q (.ref D) H'→RR (.ref D) s3.heap.objs.size (.ok .next) s') :
  wpAny (model X.prog X.w) X.A (newList []) (λacc s3=>wpAny (model X.prog X.w) X.A (newFunctionEnv scope X.env.globals cl [] X.env.qual none .none (some X.env)) (λcenv s4 =>
   codeAny (model X.prog X.w) X.A (.compStart (.ListComp elt [⟨tg,iter,ifs,0⟩] scope pos) 0 (.ref it) acc { cenv with scope:=relabel scope X.env }) (RR acc cenv.locals) s4) E s3) E s:=by
 have fresh:H s.heap.objs.size=none:=I.fresh;have lt:∀b∈fp,b < s.heap.objs.size:=λb hb=>by
  obtain⟨o,e,_⟩:=T.obj _ _ st b hb;exact ζq e
 obtain⟨W,⟨m0,w0⟩,step⟩:=hq _ fresh;refine wpAny_newObj_type ?_;have I3:=I.lnew (ys:=[]) (its:=[]) (t':=s.toks) .nil (ξj _);have f3:∀b∈fp,FpOk X pins (upd H s.heap.objs.size (.lst [])) b:=λb hb=>⟨by rw[zr (ζQ (lt b hb))]; exact(hf b hb).1,(hf b hb).2⟩
 generalize e3:({ s with heap:=s.heap.push { cls:=.type "list", data:=.seq ([]:AK).toArray },toks:=s.toks }:Shared)=s3 at I3;have st3:tn 0 s3.heap:=by
  rw[←e3];exact T.keep _ _ _ st λb _ o e=>ζj _ e
 have lt3:∀b∈fp,b < s3.heap.objs.size:=λb hb=>by
  obtain⟨o,e,_⟩:=T.obj _ _ st3 b hb;exact ζq e
 refine wpAny_newFunctionEnv K.nocell (by intro y hy; simp at hy) (λh4 n4 k4=>?_) K.kind;have old:∀b o,s3.heap.get? b=some o→h4.get? b=some o:=λb o e=>(k4.2 b (ζQ (ζq e))).trans (ζj _ e);have I4:=T3 K I3 f3 lt3 (tk:=s3.toks + ([]:List (Str×Value)).length) n4 old;have st4:tn 0 h4:=T.keep _ _ _ st3 λb _ o e=>old b o e;have fpB:∀{H':Hp},(∀b∈fp,H' b=none)→∀b∈fp,FpOk (X.blk N scope cl s3.heap.objs.size s3 (upd H s.heap.objs.size (.lst [])) fp) [] H' b:=λhn b hb =>
  ⟨hn b hb,Nat.ne_of_lt (lt3 b hb),λz=>(List.mem_cons.mp (I3.stkSub b z)).elim (f3 b hb).2.1 (f3 b hb).2.2.1,.inl hb,λx c e=>(f3 b hb).2.2.2.2.1 x c (K.cells (x,c) (PySem.mem_of_lookup e)),λp hp=>absurd (show p∈([]:AL)from hp) (by simp)⟩
 have loop:codeAny (model X.prog X.w) X.A (.compLoop (.ListComp elt [⟨tg,iter,ifs,0⟩] scope pos) 0 (.ref it) (.ref s.heap.objs.size) (compEnvC scope cl s3.heap.objs.size X.env)) (RR (.ref s.heap.objs.size) s3.heap.objs.size)
   ({ s3 with heap:=h4,toks:=s3.toks + ([]:List (Str×Value)).length }:Shared):=by
  refine TV (λn s'=>∃i ys H',Inv (X.blk N scope cl s3.heap.objs.size s3 (upd H s.heap.objs.size (.lst [])) fp) [] (capt js σ) H' s'∧tn i s'.heap∧(∀b∈fp,H' b=none)∧W i n ys H') (λ_ _=>False) (λ_ _ z=>z) ?_ m0
   ⟨0,[],_,I4,st4,λb hb=>(f3 b hb).1,w0⟩
  rintro n s5 ⟨i,ys,H5,I5,st5,fr5,w5⟩;rcases step i n ys H5 w5 with⟨stop,qn⟩ | ⟨go,Nn,hN,nxt⟩
  ·refine thn (T.done (X.blk N scope cl s3.heap.objs.size s3 (upd H s.heap.objs.size (.lst [])) fp) rfl rfl rfl hc i [] s5 (capt js σ) H5 _ I5 (fpB fr5) st5 stop) λr s6 ⟨hr,I6⟩=>⟨λ_=>?_,λv e=>?_⟩
   ·exact hRR _ s3 s6 H5 _ I3 f3 I6 qn
   ·rw[hr]at e; cases e
  ·refine thn (T.item (X.blk N scope cl s3.heap.objs.size s3 (upd H s.heap.objs.size (.lst [])) fp) rfl rfl rfl hc i [] s5 (capt js σ) H5 _ I5 (fpB fr5) st5 go) λr s6 ⟨u,hr,h6⟩=>⟨λe=>?_,λv e=>?_⟩
   ·rw[hr]at e; cases e
   rw[hr]at e; cases e;refine thn h6 λ_ s7 ⟨x,H7,I7,r7,y7,st7,fr7⟩=>?_;have I7':=I7.pinned (fpB fr7) (T.obj _ _ st7)
   have back:∀{σ':St} {H':Hp} {s':Shared} {i' n':Nat} {zs:List V},Inv (X.blk N scope cl s3.heap.objs.size s3 (upd H s.heap.objs.size (.lst [])) fp) ([] ++ ZD fp s7.heap) σ' H' s'→Sub (capt js σ) σ'→W (i + 1) n' zs H'→
     ∃i ys H',Inv (X.blk N scope cl s3.heap.objs.size s3 (upd H s.heap.objs.size (.lst [])) fp) [] (capt js σ) H' s'∧tn i s'.heap∧(∀b∈fp,H' b=none)∧W i n' ys H':=λ{σ' H' s' i' n' zs} I' sb w'=>by
    refine⟨i + 1,zs,H',(I'.unpinned).weak sb.1 sb.2,T.keep _ _ _ st7 λb hb o e=>(I'.pin (b,o) (ζJ _ (ζJ _ (wV hb e)))).1,λb hb=>?_,w'⟩
    obtain⟨o,e,_⟩:=T.obj _ _ st7 b hb;exact(I'.pin (b,o) (ζJ _ (ζJ _ (wV hb e)))).2.1
   refine thn (hg _ _ _ _ _ s7 (capt js σ) H7 x _ _ I7' r7 (nxt x H7 y7)) λ_ s8 ⟨σ8,H8,I8,sb8,q8⟩=>?_;refine thn (ht _ _ _ _ _ s8 σ8 H8 _ I8 q8) λok s9 ⟨H9,I9,q9⟩=>⟨λe=>?_,λe=>?_⟩
   ·rw[e,if_neg ζD]at q9;obtain⟨m',hm,w'⟩:=hN _ _ q9;exact⟨m',hm,back (i':=0) I9 sb8 w'⟩
   ·rw[e,if_pos rfl]at q9;refine thn (he _ _ _ _ _ s9 σ8 H9 _ I9 q9) λxv sa ⟨v,Ha,Ia,ra,qa,za,nn⟩=>?_;obtain⟨m',hm,w'⟩:=hN _ _ nn;refine thn (zV (X:=X.blk N scope cl s3.heap.objs.size s3 (upd H s.heap.objs.size (.lst [])) fp) _ sa σ8 Ha (.ref s.heap.objs.size) [v] (.ref s.heap.objs.size) [xv] (λy H'=>H'=upd Ha s.heap.objs.size (.lst (ys ++ [v]))) Ia rfl (.cons ra .nil) ⟨_,ys,v,rfl,rfl,qa,za,rfl⟩) λy sb ⟨z,Hb,Ib,_,eb⟩=>?_;rw[eb]at Ib;exact⟨m',hm,back (i':=0) Ib sb8 w'⟩
 exact codeAny_compStart_list loop (T.self _ 0 _ _ _ st4 loop)
theorem yE{elt tg iter:Expr}{ifs:List Expr}{pos:Pos}{wi:TI}{g:TG}{tt:TT}{te:TE}(hc:X.calm=true)(K:vL X N scope cl js)(hi:PI X tg iter wi)
  (hg:∀C s H fp,PG (X.blk N scope cl C s H fp) tg g) (ht:∀C s H fp,PIf (X.blk N scope cl C s H fp) ifs tt) (he:∀C s H fp,PE (X.blk N scope cl C s H fp) elt te)
  (hs:∀x,foldedSetIterable iter X.env x=pure x:=by intro _; rfl):PE X (.ListComp elt [⟨tg,iter,ifs,0⟩] scope pos) (vX js wi g tt te):=by
 intro pins s σ H Q I h;rw[eval_ListComp];refine wpAny_comprehension_free (use:=none) rfl hs K.clos K.kind K.names (thn (hi pins s σ H _ I h) λv s1 h1=>thn h1 λitv s2 h2=>?_);obtain⟨it,fp,tn,J,H2,e,I2,T,st2,f2,hq⟩:=h2;subst e;refine YH (RR:=λacc C=>compPost (model X.prog X.w) X.A X.xe none (EP X pins σ Q) acc C) hc K I2 T st2 f2 hg ht he hq ?_;intro D s3 s' H' σ' I3 f3 J' q;obtain⟨m,hn,_⟩:=J'.loc;exact⟨m,hn,λh'' hs''=>⟨.ref D,H',UQ I3 f3 J' hs'',rfl,q⟩⟩
theorem yB{elt tg iter:Expr}{ifs:List Expr}{pos spos py:Pos}{i:Nat}{y:Str}{wi:TI}{g:TG}{tt:TT}{te:TE}(hc:X.calm=true)(hN:X.N.Nodup)(hiN:X.N[i]?=some y)(hy:X.env.scope.names.lookup y=some .local)(K:vL X N scope cl js)(hi:PI X tg iter wi)
  (hg:∀C s H fp,PG (X.blk N scope cl C s H fp) tg g) (ht:∀C s H fp,PIf (X.blk N scope cl C s H fp) ifs tt) (he:∀C s H fp,PE (X.blk N scope cl C s H fp) elt te)
  (hsw:swapsWith (.ListComp elt [⟨tg,iter,ifs,0⟩] scope pos) (some (.Name y py)) spos.line X.env=pure true:=by rfl)
  (hs:∀x,foldedSetIterable iter X.env x=pure x:=by intro _; rfl):PS X (.Assign [.Name y py] (.ListComp elt [⟨tg,iter,ifs,0⟩] scope pos) spos) (tAsg (vX js wi g tt te) (yJ i)):=by
 intro pins s σ H D I h;rw[exec_Assign_Name_used _ _ _ _ hsw];refine AA (wpAny_standAt (AA ?_));show wpAny _ X.A (do let _←comprehension (.ListComp elt [⟨tg,iter,ifs,0⟩] scope pos) scope X.env _ (newList []) false (eval iter X.env) (some (assign (.Name y py) X.env))) _ _ s
 refine AA (wpAny_mono (wpAny_comprehension_free (use:=some (assign (.Name y py) X.env)) (Q:=λ_ s'=>SP X pins D .next s') rfl hs K.clos K.kind K.names
  (thn (hi pins s σ H _ I h) λv s1 h1=>thn h1 λitv s2 h2=>?_)) (λ_ s' hq=>AB (AB hq)) λ_ _ e=>e)
 obtain⟨it,fp,tn,J,H2,e,I2,T,st2,f2,hq⟩:=h2;subst e;refine YH (RR:=λacc C=>compPost (model X.prog X.w) X.A X.xe (some (assign (.Name y py) X.env)) (λ_ s'=>SP X pins D .next s') acc C) hc K I2 T st2 f2 hg ht he hq ?_;intro Dl s3 s' H' σ' I3 f3 J' q;have I':Inv X pins σ H' s':=UQ I3 f3 J' (Heap.SameBut.refl ..);obtain⟨m,hn,_⟩:=J'.loc;have hC:s3.heap.objs.size≠X.env.locals:=Ne.symm (ζQ I3.lt);have hcell:∀x c,X.env.cells.lookup x=some c→c≠s3.heap.objs.size:=λx c e z=>by
  obtain⟨v,q⟩:=I3.cell x c e;exact absurd q.lt (by rw[z]; exact ξk _)
 show wpAny _ X.A (assign (.Name y py) X.env (.ref Dl)) _ _ _;refine wpAny_assign_Name (Yi I' hN hiN (.inl hy) (v:=.ref Dl) rfl (λs'' I'' ⟨a,hs2,ha⟩=>?_) (.inr hy));have ha':s3.heap.objs.size≠a:=by
  rcases ha with ha | ha
  ·rw[ha]; exact hC
  ·exact Ne.symm (hcell y a ha)
 refine⟨m,hn.sameBut hs2 ha',λh3 hs3=>?_⟩
 refine⟨_,H',I''.turned (t':=s''.toks) (it:=s3.heap.objs.size) (λb o hb e=>(hs3.2 b hb).trans e) J'.free hC (.inr I3.sz) hcell (λp hp z=>?_),q⟩
 exact absurd (ζq (I3.pin p hp).1) (by rw[z]; exact ξk _)
end
structure zt(P:Program)(w:World)(K:ζc)(mg:AO)(base:Heap)(CX:CXT)(x:Str)(ps:AJ)(k:Nat)(sp:Sp):Prop where
 ex:∃f fd,FnOk P w K mg base CX k f fd ps sp∧mg x=some (.ref f)∧PySem.W.keepIn K (.ref f)=true∧wJ K fd ps []
section
variable {X:Cx}{CX:CXT}{k:Nat}{ps:AJ}{sp:Sp}{E:XK}{x:Str}{p pos:Pos}{e:Expr}{es:List Expr}{t:TA}
theorem zeI(C:zt X.prog X.w X.K X.mg X.base CX x ps k sp)(hr:Room k X.A)(hg:Gl X x)(hx:ZY CX X E)(ha:PA X (e :: es) t)
  (hdb:(x == ("__debug__" : Str))=false:=by decide) (he:starEach (e :: es) X.env=(false,eval e X.env) :: starEach es X.env:=by rfl) (hpl:(backTo pos (starEach es X.env)).any (·.1)=false:=by rfl) :
  PE X (.Call (.Name x p) (e :: es) [] pos) (vY sp [] E t):=by
 intro pins s σ H Q I h;obtain⟨f,fd,F,hm,hk,hb⟩:=C.ex;exact(zbY F hr hg hm hk hb .nil hx ha hdb he hpl) pins s σ H Q I h
end
theorem vL.of{X:Cx}{N:AJ}{scope:Scope}{cl:List (Str×Addr)}{js:List (Option Nat)}(clos:closureFor scope X.env=pure cl)(nc:(scope.names.all λy=>y.2 != .cell)=true)(kind:scope.kind=.function)
  (nm:(scope.names.all λy=>y.2 != .local || (scope.names.lookup y.1 == some .local))=true) (cells:∀p∈cl,X.env.cells.lookup p.1=some p.2) (has:(scope.names.all λy=>y.2 != .free || (cl.lookup y.1).isSome)=true)
  (len:js.length=N.length) (cap:((js.zip N).all λp=>match p.1 with | none=>true | some j=>(X.N[j]? == some p.2) && (scope.names.lookup p.2 == some .free) && (X.env.scope.names.lookup p.2 == some .cell || X.env.scope.names.lookup p.2 == some .free))=true):vL X N scope cl js:=by
 rw[ξE]at nc nm has cap;refine⟨clos,λy hy=>by simpa using nc y hy,kind,λy hy e=>?_,cells,λy hy e=>?_,len,λi j e=>?_⟩
 ·have q:=nm y hy;rw[e]at q;simpa using q
 ·have q:=has y hy;rw[e]at q;simpa using q
 ·have hi:i < js.length:=(ζh.mp e).1;have hx:N[i]?=some (N[i]'⋯):=ζe ⋯;have hz:(js.zip N)[i]?=some (some j,N[i]'⋯):=by
   rw[ξr];exact⟨e,hx⟩
  have q:=cap _ (ζd hz);simp only[Bool.and_eq_true,Bool.or_eq_true,beq_iff_eq]at q;exact⟨_,hx,q.1.1,q.1.2,q.2⟩
theorem Same.new{H:Hp}{p:Addr}(h:H p=none)(o:HO):Same H (upd H p o):=λb u q=>by rw[zr (zL q h)]; exact q
def V7(K:ζc):Sp:=λvs H Q _=>∃(a:Addr) (ns:AE),vs=[.ref a]∧SqL K H a (ns.map V.int)∧ns.length≤63∧∀H',Q (.bl true) H'
theorem UI{K:ζc}{H:Hp}:∀ns:AE,zQ K H (ns.map V.int) (ns.map PyData.int)
 | []=>.nil
 | n :: r=>.cons (.int n) (UI r)
section
variable {X:Cx}{K:ζc}
theorem zu(hK:X.K=K):IxR X (rIxL K):=by subst hK; exact zcg
theorem zB(hK:X.K=K):IxR X (rIxT K):=by subst hK; exact zdT
theorem zj(hK:X.K=K):yX X (.builtin "len") (λxs H Q=>∃p ys,xs=[.ref p]∧(SqL K H p ys∨SqT K H p ys)∧Q (.int ys.length) H):=by subst hK; exact XY
theorem yh(hK:X.K=K):yX X (.type "list") (λxs H Q=>∃p ys,xs=[.ref p]∧(SqL K H p ys∨SqT K H p ys)∧∀l,H l=none→Q (.ref l) (upd H l (.lst ys))):=by subst hK; exact XW
theorem Uk(hK:X.K=K)(hu:X.A.units + 64 < cLine):OpR X (compareOp .NotEq) (rEqD K true):=by subst hK; exact zdG hu
theorem vi(hK:X.K=K):SlR X (rSlL K):=by subst hK; exact zbA
theorem yV(hK:X.K=K):OpR X (compareOp .In) (rIn K false):=by subst hK; exact Tg
theorem yP(hK:X.K=K):OpR X (compareOp .NotIn) (rIn K true):=by subst hK; exact Xo
theorem xK{es:List Expr}{k:Nat}{t:TGs}{n:Nat}{pos:Pos}(hK:X.K=K)(hc:X.calm=true)(h:PGs X es t)
  (hn:(assignEach es X.env).length=n:=by rfl) (hst:(assignEach es X.env).findIdx? (·.1)=none:=by rfl):PG X (.Tuple es k pos) (gTup K n t):=by subst hK; exact zdw hc h hn hst
end
end L2
namespace L2
open PySem PySem.Spec PyProof.Rows PySem.SeqAt
section
variable {X:Cx}{K:ζc}
def rNeS(K:ζc):R2:=λx y H Q=>∃d,Dp K H x d∧Dp K H y d∧shaped d=true∧Q (.bl false) H
theorem zdF(hu:X.A.units + 64 < cLine):OpR X (compareOp .NotEq) (rNeS X.K):=by
 intro pins s σ H x y v u Q I rx ry h;obtain⟨d,h1,h2,z,q⟩:=h;obtain⟨as,ra⟩:=h1.reads I rx;obtain⟨bs,rb⟩:=h2.reads I ry;refine ne_dataH ra rb z z hu ?_;rw[eqv_refl d (canLay_of_shaped z)];exact⟨.bl false,H,I,rfl,q⟩
theorem zbZ(hK:X.K=K)(hu:X.A.units + 64 < cLine):OpR X (compareOp .NotEq) (rNeS K):=by subst hK; exact zdF hu
end
end L2
namespace L2
open PySem PySem.Spec PyProof.Rows
section
end
end L2
namespace Cm
open PySem L2
theorem take_succ{α:Type}{xs:List α}{i:Nat}{x:α}(h:xs[i]?=some x):xs.take (i + 1)=xs.take i ++ [x]:=by
 rw[List.take_add_one,h]; rfl
theorem zJ{P:Program}{w:World}{K:ζc}{mg:AO}{base:Heap}{x:Str}{st:Stmt}{f:Addr}{fd:FuncData}{ps:AJ}{k:Nat}{sp:Sp}(F:Fun K x x st f fd)(hm:mg x=some (.ref f))(hb:wJ K fd ps [])(G:FnOk P w K mg base CX0 k f fd ps sp):
  zt P w K mg base CX0 x ps k sp:=⟨f,fd,G,hm,F.kp,hb⟩
structure At(K:ζc)(x:Str)(st:Stmt)(f:Addr)(fd:FuncData):Prop where
 ns:PySem.W.nsIn K mainGlobals x=some (some (.ref f))
 fn:Fun K x x st f fd
theorem Ql{K:ζc}{x:Str}{st:Stmt}{f:Addr}{oc:Value}{od an:Option Addr}{osl:Array (Option Value)}{kV doc pm cdv ct:Value}(a:PySem.W.nsIn K mainGlobals x=some (some (.ref f)))
  (l:K.lookup f=some ⟨oc,od,.func (PySem.W.fnOf x x (wn st) (xE st) (zn st) .none kV doc pm an cdv ct),osl⟩) (c:PySem.W.codeIn K cdv x=true) (k:PySem.W.keepIn K (.ref f)=true):∃f fd,At K x st f fd:=⟨f,_,a,VF l c k⟩
end Cm
namespace PD
open PySem L2
variable {K:ζc}
theorem Same.seqT{H H':Hp}{a:Addr}{xs:List V}(e:Same H H')(h:SqT K H a xs):SqT K H' a xs:=by
 rcases h with(h | ⟨o,h⟩) | h
 ·exact .inl (.inl (e _ _ h))
 ·exact .inl (.inr ⟨o,e _ _ h⟩)
 ·exact .inr h
mutual
theorem xM{F F':Hp}(e:Same F F'):∀{v:V} {d:AD},Dp K F v d→Dp K F' v d
 | _,_,.non=>.non
 | _,_,.bl b=>.bl b
 | _,_,.int i=>.int i
 | _,_,.str x=>.str x
 | _,_,.lst h k=>.lst (e.seq h) (xV e k)
 | _,_,.tup h k=>.tup (Same.seqT e h) (xV e k)
theorem xV{F F':Hp}(e:Same F F'):∀{vs:List V} {ds:AG},zQ K F vs ds→zQ K F' vs ds
 | _,_,.nil=>.nil
 | _,_,.cons h k=>.cons (xM e h) (xV e k)
end
theorem zQ.length{F:Hp}:∀{vs:List V} {ds:AG},zQ K F vs ds→vs.length=ds.length
 | _,_,.nil=>rfl
 | _,_,.cons _ k=>congrArg (· + 1) (zQ.length k)
theorem zQ.get{F:Hp}:∀{vs:List V} {ds:AG} {i:Nat} {d:AD},zQ K F vs ds→ds[i]?=some d→∃v,vs[i]?=some v∧Dp K F v d
 | _,_,_,_,.nil,e=>by simp at e
 | _,_,0,_,.cons h _,e=>by simp at e; subst e; exact⟨_,rfl,h⟩
 | _,_,i + 1,d,.cons _ k,e=>by
  obtain⟨v,h1,h2⟩:=zQ.get (i:=i) k (by simpa using e);exact⟨v,by simpa using h1,h2⟩
theorem ZR{F:Hp}(ns:AE):zQ K F (ns.map V.int) (ns.map PyData.int):=UI ns
theorem yb{F:Hp}:∀{vs:List V} {ns:AE},zQ K F vs (ns.map PyData.int)→vs=ns.map V.int
 | _,[],.nil=>rfl
 | _,n :: r,.cons h t=>by cases h; rw[ζF,yb t]
theorem vH{F:Hp}{v:V}{i:Int}(h:Dp K F v (.int i)):v=.int i:=by cases h; rfl
theorem za2{F:Hp}{v:V}{b:Bool}(h:Dp K F v (.bool b)):v=.bl b:=by cases h; rfl
structure Gr(H F H' F':Hp):Prop where
 h:Same H H'
 f:Same F F'
 le:Same F' H'
 ap:∀a o,H a=some o→F a=none→F' a=none
theorem Gr.refl{H F:Hp}(le:Same F H):Gr H F H F:=⟨.refl _,.refl _,le,λ_ _ _ h=>h⟩
theorem Gr.trans{H F H1 F1 H2 F2:Hp}(a:Gr H F H1 F1)(b:Gr H1 F1 H2 F2):Gr H F H2 F2:=⟨a.h.trans b.h,a.f.trans b.f,b.le,λc o q n=>b.ap c o (a.h _ _ q) (a.ap c o q n)⟩
theorem Gr.new{H F:Hp}{p:Addr}(le:Same F H)(hp:H p=none)(o:HO):Gr H F (upd H p o) (upd F p o):=by
 have fp:F p=none:=le.free hp;refine⟨Same.new hp o,Same.new fp o,λb u q=>?_,λb u q n=>?_⟩
 ·by_cases e:b=p
  ·subst e; rw[zk]at q ⊢; exact q
  ·rw[zr e]at q ⊢; exact le _ _ q
 ·rw[zr (zL q hp)]; exact n
theorem Gr.newO{H F:Hp}{p:Addr}(le:Same F H)(hp:H p=none)(o:HO):Gr H F (upd H p o) F:=⟨Same.new hp o,.refl _,λb u q=>by rw[zr (zL (le _ _ q) hp)]; exact le _ _ q,λ_ _ _ n=>n⟩
inductive Sx where
 | fresh | spoil (T:Addr→Prop)
def Sx.has(S:Sx)(H0:Hp)(a:Addr):Prop:=match S with | .fresh=>H0 a≠none | .spoil T=>H0 a≠none∨T a
def LN(K:ζc)(κ:Bool)(S:Sx)(H0 F:Hp)(a:Addr)(xs:List V):Prop:=match κ with
 | true=>F a=some (.lst xs)∧¬S.has H0 a
 | false=>SqL K F a xs
theorem LN.sq{κ:Bool}{S:Sx}{H0 F:Hp}{a:Addr}{xs:List V}(h:LN K κ S H0 F a xs):SqL K F a xs:=by
 cases κ with
 | true=>exact SqL.of h.1
 | false=>exact h
theorem LN.mono{κ:Bool}{S:Sx}{H0 F F':Hp}{a:Addr}{xs:List V}(h:LN K κ S H0 F a xs)(e:Same F F'):LN K κ S H0 F' a xs:=by
 cases κ with
 | true=>exact⟨e _ _ h.1,h.2⟩
 | false=>exact e.seq h
theorem LN.new{κ:Bool}{S:Sx}{H0 F:Hp}{a:Addr}{xs:List V}(h:¬S.has H0 a):LN K κ S H0 (upd F a (.lst xs)) a xs:=by
 cases κ with
 | true=>exact⟨zk,h⟩
 | false=>exact SqL.of zk
mutual
inductive Rp(K:ζc)(κ:Bool)(S:Sx)(H0 F:Hp):V→AD→Prop
 | non:Rp K κ S H0 F .non .none
 | bl (b:Bool):Rp K κ S H0 F (.bl b) (.bool b)
 | int (i:Int):Rp K κ S H0 F (.int i) (.int i)
 | str (x:Str):Rp K κ S H0 F (.str x) (.str x)
 | lst {a:Addr} {xs:List V} {ds:AG}:LN K κ S H0 F a xs→zq K κ S H0 F xs ds→Rp K κ S H0 F (.ref a) (.list ds)
 | tup {a:Addr} {xs:List V} {ds:AG}:SqT K F a xs→zq K κ S H0 F xs ds→Rp K κ S H0 F (.ref a) (.tuple ds)
inductive zq(K:ζc)(κ:Bool)(S:Sx)(H0 F:Hp):List V→AG→Prop
 | nil:zq K κ S H0 F [] []
 | cons {v:V} {vs:List V} {d:AD} {ds:AG}:Rp K κ S H0 F v d→zq K κ S H0 F vs ds→zq K κ S H0 F (v :: vs) (d :: ds)
end
section
variable {κ κ':Bool}{S S':Sx}{H0 H0' F F':Hp}
mutual
theorem wP(hl:∀a xs,LN K κ S H0 F a xs→LN K κ' S' H0' F' a xs)(ht:∀a xs,SqT K F a xs→SqT K F' a xs):∀{v:V} {d:AD},Rp K κ S H0 F v d→Rp K κ' S' H0' F' v d
 | _,_,.non=>.non
 | _,_,.bl b=>.bl b
 | _,_,.int i=>.int i
 | _,_,.str x=>.str x
 | _,_,.lst h k=>.lst (hl _ _ h) (xO hl ht k)
 | _,_,.tup h k=>.tup (ht _ _ h) (xO hl ht k)
theorem xO(hl:∀a xs,LN K κ S H0 F a xs→LN K κ' S' H0' F' a xs)(ht:∀a xs,SqT K F a xs→SqT K F' a xs):∀{vs:List V} {ds:AG},zq K κ S H0 F vs ds→zq K κ' S' H0' F' vs ds
 | _,_,.nil=>.nil
 | _,_,.cons h k=>.cons (wP hl ht h) (xO hl ht k)
end
theorem yD(e:Same F F'){v:V}{d:AD}(h:Rp K κ S H0 F v d):Rp K κ S H0 F' v d:=wP (λ_ _ z=>z.mono e) (λ_ _ z=>Same.seqT e z) h
theorem zA(e:Same F F'){vs:List V}{ds:AG}(h:zq K κ S H0 F vs ds):zq K κ S H0 F' vs ds:=xO (λ_ _ z=>z.mono e) (λ_ _ z=>Same.seqT e z) h
mutual
theorem xi:∀{v:V} {d:AD},Rp K κ S H0 F v d→Dp K F v d
 | _,_,.non=>.non
 | _,_,.bl b=>.bl b
 | _,_,.int i=>.int i
 | _,_,.str x=>.str x
 | _,_,.lst h k=>.lst h.sq (zN k)
 | _,_,.tup h k=>.tup h (zN k)
theorem zN:∀{vs:List V} {ds:AG},zq K κ S H0 F vs ds→zQ K F vs ds
 | _,_,.nil=>.nil
 | _,_,.cons h k=>.cons (xi h) (zN k)
end
mutual
theorem ui:∀{v:V} {d:AD},Dp K F v d→Rp K false S H0 F v d
 | _,_,.non=>.non
 | _,_,.bl b=>.bl b
 | _,_,.int i=>.int i
 | _,_,.str x=>.str x
 | _,_,.lst h k=>.lst h (uW k)
 | _,_,.tup h k=>.tup h (uW k)
theorem uW:∀{vs:List V} {ds:AG},zQ K F vs ds→zq K false S H0 F vs ds
 | _,_,.nil=>.nil
 | _,_,.cons h k=>.cons (ui h) (uW k)
end
theorem vN(hk:κ'=true→κ=true){v:V}{d:AD}(h:Rp K κ S H0 F v d):Rp K κ' S H0 F v d:=by
 cases κ' with
 | false=>exact ui (xi h)
 | true=>rw[hk rfl]at h; exact h
theorem zq.length{vs:List V}{ds:AG}(h:zq K κ S H0 F vs ds):vs.length=ds.length:=zQ.length (zN h)
theorem zq.get:∀{vs:List V} {ds:AG} {i:Nat} {d:AD},zq K κ S H0 F vs ds→ds[i]?=some d→∃v,vs[i]?=some v∧Rp K κ S H0 F v d
 | _,_,_,_,.nil,e=>by simp at e
 | _,_,0,_,.cons h _,e=>by simp at e; subst e; exact⟨_,rfl,h⟩
 | _,_,i + 1,d,.cons _ k,e=>by
  obtain⟨v,h1,h2⟩:=zq.get (i:=i) k (by simpa using e);exact⟨v,by simpa using h1,h2⟩
theorem zq.get':∀{vs:List V} {ds:AG} {i:Nat} {v:V},zq K κ S H0 F vs ds→vs[i]?=some v→∃d,ds[i]?=some d∧Rp K κ S H0 F v d
 | _,_,_,_,.nil,e=>by simp at e
 | _,_,0,_,.cons h _,e=>by simp at e; subst e; exact⟨_,rfl,h⟩
 | _,_,i + 1,d,.cons _ k,e=>by
  obtain⟨v,h1,h2⟩:=zq.get' (i:=i) k (by simpa using e);exact⟨v,by simpa using h1,h2⟩
theorem zq.append:∀{vs ws:List V} {ds es:AG},zq K κ S H0 F vs ds→zq K κ S H0 F ws es→zq K κ S H0 F (vs ++ ws) (ds ++ es)
 | _,_,_,_,.nil,k=>k
 | _,_,_,_,.cons h t,k=>.cons h (zq.append t k)
theorem zq.take:∀{vs:List V} {ds:AG} (n:Nat),zq K κ S H0 F vs ds→zq K κ S H0 F (vs.take n) (ds.take n)
 | _,_,0,_=>.nil
 | _,_,_ + 1,.nil=>.nil
 | _,_,n + 1,.cons h t=>.cons h (zq.take n t)
theorem zq.drop:∀{vs:List V} {ds:AG} (n:Nat),zq K κ S H0 F vs ds→zq K κ S H0 F (vs.drop n) (ds.drop n)
 | _,_,0,r=>r
 | _,_,_ + 1,.nil=>.nil
 | _,_,n + 1,.cons _ t=>zq.drop n t
theorem zq.set{v:V}{d:AD}(h:Rp K κ S H0 F v d):∀{vs:List V} {ds:AG} (n:Nat),zq K κ S H0 F vs ds→zq K κ S H0 F (vs.set n v) (ds.set n d)
 | _,_,_,.nil=>.nil
 | _,_,0,.cons _ t=>.cons h t
 | _,_,n + 1,.cons q t=>.cons q (zq.set h n t)
theorem zq.rep{vs:List V}{ds:AG}(h:zq K κ S H0 F vs ds):∀n:Nat,zq K κ S H0 F (List.replicate n vs).flatten (List.replicate n ds).flatten
 | 0=>.nil
 | n + 1=>by
  rw[ξd,ξd,ξH,ξH];exact zq.append h (zq.rep h n)
theorem yt{v:V}{i:Int}(h:Rp K κ S H0 F v (.int i)):v=.int i:=by cases h; rfl
theorem tO{v:V}{b:Bool}(h:Rp K κ S H0 F v (.bool b)):v=.bl b:=by cases h; rfl
theorem Zs{v:V}{ds:AG}(h:Rp K κ S H0 F v (.list ds)):∃a vs,v=.ref a∧LN K κ S H0 F a vs∧zq K κ S H0 F vs ds:=by cases h with | lst h k=>exact⟨_,_,rfl,h,k⟩
theorem Xe{v:V}{ds:AG}(h:Rp K κ S H0 F v (.tuple ds)):∃a vs,v=.ref a∧SqT K F a vs∧zq K κ S H0 F vs ds:=by cases h with | tup h k=>exact⟨_,_,rfl,h,k⟩
end
def imm:AD→Bool
 | .none=>true
 | .bool _=>true
 | .int _=>true
 | .str _=>true
 | .tuple ds=>immAll ds
 | _=>false
where immAll:AG→Bool
 | []=>true
 | d :: r=>imm d && immAll r
mutual
theorem VN{κ:Bool}{S:Sx}{H0 F:Hp}:∀{v:V} {d:AD},imm d=true→Dp K F v d→Rp K κ S H0 F v d
 | _,_,_,.non=>.non
 | _,_,_,.bl b=>.bl b
 | _,_,_,.int i=>.int i
 | _,_,_,.str x=>.str x
 | _,_,h,.lst _ _=>by unfold imm at h; cases h
 | _,_,h,.tup q k=>.tup q (tJ (by unfold imm at h; exact h) k)
theorem tJ{κ:Bool}{S:Sx}{H0 F:Hp}:∀{vs:List V} {ds:AG},imm.immAll ds=true→zQ K F vs ds→zq K κ S H0 F vs ds
 | _,_,_,.nil=>.nil
 | _,_,h,.cons p k=>by
  unfold imm.immAll at h;rw[ξZ]at h;exact .cons (VN h.1 p) (tJ h.2 k)
end
theorem xz{κ:Bool}{S:Sx}{H0 F:Hp}{vs:List V}{ds:AG}(h:∀d∈ds,imm d=true)(k:zQ K F vs ds):zq K κ S H0 F vs ds:=by
 refine tJ ?_ k;clear k;induction ds with
 | nil=>rfl
 | cons d r ih =>
  unfold imm.immAll;rw[h d ζf,ih λx hx=>h x (ζk _ hx)];rfl
inductive DV where
 | fz (κ:Bool) (d:AD) | ow (κ:Bool) (ds:AG) | tn (d:AD) | ox | o2 (r:Option Addr) (dss:List AG) | fn (a:Addr) | xn (o:Addr→HO) | oa (a:Addr) (κ:Bool) (ds:AG) | xp (φ:Hp→V→Prop) | od (o:HO) | og (ad:Hp→V→Addr→Prop) (ψ:Sx→Hp→Hp→Hp→V→Prop)
abbrev Ctx:=List (Option DV)
structure OwnO(S:Sx)(H0 H F:Hp)(a:Addr)(o:HO):Prop where
 h:H a=some o
 f:F a=none
 n:H0 a=none
 s:¬S.has H0 a
abbrev wI(S:Sx)(H0 H F:Hp)(a:Addr)(vs:List V):Prop:=OwnO S H0 H F a (.lst vs)
structure IdA(r:Option Addr)(v:V)(a:Addr):Prop where
 eq:v=.ref a
 id:∀b,r=some b→a=b
structure GOk(ad:Hp→V→Addr→Prop)(ψ:Sx→Hp→Hp→Hp→V→Prop):Prop where
 pl:∀H H' v,(∀a,ad H v a→H' a=H a)→∀a,ad H' v a↔ad H v a
 ps:∀S H0 H H' F F' v,(∀a,ad H v a→H' a=H a)→Same F F'→ψ S H0 H F v→ψ S H0 H' F' v
def HasV(K:ζc)(S:Sx)(H0 H F:Hp)(v:V):DV→Prop
 | .fz κ d=>Rp K κ S H0 F v d
 | .ow κ ds=>∃a vs,v=.ref a∧wI S H0 H F a vs∧zq K κ S H0 F vs ds
 | .tn d=>∃T,S=.spoil T∧Rp K true (.spoil λa=>¬T a) (λ_=>none) F v d
 | .ox=>∃a vs,v=.ref a∧wI S H0 H F a vs
 | .fn a=>v=.ref a
 | .xn o=>∃a,v=.ref a∧F a=some (o a)
 | .oa a κ ds=>v=.ref a∧∃vs,wI S H0 H F a vs∧zq K κ S H0 F vs ds
 | .xp φ=>∃F1,Same F1 F∧φ F1 v
 | .od o=>∃a,v=.ref a∧OwnO S H0 H F a o
 | .og ad ψ=>GOk ad ψ∧(∀a,ad H v a→∃o,OwnO S H0 H F a o)∧ψ S H0 H F v
 | .o2 r dss=>∃a vs,IdA r v a∧wI S H0 H F a vs∧V.ref a∉vs∧vs.Nodup∧vs.length=dss.length∧∀(j:Nat) x,vs[j]?=some x→∃b us ds,x=.ref b∧wI S H0 H F b us∧dss[j]?=some ds∧zq K true S H0 F us ds
def Owns(H:Hp)(v:V):DV→Addr→Prop
 | .ow _ _,a=>v=.ref a
 | .ox,a=>v=.ref a
 | .oa _ _ _,a=>v=.ref a
 | .od _,a=>v=.ref a
 | .og ad _,a=>ad H v a
 | .o2 _ _,a=>v=.ref a∨∃p vs,v=.ref p∧H p=some (.lst vs)∧V.ref a∈vs
 | _,_=>False
structure DEnv(K:ζc)(S:Sx)(H0 F0 H F:Hp)(σ:St)(Γ:Ctx):Prop where
 gr:Gr H0 F0 H F
 l0:Same F0 H0
 sd:∀a,S.has H0 a→∃o,H a=some o
 s0:∀T,S=.spoil T→∀a,T a→H0 a=none
 len:σ.length=Γ.length
 has:∀(i:Nat) (x:DV),Γ[i]?=some (some x)→∃v,σ[i]?=some (some v)∧HasV K S H0 H F v x
 ne:∀(i j:Nat) (x y:DV) (v w:V) (a:Addr),Γ[i]?=some (some x)→Γ[j]?=some (some y)→σ[i]?=some (some v)→σ[j]?=some (some w)→Owns H v x a→Owns H w y a→i=j
variable {S:Sx}{κ:Bool}
theorem DEnv.le{H0 F0 H F:Hp}{σ:St}{Γ:Ctx}(e:DEnv K S H0 F0 H F σ Γ):Same F H:=e.gr.le
theorem DEnv.out{H0 F0 H F:Hp}{σ:St}{Γ:Ctx}(e:DEnv K S H0 F0 H F σ Γ){p:Addr}(hp:H p=none):¬S.has H0 p:=λc=>by
 obtain⟨o,q⟩:=e.sd p c;rw[hp]at q; cases q
theorem OwnO.mono{H0 H F H' F':Hp}{a:Addr}{u:HO}(o:OwnO S H0 H F a u)(g:Gr H F H' F'):OwnO S H0 H' F' a u:=⟨g.h _ _ o.h,g.ap _ _ o.h o.f,o.n,o.s⟩
theorem HasV.mono{H0 H F H' F':Hp}{v:V}{x:DV}(h:HasV K S H0 H F v x)(g:Gr H F H' F'):HasV K S H0 H' F' v x:=by
 cases x with
 | fz κ d=>exact yD g.f h
 | ow κ ds=>obtain⟨a,vs,e,o,k⟩:=h; exact⟨a,vs,e,o.mono g,zA g.f k⟩
 | tn d=>obtain⟨T,e,k⟩:=h; exact⟨T,e,yD g.f k⟩
 | ox=>obtain⟨a,vs,e,o⟩:=h; exact⟨a,vs,e,o.mono g⟩
 | o2 r dss =>
  obtain⟨a,vs,e,o,n1,n2,l,k⟩:=h;refine⟨a,vs,e,o.mono g,n1,n2,l,λj x hx=>?_⟩
  obtain⟨b,us,ds,e2,o2,h2,k2⟩:=k j x hx;exact⟨b,us,ds,e2,o2.mono g,h2,zA g.f k2⟩
 | fn a=>exact h
 | xn φ=>obtain⟨a,e,k⟩:=h; exact⟨a,e,g.f _ _ k⟩
 | oa a κ ds=>obtain⟨e,vs,o,k⟩:=h; exact⟨e,vs,o.mono g,zA g.f k⟩
 | xp φ=>obtain⟨F1,s,k⟩:=h; exact⟨F1,s.trans g.f,k⟩
 | od u=>obtain⟨a,e,o⟩:=h; exact⟨a,e,o.mono g⟩
 | og ad ψ =>
  obtain⟨ok,w,p⟩:=h;have eq:∀a,ad H v a→H' a=H a:=λa z=>by
   obtain⟨o,y⟩:=w a z;rw[y.h];exact g.h _ _ y.h
  refine⟨ok,λa z=>?_,ok.ps S H0 H H' F F' v eq g.f p⟩
  obtain⟨o,y⟩:=w a ((ok.pl H H' v eq a).mp z);exact⟨o,y.mono g⟩
theorem HasV.owns{H0 H F:Hp}{v:V}{x:DV}{a:Addr}(h:HasV K S H0 H F v x)(o:Owns H v x a):∃u,OwnO S H0 H F a u:=by
 cases x with
 | fz _ _=>exact o.elim
 | tn _=>exact o.elim
 | ow κ ds=>obtain⟨b,vs,e,w,_⟩:=h; cases(show v=.ref a from o); cases e; exact⟨_,w⟩
 | ox=>obtain⟨b,vs,e,w⟩:=h; cases(show v=.ref a from o); cases e; exact⟨_,w⟩
 | o2 r dss =>
  obtain⟨b,vs,e,w,_,_,_,k⟩:=h;rcases o with o | ⟨p,us,e2,hp,hm⟩
  ·cases o; cases e.eq; exact⟨_,w⟩
  ·cases e.eq;cases e2;have hw:=w.h;rw[hp]at hw;cases hw;obtain⟨j,hj⟩:=ξi.mp hm;obtain⟨c,ws,ds,e3,o3,_⟩:=k j _ hj;cases e3;exact⟨_,o3⟩
 | fn _=>exact o.elim
 | xn _=>exact o.elim
 | oa b κ ds=>obtain⟨e,vs,w,_⟩:=h; cases(show v=.ref a from o); cases e; exact⟨_,w⟩
 | xp _=>exact o.elim
 | od u=>obtain⟨b,e,w⟩:=h; cases(show v=.ref a from o); cases e; exact⟨u,w⟩
 | og ad ψ=>exact h.2.1 a o
theorem Owns.back{H0 H F H':Hp}{v:V}{x:DV}{a:Addr}(h:HasV K S H0 H F v x)(g:∀b u,OwnO S H0 H F b u→H' b=some u)(o:Owns H' v x a):Owns H v x a:=by
 cases x with
 | fz _ _=>exact o.elim
 | tn _=>exact o.elim
 | ow κ ds=>exact o
 | ox=>exact o
 | o2 r dss =>
  rcases o with o | ⟨p,us,e2,hp,hm⟩
  ·exact .inl o
  ·obtain⟨b,vs,e',w,_⟩:=h;have e:=e'.eq;rw[e2]at e;cases e;rw[g _ _ w]at hp;cases hp;exact .inr ⟨p,_,e2,w.h,hm⟩
 | fn _=>exact o.elim
 | xn _=>exact o.elim
 | oa b κ ds=>exact o
 | xp _=>exact o.elim
 | od _=>exact o
 | og ad ψ =>
  obtain⟨ok,w,p⟩:=h;exact(ok.pl H H' v (λb z=>by
   obtain⟨u,y⟩:=w b z;rw[g _ _ y,y.h]) a).mp o
theorem Owns.cut{H0 H F H':Hp}{v:V}{x:DV}{a:Addr}(h:HasV K S H0 H F v x)(c:∀b,Owns H v x b→H' b=H b)(o:Owns H' v x a):Owns H v x a:=by
 cases x with
 | fz _ _=>exact o.elim
 | tn _=>exact o.elim
 | ow κ ds=>exact o
 | ox=>exact o
 | o2 r dss =>
  rcases o with o | ⟨p,us,e2,hp,hm⟩
  ·exact .inl o
  ·rw[c p (.inl e2)]at hp;exact .inr ⟨p,us,e2,hp,hm⟩
 | fn _=>exact o.elim
 | xn _=>exact o.elim
 | oa b κ ds=>exact o
 | xp _=>exact o.elim
 | od _=>exact o
 | og ad ψ=>exact(h.1.pl H H' v c a).mp o
theorem DEnv.mono{H0 F0 H F H' F':Hp}{σ:St}{Γ:Ctx}(e:DEnv K S H0 F0 H F σ Γ)(g:Gr H F H' F'):DEnv K S H0 F0 H' F' σ Γ where
 gr:=e.gr.trans g
 l0:=e.l0
 sd:=λa h=>let⟨o,q⟩:=e.sd a h; ⟨o,g.h _ _ q⟩
 s0:=e.s0
 len:=e.len
 has:=λi x h=>let⟨v,a,b⟩:=e.has i x h; ⟨v,a,b.mono g⟩
 ne:=λi j x y v w a h1 h2 h3 h4 o1 o2=>by
  obtain⟨v',q1,q2⟩:=e.has i x h1;obtain⟨w',q3,q4⟩:=e.has j y h2;rw[h3]at q1;cases q1;rw[h4]at q3;cases q3;exact e.ne i j x y v w a h1 h2 h3 h4 (o1.back q2 λ_ _ z=>g.h _ _ z.h) (o2.back q4 λ_ _ z=>g.h _ _ z.h)
section
variable {Γ:Ctx}
def EvE(K:ζc)(S:Sx)(κ:Bool)(t:TE)(Γ:Ctx)(d:AD):Prop:=∀(H0 F0 H F:Hp) (σ:St),DEnv K S H0 F0 H F σ Γ→∀Q:VK,(∀v H' F',Gr H F H' F'→Rp K κ S H0 F' v d→Q v H')→t σ H Q
def EvO(K:ζc)(S:Sx)(κ:Bool)(t:TE)(Γ:Ctx)(ds:AG):Prop:=∀(H0 F0 H F:Hp) (σ:St),DEnv K S H0 F0 H F σ Γ→∀Q:VK,(∀a vs H' F',Gr H F H' F'→H a=none→H' a=some (.lst vs)→F' a=none→zq K κ S H0 F' vs ds→Q (.ref a) H')→t σ H Q
def EvL(K:ζc)(S:Sx)(κ:Bool)(t:TE)(Γ:Ctx)(ds:AG):Prop:=∀(H0 F0 H F:Hp) (σ:St),DEnv K S H0 F0 H F σ Γ→∀Q:VK,(∀a vs H' F',Gr H F H' F'→SqL K H' a vs→zq K κ S H0 F' vs ds→Q (.ref a) H')→t σ H Q
def EvD(K:ζc)(S:Sx)(t:TE)(Γ:Ctx)(d:AD):Prop:=∀(H0 F0 H F:Hp) (σ:St),DEnv K S H0 F0 H F σ Γ→∀Q:VK,(∀v H' F',Gr H F H' F'→Dp K H' v d→Q v H')→t σ H Q
def EvT(K:ζc)(S:Sx)(t:TT)(Γ:Ctx)(b:Bool):Prop:=∀(H0 F0 H F:Hp) (σ:St),DEnv K S H0 F0 H F σ Γ→∀Q:Bool→Hp→Prop,(∀H' F',Gr H F H' F'→Q b H')→t σ H Q
def EvA(K:ζc)(S:Sx)(κ:Bool)(t:TA)(Γ:Ctx)(ds:AG):Prop:=∀(H0 F0 H F:Hp) (σ:St),DEnv K S H0 F0 H F σ Γ→∀Q:List V→Hp→Prop,(∀vs H' F',Gr H F H' F'→zq K κ S H0 F' vs ds→Q vs H')→t σ H Q
def EvP(K:ζc)(S:Sx)(t:TO)(Γ:Ctx)(o:Option Int):Prop:=∀(H0 F0 H F:Hp) (σ:St),DEnv K S H0 F0 H F σ Γ→∀Q:Option Int→Hp→Prop,(∀H' F',Gr H F H' F'→Q o H')→t σ H Q
theorem EvE.toD{t:TE}{d:AD}(h:EvE K S κ t Γ d):EvD K S t Γ d:=λH0 F0 H F σ e Q q=>h H0 F0 H F σ e Q λv H' F' g p=>q v H' F' g (xM g.le (xi p))
theorem EvE.weak{κ':Bool}{t:TE}{d:AD}(h:EvE K S κ t Γ d)(hk:κ'=true→κ=true):EvE K S κ' t Γ d:=λH0 F0 H F σ e Q q=>h H0 F0 H F σ e Q λv H' F' g p=>q v H' F' g (vN hk p)
theorem EvE.imm{κ':Bool}{t:TE}{d:AD}(h:EvE K S κ t Γ d)(hk:imm d=true):EvE K S κ' t Γ d:=λH0 F0 H F σ e Q q=>h H0 F0 H F σ e Q λv H' F' g p=>q v H' F' g (VN hk (xi p))
theorem EvE.toL{t:TE}{ds:AG}(h:EvE K S κ t Γ (.list ds)):EvL K S κ t Γ ds:=λH0 F0 H F σ e Q q=>h H0 F0 H F σ e Q λv H' F' g p=>by
 obtain⟨a,vs,rfl,h1,h2⟩:=Zs p;exact q a vs H' F' g (g.le.seq h1.sq) h2
theorem EvL.imm{κ':Bool}{t:TE}{ds:AG}(h:EvL K S κ t Γ ds)(hk:∀d∈ds,imm d=true):EvL K S κ' t Γ ds:=λH0 F0 H F σ e Q q=>h H0 F0 H F σ e Q λa vs H' F' g p k=>q a vs H' F' g p (xz hk (zN k))
theorem EvO.toL{t:TE}{ds:AG}(h:EvO K S κ t Γ ds):EvL K S κ t Γ ds:=λH0 F0 H F σ e Q q=>h H0 F0 H F σ e Q λa vs H' F' g _ p _ k=>q a vs H' F' g (SqL.of p) k
theorem EvO.toE{t:TE}{ds:AG}(h:EvO K S κ t Γ ds):EvE K S κ t Γ (.list ds):=λH0 F0 H F σ e Q q=>h H0 F0 H F σ e Q λa vs H' F' g n p f k=>by
 have s:Same F' (upd F' a (.lst vs)):=Same.new f _;refine q (.ref a) H' (upd F' a (.lst vs)) ⟨g.h,g.f.trans s,λb u z=>?_,λb u z y=>?_⟩ (.lst (LN.new (e.out n)) (zA s k))
 ·by_cases eb:b=a
  ·subst eb; rw[zk]at z; rw[←z]; exact p
  ·rw[zr eb]at z; exact g.le _ _ z
 ·rw[zr (zL z n)]; exact g.ap _ _ z y
theorem EvL.toD{t:TE}{ds:AG}(h:EvL K S κ t Γ ds):EvD K S t Γ (.list ds):=λH0 F0 H F σ e Q q=>h H0 F0 H F σ e Q λa vs H' F' g p k=>q _ H' F' g (.lst p (xV g.le (zN k)))
theorem zcr{i:Nat}{ds:AG}(h:Γ[i]?=some (some (.ow κ ds))):EvL K S κ (tVar i) Γ ds:=λH0 F0 H F σ e Q q=>by
 obtain⟨v,h1,a,vs,rfl,o,k⟩:=e.has i _ h;exact⟨_,h1,q a vs H F (.refl e.le) (SqL.of o.h) k⟩
theorem VI{i:Nat}{d:AD}(h:Γ[i]?=some (some (.fz κ d))):EvE K S κ (tVar i) Γ d:=λH0 F0 H F σ e Q q=>by
 obtain⟨v,hv,hd⟩:=e.has i _ h;exact⟨v,hv,q v H F (.refl e.le) hd⟩
theorem zd6{i:Int}:EvE K S κ (tC (.int i)) Γ (.int i):=λ_ _ H F _ e _ q=>q _ H F (.refl e.le) (.int i)
theorem zeY{b:Bool}:EvE K S κ (tC (.bl b)) Γ (.bool b):=λ_ _ H F _ e _ q=>q _ H F (.refl e.le) (.bl b)
theorem zd3:EvE K S κ (tC .non) Γ .none:=λ_ _ H F _ e _ q=>q _ H F (.refl e.le) .non
theorem WW{r:R2}{ta tb:TE}{x y d:AD}(ha:EvE K S false ta Γ x)(hb:EvE K S false tb Γ y)(hr:∀v w H F (Q:VK),Same F H→Dp K F v x→Dp K F w y→(∀z,(∀F,Dp K F z d)→Q z H)→r v w H Q)(hi:imm d=true:=by rfl):EvE K S κ (tOp r ta tb) Γ d:=λH0 F0 H F σ e Q q =>
 ha H0 F0 H F σ e _ λv H1 F1 g1 p1=>hb H0 F0 H1 F1 σ (e.mono g1) _ λw H2 F2 g2 p2=>by
  exact hr v w H2 F2 Q g2.le (xM g2.f (xi p1)) (xi p2) λz p3=>q z H2 F2 (g1.trans g2) (VN hi (p3 F2))
theorem WY{g:Int→Int→V}{ta tb:TE}{i j:Int}{d:AD}(hi:imm d=true)(hg:∀F,Dp K F (g i j) d)(ha:EvE K S false ta Γ (.int i))(hb:EvE K S false tb Γ (.int j)):EvE K S κ (tOp (rI0 g) ta tb) Γ d :=
 WW ha hb (λv w H F Q le p1 p2 k=>by cases vH p1; cases vH p2; exact⟨i,j,rfl,rfl,k _ hg⟩) hi
theorem ev_I{C:Int→Int→Prop}{g:Int→Int→V}{ta tb:TE}{i j:Int}{d:AD}(hi:imm d=true)(hg:∀F,Dp K F (g i j) d)(ha:EvE K S false ta Γ (.int i))(hb:EvE K S false tb Γ (.int j))(hc:C i j):EvE K S κ (tOp (rI C g) ta tb) Γ d :=
 WW ha hb (λv w H F Q le p1 p2 k=>by cases vH p1; cases vH p2; exact⟨i,j,rfl,rfl,hc,k _ hg⟩) hi
theorem xc{ta tb:TE}{i j:Int}(ha:EvE K S false ta Γ (.int i))(hb:EvE K S false tb Γ (.int j)):EvE K S κ (tOp (rI0 λi j=>.int (i + j)) ta tb) Γ (.int (i + j)):=WY rfl (λ_=>.int _) ha hb
theorem XN{ta tb:TE}{i j:Int}(ha:EvE K S false ta Γ (.int i))(hb:EvE K S false tb Γ (.int j)):EvE K S κ (tOp (rI0 λi j=>.int (i - j)) ta tb) Γ (.int (i - j)):=WY rfl (λ_=>.int _) ha hb
theorem UE{ta tb:TE}{i j:Int}(ha:EvE K S false ta Γ (.int i))(hb:EvE K S false tb Γ (.int j)):EvE K S κ (tOp (rI0 λi j=>.bl (decide (i < j))) ta tb) Γ (.bool (decide (i < j))):=WY rfl (λ_=>.bl _) ha hb
theorem zeX{ta tb:TE}{i j:Int}(ha:EvE K S false ta Γ (.int i))(hb:EvE K S false tb Γ (.int j)):EvE K S κ (tOp (rI0 λi j=>.bl (decide (i≤j))) ta tb) Γ (.bool (decide (i≤j))):=WY rfl (λ_=>.bl _) ha hb
theorem YF{ta tb:TE}{i j:Int}(ha:EvE K S false ta Γ (.int i))(hb:EvE K S false tb Γ (.int j)):EvE K S κ (tOp (rI0 λi j=>.bl (decide (j < i))) ta tb) Γ (.bool (decide (j < i))):=WY rfl (λ_=>.bl _) ha hb
theorem wZ{ta tb:TE}{i j:Int}(ha:EvE K S false ta Γ (.int i))(hb:EvE K S false tb Γ (.int j))(hc:IntMulOk i j):EvE K S κ (tOp (rI IntMulOk λi j=>.int (i * j)) ta tb) Γ (.int (i * j)):=ev_I rfl (λ_=>.int _) ha hb hc
theorem xD{ta tb:TE}{i j:Int}(ha:EvE K S false ta Γ (.int i))(hb:EvE K S false tb Γ (.int j))(hc:CDiv i j):EvE K S κ (tOp (rI CDiv λi j=>.int (i / j)) ta tb) Γ (.int (i / j)):=ev_I rfl (λ_=>.int _) ha hb hc
theorem WX{ta tb:TE}{i j:Int}(ha:EvE K S false ta Γ (.int i))(hb:EvE K S false tb Γ (.int j))(hc:vM i j):EvE K S κ (tOp (rI vM λi j=>.int (i / j)) ta tb) Γ (.int (i / j)):=ev_I rfl (λ_=>.int _) ha hb hc
theorem xa{ta tb:TE}{i j:Int}(ha:EvE K S false ta Γ (.int i))(hb:EvE K S false tb Γ (.int j))(hc:0 < j):EvE K S κ (tOp (rI (λ_ j=>0 < j) λi j=>.int (i % j)) ta tb) Γ (.int (i % j)):=ev_I rfl (λ_=>.int _) ha hb hc
theorem zd1{ta tb:TE}{i j:Int}(ha:EvE K S false ta Γ (.int i))(hb:EvE K S false tb Γ (.int j))(hc:CPow i j):EvE K S κ (tOp (rI CPow λi j=>.int (i ^ j.toNat)) ta tb) Γ (.int (i ^ j.toNat)):=ev_I rfl (λ_=>.int _) ha hb hc
theorem zd4{ta:TE}{i:Int}(ha:EvE K S false ta Γ (.int i)):EvE K S κ (tUn (rU λi=>.int (-i)) ta) Γ (.int (-i)):=λH0 F0 H F σ e Q q =>
 ha H0 F0 H F σ e _ λv H1 F1 g1 p1=>by cases yt p1; exact⟨i,rfl,q _ H1 F1 g1 (.int _)⟩
theorem uY(i j:Int):decide (V.int i=V.int j)=decide (i=j):=by by_cases h:i=j <;> simp[h]
theorem XR(i j:Bool):decide (V.bl i=V.bl j)=(i == j):=by cases i <;> cases j <;> rfl
theorem wv{ta tb:TE}{i j:Int}(ha:EvE K S false ta Γ (.int i))(hb:EvE K S false tb Γ (.int j)):EvE K S κ (tOp rEq ta tb) Γ (.bool (decide (i=j))) :=
 WW ha hb λv w H F Q le p1 p2 k=>by
  cases vH p1; cases vH p2;refine⟨rfl,?_⟩
  rw[uY]; exact k _ λ_=>.bl _
theorem zaR{ta tb:TE}{i j:Int}(ha:EvE K S false ta Γ (.int i))(hb:EvE K S false tb Γ (.int j)):EvE K S κ (tOp rNe ta tb) Γ (.bool (!(decide (i=j)))) :=
 WW ha hb λv w H F Q le p1 p2 k=>by
  cases vH p1; cases vH p2;refine⟨rfl,?_⟩
  rw[uY]; exact k _ λ_=>.bl _
theorem zaS{ta tb:TE}{i j:Bool}(ha:EvE K S false ta Γ (.bool i))(hb:EvE K S false tb Γ (.bool j)):EvE K S κ (tOp rNe ta tb) Γ (.bool (!(i == j))) :=
 WW ha hb λv w H F Q le p1 p2 k=>by
  cases za2 p1; cases za2 p2;refine⟨rfl,?_⟩
  rw[XR]; exact k _ λ_=>.bl _
def isNone:AD→Bool
 | .none=>true
 | _=>false
theorem zas{F:Hp}{v:V}{d:AD}(h:Dp K F v d):decide (v=.non)=isNone d:=by
 cases h <;> first | rfl | exact decide_eq_false (by intro e; cases e)
theorem VJ{ta:TE}{d:AD}(ha:EvD K S ta Γ d):EvE K S κ (tOp (λx y H Q=>y=.non∧Q (.bl (decide (x=.non))) H) ta (tC .non)) Γ (.bool (isNone d)):=λH0 F0 H F σ e Q q =>
 ha H0 F0 H F σ e _ λv H1 F1 g1 p1=>⟨rfl,by rw[zas p1]; exact q _ H1 F1 g1 (.bl _)⟩
theorem zaU{neg:Bool}{ta tb:TE}{d f:AD}(ha:EvD K S ta Γ d)(hb:EvD K S tb Γ f)(z1:SeqAt.shaped d=true)(z2:SeqAt.shaped f=true):EvE K S κ (tOp (rEqD K neg) ta tb) Γ (.bool (if neg then !PyData.eqv d f else PyData.eqv d f)):=λH0 F0 H F σ e Q q =>
 ha H0 F0 H F σ e _ λv H1 F1 g1 p1=>hb H0 F0 H1 F1 σ (e.mono g1) _ λw H2 F2 g2 p2=>⟨d,f,xM g2.h p1,p2,z1,z2,q _ H2 F2 (g1.trans g2) (.bl _)⟩
theorem zct{ta tb:TE}{d:AD}(ha:EvD K S ta Γ d)(hb:EvD K S tb Γ d)(z:SeqAt.shaped d=true):EvE K S κ (tOp (rNeS K) ta tb) Γ (.bool false):=λH0 F0 H F σ e Q q =>
 ha H0 F0 H F σ e _ λv H1 F1 g1 p1=>hb H0 F0 H1 F1 σ (e.mono g1) _ λw H2 F2 g2 p2=>⟨d,xM g2.h p1,p2,z,q _ H2 F2 (g1.trans g2) (.bl _)⟩
theorem zbf{H0 F:Hp}{vs:List V}{ds:AG}{i:Int}{d:AD}(k:zq K κ S H0 F vs ds)(h:atI ds i=some d):∃v,atI vs i=some v∧Rp K κ S H0 F v d:=by
 unfold atI at h ⊢;rw[zq.length k];cases e:ixN ds.length i with
 | none=>rw[e]at h; cases h
 | some j=>rw[e]at h; exact zq.get k h
theorem zP{ta tb:TE}{ds:AG}{i:Int}{d:AD}(ha:EvL K S κ ta Γ ds)(hb:EvE K S false tb Γ (.int i))(h:atI ds i=some d):EvE K S κ (tOp (rIxL K) ta tb) Γ d:=λH0 F0 H F σ e Q q =>
 ha H0 F0 H F σ e _ λa vs H1 F1 g1 p1 k1=>hb H0 F0 H1 F1 σ (e.mono g1) _ λw H2 F2 g2 p2=>by
  cases yt p2;obtain⟨v,h1,h2⟩:=zbf (zA g2.f k1) h;exact⟨a,vs,i,v,rfl,rfl,g2.h.seq p1,h1,q _ H2 F2 (g1.trans g2) h2⟩
theorem xb{ta tb:TE}{ds:AG}{i:Int}{d:AD}(ha:EvE K S κ ta Γ (.tuple ds))(hb:EvE K S false tb Γ (.int i))(h:atI ds i=some d):EvE K S κ (tOp (rIxT K) ta tb) Γ d:=λH0 F0 H F σ e Q q =>
 ha H0 F0 H F σ e _ λv H1 F1 g1 p1=>hb H0 F0 H1 F1 σ (e.mono g1) _ λw H2 F2 g2 p2=>by
  cases yt p2;obtain⟨a,vs,rfl,h1,h2⟩:=Xe p1;obtain⟨v,h3,h4⟩:=zbf (zA g2.f h2) h;exact⟨a,vs,i,v,rfl,rfl,Same.seqT (g1.le.trans g2.h) h1,h3,q _ H2 F2 (g1.trans g2) h4⟩
theorem zaV{ta tb:TE}{a b:Bool}(ha:EvE K S false ta Γ (.bool a))(hb:a=true→EvE K S false tb Γ (.bool b)):EvE K S κ (zcP ta tb) Γ (.bool (a && b)):=λH0 F0 H F σ e Q q =>
 ha H0 F0 H F σ e _ λv H1 F1 g1 p1=>by
  cases tO p1;refine⟨a,rfl,?_⟩
  cases a with
  | true=>exact iteT (hb rfl H0 F0 H1 F1 σ (e.mono g1) Q λv H2 F2 g2 p2=>by cases tO p2; exact q _ H2 F2 (g1.trans g2) (.bl _))
  | false=>exact iteF (q _ H1 F1 g1 (.bl _))
theorem zaQ{ta tb:TE}{a b:Bool}(ha:EvE K S false ta Γ (.bool a))(hb:a=false→EvE K S false tb Γ (.bool b)):EvE K S κ (tOrV ta tb) Γ (.bool (a || b)):=λH0 F0 H F σ e Q q =>
 ha H0 F0 H F σ e _ λv H1 F1 g1 p1=>by
  cases tO p1;refine⟨a,rfl,?_⟩
  cases a with
  | false=>exact iteF (hb rfl H0 F0 H1 F1 σ (e.mono g1) Q λv H2 F2 g2 p2=>by cases tO p2; exact q _ H2 F2 (g1.trans g2) (.bl _))
  | true=>exact iteT (q _ H1 F1 g1 (.bl _))
theorem zd2{ta:TE}{a:Bool}(ha:EvE K S false ta Γ (.bool a)):EvE K S κ (zcO ta) Γ (.bool (!a)):=λH0 F0 H F σ e Q q =>
 ha H0 F0 H F σ e _ λv H1 F1 g1 p1=>by cases tO p1; exact⟨a,rfl,q _ H1 F1 g1 (.bl _)⟩
theorem zM{t:TE}{b:Bool}(h:EvE K S false t Γ (.bool b)):EvT K S (zcM t) Γ b:=λH0 F0 H F σ e Q q =>
 h H0 F0 H F σ e _ λv H1 F1 g1 p1=>by cases tO p1; exact⟨b,rfl,q H1 F1 g1⟩
theorem et_B{t:TE}{b:Bool}(h:EvE K S false t Γ (.bool b)):EvT K S (tB t) Γ b:=λH0 F0 H F σ e Q q =>
 h H0 F0 H F σ e _ λv H1 F1 g1 p1=>by cases tO p1; exact⟨b,rfl,q H1 F1 g1⟩
theorem vF{t u:TT}{a b:Bool}(ha:EvT K S t Γ a)(hb:a=true→EvT K S u Γ b):EvT K S (tAnd t u) Γ (a && b):=λH0 F0 H F σ e Q q =>
 ha H0 F0 H F σ e _ λH1 F1 g1=>by
  cases a with
  | true=>exact iteT (hb rfl H0 F0 H1 F1 σ (e.mono g1) Q λH2 F2 g2=>q H2 F2 (g1.trans g2))
  | false=>exact iteF (q H1 F1 g1)
theorem UF{t u:TT}{a b:Bool}(ha:EvT K S t Γ a)(hb:a=false→EvT K S u Γ b):EvT K S (tOr t u) Γ (a || b):=λH0 F0 H F σ e Q q =>
 ha H0 F0 H F σ e _ λH1 F1 g1=>by
  cases a with
  | false=>exact iteF (hb rfl H0 F0 H1 F1 σ (e.mono g1) Q λH2 F2 g2=>q H2 F2 (g1.trans g2))
  | true=>exact iteT (q H1 F1 g1)
theorem tI{t:TT}{a:Bool}(ha:EvT K S t Γ a):EvT K S (tNot t) Γ (!a):=λH0 F0 H F σ e Q q=>ha H0 F0 H F σ e _ λH1 F1 g1=>q H1 F1 g1
theorem zaW:EvT K S tYes Γ true:=λH0 F0 H F σ e Q q=>q H F (.refl e.le)
theorem EvT.eq{t:TT}{a b:Bool}(h:EvT K S t Γ a)(e:a=b):EvT K S t Γ b:=e ▸ h
theorem EvE.eq{t:TE}{a b:AD}(h:EvE K S κ t Γ a)(e:a=b):EvE K S κ t Γ b:=e ▸ h
theorem EvO.eq{t:TE}{a b:AG}(h:EvO K S κ t Γ a)(e:a=b):EvO K S κ t Γ b:=e ▸ h
theorem zC:EvA K S κ tNil Γ []:=λH0 F0 H F σ e Q q=>q [] H F (.refl e.le) .nil
theorem zh{t:TE}{u:TA}{d:AD}{ds:AG}(h:EvE K S κ t Γ d)(k:EvA K S κ u Γ ds):EvA K S κ (zS t u) Γ (d :: ds):=λH0 F0 H F σ e Q q =>
 h H0 F0 H F σ e _ λv H1 F1 g1 p1=>k H0 F0 H1 F1 σ (e.mono g1) _ λvs H2 F2 g2 p2=>q _ H2 F2 (g1.trans g2) (.cons (yD g2.f p1) p2)
theorem zaO{t:TA}{ds:AG}(h:EvA K S κ t Γ ds)(hz:ds.length≤sizeLine):EvE K S κ (tTup t) Γ (.tuple ds):=λH0 F0 H F σ e Q q =>
 h H0 F0 H F σ e _ λvs H1 F1 g1 p1=>⟨by rw[zq.length p1]; exact hz,λp hp=>q _ _ (upd F1 p (.tup vs)) (g1.trans (.new g1.le hp _)) (.tup (SqT.of zk) (zA (Same.new (g1.le.free hp) _) p1))⟩
theorem yf{t:TA}{ds:AG}(h:EvA K S κ t Γ ds)(hz:ds.length≤sizeLine):EvO K S κ (tLst t) Γ ds:=λH0 F0 H F σ e Q q =>
 h H0 F0 H F σ e _ λvs H1 F1 g1 p1=>⟨by rw[zq.length p1]; exact hz,λp hp=>q p vs _ F1 (g1.trans (.newO g1.le hp _)) (g1.h.free hp) zk (g1.le.free hp) p1⟩
def spD(K:ζc)(κ:Bool)(pre:AG→AD→Prop):Sp:=λvs H Q _=>∃F ds d,Same F H∧zQ K F vs ds∧pre ds d∧∀v H' F',Gr H F H' F'→Rp K κ .fresh H F' v d→Q v H'
theorem zi{pre:AG→AD→Prop}{E:XK}{t:TA}{ds:AG}{d:AD}(h:EvA K S false t Γ ds)(hp:pre ds d):EvE K S κ (vY (spD K true pre) [] E t) Γ d:=λH0 F0 H F σ e Q q =>
 h H0 F0 H F σ e _ λvs H1 F1 g1 p1=>⟨F1,ds,d,g1.le,by rw[ζ1]; exact zN p1,hp,λv H2 F2 g2 p2=>q v H2 F2 (g1.trans g2) (vN (κ:=true) (λ_=>rfl) (wP (κ:=true) (κ':=true) (S':=S) (H0':=H0) (λa xs z=>⟨z.1,λc=>by
  obtain⟨u,hu⟩:=(e.mono g1).sd a c;exact z.2 (by show H1 a≠none; rw[hu]; simp)⟩) (λ_ _ z=>z) p2))⟩
theorem uV{pre:AG→AD→Prop}{E:XK}{t:TA}{ds:AG}{d:AD}(h:EvA K S false t Γ ds)(hp:pre ds d):EvE K S false (vY (spD K false pre) [] E t) Γ d:=λH0 F0 H F σ e Q q =>
 h H0 F0 H F σ e _ λvs H1 F1 g1 p1=>⟨F1,ds,d,g1.le,by rw[ζ1]; exact zN p1,hp,λv H2 F2 g2 p2=>q v H2 F2 (g1.trans g2) (ui (xi p2))⟩
theorem yg{ta:TE}{ds:AG}(h:EvL K S false ta Γ ds):EvE K S κ (tCB (λxs H Q=>∃p ys,xs=[.ref p]∧(SqL K H p ys∨SqT K H p ys)∧Q (.int ys.length) H) (zS ta tNil)) Γ (.int ds.length):=λH0 F0 H F σ e Q q =>
 h H0 F0 H F σ e _ λa vs H1 F1 g1 p1 k1=>⟨a,vs,rfl,.inl p1,q _ H1 F1 g1 (by rw[zq.length k1]; exact .int _)⟩
theorem zcv{ta:TE}{ds:AG}(h:EvE K S false ta Γ (.tuple ds)):EvE K S κ (tCB (λxs H Q=>∃p ys,xs=[.ref p]∧(SqL K H p ys∨SqT K H p ys)∧Q (.int ys.length) H) (zS ta tNil)) Γ (.int ds.length):=λH0 F0 H F σ e Q q =>
 h H0 F0 H F σ e _ λv H1 F1 g1 p1=>by
  obtain⟨a,vs,rfl,h1,h2⟩:=Xe p1;exact⟨a,vs,rfl,.inr (Same.seqT g1.le h1),q _ H1 F1 g1 (by rw[zq.length h2]; exact .int _)⟩
theorem yW{ta:TE}{ds:AG}(h:EvL K S κ ta Γ ds):EvO K S κ (tCB (λxs H Q=>∃p ys,xs=[.ref p]∧(SqL K H p ys∨SqT K H p ys)∧∀l,H l=none→Q (.ref l) (upd H l (.lst ys))) (zS ta tNil)) Γ ds:=λH0 F0 H F σ e Q q =>
 h H0 F0 H F σ e _ λa vs H1 F1 g1 p1 k1=>⟨a,vs,rfl,.inl p1,λp hp=>q p vs _ F1 (g1.trans (.newO g1.le hp _)) (g1.h.free hp) zk (g1.le.free hp) k1⟩
theorem zec{ta:TE}{i:Int}(h:EvE K S false ta Γ (.int i)):EvE K S κ (tCB (λxs H Q=>∃i,xs=[.int i]∧Q (.int (if i < 0 then -i else i)) H) (zS ta tNil)) Γ (.int (i.natAbs:Int)):=λH0 F0 H F σ e Q q =>
 h H0 F0 H F σ e _ λv H1 F1 g1 p1=>by
  cases yt p1;have e:(if i < 0 then -i else i)=(i.natAbs:Int):=by split <;> omega
  exact⟨i,rfl,by rw[e]; exact q _ H1 F1 g1 (.int _)⟩
def cutD(xs:AG)(lo hi:Option Int):AG:=(xs.drop (HT.sIx xs.length 0 lo)).take (HT.sIx xs.length xs.length hi - HT.sIx xs.length 0 lo)
theorem zej{H0 F:Hp}{vs:List V}{ds:AG}{lo hi:Option Int}(k:zq K κ S H0 F vs ds):zq K κ S H0 F (cutV vs lo hi) (cutD ds lo hi):=by
 unfold cutV cutD;rw[zq.length k];exact zq.take _ (zq.drop _ k)
theorem Zf:EvP K S V4 Γ none:=λH0 F0 H F σ e Q q=>q H F (.refl e.le)
theorem Ze{t:TE}{i:Int}(h:EvE K S false t Γ (.int i)):EvP K S (zcN t) Γ (some i):=λH0 F0 H F σ e Q q =>
 h H0 F0 H F σ e _ λv H1 F1 g1 p1=>by cases yt p1; exact⟨i,rfl,q H1 F1 g1⟩
theorem xx{t:TE}{tl th:TO}{ds:AG}{lo hi:Option Int}(h:EvL K S κ t Γ ds)(hl:EvP K S tl Γ lo)(hh:EvP K S th Γ hi):EvO K S κ (tSl (rSlL K) t tl th) Γ (cutD ds lo hi):=λH0 F0 H F σ e Q q =>
 h H0 F0 H F σ e _ λa vs H1 F1 g1 p1 k1=>hl H0 F0 H1 F1 σ (e.mono g1) _ λH2 F2 g2=>hh H0 F0 H2 F2 σ ((e.mono g1).mono g2) _ λH3 F3 g3 =>
  ⟨a,vs,rfl,(g2.h.trans g3.h).seq p1,λp hp=>q p _ _ F3 (((g1.trans g2).trans g3).trans (.newO g3.le hp _)) (((g1.trans g2).trans g3).h.free hp) zk (g3.le.free hp) (zej (zA (g2.f.trans g3.f) k1))⟩
end
end PD
namespace L2
open PySem PySem.Spec PyProof.Rows
section
variable {X:Cx}{K:ζc}
def QO(K:ζc):R2:=λx y H Q=>∃l b xs zs,x=.ref l∧y=.ref b∧SqL K H l xs∧SqL K H b zs∧xs.length + zs.length≤sizeLine∧∀p,H p=none→Q (.ref p) (upd H p (.lst (xs ++ zs)))
theorem zb1:OpR X (binaryOp .Add) (QO X.K):=by
 intro pins s σ H x y v u Q I rx ry h;obtain⟨l,b,xs,zs,rfl,rfl,hH,hB,hz,q⟩:=h;cases rx;cases ry;obtain⟨its,r,pl,z⟩:=I.list hH;obtain⟨its2,r2,pl2,z2⟩:=I.list hB;have l1:=r.length;have l2:=r2.length;obtain⟨⟨cls,dd,data,sl⟩,ho,hc,n,hd⟩:=pl.isList;obtain⟨⟨cls2,dd2,data2,sl2⟩,ho2,hc2,n2,hd2⟩:=pl2.isList;simp only at hc hd hc2 hd2;subst hc hd hc2 hd2;have e:its.toArray ++ its2.toArray=(its ++ its2).toArray:=by simp
 refine concat_meets ⟨_,ho,rfl⟩ ⟨_,ho2,rfl⟩ noFill_list_add seq_list_add PySem.F.slot_list_add PySem.F.entry_list_add (PySem.F.args_list_add_2 _ _) (list_addW l b its.toArray its2.toArray n n2 dd dd2 sl sl2 (by simp only[List.size_toArray]; omega)) ⟨ho,ho2,?_⟩;rw[e];exact⟨.ref _,_,I.lnew (t':=s.toks) (r.append r2) (by rw[ζg]; omega),rfl,q _ I.fresh⟩
def tyD:AD→String
 | .none => "NoneType"
 | .bool _ => "bool"
 | .int _ => "int"
 | .str _ => "str"
 | .list _ => "list"
 | .tuple _ => "tuple"
 | _ => "object"
def QN(K:ζc):List V→Hp→VK→Prop:=λxs H Q=>∃x d T b,xs=[x,.ty T]∧Dp K H x d∧PySem.W.kitOne K (.type (tyD d)) (.type T)=some b∧Q (.bl b) H
theorem T1:yX X (.builtin "isinstance") (QN X.K):=by
 intro pins s σ H xs us Q I r h;obtain⟨x,d,T,b,rfl,dp,e,q⟩:=h;obtain⟨u,v,rfl,ru,rv⟩:=r.two;cases(show v=Value.type T from rv);have fin:∀tk,EP X pins σ Q (.bool b) { s with toks:=tk }:=λtk=>⟨.bl b,H,I.tok tk,rfl,q⟩
 cases dp with
 | non=>cases(show u=Value.none from ru); exact PySem.W.kia_one PySem.W.kitx_none I.kIn True.intro e (λz=>nomatch z) fin
 | bl y=>cases(show u=Value.bool y from ru); exact PySem.W.kia_one PySem.W.kitx_bool I.kIn True.intro e (λz=>nomatch z) fin
 | int i=>obtain⟨t,z⟩:=(show∃t,u=Value.int i t from ru); cases z; exact PySem.W.kia_one PySem.W.kitx_int I.kIn True.intro e (λz=>nomatch z) fin
 | str y=>obtain⟨t,z⟩:=(show∃t,u=Value.str y t from ru); cases z; exact PySem.W.kia_one PySem.W.kitx_str I.kIn True.intro e (λz=>nomatch z) fin
 | @lst a xs ds h k =>
  cases(show u=Value.ref a from ru);obtain⟨its,rv,⟨o,n,h1,h2,_⟩,_⟩:=I.list h;exact PySem.W.kia_one PySem.W.kitx_list I.kIn ⟨_,h1,h2⟩ e (λz=>nomatch z) fin
 | @tup a xs ds h k =>
  cases(show u=Value.ref a from ru);obtain⟨its,rv,⟨o,h1,h2,_⟩,_⟩:=I.tuple h;exact PySem.W.kia_one PySem.W.kitx_tuple I.kIn ⟨_,h1,h2⟩ e (λz=>nomatch z) fin
theorem w6(hK:X.K=K):yX X (.builtin "isinstance") (QN K):=by subst hK; exact T1
theorem vA(hK:X.K=K):OpR X (binaryOp .Add) (QO K):=by subst hK; exact zb1
end
end L2
namespace PD
open PySem L2
section
variable {K:ζc}{S:Sx}{κ:Bool}{Γ:Ctx}
theorem uU{ta tb:TE}{xs ys:AG}(ha:EvL K S κ ta Γ xs)(hb:EvL K S κ tb Γ ys)(hz:xs.length + ys.length≤sizeLine):EvO K S κ (tOp (QO K) ta tb) Γ (xs ++ ys):=λH0 F0 H F σ e Q q =>
 ha H0 F0 H F σ e _ λa vs H1 F1 g1 p1 k1=>hb H0 F0 H1 F1 σ (e.mono g1) _ λb ws H2 F2 g2 p2 k2 =>
  ⟨a,b,vs,ws,rfl,rfl,g2.h.seq p1,p2,by rw[zq.length k1,zq.length k2]; exact hz,λp hp=>q p _ _ F2 ((g1.trans g2).trans (.newO g2.le hp _)) ((g1.trans g2).h.free hp) zk (g2.le.free hp) (zq.append (zA g2.f k1) k2)⟩
theorem wX{ta tb:TE}{xs:AG}{k:Int}(ha:EvO K S κ ta Γ xs)(hb:EvE K S false tb Γ (.int k))(h1:-(2 ^ 63)≤k)(h2:k < 2 ^ 63)(hz:xs.length * k.toNat≤sizeLine):EvO K S κ (tOp rRep ta tb) Γ (List.replicate k.toNat xs).flatten:=λH0 F0 H F σ e Q q =>
 ha H0 F0 H F σ e _ λa vs H1 F1 g1 n1 p1 f1 k1=>hb H0 F0 H1 F1 σ (e.mono g1) _ λw H2 F2 g2 p2=>by
  cases yt p2;exact⟨a,k,vs,rfl,rfl,g2.h _ _ p1,h1,h2,by rw[zq.length k1]; exact hz,λp hp=>q p _ _ F2 ((g1.trans g2).trans (.newO g2.le hp _)) ((g1.trans g2).h.free hp) zk (g2.le.free hp) (zq.rep (zA g2.f k1) _)⟩
theorem zd5{ta:TE}{d:AD}{T:String}{b:Bool}(h:EvD K S ta Γ d)(hi:PySem.W.kitOne K (.type (tyD d)) (.type T)=some b):EvE K S κ (tCB (QN K) (zS ta (zS (tC (.ty T)) tNil))) Γ (.bool b):=λH0 F0 H F σ e Q q =>
 h H0 F0 H F σ e _ λv H1 F1 g1 p1=>⟨v,d,T,b,rfl,p1,hi,q _ H1 F1 g1 (.bl b)⟩
theorem zaB(ns:AE):(ns.map V.int).all uS=true:=by
 rw[ξE];intro v hv;obtain⟨n,_,rfl⟩:=ζp.mp hv;rfl
theorem zci(i:Int)(ns:AE):inV (.int i) (ns.map V.int)=decide (i∈ns):=by
 unfold inV;rw[List.any_map];by_cases h:i∈ns
 ·rw[decide_eq_true h,ξn];exact⟨i,h,by show eqV (.int i) (.int i)=true; simp[eqV]⟩
 ·rw[decide_eq_false h,List.any_eq_false];intro x hx hq;have:x=i:=by
   have q:eqV (.int x) (.int i)=true:=hq;simpa[eqV]using q
  exact h (this ▸ hx)
theorem xt{neg:Bool}{ta tb:TE}{i:Int}{ns:AE}(ha:EvE K S false ta Γ (.int i))(hb:EvL K S false tb Γ (ns.map .int)):EvE K S κ (tOp (rIn K neg) ta tb) Γ (.bool (if neg then !decide (i∈ns)else decide (i∈ns))):=λH0 F0 H F σ e Q q =>
 ha H0 F0 H F σ e _ λv H1 F1 g1 p1=>hb H0 F0 H1 F1 σ (e.mono g1) _ λb ws H2 F2 g2 p2 k2=>by
  cases yt p1;cases yb (zN k2);refine⟨b,_,rfl,.inl p2,rfl,zaB ns,?_⟩
  rw[zci];exact q _ H2 F2 (g1.trans g2) (.bl _)
def ExG(K:ζc)(S:Sx)(κ:Bool)(g:TG)(js:AF)(d:AD)(Γ:Ctx)(k:Ctx→Prop):Prop:=∀(H0 F0 H F:Hp) (σ:St) (v:V),DEnv K S H0 F0 H F σ Γ→Rp K κ S H0 F v d→∀Q:St→Hp→Prop,
 (∀Γ' σ' H' F',k Γ'→Gr H F H' F'→DEnv K S H0 F0 H' F' σ' Γ'→σ'.length=σ.length→(∀j,j∉js→σ'[j]?=σ[j]?)→Q σ' H')→g v σ H Q
theorem DEnv.set{H0 F0 H F:Hp}{σ:St}{i:Nat}{v:V}{x:DV}(e:DEnv K S H0 F0 H F σ Γ)(p:HasV K S H0 H F v x)
  (hne:∀a,Owns H v x a→∀(j:Nat) y w,j≠i→Γ[j]?=some (some y)→σ[j]?=some (some w)→¬Owns H w y a):DEnv K S H0 F0 H F (σ.set i (some v)) (Γ.set i (some x)):=by
 refine⟨e.gr,e.l0,e.sd,e.s0,by simp[e.len],λj f h=>?_,λj k' x1 y1 v1 w1 b g1 g2 g3 g4 o1 o2=>?_⟩
 ·by_cases hj:j=i
  ·subst hj;by_cases hl:j < Γ.length
   ·rw[ζt hl]at h;cases h;exact⟨v,by rw[ζt (by rw[e.len]; exact hl)],p⟩
   ·rw[List.getElem?_eq_none (by simp; omega)]at h;cases h
  ·rw[ζy (Ne.symm hj)]at h ⊢;exact e.has j f h
 ·have li:∀{j:Nat} {y:DV},(Γ.set i (some x))[j]?=some (some y)→j < Γ.length:=λ{j y} z=>by
   have:=(ζh.mp z).1;rw[ξC]at this;exact this
  by_cases hj:j=i
  ·subst hj;by_cases hk:k'=j
   ·exact hk.symm
   ·rw[ζt (by rw[e.len]; exact li g1)]at g3;rw[ζt (li g1)]at g1;cases g1;cases g3;rw[ζy (Ne.symm hk)]at g4 g2;exact absurd o2 (hne b o1 k' y1 w1 hk g2 g4)
  ·rw[ζy (Ne.symm hj)]at g3 g1;by_cases hk:k'=i
   ·subst hk;rw[ζt (by rw[e.len]; exact li g2)]at g4;rw[ζt (li g2)]at g2;cases g2;cases g4;exact absurd o1 (hne b o2 j x1 v1 hj g1 g3)
   ·rw[ζy (Ne.symm hk)]at g4 g2;exact e.ne j k' x1 y1 v1 w1 b g1 g2 g3 g4 o1 o2
theorem DEnv.setF{H0 F0 H F:Hp}{σ:St}{i:Nat}{v:V}{d:AD}(e:DEnv K S H0 F0 H F σ Γ)(p:Rp K κ S H0 F v d):DEnv K S H0 F0 H F (σ.set i (some v)) (Γ.set i (some (.fz κ d))):=e.set (x:=.fz κ d) p λ_ z=>z.elim
theorem OwnO.other{H0 H F:Hp}{a b:Addr}{u oo:HO}(w:OwnO S H0 H F b u)(h:b≠a):OwnO S H0 (upd H a oo) F b u:=⟨by rw[zr h]; exact w.h,w.f,w.n,w.s⟩
theorem HasV.other{H0 H F:Hp}{a:Addr}{v:V}{x:DV}{oo:HO}(h:HasV K S H0 H F v x)(n:¬Owns H v x a):HasV K S H0 (upd H a oo) F v x:=by
 cases x with
 | fz κ d=>exact h
 | tn d=>exact h
 | ow κ ds=>obtain⟨b,us,eb,wo,kk⟩:=h; exact⟨b,us,eb,wo.other λz=>n (by rw[eb,z]; rfl),kk⟩
 | ox=>obtain⟨b,us,eb,wo⟩:=h; exact⟨b,us,eb,wo.other λz=>n (by rw[eb,z]; rfl)⟩
 | o2 r dss =>
  obtain⟨b,us,eb,wo,n1,n2,l,k⟩:=h;refine⟨b,us,eb,wo.other λz=>n (.inl (by rw[eb.eq,z])),n1,n2,l,λj y hy=>?_⟩
  obtain⟨c,ws,ds,e2,o2,h2,k2⟩:=k j y hy;exact⟨c,ws,ds,e2,o2.other λz=>n (.inr ⟨b,us,eb.eq,wo.h,by rw[←z,←e2]; exact ζd hy⟩),h2,k2⟩
 | fn a=>exact h
 | xn φ=>exact h
 | oa b κ ds=>obtain⟨eb,us,wo,kk⟩:=h; exact⟨eb,us,wo.other λz=>n (by rw[eb,z]; rfl),kk⟩
 | xp φ=>exact h
 | od u=>obtain⟨b,eb,wo⟩:=h; exact⟨b,eb,wo.other λz=>n (by rw[eb,z]; rfl)⟩
 | og ad ψ =>
  obtain⟨ok,w,p⟩:=h;have eq:∀b,ad H v b→upd H a oo b=H b:=λb z=>zr λy=>n (y ▸ z);refine⟨ok,λb z=>?_,ok.ps S H0 H _ F F v eq (.refl _) p⟩
  have z:=(ok.pl H _ v eq b).mp z;obtain⟨o,y⟩:=w b z;exact⟨o,y.other λq=>n (q ▸ z)⟩
theorem Owns.other{H0 H F:Hp}{a c:Addr}{v:V}{x:DV}{oo:HO}(h:HasV K S H0 H F v x)(n:¬Owns H v x a)(o:Owns (upd H a oo) v x c):Owns H v x c:=by
 cases x with
 | fz _ _=>exact o.elim
 | tn _=>exact o.elim
 | ow κ ds=>exact o
 | ox=>exact o
 | o2 r dss =>
  rcases o with o | ⟨p,us,e2,hp,hm⟩
  ·exact .inl o
  ·rw[zr (λz=>n (.inl (by rw[e2,z])))]at hp;exact .inr ⟨p,us,e2,hp,hm⟩
 | fn _=>exact o.elim
 | xn _=>exact o.elim
 | oa _ _ _=>exact o
 | xp _=>exact o.elim
 | od _=>exact o
 | og ad ψ=>exact(h.1.pl H (upd H a oo) v (λb z=>zr λy:b=a=>n (y ▸ z)) c).mp o
theorem DEnv.putO{H0 F0 H F:Hp}{σ:St}{i:Nat}{a:Addr}{v:V}{oo:HO}{x y:DV}(e:DEnv K S H0 F0 H F σ Γ)(h:Γ[i]?=some (some x))(ha:σ[i]?=some (some v))(ho:Owns H v x a)
  (k:HasV K S H0 (upd H a oo) F v y) (ko:∀c,Owns (upd H a oo) v y c→Owns H v x c):DEnv K S H0 F0 (upd H a oo) F σ (Γ.set i (some y)):=by
 obtain⟨v',q1,q2⟩:=e.has i x h;rw[ha]at q1;cases q1;obtain⟨ws,w⟩:=q2.owns ho;have hs:Same F (upd H a oo):=λb u z=>by
  have:b≠a:=by rintro rfl; rw[w.f]at z; cases z
  rw[zr this]; exact e.le _ _ z
 have li:=(ζh.mp h).1;have far:∀{j:Nat} {f:DV} {u:V},j≠i→Γ[j]?=some (some f)→σ[j]?=some (some u)→¬Owns H u f a:=λ{j f u} hj z r o=>hj (e.ne j i f x u v a z h r ha o ho);refine⟨⟨λb u z=>?_,e.gr.f,hs,e.gr.ap⟩,e.l0,λb c=>?_,e.s0,by simp[e.len],λj f z=>?_,λj k' x1 y1 v1 w1 b g1 g2 g3 g4 o1 o2=>?_⟩
 ·rw[zr (zL z w.n)]; exact e.gr.h _ _ z
 ·obtain⟨o,q⟩:=e.sd b c;by_cases hb:b=a
  ·subst hb; exact⟨_,zk⟩
  ·exact⟨o,by rw[zr hb]; exact q⟩
 ·by_cases hj:j=i
  ·subst hj;rw[ζt li]at z;cases z;exact⟨_,ha,k⟩
  ·rw[ζy (Ne.symm hj)]at z;obtain⟨u,r1,r2⟩:=e.has j f z;exact⟨u,r1,r2.other (far hj z r1)⟩
 ·have bk:∀{j:Nat} {f:DV} {u:V},(Γ.set i (some y))[j]?=some (some f)→σ[j]?=some (some u)→Owns (upd H a oo) u f b→∃g,Γ[j]?=some (some g)∧Owns H u g b:=λ{j f u} z r o=>by
   by_cases hj:j=i
   ·subst hj;rw[ζt li]at z;cases z;rw[ha]at r;cases r;exact⟨x,h,ko b o⟩
   ·rw[ζy (Ne.symm hj)]at z;obtain⟨u',r1,r2⟩:=e.has j f z;rw[r]at r1;cases r1;exact⟨f,z,o.other r2 (far hj z r)⟩
  obtain⟨f1,z1,w1'⟩:=bk g1 g3 o1;obtain⟨f2,z2,w2'⟩:=bk g2 g4 o2;exact e.ne j k' f1 f2 v1 w1 b z1 z2 g3 g4 w1' w2'
theorem DEnv.put{H0 F0 H F:Hp}{σ:St}{i:Nat}{a:Addr}{v:V}{vs:List V}{x y:DV}(e:DEnv K S H0 F0 H F σ Γ)(h:Γ[i]?=some (some x))(ha:σ[i]?=some (some v))(ho:Owns H v x a)
  (k:HasV K S H0 (upd H a (.lst vs)) F v y) (ko:∀c,Owns (upd H a (.lst vs)) v y c→Owns H v x c):DEnv K S H0 F0 (upd H a (.lst vs)) F σ (Γ.set i (some y)):=e.putO h ha ho k ko
theorem OwnO.frz{H0 H F:Hp}{a b:Addr}{u oo:HO}(w:OwnO S H0 H F b u)(h:b≠a):OwnO S H0 H (upd F a oo) b u:=⟨w.h,by rw[zr h]; exact w.f,w.n,w.s⟩
theorem HasV.frz{H0 H F:Hp}{a:Addr}{v:V}{x:DV}{vs:List V}(h:HasV K S H0 H F v x)(s:Same F (upd F a (.lst vs)))(n:¬Owns H v x a):HasV K S H0 H (upd F a (.lst vs)) v x:=by
 cases x with
 | fz κ d=>exact yD s h
 | tn d=>obtain⟨T,eT,k⟩:=h; exact⟨T,eT,yD s k⟩
 | ow κ ds=>obtain⟨b,us,eb,wo,kk⟩:=h; exact⟨b,us,eb,wo.frz λz=>n (by rw[eb,z]; rfl),zA s kk⟩
 | ox=>obtain⟨b,us,eb,wo⟩:=h; exact⟨b,us,eb,wo.frz λz=>n (by rw[eb,z]; rfl)⟩
 | o2 r dss =>
  obtain⟨b,us,eb,wo,n1,n2,l,k⟩:=h;refine⟨b,us,eb,wo.frz λz=>n (.inl (by rw[eb.eq,z])),n1,n2,l,λj y hy=>?_⟩
  obtain⟨c,ws,ds,e2,o2,h2,k2⟩:=k j y hy;exact⟨c,ws,ds,e2,o2.frz λz=>n (.inr ⟨b,us,eb.eq,wo.h,by rw[←z,←e2]; exact ζd hy⟩),h2,zA s k2⟩
 | fn a=>exact h
 | xn φ=>obtain⟨b,e,k⟩:=h; exact⟨b,e,s _ _ k⟩
 | oa b κ ds=>obtain⟨eb,us,wo,kk⟩:=h; exact⟨eb,us,wo.frz λz=>n (by rw[eb,z]; rfl),zA s kk⟩
 | xp φ=>obtain⟨F1,s1,k⟩:=h; exact⟨F1,s1.trans s,k⟩
 | od u=>obtain⟨b,eb,wo⟩:=h; exact⟨b,eb,wo.frz λz=>n (by rw[eb,z]; rfl)⟩
 | og ad ψ =>
  obtain⟨ok,w,p⟩:=h;refine⟨ok,λb z=>?_,ok.ps S H0 H H F _ v (λ_ _=>rfl) s p⟩
  obtain⟨o,y⟩:=w b z;exact⟨o,y.frz λq=>n (q ▸ z)⟩
theorem DEnv.froz{H0 F0 H F:Hp}{σ:St}{i:Nat}{a:Addr}{v:V}{vs:List V}{x y:DV}(e:DEnv K S H0 F0 H F σ Γ)(h:Γ[i]?=some (some x))(hv:σ[i]?=some (some v))(ho:Owns H v x a)(w:wI S H0 H F a vs)
  (k:HasV K S H0 H (upd F a (.lst vs)) v y) (ko:∀c,Owns H v y c→Owns H v x c):Same F (upd F a (.lst vs))∧DEnv K S H0 F0 H (upd F a (.lst vs)) σ (Γ.set i (some y)):=by
 have s:Same F (upd F a (.lst vs)):=Same.new w.f _;have li:=(ζh.mp h).1;have g:Gr H0 F0 H (upd F a (.lst vs)):=⟨e.gr.h,e.gr.f.trans s,λb u z=>by
  by_cases eb:b=a
  ·subst eb; rw[zk]at z; rw[←z]; exact w.h
  ·rw[zr eb]at z; exact e.le _ _ z,λb u z y=>by
  rw[zr (zL z w.n)]; exact e.gr.ap _ _ z y⟩
 refine⟨s,g,e.l0,e.sd,e.s0,by simp[e.len],λj f z=>?_,λj k' x1 y1 v1 w1 b g1 g2 g3 g4 o1 o2=>?_⟩
 ·by_cases hj:j=i
  ·subst hj;rw[ζt li]at z;cases z;exact⟨v,hv,k⟩
  ·rw[ζy (Ne.symm hj)]at z;obtain⟨u,r1,r2⟩:=e.has j f z;exact⟨u,r1,r2.frz s λo=>hj (e.ne j i f x u v a z h r1 hv o ho)⟩
 ·have bk:∀{j:Nat} {f:DV} {u:V},(Γ.set i (some y))[j]?=some (some f)→σ[j]?=some (some u)→Owns H u f b→∃g,Γ[j]?=some (some g)∧Owns H u g b:=λ{j f u} z r o=>by
   by_cases hj:j=i
   ·subst hj;rw[ζt li]at z;cases z;rw[hv]at r;cases r;exact⟨x,h,ko b o⟩
   ·rw[ζy (Ne.symm hj)]at z;exact⟨f,z,o⟩
  obtain⟨f1,z1,w1'⟩:=bk g1 g3 o1;obtain⟨f2,z2,w2'⟩:=bk g2 g4 o2;exact e.ne j k' f1 f2 v1 w1 b z1 z2 g3 g4 w1' w2'
theorem DEnv.freeze{H0 F0 H F:Hp}{σ:St}{i:Nat}{ds:AG}(e:DEnv K S H0 F0 H F σ Γ)(h:Γ[i]?=some (some (.ow κ ds))):∃F',Same F F'∧DEnv K S H0 F0 H F' σ (Γ.set i (some (.fz κ (.list ds)))):=by
 obtain⟨v,q1,a,vs,rfl,w,q5⟩:=e.has i _ h;exact⟨_,e.froz (y:=.fz κ (.list ds)) h q1 rfl w (.lst (LN.new w.s) (zA (Same.new w.f _) q5)) λ_ z=>z.elim⟩
theorem zcx{i:Nat}{d:AD}{k:Ctx→Prop}(h:k (Γ.set i (some (.fz κ d)))):ExG K S κ (yJ i) [i] d Γ k:=λH0 F0 H F σ v e p Q q =>
 q _ _ H F h (.refl e.le) (e.setF p) (by simp) λj hj=>by rw[List.getElem?_set_ne (by intro z; exact hj (by simp[z]))]
theorem zeg{i j:Nat}{x y:AD}{k:Ctx→Prop}(h:k ((Γ.set i (some (.fz κ x))).set j (some (.fz κ y)))):ExG K S κ (gTup K 2 (tV (yJ i) (tV (yJ j) gNil))) [i,j] (.tuple [x,y]) Γ k:=λH0 F0 H F σ v e p Q q=>by
 obtain⟨a,vs,rfl,h1,h2⟩:=Xe p;cases h2 with
 | cons px h2=>cases h2 with
  | cons py h2 =>
   cases h2;refine⟨a,_,rfl,Same.seqT e.le h1,rfl,_,_,rfl,_,_,rfl,rfl,?_⟩
   refine q _ _ H F h (.refl e.le) ((e.setF px).setF py) (by simp) λm hm=>?_;rw[List.getElem?_set_ne (by intro z; exact hm (by simp[z])),List.getElem?_set_ne (by intro z; exact hm (by simp[z]))]
structure ItD(K:ζc)(S:Sx)(κ:Bool)(H0 F:Hp)(J:It)(ds:AG):Prop where
 go:∀i H F',Same F F'→Same F' H→i < ds.length→J.go i H
 yld:∀i H F' x H',Same F F'→Same F' H→(∀a,S.has H0 a→∃o,H a=some o)→i < ds.length→J.yld i H x H'→∃d F'',ds[i]?=some d∧Gr H F' H' F''∧Rp K κ S H0 F'' x d
 stop:∀H F',Same F F'→Same F' H→J.stop ds.length H
def EvI(K:ζc)(S:Sx)(κ:Bool)(t:TI)(Γ:Ctx)(ds:AG):Prop:=∀(H0 F0 H F:Hp) (σ:St),DEnv K S H0 F0 H F σ Γ→∀R:It→Hp→Prop,(∀J H' F',Gr H F H' F'→ItD K S κ H0 F' J ds→R J H')→t σ H R
theorem zK{t:TE}{ds:AG}(h:EvE K S κ t Γ (.list ds)):EvI K S κ (Uy K t) Γ ds:=λH0 F0 H F σ e R q =>
 h H0 F0 H F σ e _ λv H1 F1 g1 p1=>by
  obtain⟨a,vs,rfl,h1,h2⟩:=Zs p1;have hl:=zq.length h2;have up:∀{F' H':Hp},Same F1 F'→Same F' H'→SqL K H' a vs:=λs1 s2=>(s1.trans s2).seq h1.sq;refine⟨a,rfl,⟨vs,up (.refl _) g1.le⟩,q _ H1 F1 g1 ⟨λi H' F' s1 s2 hi=>?_,λi H' F' x H'' s1 s2 _ hi y=>?_,λH' F' s1 s2=>?_⟩⟩
  ·exact⟨vs,vs[i]'⋯,up s1 s2,by simp⟩
  ·obtain⟨rfl,y⟩:=y;obtain⟨d,hd,hp⟩:=zq.get' h2 (y vs (up s1 s2));exact⟨d,F',hd,.refl s2,yD s1 hp⟩
  ·exact⟨vs,up s1 s2,⋯⟩
theorem yM{t:TA}{n:Int}(h:EvA K S false t Γ [.int n])(h1:-(2 ^ 62)≤n)(h2:n < 2 ^ 62):EvI K S κ (Ux t) Γ ((List.range n.toNat).map λi:Nat=>.int (i:Int)):=λH0 F0 H F σ e R q =>
 h H0 F0 H F σ e _ λvs H1 F1 g1 p1=>by
  cases p1 with
  | cons p p1 =>
   cases p1;cases yt p;refine⟨n,rfl,h1,h2,q _ H1 F1 g1 ⟨λi H' F' s1 s2 hi=>?_,λi H' F' x H'' s1 s2 _ hi y=>?_,λH' F' s1 s2=>?_⟩⟩
   ·show i < n.toNat;simpa using hi
   ·obtain⟨rfl,rfl⟩:=y;have hi':i < n.toNat:=by simpa using hi
    refine⟨.int i,F',by simp[hi'],.refl s2,?_⟩
    have:(0:Int) + (i:Int)=i:=by omega
    rw[this]; exact .int _
   ·show n.toNat≤_;simp
theorem zcw{t:TA}{m n:Int}(h:EvA K S false t Γ [.int m,.int n])(h1:-(2 ^ 62)≤m∧m < 2 ^ 62∧-(2 ^ 62)≤n∧n < 2 ^ 62):EvI K S κ (zc3 t) Γ ((List.range (n - m).toNat).map λi:Nat=>.int (m + (i:Int))):=λH0 F0 H F σ e R q =>
 h H0 F0 H F σ e _ λvs H1 F1 g1 p1=>by
  cases p1 with
  | cons p p1 =>
   cases p1 with
   | cons p' p1 =>
    cases p1;cases yt p;cases yt p';refine⟨m,n,rfl,h1,q _ H1 F1 g1 ⟨λi H' F' s1 s2 hi=>?_,λi H' F' x H'' s1 s2 _ hi y=>?_,λH' F' s1 s2=>?_⟩⟩
    ·show i < (n - m).toNat;simpa using hi
    ·obtain⟨rfl,rfl⟩:=y;have hi':i < (n - m).toNat:=by simpa using hi
     exact⟨.int (m + i),F',by simp[hi'],.refl s2,.int _⟩
    ·show(n - m).toNat≤_;simp
theorem zcl{α β γ:Type}{f:α→β→γ}{xs:List α}{ys:List β}{i:Nat}{x:α}{y:β}(h1:xs[i]?=some x)(h2:ys[i]?=some y):(List.zipWith f xs ys)[i]?=some (f x y):=by
 rw[List.getElem?_zipWith,h1,h2]
theorem vG{t:TA}{xs ys:AG}(h:EvA K S κ t Γ [.list xs,.list ys]):EvI K S κ (iZip K t) Γ (List.zipWith (λx y=>.tuple [x,y]) xs ys):=λH0 F0 H F σ e R q =>
 h H0 F0 H F σ e _ λvs H1 F1 g1 p1=>by
  cases p1 with
  | cons p p1 =>
   cases p1 with
   | cons p' p1 =>
    cases p1;obtain⟨a,us,rfl,h1,h2⟩:=Zs p;obtain⟨b,ws,rfl,h3,h4⟩:=Zs p';have l1:=zq.length h2;have l2:=zq.length h4;have up:∀{F' H':Hp},Same F1 F'→Same F' H'→SqL K H' a us:=λs1 s2=>(s1.trans s2).seq h1.sq;have uq:∀{F' H':Hp},Same F1 F'→Same F' H'→SqL K H' b ws:=λs1 s2=>(s1.trans s2).seq h3.sq;refine⟨a,b,rfl,⟨us,up (.refl _) g1.le⟩,⟨ws,uq (.refl _) g1.le⟩,q _ H1 F1 g1 ⟨λi H' F' s1 s2 hi=>?_,λi H' F' x H'' s1 s2 sd hi y=>?_,λH' F' s1 s2=>?_⟩⟩
    ·rw[ξL]at hi;exact⟨us,us[i]'⋯,ws,ws[i]'⋯,up s1 s2,by simp,uq s1 s2,by simp⟩
    ·obtain⟨T,u,v,hT,rfl,rfl,y1,y2⟩:=y;obtain⟨d,hd,hp⟩:=zq.get' h2 (y1 us (up s1 s2));obtain⟨f,hf,hq⟩:=zq.get' h4 (y2 ws (uq s1 s2));have s3:Same F' (upd F' T (.tup [u,v])):=Same.new (s2.free hT) _;exact⟨.tuple [d,f],_,zcl hd hf,.new s2 hT _,.tup (SqT.of zk) (.cons (yD (s1.trans s3) hp) (.cons (yD (s1.trans s3) hq) .nil))⟩
    ·refine⟨us,ws,up s1 s2,uq s1 s2,?_⟩
     rw[ξL];omega
theorem zef{t:TA}{xs:AG}(h:EvA K S κ t Γ [.list xs]):EvI K S κ (iRev K t) Γ xs.reverse:=λH0 F0 H F σ e R q =>
 h H0 F0 H F σ e _ λvs H1 F1 g1 p1=>by
  cases p1 with
  | cons p p1 =>
   cases p1;obtain⟨a,us,rfl,h1,h2⟩:=Zs p;have l1:=zq.length h2;have up:∀{F' H':Hp},Same F1 F'→Same F' H'→SqL K H' a us:=λs1 s2=>(s1.trans s2).seq h1.sq;refine⟨a,us,rfl,up (.refl _) g1.le,q _ H1 F1 g1 ⟨λi H' F' s1 s2 hi=>?_,λi H' F' x H'' s1 s2 _ hi y=>?_,λH' F' s1 s2=>?_⟩⟩
   ·rw[ξM]at hi;exact⟨⋯,us,up s1 s2,rfl⟩
   ·obtain⟨rfl,y⟩:=y;rw[ξM]at hi;have q1:=y us (up s1 s2);obtain⟨d,hd,hp⟩:=zq.get' h2 q1;exact⟨d,F',by rw[List.getElem?_reverse hi,←l1]; exact hd,.refl s2,yD s1 hp⟩
   ·rw[ξM];exact⟨⋯,us,up s1 s2⟩
def tX(js:List (Option Nat))(Γ:Ctx):Ctx:=js.map λo=>match o with | none=>none | some j=>(Γ[j]?).join
theorem tK{js:List (Option Nat)}{i:Nat}{d:DV}(h:(tX js Γ)[i]?=some (some d)):∃j,js[i]?=some (some j)∧Γ[j]?=some (some d):=by
 unfold tX at h;rw[ζo]at h;cases e:js[i]? with
 | none=>rw[e]at h; cases h
 | some o =>
  rw[e]at h;cases o with
  | none=>cases h
  | some j =>
   refine⟨j,rfl,?_⟩
   have h':(Γ[j]?).join=some d:=ζr h;cases q:Γ[j]? with
   | none=>rw[q]at h'; cases h'
   | some o=>rw[q]at h'; exact congrArg some h'
theorem ZT{js:List (Option Nat)}{σ:St}{i j:Nat}{v:V}(h:js[i]?=some (some j))(k:σ[j]?=some (some v)):(capt js σ)[i]?=some (some v):=by
 unfold capt;rw[ζo,h];show some ((σ[j]?).join)=_;rw[k]; rfl
theorem DEnv.capt{H0 F0 H F:Hp}{σ:St}{js:List (Option Nat)}(e:DEnv K S H0 F0 H F σ Γ)(hj:∀i j k:Nat,js[i]?=some (some k)→js[j]?=some (some k)→i=j):DEnv K S H0 F0 H F (L2.capt js σ) (tX js Γ):=by
 refine⟨e.gr,e.l0,e.sd,e.s0,by unfold L2.capt tX; simp,λi d h=>?_,λi j x y v w a h1 h2 h3 h4 o1 o2=>?_⟩
 ·obtain⟨j,e1,e2⟩:=tK h;obtain⟨v,e3,e4⟩:=e.has j d e2;exact⟨v,ZT e1 e3,e4⟩
 ·obtain⟨m,e1,e2⟩:=tK h1;obtain⟨n,e3,e4⟩:=tK h2;obtain⟨v1,q1,_⟩:=e.has m x e2;obtain⟨v2,q2,_⟩:=e.has n y e4;have c1:=ZT (σ:=σ) e1 q1;have c2:=ZT (σ:=σ) e3 q2;rw[h3]at c1;rw[h4]at c2;cases c1;cases c2;have:=e.ne m n x y v w a e2 e4 q1 q2 o1 o2;subst this;exact hj i j m e1 e3
theorem zaK{κ':Bool}{js:List (Option Nat)}{wi:TI}{g:TG}{tt:TT}{te:TE}{is:AF}{ds:AG}(p:AD→Bool)(f:AD→AD)(hi:EvI K S κ' wi Γ ds)(hjs:∀i∈is,js[i]?=some none)(hj:∀i j k:Nat,js[i]?=some (some k)→js[j]?=some (some k)→i=j)
  (hz:ds.length≤sizeLine) (hb:∀d∈ds,ExG K S κ' g is d (tX js Γ) λΓ'=>EvT K S tt Γ' (p d)∧(p d=true→EvE K S κ te Γ' (f d))):EvO K S κ (vX js wi g tt te) Γ ((ds.filter p).map f):=λH0 F0 H F σ e Q q =>
 hi H0 F0 H F σ e _ λJ H1 F1 g1 I1=>by
  intro D hD;have sdm:∀{H2 F2:Hp},Gr H1 F1 H2 F2→∀a,S.has H0 a→∃o,H2 a=some o:=λg2 a c=>let⟨o,z⟩:=(e.mono g1).sd a c; ⟨o,g2.h _ _ z⟩;refine⟨λi m ys H2=>m=ds.length - i∧i≤ds.length∧∃F2,Gr H1 F1 H2 F2∧H2 D=some (.lst ys)∧F2 D=none∧zq K κ S H0 F2 ys (((ds.take i).filter p).map f),⟨_,rfl,ξj _,F1,.newO g1.le hD _,zk,g1.le.free hD,.nil⟩,?_⟩
  rintro i m ys H2 ⟨rfl,hi,F2,g2,hl,fl,k2⟩;by_cases hlt:i < ds.length
  ·refine .inr ⟨I1.go i H2 F2 g2.f g2.le hlt,λzs H3=>i + 1≤ds.length∧∃F2,Gr H1 F1 H3 F2∧H3 D=some (.lst zs)∧F2 D=none∧zq K κ S H0 F2 zs (((ds.take (i + 1)).filter p).map f),λzs H3 h3=>⟨ds.length - (i + 1),⋯,rfl,h3⟩,λx H3 y=>?_⟩;obtain⟨d,F3,hd,g3,p3⟩:=I1.yld i H2 F2 x H3 g2.f g2.le (sdm g2) hlt y;have hl3:=g3.h _ _ hl;have fl3:=g3.ap _ _ hl fl;have E3:=((e.mono g1).mono (g2.trans g3)).capt hj;refine hb d (ζd hd) H0 F0 H3 F3 _ x E3 p3 _ λΓ' σ' H4 F4 hΓ g4 E4 len4 out4=>?_;obtain⟨ht,he⟩:=hΓ;have hl4:=g4.h _ _ hl3;have fl4:=g4.ap _ _ hl3 fl3;have tk:ds.take (i + 1)=ds.take i ++ [d]:=by rw[List.take_add_one,hd]; rfl
   refine⟨⟨len4.symm,λj v hv=>?_⟩,ht H0 F0 H4 F4 σ' E4 _ λH5 F5 g5=>?_⟩
   ·by_cases hjj:j∈is
    ·have:=hjs j hjj;unfold L2.capt at hv;rw[ζo,this]at hv;cases hv
    ·rw[out4 j hjj]; exact hv
   have hl5:=g5.h _ _ hl4;have fl5:=g5.ap _ _ hl4 fl4;cases hpd:p d with
   | false =>
    refine iteF ⟨hlt,F5,g2.trans ((g3.trans g4).trans g5),hl5,fl5,?_⟩;rw[tk,ζ2,ζv];simp only[List.filter_cons,hpd,List.filter_nil];simpa using zA ((g3.trans g4).trans g5).f k2
   | true =>
    refine iteT (he hpd H0 F0 H5 F5 σ' (E4.mono g5) _ λv H6 F6 g6 p6=>?_);have hl6:=g6.h _ _ hl5;have fl6:=g6.ap _ _ hl5 fl5;have gg:=(g3.trans g4).trans (g5.trans g6);have G6:=g2.trans gg;refine⟨hl6,?_,hlt,F6,⟨λb u z=>?_,G6.f,λb u z=>?_,G6.ap⟩,zk,fl6,?_⟩
    ·have h1:=zq.length k2;rw[ζa]at h1;have h2:=ζV p (ds.take i);rw[ζN]at h2;omega
    ·rw[zr (zL z hD)]; exact G6.h _ _ z
    ·rw[zr (by rintro rfl; rw[fl6]at z; cases z)]; exact G6.le _ _ z
    ·rw[tk,ζ2,ζv];simp only[List.filter_cons,hpd,List.filter_nil,if_true,List.map_cons,List.map_nil];exact zq.append (zA gg.f k2) (.cons p6 .nil)
  ·have ei:i=ds.length:=by omega
   subst ei;rw[ζR]at k2;exact .inl ⟨I1.stop H2 F2 g2.f g2.le,q D ys H2 F2 (g1.trans g2) (g1.h.free hD) hl fl k2⟩
structure Post where
 nx:Ctx→Prop
 rt:AD→Prop
 bk:Ctx→Prop:=λ_=>False
 ct:Ctx→Prop:=λ_=>False
 kr:Bool:=false
structure Into(K:ζc)(S:Sx)(H0 F0 B:Hp)(P:Post)(D:Ends):Prop where
 nx:∀Γ' σ' H' F',P.nx Γ'→Same B F'→DEnv K S H0 F0 H' F' σ' Γ'→D.nx σ' H'
 rt:∀d v H' F',P.rt d→Gr H0 F0 H' F'→Rp K P.kr .fresh H0 F' v d→D.rt v H'
 bk:∀Γ' σ' H' F',P.bk Γ'→Same B F'→DEnv K S H0 F0 H' F' σ' Γ'→D.bk σ' H'
 ct:∀Γ' σ' H' F',P.ct Γ'→Same B F'→DEnv K S H0 F0 H' F' σ' Γ'→D.ct σ' H'
def ze7(S:Sx)(B:Hp):Prop:=∀T,S=.spoil T→∀a xs,B a=some (.lst xs)→¬T a
def ExT(K:ζc)(S S':Sx)(t:TS)(Γ:Ctx)(P:Post):Prop:=∀(H0 F0 H F:Hp) (σ:St) (B:Hp),DEnv K S H0 F0 H F σ Γ→Same B F→(S'=S∨ze7 S B)→∀D:Ends,Into K S' H0 F0 B P D→t D σ H
abbrev ExS(K:ζc)(S:Sx)(t:TS)(Γ:Ctx)(P:Post):Prop:=ExT K S S t Γ P
variable {S':Sx}
variable {P:Post}
theorem yl(h:P.nx Γ):ExS K S Wa Γ P:=λH0 F0 H F σ B e b _ D I=>I.nx Γ σ H F h b e
theorem yw{t u:TS}(N:Ctx→Prop)(h1:ExT K S S t Γ { P with nx:=N,bk:=λ_=>False,ct:=λ_=>False })(h2:∀Γ',N Γ'→ExT K S S' u Γ' P):ExT K S S' (tSeq t u) Γ P:=λH0 F0 H F σ B e b v D I =>
 h1 H0 F0 H F σ B e b (.inl rfl) { D with nx:=u D } ⟨λΓ' σ' H' F' n s e'=>h2 Γ' n H0 F0 H' F' σ' B e' s v D I,I.rt,λ_ _ _ _ z=>z.elim,λ_ _ _ _ z=>z.elim⟩
theorem Tz{H0:Hp}{a:Addr}(h:¬S.has H0 a):¬Sx.has .fresh H0 a:=by
 cases S with
 | fresh=>exact h
 | spoil T=>exact λc=>h (.inl c)
theorem QH{H0 F:Hp}{kr:Bool}{v:V}{d:AD}(hk:(S=S∧κ=kr)∨kr=false)(p:Rp K κ S H0 F v d):Rp K kr .fresh H0 F v d:=by
 rcases hk with⟨_,rfl⟩ | rfl
 ·cases κ with
  | false=>exact ui (xi p)
  | true=>exact wP (κ:=true) (κ':=true) (λa xs z=>⟨z.1,Tz z.2⟩) (λ_ _ z=>z) p
 ·exact ui (xi p)
theorem zO{te:TE}{d:AD}(κ:Bool)(h:EvE K S κ te Γ d)(hr:P.rt d)(hk:(S=S∧κ=P.kr)∨P.kr=false):ExT K S S' (tRet te) Γ P:=λH0 F0 H F σ B e b _ D I=>h H0 F0 H F σ e _ λv H' F' g p=>I.rt d v H' F' hr (e.gr.trans g) (QH hk p)
theorem YC{t:TS}(i:Nat){ds:AG}(h:Γ[i]?=some (some (.ow κ ds)))(k:ExT K S S' t (Γ.set i (some (.fz κ (.list ds)))) P):ExT K S S' t Γ P:=λH0 F0 H F σ B e b v D I=>by
 obtain⟨F',s,e'⟩:=e.freeze h;exact k H0 F0 H F' σ B e' (b.trans s) v D I
theorem zco{i:Nat}{ds:AG}(h:Γ[i]?=some (some (.ow κ ds)))(hr:P.rt (.list ds))(hk:(S=S∧κ=P.kr)∨P.kr=false):ExT K S S' (tRet (tVar i)) Γ P :=
 YC i h (zO κ (VI (by rw[ζt (ζh.mp h).1])) hr hk)
theorem zaH{te:TE}{i:Nat}{d:AD}(h:EvE K S κ te Γ d)(k:P.nx (Γ.set i (some (.fz κ d)))):ExS K S (tAsg te (yJ i)) Γ P:=λH0 F0 H F σ B e b _ D I =>
 h H0 F0 H F σ e _ λv H' F' g p=>I.nx _ _ H' F' k (b.trans g.f) ((e.mono g).setF p)
theorem UC{te:TE}{i:Nat}{ds:AG}(h:EvO K S κ te Γ ds)(k:P.nx (Γ.set i (some (.ow κ ds)))):ExS K S (tAsg te (yJ i)) Γ P:=λH0 F0 H F σ B e b _ D I =>
 h H0 F0 H F σ e _ λa vs H' F' g n p f q=>I.nx _ _ H' F' k (b.trans g.f) ((e.mono g).set (x:=.ow κ ds) ⟨a,vs,rfl,⟨p,f,e.gr.h.free n,e.out n⟩,q⟩ λc oc j y w hj z hw o=>by
  cases(show V.ref a=.ref c from oc);obtain⟨v,q1,q2⟩:=e.has j y z;rw[hw]at q1;cases q1;obtain⟨us,w1⟩:=q2.owns (o.back q2 λ_ _ z=>g.h _ _ z.h);have:=w1.h;rw[n]at this; cases this)
theorem zdZ{te:TE}{g:TG}{js:AF}{d:AD}(h:EvE K S κ te Γ d)(hg:ExG K S κ g js d Γ P.nx):ExS K S (tAsg te g) Γ P:=λH0 F0 H F σ B e b _ D I =>
 h H0 F0 H F σ e _ λv H1 F1 g1 p1=>hg H0 F0 H1 F1 σ v (e.mono g1) p1 _ λΓ' σ' H' F' n g2 e' _ _=>I.nx Γ' σ' H' F' n (b.trans (g1.f.trans g2.f)) e'
theorem zcp{te:TE}{d:AD}(h:EvE K S κ te Γ d)(k:P.nx Γ):ExS K S (xX te) Γ P:=λH0 F0 H F σ B e b _ D I =>
 h H0 F0 H F σ e _ λv H' F' g p=>I.nx _ _ H' F' k (b.trans g.f) (e.mono g)
theorem YD{te:TE}{i:Nat}{ds:AG}{d:AD}(h:Γ[i]?=some (some (.ow κ ds)))(he:EvE K S κ te Γ d)(hz:ds.length < sizeLine)(k:P.nx (Γ.set i (some (.ow κ (ds ++ [d]))))):ExS K S (xX (tBM K "list" x4 (tVar i) (zS te tNil))) Γ P:=λH0 F0 H F σ B e b _ D I=>by
 obtain⟨v0,q1,a,vs,rfl,w,q5⟩:=e.has i _ h;refine⟨_,q1,.inl ⟨rfl,_,SqL.of w.h⟩,he H0 F0 H F σ e _ λv H' F' g p=>?_⟩
 have k':=zA g.f q5;refine⟨a,vs,v,rfl,rfl,g.h _ _ w.h,by rw[zq.length q5]; exact hz,?_⟩
 exact I.nx _ _ _ F' k (b.trans g.f) ((e.mono g).put (y:=.ow κ (ds ++ [d])) h q1 (show Owns H' (.ref a) (.ow κ ds) a from rfl) ⟨a,_,rfl,⟨zk,(w.mono g).f,w.n,w.s⟩,zq.append k' (.cons p .nil)⟩ λ_ z=>z)
theorem VG{te ti:TE}{i j:Nat}{m:Int}{ds:AG}{d:AD}(h:Γ[i]?=some (some (.ow κ ds)))(he:EvE K S κ te Γ d)(hi:EvE K S false ti Γ (.int m))(hm:ixN ds.length m=some j)(k:P.nx (Γ.set i (some (.ow κ (ds.set j d))))):
  ExS K S (tAsg te (gSub (tVar i) ti QM)) Γ P:=λH0 F0 H F σ B e b _ D I=>by
 obtain⟨v0,q1,a,vs,rfl,w,q5⟩:=e.has i _ h;refine he H0 F0 H F σ e _ λv H1 F1 g1 p1=>⟨_,q1,hi H0 F0 H1 F1 σ (e.mono g1) _ λw' H2 F2 g2 p2=>?_⟩
 cases yt p2;have k':=zA (g1.trans g2).f q5;refine⟨a,vs,m,j,rfl,rfl,(g1.trans g2).h _ _ w.h,by rw[zq.length q5]; exact hm,?_⟩
 exact I.nx _ _ _ F2 k (b.trans (g1.trans g2).f) ((e.mono (g1.trans g2)).put (y:=.ow κ (ds.set j d)) h q1 (show Owns H2 (.ref a) (.ow κ ds) a from rfl) ⟨a,_,rfl,⟨zk,(w.mono (g1.trans g2)).f,w.n,w.s⟩,zq.set (yD g2.f p1) _ k'⟩ λ_ z=>z)
theorem vE{c:TT}{t u:TS}{b:Bool}(hc:EvT K S c Γ b)(h1:b=true→ExT K S S' t Γ P)(h2:b=false→ExT K S S' u Γ P):ExT K S S' (tIfS c t u) Γ P:=λH0 F0 H F σ B e bb v D I =>
 hc H0 F0 H F σ e _ λH' F' g=>by
  cases b with
  | true=>exact iteT (h1 rfl H0 F0 H' F' σ B (e.mono g) (bb.trans g.f) v D I)
  | false=>exact iteF (h2 rfl H0 F0 H' F' σ B (e.mono g) (bb.trans g.f) v D I)
theorem tH{wi:TI}{g:TG}{tb:TS}{ds:AG}(κ:Bool)(Iv:Nat→Ctx→Prop)(hi:EvI K S κ wi Γ ds)(h0:Iv 0 Γ)
  (hs:∀i d Γ',ds[i]?=some d→Iv i Γ'→∃js,ExG K S κ g js d Γ' λΓ''=>ExS K S tb Γ'' { nx:=Iv (i + 1),rt:=P.rt,bk:=P.nx,ct:=Iv (i + 1),kr:=P.kr }) (hd:∀Γ',Iv ds.length Γ'→P.nx Γ'):ExS K S (tFor wi g tb) Γ P:=λH0 F0 H F σ B e b _ D I =>
 hi H0 F0 H F σ e _ λJ H1 F1 g1 I1=>by
  refine⟨λi m σ2 H2=>m=ds.length - i∧i≤ds.length∧∃Γ2 F2,Iv i Γ2∧Same F1 F2∧DEnv K S H0 F0 H2 F2 σ2 Γ2,⟨_,rfl,ξj _,Γ,F1,h0,.refl _,e.mono g1⟩,?_⟩
  rintro i m σ2 H2 ⟨rfl,hi,Γ2,F2,v2,s2,e2⟩;have b1:Same B F1:=b.trans g1.f;by_cases hlt:i < ds.length
  ·refine .inr ⟨I1.go i H2 F2 s2 e2.le hlt,λσ3 H3=>i + 1≤ds.length∧∃Γ3 F3,Iv (i + 1) Γ3∧Same F1 F3∧DEnv K S H0 F0 H3 F3 σ3 Γ3,λσ3 H3 h3=>⟨_,⋯,rfl,h3⟩,λx H3 y=>?_⟩;obtain⟨d,F3,hd,g3,p3⟩:=I1.yld i H2 F2 x H3 s2 e2.le e2.sd hlt y;obtain⟨js,hg⟩:=hs i d Γ2 hd v2;refine hg H0 F0 H3 F3 σ2 x (e2.mono g3) p3 _ λΓ' σ' H4 F4 k4 g4 e4 _ _=>?_;have s4:Same F1 F4:=s2.trans (g3.f.trans g4.f);exact k4 H0 F0 H4 F4 σ' F1 e4 s4 (.inl rfl) _ ⟨λΓ5 σ5 H5 F5 n s5 e5=>⟨hlt,Γ5,F5,n,s5,e5⟩,I.rt,λΓ5 σ5 H5 F5 n s5 e5=>I.nx Γ5 σ5 H5 F5 n (b1.trans s5) e5,λΓ5 σ5 H5 F5 n s5 e5=>⟨hlt,Γ5,F5,n,s5,e5⟩⟩
  ·have ei:i=ds.length:=by omega
   subst ei;exact .inl ⟨I1.stop H2 F2 s2 e2.le,I.nx Γ2 σ2 H2 F2 (hd Γ2 v2) (b1.trans s2) e2⟩
theorem wG{c:TT}{tb:TS}(Iv:Nat→Ctx→Prop)(m0:Nat)(h0:Iv m0 Γ)
  (hs:∀m Γ',Iv m Γ'→∃b,EvT K S c Γ' b∧(b=true→ExS K S tb Γ' { nx:=λΓ''=>∃m',m' < m∧Iv m' Γ'',rt:=P.rt,bk:=P.nx,ct:=λΓ''=>∃m',m' < m∧Iv m' Γ'',kr:=P.kr })∧(b=false→P.nx Γ')):ExS K S (Qn c tb) Γ P:=λH0 F0 H F σ B e bb _ D I=>by
 refine⟨λm σ2 H2=>∃Γ2 F2,Iv m Γ2∧Same B F2∧DEnv K S H0 F0 H2 F2 σ2 Γ2,⟨m0,Γ,F,h0,bb,e⟩,?_⟩
 rintro m σ2 H2 ⟨Γ2,F2,v2,s2,e2⟩;obtain⟨b,hc,h1,h2⟩:=hs m Γ2 v2;refine hc H0 F0 H2 F2 σ2 e2 _ λH3 F3 g3=>?_;have s3:=s2.trans g3.f;cases b with
 | true =>
  refine iteT ⟨λσ4 H4=>∃m',m' < m∧∃Γ4 F4,Iv m' Γ4∧Same B F4∧DEnv K S H0 F0 H4 F4 σ4 Γ4,λσ4 H4 ⟨m',hm,h⟩=>⟨m',hm,h⟩,?_⟩;exact h1 rfl H0 F0 H3 F3 σ2 B (e2.mono g3) s3 (.inl rfl) _ ⟨λΓ5 σ5 H5 F5 ⟨m',hm,n⟩ s5 e5=>⟨m',hm,Γ5,F5,n,s5,e5⟩,I.rt,λΓ5 σ5 H5 F5 n s5 e5=>I.nx Γ5 σ5 H5 F5 n s5 e5,λΓ5 σ5 H5 F5 ⟨m',hm,n⟩ s5 e5=>⟨m',hm,Γ5,F5,n,s5,e5⟩⟩
 | false=>exact iteF (I.nx Γ2 σ2 H3 F3 (h2 rfl) s3 (e2.mono g3))
def vh(n:Nat)(ds:AG):Ctx:=ds.map (λd=>some (.fz false d)) ++ List.replicate (n - ds.length) none
theorem xW{H F:Hp}{N:AJ}{vs:List V}{ds:AG}(le:Same F H)(k:zQ K F vs ds):DEnv K .fresh H F H F (L2.yF N vs) (vh N.length ds):=by
 have l:=zQ.length k;have no:∀(i:Nat) (x:DV),(vh N.length ds)[i]?=some (some x)→∃d,x=.fz false d∧ds[i]?=some d:=λi x h=>by
  unfold vh at h;by_cases hi:i < ds.length
  ·rw[List.getElem?_append_left (by simpa using hi),List.getElem?_map]at h;rw[ζe hi]at h ⊢;have h':some (DV.fz false ds[i])=some x:=ζr h;exact⟨_,(ζr h').symm,rfl⟩
  ·rw[List.getElem?_append_right (by simpa using Nat.le_of_not_lt hi)]at h;rw[List.getElem?_replicate]at h;split at h <;> cases h
 refine⟨.refl le,le,λa c=>?_,λT z=>(nomatch z),by unfold L2.yF vh; simp[l],λi x h=>?_,λi j x y v w a h _ _ _ o=>?_⟩
 ·cases q:H a with
  | none=>exact absurd q c
  | some o=>exact⟨o,rfl⟩
 ·obtain⟨d',e,h'⟩:=no i _ h;cases e;obtain⟨v,h1,h2⟩:=zQ.get k h';refine⟨v,?_,ui h2⟩
  unfold L2.yF;have hi:=(ζh.mp h1).1;rw[List.getElem?_append_left (by simpa using hi),List.getElem?_map,h1];rfl
 ·obtain⟨d',e,_⟩:=no i _ h;cases e;exact o.elim
theorem QC{t:TS}{N:AJ}{H F:Hp}{vs:List V}{ds:AG}{d:AD}{Q:VK}{Γ:Ctx}(hΓ:vh N.length ds=Γ)(h:ExS K .fresh t Γ { nx:=λ_=>d=.none,rt:=λx=>x=d,kr:=κ })(le:Same F H)(k:zQ K F vs ds)
  (q:∀v H' F',Gr H F H' F'→Rp K κ .fresh H F' v d→Q v H'):t { nx:=λ_ H'=>Q .non H',rt:=Q } (L2.yF N vs) H:=by
 subst hΓ;refine h H F H F (L2.yF N vs) F (xW le k) (.refl _) (.inl rfl) _ ⟨λΓ' σ' H' F' n _ e=>?_,λd' v H' F' e g p=>?_,λ_ _ _ _ z=>z.elim,λ_ _ _ _ z=>z.elim⟩
 ·have n':d=.none:=n;subst n';exact q .non H' F' e.gr .non
 ·have e':d'=d:=e;subst e';exact q v H' F' g p
theorem zH{pre:AG→AD→Prop}{n:Nat}(h:∀ds d,pre ds d→ds.length=n){vs:List V}{H:Hp}{Q:VK}{E:XK}(s:spD K κ pre vs H Q E):vs.length=n:=by
 obtain⟨F,ds,d,_,k,p,_⟩:=s;rw[zQ.length k];exact h ds d p
def zc2:Option HO→Bool
 | some (.lst _)=>true
 | _=>false
open Classical in
noncomputable def drop(T:Addr→Prop)(F:Hp):Hp:=λa=>if T a∧zc2 (F a)=true then none else F a
theorem xj{T:Addr→Prop}{F:Hp}{a:Addr}{o:HO}:drop T F a=some o↔F a=some o∧¬(T a∧zc2 (some o)=true):=by
 unfold drop;constructor
 ·intro h;split at h
  ·cases h
  ·rename_i c; rw[h]at c; exact⟨h,c⟩
 ·rintro⟨h,c⟩;rw[h,if_neg c]
end
inductive SetC:Ctx→Nat→Option DV→Ctx→Prop
 | zero {a x:Option DV} {l:Ctx}:SetC (a :: l) 0 x (x :: l)
 | succ {a x:Option DV} {l l':Ctx} {i:Nat}:SetC l i x l'→SetC (a :: l) (i + 1) x (a :: l')
theorem SetC.eq{Γ Γ':Ctx}{i:Nat}{x:Option DV}(h:SetC Γ i x Γ'):Γ.set i x=Γ':=by
 induction h with
 | zero=>rfl
 | succ _ ih=>rw[List.set_cons_succ,ih]
inductive GetC:Ctx→Nat→DV→Prop
 | zero {x:DV} {l:Ctx}:GetC (some x :: l) 0 x
 | succ {a:Option DV} {x:DV} {l:Ctx} {i:Nat}:GetC l i x→GetC (a :: l) (i + 1) x
theorem GetC.eq{Γ:Ctx}{i:Nat}{x:DV}(h:GetC Γ i x):Γ[i]?=some (some x):=by
 induction h with
 | zero=>rfl
 | succ _ ih=>rw[List.getElem?_cons_succ,ih]
inductive xG:List (Option Nat)→Ctx→Ctx→Prop
 | nil {Γ:Ctx}:xG [] Γ []
 | no {js:List (Option Nat)} {Γ Γ':Ctx}:xG js Γ Γ'→xG (none :: js) Γ (none :: Γ')
 | got {js:List (Option Nat)} {Γ Γ':Ctx} {j:Nat} {x:DV}:GetC Γ j x→xG js Γ Γ'→xG (some j :: js) Γ (some x :: Γ')
theorem xG.eq{js:List (Option Nat)}{Γ Γ':Ctx}(h:xG js Γ Γ'):tX js Γ=Γ':=by
 induction h with
 | nil=>rfl
 | no _ ih =>
  unfold tX at ih ⊢;rw[ζF,ih]
 | got g _ ih =>
  unfold tX at ih ⊢;rw[ζF,ih];show(Option.join _ :: _)=_;rw[g.eq];rfl
section
variable {K:ζc}{S S':Sx}{κ κ':Bool}{Γ Γ' Γ'':Ctx}{P:Post}
theorem evv{i:Nat}{d:AD}(h:GetC Γ i (.fz κ' d))(hk:κ=true→κ'=true):EvE K S κ (tVar i) Γ d:=(VI h.eq).weak hk
theorem evi{i:Nat}{d:AD}(h:GetC Γ i (.fz κ' d))(hk:imm d=true):EvE K S κ (tVar i) Γ d:=(VI h.eq).imm hk
theorem EvL.weak{t:TE}{ds:AG}(h:EvL K S κ' t Γ ds)(hk:κ=true→κ'=true):EvL K S κ t Γ ds:=λH0 F0 H F σ e Q q=>h H0 F0 H F σ e Q λa vs H' F' g p k=>q a vs H' F' g p (by
 cases κ with
 | false=>exact uW (zN k)
 | true=>rw[hk rfl]at k; exact k)
theorem evw{i:Nat}{ds:AG}(h:GetC Γ i (.ow κ' ds))(hk:κ=true→κ'=true):EvL K S κ (tVar i) Γ ds:=(zcr h.eq).weak hk
theorem exs{te:TE}{u:TS}{i:Nat}{d:AD}(κ:Bool)(h:EvE K S κ te Γ d)(e:SetC Γ i (some (.fz κ d)) Γ')(k:ExT K S S' u Γ' P):ExT K S S' (tSeq (tAsg te (yJ i)) u) Γ P:=yw (·=Γ') (zaH h e.eq) λ_ z=>z ▸ k
theorem exs1{te:TE}{i:Nat}{d:AD}(κ:Bool)(h:EvE K S κ te Γ d)(e:SetC Γ i (some (.fz κ d)) Γ')(k:P.nx Γ'):ExS K S (tAsg te (yJ i)) Γ P:=zaH h (e.eq ▸ k)
theorem exo{te:TE}{u:TS}{i:Nat}{ds:AG}(κ:Bool)(h:EvO K S κ te Γ ds)(e:SetC Γ i (some (.ow κ ds)) Γ')(k:ExT K S S' u Γ' P):ExT K S S' (tSeq (tAsg te (yJ i)) u) Γ P:=yw (·=Γ') (UC h e.eq) λ_ z=>z ▸ k
theorem exo1{te:TE}{i:Nat}{ds:AG}(κ:Bool)(h:EvO K S κ te Γ ds)(e:SetC Γ i (some (.ow κ ds)) Γ')(k:P.nx Γ'):ExS K S (tAsg te (yJ i)) Γ P:=UC h (e.eq ▸ k)
theorem exa{te:TE}{u:TS}{i:Nat}{ds:AG}{d:AD}(h:GetC Γ i (.ow κ ds))(he:EvE K S κ te Γ d)(e:SetC Γ i (some (.ow κ (ds ++ [d]))) Γ')(hz:ds.length < sizeLine)(k:ExT K S S' u Γ' P):ExT K S S' (tSeq (xX (tBM K "list" x4 (tVar i) (zS te tNil))) u) Γ P:=yw (·=Γ') (YD h.eq he hz e.eq) λ_ z=>z ▸ k
theorem exa1{te:TE}{i:Nat}{ds:AG}{d:AD}(h:GetC Γ i (.ow κ ds))(he:EvE K S κ te Γ d)(e:SetC Γ i (some (.ow κ (ds ++ [d]))) Γ')(hz:ds.length < sizeLine)(k:P.nx Γ'):ExS K S (xX (tBM K "list" x4 (tVar i) (zS te tNil))) Γ P:=YD h.eq he hz (e.eq ▸ k)
theorem exi1{te ti:TE}{i j:Nat}{m:Int}{ds:AG}{d:AD}(h:GetC Γ i (.ow κ ds))(he:EvE K S κ te Γ d)(hi:EvE K S false ti Γ (.int m))(hm:ixN ds.length m=some j)(e:SetC Γ i (some (.ow κ (ds.set j d))) Γ')(k:P.nx Γ'):ExS K S (tAsg te (gSub (tVar i) ti QM)) Γ P:=VG h.eq he hi hm (e.eq ▸ k)
theorem exfz{t:TS}(i:Nat){ds:AG}(h:GetC Γ i (.ow κ ds))(e:SetC Γ i (some (.fz κ (.list ds))) Γ')(k:ExT K S S' t Γ' P):ExT K S S' t Γ P:=YC i h.eq (by rw[e.eq]; exact k)
theorem egn{i:Nat}{d:AD}{k:Ctx→Prop}(e:SetC Γ i (some (.fz κ d)) Γ')(h:k Γ'):ExG K S κ (yJ i) [i] d Γ k:=zcx (by rw[e.eq]; exact h)
theorem egt{i j:Nat}{x y:AD}{k:Ctx→Prop}(e1:SetC Γ i (some (.fz κ x)) Γ')(e2:SetC Γ' j (some (.fz κ y)) Γ'')(h:k Γ''):ExG K S κ (gTup K 2 (tV (yJ i) (tV (yJ j) gNil))) [i,j] (.tuple [x,y]) Γ k:=zeg (by rw[e1.eq,e2.eq]; exact h)
theorem exro{i:Nat}{ds:AG}(h:GetC Γ i (.ow κ ds))(hr:P.rt (.list ds))(hk:(S=S∧κ=P.kr)∨P.kr=false):ExT K S S' (tRet (tVar i)) Γ P:=zco h.eq hr hk
theorem exif{c:TT}{t u v:TS}{b:Bool}(N:Ctx→Prop)(hc:EvT K S c Γ b)(h1:b=true→ExS K S t Γ { P with nx:=N,bk:=λ_=>False,ct:=λ_=>False })(h2:b=false→ExS K S u Γ { P with nx:=N,bk:=λ_=>False,ct:=λ_=>False })(k:∀Γ',N Γ'→ExT K S S' v Γ' P):ExT K S S' (tSeq (tIfS c t u) v) Γ P:=yw N (vE hc h1 h2) k
theorem zaF{c:TT}{t u v:TS}{b:Bool}(hc:EvT K S c Γ b)(h1:b=true→ExT K S S' (tSeq t v) Γ P)(h2:b=false→ExT K S S' (tSeq u v) Γ P):ExT K S S' (tSeq (tIfS c t u) v) Γ P:=λH0 F0 H F σ B e bb vv D I=>by
 refine hc H0 F0 H F σ e _ λH' F' g=>?_;cases b with
 | true=>exact iteT (h1 rfl H0 F0 H' F' σ B (e.mono g) (bb.trans g.f) vv D I)
 | false=>exact iteF (h2 rfl H0 F0 H' F' σ B (e.mono g) (bb.trans g.f) vv D I)
theorem exn{v:TS}(k:ExT K S S' v Γ P):ExT K S S' (tSeq Wa v) Γ P:=yw (·=Γ) (yl rfl) λ_ z=>z ▸ k
theorem tW{c:TT}{t v:TS}{b:Bool}(hc:EvT K S c Γ b)(hb:b=false)(k:ExT K S S' v Γ P):ExT K S S' (tSeq (tIfS c t Wa) v) Γ P:=zaF hc (λh=>by rw[hb]at h; cases h) λ_=>exn k
theorem yv{wi:TI}{g:TG}{tb u:TS}{ds:AG}(κ:Bool)(Iv:Nat→Ctx→Prop)(hi:EvI K S κ wi Γ ds)(h0:Iv 0 Γ)
  (hs:∀i d Γ',ds[i]?=some d→Iv i Γ'→∃js,ExG K S κ g js d Γ' λΓ''=>ExS K S tb Γ'' { nx:=Iv (i + 1),rt:=P.rt,bk:=Iv ds.length,ct:=Iv (i + 1),kr:=P.kr }) (hd:∀Γ',Iv ds.length Γ'→ExT K S S' u Γ' P):ExT K S S' (tSeq (tFor wi g tb) u) Γ P:=yw (Iv ds.length) (tH κ Iv hi h0 hs λ_ h=>h) hd
theorem exrs{te:TE}{v:TS}{d:AD}(κ:Bool)(h:EvE K S κ te Γ d)(hr:P.rt d)(hk:(S=S∧κ=P.kr)∨P.kr=false):ExT K S S' (tSeq (tRet te) v) Γ P:=yw (λ_=>False) (zO κ h hr hk) λ_ z=>z.elim
theorem vR{js:List (Option Nat)}{Γc:Ctx}{wi:TI}{g:TG}{tt:TT}{te:TE}{is:AF}{ds:AG}(κ':Bool)(p:AD→Bool)(f:AD→AD)(hi:EvI K S κ' wi Γ ds)(hc:xG js Γ Γc)(hjs:(is.all λi=>js[i]? == some none)=true)
  (hj:(js.filterMap id).Nodup) (hz:ds.length≤sizeLine) (hb:∀d∈ds,ExG K S κ' g is d Γc λΓ'=>EvT K S tt Γ' (p d)∧(p d=true→EvE K S κ te Γ' (f d))):EvO K S κ (vX js wi g tt te) Γ ((ds.filter p).map f):=by
 refine zaK p f hi (λi hi=>?_) ?_ hz (by rw[hc.eq]; exact hb)
 ·have:=ξE.mp hjs i hi;simpa using this
 ·intro i j k h1 h2;clear hc hjs hi hb;induction js generalizing i j with
  | nil=>simp at h1
  | cons o js ih =>
   cases o with
   | none =>
    cases i with
    | zero=>simp at h1
    | succ i =>
     cases j with
     | zero=>simp at h2
     | succ j=>rw[ih (by simpa using hj) i j (by simpa using h1) (by simpa using h2)]
   | some m =>
    have hj':(m :: js.filterMap id).Nodup:=by simpa using hj
    have hm:=(ζ3.mp hj').1;cases i with
    | zero =>
     cases j with
     | zero=>rfl
     | succ j =>
      have e1:m=k:=by simpa using h1
      subst e1;have h2':js[j]?=some (some m):=by simpa using h2
      exact absurd (show m∈js.filterMap id from ξP.mpr ⟨some m,ζd h2',rfl⟩) hm
    | succ i =>
     cases j with
     | zero =>
      have e1:m=k:=by simpa using h2
      subst e1;have h2':js[i]?=some (some m):=by simpa using h1
      exact absurd (show m∈js.filterMap id from ξP.mpr ⟨some m,ζd h2',rfl⟩) hm
     | succ j=>rw[ih (List.nodup_cons.mp hj').2 i j (by simpa using h1) (by simpa using h2)]
theorem wY{js:List (Option Nat)}{Γc:Ctx}{wi:TI}{g:TG}{te:TE}{is:AF}{ds:AG}(κ':Bool)(f:AD→AD)(hi:EvI K S κ' wi Γ ds)(hc:xG js Γ Γc)(hjs:(is.all λi=>js[i]? == some none)=true)
  (hj:(js.filterMap id).Nodup) (hz:ds.length≤sizeLine) (hb:∀d∈ds,ExG K S κ' g is d Γc λΓ'=>EvE K S κ te Γ' (f d)):EvO K S κ (vX js wi g tYes te) Γ (ds.map f):=by
 have h:=vR (K:=K) (S:=S) (κ:=κ) (g:=g) (tt:=tYes) (te:=te) (is:=is) κ' (λ_=>true) f hi hc hjs hj hz λd hd H0 F0 H F σ v e p Q q=>hb d hd H0 F0 H F σ v e p Q λΓ' σ' H' F' k=>q Γ' σ' H' F' ⟨zaW,λ_=>k⟩
 rwa [List.filter_eq_self.mpr (λ_ _=>rfl)]at h
end
inductive xh:Nat→AG→Ctx→Prop
 | z:xh 0 [] []
 | no {n:Nat} {Γ:Ctx}:xh n [] Γ→xh (n + 1) [] (none :: Γ)
 | got {n:Nat} {d:AD} {ds:AG} {Γ:Ctx}:xh n ds Γ→xh (n + 1) (d :: ds) (some (.fz false d) :: Γ)
theorem xh.eq{n:Nat}{ds:AG}{Γ:Ctx}(h:xh n ds Γ):vh n ds=Γ:=by
 induction h with
 | z=>rfl
 | @no n Γ _ ih =>
  rw[←ih];unfold vh;simp[List.replicate_succ]
 | @got n d ds Γ _ ih =>
  rw[←ih];unfold vh;simp
theorem zbL{K:ζc}{κ:Bool}{t:TS}{N:AJ}{n:Nat}{H F:Hp}{vs:List V}{ds:AG}{d:AD}{Q:VK}{Γ:Ctx}(le:Same F H)(k:zQ K F vs ds)(q:∀v H' F',Gr H F H' F'→Rp K κ .fresh H F' v d→Q v H')(hn:N.length=n)(hΓ:xh n ds Γ)
  (h:ExS K .fresh t Γ { nx:=λ_=>d=.none,rt:=λx=>x=d,kr:=κ }):t { nx:=λ_ H'=>Q .non H',rt:=Q } (L2.yF N vs) H:=QC (hn ▸ hΓ.eq) h le k q
section
variable {K:ζc}{S:Sx}{κ:Bool}{Γ:Ctx}
end
theorem asm{p:Prop}(h:p):p:=h
theorem atI0{α:Type}{a:α}{l:List α}:atI (a :: l) 0=some a:=by
 unfold atI ixN;simp
theorem atI1{α:Type}{a b:α}{l:List α}:atI (a :: b :: l) 1=some b:=by
 unfold atI ixN;have h:(1:Int) < ((a :: b :: l).length:Int):=by simp; omega
 rw[if_pos #[2],if_pos h];rfl
theorem zdO{K:ζc}{t c:Value}{b:Bool}(h:PySem.W.kitOne K t c=some b):PySem.W.kitOne K t c=some b:=h
end PD
namespace L2
open PySem PySem.Spec PyProof.Rows
section
variable {X:Cx}{K:ζc}
theorem zG{tg l:Expr}{tl:TE}(hK:X.K=K)(hl:PE X l tl):PI X tg l (Uy K tl):=by subst hK; exact zbV hl
theorem wc{a b:Expr}{ta:TA}{p pos:Pos}{es:List Expr}{k:Nat}{tpos:Pos}(hK:X.K=K)(hg:Gl X "zip")(hm:X.mg "zip" = none)(ha:PA X [a,b] ta)(he:starEach (a :: [b]) X.env=(false,eval a X.env) :: starEach [b] X.env:=by rfl)
  (hpl:(backTo pos (starEach [b] X.env)).any (·.1)=false:=by rfl):PI X (.Tuple es k tpos) (.Call (.Name "zip" p) [a,b] [] pos) (iZip K ta):=by subst hK; exact zdu hg hm ha he hpl
theorem zbU{a:Expr}{ta:TA}{tg:Expr}{p pos:Pos}(hK:X.K=K)(hg:Gl X "reversed")(hm:X.mg "reversed" = none)(ha:PA X [a] ta)(he:starEach (a :: []) X.env=(false,eval a X.env) :: starEach [] X.env:=by rfl):PI X tg (.Call (.Name "reversed" p) [a] [] pos) (iRev K ta):=by
 subst hK; exact zdv hg hm ha he
variable {o e:Expr}{es:List Expr}{to:TE}{t:TA}{name:Str}{apos cpos:Pos}{T id:String}{r:V→List V→Hp→VK→Prop}
theorem Ui(hK:X.K=K)(pa:PlainAttrs T)(slot:Slot T name id)(hty:typeOf (.builtin id)=pure (.type "method_descriptor"))(hm:MtR X id r)(ho:PE X o to)
  (hbase:attributeBase o name X.env (eval o X.env)=eval o X.env:=by rfl) (hline:(apos.endLine == cpos.line)=true:=by rfl):PE X (.Call (.Attribute o name apos) [] [] cpos) (tBM0 K T r to):=by subst hK; exact zdA pa slot hty hm ho hbase hline
theorem yu(hK:X.K=K)(pa:PlainAttrs T)(slot:Slot T name id)(hty:typeOf (.builtin id)=pure (.type "method_descriptor"))(hm:MtR X id r)(ho:PE X o to)(ha:PA X (e :: es) t)
  (hbase:attributeBase o name X.env (eval o X.env)=eval o X.env:=by rfl)
  (hfew:((backTo cpos (starEach (e :: es) X.env)).all (λx=>!x.1) && (backToKw cpos (keywordEach [] X.env)).all (λx=>x.1.isSome)
   && decide ((e :: es).length + ([]:List Keyword).length + (if([]:List Keyword).isEmpty then 0 else 1) < 30))=true:=by rfl)
  (hline:(apos.endLine == cpos.line)=true:=by rfl) (hs:starEach (e :: es) X.env=(false,eval e X.env) :: starEach es X.env:=by rfl) (hplain:(backTo cpos (starEach es X.env)).any (·.1)=false:=by rfl):PE X (.Call (.Attribute o name apos) (e :: es) [] cpos) (tBM K T r to t):=by subst hK; exact zeJ pa slot hty hm ho ha hbase hfew hline hs hplain
end
end L2
namespace PD
open PySem L2
abbrev il(ns:AE):AD:=.list (ns.map .int)
def optD:Option Int→AD
 | none=>.none
 | some i=>.int i
abbrev vl(vw:List (Option Int)):AD:=.list (vw.map optD)
abbrev lls(ws:AH):AD:=.list (ws.map il)
theorem wF(ns:AE):∀d∈ns.map PyData.int,imm d=true:=λd hd=>by
 obtain⟨n,_,rfl⟩:=ζp.mp hd;rfl
theorem WQ(ns:List (Option Int)):∀d∈ns.map optD,imm d=true:=λd hd=>by
 obtain⟨n,_,rfl⟩:=ζp.mp hd;cases n <;> rfl
section
variable {K:ζc}{S:Sx}{κ:Bool}{Γ:Ctx}
theorem zaM{t:TE}{ns:AE}(h:EvE K S false t Γ (.list (ns.map .int))):EvL K S κ t Γ (ns.map .int):=h.toL.imm (wF ns)
theorem zaL{t:TE}{ns:List (Option Int)}(h:EvE K S false t Γ (.list (ns.map optD))):EvL K S κ t Γ (ns.map optD):=h.toL.imm (WQ ns)
end
theorem yk{α:Type}{g:α→AD}{ns:List α}{i:Nat}{d:AD}(h:(ns.map g)[i]?=some d):∃n,ns[i]?=some n∧d=g n:=by
 rw[ζo]at h;cases e:ns[i]? with
 | none=>rw[e]at h; cases h
 | some n=>rw[e]at h; exact⟨n,rfl,(ζr h).symm⟩
theorem ZO{α β:Type}{g:α→AD}{h:β→AD}{xs:List α}{ys:List β}{i:Nat}{d:AD}(q:(List.zipWith (λx y=>PyData.tuple [x,y]) (xs.map g) (ys.map h))[i]?=some d):∃x y,xs[i]?=some x∧ys[i]?=some y∧d=.tuple [g x,h y]:=by
 rw[List.getElem?_zipWith,ζo,ζo]at q;cases e1:xs[i]? with
 | none=>rw[e1]at q; cases q
 | some x =>
  cases e2:ys[i]? with
  | none=>rw[e1,e2]at q; cases q
  | some y=>rw[e1,e2]at q; exact⟨x,y,rfl,rfl,(ζr q).symm⟩
theorem yG{i j:Int}(h0:-(2 ^ 64) < j)(h1:j < 2 ^ 64):IntMulOk i j:=.of_right (intBits_le_64 h0 h1)
theorem yz{α:Type}{g:α→AD}{xs:List α}{i:Nat}{x:α}(h:xs[i]?=some x):atI (xs.map g) (i:Int)=some (g x):=vU (by rw[ζo,h]; rfl)
theorem wj{n i:Nat}(h:i < n):ixN n (i:Int)=some i:=by
 unfold ixN;rw[if_pos ⋯,if_pos ⋯];simp
theorem yo{n i:Nat}{d:AD}(h:((List.range n).map λk:Nat=>PyData.int (k:Int))[i]?=some d):i < n∧d=.int i:=by
 rw[ζo]at h;by_cases hi:i < n
 ·rw[ξD hi]at h;exact⟨hi,(ζr h).symm⟩
 ·rw[List.getElem?_eq_none (by simp; omega)]at h;cases h
theorem yn(n:Nat):((List.range n).map λk:Nat=>PyData.int (k:Int)).length=n:=by rw[ζa,ζz]
theorem vn(n:Nat):(List.replicate n [PyData.none]).flatten=(List.replicate n (none:Option Int)).map optD:=by
 induction n with
 | zero=>rfl
 | succ n ih=>rw[ξd,ξH,ih,ξd]; rfl
end PD
namespace L2
open PySem PySem.Spec PyProof.Rows
structure Va(P:Program)(w:World)(K:ζc)(mg:AO)(base:Heap)(CX:CXT)(a:Addr)(ps:AJ)(k:Nat)(sp:Sp):Prop where
 ex:∃fd,FnOk P w K mg base CX k a fd ps sp∧PySem.W.keepIn K (.ref a)=true∧wJ K fd ps []
theorem zt.at{P:Program}{w:World}{K:ζc}{mg:AO}{base:Heap}{CX:CXT}{x:Str}{ps:AJ}{k:Nat}{sp:Sp}(C:zt P w K mg base CX x ps k sp){a:Addr}(h:mg x=some (.ref a)):Va P w K mg base CX a ps k sp:=by
 obtain⟨f,fd,F,hm,hk,hb⟩:=C.ex;rw[h]at hm;cases hm;exact⟨fd,F,hk,hb⟩
section
variable {X:Cx}{CX:CXT}{k:Nat}{ps:AJ}{sp:Sp}{E:XK}{x:Str}{p pos:Pos}{e:Expr}{es:List Expr}{t:TA}
def tFn(i:Nat)(a:Addr)(sp:Sp)(E:XK)(t:TA):TE:=λσ H Q=>σ[i]?=some (some (.ref a))∧t σ H λvs H1=>sp vs H1 Q E
theorem zdy(i:Nat){a:Addr}(C:Va X.prog X.w X.K X.mg X.base CX a ps k sp)(hr:Room k X.A)(hx:ZY CX X E)(ha:PA X (e :: es) t)
  (hN:X.N[i]?=some x:=by rfl) (hv:Vis X.env.scope x:=by first | exact Or.inl rfl | exact Or.inr (.inl rfl) | exact Or.inr (.inr rfl)) (hd:(x == ("__debug__" : Str))=false:=by decide) (hcd:(x == ("__classdict__" : Str))=false:=by decide)
  (he:starEach (e :: es) X.env=(false,eval e X.env) :: starEach es X.env:=by rfl) (hpl:(backTo pos (starEach es X.env)).any (·.1)=false:=by rfl) :
  PE X (.Call (.Name x p) (e :: es) [] pos) (tFn i a sp E t):=by
 intro pins s σ H Q I h;obtain⟨hs,h⟩:=h;obtain⟨fd,F,hk,hb⟩:=C.ex;refine wpAny_Call_Name_kw (thn (Vs (X:=X) (i:=i) (pos:=p) hN hv hd hcd pins s σ H (λv H'=>v=.ref a∧H'=H) I ⟨_,hs,rfl,rfl⟩) λu s1 ⟨v,H',I1,r1,ev,eH⟩=>?_);subst ev eH;cases(show u=Value.ref a from r1);refine PySem.W.callWith_K (h₀:=X.base) I1.ok.mod.kin hk (thn (ha pos pins s1 σ _ _ I1 h) λus s2 ⟨vs,H1,I2,r,q⟩=>⟨I2.kIn,?_⟩) he hpl;exact Vk F hr hb .nil hx I2 r (by rw[ζ1]; exact q)
end
end L2
namespace PD
open PySem L2
section
variable {K:ζc}{S S':Sx}{κ:Bool}{Γ:Ctx}{P:Post}
theorem zd9{pre:AG→AD→Prop}{E:XK}{t:TA}{i:Nat}{a:Addr}{ds:AG}{d:AD}(hf:GetC Γ i (.fn a))(h:EvA K S false t Γ ds)(hp:pre ds d):EvE K S κ (tFn i a (spD K true pre) E t) Γ d:=λH0 F0 H F σ e Q q=>by
 obtain⟨v,hv,ev⟩:=e.has i _ hf.eq;cases(show v=.ref a from ev);refine⟨hv,h H0 F0 H F σ e _ λvs H1 F1 g1 p1=>⟨F1,ds,d,g1.le,zN p1,hp,λv H2 F2 g2 p2=>q v H2 F2 (g1.trans g2) (vN (κ:=true) (λ_=>rfl) (wP (κ:=true) (κ':=true) (S':=S) (H0':=H0) (λa xs z=>⟨z.1,λc=>?_⟩) (λ_ _ z=>z) p2))⟩⟩
 obtain⟨u,hu⟩:=(e.mono g1).sd a c;exact z.2 (by show H1 a≠none; rw[hu]; simp)
def spF(K:ζc)(mg:AO)(x:Str)(pre:AG→AD→Prop):Sp:=λvs H Q _=>∃F ds d us a,vs=us ++ [.ref a]∧mg x=some (.ref a)∧Same F H∧zQ K F us ds∧pre ds d∧∀v H' F',Gr H F H' F'→Rp K true .fresh H F' v d→Q v H'
theorem zbw{mg:AO}{x:Str}{pre:AG→AD→Prop}{n:Nat}(h:∀ds d,pre ds d→ds.length=n){vs:List V}{H:Hp}{Q:VK}{E:XK}(s:spF K mg x pre vs H Q E):vs.length=n + 1:=by
 obtain⟨F,ds,d,us,a,rfl,_,_,k,p,_⟩:=s;rw[ζg,zQ.length k,h ds d p];rfl
theorem TQ{mg:AO}{x:Str}{pre:AG→AD→Prop}{E:XK}{t1 t2 t3:TE}{a:Addr}{d1 d2 d3 d:AD}(h1:EvE K S false t1 Γ d1)(h2:EvE K S false t2 Γ d2)(h3:EvE K S false t3 Γ d3)(hm:mg x=some (.ref a))(hp:pre [d1,d2,d3] d):
  EvE K S κ (vY (spF K mg x pre) [] E (zS t1 (zS t2 (zS t3 (zS (tC (.ref a)) tNil))))) Γ d:=λH0 F0 H F σ e Q q =>
 h1 H0 F0 H F σ e _ λv1 H1 F1 g1 p1=>h2 H0 F0 H1 F1 σ (e.mono g1) _ λv2 H2 F2 g2 p2=>h3 H0 F0 H2 F2 σ ((e.mono g1).mono g2) _ λv3 H3 F3 g3 p3=>by
  have e3:=((e.mono g1).mono g2).mono g3;refine⟨F3,[d1,d2,d3],d,[v1,v2,v3],a,rfl,hm,g3.le,.cons (xi (yD (g2.f.trans g3.f) p1)) (.cons (xi (yD g3.f p2)) (.cons (xi p3) .nil)),hp,λv H4 F4 g4 p4=>q v H4 F4 (((g1.trans g2).trans g3).trans g4) (vN (κ:=true) (λ_=>rfl) (wP (κ:=true) (κ':=true) (S':=S) (H0':=H0) (λa xs z=>⟨z.1,λc=>?_⟩) (λ_ _ z=>z) p4))⟩
  obtain⟨u,hu⟩:=e3.sd a c;exact z.2 (by show H3 a≠none; rw[hu]; simp)
theorem zbK{t:TS}{N:AJ}{n:Nat}{H F:Hp}{vs:List V}{a:Addr}{ds:AG}{d:AD}{Q:VK}{Γ Γ':Ctx}(le:Same F H)(k:zQ K F vs ds)(q:∀v H' F',Gr H F H' F'→Rp K κ .fresh H F' v d→Q v H')(hn:N.length=n)(hl:vs.length < n)(hΓ:xh n ds Γ)(hs:SetC Γ ds.length (some (.fn a)) Γ')
  (h:ExS K .fresh t Γ' { nx:=λ_=>d=.none,rt:=λx=>x=d,kr:=κ }):t { nx:=λ_ H'=>Q .non H',rt:=Q } (L2.yF N (vs ++ [.ref a])) H:=by
 have l:=zQ.length k;have e0:=xW (N:=N) le k;rw[hn,hΓ.eq]at e0;have e1:=e0.set (i:=ds.length) (v:=.ref a) (x:=.fn a) rfl λ_ z=>z.elim;rw[hs.eq]at e1;have es:(L2.yF N vs).set ds.length (some (.ref a))=L2.yF N (vs ++ [.ref a]):=by
  unfold L2.yF;rw[←l,List.set_append_right _ _ (by simp),List.length_map,Nat.sub_self];obtain⟨m,hm⟩:∃m,N.length - vs.length=m + 1:=⟨N.length - vs.length - 1,⋯⟩
  rw[hm,ξd,List.set_cons_zero,ζv,ζg];have:N.length - (vs.length + [V.ref a].length)=m:=by show N.length - (vs.length + 1)=m; omega
  rw[this];simp
 rw[es]at e1;refine h H F H F _ F e1 (.refl _) (.inl rfl) _ ⟨λΓ' σ' H' F' n _ e=>?_,λd' v H' F' e g p=>?_,λ_ _ _ _ z=>z.elim,λ_ _ _ _ z=>z.elim⟩
 ·have n':d=.none:=n;subst n';exact q .non H' F' e.gr .non
 ·have e':d'=d:=e;subst e';exact q v H' F' g p
end
end PD
namespace Sx2
open Sh Wd
theorem Za{a b:Int}(h:Low a b):1≤b:=h.pos
def tot(xs:AM):Int×Int:=xs.foldl (λx y=>pl x.1 x.2 y.1 y.2) (0,1)
def smT:AM→Int×Int→Int×Int
 | [],x=>x
 | y :: r,x=>smT r (x.1 * y.2 + y.1 * x.2,x.2 * y.2)
def sm(xs:AM):Int×Int:=smT xs (0,1)
theorem Zo:∀(xs:AM) (y x:Int×Int),smT (xs ++ [y]) x=((smT xs x).1 * y.2 + y.1 * (smT xs x).2,(smT xs x).2 * y.2)
 | [],_,_=>rfl
 | _ :: r,y,x=>Zo r y _
theorem X9(xs:AM)(y:Int×Int):tot (xs ++ [y])=pl (tot xs).1 (tot xs).2 y.1 y.2:=by
 unfold tot;rw[ξq];rfl
structure YN(x X:Int×Int):Prop where
 low:Low x.1 x.2
 pos:1≤X.2
 eq:x.1 * X.2=X.1 * x.2
theorem Vf{x X y:Int×Int}(h:YN x X)(hy:Low y.1 y.2):YN (pl x.1 x.2 y.1 y.2) (X.1 * y.2 + y.1 * X.2,X.2 * y.2):=by
 obtain⟨t,b⟩:=x;obtain⟨T,B⟩:=X;obtain⟨c,d⟩:=y;obtain⟨lo,po,e⟩:=h;have hl:=QZ lo hy;have b1:=Za lo;have d1:=Za hy;refine⟨hl.1,?_,?_⟩
 ·exact Int.le_trans #[2] (ξU po d1 #[2] (by exact Int.le_trans #[2] po))
 ·have h2:=hl.2;generalize pl t b c d=z at h2;obtain⟨u,v⟩:=z;have e':t * B=T * b:=e;have h2':u * (b * d)=(t * d + b * c) * v:=h2;show u * (B * d)=(T * d + c * B) * v;have hb:b≠0:=by have:1≤b:=b1; omega
  refine Int.eq_of_mul_eq_mul_left hb ?_
  calc b * (u * (B * d))=B * (u * (b * d)):=by simp only[Int.mul_comm,Int.mul_left_comm,Int.mul_assoc]
   _=B * ((t * d + b * c) * v):=by rw[h2']
   _=(t * B) * (d * v) + b * (c * (B * v)):=by rw[Int.add_mul,Int.mul_add]; simp only[Int.mul_comm,Int.mul_left_comm,Int.mul_assoc]
   _=(T * b) * (d * v) + b * (c * (B * v)):=by rw[e']
   _=b * ((T * d + c * B) * v):=by rw[Int.add_mul,Int.mul_add]; simp only[Int.mul_comm,Int.mul_left_comm,Int.mul_assoc]
theorem zex:∀(xs:AM),(∀x∈xs,Low x.1 x.2)→YN (tot xs) (sm xs):=by
 have key:∀(n:Nat) (xs:AM),xs.length=n→(∀x∈xs,Low x.1 x.2)→YN (tot xs) (sm xs):=by
  intro n;induction n with
  | zero =>
   intro xs h _;have:xs=[]:=ζZ h;subst this;exact⟨⟨#[2],#[2]⟩,#[2],#[2]⟩
  | succ n ih =>
   intro xs h hx;obtain⟨t,s,rfl⟩:∃t s,xs=t ++ [s]:=⟨xs.dropLast,xs.getLast (by intro e; rw[e]at h; cases h),(ξf _).symm⟩
   have hl:t.length=n:=by rw[List.length_append]at h; simpa using h
   have ih':=ih t hl λx hx'=>hx x (ζM _ hx');rw[X9];unfold sm;rw[Zo];exact Vf ih' (hx s (by simp))
 exact λxs=>key xs.length xs rfl
theorem YN.le{x X:Int×Int}(h:YN x X):x.2≤X.2∧x.1.natAbs≤X.1.natAbs:=by
 obtain⟨t,b⟩:=x;obtain⟨T,B⟩:=X;obtain⟨lo,po,e⟩:=h;have b1:1≤b:=Za lo;have B1:1≤B:=po;have e':t * B=T * b:=e;have co:Int.gcd t b=1:=lo.co;have hd:b ∣ B:=by
  have h1:b.natAbs ∣ t.natAbs * B.natAbs:=⟨T.natAbs,by rw[←ξB,e',ξB,Nat.mul_comm]⟩
  have h2:Nat.Coprime b.natAbs t.natAbs:=by
   have:Nat.gcd t.natAbs b.natAbs=1:=co;exact Nat.Coprime.symm this
  exact Int.natAbs_dvd_natAbs.mp (h2.dvd_of_dvd_mul_left h1)
 have hle:b≤B:=Int.le_of_dvd ⋯ hd;refine⟨hle,?_⟩
 show t.natAbs≤T.natAbs;have e2:t.natAbs * B.natAbs=T.natAbs * b.natAbs:=by rw[←ξB,←ξB,e']
 have h3:b.natAbs≤B.natAbs:=by omega
 have h4:0 < B.natAbs:=by omega
 refine Nat.le_of_mul_le_mul_right ?_ h4;rw[e2];exact Nat.mul_le_mul_left _ h3
def pk(ss:AE)(ks:AF):AE:=ks.map λk=>ss.getD k 0
def fil(vw:List (Option Int))(ks:AF)(ws:AE):List (Option Int):=(ks.zip ws).foldl (λv x=>v.set x.1 (some x.2)) vw
theorem wW:∀(ks:AF) (ws:AE) (vw:List (Option Int)),(fil vw ks ws).length=vw.length
 | [],_,_=>rfl
 | _ :: _,[],_=>rfl
 | k :: r,w :: e,vw=>by
  show(fil (vw.set k (some w)) r e).length=_;rw[wW r e,ξC]
theorem Zd:∀(ks:AF) (ws:AE) (vw:List (Option Int)) (j:Nat),j∉ks→(fil vw ks ws)[j]?=vw[j]?
 | [],_,_,_,_=>rfl
 | _ :: _,[],_,_,_=>rfl
 | k :: r,w :: e,vw,j,h=>by
  show(fil (vw.set k (some w)) r e)[j]?=_;rw[Zd r e _ j λz=>h (ζk _ z),ζy (λz=>h (by rw[z]; exact ζf))]
theorem tG:∀(ks:AF) (ws:AE) (vw:List (Option Int)) (m j:Nat) (v:Int),ks.Nodup→ks[m]?=some j→ws[m]?=some v→j < vw.length→(fil vw ks ws)[j]?=some (some v)
 | [],_,_,m,_,_,_,h,_,_=>by simp at h
 | _ :: _,[],_,m,_,_,_,_,h,_=>by simp at h
 | k :: r,w :: e,vw,0,j,v,hn,h1,h2,h3=>by
  have e1:k=j:=by simpa using h1
  have e2:w=v:=by simpa using h2
  subst e1 e2;show(fil (vw.set k (some w)) r e)[k]?=_;rw[Zd r e _ k (ζ3.mp hn).1,ζt h3]
 | k :: r,w :: e,vw,m + 1,j,v,hn,h1,h2,h3=>by
  show(fil (vw.set k (some w)) r e)[j]?=_;exact tG r e _ m j v (List.nodup_cons.mp hn).2 (by simpa using h1) (by simpa using h2) (by simpa using h3)
def mr(k:Nat)(w:AE)(v:Int):AF→Nat→AE
 | [],_=>[]
 | j :: r,c=>if j=k then v :: mr k w v r c else w.getD c 0 :: mr k w v r (c + 1)
theorem zad(k:Nat)(w:AE)(v:Int):∀(xs:AF) (c:Nat),(mr k w v xs c).length=xs.length
 | [],_=>rfl
 | x :: r,c=>by
  show(if x=k then v :: mr k w v r c else w.getD c 0 :: mr k w v r (c + 1)).length=r.length + 1;split <;> simp[zad k w v r]
theorem zbT{n:Nat}{k:Nat}{v:Int}{w:AE}{ks:AF}(hn:ks.Nodup)(hk:∀j∈ks,j < n)(hw:w.length=(ks.filter λx=>x≠k).length):
  (ks.map λj=>((fil (fil (List.replicate n none) (ks.filter λx=>x≠k) w) [k] [v]).getD j none).getD 0)=mr k w v ks 0:=by
 have key:∀(suf pre:AF),pre ++ suf=ks→(suf.map λj=>((fil (fil (List.replicate n none) (ks.filter λx=>x≠k) w) [k] [v]).getD j none).getD 0)=mr k w v suf (pre.filter λx=>x≠k).length:=by
  intro suf;induction suf with
  | nil=>intro _ _; rfl
  | cons j r ih =>
   intro pre e;have ih':=ih (pre ++ [j]) (by rw[ξI]; exact e);have hjm:j∈ks:=by rw[←e]; simp
   have hj:=hk j hjm;rw[ζF,ih'];show _=if j=k then v :: mr k w v r _ else w.getD _ 0 :: mr k w v r _
   have l1:(fil (List.replicate n none) (ks.filter λx=>x≠k) w).length=n:=by rw[wW,ζT]
   by_cases h:j=k
   ·subst h;rw[if_pos rfl];have e1:(fil (fil (List.replicate n none) (ks.filter λx=>x≠j) w) [j] [v])[j]?=some (some v):=tG [j] [v] _ 0 j v (by simp) rfl rfl (by rw[l1]; exact hj);rw[ζb,e1,ζ2];simp
   ·rw[if_neg h];have hp:(pre.filter λx=>x≠k).length < w.length:=by
     rw[hw,←e,ζ2,ζg,List.filter_cons];simp[h]
    have e2:(ks.filter λx=>x≠k)[(pre.filter λx=>x≠k).length]?=some j:=by
     rw[←e,ζ2,ξb (ζl _),ξ9,List.filter_cons];simp[h]
    have e3:(fil (List.replicate n none) (ks.filter λx=>x≠k) w)[j]?=some (some (w.getD (pre.filter λx=>x≠k).length 0)) :=
     tG _ _ _ _ j _ (hn.filter _) e2 (by rw[ζb,ζe hp]; rfl) (by rw[ζT]; exact hj)
    have e1:(fil (fil (List.replicate n none) (ks.filter λx=>x≠k) w) [k] [v])[j]?=some (some (w.getD (pre.filter λx=>x≠k).length 0)):=by
     rw[Zd [k] [v] _ j (by simpa using h)];exact e3
    rw[ζb,e1,ζ2];simp[h]
 exact key ks [] rfl
theorem T8{n:Nat}{k:Nat}{v:Int}{w:AE}{ks:AF}(hn:ks.Nodup)(hk:∀j∈ks,j < n)(hw:w.length=(ks.filter λx=>x≠k).length){j:Nat}(hj:j∈ks):
  (fil (fil (List.replicate n none) (ks.filter λx=>x≠k) w) [k] [v]).getD j none≠none:=by
 have l1:(fil (List.replicate n none) (ks.filter λx=>x≠k) w).length=n:=by rw[wW,ζT]
 rw[ζb];by_cases h:j=k
 ·subst h;rw[tG [j] [v] _ 0 j v (by simp) rfl rfl (by rw[l1]; exact hk j hj)];simp
 ·rw[Zd [k] [v] _ j (by simpa using h)];obtain⟨m,hm⟩:=List.mem_iff_getElem?.mp (List.mem_filter.mpr ⟨hj,by simpa using h⟩:j∈ks.filter λx=>decide (x≠k));have hml:=(ζh.mp hm).1;rw[tG _ _ _ m j (w[m]'⋯) (hn.filter _) hm (ζe ⋯) (by rw[ζT]; exact hk j hj)];simp
theorem Ym:∀(ss ws:AE) (a A:Int),ss.length=ws.length→(∀(i:Nat) s v,ss[i]?=some s→ws[i]?=some v→0≤v∧v < s)→0≤a→a < A→0≤(ss.zip ws).foldl (λa x=>a * x.1 + x.2) a∧(ss.zip ws).foldl (λa x=>a * x.1 + x.2) a < A * prod ss
 | [],[],a,A,_,_,h0,h1=>⟨h0,by show a < A * 1; omega⟩
 | [],_ :: _,_,_,h,_,_,_=>by cases h
 | _ :: _,[],_,_,h,_,_,_=>by cases h
 | s :: r,v :: e,a,A,h,hr,h0,h1=>by
  have hv:=hr 0 s v rfl rfl;have g0:0≤a * s:=Int.mul_nonneg h0 ⋯;have g1:(a + 1) * s≤A * s:=ξK ⋯ ⋯;rw[Int.add_mul,Int.one_mul]at g1;have ih:=Ym r e (a * s + v) (A * s) (by simpa using h) (λi s' v' h1 h2=>hr (i + 1) s' v' (by simpa using h1) (by simpa using h2)) ⋯ ⋯;rw[ξz]at ih;exact ih
theorem wx{ss ws:AE}(h:ss.length=ws.length)(hr:∀(i:Nat) s v,ss[i]?=some s→ws[i]?=some v→0≤v∧v < s):0≤rkF ss ws∧rkF ss ws < prod ss:=by
 have:=Ym ss ws 0 1 h hr #[2] #[2];rw[Int.one_mul]at this;exact this
theorem UJ:∀(ss:AE) (p:Int),(∀s∈ss,0 < s)→∀(i:Nat) s v,ss[i]?=some s→(digs ss p)[i]?=some v→0≤v∧v < s
 | [],_,_,_,_,_,h,_=>by simp at h
 | s :: r,p,h,0,s',v,h1,h2=>by
  have e1:s=s':=by simpa using h1
  have e2:p % s=v:=by simpa[digs]using h2
  subst e1 e2;have hs:=h s ζf;exact⟨ζU _ ⋯,ζO _ hs⟩
 | s :: r,p,h,i + 1,s',v,h1,h2=>UJ r (p / s) (λx hx=>h x (List.mem_cons_of_mem _ hx)) i s' v (by simpa using h1) (by simpa[digs]using h2)
theorem Vb{ss w:AE}(h:∀s∈ss,0 < s)(hw:w∈wds ss):∀(i:Nat) s v,ss[i]?=some s→w[i]?=some v→0≤v∧v < s:=by
 intro i s v h1 h2;unfold wds at hw;obtain⟨j,_,rfl⟩:=ζp.mp hw;have hi:=(ζh.mp h1).1;have hl:(digs ss.reverse j).length=ss.length:=by rw[ZS,ξM]
 unfold wld at h2;rw[List.getElem?_reverse ⋯]at h2;refine UJ ss.reverse j (λx hx=>h x (List.mem_reverse.mp hx)) (ss.length - 1 - i) s v ?_ (by rw[hl]at h2; exact h2);rw[List.getElem?_reverse ⋯,show ss.length - 1 - (ss.length - 1 - i)=i by omega];exact h1
theorem zae{ss:AE}{k:Nat}{w:AE}{v:Int}(hv:0≤v∧v < ss.getD k 0):∀(suf:AF) (c:Nat),(∀(m j:Nat),(suf.filter λx=>x≠k)[m]?=some j→0≤w.getD (c + m) 0∧w.getD (c + m) 0 < ss.getD j 0)→∀(i:Nat) j u,suf[i]?=some j→(mr k w v suf c)[i]?=some u→0≤u∧u < ss.getD j 0
 | [],_,_,_,_,_,h,_=>by simp at h
 | x :: r,c,hw,i,j,u,h1,h2=>by
  unfold mr at h2;by_cases hx:x=k
  ·rw[if_pos hx]at h2;have hw':∀(m j:Nat),(r.filter λx=>x≠k)[m]?=some j→0≤w.getD (c + m) 0∧w.getD (c + m) 0 < ss.getD j 0:=λm j hm=>hw m j (by rw[List.filter_cons]; simp[hx]; simpa using hm);cases i with
   | zero =>
    have e1:x=j:=by simpa using h1
    have e2:v=u:=by simpa using h2
    subst e1 e2 hx;exact hv
   | succ i=>exact zae hv r c hw' i j u (by simpa using h1) (by simpa using h2)
  ·rw[if_neg hx]at h2;have hw0:=hw 0 x (by rw[List.filter_cons]; simp[hx]);have hw':∀(m j:Nat),(r.filter λx=>x≠k)[m]?=some j→0≤w.getD (c + 1 + m) 0∧w.getD (c + 1 + m) 0 < ss.getD j 0:=λm j hm=>by
    have:=hw (m + 1) j (by rw[List.filter_cons]; simp[hx]; simpa using hm);rw[show c + (m + 1)=c + 1 + m by omega]at this;exact this
   cases i with
   | zero =>
    have e1:x=j:=by simpa using h1
    have e2:w.getD c 0=u:=by simpa using h2
    subst e1 e2;exact hw0
   | succ i=>exact zae hv r (c + 1) hw' i j u (by simpa using h1) (by simpa using h2)
theorem QY{ss:AE}{ks:AF}{k:Nat}{w:AE}{v:Int}(hs:∀s∈pk ss (ks.filter λx=>x≠k),0 < s)(hw:w∈wds (pk ss (ks.filter λx=>x≠k)))(hv:0≤v∧v < ss.getD k 0):0≤rkF (pk ss ks) (mr k w v ks 0)∧rkF (pk ss ks) (mr k w v ks 0) < prod (pk ss ks):=by
 refine wx (by unfold pk; rw[List.length_map,zad]) λi s u h1 h2=>?_;unfold pk at h1;rw[ζo]at h1;cases e:ks[i]? with
 | none=>rw[e]at h1; cases h1
 | some j =>
  rw[e]at h1;have e1:ss.getD j 0=s:=ζr h1;rw[←e1];refine zae hv ks 0 (λm j' hm=>?_) i j u e h2;rw[Nat.zero_add];have hml:=(ζh.mp hm).1;have hwl:w.length=(ks.filter λx=>x≠k).length:=by
   unfold wds at hw;obtain⟨j,_,rfl⟩:=ζp.mp hw;rw[YQ];unfold pk;rw[ζa]
  have:=Vb hs hw m (ss.getD j' 0) (w.getD m 0) (by unfold pk; rw[List.getElem?_map,hm]; rfl) (by rw[List.getD_eq_getElem?_getD,List.getElem?_eq_getElem ⋯]; rfl);exact this
theorem YR(s:Int)(h:0 < s):wds [s]=(rng s.toNat).map λv=>[v]:=by
 have:=uw (ss:=[]) (s:=s) (λx hx=>by cases hx) h;rw[List.nil_append]at this;rw[this,zbl];unfold grow;simp
end Sx2
namespace PD
open PySem L2
section
variable {K:ζc}{S S':Sx}{κ:Bool}{Γ:Ctx}{P:Post}
end
theorem xC{α:Type}{g:α→AD}(h:∀x,PyData.canLay0 (g x)=true):∀xs:List α,PyData.canLayAll0 (xs.map g)=true
 | []=>rfl
 | x :: r=>by
  show(PyData.canLay0 (g x) && PyData.canLayAll0 (r.map g))=true;rw[h,xC h r];rfl
theorem y8{α:Type}{g:α→AD}{n:Nat}(h:∀x,PyData.depth (g x)≤n):∀xs:List α,PyData.depthAll (xs.map g)≤n
 | []=>ξj _
 | x :: r=>by
  show max (PyData.depth (g x)) (PyData.depthAll (r.map g))≤n;have:=y8 h r;have:=h x;omega
theorem Yk{d:AD}(h1:PyData.canLay0 d=true)(h2:PyData.depth d≤50):SeqAt.shaped d=true:=by
 unfold SeqAt.shaped;rw[h1];simp;omega
end PD
namespace L2
open PySem PySem.Spec PyProof.Rows
def srt(ns:AE):AE:=ns.mergeSort λa b=>decide (a≤b)
theorem tT:∀{a b:AE},a.Perm b→a.Pairwise (·≤·)→b.Pairwise (·≤·)→a=b
 | [],b,p,_,_=>p.nil_eq
 | x :: r,[],p,_,_=>absurd p.length_eq (by simp)
 | x :: r,y :: t,p,h1,h2=>by
  have a1:=ξu.mp h1;have a2:=ξu.mp h2;have hx:x∈y :: t:=p.mem_iff.mp ζf;have hy:y∈x :: r:=p.mem_iff.mpr ζf;have e:x=y:=by
   rcases ζw.mp hx with e | hx
   ·exact e
   ·rcases ζw.mp hy with e | hy
    ·exact e.symm
    ·have:=a2.1 x hx;have:=a1.1 y hy;omega
  subst e;rw[tT p.cons_inv a1.2 a2.2]
theorem xQ(ns:AE):(srt ns).Perm ns:=List.mergeSort_perm ns _
theorem wL(ns:AE):(srt ns).Pairwise (·≤·):=by
 have:=List.pairwise_mergeSort (le:=λa b:Int=>decide (a≤b)) (λa b c h1 h2=>by simp at *; omega) (λa b=>by simp; omega) ns;exact this.imp λh=>by simpa using h
theorem Zm{a ns:AE}(p:a.Perm ns)(h:a.Pairwise (·≤·)):a=srt ns:=tT (p.trans (xQ ns).symm) h (wL ns)
section
variable {X:Cx}{K:ζc}
theorem wK:∀{ns:AE} {us:AK},IntsAre us ns→Vals (ns.map V.int) us
 | _,_,.nil=>.nil
 | _,_,.cons _ t r=>.cons ⟨t,rfl⟩ (wK r)
def Xf(K:ζc):List V→Hp→VK→Prop:=λxs H Q=>∃p ns,xs=[.ref p]∧SqL K H p (ns.map V.int)∧ns.length < 64∧∀l,H l=none→Q (.ref l) (upd H l (.lst ((srt ns).map V.int)))
theorem W4:yX X (.builtin "sorted") (Xf X.K):=by
 intro pins s σ H xs us Q I r h;obtain⟨p,ns,rfl,hq,h64,q⟩:=h;obtain⟨u,rfl,rx⟩:=vf r;cases rx;obtain⟨its,r',pl,hz⟩:=I.list hq;have hl:=r'.length;rw[ζa]at hl hz;refine sorted_ints (vs:=its) pl.isList (xU r') ⋯ λout ns' a1 a2 a3=>?_;have e:=Zm a2 a3;subst e;obtain⟨c,hc⟩:=sortedAll_at s.heap its out;exact⟨.ref (s.heap.objs.size + 1),_,I.laid (t':=s.toks) (λ_ _=>sortedAll_old) (Nat.le_succ _) (show yA X.prog X.w _ _ _ (.lst ((srt ns).map V.int))from⟨by rw[List.length_map,(xQ ns).length_eq]; exact hz,out.toList,c,wK a1,by simpa using hc⟩),rfl,q _ (I.hok.fresh (Nat.le_succ _))⟩
theorem y9(hK:X.K=K):yX X (.builtin "sorted") (Xf K):=by subst hK; exact W4
def low(d:AD):Bool:=d.canLay0 && decide (d.depth≤50)
open Classical in
noncomputable def eqU2(h:Heap)(d:AD)(y:Value):Bool:=decide (∃dy as,Reads h y dy as∧low dy=true∧PyData.eqv dy d=true)
theorem XB{d:AD}(h:low d=true):d.canLay0=true:=(Bool.and_eq_true_iff.mp h).1
theorem Tt{d:AD}(h:low d=true):d.depth≤50:=of_decide_eq_true (Bool.and_eq_true_iff.mp h).2
open Classical in
theorem UH{h:Heap}{d dy:AD}{y:Value}{as:List Addr}(r:Reads h y dy as)(l:low dy=true):eqU2 h d y=PyData.eqv dy d:=by
 unfold eqU2;cases e:PyData.eqv dy d with
 | true=>apply decide_eq_true; exact⟨dy,as,r,l,e⟩
 | false =>
  apply decide_eq_false;rintro⟨dz,bs,r2,l2,e2⟩;rw[SeqAt.Reads.unique dy dz y as bs (XB l) r r2]at e;rw[e]at e2;cases e2
theorem W8{h:Heap}{d:AD}:∀{us:AK} {ds:AG} {as:List Addr},ReadsAll h us ds as→(∀e∈ds,low e=true)→us.any (eqU2 h d)=ds.any (PyData.eqv · d)
 | _,_,_,.nil,_=>rfl
 | _,_,_,.cons r t,l=>by rw[ξF,ξF,UH r (l _ ζf),W8 t λe he=>l e (ζk _ he)]
theorem Yu{h:Heap}:∀{us:AK} {ds:AG} {as:List Addr},ReadsAll h us ds as→∀u∈us,∃d∈ds,∃bs,Reads h u d bs
 | _,_,_,.nil,_,hu=>by cases hu
 | _,_,_,.cons r t,u,hu=>by
  rcases ζw.mp hu with rfl | hu
  ·exact⟨_,ζf,_,r⟩
  ·obtain⟨d,hd,bs,q⟩:=Yu t u hu;exact⟨d,ζk _ hd,bs,q⟩
def rInD(K:ζc)(neg:Bool):R2:=λx y H Q=>∃p xs d ds,y=.ref p∧SqL K H p xs∧Dp K H x d∧zQ K H xs ds∧low d=true∧(∀e∈ds,low e=true)∧Q (.bl (if neg then !ds.any (PyData.eqv · d)else ds.any (PyData.eqv · d))) H
theorem zdI(hu:X.A.units + 64 < cLine):OpR X (compareOp .In) (rInD X.K false):=by
 intro pins s σ H x y v u Q I rx ry h;obtain⟨p,xs,d,ds,rfl,hq,h1,h2,l1,l2,q⟩:=h;cases ry;obtain⟨its,r,pl,hz⟩:=I.list hq;obtain⟨as,ra⟩:=h1.reads I rx;obtain⟨bs,rb⟩:=zQ.reads I h2 r;refine SeqAt.in_listAt (eqU2 s.heap d) pl.isList (λw hw=>?_) ⟨.bl _,H,I,rfl,?_⟩
 ·obtain⟨dw,hd,cs,rc⟩:=Yu rb w (by simpa using hw);rw[UH rc (l2 dw hd)];exact SeqAt.eqAt_reads dw d _ s w v cs as rc ra (XB (l2 dw hd)) (XB l1) (by have:=Tt l1; have:=Nat.min_le_right dw.depth d.depth; show X.A.units + 1 + _ < _; omega)
 ·rw[show its.toArray.any (eqU2 s.heap d)=its.any (eqU2 s.heap d)by simp,W8 rb l2];exact q
theorem zb0(hK:X.K=K)(hu:X.A.units + 64 < cLine):OpR X (compareOp .In) (rInD K false):=by subst hK; exact zdI hu
def Vo(K:ζc):V→List V→Hp→VK→Prop:=λx vs H Q=>∃l,∃ns:AE,∃k,x=.ref l∧vs=[.int k]∧SqL K H l (ns.map V.int)∧k∈ns∧Q (.int (ns.idxOf k:Nat)) H
theorem zac:MtM X "list.index" (Vo X.K):=by
 intro pins s σ H x vs v us Q I rx rv h;obtain⟨l,ns,k,rfl,rfl,hq,hk,q⟩:=h;cases rx;obtain⟨u,rfl,ru⟩:=rv.one;obtain⟨t,rfl⟩:=ru;obtain⟨its,r,pl,hz⟩:=I.list hq;have hl:=r.length;have hi:=xU r;have hj:ns.idxOf k < ns.length:=ξv.mpr hk;rw[ζa]at hl hz;have hb:sizeLine < 2 ^ 62:=by decide
 obtain⟨⟨c,dd,dt,sl⟩,ho,hc,n,hd⟩:=pl.isList;simp only at hc hd;subst hc hd
 refine call_meets F.slot_list_index ⟨_,ho,rfl⟩ F.entry_list_index (F.args_list_index_2 _ _) (SeqAt.list_indexAt l its.toArray n dd sl (.int k t) (isInt k) (ns.idxOf k) (by rw[ζS]; omega) ⋯ ?_ λm hm lt=>?_)
  ⟨ho,λy hy=>(eq_isInt k t hi y (by simpa using hy)).at _ _,.int _,H,I.tok _,⟨_,rfl⟩,q⟩
 ·show isInt k its[ns.idxOf k]=true;rw[isInt_at k hi (ns.idxOf k) ⋯ hj];simp
 ·show isInt k its[m]=false;rw[ζS]at hm;rw[isInt_at k hi m hm ⋯];exact ne_of_lt_idxOf lt ⋯
theorem Ts(hK:X.K=K):MtM X "list.index" (Vo K):=by subst hK; exact zac
def Xg:V→List V→Hp→VK→Prop:=λx vs H Q=>∃l xs j y,x=.ref l∧vs=[.int j,y]∧H l=some (.lst xs)∧0≤j∧j≤(xs.length:Int)∧xs.length < sizeLine∧Q .non (upd H l (.lst (xs.take j.toNat ++ y :: xs.drop j.toNat)))
theorem Tr:MtM X "list.insert" Xg:=by
 intro pins s σ H x vs v us Q I rx rv h;obtain⟨l,xs,j,y,rfl,rfl,hH,h0,hj,hz,q⟩:=h;cases rx;cases rv with
 | cons ru rv' =>
  obtain⟨t,rfl⟩:=ru;obtain⟨u,rfl,ry⟩:=Vals.one rv';obtain⟨z,its,n,r,hl,e⟩:=I.lstM hH;have hb:sizeLine < 2 ^ 62:=by decide
  have hf:Builtin.List.listFitsIndex j=true:=fitsIndex_both ⋯ ⋯;have hs:its.toArray.size≤sizeLine:=by rw[ζS]; omega
  have e1:¬(j < 0):=by omega
  have e2:min j.toNat its.length=j.toNat:=by omega
  refine call_meets F.slot_list_insert ⟨_,e,rfl⟩ F.entry_list_insert (F.args_list_insert_3 _ _ _) (AutoSeq1.list_insert_list_int_val_1 l its.toArray n j t u (by rw[hf]; decide) hs) ⟨e,?_⟩;refine⟨.non,_,I.lset (its':=its.take j.toNat ++ u :: its.drop j.toNat) hH e ?_ ((r.take j.toNat).append (.cons ry (r.drop j.toNat))) ?_,rfl,q⟩
  ·simp only[e1,if_false,List.size_toArray,e2];apply Array.toList_inj.mp;simp;exact ζI (by rw[ζ5]; exact ζl _)
  ·rw[ζg,ζY,ζN,ζ5];omega
end
end L2
namespace PD
open PySem L2
section
variable {K:ζc}{S S':Sx}{κ κ':Bool}{Γ Γ' Γ'':Ctx}{P:Post}
theorem wQ{H0 F:Hp}(ns:AE):zq K κ S H0 F (ns.map V.int) (ns.map .int):=xz (wF ns) (ZR ns)
theorem xw{ta:TE}{ns:AE}(h:EvL K S false ta Γ (ns.map .int))(h64:ns.length < 64):EvO K S κ (tCB (Xf K) (zS ta tNil)) Γ ((srt ns).map .int):=λH0 F0 H F σ e Q q =>
 h H0 F0 H F σ e _ λa vs H1 F1 g1 p1 k1=>by
  cases yb (zN k1);exact⟨a,ns,rfl,p1,h64,λp hp=>q p _ _ F1 (g1.trans (.newO g1.le hp _)) (g1.h.free hp) zk (g1.le.free hp) (wQ _)⟩
theorem zaT{ta tb:TE}{ns:AE}{k:Int}(ha:EvL K S false ta Γ (ns.map .int))(hb:EvE K S false tb Γ (.int k))(hk:k∈ns):EvE K S κ (tBM K "list" (Vo K) ta (zS tb tNil)) Γ (.int (ns.idxOf k:Nat)):=λH0 F0 H F σ e Q q =>
 ha H0 F0 H F σ e _ λa vs H1 F1 g1 p1 k1=>⟨.inl ⟨rfl,_,p1⟩,hb H0 F0 H1 F1 σ (e.mono g1) _ λw H2 F2 g2 p2=>by
  cases yt p2;cases yb (zN k1);exact⟨a,ns,k,rfl,rfl,g2.h.seq p1,hk,q _ H2 F2 (g1.trans g2) (.int _)⟩⟩
theorem zd7{neg:Bool}{ta tb:TE}{d:AD}{ds:AG}(ha:EvE K S false ta Γ d)(hb:EvL K S false tb Γ ds)(l1:low d=true)(l2:∀e∈ds,low e=true):
  EvE K S κ (tOp (rInD K neg) ta tb) Γ (.bool (if neg then !ds.any (PyData.eqv · d)else ds.any (PyData.eqv · d))):=λH0 F0 H F σ e Q q =>
 ha H0 F0 H F σ e _ λv H1 F1 g1 p1=>hb H0 F0 H1 F1 σ (e.mono g1) _ λb ws H2 F2 g2 p2 k2 =>
  ⟨b,ws,d,ds,rfl,p2,xM (g1.le.trans g2.h) (xi p1),xV g2.le (zN k2),l1,l2,q _ H2 F2 (g1.trans g2) (.bl _)⟩
theorem TF{te ti:TE}{i:Nat}{m:Int}{ds:AG}{d:AD}(h:Γ[i]?=some (some (.ow κ ds)))(hi:EvE K S false ti Γ (.int m))(he:EvE K S κ te Γ d)(h0:0≤m)(h1:m≤ds.length)(hz:ds.length < sizeLine)(k:P.nx (Γ.set i (some (.ow κ (ds.take m.toNat ++ d :: ds.drop m.toNat))))):
  ExS K S (xX (tBM K "list" Xg (tVar i) (zS ti (zS te tNil)))) Γ P:=λH0 F0 H F σ B e b _ D I=>by
 obtain⟨v0,q1,a,vs,rfl,w,q5⟩:=e.has i _ h;refine⟨_,q1,.inl ⟨rfl,_,SqL.of w.h⟩,hi H0 F0 H F σ e _ λv1 H1 F1 g1 p1=>he H0 F0 H1 F1 σ (e.mono g1) _ λv H' F' g2 p=>?_⟩
 cases yt p1;have g:=g1.trans g2;have k':=zA g.f q5;have hl:=zq.length q5;refine⟨a,vs,m,v,rfl,rfl,g.h _ _ w.h,h0,by rw[hl]; exact h1,by rw[hl]; exact hz,?_⟩
 exact I.nx _ _ _ F' k (b.trans g.f) ((e.mono g).put (y:=.ow κ (ds.take m.toNat ++ d :: ds.drop m.toNat)) h q1 (show Owns H' (.ref a) (.ow κ ds) a from rfl) ⟨a,_,rfl,⟨zk,(w.mono g).f,w.n,w.s⟩,zq.append (zq.take _ k') (.cons p (zq.drop _ k'))⟩ λ_ z=>z)
theorem exin{te ti:TE}{i:Nat}{m:Int}{ds:AG}{d:AD}(h:GetC Γ i (.ow κ ds))(hi:EvE K S false ti Γ (.int m))(he:EvE K S κ te Γ d)(h0:0≤m)(h1:m≤ds.length)(hz:ds.length < sizeLine)(e:SetC Γ i (some (.ow κ (ds.take m.toNat ++ d :: ds.drop m.toNat))) Γ')(k:P.nx Γ'):
  ExS K S (xX (tBM K "list" Xg (tVar i) (zS ti (zS te tNil)))) Γ P:=TF h.eq hi he h0 h1 hz (e.eq ▸ k)
theorem Qi{T:Addr→Prop}{F:Hp}{a:Addr}{xs:List V}(z:SqT K F a xs):SqT K (drop T F) a xs:=by
 rcases z with(z | ⟨o,z⟩) | z
 ·exact .inl (.inl (xj.mpr ⟨z,λc=>nomatch c.2⟩))
 ·exact .inl (.inr ⟨o,xj.mpr ⟨z,λc=>nomatch c.2⟩⟩)
 ·exact .inr z
theorem TR{T:Addr→Prop}{F:Hp}{a:Addr}{xs:List V}(h:F a=some (.lst xs))(t:T a):drop T F a=none:=by
 cases q:drop T F a with
 | none=>rfl
 | some o =>
  obtain⟨q1,q2⟩:=xj.mp q;rw[h]at q1;cases q1;exact absurd ⟨t,rfl⟩ q2
end
end PD
namespace L2
open PySem PySem.Spec PyProof.Rows
section
variable {X:Cx}{K:ζc}
def rSum(K:ζc):List V→Hp→VK→Prop:=λxs H Q=>∃p,∃ns:AE,xs=[.ref p]∧SqL K H p (ns.map V.int)∧Q (.int ns.sum) H
theorem zbc(hc:X.calm=true):yX X (.builtin "sum") (rSum X.K):=by
 intro pins s σ H xs us Q I r h;obtain⟨p,ns,rfl,hq,q⟩:=h;obtain⟨u,rfl,rx⟩:=vf r;cases rx;obtain⟨its,r',pl,hz⟩:=I.list hq;have hi:=xU r';obtain⟨ys,e⟩:=hi.allInts.items;have hns:ns=ys.toList.map (·.1):=by rw[←hi.numsOf,←nums_intItems,←e]
 have hl:=pl.isList;rw[e]at hl;refine sum_intListG (I.ok.hd hc) hl λh' tk t' hk=>?_;refine⟨.int ns.sum,H,I.kept hk,⟨t',?_⟩,q⟩
 rw[preSum_eq,List.take_of_length_le (by simp),←hns]
theorem TW(hK:X.K=K)(hc:X.calm=true):yX X (.builtin "sum") (rSum K):=by subst hK; exact zbc hc
theorem V0:∀{bs:List Bool} {us:AK},Vals (bs.map V.bl) us→us=bs.map Value.bool
 | [],_,.nil=>rfl
 | _ :: _,_,.cons r t=>by rw[V0 t,show _=Value.bool _ from r]; rfl
end
end L2
namespace PD
open PySem L2
section
variable {K:ζc}{S S':Sx}{κ κ':Bool}{Γ Γ' Γ'':Ctx}{P:Post}
theorem zd0{ta:TE}{ns:AE}(h:EvL K S false ta Γ (ns.map .int)):EvE K S κ (tCB (rSum K) (zS ta tNil)) Γ (.int ns.sum):=λH0 F0 H F σ e Q q =>
 h H0 F0 H F σ e _ λa vs H1 F1 g1 p1 k1=>by
  cases yb (zN k1);exact⟨a,ns,rfl,p1,q _ H1 F1 g1 (.int _)⟩
theorem uX{F:Hp}:∀{vs:List V} {bs:List Bool},zQ K F vs (bs.map PyData.bool)→vs=bs.map V.bl
 | _,[],.nil=>rfl
 | _,_ :: _,.cons h t=>by rw[za2 h,uX t]; rfl
theorem Wo{H0 F:Hp}:∀{vs:List V} {ds:AG},vs.length=ds.length→(∀(j:Nat) v d,vs[j]?=some v→ds[j]?=some d→Rp K κ S H0 F v d)→zq K κ S H0 F vs ds
 | [],[],_,_=>.nil
 | [],_ :: _,h,_=>by cases h
 | _ :: _,[],h,_=>by cases h
 | v :: vs,d :: ds,h,k=>.cons (k 0 v d rfl rfl) (Wo (by simpa using h) λj v' d' h1 h2=>k (j + 1) v' d' (by simpa using h1) (by simpa using h2))
theorem Yt{α:Type}:∀{l:List α},l.Nodup→∀{i j:Nat} {x:α},l[i]?=some x→l[j]?=some x→i=j
 | [],_,i,j,x,h,_=>by simp at h
 | y :: r,n,0,0,x,_,_=>rfl
 | y :: r,n,0,j + 1,x,h1,h2=>by
  have e:y=x:=by simpa using h1
  exact absurd (List.mem_of_getElem? (show r[j]?=some x by simpa using h2)) (e ▸ (List.nodup_cons.mp n).1)
 | y :: r,n,i + 1,0,x,h1,h2=>by
  have e:y=x:=by simpa using h2
  exact absurd (List.mem_of_getElem? (show r[i]?=some x by simpa using h1)) (e ▸ (List.nodup_cons.mp n).1)
 | y :: r,n,i + 1,j + 1,x,h1,h2=>by rw[Yt (List.nodup_cons.mp n).2 (show r[i]?=some x by simpa using h1) (show r[j]?=some x by simpa using h2)]
theorem VH{r:Option Addr}{ti:TE}{i j:Nat}{m:Int}{dss:List AG}{ds:AG}(h:GetC Γ i (.o2 r dss))(hi:EvE K S false ti Γ (.int m))(hm:ixN dss.length m=some j)(hd:dss[j]?=some ds):EvL K S true (tOp (rIxL K) (tVar i) ti) Γ ds:=λH0 F0 H F σ e Q q=>by
 obtain⟨v0,q1,a,vs,⟨rfl,hid⟩,w,n1,n2,n3,hk⟩:=e.has i _ h.eq;refine⟨_,q1,hi H0 F0 H F σ e _ λw' H1 F1 g1 p1=>?_⟩
 cases yt p1;have hj:=(ζh.mp hd).1;have hx:vs[j]?=some (vs[j]'⋯):=ζe ⋯;obtain⟨b,us,ds',ex,ow,hd',kk⟩:=hk j _ hx;rw[hd]at hd';cases hd';have hat:atI vs m=some (.ref b):=by
  unfold atI;rw[n3,hm];show vs[j]?=_;rw[hx,ex]
 exact⟨a,vs,m,_,rfl,rfl,SqL.of (g1.h _ _ w.h),hat,q b us H1 F1 g1 (SqL.of (g1.h _ _ ow.h)) (zA g1.f kk)⟩
theorem ZP{r:Option Addr}{ti te:TE}{i j:Nat}{m:Int}{dss:List AG}{ds:AG}{d:AD}(h:GetC Γ i (.o2 r dss))(hi:EvE K S false ti Γ (.int m))(hm:ixN dss.length m=some j)(hd:dss[j]?=some ds)(he:EvE K S true te Γ d)(hz:ds.length < sizeLine)
  (es:SetC Γ i (some (.o2 r (dss.set j (ds ++ [d])))) Γ') (k:P.nx Γ'):ExS K S (xX (tBM K "list" x4 (tOp (rIxL K) (tVar i) ti) (zS te tNil))) Γ P:=λH0 F0 H F σ B e bb _ D I=>by
 obtain⟨v0,q1,a,vs,⟨rfl,hid⟩,w,n1,n2,n3,hk⟩:=e.has i _ h.eq;refine⟨_,q1,hi H0 F0 H F σ e _ λw' H1 F1 g1 p1=>?_⟩
 cases yt p1;have hj:=(ζh.mp hd).1;have hx:vs[j]?=some (vs[j]'⋯):=ζe ⋯;obtain⟨b,us,ds',ex,ow,hd',kk⟩:=hk j _ hx;rw[hd]at hd';cases hd';rw[ex]at hx;have hat:atI vs m=some (.ref b):=by
  unfold atI;rw[n3,hm];exact hx
 refine⟨a,vs,m,_,rfl,rfl,SqL.of (g1.h _ _ w.h),hat,.inl ⟨rfl,_,SqL.of (g1.h _ _ ow.h)⟩,he H0 F0 H1 F1 σ (e.mono g1) _ λv H2 F2 g2 p2=>?_⟩
 have g:=g1.trans g2;have ow2:=ow.mono g;have w2:=w.mono g;have nba:b≠a:=by rintro rfl; exact n1 (ζd hx)
 refine⟨b,us,v,rfl,rfl,ow2.h,by rw[zq.length kk]; exact hz,?_⟩
 obtain rfl:=es.eq;refine I.nx _ _ _ F2 k (bb.trans g.f) ((e.mono g).put (y:=.o2 r (dss.set j (ds ++ [d]))) h.eq q1 (show Owns H2 (.ref a) (.o2 r dss) b from .inr ⟨a,vs,rfl,w2.h,ζd hx⟩) ?_ ?_)
 ·refine⟨a,vs,⟨rfl,hid⟩,w2.other nba.symm,n1,n2,by rw[ξC]; exact n3,λj' x hx'=>?_⟩
  by_cases hjj:j'=j
  ·subst hjj;rw[hx]at hx';cases hx';exact⟨b,us ++ [v],ds ++ [d],rfl,⟨zk,ow2.f,ow2.n,ow2.s⟩,by rw[ζt hj],zq.append (zA g.f kk) (.cons p2 .nil)⟩
  ·obtain⟨c,ws,ds',rfl,oc,hc,kc⟩:=hk j' x hx';have ncb:c≠b:=by
    rintro rfl;exact hjj (Yt n2 hx' hx)
   exact⟨c,ws,ds',rfl,(oc.mono g).other ncb,by rw[ζy (Ne.symm hjj)]; exact hc,zA g.f kc⟩
 ·rintro c (oc | ⟨p,xs,ep,hp,hm'⟩)
  ·exact .inl oc
  ·cases ep;rw[zr nba.symm,w2.h]at hp;cases hp;exact .inr ⟨a,vs,rfl,w2.h,hm'⟩
theorem HasV.frzG{H0 H F F':Hp}{v:V}{x:DV}(h:HasV K S H0 H F v x)(s:Same F F')(n:∀c,Owns H v x c→F' c=none):HasV K S H0 H F' v x:=by
 cases x with
 | fz κ d=>exact yD s h
 | tn d=>obtain⟨T,eT,k⟩:=h; exact⟨T,eT,yD s k⟩
 | ow κ ds=>obtain⟨b,us,eb,wo,kk⟩:=h; exact⟨b,us,eb,⟨wo.h,n b eb,wo.n,wo.s⟩,zA s kk⟩
 | ox=>obtain⟨b,us,eb,wo⟩:=h; exact⟨b,us,eb,⟨wo.h,n b eb,wo.n,wo.s⟩⟩
 | o2 r dss =>
  obtain⟨b,us,eb,wo,n1,n2,l,k⟩:=h;refine⟨b,us,eb,⟨wo.h,n b (.inl eb.eq),wo.n,wo.s⟩,n1,n2,l,λj y hy=>?_⟩
  obtain⟨c,ws,ds,e2,o2,h2,k2⟩:=k j y hy;exact⟨c,ws,ds,e2,⟨o2.h,n c (.inr ⟨b,us,eb.eq,wo.h,by rw[←e2]; exact ζd hy⟩),o2.n,o2.s⟩,h2,zA s k2⟩
 | fn a=>exact h
 | xn φ=>obtain⟨b,e,k⟩:=h; exact⟨b,e,s _ _ k⟩
 | oa b κ ds=>obtain⟨eb,us,wo,kk⟩:=h; exact⟨eb,us,⟨wo.h,n b eb,wo.n,wo.s⟩,zA s kk⟩
 | xp φ=>obtain⟨F1,s1,k⟩:=h; exact⟨F1,s1.trans s,k⟩
 | od u=>obtain⟨b,eb,wo⟩:=h; exact⟨b,eb,⟨wo.h,n b eb,wo.n,wo.s⟩⟩
 | og ad ψ =>
  obtain⟨ok,w,p⟩:=h;refine⟨ok,λb z=>?_,ok.ps S H0 H H F F' v (λ_ _=>rfl) s p⟩
  obtain⟨o,y⟩:=w b z;exact⟨o,⟨y.h,n b z,y.n,y.s⟩⟩
open Classical in
noncomputable def frzF(F H:Hp)(a:Addr)(vs:List V):Hp:=λc=>if c=a∨V.ref c∈vs then H c else F c
theorem DEnv.frz2{r:Option Addr}{i:Nat}{dss:List AG}{H0 F0 H F:Hp}{σ:St}(e:DEnv K S H0 F0 H F σ Γ)(h:GetC Γ i (.o2 r dss))(es:SetC Γ i (some (.fz true (.list (dss.map .list)))) Γ'):
  ∃(Ff:Hp) (A:Addr→Prop),DEnv K S H0 F0 H Ff σ Γ'∧Same F Ff∧(∀c,A c→F c=none∧∃vs,Ff c=some (.lst vs))∧∀c,¬A c→Ff c=F c:=by
 have h':=h.eq;obtain⟨v0,q1,a,vs,⟨rfl,hid⟩,w,n1,n2,n3,hk⟩:=e.has i _ h';have inn:∀{c:Addr},(c=a∨V.ref c∈vs)→∃us,wI S H0 H F c us:=λ{c} hc=>by
  rcases hc with rfl | hc
  ·exact⟨_,w⟩
  ·obtain⟨j,hj⟩:=ξi.mp hc;obtain⟨b,us,ds,eb,ow,_⟩:=hk j _ hj;cases eb;exact⟨us,ow⟩
 have Fin:∀{c:Addr},(c=a∨V.ref c∈vs)→frzF F H a vs c=H c:=λhc=>if_pos hc;have Fout:∀{c:Addr},¬(c=a∨V.ref c∈vs)→frzF F H a vs c=F c:=λhc=>if_neg hc;have s:Same F (frzF F H a vs):=λc o hc=>by
  rw[Fout λz=>by obtain⟨us,ow⟩:=inn z; rw[ow.f]at hc; cases hc];exact hc
 have le:Same (frzF F H a vs) H:=λc o hc=>by
  by_cases z:c=a∨V.ref c∈vs
  ·rw[Fin z]at hc; exact hc
  ·rw[Fout z]at hc; exact e.le _ _ hc
 have li:=(ζh.mp h').1;have own:∀{c:Addr},(c=a∨V.ref c∈vs)→Owns H (.ref a) (.o2 r dss) c:=λ{c} hc=>by
  rcases hc with rfl | hc
  ·exact .inl rfl
  ·exact .inr ⟨a,vs,rfl,w.h,hc⟩
 obtain rfl:=es.eq;have hv:HasV K S H0 H (frzF F H a vs) (.ref a) (.fz true (.list (dss.map .list))):=by
  refine .lst ⟨by rw[Fin (.inl rfl)]; exact w.h,w.s⟩ (Wo (by rw[ζa]; exact n3) λj v d h1 h2=>?_);obtain⟨b,us,ds,rfl,ow,hd,kk⟩:=hk j v h1;rw[ζo,hd]at h2;cases h2;exact .lst ⟨by rw[Fin (.inr (ζd h1))]; exact ow.h,ow.s⟩ (zA s kk)
 have eF:DEnv K S H0 F0 H (frzF F H a vs) σ (Γ.set i (some (.fz true (.list (dss.map .list))))):=by
  refine⟨⟨e.gr.h,e.gr.f.trans s,le,λc o hc hn=>?_⟩,e.l0,e.sd,e.s0,by simp[e.len],λj f z=>?_,λj k' x1 y1 v1 w1 b g1 g2 g3 g4 o1 o2=>?_⟩
  ·rw[Fout λz=>by obtain⟨us,ow⟩:=inn z; rw[ow.n]at hc; cases hc];exact e.gr.ap c o hc hn
  ·by_cases hj:j=i
   ·subst hj;rw[ζt li]at z;cases z;exact⟨_,q1,hv⟩
   ·rw[ζy (Ne.symm hj)]at z;obtain⟨u,r1,r2⟩:=e.has j f z;refine⟨u,r1,r2.frzG s λc oc=>?_⟩
    by_cases zc:c=a∨V.ref c∈vs
    ·exact absurd (e.ne j i f _ u _ c z h' r1 q1 oc (own zc)) hj
    ·rw[Fout zc];obtain⟨us,wo⟩:=r2.owns oc;exact wo.f
  ·by_cases hj:j=i
   ·subst hj;rw[ζt li]at g1;cases g1;exact o1.elim
   ·by_cases hk':k'=i
    ·subst hk';rw[ζt li]at g2;cases g2;exact o2.elim
    ·rw[ζy (Ne.symm hj)]at g1;rw[ζy (Ne.symm hk')]at g2;exact e.ne j k' x1 y1 v1 w1 b g1 g2 g3 g4 o1 o2
 refine⟨_,λc=>c=a∨V.ref c∈vs,eF,s,λc hc=>?_,λc hc=>Fout hc⟩
 obtain⟨us,ow⟩:=inn hc;exact⟨ow.f,us,by rw[Fin hc]; exact ow.h⟩
theorem zeV{r:Option Addr}{t:TS}(i:Nat){dss:List AG}(h:GetC Γ i (.o2 r dss))(es:SetC Γ i (some (.fz true (.list (dss.map .list)))) Γ')(k:ExT K S S' t Γ' P):ExT K S S' t Γ P:=λH0 F0 H F σ B e bb vv D I=>by
 obtain⟨Ff,A,eF,s,_⟩:=e.frz2 h es;exact k H0 F0 H _ σ B eF (bb.trans s) vv D I
theorem WR{H0 F:Hp}{T:Addr→Prop}{vs:List V}{ds:AG}(h:∀d∈ds,imm d=true)(k:zQ K F vs ds):zq K κ S H0 (drop T F) vs ds :=
 xz h (zN (xO (κ:=true) (κ':=true) (S:=.spoil T) (S':=.fresh) (H0:=λ_=>none) (H0':=λ_=>none) (F:=F) (F':=drop T F) (λa xs z=>⟨xj.mpr ⟨z.1,λc=>z.2 (.inr c.1)⟩,λc=>z.2 (.inl c)⟩) (λ_ _ z=>Qi z) (xz h k)))
theorem thaw{H0 F0 H F:Hp}{σ:St}{i:Nat}{ds:AG}{Γf:Ctx}(e:DEnv K S H0 F0 H F σ Γ)(h:GetC Γ i (.ow κ ds))(es:SetC Γ i (some (.fz κ (.list ds))) Γf):
  ∃a Ff,DEnv K S H0 F0 H Ff σ Γf∧∀H' F',Gr H Ff H' F'→Gr H F H' (drop (λc=>c=a) F'):=by
 obtain⟨v,q1,a,vs,rfl,w,q5⟩:=e.has i _ h.eq;obtain⟨s,e'⟩:=e.froz (y:=.fz κ (.list ds)) h.eq q1 rfl w (.lst (LN.new w.s) (zA (Same.new w.f _) q5)) λ_ z=>z.elim;rw[es.eq]at e';refine⟨a,_,e',λH' F' g=>⟨g.h,λc o z=>xj.mpr ⟨g.f _ _ (s _ _ z),?_⟩,λc o z=>g.le _ _ (xj.mp z).1,λc o z n=>?_⟩⟩
 ·rintro⟨rfl,_⟩;rw[w.f]at z; cases z
 ·by_cases hc:c=a
  ·subst hc;exact TR (g.f _ _ zk) rfl
  ·cases q':drop (λc=>c=a) F' c with
   | none=>rfl
   | some o' =>
    have:=(xj.mp q').1;rw[g.ap _ _ z (by rw[zr hc]; exact n)]at this; cases this
theorem zcs(i:Nat){t:TE}{d:AD}{ds:AG}{Γf:Ctx}(h:GetC Γ i (.ow κ ds))(es:SetC Γ i (some (.fz κ (.list ds))) Γf)(k:EvE K S false t Γf d)(hi:imm d=true):EvE K S κ' t Γ d:=λH0 F0 H F σ e Q q=>by
 obtain⟨a,Ff,e',g⟩:=thaw e h es;refine k H0 F0 H Ff σ e' Q λv H' F' g' p=>q v H' _ (g H' F' g') ?_;cases WR (K:=K) (κ:=κ') (S:=S) (H0:=H0) (T:=λc=>c=a) (vs:=[v]) (ds:=[d]) (λx hx=>by rw[ζi.mp hx]; exact hi) (.cons (xi p) .nil)with
 | cons z _=>exact z
theorem wH{α:Type}{js:List (Option Nat)}{Γc:Ctx}{wi:TI}{g:TG}{te:TE}{is:AF}{xs:List α}(κ':Bool)(u f:α→AD)(hu:∀x∈xs,∀y∈xs,u x=u y→f x=f y)(hi:EvI K S κ' wi Γ (xs.map u))(hc:xG js Γ Γc)(hjs:(is.all λi=>js[i]? == some none)=true)
  (hj:(js.filterMap id).Nodup) (hz:xs.length≤sizeLine) (hb:∀x∈xs,ExG K S κ' g is (u x) Γc λΓ'=>EvE K S κ te Γ' (f x)):EvO K S κ (vX js wi g tYes te) Γ (xs.map f):=by
 classical
 let F:AD→AD:=λd=>if h:∃x,x∈xs∧u x=d then f h.choose else .none
 have hF:∀x∈xs,F (u x)=f x:=λx hx=>by
  have h:∃y,y∈xs∧u y=u x:=⟨x,hx,rfl⟩
  show(if h:∃y,y∈xs∧u y=u x then f h.choose else .none)=_;rw[dif_pos h];exact hu _ h.choose_spec.1 _ hx h.choose_spec.2
 refine EvO.eq (wY (κ:=κ) κ' F hi hc hjs hj (by rw[ζa]; exact hz) λd hd=>?_) ?_
 ·obtain⟨x,hx,rfl⟩:=ζp.mp hd;rw[hF x hx];exact hb x hx
 ·rw[ζA];exact ζn λx hx=>hF x hx
theorem zal:sizeLine < 2 ^ 62:=by decide
theorem zcq{js:List (Option Nat)}{Γc:Ctx}{ta:TA}{g:TG}{te:TE}{is:AF}{n:Nat}(f:Nat→AD)(hi:EvA K S false ta Γ [.int n])(hn:n≤sizeLine)(hc:xG js Γ Γc)(hjs:(is.all λi=>js[i]? == some none)=true)
  (hj:(js.filterMap id).Nodup) (hb:∀k:Nat,k < n→ExG K S true g is (.int k) Γc λΓ'=>EvE K S κ te Γ' (f k)):EvO K S κ (vX js (Ux ta) g tYes te) Γ ((List.range n).map f) :=
 wH true (λk:Nat=>.int (k:Int)) f (λx _ y _ h=>by cases Int.ofNat.inj (PyData.int.inj h); rfl) (yM (n:=(n:Int)) hi ⋯ (by have:=zal; omega)) hc hjs hj (by rw[ζz]; exact hn) λk hk=>hb k (ζE.mp hk)
theorem QG{α:Type}{f:Nat→α}{n:Nat}:((List.range n).map f).length=n:=by rw[ζa,ζz]
end
section
variable {K:ζc}{S S':Sx}{κ κ':Bool}{Γ Γ' Γ'':Ctx}{P:Post}{E:XK}
theorem DEnv.putN{H0 F0 H F:Hp}{σ:St}{i:Nat}{a b:Addr}{v:V}{vs:List V}{x y:DV}(e:DEnv K S H0 F0 H F σ Γ)(h:Γ[i]?=some (some x))(ha:σ[i]?=some (some v))(ho:Owns H v x a)
  (k:HasV K S H0 (upd H a (.lst vs)) F v y) (ko:∀c,Owns (upd H a (.lst vs)) v y c→Owns H v x c∨c=b) (nb:∀(j:Nat) (f:DV) (u:V),Γ[j]?=some (some f)→σ[j]?=some (some u)→¬Owns H u f b):DEnv K S H0 F0 (upd H a (.lst vs)) F σ (Γ.set i (some y)):=by
 obtain⟨v',q1,q2⟩:=e.has i x h;rw[ha]at q1;cases q1;obtain⟨ws,w⟩:=q2.owns ho;have hs:Same F (upd H a (.lst vs)):=λb u z=>by
  have:b≠a:=by rintro rfl; rw[w.f]at z; cases z
  rw[zr this]; exact e.le _ _ z
 have li:=(ζh.mp h).1;have far:∀{j:Nat} {f:DV} {u:V},j≠i→Γ[j]?=some (some f)→σ[j]?=some (some u)→¬Owns H u f a:=λ{j f u} hj z r o=>hj (e.ne j i f x u v a z h r ha o ho);refine⟨⟨λb u z=>?_,e.gr.f,hs,e.gr.ap⟩,e.l0,λb c=>?_,e.s0,by simp[e.len],λj f z=>?_,λj k' x1 y1 v1 w1 c g1 g2 g3 g4 o1 o2=>?_⟩
 ·rw[zr (zL z w.n)]; exact e.gr.h _ _ z
 ·obtain⟨o,q⟩:=e.sd b c;by_cases hb:b=a
  ·subst hb; exact⟨_,zk⟩
  ·exact⟨o,by rw[zr hb]; exact q⟩
 ·by_cases hj:j=i
  ·subst hj;rw[ζt li]at z;cases z;exact⟨_,ha,k⟩
  ·rw[ζy (Ne.symm hj)]at z;obtain⟨u,r1,r2⟩:=e.has j f z;exact⟨u,r1,r2.other (far hj z r1)⟩
 ·have bk:∀{j:Nat} {f:DV} {u:V},(Γ.set i (some y))[j]?=some (some f)→σ[j]?=some (some u)→Owns (upd H a (.lst vs)) u f c→(∃g,Γ[j]?=some (some g)∧Owns H u g c)∨(j=i∧c=b):=λ{j f u} z r o=>by
   by_cases hj:j=i
   ·subst hj;rw[ζt li]at z;cases z;rw[ha]at r;cases r;rcases ko c o with o | o
    ·exact .inl ⟨x,h,o⟩
    ·exact .inr ⟨rfl,o⟩
   ·rw[ζy (Ne.symm hj)]at z;obtain⟨u',r1,r2⟩:=e.has j f z;rw[r]at r1;cases r1;exact .inl ⟨f,z,o.other r2 (far hj z r)⟩
  rcases bk g1 g3 o1 with⟨f1,z1,w1'⟩ | ⟨j1,c1⟩
  ·rcases bk g2 g4 o2 with⟨f2,z2,w2'⟩ | ⟨j2,c2⟩
   ·exact e.ne j k' f1 f2 v1 w1 c z1 z2 g3 g4 w1' w2'
   ·subst c2;exact absurd w1' (nb j f1 v1 z1 g3)
  ·rcases bk g2 g4 o2 with⟨f2,z2,w2'⟩ | ⟨j2,c2⟩
   ·subst c1;exact absurd w2' (nb k' f2 w1 z2 g4)
   ·rw[j1,j2]
theorem DEnv.newOwn{H0 F0 H F H' F':Hp}{σ:St}{b:Addr}(e:DEnv K S H0 F0 H F σ Γ)(g:Gr H F H' F')(hb:H b=none)(j:Nat)(f:DV)(u:V)(z:Γ[j]?=some (some f))(r:σ[j]?=some (some u)):¬Owns H' u f b:=λo=>by
 obtain⟨u',q1,q2⟩:=e.has j f z;rw[r]at q1;cases q1;obtain⟨us,w⟩:=q2.owns (o.back q2 λ_ _ z=>g.h _ _ z.h);have:=w.h;rw[hb]at this; cases this
theorem zeU{i:Nat}{u:TS}(es:SetC Γ i (some (.o2 none [])) Γ')(k:ExT K S S' u Γ' P):ExT K S S' (tSeq (tAsg (tLst tNil) (yJ i)) u) Γ P:=λH0 F0 H F σ B e bb vv D I=>by
 refine⟨ξj _,λp hp=>?_⟩
 have g:Gr H F (upd H p (.lst [])) F:=.newO e.le hp _;have e1:=(e.mono g).set (i:=i) (v:=.ref p) (x:=.o2 none []) ⟨p,[],⟨rfl,λ_ z=>nomatch z⟩,⟨zk,e.le.free hp,e.gr.h.free hp,e.out hp⟩,by simp,List.nodup_nil,rfl,λj x hx=>by simp at hx⟩ λc oc j y w hj z hw o=>by
  rcases oc with oc | ⟨q,xs,ep,hq,hm⟩
  ·cases oc;exact e.newOwn g hp j y w z hw o
  ·cases ep;rw[zk]at hq;cases hq;cases hm
 rw[es.eq]at e1;exact k H0 F0 _ F _ B e1 bb vv D I
theorem TD{r:Option Addr}{te:TE}{i:Nat}{dss:List AG}{ds:AG}(h:GetC Γ i (.o2 r dss))(he:EvO K S true te Γ ds)(hz:dss.length < sizeLine)(es:SetC Γ i (some (.o2 r (dss ++ [ds]))) Γ')(k:P.nx Γ'):
  ExS K S (xX (tBM K "list" x4 (tVar i) (zS te tNil))) Γ P:=λH0 F0 H F σ B e bb _ D I=>by
 obtain⟨v0,q1,a,vs,⟨rfl,hid⟩,w,n1,n2,n3,hk⟩:=e.has i _ h.eq;refine⟨_,q1,.inl ⟨rfl,_,SqL.of w.h⟩,he H0 F0 H F σ e _ λb us H1 F1 g hb hb1 fb kk=>?_⟩
 have w1:=w.mono g;have nab:b≠a:=by rintro rfl; have:=w.h; rw[hb]at this; cases this
 have nbv:V.ref b∉vs:=λhm=>by
  obtain⟨j,hj⟩:=ξi.mp hm;obtain⟨c,ws,ds',ec,oc,_⟩:=hk j _ hj;cases ec;have:=oc.h;rw[hb]at this; cases this
 refine⟨a,vs,.ref b,rfl,rfl,w1.h,by rw[n3]; exact hz,?_⟩
 obtain rfl:=es.eq;refine I.nx _ _ _ F1 k (bb.trans g.f) ((e.mono g).putN (b:=b) (y:=.o2 r (dss ++ [ds])) h.eq q1 (show Owns H1 (.ref a) (.o2 r dss) a from .inl rfl) ?_ ?_ λj f u z r'=>e.newOwn g hb j f u z r')
 ·refine⟨a,vs ++ [.ref b],⟨rfl,hid⟩,⟨zk,w1.f,w1.n,w1.s⟩,?_,?_,by rw[ζg,ζg,n3]; rfl,λj x hx=>?_⟩
  ·intro hm;rcases ζu.mp hm with hm | hm
   ·exact n1 hm
   ·have:V.ref a=.ref b:=by simpa using hm
    cases this;exact nab rfl
  ·refine List.nodup_append.mpr ⟨n2,by simp,λx hx y hy=>?_⟩;have:y=.ref b:=by simpa using hy
   rintro rfl;exact nbv (this ▸ hx)
  ·by_cases hj:j < vs.length
   ·rw[ξs hj]at hx;obtain⟨c,ws,ds',rfl,oc,hc,kc⟩:=hk j x hx;have nca:c≠a:=by rintro rfl; exact n1 (ζd hx)
    exact⟨c,ws,ds',rfl,(oc.mono g).other nca,by rw[ξs ⋯]; exact hc,zA g.f kc⟩
   ·rw[ξb ⋯]at hx;have hj':j - vs.length=0:=by
     have:=(ζh.mp hx).1;simp at this;omega
    rw[hj']at hx;cases(show some (V.ref b)=some x from hx);exact⟨b,us,ds,rfl,⟨by rw[zr nab]; exact hb1,fb,e.gr.h.free hb,e.out hb⟩,by rw[ξb ⋯,show j - dss.length=0 by omega]; rfl,kk⟩
 ·rintro c (oc | ⟨p,xs,ep,hp,hm⟩)
  ·exact .inl (.inl oc)
  ·cases ep;rw[zk]at hp;cases hp;rcases ζu.mp hm with hm | hm
   ·exact .inl (.inr ⟨a,vs,rfl,w1.h,hm⟩)
   ·right;have:V.ref c=.ref b:=by simpa using hm
    cases this;rfl
theorem TL{r:Option Addr}{i:Nat}{dss:List AG}(h:GetC Γ i (.o2 r dss)):EvE K S κ (tCB (λxs H Q=>∃p ys,xs=[.ref p]∧(SqL K H p ys∨SqT K H p ys)∧Q (.int ys.length) H) (zS (tVar i) tNil)) Γ (.int dss.length):=λH0 F0 H F σ e Q q=>by
 obtain⟨v0,q1,a,vs,⟨rfl,_⟩,w,_,_,n3,_⟩:=e.has i _ h.eq;exact⟨_,q1,a,vs,rfl,.inl (SqL.of w.h),by rw[n3]; exact q _ H F (.refl e.le) (.int _)⟩
def ExM(K:ζc)(t:TS)(Γ:Ctx)(G:Hp→Hp→Hp→Hp→V→Prop):Prop:=∀(H0 F0 H F:Hp) (σ:St),DEnv K .fresh H0 F0 H F σ Γ→∀D:Ends,(∀v H' F',G H0 F0 H' F' v→D.rt v H')→t D σ H
theorem uT{t u:TS}{G:Hp→Hp→Hp→Hp→V→Prop}(N:Ctx→Prop)(h1:ExS K .fresh t Γ { nx:=N,rt:=λ_=>False })(h2:∀Γ',N Γ'→ExM K u Γ' G):ExM K (tSeq t u) Γ G:=λH0 F0 H F σ e D q =>
 h1 H0 F0 H F σ F e (.refl _) (.inl rfl) _ ⟨λΓ' σ' H' F' n _ e'=>h2 Γ' n H0 F0 H' F' σ' e' D q,λ_ _ _ _ z=>z.elim,λ_ _ _ _ z=>z.elim,λ_ _ _ _ z=>z.elim⟩
theorem zdY{t:TS}{G:Hp→Hp→Hp→Hp→V→Prop}(i:Nat){ds:AG}(h:GetC Γ i (.ow κ ds))(es:SetC Γ i (some (.fz κ (.list ds))) Γ')(k:ExM K t Γ' G):ExM K t Γ G:=λH0 F0 H F σ e D q=>by
 obtain⟨F',_,e'⟩:=e.freeze h.eq;rw[es.eq]at e';exact k H0 F0 H F' σ e' D q
abbrev XZ(K:ζc)(dss:List AG):Hp→Hp→Hp→Hp→V→Prop:=λH0 F0 H F v=>Gr H0 F0 H F∧HasV K .fresh H0 H F v (.o2 none dss)
theorem TC{i:Nat}{r:Option Addr}{dss:List AG}(h:GetC Γ i (.o2 r dss)):ExM K (tRet (tVar i)) Γ (XZ K dss):=λH0 F0 H F σ e D q=>by
 obtain⟨v,q1,a,vs,⟨rfl,_⟩,w⟩:=e.has i _ h.eq;exact⟨_,q1,q _ H F ⟨e.gr,a,vs,⟨rfl,λ_ z=>nomatch z⟩,w⟩⟩
def spO2(K:ζc)(pre:AG→List AG→Prop):Sp:=λvs H Q _=>∃F ds dss,Same F H∧zQ K F vs ds∧pre ds dss∧∀v H' F',XZ K dss H F H' F' v→Q v H'
theorem Qv{pre:AG→List AG→Prop}{n:Nat}(h:∀ds dss,pre ds dss→ds.length=n){vs:List V}{H:Hp}{Q:VK}(s:spO2 K pre vs H Q E):vs.length=n:=by
 obtain⟨F,ds,dss,_,k,p,_⟩:=s;rw[zQ.length k];exact h ds dss p
theorem zeB{t:TS}{N:AJ}{n:Nat}{H F:Hp}{vs:List V}{ds:AG}{G:Hp→Hp→Hp→Hp→V→Prop}{D:Ends}(le:Same F H)(k:zQ K F vs ds)(q:∀v H' F',G H F H' F' v→D.rt v H')(hn:N.length=n)(hΓ:xh n ds Γ)(h:ExM K t Γ G):t D (L2.yF N vs) H:=by
 have e:=xW (N:=N) le k;rw[hn,hΓ.eq]at e;exact h H F H F _ e D q
theorem TK{pre:AG→List AG→Prop}{ta:TA}{ds:AG}{dss:List AG}{i:Nat}{u:TS}(h:EvA K .fresh false ta Γ ds)(hp:pre ds dss)(es:SetC Γ i (some (.o2 none dss)) Γ')(k:ExT K .fresh S' u Γ' P):
  ExT K .fresh S' (tSeq (tAsg (vY (spO2 K pre) [] E ta) (yJ i)) u) Γ P:=λH0 F0 H F σ B e bb vv D I =>
 h H0 F0 H F σ e _ λvs H1 F1 g1 p1=>⟨F1,ds,dss,g1.le,by rw[ζ1]; exact zN p1,hp,λv H2 F2 ⟨g2,a,ws,ida,w,n1,n2,n3,hk⟩=>by
  have e1:=e.mono g1;have up1:∀{b:Addr} {us:List V},wI .fresh H1 H2 F2 b us→wI .fresh H0 H2 F2 b us:=λ{b us} o=>⟨o.h,o.f,e1.gr.h.free o.n,λc=>c (e1.gr.h.free o.n)⟩
  have lnm:∀(b:Addr) (xs:List V),LN K true .fresh H1 F2 b xs→LN K true .fresh H0 F2 b xs:=λb xs z=>⟨z.1,λc=>by
   have hb1:H1 b=none:=Classical.byContradiction λz'=>z.2 z';exact c (e1.gr.h.free hb1)⟩
  have e2:=(e1.mono g2).set (i:=i) (v:=v) (x:=.o2 none dss) ⟨a,ws,ida,up1 w,n1,n2,n3,λj x hx=>by
   obtain⟨b,us,ds',ex,ow,hd,kk⟩:=hk j x hx;exact⟨b,us,ds',ex,up1 ow,hd,xO (κ:=true) (κ':=true) lnm (λ_ _ z=>z) kk⟩⟩ λc oc j y w' hj z hw o=>by
   have hc1:H1 c=none:=by
    rcases oc with oc | ⟨p,xs,ep,hq,hm⟩
    ·rw[ida.eq]at oc;cases oc;exact w.n
    ·rw[ida.eq]at ep;cases ep;rw[w.h]at hq;cases hq;obtain⟨j',hj'⟩:=ξi.mp hm;obtain⟨b,us,ds',eb,ow,_⟩:=hk j' _ hj';cases eb;exact ow.n
   exact e1.newOwn g2 hc1 j y w' z hw o
  rw[es.eq]at e2;exact k H0 F0 H2 F2 _ B e2 (bb.trans (g1.f.trans g2.f)) vv D I⟩
theorem HasV.cut{H0 H H' F:Hp}{v:V}{x:DV}(h:HasV K S H0 H F v x)(c:∀b,Owns H v x b→H' b=H b):HasV K S H0 H' F v x:=by
 cases x with
 | fz κ d=>exact h
 | tn d=>exact h
 | ow κ ds=>obtain⟨b,us,eb,wo,kk⟩:=h; exact⟨b,us,eb,⟨by rw[c b eb]; exact wo.h,wo.f,wo.n,wo.s⟩,kk⟩
 | ox=>obtain⟨b,us,eb,wo⟩:=h; exact⟨b,us,eb,⟨by rw[c b eb]; exact wo.h,wo.f,wo.n,wo.s⟩⟩
 | o2 r dss =>
  obtain⟨b,us,eb,wo,n1,n2,l,k⟩:=h;refine⟨b,us,eb,⟨by rw[c b (.inl eb.eq)]; exact wo.h,wo.f,wo.n,wo.s⟩,n1,n2,l,λj y hy=>?_⟩
  obtain⟨d,ws,ds,e2,o2,h2,k2⟩:=k j y hy;exact⟨d,ws,ds,e2,⟨by rw[c d (.inr ⟨b,us,eb.eq,wo.h,by rw[←e2]; exact ζd hy⟩)]; exact o2.h,o2.f,o2.n,o2.s⟩,h2,k2⟩
 | fn a=>exact h
 | xn o=>exact h
 | oa b κ ds=>obtain⟨eb,us,wo,kk⟩:=h; exact⟨eb,us,⟨by rw[c b eb]; exact wo.h,wo.f,wo.n,wo.s⟩,kk⟩
 | xp φ=>exact h
 | od u=>obtain⟨b,eb,wo⟩:=h; exact⟨b,eb,⟨by rw[c b eb]; exact wo.h,wo.f,wo.n,wo.s⟩⟩
 | og ad ψ =>
  obtain⟨ok,w,p⟩:=h;refine⟨ok,λb z=>?_,ok.ps S H0 H H' F F v c (.refl _) p⟩
  have z:=(ok.pl H H' v c b).mp z;obtain⟨o,y⟩:=w b z;exact⟨o,⟨by rw[c b z]; exact y.h,y.f,y.n,y.s⟩⟩
def spP2(K:ζc)(pre:AD→List AG→AD→AD→List AG→Prop):Sp:=λvs H Q _=>∃F H0 v0 a v2 d0 d2 dss d dss',vs=[v0,.ref a,v2]∧Same F H∧Same F H0∧Same H0 H∧Dp K F v0 d0∧Dp K F v2 d2∧
 HasV K .fresh H0 H F (.ref a) (.o2 (some a) dss)∧pre d0 dss d2 d dss'∧∀v H' F',Gr H0 F H' F'→Rp K true .fresh H0 F' v d→HasV K .fresh H0 H' F' (.ref a) (.o2 none dss')→Q v H'
abbrev tL(K:ζc)(a:Addr)(d:AD)(dss:List AG):Hp→Hp→Hp→Hp→V→Prop:=λH0 F0 H F v=>Gr H0 F0 H F∧Rp K true .fresh H0 F v d∧HasV K .fresh H0 H F (.ref a) (.o2 none dss)
theorem zaE{te:TE}{d:AD}{j:Nat}{a:Addr}{dss:List AG}(h:EvE K .fresh true te Γ d)(hj:GetC Γ j (.o2 (some a) dss)):ExM K (tRet te) Γ (tL K a d dss):=λH0 F0 H F σ e D q =>
 h H0 F0 H F σ e _ λv H1 F1 g p=>by
  obtain⟨v',q1,a',vs,ida,w⟩:=(e.mono g).has j _ hj.eq;have:=ida.id a rfl;subst this;exact q v H1 F1 ⟨e.gr.trans g,p,a',vs,⟨rfl,λ_ z=>nomatch z⟩,w⟩
theorem zdi{t:TS}{N:AJ}{n:Nat}{H H0 F:Hp}{v0 v2:V}{a:Addr}{d0 d2 d:AD}{dss dss':List AG}{D:Ends}(le:Same F H)(l0:Same F H0)(hh:Same H0 H)(k0:Dp K F v0 d0)(k2:Dp K F v2 d2)(ko:HasV K .fresh H0 H F (.ref a) (.o2 (some a) dss))
  (q:∀v H' F',tL K a d dss' H0 F H' F' v→D.rt v H') (hn:N.length=n + 3) (h:ExM K t (some (.fz false d0) :: some (.o2 (some a) dss) :: some (.fz false d2) :: List.replicate n none) (tL K a d dss')):t D (L2.yF N [v0,.ref a,v2]) H:=by
 have no:∀(i:Nat) (x:DV),(some (.fz false d0) :: some (.o2 (some a) dss) :: some (.fz false d2) :: List.replicate n none:Ctx)[i]?=some (some x)→(i=0∧x=.fz false d0)∨(i=1∧x=.o2 (some a) dss)∨(i=2∧x=.fz false d2):=λi x z=>by
  match i with
  | 0=>left; exact⟨rfl,(ζr (ζr z)).symm⟩
  | 1=>right; left; exact⟨rfl,(ζr (ζr z)).symm⟩
  | 2=>right; right; exact⟨rfl,(ζr (ζr z)).symm⟩
  | i + 3 =>
   have z':(List.replicate n (none:Option DV))[i]?=some (some x):=z;rw[List.getElem?_replicate]at z';split at z' <;> cases z'
 refine h H0 F H F _ ⟨⟨hh,.refl _,le,λ_ _ _ z=>z⟩,l0,λb c=>?_,λT z=>(nomatch z),?_,λi x z=>?_,λi j x y v w b z1 z2 _ _ o1 o2=>?_⟩ D q
 ·cases z:H0 b with
  | none=>exact absurd z c
  | some o=>exact⟨o,hh _ _ z⟩
 ·unfold L2.yF;simp[hn]
 ·rcases no i x z with⟨rfl,rfl⟩ | ⟨rfl,rfl⟩ | ⟨rfl,rfl⟩
  ·exact⟨v0,rfl,ui k0⟩
  ·exact⟨.ref a,rfl,ko⟩
  ·exact⟨v2,rfl,ui k2⟩
 ·rcases no i x z1 with⟨rfl,rfl⟩ | ⟨rfl,rfl⟩ | ⟨rfl,rfl⟩
  ·exact o1.elim
  ·rcases no j y z2 with⟨rfl,rfl⟩ | ⟨rfl,rfl⟩ | ⟨rfl,rfl⟩
   ·exact o2.elim
   ·rfl
   ·exact o2.elim
  ·exact o1.elim
open Classical in
theorem TJ{pre:AD→List AG→AD→AD→List AG→Prop}{t0 t2:TE}{d0 d2 d:AD}{dss dss':List AG}{i j:Nat}{u:TS}(h0:EvE K S false t0 Γ d0)(hj:GetC Γ j (.o2 none dss))(h2:EvE K S false t2 Γ d2)(hp:pre d0 dss d2 d dss')
  (im:∀ds∈dss,∀d∈ds,imm d=true) (im':∀ds∈dss',∀d∈ds,imm d=true) (es1:SetC Γ j (some (.o2 none dss')) Γ') (es2:SetC Γ' i (some (.fz true d)) Γ'') (k:ExT K S S' u Γ'' P) :
  ExT K S S' (tSeq (tAsg (vY (spP2 K pre) [] E (zS t0 (zS (tVar j) (zS t2 tNil)))) (yJ i)) u) Γ P:=λH0 F0 H F σ B e bb vv D I =>
 h0 H0 F0 H F σ e _ λv0 H1 F1 g1 p1=>by
  obtain⟨vj,q1,_⟩:=e.has j _ hj.eq;refine⟨vj,q1,h2 H0 F0 H1 F1 σ (e.mono g1) _ λv2 H2 F2 g2 p2=>?_⟩
  have g:=g1.trans g2;have e2:=e.mono g;obtain⟨vj',q1',a,vs,ida,w,n1,n2,n3,hk⟩:=e2.has j _ hj.eq;rw[q1]at q1';cases q1';have eva:=ida.eq;subst eva;let A:Addr→Prop:=λc=>Owns H2 (.ref a) (.o2 none dss) c;let Hc:Hp:=λc=>if A c then none else H2 c
  have ownA:∀{c:Addr},A c→∃us,OwnO S H0 H2 F2 c us:=λ{c} hc=>HasV.owns (x:=.o2 none dss) ⟨a,vs,ida,w,n1,n2,n3,hk⟩ hc;have HcA:∀{c:Addr},A c→Hc c=none:=λhc=>if_pos hc;have HcN:∀{c:Addr},¬A c→Hc c=H2 c:=λhc=>if_neg hc;have cut:∀{c:Addr},Hc c=none→H0 c=none∧¬S.has H0 c:=λ{c} hc=>by
   by_cases z:A c
   ·obtain⟨us,o⟩:=ownA z;exact⟨o.n,o.s⟩
   ·rw[HcN z]at hc;exact⟨e2.gr.h.free hc,e2.out hc⟩
  have sub:Same Hc H2:=λc o hc=>by
   by_cases z:A c
   ·rw[HcA z]at hc; cases hc
   ·rw[HcN z]at hc; exact hc
  have subF:Same F2 Hc:=λc o hc=>by
   rw[HcN λz=>by obtain⟨us,ow⟩:=ownA z; rw[ow.f]at hc; cases hc];exact e2.le _ _ hc
  have ownC:∀{c:Addr} {us:List V},A c→wI S H0 H2 F2 c us→wI .fresh Hc H2 F2 c us:=λhc o=>⟨o.h,o.f,HcA hc,λz=>z (HcA hc)⟩
  refine⟨F2,Hc,v0,a,v2,d0,d2,dss,d,dss',by rw[ζ1],g2.le,subF,sub,xM g2.f (xi p1),xi p2,⟨a,vs,⟨rfl,λb z=>by cases z; rfl⟩,ownC (.inl rfl) w,n1,n2,n3,λm x hx=>?_⟩,hp,λv H3 F3 g3 p3 hv3=>?_⟩
  ·obtain⟨b,us,ds,ex,ow,hd,kk⟩:=hk m x hx;exact⟨b,us,ds,ex,ownC (.inr ⟨a,vs,rfl,w.h,by rw[←ex]; exact ζd hx⟩) ow,hd,xz (im ds (ζd hd)) (zN kk)⟩
  ·have up3:∀{c:Addr} {us:List V},wI .fresh Hc H3 F3 c us→wI S H0 H3 F3 c us:=λ{c us} o=>⟨o.h,o.f,(cut o.n).1,(cut o.n).2⟩
   have notA:∀{m:Nat} {y:DV} {x:V} {c:Addr},m≠j→Γ[m]?=some (some y)→σ[m]?=some (some x)→Owns H2 x y c→¬A c:=λ{m y x c} hm z r o hc=>hm (e2.ne m j y _ x _ c z hj.eq r q1 o hc);obtain⟨a3,vs3,ida3,w3,m1,m2,m3,hk3⟩:=hv3;have ea3:a3=a:=by have:=ida3.eq; cases this; rfl
   subst ea3;have lj:=(ζh.mp hj.eq).1;have hc0:∀{c:Addr} {o:HO},H0 c=some o→Hc c=some o:=λ{c o} hc=>by
    rw[HcN λz=>by obtain⟨us,ow⟩:=ownA z; rw[ow.n]at hc; cases hc];exact e2.gr.h _ _ hc
   have own3:∀{c:Addr},Owns H3 (.ref a3) (.o2 none dss') c→Hc c=none:=λ{c} hc=>by
    obtain⟨us,o⟩:=HasV.owns (K:=K) (S:=.fresh) (H0:=Hc) (F:=F3) (x:=.o2 none dss') ⟨a3,vs3,ida3,w3,m1,m2,m3,hk3⟩ hc;exact o.n
   have keep:∀{m:Nat} {y:DV} {x:V},m≠j→Γ[m]?=some (some y)→σ[m]?=some (some x)→HasV K S H0 H3 F3 x y∧∀c,Owns H3 x y c→Hc c≠none:=λ{m y x} hm z r=>by
    obtain⟨x',r1,r2⟩:=e2.has m y z;rw[r]at r1;cases r1;have hcut:=r2.cut (H':=Hc) λb o=>HcN (notA hm z r o);refine⟨hcut.mono g3,λc o=>?_⟩
    have o2:=o.back hcut λ_ _ q=>g3.h _ _ q.h;obtain⟨us,ow⟩:=hcut.owns o2;rw[ow.h];simp
   have e3:DEnv K S H0 F0 H3 F3 σ (Γ.set j (some (.o2 none dss'))):=by
    refine⟨⟨λc o hc=>g3.h _ _ (hc0 hc),e2.gr.f.trans g3.f,g3.le,λc o hc hn=>g3.ap c o (hc0 hc) (e2.gr.ap c o hc hn)⟩,e.l0,λc hc=>?_,e.s0,by simp[e.len],λm y z=>?_,λm n y1 y2 x1 x2 c z1 z2 r1 r2 o1 o2=>?_⟩
    ·obtain⟨o,q⟩:=e2.sd c hc;have nA:¬A c:=λz=>by obtain⟨us,ow⟩:=ownA z; exact ow.s hc
     exact⟨o,g3.h _ _ (by rw[HcN nA]; exact q)⟩
    ·by_cases hm:m=j
     ·subst hm;rw[ζt lj]at z;cases z;refine⟨_,q1,a3,vs3,⟨rfl,λ_ z=>nomatch z⟩,up3 w3,m1,m2,m3,λm' x hx=>?_⟩
      obtain⟨b,us,ds,ex,ow,hd,kk⟩:=hk3 m' x hx;exact⟨b,us,ds,ex,up3 ow,hd,xz (im' ds (ζd hd)) (zN kk)⟩
     ·rw[ζy (Ne.symm hm)]at z;obtain⟨x,r,_⟩:=e.has m y z;exact⟨x,r,(keep hm z r).1⟩
    ·by_cases hm:m=j
     ·by_cases hn:n=j
      ·rw[hm,hn]
      ·subst hm;rw[ζt lj]at z1;cases z1;rw[q1]at r1;cases r1;rw[ζy (Ne.symm hn)]at z2;exact absurd (own3 o1) ((keep hn z2 r2).2 c o2)
     ·rw[ζy (Ne.symm hm)]at z1;by_cases hn:n=j
      ·subst hn;rw[ζt lj]at z2;cases z2;rw[q1]at r2;cases r2;exact absurd (own3 o2) ((keep hm z1 r1).2 c o1)
      ·rw[ζy (Ne.symm hn)]at z2;obtain⟨x1',s1,s1'⟩:=e2.has m y1 z1;rw[r1]at s1;cases s1;obtain⟨x2',s2,s2'⟩:=e2.has n y2 z2;rw[r2]at s2;cases s2;have c1:=s1'.cut (H':=Hc) λb o=>HcN (notA hm z1 r1 o);have c2:=s2'.cut (H':=Hc) λb o=>HcN (notA hn z2 r2 o);have b1:=o1.back c1 λ_ _ q=>g3.h _ _ q.h;have b2:=o2.back c2 λ_ _ q=>g3.h _ _ q.h;exact e2.ne m n y1 y2 x1 x2 c z1 z2 r1 r2 (Owns.cut s1' (λb o=>HcN (notA hm z1 r1 o)) b1) (Owns.cut s2' (λb o=>HcN (notA hn z2 r2 o)) b2)
   rw[es1.eq]at e3;have pv:Rp K true S H0 F3 v d:=wP (κ:=true) (κ':=true) (S:=.fresh) (H0:=Hc) (F:=F3) (S':=S) (H0':=H0) (F':=F3) (λb xs z=>⟨z.1,(cut (Classical.byContradiction λq=>z.2 q)).2⟩) (λ_ _ z=>z) p3;have e4:=e3.setF (i:=i) pv;rw[es2.eq]at e4;exact k H0 F0 H3 F3 _ B e4 (bb.trans (g.f.trans g3.f)) vv D I
end
end PD
namespace L2
open PySem PySem.Spec PyProof.Rows
section
variable {X:Cx}
end
end L2
namespace PD
open PySem L2
section
variable {K:ζc}{S S':Sx}{κ κ':Bool}{Γ Γ' Γ'' Γ3:Ctx}{P:Post}
theorem eg3{i j m:Nat}{x y z:AD}{k:Ctx→Prop}(e1:SetC Γ i (some (.fz κ x)) Γ')(e2:SetC Γ' j (some (.fz κ y)) Γ'')(e3:SetC Γ'' m (some (.fz κ z)) Γ3)(h:k Γ3):ExG K S κ (gTup K 3 (tV (yJ i) (tV (yJ j) (tV (yJ m) gNil)))) [i,j,m] (.tuple [x,y,z]) Γ k:=λH0 F0 H F σ v e p Q q=>by
 obtain rfl:=e1.eq;obtain rfl:=e2.eq;obtain rfl:=e3.eq;obtain⟨a,vs,rfl,h1,h2⟩:=Xe p;cases h2 with
 | cons px h2=>cases h2 with
  | cons py h2=>cases h2 with
   | cons pz h2 =>
    cases h2;refine⟨a,_,rfl,Same.seqT e.le h1,rfl,_,_,rfl,_,_,rfl,_,_,rfl,rfl,?_⟩
    refine q _ _ H F h (.refl e.le) (((e.setF px).setF py).setF pz) (by simp) λn hn=>?_;rw[List.getElem?_set_ne (by intro z; exact hn (by simp[z])),List.getElem?_set_ne (by intro z; exact hn (by simp[z])),List.getElem?_set_ne (by intro z; exact hn (by simp[z]))]
theorem yx{α:Type}{js:List (Option Nat)}{Γc:Ctx}{wi:TI}{g:TG}{tt:TT}{te:TE}{is:AF}{xs:List α}(κ':Bool)(u f:α→AD)(p:α→Bool)(hu:∀x∈xs,∀y∈xs,u x=u y→f x=f y∧p x=p y)(hi:EvI K S κ' wi Γ (xs.map u))(hc:xG js Γ Γc)(hjs:(is.all λi=>js[i]? == some none)=true)
  (hj:(js.filterMap id).Nodup) (hz:xs.length≤sizeLine) (hb:∀x∈xs,ExG K S κ' g is (u x) Γc λΓ'=>EvT K S tt Γ' (p x)∧(p x=true→EvE K S κ te Γ' (f x))):EvO K S κ (vX js wi g tt te) Γ ((xs.filter p).map f):=by
 classical
 let F:AD→AD:=λd=>if h:∃x,x∈xs∧u x=d then f h.choose else .none
 let G:AD→Bool:=λd=>if h:∃x,x∈xs∧u x=d then p h.choose else false
 have ex:∀x∈xs,∃y,y∈xs∧u y=u x:=λx hx=>⟨x,hx,rfl⟩
 have hF:∀x∈xs,F (u x)=f x:=λx hx=>by
  show(if h:∃y,y∈xs∧u y=u x then f h.choose else .none)=_;rw[dif_pos (ex x hx)];exact(hu _ (ex x hx).choose_spec.1 _ hx (ex x hx).choose_spec.2).1
 have hG:∀x∈xs,G (u x)=p x:=λx hx=>by
  show(if h:∃y,y∈xs∧u y=u x then p h.choose else false)=_;rw[dif_pos (ex x hx)];exact(hu _ (ex x hx).choose_spec.1 _ hx (ex x hx).choose_spec.2).2
 refine EvO.eq (vR (κ:=κ) κ' G F hi hc hjs hj (by rw[ζa]; exact hz) λd hd=>?_) ?_
 ·obtain⟨x,hx,rfl⟩:=ζp.mp hd;rw[hF x hx,hG x hx];exact hb x hx
 ·rw[List.filter_map,ζA];have e1:xs.filter (G∘u)=xs.filter p:=ξ6 λx hx=>hG x hx;rw[e1];exact ζn λx hx=>hF x (ζm.mp hx).1
theorem YE{js:List (Option Nat)}{Γc:Ctx}{ta:TA}{g:TG}{tt:TT}{te:TE}{is:AF}{n:Nat}(f:Nat→AD)(p:Nat→Bool)(hi:EvA K S false ta Γ [.int n])(hn:n≤sizeLine)(hc:xG js Γ Γc)(hjs:(is.all λi=>js[i]? == some none)=true)
  (hj:(js.filterMap id).Nodup) (hb:∀k:Nat,k < n→ExG K S true g is (.int k) Γc λΓ'=>EvT K S tt Γ' (p k)∧(p k=true→EvE K S κ te Γ' (f k))):EvO K S κ (vX js (Ux ta) g tt te) Γ (((List.range n).filter p).map f) :=
 yx true (λk:Nat=>.int (k:Int)) f p (λx _ y _ h=>by cases Int.ofNat.inj (PyData.int.inj h); exact⟨rfl,rfl⟩) (yM (n:=(n:Int)) hi ⋯ (by have:=zal; omega)) hc hjs hj (by rw[ζz]; exact hn) λk hk=>hb k (ζE.mp hk)
end
end PD
namespace L2
open PySem PySem.Spec PyProof.Rows
section
variable {X:Cx}{K:ζc}
def dd(ns:AE):AE:=ns.foldl step_dedup []
theorem XL(ns:AE):firstMet (λi=>ns.getD i 0) ns.length=dd ns:=by
 unfold firstMet dd;congr 1;refine List.ext_getElem? λi=>?_;rw[ζo];by_cases h:i < ns.length
 ·rw[ξD h,ζe h];show some (ns.getD i 0)=_;rw[ζb,ζe h];rfl
 ·rw[ζ7 (by rw[ζz]; omega),ζ7 ⋯];rfl
theorem XS(ns:AE)(k:Int):dd (ns ++ [k])=step_dedup (dd ns) k:=by
 unfold dd;rw[ξq];rfl
theorem uv(ns:AE):∀k,k∈dd ns↔k∈ns:=by
 suffices h:∀n,∀k,k∈dd (ns.take n)↔k∈ns.take n by simpa using h ns.length
 intro n;induction n with
 | zero=>intro k; rfl
 | succ n ih =>
  intro k;by_cases hn:n < ns.length
  ·have e:ns.take (n + 1)=ns.take n ++ [ns[n]]:=by rw[List.take_succ,ζe hn]; rfl
   rw[e,XS];unfold step_dedup;split
   ·rename_i h;obtain⟨x,hx,ex⟩:=ξn.mp h;have:=eq_of_beq ex;subst this;rw[ih,ζu];refine⟨.inl,λz=>?_⟩
    rcases z with z | z
    ·exact z
    ·rw[ζi.mp z];exact(ih _).mp hx
   ·rw[ζu,ζu,ih]
  ·rw[ζI ⋯];have:=ih k;rw[ζI ⋯]at this;exact this
theorem XT(ns:AE):(dd ns).length≤ns.length:=by
 have:=length_foldl_step_dedup_le ns ([]:AE);simpa[dd]using this
end
end L2
namespace PD
open PySem L2
section
variable {K:ζc}{S S':Sx}{κ κ':Bool}{Γ Γ' Γ'':Ctx}{P:Post}
def EvG(K:ζc)(S:Sx)(κ:Bool)(t:TE)(Γ:Ctx)(G:AD→Prop):Prop:=∀(H0 F0 H F:Hp) (σ:St),DEnv K S H0 F0 H F σ Γ→∀Q:VK,(∀d v H' F',G d→Gr H F H' F'→Rp K κ S H0 F' v d→Q v H')→t σ H Q
theorem EvI.eq{wi:TI}{ds ds':AG}(h:EvI K S κ wi Γ ds)(e:ds=ds'):EvI K S κ wi Γ ds':=e ▸ h
def spW(K:ζc)(κ:Bool)(pre:AG→(AD→Prop)→Prop):Sp:=λvs H Q _=>∃F ds G,Same F H∧zQ K F vs ds∧pre ds G∧∀d v H' F',G d→Gr H F H' F'→Rp K κ .fresh H F' v d→Q v H'
theorem YW{pre:AG→(AD→Prop)→Prop}{n:Nat}(h:∀ds G,pre ds G→ds.length=n){vs:List V}{H:Hp}{Q:VK}{E:XK}(s:spW K κ pre vs H Q E):vs.length=n:=by
 obtain⟨F,ds,d,_,k,p,_⟩:=s;rw[zQ.length k];exact h ds d p
theorem ZQ{pre:AG→(AD→Prop)→Prop}{E:XK}{t:TA}{ds:AG}{G:AD→Prop}(h:EvA K S false t Γ ds)(hp:pre ds G):EvG K S κ (vY (spW K true pre) [] E t) Γ G:=λH0 F0 H F σ e Q q =>
 h H0 F0 H F σ e _ λvs H1 F1 g1 p1=>⟨F1,ds,G,g1.le,by rw[ζ1]; exact zN p1,hp,λd v H2 F2 hd g2 p2=>q d v H2 F2 hd (g1.trans g2) (vN (κ:=true) (λ_=>rfl) (wP (κ:=true) (κ':=true) (S':=S) (H0':=H0) (λa xs z=>⟨z.1,λc=>by
  obtain⟨u,hu⟩:=(e.mono g1).sd a c;exact z.2 (by show H1 a≠none; rw[hu]; simp)⟩) (λ_ _ z=>z) p2))⟩
theorem exg{te:TE}{u:TS}{i:Nat}{G:AD→Prop}{Γ':AD→Ctx}(κ:Bool)(h:EvG K S κ te Γ G)(es:∀d,SetC Γ i (some (.fz κ d)) (Γ' d))(k:∀d,G d→ExT K S S' u (Γ' d) P):ExT K S S' (tSeq (tAsg te (yJ i)) u) Γ P :=
 yw (λΓ1=>∃d,G d∧Γ1=Γ' d) (λH0 F0 H F σ B e b _ D I=>h H0 F0 H F σ e _ λd v H' F' hd g p=>I.nx _ _ H' F' ⟨d,hd,rfl⟩ (b.trans g.f) (by rw[←(es d).eq]; exact(e.mono g).setF p)) λΓ1 ⟨d,hd,z⟩=>z ▸ k d hd
theorem Zr{t:TS}{N:AJ}{n:Nat}{H F:Hp}{vs:List V}{ds:AG}{G:AD→Prop}{Q:VK}{Γ:Ctx}(le:Same F H)(k:zQ K F vs ds)(q:∀d v H' F',G d→Gr H F H' F'→Rp K κ .fresh H F' v d→Q v H')(hn:N.length=n)(hΓ:xh n ds Γ)
  (h:ExS K .fresh t Γ { nx:=λ_=>False,rt:=G,kr:=κ }):t { nx:=λ_ H'=>Q .non H',rt:=Q } (L2.yF N vs) H:=by
 have e:=xW (N:=N) le k;rw[hn,hΓ.eq]at e;exact h H F H F _ F e (.refl _) (.inl rfl) _ ⟨λ_ _ _ _ z=>z.elim,λd v H' F' r g p=>q d v H' F' r g p,λ_ _ _ _ z=>z.elim,λ_ _ _ _ z=>z.elim⟩
end
end PD
namespace L2
open PySem
def Rise(xs:Array Nat):Prop:=xs.toList.Pairwise (· < ·)
theorem Rise.lt{xs:Array Nat}(r:Rise xs){i j:Nat}(h:i < j)(hj:j < xs.size):xs[i]'⋯ < xs[j]:=by
 have:=List.pairwise_iff_getElem.mp r i j (by simp; omega) (by simpa using hj) h;simpa using this
theorem ZW(xs:Array Nat)(r:Rise xs)(j:Nat):∀(fuel lo hi:Nat),lo≤hi→hi≤xs.size→hi - lo≤fuel→
  (∀i (h:i < xs.size),i < lo→xs[i] < j)→(∀i (h:i < xs.size),hi≤i→j≤xs[i])→
  SetTable.below.go xs j fuel lo hi≤xs.size∧(∀i (h:i < xs.size),i < SetTable.below.go xs j fuel lo hi→xs[i] < j)∧∀i (h:i < xs.size),SetTable.below.go xs j fuel lo hi≤i→j≤xs[i]
 | 0,lo,hi,h1,h2,h3,a,b=>by
  have:lo=hi:=by omega
  subst this;exact⟨h2,a,b⟩
 | f + 1,lo,hi,h1,h2,h3,a,b=>by
  unfold SetTable.below.go;by_cases hl:lo < hi
  ·rw[if_pos hl];dsimp only;have hm:(lo + hi) / 2 < xs.size:=by omega
   have eg:xs.getD ((lo + hi) / 2) j=xs[(lo + hi) / 2]:=by simp[hm]
   rw[eg];by_cases hx:xs[(lo + hi) / 2] < j
   ·rw[if_pos hx];refine ZW xs r j f _ _ ⋯ h2 ⋯ (λi hi' hlt=>?_) b;by_cases e:i=(lo + hi) / 2
    ·subst e; exact hx
    ·exact Nat.lt_trans (r.lt (show i < (lo + hi) / 2 by omega) hm) hx
   ·rw[if_neg hx];refine ZW xs r j f _ _ ⋯ ⋯ ⋯ a λi hi' hle=>?_;by_cases e:i=(lo + hi) / 2
    ·subst e; omega
    ·have:=r.lt (show(lo + hi) / 2 < i by omega) hi';omega
  ·rw[if_neg hl];have:lo=hi:=by omega
   subst this;exact⟨h2,a,b⟩
theorem ZV(xs:Array Nat)(r:Rise xs)(j:Nat):SetTable.below xs j≤xs.size∧(∀i (h:i < xs.size),i < SetTable.below xs j→xs[i] < j)∧∀i (h:i < xs.size),SetTable.below xs j≤i→j≤xs[i] :=
 ZW xs r j _ _ _ (ξj _) (ζl _) ⋯ (λ_ _ h=>by omega) λi h z=>by omega
theorem VQ{xs:Array Nat}(r:Rise xs)(i:Nat)(h:i < xs.size):SetTable.below xs (xs[i] + 1)=i + 1:=by
 obtain⟨a,b,c⟩:=ZV xs r (xs[i] + 1);have h1:¬SetTable.below xs (xs[i] + 1)≤i:=λz=>by have:=c i h z; omega
 have h2:¬i + 1 < SetTable.below xs (xs[i] + 1):=λz=>by
  have:=b (i + 1) ⋯ z;have:=r.lt (Nat.lt_succ_self i) (show i + 1 < xs.size by omega);simp only[Nat.succ_eq_add_one]at this;omega
 omega
theorem VP{xs:Array Nat}(r:Rise xs):SetTable.below xs 0=0:=by
 obtain⟨a,b,c⟩:=ZV xs r 0;by_cases h:SetTable.below xs 0=0
 ·exact h
 ·have:=b 0 ⋯ ⋯; omega
structure TOk(b:Bool)(t:SetTable):Prop where
 led:t.led=b
 rise:Rise t.place
 dum:t.dummies=#[]
theorem TOk.fresh{b:Bool}{f m:Nat}:TOk b (.fresh f m b):=⟨rfl,List.Pairwise.nil,rfl⟩
theorem TOk.plain{b c:Bool}{t:SetTable}(h:TOk b t):TOk b { t with plain:=c }:=⟨h.led,h.rise,h.dum⟩
theorem TOk.standIn{b:Bool}{t:SetTable}(h:TOk b t)(n:Nat):TOk b (t.standIn n):=⟨h.led,by
 show(Array.range n).toList.Pairwise (· < ·);rw[Array.toList_range];exact ξO,rfl⟩
theorem TOk.orStandIn{b:Bool}{t:SetTable}(h:TOk b t)(n:Nat):TOk b (t.orStandIn n):=by
 unfold SetTable.orStandIn;split
 ·exact h
 ·exact h.standIn n
theorem Uz(j:Nat):SetTable.has #[] j=false:=rfl
theorem zbz{t:SetTable}{j:Nat}(h:t.slot j=.empty):t.place[SetTable.below t.place j]?≠some j:=by
 intro z;unfold SetTable.slot at h;simp[z]at h
theorem tQ{t:SetTable}{b:Bool}(ht:TOk b t){g:Nat→Int}{h:Int}:∀(n:Nat) (p:SetTable.Probe) {j:Nat} {d:Option Nat},p.dummy=none→SetTable.probe.go t g h n p=some (.empty j d)→d=none∧t.slot j=.empty
 | 0,p,j,d,_,e=>by cases e
 | n + 1,p,j,d,hp,e=>by
  unfold SetTable.probe.go at e;split at e
  ·rename_i hs;injection e with e;injection e with e1 e2;subst e1;exact⟨e2 ▸ hp,hs⟩
  ·rename_i hs;exfalso;unfold SetTable.slot at hs;rw[ht.dum]at hs;simp only[Uz]at hs;split at hs <;> simp at hs
  ·split at e
   ·cases e
   ·refine tQ ht n _ ?_ e;unfold SetTable.advance;split
    ·exact hp
    ·exact hp
theorem zdp{b:Bool}{t:SetTable}(h:TOk b t){j:Nat}(hj:t.slot j=.empty):TOk b (t.put j).1:=by
 refine⟨h.led,?_,by show(if SetTable.has t.dummies j=true then _ else _)=_; rw[h.dum,Uz]; rfl⟩
 have hn:=zbz hj;obtain⟨a,b,c⟩:=ZV t.place h.rise j;show(SetTable.insertAt t.place (SetTable.below t.place j) j).toList.Pairwise (· < ·);generalize SetTable.below t.place j=p at *;rw[SetTable.toList_insertAt,List.pairwise_append];have hr:t.place.toList.Pairwise (· < ·):=h.rise;refine⟨hr.sublist (ξ4 _ _),?_,?_⟩
 ·rw[ξu];refine⟨λx hx=>?_,hr.sublist (List.drop_sublist _ _)⟩
  obtain⟨i,hi,rfl⟩:=ξx.mp hx;rw[ζ5,ζP]at hi;rw[ξ5,Array.getElem_toList];have:=c (p + i) ⋯ ⋯;by_cases z:i=0
  ·subst z;have h2:t.place[p]≠j:=λq=>hn (by rw[ξe ⋯,q]);simp only[Nat.add_zero]at this ⊢;omega
  ·have h3:=h.rise.lt (show p < p + i by omega) (show p + i < t.place.size by omega);have h4:=c p ⋯ (ζl _);omega
 ·intro x hx y hy;obtain⟨i,hi,rfl⟩:=ξx.mp hx;rw[ζN,ζP]at hi;rw[List.getElem_take,Array.getElem_toList];have h1:=b i ⋯ ⋯;rcases ζw.mp hy with rfl | hy
  ·exact h1
  ·obtain⟨k,hk,rfl⟩:=ξx.mp hy;rw[ζ5,ζP]at hk;rw[ξ5,Array.getElem_toList];have:=c (p + k) ⋯ ⋯;omega
theorem Tu{b:Bool}{t:SetTable}(h:TOk b t)(es:Array (Int×Value))(k:Int)(x:Value):TOk b (layNew t es k x).2.1:=by
 unfold layNew;split
 ·rename_i slot wd e;unfold SetTable.freeSlot at e;split at e
  ·rename_i j d e2;obtain⟨rfl,hs⟩:=tQ h _ _ rfl e2;injection e with e;injection e with e3 _;have e3:j=slot:=e3;subst e3;exact(zdp h hs).orStandIn _
  ·cases e
 ·exact h.standIn _
theorem Wr{b:Bool}{t:SetTable}(h:TOk b t)(es:Array (Int×Value))(n:Nat):TOk b (relayAll t es n).2.1:=by
 unfold relayAll;split
 ·rename_i t' order e;dsimp only;split
  ·unfold SetTable.relaid SetTable.laid at e;simp only[Option.bind_eq_bind]at e;obtain⟨ow,_,e⟩:=Option.bind_eq_some_iff.mp e;injection e with e;injection e with e1 e2;subst e1;refine⟨h.led,?_,rfl⟩
   show List.Pairwise (· < ·) _;dsimp only;rw[ξS,List.pairwise_filterMap];refine ξO.imp λ{i j} hij x hx y hy=>?_;obtain⟨u,_,rfl⟩:=ξp.mp hx;obtain⟨u',_,rfl⟩:=ξp.mp hy;exact hij
  ·exact h.standIn _
 ·exact h.standIn _
theorem xT{α:Type}(next:Nat→Nat)(xs:Array α):(pickOrder next xs).toList.Perm xs.toList:=by
 suffices h:∀(n k:Nat) (l:List α) (out:Array α),l.length=n→(pickOrder.go next n k l out).toList.Perm (out.toList ++ l)by
  have:=h xs.size 0 xs.toList #[] (by simp);simpa[pickOrder]using this
 intro n;induction n with
 | zero =>
  intro k l out hl;have:l=[]:=ξy.mp hl;subst this;simp[pickOrder.go]
 | succ n ih =>
  intro k l out hl;unfold pickOrder.go;have hm:next k % l.length < l.length:=Nat.mod_lt _ ⋯
  rw[ζe hm];dsimp only;refine(ih _ _ _ (by rw[List.length_eraseIdx_of_lt hm]; omega)).trans ?_;rw[Array.toList_push,ξI];refine List.Perm.append_left _ ?_;have e:l=l.take (next k % l.length) ++ l[next k % l.length] :: l.drop (next k % l.length + 1):=by
   rw[←ξt hm,ζX]
  conv=>rhs; rw[e]
  rw[ξ7,List.singleton_append];exact ξX.symm
end L2
namespace L2
open PySem PySem.Spec PyProof.Rows
def IsE(e:Int×Value):Prop:=∃k t,e=(hashInt k,.int k t)
def kOf(e:Int×Value):Int:=match e.2 with | .int k _=>k | _=>0
def SetI(b:Bool)(a:Addr)(l:AE)(h:Heap):Prop :=
 ∃o es ep t,h.get? a=some o∧o.ExactSet∧o.data=.set es ep t∧(∀e∈es.toList,IsE e)∧(es.toList.map kOf).Perm l∧es.size < scanBound∧t.fits es.size=true∧TOk b t
section
variable {prog:Program}{w:World}{A:Around}{E:AN}{s:Shared}{b:Bool}{a:Addr}{l:AE}
theorem SetI.at{h h':Heap}(x:SetI b a l h)(e:∀o,h.get? a=some o→h'.get? a=some o):SetI b a l h' :=
 let⟨o,es,ep,t,ho,r⟩:=x
 ⟨o,es,ep,t,e o ho,r⟩
theorem IsE.elems{es:List (Int×Value)}(h:∀e∈es,IsE e):ElemsOf (intKind prog w) es:=λe he=>by
 obtain⟨k,t,rfl⟩:=h e he;exact⟨⟨k,intKind_is _ _ k t,rfl⟩,rfl⟩
theorem IsE.is{e:Int×Value}(h:IsE e)(k:Int):(intKind prog w).is k e.2=true↔kOf e=k:=by
 obtain⟨j,t,rfl⟩:=h;constructor
 ·intro z;exact((intKind prog w).inj _ _ _ z (intKind_is _ _ j t)).symm
 ·intro z;have z:j=k:=z;subst z;exact intKind_is _ _ j t
theorem IsE.ints:∀{es:List (Int×Value)},(∀e∈es,IsE e)→IntsAre (es.map (·.2)) (es.map kOf)
 | [],_=>.nil
 | e :: es,h=>by
  obtain⟨k,t,rfl⟩:=h e (.head _);exact .cons k t (IsE.ints λx hx=>h x (.tail _ hx))
theorem vg{o:Obj}{es:Array (Int×Value)}{ep:Nat}{t:SetTable}{h:Heap}(ho:h.get? a=some o)(hd:o.data=.set es ep t)(es':Array (Int×Value))(t':SetTable):
  (h.update a (Obj.putSet es' t')).get? a=some { o with data:=.set es' (ep + 1) t' }:=by
 have q:=ξm (Obj.putSet es' t') ho (by rw[putSet_of _ _ hd]; rfl)
 rwa [putSet_of _ _ hd]at q
theorem zcL{g:Bool→Sem Unit}(hg:∀(c:Bool) (s₁:Shared) (R:Unit→Shared→Prop),R () s₁→wpAny (model prog w) A (g c) R E s₁)
  {o:Obj} {es:Array (Int×Value)} {ep:Nat} {t:SetTable} (ho:s.heap.get? a=some o) (hex:o.ExactSet) (hd:o.data=.set es ep t)
  {es1:Array (Int×Value)} {t2:SetTable} (he:∀e∈es1.toList,IsE e) (hp:(es1.toList.map kOf).Perm l) (hz:es1.size < scanBound) (hf:t2.fits es1.size=true) (ht:TOk b t2) {wd:Bool} {R:Option Bool→Shared→Prop}
  (k:∀h',Heap.SameBut a s.heap h'→SetI b a l h'→R (some true) { s with heap:=h' }) :
  wpAny (model prog w) A (do
   storeSet a es1 t2
   if(!wd && t2.tooFull)=true then do
    g (relayAll t2 es1 (SetTable.grown es1.size)).2.2; storeSet a (relayAll t2 es1 (SetTable.grown es1.size)).1 (relayAll t2 es1 (SetTable.grown es1.size)).2.1; pure (some true)
   else pure (some true)) R E s:=by
 refine AA (wpAny_storeSet_of ho hd ?_ (fits_of_scanBound hz));have g1:=vg ho hd es1 t2;have u1:=Heap.SameBut.update s.heap a (Obj.putSet es1 t2);split
 ·have hr:=relayAll_perm t2 es1 (SetTable.grown es1.size);have hq:=relayAll_fits t2 es1 (SetTable.grown es1.size);have hk:=Wr ht es1 (SetTable.grown es1.size);generalize relayAll t2 es1 (SetTable.grown es1.size)=Z at hr hq hk ⊢;obtain⟨es2,t3,gv⟩:=Z;dsimp only at hr hq hk ⊢;have z2:es2.size=es1.size:=by have:=hr.length_eq; simpa using this
  refine AA (hg _ _ _ ?_);refine AA (wpAny_storeSet_of g1 rfl ?_ (fits_of_scanBound (by rw[z2]; exact hz)));exact AB (k _ (u1.trans (Heap.SameBut.update _ a _)) ⟨_,es2,_,t3,vg g1 rfl es2 t3,hex,rfl,λe x=>he e (hr.mem_iff.mp x),(hr.map kOf).trans hp,by rw[z2]; exact hz,hq,hk⟩)
 ·exact AB (k _ u1 ⟨_,es1,_,t2,g1,hex,rfl,he,hp,hz,hf,ht⟩)
theorem addI{k:Int}{tk:Tok}{Q:Bool→Shared→Prop}(hS:SetI b a l s.heap)(hl:l.length + 1 < scanBound)
  (h:∀(r:Bool) h',Heap.SameBut a s.heap h'→SetI b a (step_dedup l k) h'→Q r { s with heap:=h' }) :
  wpAny (model prog w) A (setAddHashed a (.int k tk) (hashInt k)) Q E s:=by
 obtain⟨o,es,ep,t,ho,hex,hd,hE,hp,hz,hf,ht⟩:=hS;have hel:ElemsOf (intKind prog w) es.toList:=IsE.elems hE;have hn:es.size=l.length:=by have:=hp.length_eq; simpa using this
 have hm:∀k',k'∈l↔∃e∈es.toList,(intKind prog w).is k' e.2=true:=λk'=>by
  rw[←hp.mem_iff,ζp];exact⟨λ⟨e,x,y⟩=>⟨e,x,((hE e x).is k').mpr y⟩,λ⟨e,x,y⟩=>⟨e,x,((hE e x).is k').mp y⟩⟩
 unfold setAddHashed setAddHashedIn;refine wpAny_holding (AA (wpAny_setState_of ho hd hf ?_));dsimp only;rw[byScan_of (knd:=intKind prog w) (x:=.int k tk) rfl hz hel];simp only[↓reduceIte];unfold setAddByScan;refine AA (AA (wpAny_rule ?_));refine AA (wpAny_setScan_of (knd:=intKind prog w) (k:=k) (intKind_is _ _ k tk) ho hd hf hel ?_);cases hr:List.findIdx? (λe=>(intKind prog w).is k e.2) es.toList with
 | some j =>
  dsimp only;obtain⟨hj,hpj,_⟩:=List.findIdx?_eq_some_iff_getElem.mp hr;have hk:k∈l:=(hm k).mpr ⟨es.toList[j],ζ9 hj,hpj⟩;have e1:step_dedup l k=l:=by unfold step_dedup; rw[if_pos (List.any_eq_true.mpr ⟨k,hk,by simp⟩)]
  have q:=h false s.heap (Heap.SameBut.refl a s.heap) (e1.symm ▸ ⟨o,es,ep,t,ho,hex,hd,hE,hp,hz,hf,ht⟩);exact AB (AB q)
 | none =>
  dsimp only;have hk:k∉l:=λz=>by
   obtain⟨e,he,hpe⟩:=(hm k).mp z;have q:=List.findIdx?_eq_none_iff.mp hr e he;rw[hpe]at q; cases q
  have e1:step_dedup l k=l ++ [k]:=by
   unfold step_dedup;refine if_neg λz=>?_;obtain⟨x,hx,ex⟩:=ξn.mp z;exact hk (eq_of_beq ex ▸ hx)
  have hgw:∀(c:Bool) {s₁:Shared} {R:Unit→Shared→Prop},R () s₁→wpAny (model prog w) A (match c with | true=>rule "set.scan.the-table-gave-way" | false=>pure ()) R E s₁:=λc s₁ R q=>by
   cases c
   ·exact AB q
   ·exact wpAny_rule q
  have hperm:=layNew_perm t es (hashInt k) (.int k tk);have hfits:=layNew_fits t es (hashInt k) (.int k tk);have hok:=Tu ht es (hashInt k) (.int k tk);show wpAny _ _ (let(es,t,wasDummy,gave):=layNew t es (hashInt k) (.int k tk); _) _ _ _;generalize layNew t es (hashInt k) (.int k tk)=Z at hperm hfits hok ⊢;obtain⟨es1,t1,wd,gv⟩:=Z;dsimp only at hperm hfits hok ⊢;rw[Array.toList_push]at hperm;have hE1:∀e∈es1.toList,IsE e:=λe he=>by
   rcases ζu.mp (hperm.mem_iff.mp he)with z | z
   ·exact hE e z
   ·rw[ζi.mp z]; exact⟨k,tk,rfl⟩
  have hp1:(es1.toList.map kOf).Perm (l ++ [k]):=by
   refine(hperm.map kOf).trans ?_;rw[ζv];exact hp.append_right _
  have hz1:es1.size < scanBound:=by
   have q:=hp1.length_eq;rw[ζa,ζP,ζg]at q;have:es1.size=l.length + 1:=q;omega
  refine AA (hgw _ ?_);have kk:∀h',Heap.SameBut a s.heap h'→SetI b a (l ++ [k]) h'→Q true { s with heap:=h' }:=λh' u v=>h true h' u (e1.symm ▸ v);split
  ·refine AA ?_;rw[hashByValue_scannable 8 (x:=.int k tk) rfl];refine AB ?_;refine zcL ?_ ho hex hd hE1 hp1 hz1 ?_ ?_ λh' u v=>AB (kk h' u v)
   ·exact λc s₁ R q=>hgw c q
   ·split
    ·exact hfits
    ·exact SetTable.fits_plain_off hfits
   ·split
    ·exact hok
    ·exact hok.plain
  ·refine AA (AB ?_);simp only[↓reduceIte];refine zcL ?_ ho hex hd hE1 hp1 hz1 hfits hok λh' u v=>AB (kk h' u v);exact λc s₁ R q=>hgw c q
end
theorem yr:Slot "set_iterator" "__next__" "set_iterator.__next__" := .of (owner := "set_iterator") (n := "__next__")
 (by rw[typeLookup_type,builtinLookup_eq_fast]; kernel_rfl) (by decide +kernel) (by decide +kernel)
 (by decide +kernel) (by first | exact .inl (by decide +kernel) | exact .inr (by decide +kernel))
 (by rw[isSubtype_type]; kernel_rfl)
theorem wN:Slot "set_iterator" "__iter__" "set_iterator.__iter__" := .of (owner := "set_iterator") (n := "__iter__")
 (by rw[typeLookup_type,builtinLookup_eq_fast]; kernel_rfl) (by decide +kernel) (by decide +kernel)
 (by decide +kernel) (by first | exact .inl (by decide +kernel) | exact .inr (by decide +kernel))
 (by rw[isSubtype_type]; kernel_rfl)
theorem xZ:entryFor table "set_iterator.__next__" = some Builtin.«set_iterator.__next__»:=entryFor_of_tree (by kernel_rfl)
theorem uA:entryFor table "set_iterator.__iter__" = some Builtin.«dict_keyiterator.__iter__»:=entryFor_alias (id' := "dict_keyiterator.__iter__") (by kernel_rfl) rfl (by decide +kernel) (by kernel_rfl)
theorem Vh:entryFor table "set.__iter__" = some Builtin.«frozenset.__iter__»:=entryFor_alias (id' := "frozenset.__iter__") (by kernel_rfl) rfl (by decide +kernel) (by kernel_rfl)
theorem wO(a:Value):argsOk "set_iterator.__next__" ⟨[a],[]⟩:=by
 unfold argsOk
 kernel_rfl
theorem tN(a:Value):argsOk "set_iterator.__iter__" ⟨[a],[]⟩:=by
 unfold argsOk
 kernel_rfl
def ItO(first:Value)(i:Nat)(a:Addr)(n ep:Nat):Obj:={ cls:=.type "set_iterator", data:=.fields #[first,.int i 0,.ref a,.int n 0,.int ep 0] }
section
variable {prog:Program}{w:World}{A:Around}{E:AN}{s:Shared}{b:Bool}{a I:Addr}{l:AE}
theorem zcD{n:Nat}{src:Source}{Q:Nat→Shared→Prop}(hn:n≠0)(h:∀i,i < n→∀d,Q i { s with drawn:=d }):wpAny (model prog w) A (choose src n) Q E s :=
 λ_ _ _=>⟨hn,h _ (Nat.mod_lt _ (Nat.pos_of_ne_zero hn)) _⟩
theorem zc6{α:Type}:∀(n:Nat) (xs:List α) (s:Shared) {Q:List α→Shared→Prop},xs.length=n→(∀ys d,ys.Perm xs→Q ys { s with drawn:=d })→wpAny (model prog w) A (drawOrder n xs) Q E s
 | 0,xs,s,Q,hl,h=>by
  have:xs=[]:=ξy.mp hl;subst this;unfold drawOrder;exact AB (h [] s.drawn .nil)
 | n + 1,[],s,Q,hl,h=>by cases hl
 | n + 1,x :: xs,s,Q,hl,h=>by
  unfold drawOrder;refine AA (zcD (by simp) λi hi d=>?_);rw[ζe hi];dsimp only;refine AA (zc6 n _ _ (by rw[List.length_eraseIdx_of_lt hi]; omega) λys d' hp=>AB (h _ d' ?_));have e:(x :: xs)=(x :: xs).take i ++ (x :: xs)[i] :: (x :: xs).drop (i + 1):=by
   rw[←ξt hi,ζX]
  rw[ξ7]at hp;refine(hp.cons _).trans ?_
  conv=>rhs; rw[e]
  exact ξX.symm
theorem zeM{first x:Value}{slot i n ep nx:Nat}{o:Obj}{es:Array (Int×Value)}{t:SetTable}{Q:Option Value→Shared→Prop}(hI:s.heap.get? I=some (ItO (.int slot 0) i a n ep))
  (ho:s.heap.get? a=some o) (hd:o.data=.set es ep t) (hf:t.fits es.size=true) (hn:es.size=n)
  (hN:∀(A:Around) (E:AN) (R:Option (Value×Nat)→Shared→Prop),R (some (x,nx)) s→wpAny (model prog w) A (setNext a slot i ep) R E s)
  (hQ:∀h',h'.get? I=some (ItO (.int nx 0) (i + 1) a n ep)→Heap.SameBut I s.heap h'→Q (some x) { s with heap:=h' }):wpAny (model prog w) A (pyNext (.ref I)) Q E s:=by
 have hT:s.TypeIs (.ref I) "set_iterator" := ⟨_,hI,rfl⟩
 unfold pyNext;refine AA (wpAny_attempt (wpAny_callSpecial?_slot (name:=Str.ofString "__next__") hT yr (wpAny_call_entry yr hT xZ ?_ (wO _))));unfold Builtin.«set_iterator.__next__»;refine AA (AB ?_);refine AA (wpAny_fieldsOf hI rfl ?_);refine AA (wpAny_setEntries_of ho hd hf ?_);rw[if_neg (by rw[hn]; simp)];dsimp only;refine AA (m:=setNext a _ _ _) ?_;rw[ζG,ζG,ζG];refine hN _ _ _ ?_;dsimp only;have g1:(s.heap.update I (Obj.mapFields (·.setIfInBounds 0 (rawInt nx)))).get? I=some (ItO (.int nx 0) i a n ep):=ξm _ hI rfl;refine AA (wpAny_setField hI rfl (ξV _) ?_);have g2:((s.heap.update I (Obj.mapFields (·.setIfInBounds 0 (rawInt nx)))).update I (Obj.mapFields (·.setIfInBounds 1 (rawInt ((i:Int) + 1))))).get? I=some (ItO (.int nx 0) (i + 1) a n ep):=ξm _ g1 rfl;refine AA (wpAny_setField (s:={ s with heap:=_ }) g1 rfl (ξW (ξV _)) ?_);exact AB ⟨_,rfl,AB (hQ _ g2 ((Heap.SameBut.update ..).trans (Heap.SameBut.update ..)))⟩
theorem zcQ{h:Heap}{Q:Option Value→Shared→Prop}(hh:A.handled=none)(k:∀h',Heap.ExtBut I h h'→Q none { s with heap:=h' }):
  wpAny (model prog w) A.in1 (newExc (.type "StopIteration") [] >>= λe=>(raiseNew e:Sem Fin)) (λfin s'=>∃r,fin=.done (.ret r)∧False) (λe s'=>∃T,s'.TypeIs e T∧T = "StopIteration"∧Q none s') { s with heap:=h }:=by
 refine AA ?_;simp only[newExc,newTuple];refine AA (wpAny_newObj_type (hd:=by size_fits) (AA (m:=firstArgMember _ _) ?_));refine wpAny_of_eq (a:=Value.none) (by first | rfl | (simp only[firstArgMember]; rfl)) (wpAny_newObj_type (hd:=by size_fits) ?_);simp only[raiseNew];have h0:A.in1.handled=none:=hh;apply AA;apply wpAny_handled;rw[h0];exact AA (AB (wpAny_throw ⟨_,⟨_,ζL _ rfl,rfl⟩,rfl,k _ (((show Heap.ExtBut I h h from λ_ _ _ z=>z).push _).push _)⟩))
theorem endI{first:Value}{slot i n ep:Nat}{o:Obj}{es:Array (Int×Value)}{t:SetTable}{Q:Option Value→Shared→Prop}(hh:A.handled=none)(hI:s.heap.get? I=some (ItO (.int slot 0) i a n ep))
  (ho:s.heap.get? a=some o) (hd:o.data=.set es ep t) (hf:t.fits es.size=true) (hn:es.size=n)
  (hN:∀(A:Around) (E:AN) (R:Option (Value×Nat)→Shared→Prop),R none s→wpAny (model prog w) A (setNext a slot i ep) R E s)
  (hQ:∀h',Heap.ExtBut I s.heap h'→Q none { s with heap:=h' }):wpAny (model prog w) A (pyNext (.ref I)) Q E s:=by
 have hT:s.TypeIs (.ref I) "set_iterator" := ⟨_,hI,rfl⟩
 unfold pyNext;refine AA (wpAny_attempt (wpAny_callSpecial?_slot (name:=Str.ofString "__next__") hT yr (wpAny_call_entry yr hT xZ ?_ (wO _))));unfold Builtin.«set_iterator.__next__»;refine AA (AB ?_);refine AA (wpAny_fieldsOf hI rfl ?_);refine AA (wpAny_setEntries_of ho hd hf ?_);rw[if_neg (by rw[hn]; simp)];dsimp only;refine AA (m:=setNext a _ _ _) ?_;rw[ζG,ζG,ζG];refine hN _ _ _ ?_;dsimp only;refine AA (wpAny_setField hI rfl (ξW (ξW (ξV _))) ?_);refine wpAny_mono (zcQ (I:=I) (s:=s) hh λh' u=>hQ h' λc o' n' z=>u c o' n' ((Heap.SameBut.update ..).extBut c o' n' z)) (λ_ _ z=>?_) λe s' z=>?_
 ·obtain⟨_,_,z⟩:=z; exact z.elim
 ·obtain⟨T,x1,rfl,x2⟩:=z;exact AA (wpAny_isInstance (T := "StopIteration") (b:=true) x1 isSubtype_stop (AB x2))
theorem zdW{i ep:Nat}{o:Obj}{es:Array (Int×Value)}{t:SetTable}{R:Option (Value×Nat)→Shared→Prop}(hb:w.params.followText "set-order" = true)
  (ho:s.heap.get? a=some o) (hd:o.data=.set es ep t) (hf:t.fits es.size=true)
  (k:R (((pickOrder (w.params.setOrder a ep) es).toList.map (·.2))[i]?.map λx=>(x,0)) s):wpAny (model prog w) A (setNext a 0 i ep) R E s:=by
 unfold setNext;refine AA (wpAny_setState_of ho hd hf ?_);dsimp only;unfold setsByText;refine AA (AA (wpAny_askSetting (AB ?_)));rw[show(model prog w).w.params.followText "set-order" = true from hb];simp only[↓reduceIte];rw[if_neg (by simp)];unfold setWalk;refine AA (AA (wpAny_setState_of ho hd hf ?_));dsimp only;unfold setsByText;refine AA (AA (wpAny_askSetting (AB ?_)));rw[show(model prog w).w.params.followText "set-order" = true from hb];simp only[↓reduceIte];refine AA (wpAny_askSetting (AB (AB ?_)));rw[ζo,Option.map_map,ξg]at k;exact k
def slP(t:SetTable):Nat→Nat
 | 0=>0
 | j + 1=>t.place.getD j 0 + 1
theorem U0{t:SetTable}{c:Bool}(ht:TOk c t){i:Nat}(hi:i≤t.place.size):SetTable.below t.place (slP t i)=i:=by
 cases i with
 | zero=>exact VP ht.rise
 | succ j =>
  have:t.place.getD j 0=t.place[j]:=by simp[show j < t.place.size by omega]
  show SetTable.below t.place (t.place.getD j 0 + 1)=_;rw[this];exact VQ ht.rise j ⋯
theorem zck{i ep:Nat}{o:Obj}{es:Array (Int×Value)}{t:SetTable}{R:Option (Value×Nat)→Shared→Prop}(hb:w.params.followText "set-order" = false)
  (ho:s.heap.get? a=some o) (hd:o.data=.set es ep t) (hf:t.fits es.size=true) (ht:TOk true t) (hp:(!t.plain && decide (es.size > 1))=false) (hi:i≤es.size)
  (k:R ((es.toList.map (·.2))[i]?.map λx=>(x,slP t (i + 1))) s):wpAny (model prog w) A (setNext a (slP t i) i ep) R E s:=by
 have hz:t.place.size=es.size:=by
  simp only[SetTable.fits,Bool.and_eq_true,beq_iff_eq]at hf;exact hf.1
 unfold setNext;refine AA (wpAny_setState_of ho hd hf ?_);dsimp only;unfold setsByText;refine AA (AA (wpAny_askSetting (AB ?_)));rw[show(model prog w).w.params.followText "set-order" = false from hb];simp only[Bool.false_eq_true,↓reduceIte];split
 ·rename_i z;exact absurd (hp.symm.trans z) #[2]
 refine AA (wpAny_of_eq (a:=()) ?_ ?_)
 ·show(if(!t.led && !es.isEmpty)=true then _ else _)=_;rw[ht.led];rfl
 rw[U0 ht ⋯];refine AB ?_;rw[ζo,ξg]at k;by_cases hl:i < es.size
 ·rw[ξe hl]at k ⊢;rw[ξe ⋯];have:slP t (i + 1)=t.place[i]'⋯ + 1:=by
   show t.place.getD i 0 + 1=_;simp[show i < t.place.size by omega]
  rw[this]at k;exact k
 ·rw[Array.getElem?_eq_none ⋯]at k ⊢;exact k
theorem T9{ep:Nat}{o:Obj}{es:Array (Int×Value)}{t:SetTable}{us:AK}{sl:Nat→Nat}(hd:o.data=.set es ep t)(hf:t.fits es.size=true)(hu:us.length=es.size)(hne:I≠a)
  (hN:∀(i:Nat) (s:Shared) (A:Around) (E:AN) (R:Option (Value×Nat)→Shared→Prop),s.heap.get? a=some o→i≤es.size→R (us[i]?.map λx=>(x,sl (i + 1))) s→wpAny (model prog w) A (setNext a (sl i) i ep) R E s)
  (hh:A.handled=none):WalksS prog w A I [I,a] [I] (λx y=>y=x) es.size (λi v=>us[i]?=some v) (λi s=>s.heap.get? I=some (ItO (.int (sl i) 0) i a es.size ep)∧s.heap.get? a=some o) where
 sub:=λc hc=>by rw[ζi.mp hc]; exact .head _
 grefl:=λ_=>rfl
 gtrans:=λ_ _ _ x y=>y.trans x
 frame:=λi s h' tk st _ hk=>⟨hk I (.head _) _ st.1,hk a (.tail _ (.head _)) _ st.2⟩
 item:=λi s Q E hi st hQ=>by
  refine zeM (first:=.none) (x:=us[i]'⋯) (nx:=sl (i + 1)) st.1 st.2 hd hf rfl (λA E R r=>hN i s A E R st.2 ⋯ (by rw[ζe ⋯]; exact r)) λh' g u=>?_;refine hQ _ _ (ζe ⋯) ⟨g,u.extBut a _ (Ne.symm hne) st.2⟩ ⟨λc o' hc z=>u.extBut c o' (λq=>hc (by rw[q]; exact .head _)) z,rfl,rfl,rfl,ζl _⟩
 done:=λs Q E st hQ=>by
  refine endI (first:=.none) hh st.1 st.2 hd hf rfl (λA E R r=>hN es.size s A E R st.2 (ζl _) (by rw[ζ7 ⋯]; exact r)) λh' u=>?_;exact hQ _ ⟨λc o' hc z=>u c o' (λq=>hc (by rw[q]; exact .head _)) z,rfl,rfl,rfl,ζl _⟩
 self:=λi s Q E st hQ=>by
  have hT:s.TypeIs (.ref I) "set_iterator" := ⟨_,st.1,rfl⟩
  refine wpAny_pyIter_slot hT wN (wpAny_call_entry wN hT uA ?_ (tN _));show wpAny _ _ (ret (.ref I)) _ _ s;exact AB ⟨_,rfl, "set_iterator", _,hT,yr.lookup,hQ⟩
end
section
variable {prog:Program}{w:World}{A:Around}{E:AN}{s:Shared}{b:Bool}{a I T:Addr}{l:AE}
theorem zeN{i n ep p:Nat}{x:Value}{oT o:Obj}{xs:Array Value}{m:Nat}{es:Array (Int×Value)}{t:SetTable}{Q:Option Value→Shared→Prop}(hI:s.heap.get? I=some (ItO (.ref T) i a n ep))
  (hT:s.heap.get? T=some oT) (hx:oT.data=.seq xs m) (hp:xs[i]?=some (.int p 0)) (he:(es.toList.map (·.2))[p]?=some x)
  (ho:s.heap.get? a=some o) (hd:o.data=.set es ep t) (hf:t.fits es.size=true) (hn:es.size=n)
  (hQ:∀h',h'.get? I=some (ItO (.ref T) (i + 1) a n ep)→Heap.SameBut I s.heap h'→Q (some x) { s with heap:=h' }):wpAny (model prog w) A (pyNext (.ref I)) Q E s:=by
 have hT':s.TypeIs (.ref I) "set_iterator" := ⟨_,hI,rfl⟩
 unfold pyNext;refine AA (wpAny_attempt (wpAny_callSpecial?_slot (name:=Str.ofString "__next__") hT' yr (wpAny_call_entry yr hT' xZ ?_ (wO _))));unfold Builtin.«set_iterator.__next__»;refine AA (AB ?_);refine AA (wpAny_fieldsOf hI rfl ?_);refine AA (wpAny_setEntries_of ho hd hf ?_);rw[if_neg (by rw[hn]; simp)];dsimp only;refine AA (wpAny_seqItems hT hx ?_);dsimp only;rw[ζG,hp];dsimp only;rw[ζG,ζG];refine AA ?_;unfold setNextDrawn;refine AA (wpAny_setState_of ho hd hf ?_);dsimp only;rw[if_neg (by simp)];rw[ζo,ξg]at he;obtain⟨e,q1,q2⟩:=ξp.mp he;rw[q1];obtain⟨e1,e2⟩:=e;have q2:e2=x:=q2;subst q2;refine AB ?_;have g2:(s.heap.update I (Obj.mapFields (·.setIfInBounds 1 (rawInt ((i:Int) + 1))))).get? I=some (ItO (.ref T) (i + 1) a n ep):=ξm _ hI rfl;refine AA (wpAny_setField hI rfl (ξW (ξV _)) ?_);exact AB ⟨_,rfl,AB (hQ _ g2 (Heap.SameBut.update ..))⟩
theorem endD{i n ep:Nat}{oT o:Obj}{xs:Array Value}{m:Nat}{es:Array (Int×Value)}{t:SetTable}{Q:Option Value→Shared→Prop}(hh:A.handled=none)(hI:s.heap.get? I=some (ItO (.ref T) i a n ep))
  (hT:s.heap.get? T=some oT) (hx:oT.data=.seq xs m) (hp:xs[i]?=none)
  (ho:s.heap.get? a=some o) (hd:o.data=.set es ep t) (hf:t.fits es.size=true) (hn:es.size=n)
  (hQ:∀h',Heap.ExtBut I s.heap h'→Q none { s with heap:=h' }):wpAny (model prog w) A (pyNext (.ref I)) Q E s:=by
 have hT':s.TypeIs (.ref I) "set_iterator" := ⟨_,hI,rfl⟩
 unfold pyNext;refine AA (wpAny_attempt (wpAny_callSpecial?_slot (name:=Str.ofString "__next__") hT' yr (wpAny_call_entry yr hT' xZ ?_ (wO _))));unfold Builtin.«set_iterator.__next__»;refine AA (AB ?_);refine AA (wpAny_fieldsOf hI rfl ?_);refine AA (wpAny_setEntries_of ho hd hf ?_);rw[if_neg (by rw[hn]; simp)];dsimp only;refine AA (wpAny_seqItems hT hx ?_);dsimp only;rw[ζG,hp];dsimp only;have g1:(s.heap.update I (Obj.mapFields (·.setIfInBounds 0 (rawInt 0)))).get? I=some (ItO (.int 0 0) i a n ep):=ξm _ hI rfl;refine AA (wpAny_setField hI rfl (ξV _) ?_);refine AA (wpAny_setField (s:={ s with heap:=_ }) g1 rfl (ξW (ξW (ξV _))) ?_);refine wpAny_mono (zcQ (I:=I) (s:=s) hh λh' u=>hQ h' λc o' n' z=>u c o' n' ((Heap.SameBut.update ..).extBut c o' n' ((Heap.SameBut.update ..).extBut c o' n' z))) (λ_ _ z=>?_) λe s' z=>?_
 ·obtain⟨_,_,z⟩:=z; exact z.elim
 ·obtain⟨T,x1,rfl,x2⟩:=z;exact AA (wpAny_isInstance (T := "StopIteration") (b:=true) x1 isSubtype_stop (AB x2))
theorem zet{ep m:Nat}{o oT:Obj}{es:Array (Int×Value)}{t:SetTable}{us:AK}{js:AF}(hd:o.data=.set es ep t)(hf:t.fits es.size=true)(hne:I≠a)(hnT:I≠T)
  (hx:oT.data=.seq ((js.map λ(j:Nat)=>rawInt j).toArray) m) (hjs:js.length=es.size) (hus:us=js.filterMap λj=>(es.toList.map (·.2))[j]?) (hlt:∀j∈js,j < es.size)
  (hh:A.handled=none):WalksS prog w A I [I,a,T] [I] (λx y=>y=x) es.size (λi v=>us[i]?=some v) (λi s=>s.heap.get? I=some (ItO (.ref T) i a es.size ep)∧s.heap.get? a=some o∧s.heap.get? T=some oT) where
 sub:=λc hc=>by rw[ζi.mp hc]; exact .head _
 grefl:=λ_=>rfl
 gtrans:=λ_ _ _ x y=>y.trans x
 frame:=λi s h' tk st _ hk=>⟨hk I (.head _) _ st.1,hk a (.tail _ (.head _)) _ st.2.1,hk T (.tail _ (.tail _ (.head _))) _ st.2.2⟩
 item:=λi s Q E hi st hQ=>by
  have hj:i < js.length:=by omega
  have hz:js[i] < es.size:=hlt _ (ζ9 hj);have hz':js[i] < (es.toList.map (·.2)).length:=by rw[ζa,ζP]; exact hz
  have hm:us=js.map λj=>(es.toList.map (·.2)).getD j .none:=by
   rw[hus];have:∀(js:AF),(∀j∈js,j < es.size)→(js.filterMap λj=>(es.toList.map (·.2))[j]?)=js.map λj=>(es.toList.map (·.2)).getD j .none:=by
    intro js;induction js with
    | nil=>intro _; rfl
    | cons j r ih =>
     intro h;have h1:j < (es.toList.map (·.2)).length:=by rw[ζa,ζP]; exact h j (.head _)
     rw[List.filterMap_cons_some (b:=(es.toList.map (·.2))[j]) (ζe h1),ζF,ih λk hk=>h k (.tail _ hk),ζb,ζe h1];rfl
   exact this js hlt
  have hu:us[i]?=some ((es.toList.map (·.2))[js[i]]):=by
   rw[hm,ζo,ζe hj];show some ((es.toList.map (·.2)).getD js[i] .none)=_;rw[ζb,ζe hz'];rfl
  refine zeN (p:=js[i]) (x:=(es.toList.map (·.2))[js[i]]) st.1 st.2.2 hx ?_ (ζe hz') st.2.1 hd hf rfl λh' g u=>?_
  ·simp[List.getElem?_map,List.getElem?_eq_getElem hj,rawInt]
  ·exact hQ _ _ hu ⟨g,u.extBut a _ (Ne.symm hne) st.2.1,u.extBut T _ (Ne.symm hnT) st.2.2⟩ ⟨λc o' hc z=>u.extBut c o' (λq=>hc (by rw[q]; exact .head _)) z,rfl,rfl,rfl,ζl _⟩
 done:=λs Q E st hQ=>by
  refine endD hh st.1 st.2.2 hx ?_ st.2.1 hd hf rfl λh' u=>?_
  ·simp[hjs]
  ·exact hQ _ ⟨λc o' hc z=>u c o' (λq=>hc (by rw[q]; exact .head _)) z,rfl,rfl,rfl,ζl _⟩
 self:=λi s Q E st hQ=>by
  have hT:s.TypeIs (.ref I) "set_iterator" := ⟨_,st.1,rfl⟩
  refine wpAny_pyIter_slot hT wN (wpAny_call_entry wN hT uA ?_ (tN _));show wpAny _ _ (ret (.ref I)) _ _ s;exact AB ⟨_,rfl, "set_iterator", _,hT,yr.lookup,hQ⟩
theorem Yx{us vs:AK}(p:us.Perm vs):∀{ns:AE},IntsAre vs ns→∃ms,IntsAre us ms∧ms.Perm ns:=by
 have key:∀{vs:AK} {ns:AE},IntsAre vs ns→(∀v∈vs,∃k t,v=.int k t)∧ns=vs.map λv=>kOf (0,v):=λ{vs ns} h=>by
  induction h with
  | nil=>exact⟨λ_ z=>(nomatch z),rfl⟩
  | cons n t _ ih =>
   refine⟨λv hv=>?_,?_⟩
   ·rcases ζw.mp hv with rfl | hv
    ·exact⟨n,t,rfl⟩
    ·exact ih.1 v hv
   ·rw[ζF,←ih.2]; rfl
 have back:∀us:AK,(∀v∈us,∃k t,v=.int k t)→IntsAre us (us.map λv=>kOf (0,v)):=λus=>by
  induction us with
  | nil=>exact λ_=>.nil
  | cons v r ih =>
   intro h;obtain⟨k,t,rfl⟩:=h v (.head _);exact .cons k t (ih λx hx=>h x (.tail _ hx))
 intro ns h;obtain⟨h1,rfl⟩:=key h;exact⟨_,back us λv hv=>h1 v (p.mem_iff.mp hv),p.map _⟩
theorem zeQ{Q:AN}(hb:w.params.followText "set-order" = b)(hS:SetI (!b) a l s.heap)
  (k:∀(us:AK) (ns:AE) (I:Addr) (fp:List Addr) (St:Nat→Shared→Prop) (h':Heap) (d:Drawn),IntsAre us ns→ns.Perm l→us.length < scanBound→(∀c o,s.heap.get? c=some o→h'.get? c=some o)→s.heap.objs.size≤I→(∀c∈fp,c=a∨s.heap.objs.size≤c)→
   (∀A:Around,A.handled=none→WalksS prog w A I fp [I] (λx y=>y=x) us.length (λi v=>us[i]?=some v) St)→St 0 { s with heap:=h',drawn:=d }→Q (.ref I) { s with heap:=h',drawn:=d }) :
  wpAny (model prog w) A (pyIter (.ref a)) Q E s:=by
 obtain⟨o,es,ep,t,ho,hex,hd,hE,hp,hz,hf,ht⟩:=hS;have hT:s.TypeIs (.ref a) "set" := ⟨o,ho,hex.1⟩
 have ha:a < s.heap.objs.size:=ζq ho;have hi0:IntsAre (es.toList.map (·.2)) (es.toList.map kOf):=IsE.ints hE;refine wpAny_pyIter_slot hT F.slot_set_iter (wpAny_call_entry F.slot_set_iter hT Vh ?_ (F.args_set_iter_1 _));unfold Builtin.«frozenset.__iter__» Builtin.Frozenset.slot0;refine AA (AA (AB ?_));unfold Builtin.Frozenset.addrOf Builtin.Frozenset.sizeOf;refine AB ?_;refine AA (AA (wpAny_setEntries_of ho hd hf (AB ?_)));unfold setDrawn;refine AA (AA (wpAny_setState_of ho hd hf ?_));dsimp only;unfold setsByText;refine AA (AA (wpAny_askSetting (AB (AB ?_))))
 have fin:∀(first:Value) (hp1:Heap) (d:Drawn) (o1:hp1.get? a=some o),(∀v s',s'={ s with heap:=hp1.push (ItO first 0 a es.size ep),drawn:=d }→v=.ref hp1.objs.size→Q v s')→
   wpAny (model prog w) A.in1 (do
    let __do_lift←setEpoch a;let __do_lift←newFields "set_iterator" [first,rawInt 0,Value.ref a,rawInt ↑es.size,rawInt ↑__do_lift]
    ret __do_lift) (λfin s'=>∃v,fin=Fin.done (Flow.ret v)∧∃T' r,s'.TypeIs v T'∧typeLookup (Value.type T') (Str.ofString "__next__")=pure (some r)∧Q v s') E { s with heap:=hp1,drawn:=d }:=λfirst hp1 d o1 q=>by
  refine AA (wpAny_setEpoch_of o1 hd hf ?_);refine AA (wpAny_newObj_type (hd:=by size_fits) (AB ⟨_,rfl, "set_iterator", _,⟨_,ζL _ rfl,rfl⟩,yr.lookup,q _ _ rfl rfl⟩))
 cases b with
 | true =>
  rw[show(model prog w).w.params.followText "set-order" = true from hb];simp only[Bool.not_true,Bool.false_and,Bool.false_eq_true,↓reduceIte];refine AA (AB (fin (rawInt 0) s.heap s.drawn ho ?_));rintro _ _ rfl rfl;have pm:=xT (w.params.setOrder a ep) es;obtain⟨ms,im,pp⟩:=Yx (pm.map (·.2)) hi0;have hu:((pickOrder (w.params.setOrder a ep) es).toList.map (·.2)).length=es.size:=by rw[(pm.map _).length_eq,ζa,ζP]
  refine k _ ms s.heap.objs.size [s.heap.objs.size,a] (λi s'=>s'.heap.get? s.heap.objs.size=some (ItO (.int ((λ_=>0) i:Nat) 0) i a es.size ep)∧s'.heap.get? a=some o) _ s.drawn im (pp.trans hp) (by rw[hu]; exact hz)
   (λc o' z=>ζj _ z) (ζl _) (λc hc=>?_) (λA' h'=>by rw[hu]; exact T9 (sl:=λ_=>0) hd hf hu (ξA ha) (λi s' A'' E' R z _ r=>zdW hb z hd hf r) h') ⟨ζL _ rfl,ζj _ ho⟩
  rcases ζw.mp hc with rfl | hc
  ·exact .inr (ζl _)
  ·exact .inl (ζi.mp hc)
 | false =>
  rw[show(model prog w).w.params.followText "set-order" = false from hb];simp only[Bool.not_false,Bool.true_and];split
  ·rename_i hdr;refine AA (zc6 es.size _ _ ζz λjs d hj=>?_);refine AA (wpAny_newTuple ?_ (by rw[ζa,hj.length_eq,ζz]; exact fits_of_scanBound hz));refine fin _ _ d (ζj _ ho) ?_;rintro _ _ rfl rfl;have hlt:∀j∈js,j < es.size:=λj z=>ζE.mp (hj.mem_iff.mp z);have pm:(js.filterMap λj=>(es.toList.map (·.2))[j]?).Perm (es.toList.map (·.2)):=by
    refine(hj.filterMap _).trans ?_;have q:=filterMap_getElem?_range (es.toList.map (·.2)).toArray;simp only[List.size_toArray,List.length_map,Array.length_toList,List.getElem?_toArray]at q;rw[q]
   obtain⟨ms,im,pp⟩:=Yx pm hi0;have hu:(js.filterMap λj=>(es.toList.map (·.2))[j]?).length=es.size:=by rw[pm.length_eq,ζa,ζP]
   have z1:(s.heap.push { cls:=.type "tuple", data:=.seq (js.map λ(i:Nat)=>rawInt i).toArray }).objs.size=s.heap.objs.size + 1:=Heap.size_push _ _
   refine k _ ms _ [_,a,s.heap.objs.size] (λi s'=>s'.heap.get? _=some (ItO (.ref s.heap.objs.size) i a es.size ep)∧s'.heap.get? a=some o∧s'.heap.get? s.heap.objs.size=some { cls:=.type "tuple", data:=.seq (js.map λ(i:Nat)=>rawInt i).toArray }) _ d im (pp.trans hp) (by rw[hu]; exact hz)
    (λc o' z=>ζj _ (ζj _ z)) (by rw[z1]; exact Nat.le_succ _) (λc hc=>?_) (λA' h'=>by rw[hu]; exact zet hd hf (by rw[z1]; exact ξA (Nat.lt_succ_of_lt ha)) (by rw[z1]; exact Nat.succ_ne_self _) rfl (by rw[hj.length_eq,ζz]) rfl hlt h')
    ⟨ζL _ rfl,ζj _ (ζj _ ho),ζj _ (ζL _ rfl)⟩
   rcases ζw.mp hc with rfl | hc
   ·exact .inr (by rw[z1]; omega)
   ·rcases ζw.mp hc with rfl | hc
    ·exact .inl rfl
    ·exact .inr (by rw[ζi.mp hc]; exact ζl _)
  ·rename_i hdr;have hdr:(!t.plain && decide (es.size > 1))=false:=by
    cases q:(!t.plain && decide (es.size > 1))with
    | false=>rfl
    | true=>exact absurd q hdr
   refine AA (AB (fin (rawInt 0) s.heap s.drawn ho ?_));rintro _ _ rfl rfl;have hu:(es.toList.map (·.2)).length=es.size:=by rw[ζa,ζP]
   refine k _ _ s.heap.objs.size [s.heap.objs.size,a] (λi s'=>s'.heap.get? s.heap.objs.size=some (ItO (.int (slP t i) 0) i a es.size ep)∧s'.heap.get? a=some o) _ s.drawn hi0 hp (by rw[hu]; exact hz)
    (λc o' z=>ζj _ z) (ζl _) (λc hc=>?_) (λA' h'=>by rw[hu]; exact T9 (sl:=slP t) hd hf hu (ξA ha) (λi s' A'' E' R z hi r=>zck hb z hd hf ht hdr hi r) h') ⟨ζL _ rfl,ζj _ ho⟩
   rcases ζw.mp hc with rfl | hc
   ·exact .inr (ζl _)
   ·exact .inl (ζi.mp hc)
end
theorem YZ:typeLookup (.type "set") "__len__" = pure (some (.builtin "set.__len__")):=by
 rw[typeLookup_type,builtinLookup_eq_fast]
 kernel_rfl
section
variable {prog:Program}{w:World}{A:Around}{E:AN}{s:Shared}{b:Bool}{a I T:Addr}{l:AE}
theorem wiT{α:Type}{c:Prop}[Decidable c]{x y:Sem α}{Q:α→Shared→Prop}(hc:c)(h:wpAny (model prog w) A x Q E s):wpAny (model prog w) A (if c then x else y) Q E s:=by
 rw[if_pos hc];exact h
theorem zba{Q:AK→Shared→Prop}(hh:A.handled=none)(hb:w.params.followText "set-order" = b)(hS:SetI (!b) a l s.heap)
  (k:∀(us:AK) (ns:AE) (h':Heap) (d:Drawn) (tk:Nat),IntsAre us ns→ns.Perm l→(∀c o,s.heap.get? c=some o→h'.get? c=some o)→s.heap.objs.size≤h'.objs.size→Q us { s with heap:=h',drawn:=d,toks:=tk }) :
  wpAny (model prog w) A (collect (.ref a)) Q E s:=by
 obtain⟨oa,_,_,_,hoa,hxa,_⟩:=id hS;have ha:a < s.heap.objs.size:=ζq hoa;unfold collect;refine AA (wpAny_runValue (codeAny_builtin F.entry_proto_collect ?_));rw[Around.under_plainId F.plain_proto_collect _];show wpAny _ A.in1 (newList [] >>= λl=>again (.builtin "list.__iadd__" ⟨[l,.ref a],[]⟩)) _ _ s;refine AA (wpAny_newObj_type (AB ⟨plainId_quiet F.plain_list_iadd _,codeAny_builtin F.entry_list_iadd ?_⟩));rw[Around.under_plainId F.plain_list_iadd _];have hL:(s.heap.push { cls:=.type "list", data:=.seq ([]:AK).toArray }).get? s.heap.objs.size=some { cls:=.type "list", data:=.seq ([]:AK).toArray }:=ζL _ rfl;have z1:(s.heap.push { cls:=.type "list", data:=.seq ([]:AK).toArray }).objs.size=s.heap.objs.size + 1:=Heap.size_push _ _;have hS1:SetI (!b) a l (s.heap.push { cls:=.type "list", data:=.seq ([]:AK).toArray }):=hS.at λo z=>ζj _ z;have hT1:Shared.TypeIs { s with heap:=s.heap.push { cls:=.type "list", data:=.seq ([]:AK).toArray } } (.ref a) "set" := ⟨oa,ζj _ hoa,hxa.1⟩
 show wpAny _ A.in1 (Builtin.List.listExtendWith (.ref s.heap.objs.size) (.ref a) (.ref s.heap.objs.size)) _ _ _;unfold Builtin.List.listExtendWith;refine AA (wpAny_typeOf hT1 ?_);have h1:Builtin.List.listSameRef (.ref s.heap.objs.size) (.ref a)=false:=by simp[Builtin.List.listSameRef,Nat.ne_of_gt ha]
 rw[if_neg (by rw[h1]; decide)];refine AA (zeQ hb hS1 λus ns I fp St h2 d hi hp hz hk hIz hfp W st=>?_);refine AA (wpAny_holding ?_);unfold Builtin.List.listLengthHint;have hT2:Shared.TypeIs { s with heap:=h2,drawn:=d } (.ref a) "set" := ⟨oa,hk _ _ (ζj _ hoa),hxa.1⟩
 refine AA (wpAny_specialOf hT2 YZ ?_);dsimp only;rw[show splitId "set.__len__" = some ("set","__len__")from by decide +kernel];dsimp only;refine AA (wpAny_isInstance (b:=true) hT2 (by rw[isSubtype_type]; kernel_rfl) ?_);rw[if_neg #[2]];refine wiT (by decide +kernel) ?_;refine AA (wpAny_typeOf hT2 (AB ?_));refine wiT (by decide +kernel) ?_;refine AA (wpAny_rule ?_);have hLf:s.heap.objs.size∉fp:=λz=>by
  rcases hfp _ z with q | q
  ·exact ξA ha q
  ·have q:(s.heap.push { cls:=.type "list", data:=.seq ([]:AK).toArray }).objs.size≤s.heap.objs.size:=q;rw[z1]at q;exact Nat.not_succ_le_self _ q
 have hS2:=hk _ _ hL;refine AA ?_;show wpAny _ A.in1 (updateSeq s.heap.objs.size (·.push .none) >>= λ_=>updateSeq s.heap.objs.size (·.pop)) _ _ _;refine AA (wpAny_updateSeq (s:={ s with heap:=h2,drawn:=d }) hS2 rfl ?_);have hS3:=ξm (Obj.mapSeq (·.push Value.none)) hS2 rfl;refine wpAny_updateSeq (s:={ s with heap:=_,drawn:=d }) hS3 rfl ?_;have hS4:=ξm (Obj.mapSeq (·.pop)) hS3 rfl
 have oth:∀c o,c≠s.heap.objs.size→h2.get? c=some o→((h2.update s.heap.objs.size (Obj.mapSeq (·.push Value.none))).update s.heap.objs.size (Obj.mapSeq (·.pop))).get? c=some o :=
  λc o n z=>(Heap.get?_update_other _ _ (Ne.symm n)).trans ((Heap.get?_update_other _ _ (Ne.symm n)).trans z)
 have hA:A.in1.handled=none:=hh;have W1:=W A.in1 hA
 refine AB ⟨plainId_quiet F.plain_extend_loop _,codeAny_extend_loopS W1 (fits_of_scanBound hz) _ hLf _ us.length 0 _ _ _ rfl (ξj _)
  (W1.frame 0 { s with heap:=h2,drawn:=d } _ s.toks st (ζl _) λc hc o z=>oth c o (λq=>hLf (q ▸ hc)) z) hS4 (ItemsOf.nil _) λs' acc c' hm hS' ha'=>?_⟩
 show wpAny _ A (load s.heap.objs.size >>= _) _ _ s';refine AA (wpAny_load hS' (AB ?_));have e:acc.toList=us:=by
  refine List.ext_getElem? λi=>?_;rw[ξg];by_cases hi':i < acc.size
  ·rw[ξe hi'];exact(ha'.2 i _ (ξe hi')).symm
  ·rw[Array.getElem?_eq_none ⋯,ζ7 (by have:=ha'.1; omega)]
 rw[e];obtain⟨hx,gx,dx,tx,ox⟩:=s';have eg:gx=s.gens:=hm.gens;have ed:dx=d:=hm.drawn;have eo:ox=s.os:=hm.os;subst eg; subst ed; subst eo;refine k us ns hx dx tx hi hp (λc o z=>?_) (Nat.le_of_lt (ζq hS'));have c1:c < s.heap.objs.size:=ζq z;refine hm.heap c o (λq=>?_) (oth c o (ζQ c1) (hk _ _ (ζj _ z)));rcases ζw.mp q with q | q
 ·exact ζQ c1 q
 ·have q:=ζi.mp q;subst q;have y:(s.heap.push { cls:=.type "list", data:=.seq ([]:AK).toArray }).objs.size≤c:=hIz;rw[z1]at y;exact Nat.not_lt.mpr (Nat.le_of_succ_le y) c1
theorem zbx{Q:AN}(hh:A.handled=none)(hb:w.params.followText "set-order" = b)(hS:SetI (!b) a l s.heap)(h64:l.length < 64)
  (k:∀(out:Array Value) (ns:AE) (c:Addr) (e:Nat) (h':Heap) (d:Drawn) (tk:Nat),IntsAre out.toList ns→ns.Perm l→ns.Pairwise (·≤·)→(∀c o,s.heap.get? c=some o→h'.get? c=some o)→s.heap.objs.size≤c→h'.get? c=some (seqObj "list" out e)→
   Q (.ref c) { s with heap:=h',drawn:=d,toks:=tk }):wpAny (model prog w) A (call (.builtin "sorted") [.ref a]) Q E s:=by
 refine Calls.call_function_entry kind_sorted plain_sorted entry_sorted (args_sorted1 _) ?_;unfold Builtin.«sorted»;refine AA (m:=checkCount "sorted" 1 1 _) (AB ?_);refine AA (zba (A:=A.in1) hh hb hS λus ns h2 d tk hi hp hk le=>?_);have hz:us.length=l.length:=by rw[IntsAre.length hi,hp.length_eq]
 refine AA (wpAny_newList ?_ (by have:=fits_of_scanBound (n:=us.length) (by unfold scanBound; omega); exact this));have hL:(h2.push (seqObj "list" us.toArray 0)).get? h2.objs.size=some (seqObj "list" us.toArray 0):=ζL _ rfl;have hsz:(h2.push (seqObj "list" us.toArray 0)).objs.size=h2.objs.size + 1:=Heap.size_push _ _;refine AA (wpAny_holding (wpAny_call_entry (s:={ s with heap:=h2.push (seqObj "list" us.toArray 0),drawn:=d,toks:=tk }) slot_list_sort ⟨_,hL,rfl⟩ entry_list_sort (list_sort_tree hL hi ⋯ λout ns' a1 a2 a3=>⟨_,rfl,?_⟩) (args_list_sort _)));obtain⟨e,he⟩:=sortedHeap_at (out:=out) hL;refine AB ⟨_,rfl,k out ns' h2.objs.size e _ d tk a1 (a2.trans hp) a3 (λc o z=>?_) le he⟩;have z2:=hk c o z;rw[sortedHeap_old (ζQ (ζq z2)) (by rw[hsz]; exact Nat.lt_succ_of_lt (ζq z2))];exact ζj _ z2
theorem zbp{R:Result→Shared→Prop}{fp wr:List Addr}{G:Array GenState→Array GenState→Prop}{n:Nat}{P:Nat→Value→Prop}{St:Nat→Shared→Prop}(W:WalksS prog w A.in1 I fp wr G n P St)(S:Addr)(hSf:S∉fp)
  (val:Nat→Int) (hval:∀i v,P i v→∃t,v=.int (val i) t) (hz:n + 1 < scanBound) :
  ∀(k i:Nat) (s:Shared),n - i=k→i≤n→St i s→SetI b S (firstMet val i) s.heap→(∀s',Moved (S :: wr) G s s'→SetI b S (firstMet val n) s'.heap→R (.ok (.ret .none)) s')→
   codeAny (model prog w) A (.builtin "set.update.loop" ⟨[.ref S,.ref I],[]⟩) R s:=by
 have hSw:S∉wr:=λh=>hSf (W.sub _ h);have sb:∀c∈wr,c∈S :: wr:=λc=>ζk _;intro k;induction k with
 | zero =>
  intro i s hk hi st hS hR;obtain rfl:i=n:=by omega
  refine codeAny_builtin F.entry_set_update_loop ?_;rw[Around.under_plainId F.plain_set_update_loop _];show wpAny _ A.in1 (pyNext (.ref I) >>= _) _ _ s;refine AA (W.done s _ _ st λs' hm=>AB (hR s' (hm.mono sb) (hS.at λo z=>hm.heap S o hSw z)))
 | succ k ih =>
  intro i s hk hi st hS hR;have hlt:i < n:=by omega
  refine codeAny_builtin F.entry_set_update_loop ?_;rw[Around.under_plainId F.plain_set_update_loop _];show wpAny _ A.in1 (pyNext (.ref I) >>= _) _ _ s;refine AA (W.item i s _ _ hlt st λv s' hP st' hm=>?_);obtain⟨t,rfl⟩:=hval i v hP;have hS':SetI b S (firstMet val i) s'.heap:=hS.at λo z=>hm.heap S o hSw z;show wpAny _ A.in1 (holding [Value.int (val i) t] (setAdd S (.int (val i) t)) >>= _) _ _ s';refine AA (wpAny_holding ?_);unfold setAdd;refine wpAny_holding (AA ((intKind prog w).pyHash (k:=val i) (intKind_is _ _ _ _) ?_));have room:(firstMet val i).length + 1 < scanBound:=by have:=firstMet_length_le val i; omega
  refine addI (s:={ s' with toks:=s'.toks + 1 }) hS' room λr h' u hS2=>?_;rw[←firstMet_succ]at hS2;refine AB ⟨plainId_quiet F.plain_set_update_loop _,ih (i + 1) _ ⋯ hlt (W.frame _ s' _ _ st' (Nat.le_succ _) λc hc o z=>?_) hS2 λs'' hm'' hS''=>?_⟩
  ·rw[u.2 c λq:c=S=>hSf (by rw[←q]; exact hc)]; exact z
  ·refine hR s'' (Moved.trans W.gtrans ((hm.mono sb).then_heap (Nat.le_succ _) λc o hc z=>?_) hm'') hS'';rw[u.2 c λq:c=S=>hc (by rw[q]; exact .head _)]; exact z
theorem newI(x:Value){Q₁:AN}(hb:w.params.followText "set-order" = b)
  (h:Q₁ (.ref s.heap.objs.size) { s with heap:=s.heap.push { cls:=.type "set", dict:=none,data:=.set #[] 0 (.fresh 0 0 (!b)) } }) :
  codeAny (model prog w) A (.call (.builtin "set.__new__") ⟨[.type "set", x],[]⟩) (wants Q₁ E) s:=by
 refine codeAny_of_tree ?_;show wpAny _ A.in1 (do checkBuiltinCall "set.__new__" ⟨[.type "set", x],[]⟩; again (.builtin "set.__new__" ⟨[.type "set", x],[]⟩)) _ _ s;refine AA (wpAny_of_eq (F.newCall_set_1 x) (AB ⟨plainId_quiet F.plain_set_new _,codeAny_builtin F.entry_set_new ?_⟩));rw[Around.under_plainId F.plain_set_new _];unfold Builtin.«set.__new__» Builtin.Frozenset.newClass;have hsub:=sub_set_self;obtain⟨hp,g,d,tk,os⟩:=s;dsimp only
 wp_walk
 refine wpAny_askSetting (AB ?_);dsimp only;simp only[newObj];refine AA (wpAny_alloc (AB (AB ?_)));rw[show(model prog w).w.params.followText "set-order" = b from hb];exact h
set_option maxHeartbeats 3200000 in
theorem zdg{L:Addr}{items:Array Value}{ns:AE}{Q:AN}(hh:A.handled=none)(hb:w.params.followText "set-order" = b)(hl:s.heap.IsList L items)(hi:IntsAre items.toList ns)(hz:items.size + 1 < scanBound)
  (k:∀(h':Heap) (tk:Nat),SetI (!b) s.heap.objs.size (firstMet (λi=>ns.getD i 0) items.size) h'→(∀c o,s.heap.get? c=some o→h'.get? c=some o)→Q (.ref s.heap.objs.size) { s with heap:=h',toks:=tk }) :
  wpAny (model prog w) A (call (.type "set") [.ref L]) Q E s:=by
 obtain⟨c,tl,hmro⟩:=F.called_set.mro;have hmade:=F.called_set.made;have hsub:=F.called_set.sub;refine wpAny_call (codeAny_of_tree ?_);show wpAny _ _ (callAny (.type "set") _) _ _ _;refine AB ⟨Code.quiet_builtin _ (by decide +kernel),codeAny_builtin F.entry_type_call ?_⟩;rw[Around.under_plain (weight_type_call_type "set" [.ref L] []) rfl];have h1:=F.called_set.notType;have h2:=F.called_set.canCreate;have hct:=F.typeCall_set_1 (.ref L)
 repeat (any_goals (first | assumption | wp_step))
 refine codeAny_mono (newI (.ref L) (E:=E) hb (Q₁:=λx s₁=>x=.ref s.heap.objs.size∧s₁={ s with heap:=s.heap.push { cls:=.type "set", dict:=none,data:=.set #[] 0 (.fresh 0 0 (!b)) } }) ⟨rfl,rfl⟩) λr s₁ hr=>?_;cases r with
 | error e=>exact hr
 | ok fl =>
  cases fl with
  | ret obj =>
   obtain⟨rfl,rfl⟩:=hr;generalize ho0:({ cls:=.type "set", dict:=none,data:=.set #[] 0 (.fresh 0 0 (!b)) }:Obj)=o0;have hS:(s.heap.push o0).get? s.heap.objs.size=some o0:=ζL _ (by rw[←ho0]; rfl);have hS0:SetI (!b) s.heap.objs.size [] (s.heap.push o0):=⟨o0,#[],0,_,hS,by rw[←ho0]; exact⟨rfl,rfl,rfl⟩,by rw[←ho0],(λe z=>by simp at z),.nil,#[2],by rfl,TOk.fresh⟩
   have hT:Shared.TypeIs { s with heap:=s.heap.push o0 } (.ref s.heap.objs.size) "set" := ⟨_,hS,by rw[←ho0]⟩
   have hli:=F.called_set.init.lookup;have hbi:=F.called_set.init.bind (.ref s.heap.objs.size)
   repeat (any_goals (first | assumption | wp_step))
   refine codeAny_mono (codeAny_call_builtin (R:=wants (λr s₂=>r=.none∧∃h' tk,s₂={ s with heap:=h',toks:=tk }∧SetI (!b) s.heap.objs.size (firstMet (λi=>ns.getD i 0) items.size) h'∧
     (∀c o,s.heap.get? c=some o→h'.get? c=some o)) E) F.called_set.init.plain F.entry_set_init (check_set_init_1 hT ?_)) λr₂ s₂ hr₂=>?_
   ·obtain⟨ol,hol,hcl,nl,hdl⟩:=hl;obtain⟨oc,od,odt,osl⟩:=ol;simp only at hcl hdl;subst hcl; subst hdl;have hol':(s.heap.push o0).get? L=some { cls:=.type "list", dict:=od,data:=.seq items nl,slots:=osl }:=ζj _ hol;have e1:=F.sub_list_set;have e2:=F.sub_list_frozenset;have hne:(Value.type "list" == Value.type "dict")=false:=by decide
    have hl1:(s.heap.push o0).IsList L items:=⟨_,hol',rfl,nl,rfl⟩
    have hz0:(s.heap.push o0).objs.size=s.heap.objs.size + 1:=Heap.size_push _ _;subst ho0;unfold Builtin.«set.__init__» noKeywords Builtin.Frozenset.updateFrom;generalize hPI:pyIter=PI
    wp_walk
    subst hPI;refine wpAny_pyIter_list hl1 ?_;refine AA (wpAny_runValue ?_);have hlS:L < s.heap.objs.size:=ζq hol;have hh3:A.in1.in1.in1.handled=none:=hh;have hneI:L≠(s.heap.push { cls:=.type "set", dict:=none,data:=.set #[] 0 (.fresh 0 0 (!b)) }).objs.size:=by rw[hz0]; exact ζQ (Nat.lt_succ_of_lt hlS)
    have hSf:s.heap.objs.size∉[(s.heap.push { cls:=.type "set", dict:=none,data:=.set #[] 0 (.fresh 0 0 (!b)) }).objs.size,L]:=by
     rw[hz0];intro z;rcases ζw.mp z with z | z
     ·exact ζQ (Nat.lt_succ_self _) z
     ·exact ξA hlS (ζi.mp z)
    have hval:∀(i:Nat) (v:Value),items[i]?=some v→∃t,v=.int ((λi=>ns.getD i 0) i) t:=λi v hv=>IntsAre.int_at hi i v (by rw[ξg]; exact hv);refine zbp (b:=!b) ((Walks.list hh3 _ L hneI items).toS) s.heap.objs.size hSf (λi=>ns.getD i 0) hval hz (items.size - 0) 0 _ ⋯ (ξj _) ⟨⟨_,ζL _ rfl,rfl,rfl⟩,(hl1.push _)⟩ ?hS0 ?hR
    case hS0=>exact hS0.at λo z=>ζj _ z
    case hR =>
     intro s' hm hS';obtain⟨h',g',d',tk',os'⟩:=s';have eg:g'=s.gens:=hm.gens;have ed:d'=s.drawn:=hm.drawn;have eo:os'=s.os:=hm.os;subst eg; subst ed; subst eo;show wpAny _ _ _ _ _ _;refine AB ?_;show wpAny _ _ (ret Value.none) _ _ _;refine AB ⟨rfl,h',tk',rfl,hS',λc o z=>?_⟩;have hc:c < s.heap.objs.size:=ζq z;refine hm.heap c o (λq=>?_) (ζj _ (ζj _ z));rcases ζw.mp q with q | q
     ·exact ζQ hc q
     ·have q:=ζi.mp q;rw[hz0]at q;exact ζQ (Nat.lt_succ_of_lt hc) q
   ·cases r₂ with
    | error e=>exact hr₂
    | ok fl₂ =>
     cases fl₂ with
     | ret r =>
      obtain⟨rfl,h',tk,rfl,hS',hk'⟩:=hr₂
      repeat (any_goals (first | assumption | wp_step))
      exact k _ _ hS' hk'
     | _=>exact hr₂.elim
  | _=>exact hr.elim
end
section
variable {X:Cx}{K:ζc}{b:Bool}
def SetB(b:Bool)(a:Addr)(l:AE):HO:=.ext (SetI (!b) a l)
theorem Y1{P:Program}{w:World}{H:Hp}{h:Heap}{a:Addr}{l:AE}(x:SetI (!b) a l h):yA P w H h a (SetB b a l) :=
 ⟨x,(let⟨o,_,_,_,ho,_⟩:=x; ⟨o,ho⟩),λ_ _ x1 k=>x1.at k⟩
def Wu(K:ζc)(b:Bool):List V→Hp→VK→Prop:=λxs H Q=>∃p ns,xs=[.ref p]∧SqL K H p (ns.map V.int)∧ns.length < 4000∧∀l,H l=none→Q (.ref l) (upd H l (SetB b l (dd ns)))
theorem vT(hK:X.K=K)(hc:X.calm=true)(hb:X.w.params.followText "set-order" = b):yX X (.type "set") (Wu K b):=by
 subst hK;intro pins s σ H xs us Q I r h;obtain⟨p,ns,rfl,hq,hz,q⟩:=h;obtain⟨u,rfl,rx⟩:=vf r;cases rx;obtain⟨its,r',pl,hy⟩:=I.list hq;have hl:=r'.length;rw[ζa]at hl hy;refine zdg (ns:=ns) (I.ok.hd hc) hb pl.isList (by simpa using xU r') (by rw[List.size_toArray]; unfold scanBound; omega) λh' tk hS hk=>?_;have z2:its.toArray.size=ns.length:=by rw[ζS,hl]
 rw[z2,XL]at hS;exact⟨.ref s.heap.objs.size,_,I.laid (t':=tk) hk (ζl _) (Y1 hS),rfl,q _ (I.hok.fresh (ζl _))⟩
def Wt(b:Bool):List V→Hp→VK→Prop:=λxs H Q=>∃p l,xs=[.ref p]∧H p=some (SetB b p l)∧l.length < 64∧∀c,H c=none→Q (.ref c) (upd H c (.lst ((srt l).map V.int)))
theorem XV(hc:X.calm=true)(hb:X.w.params.followText "set-order" = b):yX X (.builtin "sorted") (Wt b):=by
 intro pins s σ H xs us Q I r h;obtain⟨p,l,rfl,hH,h64,q⟩:=h;obtain⟨u,rfl,rx⟩:=vf r;cases rx;have hS:SetI (!b) p l s.heap:=(I.hok p _ hH).1;refine zbx (I.ok.hd hc) hb hS h64 λout ns c e h' d tk a1 a2 a3 hk hle he=>?_;have e1:=Zm a2 a3;subst e1;have I1:Inv X pins σ (upd H c (.lst ((srt l).map V.int))) { s with heap:=h',toks:=tk }:=I.laid (t':=tk) hk hle (show yA X.prog X.w _ _ _ (.lst ((srt l).map V.int))from⟨by rw[List.length_map,(xQ l).length_eq,sizeLine_eq]; omega,out.toList,e,wK a1,by simpa using he⟩);have I2:=I1.call (ch:=[]) (h':=h') (g':=s.gens) (d':=d) (t':=tk) Un.refl I1.hok I1.bare (λ_ z=>nomatch z);exact⟨.ref c,_,I2,rfl,q _ (I.hok.fresh hle)⟩
def zcT(b:Bool):List V→Hp→VK→Prop:=λxs H Q=>∃p l,xs=[.ref p]∧H p=some (SetB b p l)∧Q (.int l.length) H
theorem TZ:yX X (.builtin "len") (zcT b):=by
 intro pins s σ H xs us Q I r h;obtain⟨p,l,rfl,hH,q⟩:=h;obtain⟨u,rfl,rx⟩:=vf r;cases rx;obtain⟨o,es,ep,t,ho,hex,hd,_,hp,hz,hf,_⟩:SetI (!b) p l s.heap:=(I.hok p _ hH).1;have e:es.size=l.length:=by have:=hp.length_eq; simpa using this
 exact PySem.call_len_set ho hex hd hf (by unfold scanBound at hz; omega) ⟨.int l.length,H,I.tok _,⟨_,by rw[e]⟩,q⟩
end
end L2
namespace PD
open PySem L2
section
variable {K:ζc}{S S':Sx}{κ κ' b:Bool}{Γ Γ' Γ'':Ctx}{P:Post}
end
section
variable {K:ζc}{S S':Sx}{κ κ':Bool}{Γ Γ' Γ'':Ctx}{P:Post}
theorem zeW{te:TE}{i:Nat}{ds:AG}{G:AD→Prop}{Γd:AD→Ctx}(h:GetC Γ i (.ow κ ds))(he:EvG K S κ te Γ G)(es:∀d,SetC Γ i (some (.ow κ (ds ++ [d]))) (Γd d))(hz:ds.length < sizeLine)(k:∀d,G d→P.nx (Γd d)):
  ExS K S (xX (tBM K "list" x4 (tVar i) (zS te tNil))) Γ P:=λH0 F0 H F σ B e b _ D I=>by
 obtain⟨v0,q1,a,vs,rfl,w,q5⟩:=e.has i _ h.eq;refine⟨_,q1,.inl ⟨rfl,_,SqL.of w.h⟩,he H0 F0 H F σ e _ λd v H' F' hd g p=>?_⟩
 have k':=zA g.f q5;refine⟨a,vs,v,rfl,rfl,g.h _ _ w.h,by rw[zq.length q5]; exact hz,?_⟩
 have kk:=k d hd;rw[←(es d).eq]at kk;exact I.nx _ _ _ F' kk (b.trans g.f) ((e.mono g).put (y:=.ow κ (ds ++ [d])) h.eq q1 (show Owns H' (.ref a) (.ow κ ds) a from rfl) ⟨a,_,rfl,⟨zk,(w.mono g).f,w.n,w.s⟩,zq.append k' (.cons p .nil)⟩ λ_ z=>z)
theorem exag{te:TE}{u:TS}{i:Nat}{ds:AG}{G:AD→Prop}{Γd:AD→Ctx}(h:GetC Γ i (.ow κ ds))(he:EvG K S κ te Γ G)(es:∀d,SetC Γ i (some (.ow κ (ds ++ [d]))) (Γd d))(hz:ds.length < sizeLine)(k:∀d,G d→ExT K S S' u (Γd d) P):
  ExT K S S' (tSeq (xX (tBM K "list" x4 (tVar i) (zS te tNil))) u) Γ P:=yw (λΓ'=>∃d,G d∧Γ'=Γd d) (zeW h he es hz λd hd=>⟨d,hd,rfl⟩) λ_ ⟨d,hd,z⟩=>z ▸ k d hd
theorem zaN{ta tb tc:TE}{a b:AD}{G:AD→Prop}(ha:EvE K S κ ta Γ a)(hb:EvE K S κ tb Γ b)(hc:EvG K S κ tc Γ G):EvG K S κ (tTup (zS ta (zS tb (zS tc tNil)))) Γ (λd=>∃c,G c∧d=.tuple [a,b,c]):=λH0 F0 H F σ e Q q =>
 ha H0 F0 H F σ e _ λva H1 F1 g1 p1=>hb H0 F0 H1 F1 σ (e.mono g1) _ λvb H2 F2 g2 p2=>hc H0 F0 H2 F2 σ ((e.mono g1).mono g2) _ λc vc H3 F3 hc g3 p3 =>
  ⟨by show 3≤sizeLine; decide,λp hp=>q _ _ _ (upd F3 p (.tup [va,vb,vc])) ⟨c,hc,rfl⟩ (((g1.trans g2).trans g3).trans (.new g3.le hp _)) (.tup (SqT.of zk) (zA (Same.new (g3.le.free hp) _) (.cons (yD (g2.f.trans g3.f) p1) (.cons (yD g3.f p2) (.cons p3 .nil)))))⟩
end
end PD
namespace L2
open PySem
def lcg(x:Nat):Nat:=5 * x + 1
def lcgN:Nat→Nat→Nat
 | 0,x=>x
 | n + 1,x=>lcgN n (lcg x)
theorem ZK:∀(m n x:Nat),lcgN (m + n) x=lcgN n (lcgN m x)
 | 0,n,x=>by rw[Nat.zero_add]; rfl
 | m + 1,n,x=>by rw[Nat.succ_add]; exact ZK m n (lcg x)
theorem Ur:∀k:Nat,∃u:Nat,u % 2=1∧∀x,lcgN (2 ^ k) x=x + 2 ^ k * u * (4 * x + 1)
 | 0=>⟨1,rfl,λx=>by show lcg x=_; unfold lcg; omega⟩
 | k + 1=>by
  obtain⟨u,hu,h⟩:=Ur k;refine⟨u * (1 + 2 * (2 ^ k * u)),by rw[Nat.mul_mod,hu]; omega,λx=>?_⟩
  have e:2 ^ (k + 1)=2 ^ k + 2 ^ k:=by rw[ξ0]; omega
  rw[e,ZK,h,h];generalize 2 ^ k=m;have e1:(m + m) * (u * (1 + 2 * (m * u))) * (4 * x + 1)=m * u * (4 * x + 1) * (2 + 4 * (m * u)):=by
   have a1:(m + m) * (u * (1 + 2 * (m * u)))=m * u * (2 + 4 * (m * u)):=by
    rw[←Nat.mul_assoc,Nat.add_mul,←Nat.two_mul,Nat.mul_assoc 2,Nat.mul_left_comm,Nat.mul_add 2];congr 1;omega
   rw[a1,Nat.mul_right_comm]
  rw[e1];generalize hy:m * u * (4 * x + 1)=y;have e2:m * u * (4 * (x + y) + 1)=y + 4 * (m * u) * y:=by
   have:m * u * (4 * (x + y) + 1)=m * u * (4 * x + 1) + m * u * (4 * y):=by rw[←Nat.mul_add]; congr 1; omega
   rw[this,hy];congr 1
   ac_nf
  rw[e2];have:y * (2 + 4 * (m * u))=2 * y + 4 * (m * u) * y:=by
   rw[Nat.mul_add];congr 1
   ·omega
   ·ac_nf
  omega
theorem Us:∀(k x y:Nat),∃n,n < 2 ^ k∧lcgN n x % 2 ^ k=y % 2 ^ k
 | 0,x,y=>⟨0,#[2],by rw[Nat.pow_zero,Nat.mod_one,Nat.mod_one]⟩
 | k + 1,x,y=>by
  obtain⟨n,hn,h⟩:=Us k x y;have e:2 ^ (k + 1)=2 ^ k * 2:=ξ0 ..;by_cases c:lcgN n x % 2 ^ (k + 1)=y % 2 ^ (k + 1)
  ·exact⟨n,by rw[e]; omega,c⟩
  ·refine⟨n + 2 ^ k,by rw[e]; omega,?_⟩
   obtain⟨u,hu,hz⟩:=Ur k;rw[ZK,hz];generalize lcgN n x=z at h c;obtain⟨v,hv⟩:∃v,u * (4 * z + 1)=2 * v + 1:=⟨u * (4 * z + 1) / 2,by
    have:u * (4 * z + 1) % 2=1:=by rw[Nat.mul_mod,hu]; omega
    omega⟩
   rw[Nat.mul_assoc,hv];have e3:z + 2 ^ k * (2 * v + 1)=z + 2 ^ k + 2 ^ (k + 1) * v:=by
    rw[e,Nat.mul_add,Nat.mul_one,←Nat.mul_assoc];omega
   rw[e3,Nat.add_mul_mod_self_left];have p:0 < 2 ^ k:=Nat.pos_of_ne_zero (by simp);rw[e,Nat.mod_mul,Nat.mod_mul,h]at c;rw[e,Nat.mod_mul,Nat.mod_mul,Nat.add_mod_right,Nat.add_div_right _ p,h];have d:¬z / 2 ^ k % 2=y / 2 ^ k % 2:=λw=>c (by rw[w]);have:(z / 2 ^ k).succ % 2=y / 2 ^ k % 2:=by omega
   rw[this]
def ww(mask:Nat):Nat→Nat×Nat→Nat×Nat
 | 0,p=>p
 | n + 1,p=>ww mask n (SetTable.leap mask p.1 p.2)
theorem Zk(mask:Nat):∀(n i:Nat),i < mask + 1→ww mask n (i,0)=(lcgN n i % (mask + 1),0)
 | 0,i,h=>by show(i,0)=_; rw[show lcgN 0 i=i from rfl,Nat.mod_eq_of_lt h]
 | n + 1,i,h=>by
  show ww mask n ((i * 5 + 1 + 0 / 32) % (mask + 1),0 / 32)=_;rw[Nat.zero_div,Nat.add_zero,Zk mask n _ (Nat.mod_lt _ (Nat.succ_pos _))];have:∀(n x:Nat),lcgN n (x % (mask + 1)) % (mask + 1)=lcgN n x % (mask + 1):=by
   intro n;induction n with
   | zero=>intro x; exact Nat.mod_mod _ _
   | succ n ih =>
    intro x;show lcgN n (lcg (x % (mask + 1))) % _=lcgN n (lcg x) % _;rw[←ih (lcg (x % (mask + 1))),←ih (lcg x)];congr 2;unfold lcg;rw[Nat.add_mod,Nat.mul_mod,Nat.mod_mod,←Nat.mul_mod,←Nat.add_mod]
  rw[this,show i * 5 + 1=lcg i by unfold lcg; omega];rfl
theorem Ye(mask:Nat):∀(m n:Nat) (p:Nat×Nat),ww mask (m + n) p=ww mask n (ww mask m p)
 | 0,n,p=>by rw[Nat.zero_add]; rfl
 | m + 1,n,p=>by rw[Nat.succ_add]; exact Ye mask m n _
theorem Yd(mask:Nat):∀(n i p:Nat),(ww mask n (i,p)).2=p / 32 ^ n
 | 0,i,p=>by rw[Nat.pow_zero,Nat.div_one]; rfl
 | n + 1,i,p=>by
  show(ww mask n ((i * 5 + 1 + p / 32) % (mask + 1),p / 32)).2=_;rw[Yd mask n,Nat.div_div_eq_div_mul,ξ0,Nat.mul_comm 32]
theorem X6(mask:Nat):∀(n:Nat) (p:Nat×Nat),p.1 < mask + 1→(ww mask n p).1 < mask + 1
 | 0,p,h=>h
 | n + 1,p,h=>X6 mask n _ (Nat.mod_lt _ (Nat.succ_pos _))
theorem UX{mask k:Nat}(hm:mask + 1=2 ^ k){i p:Nat}(hi:i < mask + 1)(hp:p < 2 ^ 64){j:Nat}(hj:j < mask + 1):∃n,n < SetTable.turns mask∧(ww mask n (i,p)).1=j:=by
 have z:(ww mask 13 (i,p)).2=0:=by
  rw[Yd];exact Nat.div_eq_of_lt (Nat.lt_trans hp #[2])
 have l:=X6 mask 13 (i,p) hi;generalize hw:ww mask 13 (i,p)=q at z l;obtain⟨i',p'⟩:=q;have z:p'=0:=z;subst z;obtain⟨n,hn,h⟩:=Us k i' j;refine⟨13 + n,by unfold SetTable.turns; omega,?_⟩
 rw[Ye,hw,Zk mask n i' l,hm,h,←hm,Nat.mod_eq_of_lt hj]
theorem zaw(h:Int):SetTable.bits h < 2 ^ 64:=by
 unfold SetTable.bits;have h1:=ζU h (show(2 ^ 64:Int)≠0 by decide);have h2:=ζO h (show(0:Int) < 2 ^ 64 by decide);omega
theorem UB{mask:Nat}{owner:Array (Option Nat)}(hz:owner.size=mask + 1):∀(fuel i p:Nat),i < mask + 1→(∃n,n < fuel∧owner.getD (ww mask n (i,p)).1 (some 0)=none)→∃j,SetTable.layClean.free mask owner fuel i p=some j∧owner[j]?=some none
 | 0,i,p,_,⟨n,h,_⟩=>absurd h (Nat.not_lt_zero _)
 | fuel + 1,i,p,hi,⟨n,hn,h⟩=>by
  unfold SetTable.layClean.free;have good:∀x,(owner.getD x (some 0)).isNone=true→owner[x]?=some none:=λx hx=>by
   rw[Array.getD_eq_getD_getElem?]at hx;cases e:owner[x]? with
   | none=>rw[e]at hx; cases hx
   | some o =>
    rw[e]at hx;have:o=none:=Option.isNone_iff_eq_none.mp hx;rw[this]
  split
  ·rename_i k hk;exact⟨i + k,rfl,good _ (List.find?_some (p:=λk=>(owner.getD (i + k) (some 0)).isNone) hk)⟩
  ·rename_i hk;dsimp only;cases n with
   | zero =>
    have h0:=List.find?_eq_none.mp hk 0 (List.mem_range.mpr (by unfold SetTable.runEnd; split <;> omega));have h:owner.getD i (some 0)=none:=h;rw[Nat.add_zero,h]at h0;exact absurd rfl h0
   | succ n=>exact UB hz fuel _ _ (Nat.mod_lt _ (Nat.succ_pos _)) ⟨n,⋯,h⟩
def xY(o:Array (Option Nat)):AF:=o.toList.filterMap id
theorem UZ{o:Array (Option Nat)}{j k:Nat}(h:o[j]?=some none):(xY (o.setIfInBounds j (some k))).Perm (k :: xY o):=by
 unfold xY;have hj:j < o.size:=(Array.getElem?_eq_some_iff.mp h).1;rw[Array.toList_setIfInBounds];have hl:o.toList[j]?=some none:=by rw[ξg]; exact h
 have hj':j < o.toList.length:=by rw[ζP]; exact hj
 have e1:o.toList.set j (some k)=o.toList.take j ++ some k :: o.toList.drop (j + 1):=List.set_eq_take_append_cons_drop .. ▸ by rw[if_pos hj']
 have e2:o.toList=o.toList.take j ++ none :: o.toList.drop (j + 1):=by
  have:o.toList[j]=none:=by have:=ζe hj'; rw[hl]at this; exact(ζr this).symm
  rw[←this,←ξt hj',ζX]
 rw[e1,List.filterMap_append,List.filterMap_cons_some (f:=id) (a:=some k) (b:=k) rfl]
 conv=>rhs; rw[e2,List.filterMap_append,List.filterMap_cons_none (f:=id) (a:=none) rfl]
 exact ξX
theorem TB{o:Array (Option Nat)}(h:(xY o).length < o.size):∃j,j < o.size∧o[j]?=some none:=by
 refine Classical.byContradiction λz=>?_;have all:∀x∈o.toList,x≠none:=λx hx e=>by
  obtain⟨j,hj,ej⟩:=ξx.mp hx;rw[ζP]at hj;refine z ⟨j,hj,?_⟩;rw[ξe hj,←Array.getElem_toList,ej,e]
 have:∀l:List (Option Nat),(∀x∈l,x≠none)→(l.filterMap id).length=l.length:=λl=>by
  induction l with
  | nil=>intro _; rfl
  | cons x r ih =>
   intro hx;cases e:x with
   | none=>exact absurd e (hx x (.head _))
   | some v=>rw[List.filterMap_cons_some (f:=id) (a:=some v) (b:=v) rfl,ζY,ζY,ih λy hy=>hx y (.tail _ hy)]
 have e:=this o.toList all;unfold xY at h;rw[e,ζP]at h;exact ξk _ h
def Zb(mask:Nat)(acc:Option (Array (Option Nat)×Nat))(h:Int):Option (Array (Option Nat)×Nat):=do
 let(owner,k)←acc;let j←SetTable.layClean.free mask owner (SetTable.turns mask) (SetTable.bits h % (mask + 1)) (SetTable.bits h)
 pure (owner.setIfInBounds j (some k),k + 1)
theorem Ut{mask k:Nat}(hm:mask + 1=2 ^ k):∀(hs:AE) (o:Array (Option Nat)) (n:Nat),o.size=mask + 1→(xY o).length=n→n + hs.length≤mask→∃o',hs.foldl (Zb mask) (some (o,n))=some (o',n + hs.length)∧o'.size=mask + 1∧(xY o').Perm (xY o ++ (List.range hs.length).map (n + ·))
 | [],o,n,h1,h2,h3=>⟨o,rfl,h1,by simp⟩
 | h :: hs,o,n,h1,h2,h3=>by
  rw[ζY]at h3;obtain⟨j0,hj0,ej0⟩:=TB (o:=o) ⋯;have hi:SetTable.bits h % (mask + 1) < mask + 1:=Nat.mod_lt _ (Nat.succ_pos _);obtain⟨m,hm1,hm2⟩:=UX hm hi (zaw h) (j:=j0) ⋯;obtain⟨j,ej,oj⟩:=UB h1 (SetTable.turns mask) _ (SetTable.bits h) hi ⟨m,hm1,by rw[hm2,Array.getD_eq_getD_getElem?,ej0]; rfl⟩;have st:Zb mask (some (o,n)) h=some (o.setIfInBounds j (some n),n + 1):=by
   unfold Zb;simp only[Option.bind_eq_bind,Option.bind_some,ej];rfl
  have pm:=UZ (k:=n) oj;obtain⟨o',e1,e2,e3⟩:=Ut hm hs (o.setIfInBounds j (some n)) (n + 1) (by rw[Array.size_setIfInBounds]; exact h1) (by rw[pm.length_eq,ζY,h2]) ⋯;refine⟨o',by rw[List.foldl_cons,st,e1,ζY]; congr 2; omega,e2,e3.trans ?_⟩
  refine(pm.append_right _).trans ?_;rw[ζY,List.range_succ_eq_map,ζF,ζA];refine(ξX (l₁:=xY o)).symm.trans ?_;rw[Nat.add_zero];refine List.Perm.append_left _ (List.Perm.cons _ ?_);have:((λx=>n + x)∘Nat.succ)=λx=>n + 1 + x:=by funext x; show n + (x + 1)=_; omega
  rw[this]
theorem Uu{mask k:Nat}(hm:mask + 1=2 ^ k)(f m:Nat)(led plain:Bool)(hs:Array Int)(hz:hs.size≤mask):∃t order,SetTable.laid mask f m led plain hs=some (t,order)∧TOk led t∧t.mask=mask∧t.plain=plain∧order.toList.Perm (List.range hs.size)∧t.place.size=hs.size:=by
 obtain⟨o,e1,e2,e3⟩:=Ut hm hs.toList (Array.replicate (mask + 1) none) 0 (by simp) (by unfold xY; rw[Array.toList_replicate]; simp) (by rw[Array.length_toList]; omega);have lc:SetTable.layClean mask hs=some o:=by
  unfold SetTable.layClean;rw[←Array.foldl_toList];have:(List.foldl (Zb mask) (some (Array.replicate (mask + 1) none,0)) hs.toList).map (·.1)=some o:=by rw[e1]; rfl
  exact this
 have e4:(xY o).Perm (List.range hs.size):=by
  refine e3.trans ?_;unfold xY;rw[Array.toList_replicate,ζP];simp
 have key:((List.range (mask + 1)).filterMap λj=>(o.getD j none).map (j,·)).map (·.2)=xY o:=by
  rw[List.map_filterMap];unfold xY;have:o.toList=(List.range (mask + 1)).map λj=>o.getD j none:=by
   refine List.ext_getElem? λi=>?_;rw[ξg,ζo];by_cases hi:i < mask + 1
   ·rw[ξD hi,ξe ⋯];show _=some (o.getD i none);rw[Array.getD_eq_getD_getElem?,ξe ⋯];rfl
   ·rw[Array.getElem?_eq_none ⋯,ζ7 (by rw[ζz]; omega)];rfl
  rw[this,List.filterMap_map];refine congrArg (λf=>List.filterMap f (List.range (mask + 1))) (funext λj=>?_);show Option.map _ (Option.map _ (o.getD j none))=o.getD j none;cases o.getD j none <;> rfl
 refine⟨_,_,by unfold SetTable.laid; rw[lc]; rfl,⟨rfl,?_,rfl⟩,rfl,rfl,?_,?_⟩
 ·show List.Pairwise (· < ·) _;dsimp only;rw[ξS,List.pairwise_filterMap];refine ξO.imp λ{i j} hij x hx y hy=>?_;obtain⟨u,_,rfl⟩:=ξp.mp hx;obtain⟨u',_,rfl⟩:=ξp.mp hy;exact hij
 ·show(((List.range (mask + 1)).filterMap λj=>(o.getD j none).map (j,·)).map (·.2)).Perm _;rw[key];exact e4
 ·show(((List.range (mask + 1)).filterMap λj=>(o.getD j none).map (j,·)).map (·.1)).toArray.size=_;rw[ζS,ζa,←ζa (f:=(·.2)),key,e4.length_eq,ζz]
theorem uz:∀(fuel k n:Nat),2 ^ k≤2 * n + 8→n < 2 ^ (k + fuel)→∃j,SetTable.sizeAbove.go n fuel (2 ^ k)=2 ^ j∧n < 2 ^ j∧2 ^ j≤2 * n + 8
 | 0,k,n,h1,h2=>⟨k,rfl,h2,h1⟩
 | fuel + 1,k,n,h1,h2=>by
  unfold SetTable.sizeAbove.go;by_cases h:2 ^ k≤n
  ·rw[if_pos h,show 2 ^ k * 2=2 ^ (k + 1)from(ξ0 ..).symm];exact uz fuel (k + 1) n (by rw[ξ0]; omega) (by rw[show k + 1 + fuel=k + (fuel + 1)by omega]; exact h2)
  ·rw[if_neg h];exact⟨k,rfl,⋯,h1⟩
theorem YY{n:Nat}(h:n < 100000):∃j,SetTable.sizeAbove n=2 ^ j∧n < 2 ^ j∧2 ^ j≤2 * n + 8:=by
 have:=uz 64 3 n ⋯ (Nat.lt_trans h #[2]);exact this
end L2
namespace L2
open PySem PySem.Spec PyProof.Rows
theorem Wc:entryFor table "set.__or__" = some Builtin.«frozenset.__or__»:=entryFor_alias (id' := "frozenset.__or__") (by kernel_rfl) rfl (by decide +kernel) (by kernel_rfl)
theorem Y0:entryFor table "set.__and__" = some Builtin.«frozenset.__and__»:=entryFor_alias (id' := "frozenset.__and__") (by kernel_rfl) rfl (by decide +kernel) (by kernel_rfl)
theorem uE{order:Array Nat}{es:Array (Int×Value)}(h:order.toList.Perm (List.range es.size)):(order.filterMap (es[·]?)).toList.Perm es.toList:=by
 rw[Array.toList_filterMap];exact(h.filterMap _).trans (by rw[filterMap_getElem?_range])
def xA(b:Bool)(m:Nat)(a:Addr)(h:Heap):Prop:=∃o ep t,h.get? a=some o∧o.ExactSet∧o.data=.set #[] ep t∧TOk b t∧t.place=#[]∧(∃k,t.mask + 1=2 ^ k)∧m≤t.mask
theorem xA.fits{t:SetTable}{b:Bool}(h:TOk b t)(e:t.place=#[]):t.fits (#[]:Array (Int×Value)).size=true:=by
 unfold SetTable.fits SetTable.fill;rw[e,h.dum];simp
theorem xA.set{b:Bool}{m:Nat}{a:Addr}{h:Heap}(x:xA b m a h):SetI b a [] h:=by
 obtain⟨o,ep,t,ho,hx,hd,ht,hp,_⟩:=x;exact⟨o,#[],ep,t,ho,hx,hd,(λe z=>by simp at z),.nil,#[2],xA.fits ht hp,ht⟩
section
variable {prog:Program}{w:World}{A:Around}{E:AN}{s:Shared}{b:Bool}{a r o:Addr}{l l1 l2:AE}{m:Nat}
theorem QI{wanted:Nat}{Q:Unit→Shared→Prop}(hS:SetI b a l s.heap)(hw:l.length≤wanted)(h1:wanted < 100000)
  (k:∀h',Heap.SameBut a s.heap h'→SetI b a l h'→(l=[]→xA b wanted a h')→Q () { s with heap:=h' }):wpAny (model prog w) A (setRelay a wanted) Q E s:=by
 obtain⟨ob,es,ep,t,ho,hex,hd,hE,hp,hz,hf,ht⟩:=hS;obtain⟨j,ej,j1,j2⟩:=YY h1;have hn:es.size=l.length:=by have:=hp.length_eq; simpa using this
 unfold setRelay;refine AA (wpAny_setState_of ho hd hf ?_);dsimp only;rw[if_neg (by rw[ej,sizeLine_eq]; omega)];have m1:SetTable.sizeAbove wanted - 1 + 1=2 ^ j:=by rw[ej]; omega
 obtain⟨t',order,e1,e2,e3,e4,e5,e6⟩:=Uu m1 t.finger (t.movedTo (SetTable.sizeAbove wanted - 1)) t.led t.plain (es.map (·.1)) (by rw[Array.size_map,ej]; omega);rw[Array.size_map]at e5 e6;have er:t.relaid (es.map (·.1)) wanted=some (t',order):=e1;have pm:=uE e5;have sz:(order.filterMap (es[·]?)).size=es.size:=by rw[←ζP,pm.length_eq,ζP]
 rw[ht.led]at e2;rw[er];refine AA ?_;show wpAny _ _ (ite ((order.filterMap (es[·]?)).size != es.size) _ _) _ _ _;rw[if_neg (by rw[sz]; simp)];refine AB ?_;have ft:t'.fits (order.filterMap (es[·]?)).size=true:=by
  unfold SetTable.fits SetTable.fill;rw[e2.dum,e6,sz,e3];simp;rw[ej];omega
 refine wpAny_storeSet_of ho hd ?_ (fits_of_scanBound (by rw[sz]; exact hz));refine k _ (Heap.SameBut.update ..) ⟨_,_,_,_,vg ho hd _ _,hex,rfl,λe x=>hE e (pm.mem_iff.mp x),(pm.map kOf).trans hp,by rw[sz]; exact hz,ft,e2⟩ λhl=>?_;have z0:es.size=0:=by rw[hn,hl]; rfl
 have ee:order.filterMap (es[·]?)=#[]:=Array.eq_empty_of_size_eq_zero (by rw[sz]; exact z0);have g:=vg ho hd (order.filterMap (es[·]?)) t';exact⟨{ ob with data:=.set (order.filterMap (es[·]?)) (ep + 1) t' },ep + 1,t',g,hex,by show Data.set _ _ _=_; rw[ee],e2,Array.eq_empty_of_size_eq_zero (by rw[e6]; exact z0),⟨j,by rw[e3]; exact m1⟩,by rw[e3,ej]; omega⟩
theorem zeC{more:Nat}{Q:Unit→Shared→Prop}(hS:SetI b a l s.heap)(hw:l.length + more < 4000)
  (k:∀h',Heap.SameBut a s.heap h'→SetI b a l h'→Q () { s with heap:=h' }):wpAny (model prog w) A (setRoomFor a more) Q E s:=by
 obtain⟨ob,es,ep,t,ho,hex,hd,hE,hp,hz,hf,ht⟩:=id hS;have hn:es.size=l.length:=by have:=hp.length_eq; simpa using this
 have hpz:t.place.size=es.size:=by
  simp only[SetTable.fits,Bool.and_eq_true,beq_iff_eq]at hf;exact hf.1
 unfold setRoomFor;refine AA (wpAny_setState_of ho hd hf ?_);dsimp only;cases e:t.roomFor more with
 | none=>exact AB (k s.heap (Heap.SameBut.refl a s.heap) hS)
 | some wanted =>
  have:wanted=(t.place.size + more) * 2:=by
   unfold SetTable.roomFor at e;split at e
   ·exact(ζr e).symm
   ·cases e
  exact QI hS ⋯ ⋯ λh' u v _=>k h' u v
theorem zeD{more:Nat}{Q:Unit→Shared→Prop}(hS:xA b 7 a s.heap)(hw:more < 4000)
  (k:∀h',Heap.SameBut a s.heap h'→xA b more a h'→Q () { s with heap:=h' }):wpAny (model prog w) A (setRoomFor a more) Q E s:=by
 obtain⟨ob,ep,t,ho,hex,hd,ht,hp,hk,hm⟩:=id hS;unfold setRoomFor;refine AA (wpAny_setState_of ho hd (xA.fits ht hp) ?_);dsimp only;cases e:t.roomFor more with
 | none =>
  refine AB (k s.heap (Heap.SameBut.refl a s.heap) ⟨ob,ep,t,ho,hex,hd,ht,hp,hk,?_⟩);unfold SetTable.roomFor at e;split at e
  ·cases e
  ·rename_i q;unfold SetTable.fill at q;rw[hp,ht.dum]at q;simp at q;omega
 | some wanted =>
  have:wanted=(t.place.size + more) * 2:=by
   unfold SetTable.roomFor at e;split at e
   ·exact(ζr e).symm
   ·cases e
  rw[hp]at this;have this:wanted=(0 + more) * 2:=this;exact QI hS.set (ξj _) ⋯ λh' u v f=>k h' u (by
   obtain⟨o',ep',t',y1,y2,y3,y4,y5,y6,y7⟩:=f rfl;exact⟨o',ep',t',y1,y2,y3,y4,y5,y6,⋯⟩)
theorem zag{each:Sem Unit}{Q:Unit→Shared→Prop}(hF:xA b 7 r s.heap)(hO:SetI b o l s.heap)(hne:r≠o)(hl:l.length < 4000)
  (k:∀h',Heap.SameBut r s.heap h'→SetI b r l h'→(l=[]→xA b 7 r h')→Q () { s with heap:=h' }):wpAny (model prog w) A (setMerge r o each) Q E s:=by
 obtain⟨ob,es,ep,t,ho,hex,hd,hE,hp,hz,hf,ht⟩:=id hO;have hn:es.size=l.length:=by have:=hp.length_eq; simpa using this
 unfold setMerge;rw[if_neg (by simpa using hne)];refine AA (wpAny_setState_of ho hd hf ?_);dsimp only;by_cases em:es.isEmpty=true
 ·rw[if_pos em];have l0:l=[]:=List.eq_nil_of_length_eq_zero (by rw[←hn]; simpa using em);exact AB (k s.heap (Heap.SameBut.refl _ _) (l0 ▸ hF.set) λ_=>hF)
 rw[if_neg em];have lnz:l≠[]:=λz=>em (by rw[z]at hn; simpa using hn);refine AA (zeD hF (more:=es.size) ⋯ λh1 u1 f1=>?_);obtain⟨o1,ep1,t1,g1,x1,d1,k1,p1,⟨j,hj⟩,m1⟩:=f1;refine AA (wpAny_setState_of (s:={ s with heap:=h1 }) g1 d1 (xA.fits k1 p1) ?_);dsimp only;have fill0:t1.fill=0:=by unfold SetTable.fill; rw[p1,k1.dum]; rfl
 have hE':∀e∈es.toList,IsE e:=hE;unfold SetTable.road;rw[if_neg (by rw[fill0]; simp)];by_cases c:(t1.mask == t.mask && t.dummies.isEmpty)=true
 ·rw[if_pos c];dsimp only;refine wpAny_storeSet_of (s:={ s with heap:=h1 }) g1 d1 ?_ (fits_of_scanBound hz);refine k _ (u1.trans (Heap.SameBut.update ..)) ⟨_,es,_,_,vg g1 d1 _ _,x1,rfl,hE,hp,hz,hf,⟨?_,ht.rise,ht.dum⟩⟩ λz=>absurd z lnz;show(t1.led && t.led)=b;rw[k1.led,ht.led,Bool.and_self]
 ·rw[if_neg c];dsimp only;obtain⟨t',order,e1,e2,e3,e4,e5,e6⟩:=Uu hj t1.finger t1.moves (t1.led && t.led) (t1.plain && t.plain) (es.map (·.1)) (by rw[Array.size_map]; exact m1);rw[Array.size_map]at e5 e6;have pm:=uE e5;have sz:(order.filterMap (es[·]?)).size=es.size:=by rw[←ζP,pm.length_eq,ζP]
  rw[k1.led,ht.led,Bool.and_self]at e1 e2;rw[k1.led,ht.led,Bool.and_self,e1];refine AA ?_;show wpAny _ _ (ite ((order.filterMap (es[·]?)).size != es.size) _ _) _ _ _;rw[if_neg (by rw[sz]; simp)];refine AB ?_;have ft:t'.fits (order.filterMap (es[·]?)).size=true:=by
   unfold SetTable.fits SetTable.fill;rw[e2.dum,e6,sz,e3];simp;omega
  refine wpAny_storeSet_of (s:={ s with heap:=h1 }) g1 d1 ?_ (fits_of_scanBound (by rw[sz]; exact hz));exact k _ (u1.trans (Heap.SameBut.update ..)) ⟨_,_,_,_,vg g1 d1 _ _,x1,rfl,λe x=>hE e (pm.mem_iff.mp x),(pm.map kOf).trans hp,by rw[sz]; exact hz,ft,e2⟩ λz=>absurd z lnz
end
section
variable {prog:Program}{w:World}{A:Around}{E:AN}{s:Shared}{bt:Bool}{a r o:Addr}{l l1 l2:AE}{m:Nat}
theorem Um{Q:AN}(hb:w.params.followText "set-order" = bt)
  (k:∀ob,xA (!bt) 7 s.heap.objs.size (s.heap.push ob)→Q (.ref s.heap.objs.size) { s with heap:=s.heap.push ob }):wpAny (model prog w) A (newSet (.type "set")) Q E s:=by
 unfold newSet setsByText;refine AA (AA (wpAny_askSetting (AB ?_)));rw[show(model prog w).w.params.followText "set-order" = bt from hb];dsimp only;simp only[newObj];exact AA (wpAny_alloc (AB (k _ ⟨_,0,_,ζL _ rfl,⟨rfl,rfl,rfl⟩,rfl,TOk.fresh,rfl,⟨3,rfl⟩,ζl _⟩)))
theorem QP{sets:List Addr}{Q:Bool→Shared→Prop}(h:∀a∈sets,∃b l,SetI b a l s.heap)(k:Q true s):wpAny (model prog w) A (setsQuiet sets) Q E s:=by
 unfold setsQuiet;refine AA (wpAny_forIn_list _ (λrest r s'=>r.1=none∧s'=s∧∀a∈rest,∃b l,SetI b a l s.heap) _ ?_ ?_ _ _ ⟨rfl,rfl,h⟩)
 ·rintro x rest ⟨r1,r2⟩ s' ⟨e1,rfl,hr⟩;obtain⟨b,l,ob,es,ep,t,ho,hex,hd,hE,hp,hz,hf,ht⟩:=hr x (.head _);refine AA (wpAny_setEntries_of ho hd hf ?_);refine AA (wpAny_forIn_array' _ (λrest r s''=>r.1=none∧s''=s'∧∀e∈rest,IsE e) _ ?_ ?_ _ _ ⟨rfl,rfl,hE⟩)
  ·rintro e rest2 ⟨q1,q2⟩ s'' ⟨e2,rfl,h2⟩;obtain⟨k',t',rfl⟩:=h2 e (.head _);exact AB ⟨rfl,rfl,λy hy=>h2 y (.tail _ hy)⟩
  ·rintro⟨q1,q2⟩ s'' ⟨e2,rfl,_⟩;have e2:q1=none:=e2;subst e2;exact AB ⟨rfl,rfl,λy hy=>hr y (.tail _ hy)⟩
 ·rintro⟨r1,r2⟩ s' ⟨e1,rfl,_⟩;have e1:r1=none:=e1;subst e1;exact AB k
theorem zes{Q:Array (Int×Value)→Shared→Prop}(hb:w.params.followText "set-order" = bt)(hR:SetI (!bt) r l1 s.heap)(hO:SetI (!bt) o l2 s.heap)(hne:r≠o)
  (k:∀(ws:Array (Int×Value)) h',(∀e∈ws.toList,IsE e)→(ws.toList.map kOf).Perm l2→Heap.SameBut r s.heap h'→SetI (!bt) r l1 h'→Q ws { s with heap:=h' }):wpAny (model prog w) A (setWalkUnseen o [r] (some r)) Q E s:=by
 obtain⟨ob,es,ep,t,ho,hex,hd,hE,hp,hz,hf,ht⟩:=id hO;have ks:∀ws:Array (Int×Value),ws.toList.Perm es.toList→Q ws s:=λws pm=>k ws s.heap (λe x=>hE e (pm.mem_iff.mp x)) ((pm.map kOf).trans hp) (Heap.SameBut.refl _ _) hR;unfold setWalkUnseen;refine AA (wpAny_setState_of ho hd hf ?_);dsimp only;unfold setsByText;refine AA (AA (wpAny_askSetting (AB ?_)));rw[show(model prog w).w.params.followText "set-order" = bt from hb];cases bt with
 | true =>
  simp only[Bool.true_or,↓reduceIte];unfold setWalk;refine AA (wpAny_setState_of ho hd hf ?_);dsimp only;unfold setsByText;refine AA (AA (wpAny_askSetting (AB ?_)));rw[show(model prog w).w.params.followText "set-order" = true from hb];simp only[↓reduceIte];exact AA (wpAny_askSetting (AB (ks _ (xT _ _))))
 | false =>
  have led:t.led=true:=ht.led;by_cases c:(false || (t.led && t.plain) || decide (es.size≤1))=true
  ·rw[if_pos c];unfold setWalk;refine AA (wpAny_setState_of ho hd hf ?_);dsimp only;unfold setsByText;refine AA (AA (wpAny_askSetting (AB ?_)));rw[show(model prog w).w.params.followText "set-order" = false from hb];simp only[Bool.false_eq_true,↓reduceIte];split
   ·rename_i z;have z:(!t.plain && decide (es.size > 1))=true:=z;rw[led]at c;simp at c z
    exact absurd z.2 (by rcases c with c | c
                         ·rw[c]at z; exact absurd z.1 #[2]
                         ·omega)
   ·refine AA (wpAny_of_eq (a:=()) ?_ ?_)
    ·show(if(!t.led && decide (es.size > 1))=true then _ else _)=_;rw[led];rfl
    ·exact AB (ks es (.refl _))
  ·rw[if_neg c];refine AA (QP (λx hx=>?_) ?_)
   ·rcases ζw.mp hx with rfl | hx
    ·exact⟨_,_,hO⟩
    ·rw[ζi.mp hx]; exact⟨_,_,hR⟩
   rw[if_neg #[2]];refine AA (wpAny_rule ?_);obtain⟨ob1,es1,ep1,t1,ho1,hex1,hd1,hE1,hp1,hz1,hf1,ht1⟩:=id hR;refine AA (wpAny_setState_of ho1 hd1 hf1 ?_);dsimp only;split
   ·refine AA (wpAny_storeSet_of ho1 hd1 ?_ (fits_of_scanBound hz1));refine AB (k es _ hE hp (Heap.SameBut.update ..) ⟨_,es1,_,_,vg ho1 hd1 _ _,hex1,rfl,hE1,hp1,hz1,hf1,⟨?_,ht1.rise,ht1.dum⟩⟩);show(t1.led && t.led)=_;rw[ht1.led,led];rfl
   ·exact AB (ks es (.refl _))
theorem zdL{each:Sem Unit}{Q:Unit→Shared→Prop}(hb:w.params.followText "set-order" = bt)(hR:SetI (!bt) r l1 s.heap)(hO:SetI (!bt) o l2 s.heap)(hne:r≠o)(h1:l1≠[])(hl:l1.length + l2.length < 2000)
  (he:∀(s':Shared) (Q':Unit→Shared→Prop),s'.heap.get? o=s.heap.get? o→Q' () s'→wpAny (model prog w) A each Q' E s')
  (k:∀h' l3,Heap.SameBut r s.heap h'→SetI (!bt) r l3 h'→(∀x,x∈l3↔x∈l1∨x∈l2)→(l1.Nodup→l3.Nodup)→l3.length≤l1.length + l2.length→Q () { s with heap:=h' }):wpAny (model prog w) A (setMerge r o each) Q E s:=by
 obtain⟨ob,es,ep,t,ho,hex,hd,hE,hp,hz,hf,ht⟩:=id hO;have hn:es.size=l2.length:=by have:=hp.length_eq; simpa using this
 unfold setMerge;rw[if_neg (by simpa using hne)];refine AA (wpAny_setState_of ho hd hf ?_);dsimp only;by_cases em:es.isEmpty=true
 ·rw[if_pos em];have l0:l2=[]:=List.eq_nil_of_length_eq_zero (by rw[←hn]; simpa using em);subst l0;exact AB (k s.heap l1 (Heap.SameBut.refl _ _) hR (λx=>by simp) id ⋯)
 rw[if_neg em];refine AA (zeC hR (more:=es.size) ⋯ λh1' u1 f1=>?_);obtain⟨o1,es1,ep1,t1,g1,x1,d1,hE1,hp1,hz1,hf1,k1⟩:=id f1;have hn1:es1.size=l1.length:=by have:=hp1.length_eq; simpa using this
 refine AA (wpAny_setState_of (s:={ s with heap:=h1' }) g1 d1 hf1 ?_);dsimp only;have fill0:t1.fill≠0:=by
  have:t1.place.size=es1.size:=by
   simp only[SetTable.fits,Bool.and_eq_true,beq_iff_eq]at hf1;exact hf1.1
  unfold SetTable.fill;have:0 < l1.length:=List.length_pos_iff.mpr h1;omega
 unfold SetTable.road;rw[if_pos (by simpa using fill0)];dsimp only;have hO1:SetI (!bt) o l2 h1':=hO.at λob' z=>by rw[u1.2 o (Ne.symm hne)]; exact z
 refine AA (zes (s:={ s with heap:=h1' }) hb f1 hO1 hne λws h2 wE wp u2 f2=>?_);refine AA (wpAny_forIn_array' _ (λrest _ s'=>∃l h',s'={ s with heap:=h' }∧Heap.SameBut r s.heap h'∧SetI (!bt) r l h'∧(∀e∈rest,IsE e)∧(∀x,(x∈l∨x∈rest.map kOf)↔x∈l1∨x∈l2)∧(l1.Nodup→l.Nodup)∧l.length + rest.length≤l1.length + l2.length) _ ?_ ?_ _ _ ⟨l1,h2,rfl,u1.trans u2,f2,wE,λx=>by rw[wp.mem_iff],id,by have:=wp.length_eq; rw[ζa]at this; omega⟩)
 ·rintro e rest _ s' ⟨l,h',rfl,u,f,hE',hm,hnd,hlen⟩;obtain⟨kk,tk,rfl⟩:=hE' e (.head _);rw[ζY]at hlen;have oo:h'.get? o=s.heap.get? o:=u.2 o (Ne.symm hne);refine AA (wpAny_holding (addI (s:={ s with heap:=h' }) f (by unfold scanBound; omega) λrr h3 u3 f3=>?_));have oo3:h3.get? o=s.heap.get? o:=(u3.2 o (Ne.symm hne)).trans oo;refine AA (he _ _ oo3 ?_);refine AA (wpAny_setState_of (s:={ s with heap:=h3 }) (oo3.trans ho) hd hf ?_);dsimp only;rw[if_neg (by simp)];refine AB ⟨step_dedup l kk,h3,rfl,u.trans u3,f3,λy hy=>hE' y (.tail _ hy),λx=>?_,λz=>?_,?_⟩
  ·rw[←hm x,ζF];show _↔_∨x∈kk :: _;unfold step_dedup;split
   ·rename_i q;obtain⟨y,hy,ey⟩:=ξn.mp q;have ey:=eq_of_beq ey;subst ey;constructor
    ·rintro(z | z)
     ·exact .inl z
     ·exact .inr (.tail _ z)
    ·rintro(z | z)
     ·exact .inl z
     ·rcases ζw.mp z with rfl | z
      ·exact .inl hy
      ·exact .inr z
   ·rw[ζu,ζi,ζw];constructor
    ·rintro((z | z) | z)
     ·exact .inl z
     ·exact .inr (.inl z)
     ·exact .inr (.inr z)
    ·rintro(z | z | z)
     ·exact .inl (.inl z)
     ·exact .inl (.inr z)
     ·exact .inr z
  ·have nd:=hnd z;unfold step_dedup;split
   ·exact nd
   ·rename_i q;rw[ζW];refine⟨nd,by simp,λx hx y hy=>?_⟩
    rw[ζi.mp hy];rintro rfl;exact q (List.any_eq_true.mpr ⟨_,hx,by simp⟩)
  ·unfold step_dedup;split
   ·omega
   ·rw[ζg];show _ + 1 + _≤_;omega
 ·rintro _ s' ⟨l,h',rfl,u,f,_,hm,hnd,hlen⟩;exact AB (k h' l u f (λx=>by rw[←hm x]; simp) hnd (by simpa using hlen))
end
section
variable {prog:Program}{w:World}{A:Around}{E:AN}{s:Shared}{bt:Bool}{a r o p q:Addr}{l l1 l2:AE}{m:Nat}
theorem vW{h:Heap}{Q:Bool→Shared→Prop}{b:Bool}(hS:SetI b a l s.heap)(k:Q true s):wpAny (model prog w) A (Builtin.Frozenset.isAnySet (.ref a)) Q E s:=by
 obtain⟨ob,_,_,_,ho,hx,_⟩:=hS;unfold Builtin.Frozenset.isAnySet;refine AA (wpAny_isInstance (b:=true) ⟨ob,ho,hx.1⟩ sub_set_self (AB k))
theorem ze2{Q:AN}(hb:w.params.followText "set-order" = bt)(hS:SetI (!bt) a l s.heap)(hl:l.length < 4000)
  (k:∀h',SetI (!bt) s.heap.objs.size l h'→(∀c ob,s.heap.get? c=some ob→h'.get? c=some ob)→(l=[]→xA (!bt) 7 s.heap.objs.size h')→Q (.ref s.heap.objs.size) { s with heap:=h' }):wpAny (model prog w) A (Builtin.Frozenset.copyOf a) Q E s:=by
 obtain⟨ob,_,_,_,ho,hx,_⟩:=id hS;have ha:a < s.heap.objs.size:=ζq ho;unfold Builtin.Frozenset.copyOf Builtin.Frozenset.baseOf;refine AA (AA (wpAny_isInstance (b:=true) ⟨ob,ho,hx.1⟩ sub_set_self (AB ?_)));simp only[↓reduceIte];refine AA (Um hb λo1 f1=>?_);unfold Builtin.Frozenset.addrOf;refine AA (AB ?_);have hS1:SetI (!bt) a l (s.heap.push o1):=hS.at λ_ z=>ζj _ z;refine AA (zag (s:={ s with heap:=s.heap.push o1 }) f1 hS1 (ξA ha) hl λh' u f ff=>AB (k h' f (λc ob' z=>?_) ff));rw[u.2 c (ζQ (ζq z))];exact ζj _ z
theorem orI{Q:AN}(hb:w.params.followText "set-order" = bt)(hP:SetI (!bt) p l1 s.heap)(hR:SetI (!bt) q l2 s.heap)(hne:p≠q)(hl:l1.length + l2.length < 2000)
  (k:∀h' l3,SetI (!bt) s.heap.objs.size l3 h'→(∀c ob,s.heap.get? c=some ob→h'.get? c=some ob)→(∀x,x∈l3↔x∈l1∨x∈l2)→(l1.Nodup→l2.Nodup→l3.Nodup)→l3.length≤l1.length + l2.length→Q (.ref s.heap.objs.size) { s with heap:=h' }) :
  wpAny (model prog w) A (binaryOp .BitOr (.ref p) (.ref q)) Q E s:=by
 obtain⟨op,_,_,_,hop,hxp,_⟩:=id hP;obtain⟨oq,_,_,_,hoq,hxq,_⟩:=id hR;have hp:p < s.heap.objs.size:=ζq hop;have hq:q < s.heap.objs.size:=ζq hoq;have hT:s.TypeIs (.ref p) "set" := ⟨op,hop,hxp.1⟩
 refine wpAny_binaryOp_same hT ⟨oq,hoq,hxq.1⟩ F.fills_set_or F.slot_set_or (wpAny_call_entry F.slot_set_or hT Wc ?_ (F.args_set_or_2 _ _));unfold Builtin.«frozenset.__or__»
 show wpAny _ _ (do
  if !(←Builtin.Frozenset.isAnySet (.ref p) <&&> Builtin.Frozenset.isAnySet (.ref q))then rule s!"frozenset.{"__or__"}.declined"; return←ret .notImplemented
  ret (←(do
   let result←Builtin.Frozenset.copyOf p
   if Value.ref q != .ref p then holding [result] (Builtin.Frozenset.updateFrom s!"frozenset.{"__or__"}" (←Builtin.Frozenset.addrOf result) (.ref q))
   return result))) _ _ _
 refine AA (AA (vW (h:=s.heap) hP ?_));simp only[↓reduceIte];refine vW (h:=s.heap) hR ?_;simp only[Bool.not_true,Bool.false_eq_true,↓reduceIte];refine AA (AA (ze2 hb hP ⋯ λh1 f1 k1 ff=>?_));rw[if_pos (by simpa using Ne.symm hne)];refine AA (AB (AA (wpAny_holding ?_)));have hR1:SetI (!bt) q l2 h1:=hR.at λ_ z=>k1 _ _ z;have neq:s.heap.objs.size≠q:=ξA hq;have fin:∀h' l3,Heap.SameBut s.heap.objs.size h1 h'→SetI (!bt) s.heap.objs.size l3 h'→(∀x,x∈l3↔x∈l1∨x∈l2)→(l1.Nodup→l2.Nodup→l3.Nodup)→l3.length≤l1.length + l2.length→Q (.ref s.heap.objs.size) { s with heap:=h' }:=λh' l3 u f a b c =>
  k h' l3 f (λc ob z=>by rw[u.2 c (ζQ (ζq z))]; exact k1 c ob z) a b c
 unfold Builtin.Frozenset.updateFrom;refine AA (vW (s:={ s with heap:=h1 }) (h:=s.heap) hR1 ?_);simp only[↓reduceIte];unfold Builtin.Frozenset.addrOf Builtin.Frozenset.merge;refine AA (AB ?_);obtain⟨ob2,es2,ep2,t2,ho2,hx2,hd2,hE2,hp2,hz2,hf2,ht2⟩:=id hR1;refine AA (wpAny_setEpoch_of (s:={ s with heap:=h1 }) ho2 hd2 hf2 ?_);by_cases e1:l1=[]
 ·subst e1;refine zag (s:={ s with heap:=h1 }) (ff rfl) hR1 neq ⋯ λh' u f _=>?_;exact AB (AB ⟨_,rfl,by simp,fin h' l2 u f (λx=>by simp) (λ_ x=>x) (by simp)⟩)
 ·refine zdL (s:={ s with heap:=h1 }) hb f1 hR1 neq e1 hl (λs' Q' eo qq=>?_) λh' l3 u f a1 a2 a3=>?_
  ·unfold Builtin.Frozenset.unchanged;refine AA (wpAny_setEpoch_of (eo.trans ho2) hd2 hf2 ?_);rw[if_neg (by simp)];exact AB qq
  ·exact AB (AB ⟨_,rfl,by simp,fin h' l3 u f a1 (λx _=>a2 x) a3⟩)
end
section
variable {X:Cx}{K:ζc}{b:Bool}
def rOrB(b:Bool):R2:=λx y H Q=>∃p q l1 l2,x=.ref p∧y=.ref q∧p≠q∧H p=some (SetB b p l1)∧H q=some (SetB b q l2)∧l1.length + l2.length < 2000∧
 ∀c l3,H c=none→(∀k,k∈l3↔k∈l1∨k∈l2)→(l1.Nodup→l2.Nodup→l3.Nodup)→l3.length≤l1.length + l2.length→Q (.ref c) (upd H c (SetB b c l3))
theorem zdE(hc:X.calm=true)(hb:X.w.params.followText "set-order" = b):OpR X (binaryOp .BitOr) (rOrB b):=by
 intro pins s σ H x y v u Q I rx ry h;obtain⟨p,q,l1,l2,rfl,rfl,hne,hp,hq,hz,k⟩:=h;cases rx;cases ry;exact orI hb (I.hok p _ hp).1 (I.hok q _ hq).1 hne hz λh' l3 f kk a1 a2 a3=>⟨.ref s.heap.objs.size,_,I.laid (t':=s.toks) kk (ζl _) (Y1 f),rfl,k _ l3 (I.hok.fresh (ζl _)) a1 a2 a3⟩
theorem YG(ns:AE):(dd ns).Nodup:=by
 suffices z:∀n,(dd (ns.take n)).Nodup by simpa using z ns.length
 intro n;induction n with
 | zero=>exact ξ8
 | succ n ih =>
  by_cases hn:n < ns.length
  ·have e:ns.take (n + 1)=ns.take n ++ [ns[n]]:=by rw[List.take_succ,ζe hn]; rfl
   rw[e,XS];unfold step_dedup;split
   ·exact ih
   ·rename_i h;rw[ζW];refine⟨ih,by simp,λx hx y hy=>?_⟩
    rw[ζi.mp hy];rintro rfl;exact h (List.any_eq_true.mpr ⟨_,hx,by simp⟩)
  ·have e1:ns.take (n + 1)=ns.take n:=by rw[ζI ⋯,ζI ⋯]
   rw[e1];exact ih
theorem Qr{a c:AE}(h:a.Perm c):srt a=srt c:=Zm ((xQ a).trans h) (wL a)
theorem ze1{ns ms l:AE}(h:∀k,k∈l↔k∈dd ns∨k∈dd ms)(nd:l.Nodup):srt l=srt (dd (ns ++ ms)):=by
 refine Qr ?_;rw[ξa nd (YG _)];intro a;rw[h a,uv,uv,uv,ζu]
end
end L2
namespace PD
open PySem L2
section
variable {K:ζc}{S S':Sx}{κ κ' b:Bool}{Γ Γ' Γ'':Ctx}{P:Post}
theorem XM{ta tc:TE}{ns ms:AE}(h1:EvL K S false ta Γ (ns.map .int))(h2:EvL K S false tc Γ (ms.map .int))(hz:ns.length + ms.length < 64):
  EvO K S κ (tCB (Wt b) (zS (tOp (rOrB b) (tCB (Wu K b) (zS ta tNil)) (tCB (Wu K b) (zS tc tNil))) tNil)) Γ ((srt (dd (ns ++ ms))).map .int):=λH0 F0 H F σ e Q q =>
 h1 H0 F0 H F σ e _ λa vs H1 F1 g1 p1 k1=>by
  cases yb (zN k1);refine⟨a,ns,rfl,p1,⋯,λp hp=>?_⟩
  have g2:=g1.trans (.newO g1.le hp (SetB b p (dd ns)));refine h2 H0 F0 _ F1 σ (e.mono g2) _ λc ws H3 F3 g3 p3 k3=>?_;cases yb (zN k3);refine⟨c,ms,rfl,p3,⋯,λr hr=>?_⟩
  have g4:=(g2.trans g3).trans (.newO g3.le hr (SetB b r (dd ms)));have hpH:H3 p=some (SetB b p (dd ns)):=g3.h _ _ zk;have hne:p≠r:=λz=>by rw[z,hr]at hpH; cases hpH
  have d1:=XT ns;have d2:=XT ms;refine⟨p,r,dd ns,dd ms,rfl,rfl,hne,by rw[zr hne]; exact hpH,zk,⋯,λt l3 ht m3 n3 z3=>?_⟩
  have g5:=g4.trans (.newO g4.le ht (SetB b t l3));refine⟨t,l3,rfl,zk,⋯,λf hf=>?_⟩
  rw[ze1 m3 (n3 (YG ns) (YG ms))];exact q f _ _ F3 (g5.trans (.newO g5.le hf _)) (g5.h.free hf) zk (g5.le.free hf) (wQ _)
end
end PD
namespace El
open Wd Sh Sx2
abbrev Asg:=Nat→Int
def upd(a:Asg)(k:Nat)(v:Int):Asg:=λj=>if j=k then v else a j
theorem zk{a:Asg}{k:Nat}{v:Int}:upd a k v k=v:=if_pos rfl
theorem zr{a:Asg}{k j:Nat}{v:Int}(h:j≠k):upd a k v j=a j:=if_neg h
theorem X8{a:Asg}{k j:Nat}{v u:Int}(h:k≠j):upd (upd a k v) j u=upd (upd a j u) k v:=by
 funext i;unfold upd;by_cases h1:i=j
 ·have h2:i≠k:=λz=>h (z ▸ h1);rw[if_pos h1,if_neg h2,if_pos h1]
 ·rw[if_neg h1,if_neg h1]
def vr(ss:AE)(k:Nat):AE:=rng (ss.getD k 0).toNat
theorem zak{x y u v:Int}(h1:Low x y)(h2:Low u v)(h:x * v=u * y):(x,y)=(u,v):=by
 have p1:=h1.pos;have p2:=h2.pos;have c1:Nat.Coprime y.natAbs x.natAbs:=by have:=h1.co; rw[Int.gcd_comm]at this; exact this
 have c2:Nat.Coprime v.natAbs u.natAbs:=by have:=h2.co; rw[Int.gcd_comm]at this; exact this
 have hn:x.natAbs * v.natAbs=u.natAbs * y.natAbs:=by rw[←ξB,h,ξB]
 have d1:y.natAbs ∣ v.natAbs:=c1.dvd_of_dvd_mul_left (hn ▸ Nat.dvd_mul_left ..);have d2:v.natAbs ∣ y.natAbs:=c2.dvd_of_dvd_mul_left (hn ▸ Nat.dvd_mul_left ..);have e:=Nat.dvd_antisymm d1 d2;have e':y=v:=by omega
 subst e';have:x=u:=Int.eq_of_mul_eq_mul_right ⋯ h;rw[this]
theorem zcb{x y a b:Int}(h:Low x y)(hb:0 < b)(e:x * b=a * y):(x,y)=mk a b:=by
 have hc:=zaf (a:=a) hb;have hl:=zdK (a:=a) hb;refine zak h hl ?_;have:x * (mk a b).2 * b=(mk a b).1 * y * b:=by
  calc x * (mk a b).2 * b=x * b * (mk a b).2:=by rw[ξz,ξo (mk a b).2,←ξz]
   _=a * y * (mk a b).2:=by rw[e]
   _=a * (mk a b).2 * y:=by rw[ξz,ξo y,←ξz]
   _=(mk a b).1 * b * y:=by rw[hc]
   _=(mk a b).1 * y * b:=by rw[ξz,ξo b,←ξz]
 exact Int.eq_of_mul_eq_mul_right ⋯ this
theorem Wq{ss ws:AE}(h:ss.length=ws.length)(s v:Int):rkF (ss ++ [s]) (ws ++ [v])=rkF ss ws * s + v:=by
 unfold rkF;rw[List.zip_append h,ξq];rfl
theorem VZ:∀(n:Nat) (ss w:AE),ss.length=n→w.length=n→(∀(i:Nat) s v,ss[i]?=some s→w[i]?=some v→0≤v∧v < s)→wld ss (rkF ss w)=w
 | 0,ss,w,h1,h2,_=>by
  rw[ζZ h1,ζZ h2];rfl
 | n + 1,ss,w,h1,h2,hr=>by
  rcases List.eq_nil_or_concat ss with e | ⟨ss',s,e⟩
  ·rw[e]at h1; cases h1
  rcases List.eq_nil_or_concat w with e' | ⟨w',v,e'⟩
  ·rw[e']at h2; cases h2
  subst e e';rw[List.concat_eq_append]at *;rw[List.concat_eq_append]at *;have l1:ss'.length=n:=by rw[ζg]at h1; exact Nat.succ.inj h1
  have l2:w'.length=n:=by rw[ζg]at h2; exact Nat.succ.inj h2
  have hv:=hr n s v (by rw[ξb ⋯,l1,ξ9]; rfl) (by rw[ξb ⋯,l2,ξ9]; rfl);have ih:=VZ n ss' w' l1 l2 λi s v z1 z2=>hr i s v (by
   have:=(ζh.mp z1).1;rw[ξs this]; exact z1) (by
   have:=(ζh.mp z2).1;rw[ξs this]; exact z2)
  rw[Wq (l1.trans l2.symm),X2];have e1:(rkF ss' w' * s + v) / s=rkF ss' w':=by
   rw[Int.add_comm,Int.add_mul_ediv_right _ _ ⋯,Int.ediv_eq_zero_of_lt hv.1 hv.2,Int.zero_add]
  have e2:(rkF ss' w' * s + v) % s=v:=by
   rw[Int.add_comm,Int.add_mul_emod_self_right,ξJ hv.1 hv.2]
  rw[e1,e2,ih]
def asg:AF→AE→Asg
 | k :: r,v :: w=>upd (asg r w) k v
 | _,_=>λ_=>0
theorem w8:∀(ks:AF) (w:AE) (j:Nat),j∈ks→asg ks w j=w.getD (ks.idxOf j) 0
 | [],_,_,h=>by cases h
 | k :: r,[],j,_=>by simp[asg]
 | k :: r,v :: w,j,h=>by
  show upd (asg r w) k v j=_;by_cases e:j=k
  ·subst e;rw[zk,List.idxOf_cons_self];rfl
  ·rw[zr e,List.idxOf_cons,show(k == j)=false from beq_eq_false_iff_ne.mpr λz=>e z.symm,cond_false,w8 r w j ((ζw.mp h).resolve_left e)];rfl
theorem zcF{ks:AF}(a:Asg){j:Nat}(h:j∈ks):asg ks (ks.map a) j=a j:=by
 have hi:ks.idxOf j < ks.length:=ξv.mpr h;rw[w8 _ _ _ h,ζb,ζo,ζe hi,List.getElem_idxOf hi];rfl
def unF(n:Nat)(ks1 ks2:AF):AF:=(List.range n).filter λj=>decide (j∈ks1 ++ ks2)
theorem xP{n:Nat}{ks1 ks2:AF}{j:Nat}:j∈unF n ks1 ks2↔j < n∧(j∈ks1∨j∈ks2):=by
 unfold unF;rw[ζm,ζE];simp
theorem Qc(n:Nat)(ks1 ks2:AF):(unF n ks1 ks2).Nodup:=List.nodup_range.sublist ζx
def oth(ks:AF)(k:Nat):AF:=ks.filter λx=>x≠k
theorem xB{ks:AF}{k j:Nat}:j∈oth ks k↔j∈ks∧j≠k:=by
 unfold oth;rw[ζm];simp
def rowW(ss:AE)(cs:AI)(ts:List AH)(k:Nat)(w:AE):AE:=(ts.getD k []).getD (rkF (pk ss (cs.getD k [])) ((cs.getD k []).map λj=>w.getD j 0)).toNat []
def tkF(ss:AE)(cs:AI)(ts:List AH)(B:Int)(k:Nat)(w:AE):Int:=(rowW ss cs ts k w).getD (w.getD k 0).toNat 0 * B / (rowW ss cs ts k w).sum
theorem zez{ss:AE}{cs:AI}{ts:List AH}{B:Int}(h0:0≤B)(h1:B≤1010)(hr:∀t∈ts,∀r∈t,∀x∈r,0≤x∧x≤r.sum)(k:Nat)(w:AE):0≤tkF ss cs ts B k w∧tkF ss cs ts B k w≤1010:=by
 unfold tkF;have hx:0≤(rowW ss cs ts k w).getD (w.getD k 0).toNat 0∧(rowW ss cs ts k w).getD (w.getD k 0).toNat 0≤(rowW ss cs ts k w).sum∨(rowW ss cs ts k w).getD (w.getD k 0).toNat 0=0:=by
  generalize (w.getD k 0).toNat=i;by_cases hi:i < (rowW ss cs ts k w).length
  ·refine .inl ?_;have hm:(rowW ss cs ts k w).getD i 0∈rowW ss cs ts k w:=by
    rw[ζb,ζe hi];exact ζ9 hi
   unfold rowW at hm hi ⊢;generalize (rkF (pk ss (cs.getD k [])) ((cs.getD k []).map λj=>w.getD j 0)).toNat=m at hm hi ⊢;by_cases hk:k < ts.length
   ·have e:ts.getD k []∈ts:=by
     rw[ζb,ζe hk];exact ζ9 hk
    by_cases hm':m < (ts.getD k []).length
    ·have e2:(ts.getD k []).getD m []∈ts.getD k []:=by
      rw[ζb (l:=ts.getD k []),ζe hm'];exact ζ9 hm'
     exact hr _ e _ e2 _ hm
    ·rw[ζb (l:=ts.getD k []),ζ7 ⋯]at hi;exact absurd hi (Nat.not_lt_zero _)
   ·rw[ζb (l:=ts),ζ7 ⋯]at hi;exact absurd hi (by simp)
  ·right;rw[ζb,ζ7 ⋯];rfl
 generalize (rowW ss cs ts k w).getD (w.getD k 0).toNat 0=x at hx;generalize (rowW ss cs ts k w).sum=S at hx;rcases hx with⟨a,b⟩ | rfl
 ·rcases Int.lt_or_eq_of_le (Int.le_trans a b)with hS | hS
  ·refine⟨Int.ediv_nonneg (Int.mul_nonneg a h0) ⋯,Int.le_trans (Int.ediv_le_of_le_mul hS ?_) h1⟩
   rw[ξo B];exact ξK b h0
  ·rw[←hS,Int.ediv_zero];exact⟨Int.le_refl _,#[2]⟩
 ·rw[Int.zero_mul,Int.zero_ediv];exact⟨Int.le_refl _,#[2]⟩
end El
namespace PD
open PySem L2
section
variable {K:ζc}{S S':Sx}{κ κ':Bool}{Γ Γ' Γ'':Ctx}{P:Post}
theorem cutT{α:Type}(g:α→AD)(xs:List α)(k:Nat):cutD (xs.map g) none (some (k:Int))=(xs.take k).map g:=by
 unfold cutD;rw[HT.t7];show((xs.map g).drop 0).take (min k (xs.map g).length - 0)=_;rw[List.drop_zero,Nat.sub_zero,ζa,←List.map_take];congr 1;rcases Nat.le_total k xs.length with h | h
 ·rw[ξ2 h]
 ·rw[Nat.min_eq_right h,ζI (ζl _),ζI h]
theorem cutH{α:Type}(g:α→AD)(xs:List α)(k:Nat):cutD (xs.map g) (some (k:Int)) none=(xs.drop k).map g:=by
 unfold cutD;rw[HT.t7];show((xs.map g).drop (min k (xs.map g).length)).take ((xs.map g).length - min k (xs.map g).length)=_;rw[ζI (by rw[ζ5]; exact ζl _),ζa,←List.map_drop];congr 1;rcases Nat.le_total k xs.length with h | h
 ·rw[ξ2 h]
 ·rw[Nat.min_eq_right h,List.drop_of_length_le (ζl _),List.drop_of_length_le h]
theorem zaX:∀(a b:AE),PyData.eqv (.list (a.map .int)) (.list (b.map .int))=decide (a=b)
 | [],[]=>rfl
 | [],_ :: _=>rfl
 | _ :: _,[]=>rfl
 | x :: a,y :: b=>by
  have ih:=zaX a b;have e:PyData.eqv (.list ((x :: a).map .int)) (.list ((y :: b).map .int))=((x == y) && PyData.eqv (.list (a.map .int)) (.list (b.map .int))):=by
   simp[PyData.eqv,PyData.eqvAll]
  rw[e,ih];by_cases h:x=y
  ·subst h; simp
  ·have:(x == y)=false:=by simpa using h
   rw[this];simp[h]
end
end PD
namespace Pb
open Wd Sh Sx2 El
theorem zev{ss:AE}{k:Nat}{v:Int}(hv:v∈vr ss k):0≤v∧v < ss.getD k 0:=by
 unfold vr rng at hv;obtain⟨i,hi,rfl⟩:=ζp.mp hv;have:=ζE.mp hi;omega
theorem zbt:∀(r:AE),((rng r.length).map λv=>r.getD v.toNat 0).sum=r.sum:=λr=>by
 congr 1;unfold rng;rw[ζA];refine List.ext_getElem (by rw[ζa,ζz]) λi h1 h2=>?_;rw[List.getElem_map,ξ3];show r.getD (Int.toNat (i:Int)) 0=_;rw[ζG,ζb,ζe h2];rfl
def asn(a:Asg):AF→AE→Asg
 | k :: r,v :: w=>asn (upd a k v) r w
 | _,_=>a
theorem yS{j:Nat}:∀(ks:AF) (w:AE) (a:Asg),j∉ks→asn a ks w j=a j
 | [],_,_,_=>by unfold asn; rfl
 | k :: r,[],_,_=>rfl
 | k :: r,v :: w,a,h=>by
  show asn (upd a k v) r w j=a j;rw[yS r w _ λz=>h (ζk _ z),zr λz=>h (by rw[z]; exact ζf)]
theorem VR{j:Nat}:∀(ks:AF) (w:AE) (a b:Asg),j∈ks→ks.length=w.length→asn a ks w j=asn b ks w j
 | k :: r,v :: w,a,b,h,hl=>by
  show asn (upd a k v) r w j=asn (upd b k v) r w j;by_cases e:j∈r
  ·exact VR r w _ _ e (by simpa using hl)
  ·have:j=k:=(ζw.mp h).resolve_right e;subst this;rw[yS r w _ e,yS r w _ e,zk,zk]
def putL(vs:AE):AF→AE→AE
 | k :: r,v :: w=>putL (vs.set k v) r w
 | _,_=>vs
theorem wA:∀(ks:AF) (w:AE) (vs:AE),(putL vs ks w).length=vs.length
 | [],_,_=>by unfold putL; rfl
 | k :: r,[],_=>rfl
 | k :: r,v :: w,vs=>by show(putL (vs.set k v) r w).length=_; rw[wA r w,ξC]
theorem Xl{j:Nat}:∀(ks:AF) (w:AE) (vs:AE) (a:Asg),j < vs.length→(∀i,i < vs.length→vs.getD i 0=a i)→(putL vs ks w).getD j 0=asn a ks w j
 | [],_,vs,a,hj,h=>by unfold putL asn; exact h j hj
 | k :: r,[],vs,a,hj,h=>h j hj
 | k :: r,v :: w,vs,a,hj,h=>by
  show(putL (vs.set k v) r w).getD j 0=asn (upd a k v) r w j;refine Xl r w _ _ (by rw[ξC]; exact hj) λi hi=>?_;rw[ξC]at hi;by_cases e:i=k
  ·subst e;rw[ζb,ζt hi,zk];rfl
  ·rw[ζb,ζy (Ne.symm e),zr e,←ζb];exact h i hi
end Pb
namespace PD
open PySem L2
section
variable {K:ζc}{S S':Sx}{κ κ':Bool}{Γ Γ' Γ'':Ctx}{P:Post}
theorem zcu{ta tb:TE}{i j:Int}(ha:EvE K S false ta Γ (.int i))(hb:EvE K S false tb Γ (.int j)):EvE K S κ (tCB (λxs H Q=>∃i j,xs=[.int i,.int j]∧Q (.int (if j < i then j else i)) H) (zS ta (zS tb tNil))) Γ (.int (if j < i then j else i)):=λH0 F0 H F σ e Q q =>
 ha H0 F0 H F σ e _ λv H1 F1 g1 p1=>hb H0 F0 H1 F1 σ (e.mono g1) _ λw H2 F2 g2 p2=>by
  cases yt p1;cases yt p2;exact⟨i,j,rfl,q _ H2 F2 (g1.trans g2) (.int _)⟩
end
end PD
namespace L2
open PySem PySem.Spec PyProof.Rows
section
variable {prog:Program}{w:World}{A:Around}{E:AN}{s:Shared}{b bt:Bool}{a r o p q:Addr}{l l1 l2:AE}
theorem zeS{k:Int}{tk:Tok}{Q:Option Nat→Shared→Prop}(hS:SetI b a l s.heap)(h:∀x:Option Nat,(x.isSome=true↔k∈l)→Q x s):wpAny (model prog w) A (setFind a (.int k tk) (hashInt k)) Q E s:=by
 obtain⟨ob,es,ep,t,ho,hex,hd,hE,hp,hz,hf,ht⟩:=hS;have hel:ElemsOf (intKind prog w) es.toList:=IsE.elems hE;have hm:k∈l↔∃e∈es.toList,(intKind prog w).is k e.2=true:=by
  rw[←hp.mem_iff,ζp];exact⟨λ⟨e,x,y⟩=>⟨e,x,((hE e x).is k).mpr y⟩,λ⟨e,x,y⟩=>⟨e,x,((hE e x).is k).mp y⟩⟩
 unfold setFind setFindIn;refine AA (wpAny_setState_of ho hd hf ?_);dsimp only;rw[byScan_of (knd:=intKind prog w) (x:=.int k tk) rfl hz hel];simp only[↓reduceIte];refine AA (wpAny_rule ?_);refine AA (wpAny_setScan_of (knd:=intKind prog w) (k:=k) (intKind_is _ _ k tk) ho hd hf hel ?_);cases hr:List.findIdx? (λe=>(intKind prog w).is k e.2) es.toList with
 | none =>
  dsimp only;refine AB (h none ⟨λz=>(by cases z),λz=>?_⟩);obtain⟨e,he,hpe⟩:=hm.mp z;have q:=List.findIdx?_eq_none_iff.mp hr e he;rw[hpe]at q; cases q
 | some j =>
  dsimp only;obtain⟨hj,hpj,_⟩:=List.findIdx?_eq_some_iff_getElem.mp hr;exact AB (h (some (0 + j)) ⟨λ_=>hm.mpr ⟨es.toList[j],ζ9 hj,hpj⟩,λ_=>rfl⟩)
theorem zeu{also:List Addr}{Q:Array (Int×Value)→Shared→Prop}(hb:w.params.followText "set-order" = bt)(hR:SetI (!bt) r l1 s.heap)(hO:SetI (!bt) o l2 s.heap)(hA:∀x∈also,∃c l,SetI c x l s.heap)
  (k:∀(ws:Array (Int×Value)) h',(∀e∈ws.toList,IsE e)→(ws.toList.map kOf).Perm l2→Heap.SameBut r s.heap h'→SetI (!bt) r l1 h'→Q ws { s with heap:=h' }):wpAny (model prog w) A (setWalkUnseen o also (some r)) Q E s:=by
 obtain⟨ob,es,ep,t,ho,hex,hd,hE,hp,hz,hf,ht⟩:=id hO;have ks:∀ws:Array (Int×Value),ws.toList.Perm es.toList→Q ws s:=λws pm=>k ws s.heap (λe x=>hE e (pm.mem_iff.mp x)) ((pm.map kOf).trans hp) (Heap.SameBut.refl _ _) hR;unfold setWalkUnseen;refine AA (wpAny_setState_of ho hd hf ?_);dsimp only;unfold setsByText;refine AA (AA (wpAny_askSetting (AB ?_)));rw[show(model prog w).w.params.followText "set-order" = bt from hb];cases bt with
 | true =>
  simp only[Bool.true_or,↓reduceIte];unfold setWalk;refine AA (wpAny_setState_of ho hd hf ?_);dsimp only;unfold setsByText;refine AA (AA (wpAny_askSetting (AB ?_)));rw[show(model prog w).w.params.followText "set-order" = true from hb];simp only[↓reduceIte];exact AA (wpAny_askSetting (AB (ks _ (xT _ _))))
 | false =>
  have led:t.led=true:=ht.led;by_cases c:(false || (t.led && t.plain) || decide (es.size≤1))=true
  ·rw[if_pos c];unfold setWalk;refine AA (wpAny_setState_of ho hd hf ?_);dsimp only;unfold setsByText;refine AA (AA (wpAny_askSetting (AB ?_)));rw[show(model prog w).w.params.followText "set-order" = false from hb];simp only[Bool.false_eq_true,↓reduceIte];split
   ·rename_i z;have z:(!t.plain && decide (es.size > 1))=true:=z;rw[led]at c;simp at c z;have y:¬1 < es.size:=by
     rcases c with c | c
     ·rw[c]at z;exact absurd z.1 #[2]
     ·omega
    exact absurd z.2 y
   ·refine AA (wpAny_of_eq (a:=()) ?_ ?_)
    ·show(if(!t.led && decide (es.size > 1))=true then _ else _)=_;rw[led];rfl
    ·exact AB (ks es (.refl _))
  ·rw[if_neg c];refine AA (QP (λx hx=>?_) ?_)
   ·rcases ζw.mp hx with rfl | hx
    ·exact⟨_,_,hO⟩
    ·exact hA x hx
   rw[if_neg #[2]];refine AA (wpAny_rule ?_);obtain⟨ob1,es1,ep1,t1,ho1,hex1,hd1,hE1,hp1,hz1,hf1,ht1⟩:=id hR;refine AA (wpAny_setState_of ho1 hd1 hf1 ?_);dsimp only;split
   ·refine AA (wpAny_storeSet_of ho1 hd1 ?_ (fits_of_scanBound hz1));refine AB (k es _ hE hp (Heap.SameBut.update ..) ⟨_,es1,_,_,vg ho1 hd1 _ _,hex1,rfl,hE1,hp1,hz1,hf1,⟨?_,ht1.rise,ht1.dum⟩⟩);show(t1.led && t.led)=_;rw[ht1.led,led];rfl
   ·exact AB (ks es (.refl _))
theorem zcR{Q:Nat→Shared→Prop}(hS:SetI b a l s.heap)(k:Q l.length s):wpAny (model prog w) A (Builtin.Frozenset.sizeOf a) Q E s:=by
 obtain⟨ob,es,ep,t,ho,hex,hd,hE,hp,hz,hf,ht⟩:=hS;have hn:es.size=l.length:=by have:=hp.length_eq; simpa using this
 unfold Builtin.Frozenset.sizeOf;refine AA (wpAny_setEntries_of ho hd hf (AB ?_));rw[hn];exact k
theorem zcy{l:AE}{k:Int}(nd:l.Nodup):(step_dedup l k).Nodup∧(∀x,x∈step_dedup l k↔x∈l∨x=k)∧(step_dedup l k).length≤l.length + 1:=by
 unfold step_dedup;split
 ·rename_i z;obtain⟨y,hy,ey⟩:=ξn.mp z;have ey:=eq_of_beq ey;subst ey;exact⟨nd,λx=>⟨.inl,λz=>z.elim id λz=>z ▸ hy⟩,⋯⟩
 ·rename_i z;refine⟨?_,λx=>by rw[ζu,ζi],by rw[ζg]; exact ζl _⟩
  rw[ζW];refine⟨nd,by simp,λx hx y hy=>?_⟩
  rw[ζi.mp hy];rintro rfl;exact z (List.any_eq_true.mpr ⟨_,hx,by simp⟩)
theorem andI{Q:AN}(hb:w.params.followText "set-order" = bt)(hP:SetI (!bt) p l1 s.heap)(hR:SetI (!bt) q l2 s.heap)(hne:p≠q)(hl:l1.length + l2.length < 2000)
  (k:∀h' l3,SetI (!bt) s.heap.objs.size l3 h'→(∀c ob,s.heap.get? c=some ob→h'.get? c=some ob)→(∀x,x∈l3↔x∈l1∧x∈l2)→l3.Nodup→l3.length≤l1.length + l2.length→Q (.ref s.heap.objs.size) { s with heap:=h' }) :
  wpAny (model prog w) A (binaryOp .BitAnd (.ref p) (.ref q)) Q E s:=by
 obtain⟨op,_,_,_,hop,hxp,_⟩:=id hP;obtain⟨oq,_,_,_,hoq,hxq,_⟩:=id hR;have hp:p < s.heap.objs.size:=ζq hop;have hq:q < s.heap.objs.size:=ζq hoq;have hT:s.TypeIs (.ref p) "set" := ⟨op,hop,hxp.1⟩
 refine wpAny_binaryOp_same hT ⟨oq,hoq,hxq.1⟩ F.fills_set_and F.slot_set_and (wpAny_call_entry F.slot_set_and hT Y0 ?_ (F.args_set_and_2 _ _));unfold Builtin.«frozenset.__and__»
 show wpAny _ _ (do
  if !(←Builtin.Frozenset.isAnySet (.ref p) <&&> Builtin.Frozenset.isAnySet (.ref q))then rule s!"frozenset.{"__and__"}.declined"; return←ret .notImplemented
  ret (←Builtin.Frozenset.intersection s!"frozenset.{"__and__"}" p (.ref q))) _ _ _
 refine AA (AA (vW (h:=s.heap) hP ?_));show wpAny _ _ (Builtin.Frozenset.isAnySet (Value.ref q)) _ _ _;refine vW (h:=s.heap) hR ?_;simp only[Bool.not_true,Bool.false_eq_true,↓reduceIte];refine AA ?_;unfold Builtin.Frozenset.intersection;rw[if_neg (by simpa using Ne.symm hne)];unfold Builtin.Frozenset.baseOf;refine AA (AA (wpAny_isInstance (b:=true) ⟨op,hop,hxp.1⟩ sub_set_self (AB ?_)));simp only[↓reduceIte];refine AA (Um hb λo1 f1=>?_);unfold Builtin.Frozenset.addrOf;refine AA (AB ?_);have up:∀c ob,s.heap.get? c=some ob→(s.heap.push o1).get? c=some ob:=λc ob z=>ζj _ z;have hP1:SetI (!bt) p l1 (s.heap.push o1):=hP.at λ_ z=>up _ _ z;have hR1:SetI (!bt) q l2 (s.heap.push o1):=hR.at λ_ z=>up _ _ z;refine AA (wpAny_holding ?_);refine AA (vW (s:={ s with heap:=s.heap.push o1 }) (h:=s.heap) hR1 ?_);rw[if_pos rfl];refine AA (AB ?_);refine AA (zcR (s:={ s with heap:=s.heap.push o1 }) hR1 ?_);refine AA (zcR (s:={ s with heap:=s.heap.push o1 }) hP1 ?_);obtain⟨⟨ak,wk⟩,ep,la,lw,hA,hW,na,nw,hiff,hlw⟩:∃pr:Addr×Addr,(if l2.length > l1.length then(q,p)else(p,q))=pr∧∃la lw,SetI (!bt) pr.1 la (s.heap.push o1)∧SetI (!bt) pr.2 lw (s.heap.push o1)∧s.heap.objs.size≠pr.1∧s.heap.objs.size≠pr.2∧(∀x,x∈la∧x∈lw↔x∈l1∧x∈l2)∧lw.length≤l1.length + l2.length:=by
  by_cases c:l2.length > l1.length
  ·exact⟨_,if_pos c,l2,l1,hR1,hP1,ξA hq,ξA hp,λx=>And.comm,⋯⟩
  ·exact⟨_,if_neg c,l1,l2,hP1,hR1,ξA hp,ξA hq,λx=>Iff.rfl,⋯⟩
 rw[ep];dsimp only at hA hW na nw ⊢;obtain⟨ob2,es2,ep2,t2,ho2,hx2,hd2,hE2,hp2,hz2,hf2,ht2⟩:=id hW;refine AA (wpAny_setEpoch_of (s:={ s with heap:=s.heap.push o1 }) ho2 hd2 hf2 ?_);refine AA (zeu (s:={ s with heap:=s.heap.push o1 }) hb f1.set hW (λx hx=>?_) λws h2 wE wp u2 f2=>?_)
 ·rcases ζw.mp hx with rfl | hx
  ·exact⟨_,_,hA⟩
  ·rw[ζi.mp hx]; exact⟨_,_,f1.set⟩
 refine AA (wpAny_forIn_array' _ (λrest _ s'=>∃l h',s'={ s with heap:=h' }∧Heap.SameBut s.heap.objs.size (s.heap.push o1) h'∧SetI (!bt) s.heap.objs.size l h'∧(∀e∈rest,IsE e)∧(∀x,(x∈l∨(x∈la∧x∈rest.map kOf))↔x∈la∧x∈lw)∧l.Nodup∧l.length + rest.length≤lw.length) _ ?_ ?_ _ _ ⟨[],h2,rfl,u2,f2,wE,λx=>by rw[wp.mem_iff]; simp,List.nodup_nil,by have:=wp.length_eq; rw[List.length_map]at this; simpa using Nat.le_of_eq this⟩)
 ·rintro e rest _ s' ⟨l,h',rfl,u,f,hE',hm,hnd,hlen⟩;obtain⟨kk,tk,rfl⟩:=hE' e (.head _);rw[ζY]at hlen;have hA':SetI (!bt) ak la h':=hA.at λob z=>by rw[u.2 ak (Ne.symm na)]; exact z
  have un:∀(h3:Heap) (Q':Unit→Shared→Prop),Heap.SameBut s.heap.objs.size h' h3→Q' () { s with heap:=h3 }→wpAny (model prog w) A.in1 (Builtin.Frozenset.unchanged s!"frozenset.{"__and__"}" wk ep2) Q' E { s with heap:=h3 }:=λh3 Q' u3 qq=>by
   unfold Builtin.Frozenset.unchanged;refine AA (wpAny_setEpoch_of (s:={ s with heap:=h3 }) ?_ hd2 hf2 ?_)
   ·show h3.get? wk=some ob2;rw[u3.2 wk (Ne.symm nw),u.2 wk (Ne.symm nw)];exact ho2
   ·rw[if_neg (by simp)];exact AB qq
  refine AA (wpAny_holding (AA (zeS (s:={ s with heap:=h' }) hA' λx hx=>?_)));by_cases c:x.isSome=true
  ·rw[if_pos c];refine AA (addI (s:={ s with heap:=h' }) f (by unfold scanBound; omega) λrr h3 u3 f3=>AB ?_);refine AA (un h3 _ u3 (AB ?_));obtain⟨d1,d2,d3⟩:=zcy (k:=kk) hnd;refine⟨_,h3,rfl,u.trans u3,f3,λy hy=>hE' y (.tail _ hy),λy=>?_,d1,⋯⟩
   rw[←hm y,d2 y,ζF];show _↔_∨(_∧y∈kk :: _);rw[ζw];have ka:=hx.mp c;constructor
   ·rintro((z | rfl) | z)
    ·exact .inl z
    ·exact .inr ⟨ka,.inl rfl⟩
    ·exact .inr ⟨z.1,.inr z.2⟩
   ·rintro(z | ⟨z1,z | z⟩)
    ·exact .inl (.inl z)
    ·exact .inl (.inr z)
    ·exact .inr ⟨z1,z⟩
  ·rw[if_neg c];refine AB (AA (un h' _ (Heap.SameBut.refl _ _) (AB ?_)));refine⟨l,h',rfl,u,f,λy hy=>hE' y (.tail _ hy),λy=>?_,hnd,⋯⟩
   rw[←hm y,ζF];show _↔_∨(_∧y∈kk :: _);rw[ζw];have ka:kk∉la:=λz=>c (hx.mpr z);constructor
   ·rintro(z | z)
    ·exact .inl z
    ·exact .inr ⟨z.1,.inr z.2⟩
   ·rintro(z | ⟨z1,rfl | z⟩)
    ·exact .inl z
    ·exact absurd z1 ka
    ·exact .inr ⟨z1,z⟩
 ·rintro _ s' ⟨l,h',rfl,u,f,_,hm,hnd,hlen⟩;refine AB (AB ?_);exact AB ⟨_,rfl,by simp,k h' l f (λc ob z=>by rw[u.2 c (Nat.ne_of_lt (Heap.lt_size z))]; exact up c ob z) (λx=>by rw[←hiff x,←hm x]; simp) hnd (by simp at hlen; omega)⟩
end
section
variable {X:Cx}{K:ζc}{b:Bool}
def zcU(b:Bool):R2:=λx y H Q=>∃p q l1 l2,x=.ref p∧y=.ref q∧p≠q∧H p=some (SetB b p l1)∧H q=some (SetB b q l2)∧l1.length + l2.length < 2000∧
 ∀c l3,H c=none→(∀k,k∈l3↔k∈l1∧k∈l2)→l3.Nodup→l3.length≤l1.length + l2.length→Q (.ref c) (upd H c (SetB b c l3))
theorem zb2(hc:X.calm=true)(hb:X.w.params.followText "set-order" = b):OpR X (binaryOp .BitAnd) (zcU b):=by
 intro pins s σ H x y v u Q I rx ry h;obtain⟨p,q,l1,l2,rfl,rfl,hne,hp,hq,hz,k⟩:=h;cases rx;cases ry;exact andI hb (I.hok p _ hp).1 (I.hok q _ hq).1 hne hz λh' l3 f kk a1 a2 a3=>⟨.ref s.heap.objs.size,_,I.laid (t':=s.toks) kk (ζl _) (Y1 f),rfl,k _ l3 (I.hok.fresh (ζl _)) a1 a2 a3⟩
end
end L2
namespace PD
open PySem L2
section
variable {K:ζc}{S S':Sx}{κ κ' b:Bool}{Γ Γ' Γ'':Ctx}{P:Post}
theorem TM{ta tc:TE}{ns ms:AE}(h1:EvL K S false ta Γ (ns.map .int))(h2:EvL K S false tc Γ (ms.map .int))(hz:ns.length + ms.length < 2000):
  EvE K S κ (tCB (zcT b) (zS (tOp (zcU b) (tCB (Wu K b) (zS ta tNil)) (tCB (Wu K b) (zS tc tNil))) tNil)) Γ (.int ((dd ns).filter λk=>decide (k∈ms)).length):=λH0 F0 H F σ e Q q =>
 h1 H0 F0 H F σ e _ λa vs H1 F1 g1 p1 k1=>by
  cases yb (zN k1);refine⟨a,ns,rfl,p1,⋯,λp hp=>?_⟩
  have g2:=g1.trans (.newO g1.le hp (SetB b p (dd ns)));refine h2 H0 F0 _ F1 σ (e.mono g2) _ λc ws H3 F3 g3 p3 k3=>?_;cases yb (zN k3);refine⟨c,ms,rfl,p3,⋯,λr hr=>?_⟩
  have g4:=(g2.trans g3).trans (.newO g3.le hr (SetB b r (dd ms)));have hpH:H3 p=some (SetB b p (dd ns)):=g3.h _ _ zk;have hne:p≠r:=λz=>by rw[z,hr]at hpH; cases hpH
  have d1:=XT ns;have d2:=XT ms;refine⟨p,r,dd ns,dd ms,rfl,rfl,hne,by rw[zr hne]; exact hpH,zk,⋯,λt l3 ht m3 n3 z3=>?_⟩
  have g5:=g4.trans (.newO g4.le ht (SetB b t l3));have el:l3.length=((dd ns).filter λk=>decide (k∈ms)).length:=by
   refine List.Perm.length_eq ?_;rw[ξa n3 ((YG ns).sublist ζx)];intro k;rw[m3 k,ζm,uv ms k,decide_eq_true_eq]
  refine⟨t,l3,rfl,zk,?_⟩
  rw[el];exact q _ _ F3 g5 (.int _)
theorem zah(ns ms:AE):decide (((((dd ns).filter λk=>decide (k∈ms)).length:Nat):Int) > 0)=ns.any λk=>decide (k∈ms):=by
 rw[Bool.eq_iff_iff,decide_eq_true_eq,ξn];constructor
 ·intro h;obtain⟨k,hk⟩:=List.exists_mem_of_length_pos (l:=(dd ns).filter λk=>decide (k∈ms)) ⋯;obtain⟨h1,h2⟩:=ζm.mp hk;exact⟨k,(uv ns k).mp h1,h2⟩
 ·rintro⟨k,h1,h2⟩;have hk:k∈(dd ns).filter λk=>decide (k∈ms):=ζm.mpr ⟨(uv ns k).mpr h1,h2⟩;have:=List.length_pos_of_mem hk;omega
end
end PD
namespace L2
open PySem PySem.Spec PyProof.Rows
section
variable {X:Cx}{K:ζc}
theorem Vals.ofGet:∀(xs:List V) (us:AK),xs.length=us.length→(∀(i:Nat) x u,xs[i]?=some x→us[i]?=some u→RelV x u)→Vals xs us
 | [],[],_,_=>.nil
 | [],_ :: _,h,_=>by cases h
 | _ :: _,[],h,_=>by cases h
 | x :: xs,u :: us,h,k=>.cons (k 0 x u rfl rfl) (Vals.ofGet xs us (Nat.succ.inj h) λi y v h1 h2=>k (i + 1) y v h1 h2)
def zcS:List V→Hp→VK→Prop:=λxs H Q=>∃n:Int,xs=[.int n]∧∀l,H l=none→Q (.ref l) (upd H l (.rng 0 n))
theorem TX:yX X (.type "range") zcS:=by
 intro pins s σ H xs us Q I r h;obtain⟨n,rfl,q⟩:=h;obtain⟨u,rfl,rx⟩:=vf r;obtain⟨t,rfl⟩:=rx;exact call_range_1 ⟨.ref s.heap.objs.size,_,I.laid (t':=s.toks + 1 + 1) (λb u e=>ζj _ e) (ζl _) (show yA X.prog X.w _ _ _ (.rng 0 n)from⟨_,_,_,ζL _ rfl⟩),rfl,q _ (I.hok.fresh (ζl _))⟩
def Wv:List V→Hp→VK→Prop:=λxs H Q=>∃(p:Addr) (n:Nat),xs=[.ref p]∧H p=some (.rng 0 n)∧n≤1000000∧∀l,H l=none→Q (.ref l) (upd H l (.lst ((List.range n).map λi:Nat=>V.int (i:Int))))
theorem XX(hc:X.calm=true):yX X (.type "list") Wv:=by
 intro pins s σ H xs us Q I r h;obtain⟨p,n,rfl,hp,hn,q⟩:=h;obtain⟨u,rfl,rx⟩:=vf r;cases rx;obtain⟨t,u,v,ho⟩:∃t u v,s.heap.get? p=some { cls:=.type "range", data:=.fields #[.int 0 t,.int n u,.int 1 v] }:=I.hok p _ hp;have rs:Builtin.Range.rangeSize 0 n 1=(n:Int):=by
  unfold Builtin.Range.rangeSize;simp;omega
 refine call_list_range (n:=n) (I.ok.hd hc) ho ?_ ?_ ⋯ λh' tk acc' c' hk hS hacc=>?_
 ·exact small_one ⋯ ⋯ ⋯ ⋯
 ·exact rs
 ·have hl:acc'.toList.length=n:=by rw[ζP]; exact hacc.1
  refine⟨.ref s.heap.objs.size,_,I.laid (t':=tk) hk (ζl _) (show yA X.prog X.w _ h' _ (.lst ((List.range n).map λi:Nat=>V.int (i:Int)))from⟨by rw[ζa,ζz,sizeLine_eq]; omega,acc'.toList,c',Vals.ofGet _ _ (by rw[ζa,ζz,hl]) λi x u h1 h2=>?_,hS⟩),rfl,q _ (I.hok.fresh (ζl _))⟩
  have hi:i < n:=by
   have:=(ζh.mp h2).1;omega
  rw[ζo,ξD hi]at h1;cases h1;obtain⟨t',rfl⟩:=hacc.2 i u (by rw[←ξg]; exact h2);exact⟨t',by rw[Int.mul_one,Int.zero_add]⟩
end
end L2
namespace PD
open PySem L2
section
variable {K:ζc}{S S':Sx}{κ κ':Bool}{Γ Γ' Γ'':Ctx}{P:Post}
theorem WV{ta:TE}{n:Nat}(h:EvE K S false ta Γ (.int (n:Int)))(hn:n≤1000000):EvO K S κ (tCB Wv (zS (tCB zcS (zS ta tNil)) tNil)) Γ ((List.range n).map λi:Nat=>.int (i:Int)):=λH0 F0 H F σ e Q q =>
 h H0 F0 H F σ e _ λv H1 F1 g1 p1=>by
  cases yt p1;refine⟨n,rfl,λp hp=>⟨p,n,rfl,zk,hn,λl hl=>?_⟩⟩
  have g2:=g1.trans (.newO g1.le hp (.rng 0 n));have hr:zq K κ S H0 F1 ((List.range n).map λi:Nat=>V.int (i:Int)) ((List.range n).map λi:Nat=>.int (i:Int)):=by
   have:=wQ (K:=K) (κ:=κ) (S:=S) (H0:=H0) (F:=F1) ((List.range n).map λi:Nat=>(i:Int));rw[ζA,ζA]at this;exact this
  exact q l _ _ F1 (g2.trans (.newO g2.le hl _)) (g2.h.free hl) zk (g2.le.free hl) hr
end
end PD
namespace L2
open PySem PySem.Spec PyProof.Rows
section
variable {X:Cx}{K:ζc}
def rm(k:Int)(ns:AE):AE:=ns.take (ns.idxOf k) ++ ns.drop (ns.idxOf k + 1)
def V8:V→List V→Hp→VK→Prop:=λx vs H Q=>∃l,∃ns:AE,∃k,x=.ref l∧vs=[.int k]∧H l=some (.lst (ns.map V.int))∧k∈ns∧Q .non (upd H l (.lst ((rm k ns).map V.int)))
theorem Tq:MtM X "list.remove" V8:=by
 intro pins s σ H x vs v us Q I rx rv h;obtain⟨l,ns,k,rfl,rfl,hH,hk,q⟩:=h;cases rx;obtain⟨u,rfl,ru⟩:=rv.one;obtain⟨t,rfl⟩:=ru;obtain⟨z,its,n,r,hl,e⟩:=I.lstM hH;have hi:=xU r;have hj:ns.idxOf k < ns.length:=ξv.mpr hk;have hl':=r.length;rw[ζa]at hl' z;refine call_meets F.slot_list_remove ⟨_,e,rfl⟩ F.entry_list_remove (F.args_list_remove_2 _ _) (MeetsSeq.list_remove l its.toArray n (.int k t) (isInt k) (λy hy=>eq_isInt k t hi y (by simpa using hy)) (ns.idxOf k) (by rw[List.size_toArray]; omega) ?_ (λm hm lt=>?_) (by rw[List.size_toArray]; omega)) ⟨e,?_⟩
 ·show isInt k its[ns.idxOf k]=true;rw[isInt_at k hi (ns.idxOf k) ⋯ hj];simp
 ·show isInt k its[m]=false;rw[ζS]at hm;rw[isInt_at k hi m hm ⋯];exact ne_of_lt_idxOf lt ⋯
 ·refine⟨.non,_,I.lset (its':=its.take (ns.idxOf k) ++ its.drop (ns.idxOf k + 1)) hH e ?_ (by unfold rm; rw[List.map_append,List.map_take,List.map_drop]; exact(r.take _).append (r.drop _)) ?_,rfl,q⟩
  ·apply Array.toList_inj.mp;rw[List.eraseIdxIfInBounds_toArray,ξ7]
  ·unfold rm;rw[ζa,ζg,ζN,ζ5];omega
end
end L2
namespace PD
open PySem L2
section
variable {K:ζc}{S S':Sx}{κ κ':Bool}{Γ Γ' Γ'':Ctx}{P:Post}
theorem exrm{te:TE}{i:Nat}{ns:AE}{k:Int}(h:GetC Γ i (.ow κ (ns.map .int)))(he:EvE K S false te Γ (.int k))(hk:k∈ns)(es:SetC Γ i (some (.ow κ ((rm k ns).map .int))) Γ')(kk:P.nx Γ'):
  ExS K S (xX (tBM K "list" V8 (tVar i) (zS te tNil))) Γ P:=λH0 F0 H F σ B e b _ D I=>by
 have h:=h.eq;obtain⟨v0,q1,a,vs,rfl,w,q5⟩:=e.has i _ h;refine⟨_,q1,.inl ⟨rfl,_,SqL.of w.h⟩,he H0 F0 H F σ e _ λv1 H1 F1 g1 p1=>?_⟩
 cases yt p1;cases yb (zN q5);refine⟨a,ns,k,rfl,rfl,g1.h _ _ w.h,hk,?_⟩
 have:=(e.mono g1).put (vs:=(rm k ns).map V.int) (y:=.ow κ ((rm k ns).map .int)) h q1 (show Owns H1 (.ref a) (.ow κ (ns.map .int)) a from rfl) ⟨a,_,rfl,⟨zk,(w.mono g1).f,w.n,w.s⟩,wQ _⟩ λ_ z=>z;rw[es.eq]at this;exact I.nx _ _ _ F1 kk (b.trans g1.f) this
end
end PD
namespace L2
open PySem PySem.Spec PyProof.Rows PySem.W
abbrev knw(o:Obj):HO:=.frz o (.ext λ_=>True)
theorem XI{P:Program}{w:World}{H:Hp}{h:Heap}{a:Addr}{o:Obj}(e:h.get? a=some o):yA P w H h a (knw o):=⟨e,trivial,⟨o,e⟩,λ_ _ _ _=>trivial⟩
def ze6(H:Hp)(c:Addr)(v:V):Prop:=∃o u,H c=some (knw o)∧o.data=.cell (some u)∧RelV v u
def W9(H:Hp)(c:Addr)(q:Str):Prop:=∃o fs t,H c=some (knw o)∧o.data=.fields fs∧fs[1]?=some (.str q t)
structure vJ(x:Str)(ys:AJ)(sc:Scope):Prop where
 kind:sc.kind=.function
 co:sc.isCoroutine=false
 gen:sc.isGenerator=false
 nd:(x :: ys).Nodup
 par:sc.names.lookup x=some .local
 nocell:∀y∈sc.names,y.2≠.cell
 fre:∀y,sc.names.lookup y=some .free→y∈ys
 isf:∀y∈ys,sc.names.lookup y=some .free
def cxL(P:Program)(w:World)(K:ζc)(mg:AO)(base:Heap)(N:AJ)(qual:Str)(scope:Scope)(f:Addr)(cd:Value)(cl:List (Str×Addr))(A:Around)(outer:List Env)(s:Shared)(H:Hp):Cx where
 prog:=P
 w:=w
 K:=K
 mg:=mg
 base:=base
 A:=A.deeper (envX qual scope s.heap.objs.size f cd cl)
 N:=N
 s₀:=s
 H₀:=H
 env:=envX qual scope s.heap.objs.size f cd cl
 outer:=outer
 stack:=envX qual scope s.heap.objs.size f cd cl :: outer
 ex:=[]
 calm:=true
 fn:=λ_=>false
 pn:=[]
 xe:=λ_ _=>False
structure ZZ(H:Hp)(ys:AJ)(va:Str→V)(cl:List (Str×Addr)):Prop where
 has:∀y∈ys,∃c,cl.lookup y=some c
 cel:∀y c,cl.lookup y=some c→y∈ys∧ze6 H c (va y)
 inj:∀y z c,cl.lookup y=some c→cl.lookup z=some c→y=z
section
variable {P:Program}{w:World}{K:ζc}{mg:AO}{base:Heap}{x:Str}{ys:AJ}{va:Str→V}{qual:Str}{scope:Scope}{f:Addr}{cd:Value}{cl:List (Str×Addr)}{A:Around}{outer:List Env}{s:Shared}{H:Hp}
theorem zch{v:V}{u:Value}{h1:Heap}{tk:Nat}(S:vJ x ys scope)(hd:A.handled=none)(e0:Env0 P w K mg base A outer s H)(rv:RelV v u)(C:ZZ H ys va cl)
  (hns:h1.Ns s.heap.objs.size λy=>[(x,u)].reverse.lookup y) (hk:∀b o,s.heap.get? b=some o→h1.get? b=some o) :
  Inv (cxL P w K mg base (x :: ys) qual scope f cd cl A outer s H) [] (some v :: ys.map λy=>some (va y)) H { s with heap:=h1,toks:=tk }:=by
 have noA:∀b:Addr,b∉(cxL P w K mg base (x :: ys) qual scope f cd cl A outer s H).ex:=λb z=>absurd (show b∈([]:List Addr)from z) (by simp);have cel:∀y c,cl.lookup y=some c→∃u',RelV (va y) u'∧h1.IsCell c (some u'):=λy c e=>by
  obtain⟨o,u',e1,e2,e3⟩:=(C.cel y c e).2;exact⟨u',e3,o,hk _ _ (e0.hok _ _ e1).1,e2⟩
 refine⟨⟨e0.mod,S.kind,rfl,rfl,ζl _,λy z c h1 h2=>C.inj y z c h1 h2,λy hy=>?_,(λy c z _=>by cases z),λ_=>hd,Around.frames_deeper e0.frames,.inr ⟨rfl,rfl⟩,λb z=>absurd z (noA b),e0.bs,e0.bsz,λb _ _=>noA b,λb z=>absurd z (noA b),e0.funs,e0.frf,e0.tb⟩,
  rfl,e0.bare,Un.kept hk,⟨_,hns,λi y v' q1 q2 q3=>?_⟩,λy c e=>?_,e0.hok.fresh (Nat.le_refl _),λy c e=>?_,λp hp=>absurd (show p∈([]:AL)from hp) (by simp),e0.hok.kept hk,?_⟩
 ·have hy:scope.names.lookup y=some .cell∨scope.names.lookup y=some .free:=hy;rcases hy with hy | hy
  ·exact absurd rfl (S.nocell _ (PySem.mem_of_lookup hy))
  ·exact C.has y (S.fre y hy)
 ·have q1:(x :: ys)[i]?=some y:=q1;cases i with
  | zero =>
   have e1:x=y:=by simpa using q1
   have e2:v=v':=by simpa using q2
   subst e1 e2;exact⟨u,rv,.inl ⟨S.par,by show List.lookup x [(x,u)]=_; simp⟩⟩
  | succ i =>
   have q1:ys[i]?=some y:=by simpa using q1
   have q2:(ys.map λy=>some (va y))[i]?=some (some v'):=by simpa using q2
   rw[ζo,q1]at q2;have e2:va y=v':=by simpa using q2
   subst e2;have my:=ζd q1;obtain⟨c,hc⟩:=C.has y my;obtain⟨u',r',z⟩:=cel y c hc;exact⟨u',r',.inr ⟨.inr (S.isf y my),c,hc,z⟩⟩
 ·obtain⟨u',_,z⟩:=cel y c e;exact⟨_,z⟩
 ·obtain⟨o,_,e1,_⟩:=(C.cel y c e).2;exact .inr ⟨rfl,o,_,e1⟩
 ·show _=(x :: ys).length;simp
theorem zdN{k:Nat}{c':Addr}{params:Arguments}{body:Expr}{pm ctv:Value}{sp:Sp}(S:vJ x ys scope)(len:∀vs H Q E,sp vs H Q E→vs.length=1)
  (hsp:∀vs H Q E,sp vs H Q E→H f=some (knw (kla_obj "<lambda>" qual params body scope cl pm c' ctv))∧W9 H c' qual∧ZZ H ys va cl)
  (hbody:∀(A:Around) (outer:List Env) (s:Shared) (H:Hp) (v:V) (Q:VK) (E:XK),Room k (A.deeper (envX qual scope s.heap.objs.size f (.ref c') cl))→sp [v] H Q E→
   ∃te,PE (cxL P w K mg base (x :: ys) qual scope f (.ref c') cl A outer s H) body te∧te (some v :: ys.map λy=>some (va y)) H Q) :
  FnOk P w K mg base CX0 (k + 1) f (kla_fn "<lambda>" qual params body scope cl pm (.ref c') ctv) [x] sp:=by
 refine⟨λvs H Q E h=>len vs H Q E h,λA outer s H args us vs Q E hr e0 hb r hq=>?_⟩
 have hl:=len _ _ _ _ hq;obtain⟨v,rfl⟩:∃v,vs=[v]:=by
  match vs,hl with
  | [v],_=>exact⟨v,rfl⟩
 obtain⟨u,rfl,rv⟩:=r.one;obtain⟨hf,⟨oc,fcs,t,hc,d1,d2⟩,C⟩:=hsp _ _ _ _ hq;have lim:s.heap.NoLimit:=e0.mod.nolimit.keeps λb o e=>(e0.bs b o e).1;refine kla_callFunE hr.depth (e0.hok _ _ hf).1 rfl S.co S.gen rfl ⟨c',oc,fcs,t,rfl,(e0.hok _ _ hc).1,d1,d2⟩ (hb _ _ _ _ ?_);refine wpAny_newFunctionEnv S.nocell (λy hy=>?_) (λh₁ hns hsb=>⟨lim.fresh _ hsb,?_⟩) S.kind
 ·have e:y=(x,u):=by simpa using hy
  rw[e];exact S.par
 show codeAny _ _ (.expr body (envX qual scope s.heap.objs.size f (.ref c') cl)) _ _;have hk₁:∀b o,s.heap.get? b=some o→h₁.get? b=some o:=λb o e=>hsb.extBut b o (ζQ (ζq e)) (ζj _ e);obtain⟨te,ht,hq'⟩:=hbody A outer s H v Q E (hr.deeper _) hq;refine kla_codeExpr (wpAny_mono (ht [] _ _ H _ (zch S hr.hd e0 rv C hns hk₁) hq') (λu' s' hs=>?_) λe s' z=>False.elim z);obtain⟨v',H',J,rv',q⟩:=hs;exact⟨v',H',J.os,J.bare,J.base,J.hok,rv',q⟩
end
theorem VS{p:Pos}{v c:Value}{i j:Int}:∀(l:AK),TriplesOk l→codeAmong p (l ++ [rawInt i,rawInt j,c])=some v→codeAmong p l=some v∨v=c:=by
 intro l
 fun_induction TriplesOk l with
 | case1 =>
  intro _ h;simp only[List.nil_append,codeAmong,rawInt]at h;split at h
  ·cases h; exact .inr rfl
  ·cases h
 | case2 a t b u x rest ih =>
  intro ht h;simp only[List.cons_append,codeAmong]at h ⊢;split at h
  ·rename_i hc;rw[if_pos hc];exact .inl h
  ·rename_i hc;rw[if_neg hc];exact ih ht h
 | case3 l h1 h2=>intro h; exact h.elim
def zbk(H H':Hp):Prop:=∀b,H' b=H b∨H b=none∧∃o,H' b=some (knw o)
section
variable {X:Cx}{pins:AL}{σ:St}{H:Hp}{s:Shared}
theorem Inv.tb(I:Inv X pins σ H s):TbOk X.K H:=I.ok.tb.un I.base
theorem zao{E:AN}{Q:AN}{params:Arguments}{body:Expr}{lsc:Scope}{lpos:Pos}{q:Str}{c P:Addr}{clos:List (Str×Addr)}(I:Inv X pins σ H s)
  (hcode:X.env.code=.ref c) (hhd:codeHdIn X.K c P=true) (htab:(P,q)∈yq X.K) (hq:X.env.qual ++ "<lambda>" = q) (hcl:closureFor lsc X.env=pure clos) (hdef:defaultsOf params X.env=([],[]))
  (h:∀s' H' f c' pm ctv,Inv X pins σ H' s'→zbk H H'→H f=none→H' f=some (knw (kla_obj "<lambda>" q params body lsc clos pm c' ctv))→W9 H' c' q→Q (.ref f) s') :
  wpAny (model X.prog X.w) X.A (eval (.Lambda params body lsc lpos) X.env) Q E s:=by
 obtain⟨t,more,hP⟩:=I.tb (P,q) htab;obtain⟨vs,hPo,ht,hcs⟩:=I.hok P _ hP;have tag:tagQ (#[.str q t] ++ more)=q:=by
  have e0:(#[Value.str q t] ++ more)[0]?=some (.str q t):=by rw[Array.getElem?_append_left (by simp)]; rfl
  unfold tagQ;rw[e0]
 have hd:CodeHd s.heap c P:=codeHd_of_K I.kIn hhd;have hns:s.heap.Ns mainGlobals X.mg:=I.mod.glob.keeps I.bk;have neP:∀{b:Addr},H b=none→b≠P:=λn z=>by rw[z,hP]at n; cases n
 have hbt:s.heap.BuiltinsAt X.mg P:=by
  obtain⟨bm,ob,b1,b2,b3,b4,b5,b6⟩:=I.mod.bm;obtain⟨b3',n⟩:=I.bs bm ob b3;refine⟨bm,ob,b1,b2,λz=>?_,neP n,b3',b4,b5,b6⟩
  obtain⟨o,es,ep,e,d,_⟩:=hns;rw[z,e]at b3'; cases b3'; rw[d]at b6; cases b6
 have hgP:mainGlobals≠P:=λz=>by
  obtain⟨o,es,ep,e,d,_⟩:=hns;rw[z,hPo]at e; cases e; cases d
 refine kla_eval hdef ?_;rw[hq];cases hc:codeAmong lpos vs.toList with
 | some cv =>
  obtain⟨c',oc,fs,t',rfl,k1,k2,k3⟩:=hcs lpos cv hc;rw[tag]at k3;refine kla_makeFunctionHit hcl I.ok.glob hns hcode hd hPo ht hc hbt λctv h' tk hk hsz=>?_;have fr:H h'.objs.size=none:=I.hok.fresh hsz;have ob:(h'.push (kla_obj "<lambda>" q params body lsc clos ((X.mg "__name__").getD .none) c' ctv)).get? h'.objs.size=some _:=ζL _ rfl;refine h _ (upd H h'.objs.size (knw (kla_obj "<lambda>" q params body lsc clos ((X.mg "__name__").getD .none) c' ctv))) h'.objs.size c' ((X.mg "__name__").getD .none) ctv (I.laid (t':=tk) (λb u e=>ζj _ (hk b u e)) hsz (XI ob)) (λb=>?_) fr zk ⟨oc,fs,t',by rw[zr (zL k1 fr)]; exact k1,k2,k3⟩;by_cases e:b=h'.objs.size
  ·subst e; exact .inr ⟨fr,_,zk⟩
  ·exact .inl (zr e)
 | none =>
  refine kla_makeFunction hcl I.ok.glob hns hcode hd hPo ht hc hgP hbt λc' ctv h' tk hx hge hlt hrec htb=>?_;obtain⟨c2,oc,fs,t',e2,hoc,k2,k3⟩:=hrec;cases e2;let fo:=kla_obj "<lambda>" q params body lsc clos ((X.mg "__name__").getD .none) c' ctv;let H1:Hp:=upd (upd H c' (knw oc)) h'.objs.size (knw fo);have frc:H c'=none:=I.hok.fresh hge;have frf:H h'.objs.size=none:=I.hok.fresh (Nat.le_of_lt (ζ6 hge hlt));have ncf:c'≠h'.objs.size:=ζQ hlt;have at0:∀b,b≠c'→b≠h'.objs.size→H1 b=H b:=λb n1 n2=>by show upd _ _ _ b=_; rw[zr n2,zr n1]
  have atc:H1 c'=some (knw oc):=by show upd _ _ _ c'=_; rw[zr ncf,zk]
  have atf:H1 h'.objs.size=some (knw fo):=zk;have keep1:∀{b:Addr} {u:HO},H b=some u→H1 b=some u:=λ{b u} e=>by rw[at0 b (zL e frc) (zL e frf)]; exact e
  have ho:∀b o,b≠P→s.heap.get? b=some o→(h'.push fo).get? b=some o:=λb o n e=>ζj _ (hx b o n e);have lt:∀{b:Addr} {o:Obj},s.heap.get? b=some o→b≠c'∧b≠h'.objs.size:=λ{b o} e=>by
   have l:=ζq e;exact⟨ζQ (ζH l hge),ζQ (ζH l (Nat.le_of_lt (ζ6 hge hlt)))⟩
  have un:Un X.fs [] H H1 s.heap (h'.push fo):=by
   refine⟨λb o e n _ _=>ho b o (neP n) e,λb o e n _ _=>⟨o.slots,ho b o (neP n) e⟩,λb o e n _=>by rw[at0 b (lt e).1 (lt e).2]; exact n,λb o e _=>?_,λb xs e=>keep1 e,λb o u e=>keep1 e,λb ps e=>⟨#[],by rw[keep1 e]; simp⟩⟩
   by_cases z:b=P
   ·subst z; exact⟨_,ζj _ htb⟩
   ·exact⟨o,ho b o z e⟩
  have hok:HOk X.prog X.w H1 (h'.push fo):=λb u e=>by
   by_cases z1:b=h'.objs.size
   ·subst z1;rw[atf]at e; cases e;exact XI (ζL _ rfl)
   ·by_cases z2:b=c'
    ·subst z2;rw[atc]at e; cases e;exact XI (ζj _ hoc)
    ·rw[at0 b z2 z1]at e;by_cases z3:b=P
     ·subst z3;rw[hP]at e; cases e;refine⟨vs ++ #[rawInt lpos.line,rawInt lpos.col,.ref c'],ζj _ htb,?_,λp v z=>?_⟩
      ·rw[Array.toList_append];exact TriplesOk_snoc _ _ _ _ ht
      ·rw[Array.toList_append]at z;rcases VS _ ht z with y | y
       ·obtain⟨b1,o1,fs1,t1,y1,y2,y3,y4⟩:=hcs p v y;exact⟨b1,o1,fs1,t1,y1,keep1 y2,y3,y4⟩
       ·exact⟨c',oc,fs,t',y,atc,k2,by rw[tag]; exact k3⟩
     ·refine(I.hok b u e).stay (λd v hd' y=>ho d v ?_ y) (λd y=>keep1 y) (λd xs y=>keep1 y) λd o' u' y _=>keep1 y;rcases hd' with rfl | hd'
      ·exact z3
      ·intro y; rw[y,hP]at hd'; cases hd'
  refine h _ H1 h'.objs.size c' ((X.mg "__name__").getD .none) ctv (I.un (t':=tk) un hok) (λb=>?_) frf atf ⟨oc,fs,t',atc,k2,k3⟩;by_cases z1:b=h'.objs.size
  ·subst z1; exact .inr ⟨frf,_,atf⟩
  ·by_cases z2:b=c'
   ·subst z2; exact .inr ⟨frc,_,atc⟩
   ·exact .inl (at0 b z2 z1)
end
def tGL(te:TE)(params:Arguments)(body:Expr)(lsc:Scope)(q:Str)(caps:List (Str×Nat))(sp:Sp):TE:=λσ H Q=>te σ H λv1 H1=>∃va:Str→V,(∀p∈caps,σ[p.2]?=some (some (va p.1)))∧
 ∀(cl:List (Str×Addr)) (f c':Addr) (pm ctv:Value) (H2:Hp),zbk H1 H2→H1 f=none→H2 f=some (knw (kla_obj "<lambda>" q params body lsc cl pm c' ctv))→W9 H2 c' q→ZZ H2 (caps.map (·.1)) va cl→
  sp [v1,.ref f] H2 (λv H3=>∀H4:Hp,(∀b,H4 b=H3 b∨H4 b=none∧H1 b=none∧∃o,H2 b=some (knw o))→Q v H4) E0
section
variable {X:Cx}{k:Nat}{ps:AJ}{sp:Sp}{g:Str}{p cpos lpos:Pos}{e:Expr}{te:TE}{params:Arguments}{body:Expr}{lsc:Scope}{q:Str}{c P:Addr}{clos:List (Str×Addr)}{caps:List (Str×Nat)}
theorem Vu(C:zt X.prog X.w X.K X.mg X.base CX0 g ps k sp)(hr:Room k X.A)(hg:Gl X g)(he:PE X e te)(hcode:X.env.code=.ref c)(hhd:codeHdIn X.K c P=true)(htab:(P,q)∈yq X.K)(hq:X.env.qual ++ "<lambda>" = q)
  (hcl:closureFor lsc X.env=pure clos) (hdef:defaultsOf params X.env=([],[])) (hN:∀p∈caps,X.N[p.2]?=some p.1∧X.env.scope.names.lookup p.1=some .cell) (hk1:∀p∈clos,p.1∈caps.map (·.1)∧X.env.cells.lookup p.1=some p.2) (hk2:∀p∈caps,(clos.lookup p.1).isSome=true) (hfn:∀y,X.fn y=true)
  (hdb:(g == ("__debug__" : Str))=false:=by decide) (hs1:starEach [e,.Lambda params body lsc lpos] X.env=(false,eval e X.env) :: starEach [.Lambda params body lsc lpos] X.env:=by rfl) (hpl:(backTo cpos (starEach [.Lambda params body lsc lpos] X.env)).any (·.1)=false:=by rfl) :
  PE X (.Call (.Name g p) [e,.Lambda params body lsc lpos] [] cpos) (tGL te params body lsc q caps sp):=by
 intro pins s σ H Q I h;obtain⟨f0,fd,F,hm,hk,hb⟩:=C.ex;refine wpAny_Call_Name_kw (XH I hg hm ?_ hdb);refine callWith_K (h₀:=X.base) I.ok.mod.kin hk ?_ hs1 hpl;rw[hs1];show wpAny _ _ (spliced ((false,eval e X.env) :: backTo cpos (starEach [.Lambda params body lsc lpos] X.env))) _ _ s;refine Calls.spliced_cons (thn (he pins s σ H _ I h) λu1 s1 ⟨v1,H1,I1,r1,va,hva,hsp⟩=>?_);show wpAny _ _ (spliced ((false,eval (.Lambda params body lsc lpos) X.env) :: backTo cpos (starEach [] X.env))) _ _ s1;refine Calls.spliced_cons (zao I1 hcode hhd htab hq hcl hdef λs2 Ha f c' pm ctv I2 up frf hf hcd=>?_);refine Calls.spliced_nil ?_;refine⟨I2.kIn,?_⟩
 have cel:∀y b,(y,b)∈clos→Ha b=none∧X.env.cells.lookup y=some b∧y∈caps.map (·.1)∧∃o u,s2.heap.get? b=some o∧o.data=.cell (some u)∧RelV (va y) u:=λy b hy=>by
  obtain⟨m1,m2⟩:=hk1 (y,b) hy;obtain⟨pp,hp,e1⟩:=ζp.mp m1;have e1:pp.1=y:=e1;have n:=hN pp hp;have vv:=hva pp hp;rw[e1]at n vv;have fr:Ha b=none:=(I2.freeC y b m2).elim (λz=>z) λz=>by rw[hfn y]at z; cases z.1
  obtain⟨m,hn,hl⟩:=id I2.loc;obtain⟨u,ru,lk⟩:=hl pp.2 y (va y) n.1 vv (.inr (.inl n.2));refine⟨fr,m2,m1,?_⟩
  rcases lk with⟨z,_⟩ | ⟨_,b2,z2,o,z3,z4⟩
  ·have z':X.env.scope.names.lookup y=some .local:=z;rw[n.2]at z'; cases z'
  ·rw[m2]at z2; cases z2;exact⟨o,u,z3,z4,ru⟩
 let cs:List Addr:=clos.map (·.2);have inC:∀{b:Addr},b∈cs→∃y,(y,b)∈clos:=λ{b} hb=>by
  obtain⟨⟨y,b'⟩,h1,h2⟩:=ζp.mp hb;have:b'=b:=h2;subst this;exact⟨y,h1⟩
 have frC:∀{b:Addr},b∈cs→Ha b=none:=λhb=>let⟨y,hy⟩:=inC hb; (cel y _ hy).1;let H2:Hp:=λb=>if b∈cs then(s2.heap.get? b).map knw else Ha b
 have h2n:∀{b:Addr},b∉cs→H2 b=Ha b:=λhb=>if_neg hb;have h2c:∀{b:Addr},b∈cs→∃y o u,(y,b)∈clos∧s2.heap.get? b=some o∧H2 b=some (knw o)∧o.data=.cell (some u)∧RelV (va y) u:=λ{b} hb=>by
  obtain⟨y,hy⟩:=inC hb;obtain⟨_,_,_,o,u,z1,z2,z3⟩:=cel y b hy;exact⟨y,o,u,hy,z1,by show(if b∈cs then _ else _)=_; rw[if_pos hb,z1]; rfl,z2,z3⟩
 have nC:∀{b:Addr} {x:HO},Ha b=some x→b∉cs:=λ{b x} hx hb=>by rw[frC hb]at hx; cases hx
 have keep2:∀{b:Addr} {x:HO},Ha b=some x→H2 b=some x:=λhx=>by rw[h2n (nC hx)]; exact hx
 have hok2:HOk X.prog X.w H2 s2.heap:=λb x hx=>by
  by_cases hb:b∈cs
  ·obtain⟨_,o,u,_,z1,z2,_⟩:=h2c hb;rw[z2]at hx; cases hx;exact XI z1
  ·rw[h2n hb]at hx;exact(I2.hok b x hx).stay (λ_ _ _ z=>z) (λ_ z=>keep2 z) (λ_ _ z=>keep2 z) λ_ _ _ z _=>keep2 z
 have big:∀{b:Addr},b∈cs→X.s₀.heap.objs.size≤b∧b≠X.env.locals:=λ{b} hb=>by
  obtain⟨y,hy⟩:=inC hb;obtain⟨_,m2,_⟩:=cel y b hy;exact⟨I2.ok.cab y b (hfn y) m2,I2.cne y b m2⟩
 have e0:Env0 X.prog X.w X.K X.mg X.base X.A X.stack s2 H2:=by
  have e:=I2.env0;refine⟨e.frames,e.mod,λb o z=>⟨(e.bs b o z).1,?_⟩,e.bsz,e.funs,λb hb=>?_,hok2,e.bare,λp hp=>?_⟩
  ·rw[h2n λhb=>absurd (ζH (ζq (I2.ok.bs b o z).1) (big hb).1) (ξk _)];exact(e.bs b o z).2
  ·rw[h2n λhc=>?_]
   ·exact e.frf b hb
   ·rcases ζw.mp (I2.stkSub b hb)with z | z
    ·exact(big hc).2 z
    ·obtain⟨_,o,ho,_⟩:=I2.ok.funs.mem z;exact absurd (ζH (ζq ho) (big hc).1) (ξk _)
  ·obtain⟨t,m,z⟩:=e.tb p hp;exact⟨t,m,keep2 z⟩
 have kup:zbk H1 H2:=λb=>by
  by_cases hb:b∈cs
  ·obtain⟨_,o,_,_,_,z2,_⟩:=h2c hb;refine .inr ⟨?_,o,z2⟩;rcases up b with z | ⟨z,_⟩
   ·rw[←z]; exact frC hb
   ·exact z
  ·rw[h2n hb]; exact up b
 have lkm:∀{y:Str} {b:Addr},clos.lookup y=some b→(y,b)∈clos:=λe=>PySem.mem_of_lookup e;have clo:ZZ H2 (caps.map (·.1)) va clos:=by
  refine⟨λy hy=>?_,λy b hy=>?_,λy z b hy hz=>?_⟩
  ·obtain⟨pp,hp,e1⟩:=ζp.mp hy;have e1:pp.1=y:=e1;have:=hk2 pp hp;rw[e1]at this;exact ξG.mp this
  ·obtain⟨_,_,m1,o,u,z1,z2,z3⟩:=cel y b (lkm hy);have hb:b∈cs:=ζp.mpr ⟨(y,b),lkm hy,rfl⟩;refine⟨m1,o,u,?_,z2,z3⟩
   show(if b∈cs then _ else _)=_;rw[if_pos hb,z1]; rfl
  ·exact I2.ok.inj y z b (cel y b (lkm hy)).2.1 (cel z b (lkm hz)).2.1
 have cod2:W9 H2 c' q:=let⟨o,fs,t,z1,z2,z3⟩:=hcd; ⟨o,fs,t,keep2 z1,z2,z3⟩;have sq:=hsp clos f c' pm ctv H2 kup frf (keep2 hf) cod2 clo;have hl:[u1,Value.ref f].length=ps.length:=F.len _ _ _ _ sq;have bt:=hb s2 [u1,.ref f] I2.kIn (by rw[ζ1]; exact hl);rw[ζ1]at bt;refine wpAny_call (codeAny_mono (F.run X.A X.stack s2 H2 ⟨[u1,.ref f],[]⟩ [u1,.ref f] [v1,.ref f] _ _ hr e0 bt (.cons r1 (.cons rfl .nil)) sq) λrs s3 hq3=>?_);cases rs with
 | error e'=>exact False.elim hq3
 | ok fl =>
  cases fl with
  | next=>exact False.elim hq3
  | brk=>exact False.elim hq3
  | cont=>exact False.elim hq3
  | ret u =>
   obtain⟨v,H3,os,bare,un,hok3,rv,q3⟩:=hq3;let H4:Hp:=λb=>if b∈cs then none else H3 b
   have h4n:∀{b:Addr},b∉cs→H4 b=H3 b:=λhb=>if_neg hb;have h3c:∀{b:Addr},b∈cs→∃o u',s2.heap.get? b=some o∧H3 b=some (knw o)∧o.data=.cell (some u'):=λ{b} hb=>by
    obtain⟨_,o,u',_,z1,z2,z3,_⟩:=h2c hb;exact⟨o,u',z1,un.frzs _ _ _ z2,z3⟩
   have un4:Un (frs X.stack) [] Ha H4 s2.heap s3.heap:=by
    refine⟨λb o z n hb _=>?_,λb o z n hb _=>?_,λb o z n _=>?_,λb o z hx=>un.there b o z hx,λb xs z=>?_,λb o u z=>?_,λb ps' z=>?_⟩
    ·by_cases hc:b∈cs
     ·obtain⟨o',_,y1,y2,_⟩:=h3c hc;rw[z]at y1; cases y1;exact(hok3 b _ y2).1
     ·exact un.keep b o z (by rw[h2n hc]; exact n) hb (by simp)
    ·by_cases hc:b∈cs
     ·obtain⟨o',_,y1,y2,_⟩:=h3c hc;rw[z]at y1; cases y1;exact⟨o.slots,(hok3 b _ y2).1⟩
     ·exact un.slot b o z (by rw[h2n hc]; exact n) hb (by simp)
    ·by_cases hc:b∈cs
     ·exact if_pos hc
     ·rw[h4n hc]; exact un.free b o z (by rw[h2n hc]; exact n) (by simp)
    ·rw[h4n (nC z)]; exact un.tups b xs (keep2 z)
    ·rw[h4n (nC z)]; exact un.frzs b o u (keep2 z)
    ·obtain⟨m,y⟩:=un.tbls b ps' (keep2 z);exact⟨m,by rw[h4n (nC z)]; exact y⟩
   have hok4:HOk X.prog X.w H4 s3.heap:=λb x hx=>by
    have hb:b∉cs:=λhc=>by rw[show H4 b=none from if_pos hc]at hx; cases hx
    rw[h4n hb]at hx;have nc3:∀{d:Addr} {y:HO},H3 d=some y→(∀o u,y≠.frz o u)→d∉cs:=λ{d y} hd' hn hc=>by
     obtain⟨o,_,_,z,_⟩:=h3c hc;rw[hd']at z; cases z;exact hn _ _ rfl
    refine(hok3 b x hx).stay (λ_ _ _ z=>z) (λd z=>?_) (λd xs z=>?_) λd o' u' z nd=>?_
    ·rw[h4n (nc3 z λ_ _ y=>by cases y)]; exact z
    ·rw[h4n (nc3 z λ_ _ y=>by cases y)]; exact z
    ·rw[h4n λhc=>by
      obtain⟨o,u2,_,y,y2⟩:=h3c hc;rw[z]at y; cases y;exact nd _ y2]
     exact z
   refine⟨v,H4,I2.call' os un4 hok4 bare (ch:=[]) (λ_ z=>nomatch z),rv,q3 H4 λb=>?_⟩
   by_cases hc:b∈cs
   ·obtain⟨_,o,_,_,_,z2,_⟩:=h2c hc;refine .inr ⟨if_pos hc,?_,o,z2⟩;rcases up b with z | ⟨z,_⟩
    ·rw[←z]; exact frC hc
    ·exact z
   ·exact .inl (h4n hc)
end
def tFnL(i:Nat)(a:Addr)(sp:Sp)(t:TA):TE:=λσ H Q=>σ[i]?=some (some (.ref a))∧t σ H λvs H1=>(∃nm q params body lsc cl pm c' ctv,H1 a=some (knw (kla_obj nm q params body lsc cl pm c' ctv)))∧sp vs H1 Q E0
section
variable {X:Cx}{k:Nat}{ps:AJ}{sp:Sp}{x:Str}{p pos:Pos}{e:Expr}{es:List Expr}{t:TA}
theorem zdz(i:Nat){a:Addr}{fd:FuncData}(F:FnOk X.prog X.w X.K X.mg X.base CX0 k a fd ps sp)(hb:wJ X.K fd ps [])(hr:Room k X.A)(ha:PA X (e :: es) t)
  (hN:X.N[i]?=some x:=by rfl) (hv:Vis X.env.scope x:=by first | exact Or.inl rfl | exact Or.inr (.inl rfl) | exact Or.inr (.inr rfl)) (hd:(x == ("__debug__" : Str))=false:=by decide) (hcd:(x == ("__classdict__" : Str))=false:=by decide)
  (he:starEach (e :: es) X.env=(false,eval e X.env) :: starEach es X.env:=by rfl) (hpl:(backTo pos (starEach es X.env)).any (·.1)=false:=by rfl) :
  PE X (.Call (.Name x p) (e :: es) [] pos) (tFnL i a sp t):=by
 intro pins s σ H Q I h;obtain⟨hs,h⟩:=h;refine wpAny_Call_Name_kw (thn (Vs (X:=X) (i:=i) (pos:=p) hN hv hd hcd pins s σ H (λv H'=>v=.ref a∧H'=H) I ⟨_,hs,rfl,rfl⟩) λu s1 ⟨v,H',I1,r1,ev,eH⟩=>?_);subst ev eH;cases(show u=Value.ref a from r1)
 have key:wpAny (model X.prog X.w) X.A (spliced (backTo pos (starEach (e :: es) X.env))) (λus s2=>(∃nm q params body lsc cl pm c' ctv,s2.heap.get? a=some (kla_obj nm q params body lsc cl pm c' ctv))∧wpAny (model X.prog X.w) X.A (call (.ref a) ([] ++ us)) (EP X pins σ Q) X.xe s2) X.xe s1 :=
  thn (ha pos pins s1 σ _ _ I1 h) λus s2 ⟨vs,H1,I2,r,⟨nm,q,params,body,lsc,cl,pm,c',ctv,ho⟩,hq⟩=>⟨⟨nm,q,params,body,lsc,cl,pm,c',ctv,(I2.hok _ _ ho).1⟩,Vk F hr hb .nil Q6 I2 r (by rw[ζ1]; exact hq)⟩
 rw[he]at key ⊢;refine callWith_of (P:=λh=>∃nm q params body lsc cl pm c' ctv,h.get? a=some (kla_obj nm q params body lsc cl pm c' ctv)) (by show((false || (backTo pos (starEach es X.env)).any (·.1)) || false)=false; rw[hpl]; rfl) (λh ⟨nm,q,params,body,lsc,cl,pm,c',ctv,ho⟩=>⟨.frame,.inl rfl,(Looks.ld (part:=none) ho).andThen .now⟩) (Calls.evalArgs_plain key)
end
end L2
namespace PD
open PySem L2 PySem.W
section
variable {P:Program}{w:World}{K:ζc}{mg:AO}{base:Heap}{S S':Sx}{κ κ':Bool}{Γ Γ' Γ'':Ctx}
def LamD(P:Program)(w:World)(K:ζc)(mg:AO)(base:Heap)(kk:Nat)(p1:AD→AD→Prop)(F:Hp)(a:Addr):Prop:=∃fd x spl nm q params body lsc cl pm c' ctv,FnOk P w K mg base CX0 kk a fd [x] spl∧wJ K fd [x] []∧F a=some (knw (kla_obj nm q params body lsc cl pm c' ctv))∧
 ∀(H' F':Hp) (v:V) (d r:AD) (Q:VK),Same F F'→Same F' H'→Dp K F' v d→p1 d r→(∀v' H'' F'',Gr H' F' H'' F''→Rp K false .fresh H' F'' v' r→Q v' H'')→spl [v] H' Q E0
def spG(P:Program)(w:World)(K:ζc)(mg:AO)(base:Heap)(kk:Nat)(pre:AG→(AD→AD→Prop)→AD→Prop):Sp:=λvs H Q _=>∃F ds d us a p1,vs=us ++ [.ref a]∧Same F H∧zQ K F us ds∧LamD P w K mg base kk p1 F a∧pre ds p1 d∧∀v H' F',Gr H F H' F'→Rp K true .fresh H F' v d→Q v H'
theorem zbv{kk:Nat}{pre:AG→(AD→AD→Prop)→AD→Prop}{n:Nat}(h:∀ds p1 d,pre ds p1 d→ds.length=n){vs:List V}{H:Hp}{Q:VK}{E:XK}(s:spG P w K mg base kk pre vs H Q E):vs.length=n + 1:=by
 obtain⟨F,ds,d,us,a,p1,rfl,_,k,_,p,_⟩:=s;rw[ζg,zQ.length k,h ds p1 d p];rfl
def spLm(K:ζc)(f c':Addr)(o:Obj)(q:Str)(ys:AJ)(va:Str→V)(dc:Str→AD)(cl:List (Str×Addr))(p1:AD→AD→Prop):Sp:=λvs H Q _=>∃v F d r,vs=[v]∧H f=some (knw o)∧W9 H c' q∧ZZ H ys va cl∧Same F H∧Dp K F v d∧(∀y∈ys,Dp K F (va y) (dc y))∧p1 d r∧
 ∀v' H' F',Gr H F H' F'→Rp K false .fresh H F' v' r→Q v' H'
theorem za5{H F:Hp}{v:V}{d:AD}{va:Str→V}{dc:Str→AD}{ys:AJ}(le:Same F H)(hd:Dp K F v d)(hc:∀y∈ys,Dp K F (va y) (dc y)):DEnv K .fresh H F H F (some v :: ys.map λy=>some (va y)) (some (.fz false d) :: ys.map λy=>some (.fz false (dc y))):=by
 have no:∀(i:Nat) (x:DV),(some (.fz false d) :: ys.map λy=>some (.fz false (dc y)):Ctx)[i]?=some (some x)→∃u e,(some v :: ys.map λy=>some (va y):St)[i]?=some (some u)∧x=.fz false e∧Dp K F u e:=λi x h=>by
  cases i with
  | zero=>exact⟨v,d,rfl,by simpa using h.symm,hd⟩
  | succ i =>
   have h:(ys.map λy=>some (DV.fz false (dc y)))[i]?=some (some x):=by simpa using h
   rw[ζo]at h;cases e:ys[i]? with
   | none=>rw[e]at h; cases h
   | some y =>
    rw[e]at h;refine⟨va y,dc y,by simp[e],by simpa using h.symm,hc y (List.mem_of_getElem? e)⟩
 refine⟨.refl le,le,λa h=>?_,λT z=>(nomatch z),by simp,λi x h=>?_,λi j x y v w a h1 h2 _ _ o1 _=>?_⟩
 ·cases e:H a with
  | none=>exact absurd e h
  | some o=>exact⟨o,rfl⟩
 ·obtain⟨u,e,q1,rfl,q2⟩:=no i x h;exact⟨u,q1,ui q2⟩
 ·obtain⟨u,e,_,rfl,_⟩:=no i x h1;exact o1.elim
theorem zdM{k:Nat}{f c':Addr}{x:Str}{ys:AJ}{va:Str→V}{dc:Str→AD}{qual:Str}{lsc:Scope}{cl:List (Str×Addr)}{params:Arguments}{body:Expr}{pm ctv:Value}{p1:AD→AD→Prop}{te:TE}(S:vJ x ys lsc)
  (hp:∀(A:Around) (outer:List Env) (s:Shared) (H:Hp),Room k (A.deeper (envX qual lsc s.heap.objs.size f (.ref c') cl))→PE (cxL P w K mg base (x :: ys) qual lsc f (.ref c') cl A outer s H) body te)
  (hE:∀d r,p1 d r→EvE K .fresh false te (some (.fz false d) :: ys.map λy=>some (.fz false (dc y))) r) :
  FnOk P w K mg base CX0 (k + 1) f (kla_fn "<lambda>" qual params body lsc cl pm (.ref c') ctv) [x] (spLm K f c' (kla_obj "<lambda>" qual params body lsc cl pm c' ctv) qual ys va dc cl p1):=by
 refine zdN (va:=va) S (λvs H Q E h=>?_) (λvs H Q E h=>?_) λA outer s H v Q E hr h=>?_
 ·obtain⟨v,_,_,_,rfl,_⟩:=h;rfl
 ·obtain⟨v,_,_,_,_,h1,h2,h3,_⟩:=h;exact⟨h1,h2,h3⟩
 ·obtain⟨v',F,d,r,ev,_,_,_,le,hd,hc,hp1,q⟩:=h;cases ev;refine⟨te,hp A outer s H hr,hE d r hp1 H F H F _ (za5 le hd hc) _ λu H' F' g p=>q u H' F' g p⟩
theorem Uh{R:Str×Nat→V→Prop}:∀(caps:List (Str×Nat)),(caps.map (·.1)).Nodup→(∀p∈caps,∃u,R p u)→∃va:Str→V,∀p∈caps,R p (va p.1)
 | [],_,_=>⟨λ_=>.non,λ_ h=>(nomatch h)⟩
 | p :: r,nd,h=>by
  obtain⟨nd1,nd2⟩:=ζ3.mp nd;obtain⟨va,hv⟩:=Uh r nd2 λq hq=>h q (ζk _ hq);obtain⟨u,hu⟩:=h p ζf;refine⟨λy=>if y=p.1 then u else va y,λq hq=>?_⟩
  rcases ζw.mp hq with rfl | hq
  ·show R q (if q.1=q.1 then u else _);rw[if_pos rfl]; exact hu
  ·show R q (if q.1=p.1 then u else _);rw[if_neg (show¬q.1=p.1 from λz=>nd1 (show p.1∈r.map (·.1)by rw[←z]; exact ζp.mpr ⟨q,hq,rfl⟩))];exact hv q hq
theorem VL{kk:Nat}{pre:AG→(AD→AD→Prop)→AD→Prop}{t1:TE}{d1 d:AD}{params:Arguments}{body:Expr}{lsc:Scope}{q:Str}{caps:List (Str×Nat)}{dc:Str→AD}{p1:AD→AD→Prop}{x:Str}{te:TE}
  (h1:EvE K S false t1 Γ d1) (hc:∀p∈caps,∃κ,Γ[p.2]?=some (some (.fz κ (dc p.1)))) (SL:vJ x (caps.map (·.1)) lsc) (hb:∀cl pm c' ctv,wJ K (kla_fn "<lambda>" q params body lsc cl pm (.ref c') ctv) [x] [])
  (hp:∀(f c':Addr) (cl:List (Str×Addr)),(∀y∈caps.map (·.1),(cl.lookup y).isSome=true)→∀(A:Around) (outer:List Env) (s:Shared) (H:Hp),Room kk (A.deeper (envX q lsc s.heap.objs.size f (.ref c') cl))→PE (cxL P w K mg base (x :: caps.map (·.1)) q lsc f (.ref c') cl A outer s H) body te)
  (hE:∀d r,p1 d r→EvE K .fresh false te (some (.fz false d) :: (caps.map (·.1)).map λy=>some (.fz false (dc y))) r) (hpre:pre [d1] p1 d) :
  EvE K S κ (tGL t1 params body lsc q caps (spG P w K mg base (kk + 1) pre)) Γ d:=λH0 F0 H F σ e Q qq =>
 h1 H0 F0 H F σ e _ λv1 H1 F1 g1 r1=>by
  classical
  have e1:=e.mono g1;obtain⟨va,hva⟩:=Uh (R:=λp u=>σ[p.2]?=some (some u)∧Dp K F1 u (dc p.1)) caps (ζ3.mp SL.nd).2 λp hp=>by
   obtain⟨κ2,z⟩:=hc p hp;obtain⟨u,z1,z2⟩:=e1.has _ _ z;exact⟨u,z1,xi z2⟩
  refine⟨va,λp hp=>(hva p hp).1,λcl f c' pm ctv H2 kup frf hf hcd clo=>?_⟩
  have s12:Same H1 H2:=λb o z=>by
   rcases kup b with y | ⟨y,_⟩
   ·rw[y]; exact z
   ·rw[y]at z; cases z
  let isL:Addr→Prop:=λb=>b=f∨b=c'∨∃y,cl.lookup y=some b;have knL:∀{b:Addr},isL b→∃o,H2 b=some (knw o):=λ{b} z=>by
   rcases z with rfl | rfl | ⟨y,z⟩
   ·exact⟨_,hf⟩
   ·obtain⟨o,_,_,z,_⟩:=hcd; exact⟨o,z⟩
   ·obtain⟨o,_,z,_⟩:=(clo.cel y b z).2; exact⟨o,z⟩
  let F2:Hp:=λb=>if F1 b=none∧isL b then H2 b else F1 b
  have f12:Same F1 F2:=λb o z=>by
   show(if F1 b=none∧isL b then _ else _)=_;rw[if_neg λc=>by rw[c.1]at z; cases z]; exact z
  have le2:Same F2 H2:=λb o z=>by
   have z:(if F1 b=none∧isL b then H2 b else F1 b)=some o:=z;split at z
   ·exact z
   ·exact s12 _ _ (g1.le _ _ z)
  have atL:∀{b:Addr},isL b→F2 b=H2 b:=λ{b} hL=>by
   cases z:F1 b with
   | none=>show(if F1 b=none∧isL b then _ else _)=_; rw[if_pos ⟨z,hL⟩]
   | some o=>rw[f12 _ _ z,s12 _ _ (g1.le _ _ z)]
  have out2:∀{b:Addr},F1 b=none→(∃o,F2 b=some (knw o))∨F2 b=none:=λ{b} z=>by
   by_cases hL:isL b
   ·obtain⟨o,y⟩:=knL hL;exact .inl ⟨o,by rw[atL hL]; exact y⟩
   ·exact .inr (by show(if F1 b=none∧isL b then _ else _)=_; rw[if_neg λc=>hL c.2]; exact z)
  have lam:LamD P w K mg base (kk + 1) p1 F2 f:=by
   refine⟨_,x,_, "<lambda>", q,params,body,lsc,cl,pm,c',ctv,zdM (va:=va) (dc:=dc) SL (hp f c' cl λy hy=>by obtain⟨c,z⟩:=clo.has y hy; rw[z]; rfl) hE,hb cl pm c' ctv,by rw[atL (.inl rfl)]; exact hf,λH' F' v d0 r0 Q0 s1 s2 hd hpp k=>?_⟩
   have at':∀{b:Addr} {o:Obj},isL b→H2 b=some (knw o)→H' b=some (knw o):=λ{b o} hL z=>s2 _ _ (s1 _ _ (by rw[atL hL]; exact z));refine⟨v,F',d0,r0,rfl,at' (.inl rfl) hf,?_,⟨clo.has,λy b z=>?_,clo.inj⟩,s2,hd,λy hy=>?_,hpp,k⟩
   ·obtain⟨o,fs,t,z,z2⟩:=hcd;exact⟨o,fs,t,at' (.inr (.inl rfl)) z,z2⟩
   ·obtain⟨m,o,u,z1,z2⟩:=clo.cel y b z;exact⟨m,o,u,at' (.inr (.inr ⟨y,z⟩)) z1,z2⟩
   ·obtain⟨pp,hpp',rfl⟩:=ζp.mp hy;exact xM (f12.trans s1) (hva pp hpp').2
  refine⟨F2,[d1],d,[v1],f,p1,rfl,le2,.cons (xM f12 (xi r1)) .nil,lam,hpre,λv H3 F3 g3 p3 H4 h4=>?_⟩
  let F4:Hp:=λb=>if H2 b≠none∧F1 b=none then none else F3 b
  have f4:∀{b:Addr} {o:HO},F4 b=some o→F3 b=some o∧¬(H2 b≠none∧F1 b=none):=λ{b o} z=>by
   have z:(if H2 b≠none∧F1 b=none then none else F3 b)=some o:=z;split at z
   ·cases z
   ·rename_i c; exact⟨z,c⟩
  have f4':∀{b:Addr} {o:HO},F3 b=some o→¬(H2 b≠none∧F1 b=none)→F4 b=some o:=λ{b o} z c=>by
   show(if H2 b≠none∧F1 b=none then none else F3 b)=some o;rw[if_neg c]; exact z
  have g4:Gr H1 F1 H4 F4:=by
   refine⟨λb o z=>?_,λb o z=>f4' (g3.f _ _ (f12 _ _ z)) (λc=>by rw[c.2]at z; cases z),λb o z=>?_,λb o z n=>?_⟩
   ·rcases h4 b with y | ⟨_,y,_⟩
    ·rw[y]; exact g3.h _ _ (s12 _ _ z)
    ·rw[y]at z; cases z
   ·obtain⟨z1,z2⟩:=f4 z;rcases h4 b with y | ⟨_,y,o',y'⟩
    ·rw[y]; exact g3.le _ _ z1
    ·exact absurd ⟨by rw[y']; simp,g1.le.free y⟩ z2
   ·show(if H2 b≠none∧F1 b=none then none else F3 b)=none;rw[if_pos ⟨by rw[s12 _ _ z]; simp,n⟩]
  have hln:∀a xs,LN K true .fresh H2 F3 a xs→LN K true S H0 F4 a xs:=λa xs z=>⟨f4' z.1 λc=>z.2 (show H2 a≠none from c.1),λcc=>by
   obtain⟨u,hu⟩:=e1.sd a cc;exact z.2 (by show H2 a≠none; rw[s12 _ _ hu]; simp)⟩
  refine qq v H4 F4 (g1.trans g4) (vN (κ:=true) (λ_=>rfl) (wP (κ:=true) (κ':=true) hln (λa xs z=>?_) p3))
  ·have tp:∀{o:HO},F3 a=some o→(∀ob,o≠knw ob)→F4 a=some o:=λ{o} y ne=>f4' y λc=>by
    rcases out2 c.2 with⟨ob,w1⟩ | w1
    ·have:=g3.f _ _ w1;rw[y]at this; cases this;exact ne _ rfl
    ·cases w2:H2 a with
     | none=>exact c.1 w2
     | some o2=>rw[g3.ap _ _ w2 w1]at y; cases y
   rcases z with(z | ⟨o,z⟩) | z
   ·exact .inl (.inl (tp z λob y=>by cases y))
   ·exact .inl (.inr ⟨o,tp z λob y=>by cases y⟩)
   ·exact .inr z
theorem zd8{kk:Nat}{t:TE}{i:Nat}{d r:AD}{a:Addr}{fd:FuncData}{x:Str}{spl:Sp}{φ:Hp→V→Prop}
  (hΓ:GetC Γ i (.xp φ)) (hφ:∀F1 v,φ F1 v→v=.ref a∧(∃nm q params body lsc cl pm c' ctv,F1 a=some (knw (kla_obj nm q params body lsc cl pm c' ctv)))∧∀(H' F':Hp) (v:V) (Q:VK),Same F1 F'→Same F' H'→Dp K F' v d→(∀v' H'' F'',Gr H' F' H'' F''→Rp K false .fresh H' F'' v' r→Q v' H'')→spl [v] H' Q E0)
  (h:EvE K S false t Γ d):EvE K S false (tFnL i a spl (zS t tNil)) Γ r:=λH0 F0 H F σ e Q q=>by
 obtain⟨v,hv,F1,s1,hf⟩:=e.has i _ hΓ.eq;obtain⟨rfl,⟨nm,q',params,body,lsc,cl,pm,c',ctv,ho⟩,pr⟩:=hφ F1 v hf;refine⟨hv,h H0 F0 H F σ e _ λu H1 F2 g1 p1=>⟨⟨nm,q',params,body,lsc,cl,pm,c',ctv,g1.le _ _ (g1.f _ _ (s1 _ _ ho))⟩,pr H1 F2 u Q (s1.trans g1.f) g1.le (xi p1) λv' H'' F'' g2 p2=>q v' H'' F'' (g1.trans g2) (ui (xi p2))⟩⟩
end
end PD
namespace L2
open PySem PySem.Spec PyProof.Rows PySem.W
def WP(K:Frag)(f:Addr)(x:Str):Bool:=match K.lookup f with
 | some ⟨_,_,.func fd,_⟩=>(match fd.code with
  | .ref c=>(match(K.lookup c).bind Qm with
   | some (P,q)=>codeHdIn K c P && decide (q=x ++ ".<locals>.<lambda>")
   | none=>false)
  | _=>false)
 | _=>false
theorem ZJ{α β:Type}[BEq α][LawfulBEq α]:∀{l:List (α×β)} {a:α} {b:β},l.lookup a=some b→(a,b)∈l
 | (x,y) :: l,a,b,h=>by
  rw[ξY]at h;split at h
  ·rename_i e;have:=eq_of_beq e;cases h;rw[this];exact ζf
  ·exact ζk _ (ZJ h)
section
variable {P:Program}{w:World}{K:ζc}{mg:AO}{base:Heap}
theorem Fun.okL{x qual:Str}{st:Stmt}{f:Addr}{fd:FuncData}{N ps:AJ}{k:Nat}{sp:Sp}(F:Fun K x qual st f fd)(L:WP K f qual=true)(S:zw N ps (zn st))(len:∀vs H Q E,sp vs H Q E→vs.length=ps.length)
  (hbody:∀(c T:Addr) (A:Around) (outer:List Env) (s:Shared) (H:Hp) (vs:List V) (Q:VK) (E:XK),codeHdIn K c T=true→(T,qual ++ ".<locals>.<lambda>")∈yq K→Room k (A.deeper (envOfC qual (zn st) s.heap.objs.size f (.ref c)))→sp vs H Q E→
   ∃t,PSs (cxOf CX0 P w K mg base N qual (zn st) f (.ref c) A outer s H E).nox (xE st) t∧t { nx:=λ_ H'=>Q .non H',rt:=Q } (yF N vs) H):FnOk P w K mg base CX0 (k + 1) f fd ps sp:=by
 obtain⟨oc,od,kV,doc,pm,an,cdv,ct,osl,rfl,lk,hcd⟩:=F.ex;unfold WP at L;rw[lk]at L;dsimp only at L;split at L
 ·rename_i c;split at L
  ·rename_i T q e;simp only[Bool.and_eq_true,decide_eq_true_eq]at L;obtain⟨o,e1,e2⟩:=Option.bind_eq_some_iff.mp e;have htab:(T,qual ++ ".<locals>.<lambda>")∈yq K:=by
    rw[←L.2];exact ξP.mpr ⟨(c,o),ZJ e1,e⟩
   refine zc5 lk hcd S len λA outer s H vs Q E hr hsp=>?_;obtain⟨t,h,q⟩:=hbody c T A outer s H vs Q E L.1 htab hr hsp;exact⟨t,h.nox,q⟩
  ·cases L
 ·cases L
end
end L2
namespace Cm
open PySem L2
structure AtL(K:ζc)(x:Str)(st:Stmt)(f:Addr)(fd:FuncData):Prop where
 a:PySem.W.nsIn K mainGlobals x=some (some (.ref f))
 F:Fun K x x st f fd
 L:WP K f x=true
theorem zbr{K:ζc}{x:Str}{st:Stmt}{f:Addr}{oc:Value}{od an:Option Addr}{osl:Array (Option Value)}{kV doc pm cdv ct:Value}(a:PySem.W.nsIn K mainGlobals x=some (some (.ref f)))
  (l:K.lookup f=some ⟨oc,od,.func (PySem.W.fnOf x x (wn st) (xE st) (zn st) .none kV doc pm an cdv ct),osl⟩) (c:PySem.W.codeIn K cdv x=true) (k:PySem.W.keepIn K (.ref f)=true) (m:WP K f x=true):∃f fd,AtL K x st f fd:=⟨f,_,a,VF l c k,m⟩
end Cm
namespace L2
open PySem
theorem zbs{K:ζc}{h:Heap}{ts:List Addr}(t:∀P∈ts,h.get? P=some (PySem.W.tabObj #[]))(e:((yq K).all λp=>ts.contains p.1)=true):∀p∈yq K,h.get? p.1=some (PySem.W.tabObj #[]):=λp hp=>t _ (by
 have:=ξE.mp e p hp;simpa using this)
def zc1(x:Str)(ys:AJ)(sc:Scope):Bool:=decide (sc.kind=.function) && !sc.isCoroutine && !sc.isGenerator && decide ((x :: ys).Nodup) && decide (sc.names.lookup x=some .local) && (sc.names.all λp=>decide (p.2≠.cell) && (decide (p.2≠.free) || decide (p.1∈ys))) && ys.all λy=>decide (sc.names.lookup y=some .free)
theorem zap{x:Str}{ys:AJ}{sc:Scope}(h:zc1 x ys sc=true):vJ x ys sc:=by
 unfold zc1 at h;simp only[Bool.and_eq_true,decide_eq_true_eq,Bool.not_eq_true',List.all_eq_true,Bool.or_eq_true]at h;obtain⟨⟨⟨⟨⟨⟨h1,h2⟩,h3⟩,h4⟩,h5⟩,h6⟩,h7⟩:=h;refine⟨h1,h2,h3,h4,h5,λy hy=>(h6 y hy).1,λy hy=>?_,h7⟩
 rcases(h6 _ (PySem.mem_of_lookup hy)).2 with z | z
 ·exact absurd rfl z
 ·exact z
end L2
namespace PD
open PySem L2
theorem zbJ{K:ζc}{κ:Bool}{t:TS}{N:AJ}{n:Nat}{H F:Hp}{vs:List V}{a:Addr}{ds:AG}{d:AD}{Q:VK}{Γ Γ':Ctx}{φ:Hp→V→Prop}(le:Same F H)(k:zQ K F vs ds)(q:∀v H' F',Gr H F H' F'→Rp K κ .fresh H F' v d→Q v H')(hn:N.length=n)(hl:vs.length < n)(hΓ:xh n ds Γ)(hs:SetC Γ ds.length (some (.xp φ)) Γ')(hφ:φ F (.ref a))
  (h:ExS K .fresh t Γ' { nx:=λ_=>d=.none,rt:=λx=>x=d,kr:=κ }):t { nx:=λ_ H'=>Q .non H',rt:=Q } (L2.yF N (vs ++ [.ref a])) H:=by
 have l:=zQ.length k;have e0:=xW (N:=N) le k;rw[hn,hΓ.eq]at e0;have e1:=e0.set (i:=ds.length) (v:=.ref a) (x:=.xp φ) ⟨F,.refl _,hφ⟩ λ_ z=>z.elim;rw[hs.eq]at e1;have es:(L2.yF N vs).set ds.length (some (.ref a))=L2.yF N (vs ++ [.ref a]):=by
  unfold L2.yF;rw[←l,List.set_append_right _ _ (by simp),List.length_map,Nat.sub_self];obtain⟨m,hm⟩:∃m,N.length - vs.length=m + 1:=⟨N.length - vs.length - 1,⋯⟩
  rw[hm,ξd,List.set_cons_zero,ζv,ζg];have:N.length - (vs.length + [V.ref a].length)=m:=by show N.length - (vs.length + 1)=m; omega
  rw[this];simp
 rw[es]at e1;exact h H F H F _ F e1 (.refl _) (.inl rfl) _ ⟨λ_ σ' H' F' z _ e'=>q .non H' F' e'.gr (by rw[z]; exact .non),λx v H' F' z g p=>q v H' F' g (by rw[←(show x=d from z)]; exact p),λ_ _ _ _ z=>z.elim,λ_ _ _ _ z=>z.elim⟩
end PD
namespace L2
open PySem PySem.Spec PyProof.Rows PySem.AutoSeq1
theorem XD(l b:Addr)(xs ys:Array Value)(n n2:Nat)(dd:Option Addr)(sl:Array (Option Value))(hs0:¬(!xs.isEmpty && Builtin.List.listTooLong (xs.size + ys.size))=true)(hs1:xs.size≤sizeLine)(hs2:xs.size + ys.size≤sizeLine + 1):
  Meets (Builtin.«list.extend» ⟨[.ref l,.ref b],[]⟩) (λ_ R s=>s.heap.get? l=some { cls:=.type "list", data:=.seq xs n }∧s.heap.get? b=some { cls:=.type "list", dict:=dd,data:=.seq ys n2,slots:=sl }∧R (.ok (.ret Value.none)) { s with heap:=s.heap.update l (Obj.mapSeq λx=>x ++ ys),toks:=s.toks }) :=
 .of_wp λprog w A R s h=>by
  obtain⟨hp,g,d,tk,os⟩:=s;obtain⟨hl,hb,h⟩:=h;have f1:=AutoSeq1.idx_int;have f2:=AutoSeq1.sub_tuple_tuple;have f3:=AutoSeq1.sub_list_list;have f4:=AutoSeq1.sub_tuple_list;have f5:=AutoSeq1.sub_list_tuple;have hz:(xs ++ ys).size≤sizeLine + 1:=by rw[Array.size_append]; exact hs2
  wp_walk using(wpAny_updateSeq hl rfl (hz:=hs1) (_hz':=hz)),wpAny_loadPart' hl,wpAny_loadPart' hb
  exact⟨_,rfl,h⟩
section
variable {X:Cx}{K:ζc}
def Zt(K:ζc):V→List V→Hp→VK→Prop:=λx vs H Q=>∃l b xs zs,x=.ref l∧vs=[.ref b]∧H l=some (.lst xs)∧SqL K H b zs∧xs.length + zs.length≤sizeLine∧Q .non (upd H l (.lst (xs ++ zs)))
theorem VB:MtM X "list.extend" (Zt X.K):=by
 intro pins s σ H x vs v us Q I rx rv h;obtain⟨l,b,xs,zs,rfl,rfl,hH,hB,hz,q⟩:=h;cases rx;obtain⟨u,rfl,ru⟩:=rv.one;cases ru;obtain⟨z,its,n,r,hl,e⟩:=I.lstM hH;obtain⟨its2,r2,pl,_⟩:=I.list hB;have hl2:=r2.length;obtain⟨⟨c,dd,dt,sl⟩,ho,hc,n2,hd⟩:=pl.isList;simp only at hc hd;subst hc hd;have hsz:its.toArray.size + its2.toArray.size≤sizeLine:=by rw[ζS,ζS]; omega
 have hlong:¬(!its.toArray.isEmpty && Builtin.List.listTooLong (its.toArray.size + its2.toArray.size))=true:=by
  rw[WK hsz,Bool.and_false];exact ζD
 refine call_meets F.slot_list_extend ⟨_,e,rfl⟩ F.entry_list_extend (F.args_list_extend_2 _ _) (XD l b its.toArray its2.toArray n n2 dd sl hlong (by rw[ζS]; omega) ⋯) ⟨e,ho,?_⟩;refine⟨.non,_,I.lset (its':=its ++ its2) hH e (by simp) (r.append r2) ?_,rfl,q⟩
 rw[ζg];omega
theorem WM(hK:X.K=K):MtM X "list.extend" (Zt K):=by subst hK; exact VB
end
end L2
namespace PD
open PySem L2
section
variable {K:ζc}{S S':Sx}{κ κ':Bool}{Γ Γ' Γ'':Ctx}{P:Post}
theorem TH{te:TE}{i:Nat}{ds es:AG}(h:GetC Γ i (.ow κ ds))(he:EvL K S κ te Γ es)(hz:ds.length + es.length≤sizeLine)(e:SetC Γ i (some (.ow κ (ds ++ es))) Γ')(k:P.nx Γ'):ExS K S (xX (tBM K "list" (Zt K) (tVar i) (zS te tNil))) Γ P:=λH0 F0 H F σ B e1 bb vv D I=>by
 obtain⟨v0,q1,a,vs,rfl,w,q5⟩:=e1.has i _ h.eq;refine⟨_,q1,.inl ⟨rfl,_,SqL.of w.h⟩,he H0 F0 H F σ e1 _ λb us H1 F1 g p1 k1=>?_⟩
 have k':=zA g.f q5;refine⟨a,b,vs,us,rfl,rfl,g.h _ _ w.h,p1,by rw[zq.length q5,zq.length k1]; exact hz,?_⟩
 obtain rfl:=e.eq;exact I.nx _ _ _ F1 k (bb.trans g.f) ((e1.mono g).put (y:=.ow κ (ds ++ es)) h.eq q1 (show Owns H1 (.ref a) (.ow κ ds) a from rfl) ⟨a,_,rfl,⟨zk,(w.mono g).f,w.n,w.s⟩,zq.append k' k1⟩ λ_ z=>z)
theorem UD{i j:Nat}{ds:AG}{d:AD}(h:GetC Γ i (.ow κ (ds ++ [d])))(hij:i≠j)(e1:SetC Γ i (some (.ow κ ds)) Γ')(e2:SetC Γ' j (some (.fz κ d)) Γ'')(k:P.nx Γ''):ExS K S (tAsg (tBM0 K "list" rPop (tVar i)) (yJ j)) Γ P:=λH0 F0 H F σ B e bb vv D I=>by
 obtain⟨v0,q1,a,vs,rfl,w,q5⟩:=e.has i _ h.eq;have hl:=zq.length q5;rw[ζg]at hl;have hl:vs.length=ds.length + 1:=hl;obtain⟨v,hv,hr⟩:=zq.get q5 (i:=ds.length) (d:=d) (by rw[ξb (ζl _),ξ9]; rfl);have k1:zq K κ S H0 F vs.dropLast ds:=by
  have:=zq.take ds.length q5
  rwa [List.take_append_of_le_length (ζl _),ζR,show ds.length=vs.length - 1 by omega,←List.dropLast_eq_take]at this
 refine⟨_,q1,.inl ⟨rfl,_,SqL.of w.h⟩,a,vs,v,rfl,rfl,w.h,by rw[show vs.length - 1=ds.length by omega]; exact hv,?_⟩
 have e3:=e.put (vs:=vs.dropLast) (y:=.ow κ ds) h.eq q1 (show Owns H (.ref a) (.ow κ (ds ++ [d])) a from rfl) ⟨a,_,rfl,⟨zk,w.f,w.n,w.s⟩,k1⟩ λ_ z=>z;rw[e1.eq]at e3;have e4:=e3.setF (i:=j) hr;rw[e2.eq]at e4;exact I.nx _ _ _ F k bb e4
end
end PD
namespace L2
open PySem PySem.Spec PyProof.Rows
section
variable {X:Cx}{K:ζc}
def rAny(K:ζc):List V→Hp→VK→Prop:=λxs H Q=>∃p,∃bs:List Bool,xs=[.ref p]∧SqL K H p (bs.map V.bl)∧Q (.bl (bs.any λb=>b)) H
theorem YM:∀(bs:List Bool) (f:Nat→Bool),(∀i b,bs[i]?=some b→f i=b)→(List.range bs.length).any f=bs.any λb=>b
 | [],_,_=>rfl
 | b :: r,f,h=>by
  have ih:=YM r (λi=>f (i + 1)) λi b' hb=>h (i + 1) b' (by simpa using hb);rw[ζY,List.range_succ_eq_map,ξF,List.any_map,ξF,h 0 b rfl,←ih];rfl
theorem zbd(hc:X.calm=true):yX X (.builtin "any") (rAny X.K):=by
 intro pins s σ H xs us Q I r h;obtain⟨p,bs,rfl,hq,q⟩:=h;obtain⟨u,rfl,rx⟩:=vf r;cases rx;obtain⟨its,r',pl,hz⟩:=I.list hq;have e:=V0 r';subst e;have hl:=pl.isList;refine call_any_walk (wpAny_pyIter_list hl ?_);have hne:p≠s.heap.objs.size:=by
  obtain⟨o,ho,_⟩:=hl;exact ζQ (ζq ho)
 refine⟨s.heap.objs.size,_,_,_,_,_,λi=>bs.getD i false,rfl,Walks.list (A:=X.A.in1) (I.ok.hd hc) _ p hne (bs.map Value.bool).toArray,⟨⟨_,ζL _ rfl,rfl,rfl⟩,hl.push _⟩,λi v s Q E hP hQ=>?_,λh' tk hk=>?_⟩
 ·have hP':(bs.map Value.bool)[i]?=some v:=by simpa using hP
  rw[ζo]at hP';cases eb:bs[i]? with
  | none=>rw[eb]at hP'; cases hP'
  | some b =>
   rw[eb]at hP';cases hP';have:bs.getD i false=b:=by rw[ζb,eb]; rfl
   have hQ':Q (bs.getD i false) s:=hQ;rw[this]at hQ';exact wpAny_truthy_bool hQ'
 ·have e:(List.range (bs.map Value.bool).toArray.size).any (λi=>bs.getD i false)=bs.any λb=>b:=by
   rw[ζS,ζa];exact YM bs _ λi b hb=>by rw[ζb,hb]; rfl
  rw[e];exact⟨.bl _,H,I.kept λb o eb=>hk b o (by simpa using Nat.ne_of_lt (Heap.lt_size eb)) (Heap.get?_push_of_some _ eb),rfl,q⟩
theorem T2(hK:X.K=K)(hc:X.calm=true):yX X (.builtin "any") (rAny K):=by subst hK; exact zbd hc
end
end L2
namespace PD
open PySem L2
section
variable {K:ζc}{S S':Sx}{κ κ':Bool}{Γ Γ' Γ'':Ctx}{P:Post}{E:XK}
theorem zeb{ta:TE}{bs:List Bool}(h:EvL K S false ta Γ (bs.map .bool)):EvE K S κ (tCB (rAny K) (zS ta tNil)) Γ (.bool (bs.any λb=>b)):=λH0 F0 H F σ e Q q =>
 h H0 F0 H F σ e _ λa vs H1 F1 g1 p1 k1=>by
  cases uX (zN k1);exact⟨a,bs,rfl,p1,q _ H1 F1 g1 (.bl _)⟩
end
end PD
namespace L2
open PySem PySem.Spec PyProof.Rows PySem.Calls
section
variable {κ:Type}[DecidableEq κ]
def valV(kvs:List (κ×V))(k:κ):Option V:=(kvs.find? λkv=>decide (kv.1=k)).map (·.2)
def putK(kvs:List (κ×V))(k:κ)(v:V):List (κ×V) :=
 if(kvs.any λkv=>decide (kv.1=k))=true then kvs.map (λkv=>if kv.1=k then(kv.1,v)else kv)else kvs ++ [(k,v)]
theorem yT{p:κ×V}{r:List (κ×V)}{k:κ}(e:p.1=k):valV (p :: r) k=some p.2:=by simp[valV,List.find?_cons,e]
theorem yU{p:κ×V}{r:List (κ×V)}{k:κ}(e:¬p.1=k):valV (p :: r) k=valV r k:=by simp[valV,List.find?_cons,e]
theorem ux(k:κ):∀kvs:List (κ×V),(kvs.any λkv=>decide (kv.1=k))=(valV kvs k).isSome
 | []=>rfl
 | p :: r=>by
  rw[ξF];by_cases e:p.1=k
  ·simp only[yT e,decide_eq_true e,Bool.true_or,Option.isSome_some]
  ·rw[yU e,decide_eq_false e,Bool.false_or]; exact ux k r
theorem X7(k j:κ)(y:V):∀kvs:List (κ×V),valV (kvs.map λkv=>if kv.1=k then(kv.1,y)else kv) j=(valV kvs j).map λx=>if j=k then y else x
 | []=>rfl
 | p :: r=>by
  have ih:=X7 k j y r;rw[ζF];by_cases h:p.1=k
  ·rw[if_pos h];by_cases e:p.1=j
   ·rw[yT (p:=(p.1,y)) e,yT e,Option.map_some,if_pos (e.symm.trans h)]
   ·rw[yU (p:=(p.1,y)) e,yU e,ih]
  ·rw[if_neg h];by_cases e:p.1=j
   ·rw[yT (p:=p) e,yT e,Option.map_some,if_neg (λz=>h (e.trans z))]
   ·rw[yU (p:=p) e,yU e,ih]
theorem Yh(k j:κ)(y:V):∀kvs:List (κ×V),valV kvs k=none→valV (kvs ++ [(k,y)]) j=if j=k then some y else valV kvs j
 | [],_=>by
  by_cases e:k=j
  ·rw[if_pos e.symm]; exact yT (p:=(k,y)) e
  ·rw[if_neg (λz=>e z.symm)]; exact yU (p:=(k,y)) e
 | p :: r,hn=>by
  rw[List.cons_append];have hk:¬p.1=k:=λz=>by rw[yT z]at hn; cases hn
  rw[yU hk]at hn;have ih:=Yh k j y r hn;by_cases e:p.1=j
  ·rw[yT e,yT e,if_neg (λz=>hk (e.trans z))]
  ·rw[yU e,yU e,ih]
theorem Qb(kvs:List (κ×V))(k j:κ)(y:V):valV (putK kvs k y) j=if j=k then some y else valV kvs j:=by
 unfold putK;by_cases a:(kvs.any λkv=>decide (kv.1=k))=true
 ·rw[if_pos a,X7];rw[ux]at a;by_cases e:j=k
  ·obtain⟨x,hx⟩:=ξG.mp a;rw[if_pos e,e,hx,Option.map_some,if_pos rfl]
  ·rw[if_neg e];cases valV kvs j with
   | none=>rfl
   | some x=>rw[Option.map_some,if_neg e]
 ·rw[if_neg a];refine Yh k j y kvs ?_;rw[ux]at a;cases q:valV kvs k with
  | none=>rfl
  | some x=>rw[q]at a; exact(a rfl).elim
theorem vD(kvs:List (κ×V))(k:κ)(v:V):(putK kvs k v).length≤kvs.length + 1:=by
 unfold putK;split
 ·rw[ζa]; omega
 ·rw[ζg,ζY,List.length_nil]; omega
theorem RelO.isSome_eq{o:Option V}{u:Option Value}(r:RelO o u):o.isSome=u.isSome:=by
 cases o with
 | none=>cases u with
  | none=>rfl
  | some _=>exact(show False from r).elim
 | some _=>cases u with
  | none=>exact(show False from r).elim
  | some _=>rfl
theorem KV.val{kvs:List (κ×V)}{vs:List (κ×Value)}(r:KV kvs vs)(k:κ):RelO (valV kvs k) (valueAt vs k):=by
 unfold KV at r;induction r with
 | nil=>exact True.intro
 | @cons p q ps qs h t ih =>
  obtain⟨h1,h2⟩:=h;by_cases e:p.1=k
  ·have e':q.1=k:=h1.symm.trans e;have b:valueAt (q :: qs) k=some q.2:=by simp[valueAt,List.find?_cons,e']
   rw[yT e,b]; exact h2
  ·have e':¬q.1=k:=λz=>e (h1.trans z);have b:valueAt (q :: qs) k=valueAt qs k:=by simp[valueAt,List.find?_cons,e']
   rw[yU e,b]; exact ih
theorem KV.any{kvs:List (κ×V)}{vs:List (κ×Value)}(r:KV kvs vs)(k:κ):(kvs.any λkv=>decide (kv.1=k))=vs.any λkv=>decide (kv.1=k):=by
 unfold KV at r;induction r with
 | nil=>rfl
 | cons h t ih=>rw[ξF,ξF,ih,h.1]
theorem KV.repl{kvs:List (κ×V)}{vs:List (κ×Value)}(r:KV kvs vs)(k:κ){y:V}{u:Value}(ry:RelV y u):
  KV (kvs.map λkv=>if kv.1=k then(kv.1,y)else kv) (vs.map λkv=>if kv.1=k then(kv.1,u)else kv):=by
 unfold KV at r ⊢;induction r with
 | nil=>exact .nil
 | @cons p q ps qs h t ih =>
  rw[ζF,ζF];refine .cons ?_ ih;obtain⟨h1,h2⟩:=h;by_cases e:p.1=k
  ·rw[if_pos e,if_pos (h1.symm.trans e)]; exact⟨h1,ry⟩
  ·rw[if_neg e,if_neg (λz=>e (h1.trans z))]; exact⟨h1,h2⟩
theorem KV.put{kvs:List (κ×V)}{vs:List (κ×Value)}(r:KV kvs vs)(k:κ){y:V}{u:Value}(ry:RelV y u):KV (putK kvs k y) (stored vs k u):=by
 unfold putK stored;rw[r.any k];by_cases e:(vs.any λkv=>decide (kv.1=k))=true
 ·rw[if_pos e,if_pos e]; exact r.repl k ry
 ·rw[if_neg e,if_neg e]; exact Paired.snoc r ⟨rfl,ry⟩
theorem KV.length{kvs:List (κ×V)}{vs:List (κ×Value)}(r:KV kvs vs):kvs.length=vs.length:=Paired.length r
end
theorem Uv{P:Program}{w:World}{k:Key}{u:Value}(r:RelV (kV k) u):(yZ P w).is k u=true:=by
 cases k with
 | inl i=>obtain⟨t,e⟩:=(show∃t,u=Value.int i t from r); subst e; exact WO P w i t
 | inr x=>obtain⟨t,e⟩:=(show∃t,u=Value.str x t from r); subst e; exact WN P w x t
theorem Yw{P:Program}{w:World}:∀{ks:List Key} {us:AK},Vals (ks.map kV) us→ItemsAre (yZ P w) ks us
 | [],_,r=>by rw[List.map_nil]at r; cases r; exact .nil
 | k :: ks,_,r=>by
  rw[ζF]at r;cases r with
  | cons h t=>exact .cons (Uv h) (Yw t)
abbrev KT(H:Hp):List (List Key×V)→List (List Key×Addr×Value)→Prop:=Paired λp q=>p.1=q.1∧tY H q.2.1 (p.1.map kV)∧RelV p.2 q.2.2
theorem KT.val{H:Hp}{kvs:List (List Key×V)}{xs:List (List Key×Addr×Value)}(r:KT H kvs xs)(k:List Key):RelO (valV kvs k) ((atKey xs k).map (·.2)):=by
 induction r with
 | nil=>exact True.intro
 | @cons p q ps qs h t ih =>
  obtain⟨h1,_,h2⟩:=h;by_cases e:p.1=k
  ·have e':q.1=k:=h1.symm.trans e;have b:atKey (q :: qs) k=some q.2:=by simp[atKey,List.find?_cons,e']
   rw[yT e,b]; exact h2
  ·have e':¬q.1=k:=λz=>e (h1.trans z);have b:atKey (q :: qs) k=atKey qs k:=by simp[atKey,List.find?_cons,e']
   rw[yU e,b]; exact ih
theorem KT.repl{H:Hp}{kvs:List (List Key×V)}{xs:List (List Key×Addr×Value)}(r:KT H kvs xs)(k:List Key){y:V}{u:Value}(ry:RelV y u):
  KT H (kvs.map λkv=>if kv.1=k then(kv.1,y)else kv) (xs.map (putAt k u)):=by
 induction r with
 | nil=>exact .nil
 | @cons p q ps qs h t ih =>
  rw[ζF,ζF];refine .cons ?_ ih;obtain⟨h1,h2,h3⟩:=h;unfold putAt;by_cases e:p.1=k
  ·rw[if_pos e,if_pos (h1.symm.trans e)]; exact⟨h1,h2,ry⟩
  ·rw[if_neg e,if_neg (λz=>e (h1.trans z))]; exact⟨h1,h2,h3⟩
theorem KT.put{H:Hp}{kvs:List (List Key×V)}{xs:List (List Key×Addr×Value)}(r:KT H kvs xs)(k:List Key){b:Addr}{y:V}{u:Value}(hb:tY H b (k.map kV))(ry:RelV y u):
  KT H (putK kvs k y) (storedH xs k b u):=by
 have e:(kvs.any λkv=>decide (kv.1=k))=(atKey xs k).isSome:=by
  rw[ux,(r.val k).isSome_eq,Option.isSome_map]
 unfold putK storedH;rw[e];by_cases q:(atKey xs k).isSome=true
 ·rw[if_pos q,if_pos q]; exact r.repl k ry
 ·rw[if_neg q,if_neg q]; exact Paired.snoc r ⟨rfl,hb,ry⟩
theorem KT.keeps{H H':Hp}{kvs:List (List Key×V)}{xs:List (List Key×Addr×Value)}(r:KT H kvs xs)(ht:∀b ys,tY H b ys→tY H' b ys):KT H' kvs xs :=
 Paired.mapP r λ_ _ z=>⟨z.1,ht _ _ z.2.1,z.2.2⟩
section
variable {P:Program}{w:World}{H:Hp}{h:Heap}{a:Addr}
theorem QJ{u:HO}(ok:HOk P w H h)(e:Rd H a u):yA P w H h a u:=e.ok ok
theorem za3{kvs:List (Key×V)}(ok:HOk P w H h)(e:Rd H a (.dK kvs)):kvs.length≤sizeLine∧(a == sysModules)=false∧∃vs,KV kvs vs∧h.DictOf (yZ P w) a vs :=
 show yA P w H h a (.dK kvs)from QJ ok e
theorem ze0{kvs:List (Key×V)}(ok:HOk P w H h)(e:H a=some (.dK kvs)):kvs.length≤sizeLine∧(a == sysModules)=false∧∃vs,KV kvs vs∧h.DictOf (yZ P w) a vs:=za3 ok (.inl e)
theorem Qj{ys:List V}(ok:HOk P w H h)(e:Rd H a (.tup ys)):tY H a ys:=by
 rcases e with e | ⟨o,e⟩
 ·exact .inl e
 ·obtain⟨h0,_,its,r,ob,h1,h2,n,h3⟩:=(show yA P w H h a (.frz o (.tup ys))from ok a _ e)
  rw[h0]at h1;cases h1;exact .inr ⟨o,λv z=>(by rw[h3]at z; cases z),e⟩
theorem tY.rd{ys:List V}(e:tY H a ys):Rd H a (.tup ys):=e.imp id λ⟨o,_,q⟩=>⟨o,q⟩
theorem XJ{ks:List Key}(ok:HOk P w H h)(e:Rd H a (.tup (ks.map kV))):(tupleKind (yZ P w)).is h ks a:=by
 obtain⟨_,its,r,o,h1,h2,n,h3⟩:=(show yA P w H h a (.tup (ks.map kV))from QJ ok e)
 exact⟨o,its.toArray,n,h1,h2,h3,by simpa using Yw r⟩
theorem za1{kvs:List (List Key×V)}(ok:HOk P w H h)(e:Rd H a (.dT kvs)):kvs.length≤sizeLine∧(a == sysModules)=false∧
  ∃xs,KT H kvs xs∧h.DictOfH (tupleKind (yZ P w)) a xs:=by
 obtain⟨z,y,xs,r,o,es,ep,h1,h2,h3,h4,h5⟩:=(show yA P w H h a (.dT kvs)from QJ ok e)
 refine⟨z,y,xs,r,o,es,ep,h1,h2,h3,h4,λx hx=>?_,h5⟩
 have all:∀{l:List (List Key×V)} {m:List (List Key×Addr×Value)},KT H l m→∀x∈m,(tupleKind (yZ P w)).is h x.1 x.2.1:=by
  intro l m q;induction q with
  | nil=>intro x hx; exact nomatch hx
  | @cons p q ps qs hq t ih =>
   intro x hx;rcases ζw.mp hx with e | hx
   ·subst e;exact XJ ok (by rw[←hq.1]; exact hq.2.1.rd)
   ·exact ih x hx
 exact all r x hx
theorem zeZ{kvs:List (List Key×V)}(ok:HOk P w H h)(e:H a=some (.dT kvs)):kvs.length≤sizeLine∧(a == sysModules)=false∧
  ∃xs,KT H kvs xs∧h.DictOfH (tupleKind (yZ P w)) a xs:=za1 ok (.inl e)
end
def DGet(H:Hp)(a:Addr)(y:V)(r:Option V):Prop :=
 (∃kvs k,Rd H a (.dK kvs)∧y=kV k∧r=valV kvs k)∨∃kvs k b,Rd H a (.dT kvs)∧y=.ref b∧Rd H b (.tup (k.map kV))∧r=valV kvs k
def DPut(H:Hp)(a:Addr)(y v:V)(H':Hp):Prop :=
 (∃kvs k,H a=some (.dK kvs)∧y=kV k∧kvs.length < sizeLine∧H'=upd H a (.dK (putK kvs k v)))∨
 ∃kvs k b,H a=some (.dT kvs)∧y=.ref b∧Rd H b (.tup (k.map kV))∧kvs.length < sizeLine∧H'=upd H a (.dT (putK kvs k v))
theorem DGet.k{H:Hp}{a:Addr}{kvs:List (Key×V)}{k:Key}(e:H a=some (.dK kvs)):DGet H a (kV k) (valV kvs k):=.inl ⟨kvs,k,.inl e,rfl,rfl⟩
theorem DPut.k{H:Hp}{a:Addr}{kvs:List (Key×V)}{k:Key}{v:V}(e:H a=some (.dK kvs))(hl:kvs.length < sizeLine):DPut H a (kV k) v (upd H a (.dK (putK kvs k v))):=.inl ⟨kvs,k,e,rfl,hl,rfl⟩
section
variable {X:Cx}{pins:AL}{σ:St}{H:Hp}{s:Shared}{a:Addr}{y v:V}{u r:Value}{o:Option V}{A:Around}{E:AN}
theorem Inv.big(I:Inv X pins σ H s):sysModules < s.heap.objs.size:=by
 have h:mainGlobals < s.heap.objs.size:=(I.mod.glob.keeps I.bk).lt;exact Nat.lt_trans #[2] h
theorem d_in{Q:AN}(hu:A.units + 1 < cLine)(I:Inv X pins σ H s)(g:DGet H a y o)(ry:RelV y u)(h:∀s',Inv X pins σ H s'→Q (.bool o.isSome) s'):
  wpAny (model X.prog X.w) A (compareOp .In u (.ref a)) Q E s:=by
 rcases g with⟨kvs,k,e,ey,l⟩ | ⟨kvs,k,b,e,ey,eb,l⟩
 ·subst ey;obtain⟨z,hd,vs,rel,dd⟩:=za3 I.hok e;refine wpAny_in_of (Uv ry) hd dd.mapOf ?_;rw[←(rel.val k).isSome_eq,←l];exact h _ (I.tok _)
 ·subst ey;cases(show u=Value.ref b from ry);obtain⟨z,hd,xs,rel,dd⟩:=za1 I.hok e;refine wpAny_in_heap (tupleKind_room_in1 hu) (XJ I.hok eb) hd dd ?_;have q:=(rel.val k).isSome_eq;rw[Option.isSome_map]at q;rw[←q,←l];exact h _ (I.tok _)
theorem zcz{Q:AN}(hu:A.units + 1 < cLine)(I:Inv X pins σ H s)(g:DGet H a y o)(ry:RelV y u)(h:∀s',Inv X pins σ H s'→Q (.bool (!o.isSome)) s'):
  wpAny (model X.prog X.w) A (compareOp .NotIn u (.ref a)) Q E s:=by
 rcases g with⟨kvs,k,e,ey,l⟩ | ⟨kvs,k,b,e,ey,eb,l⟩
 ·subst ey;obtain⟨z,hd,vs,rel,dd⟩:=za3 I.hok e;refine wpAny_notIn_of (Uv ry) hd dd.mapOf ?_;rw[←(rel.val k).isSome_eq,←l];exact h _ (I.tok _)
 ·subst ey;cases(show u=Value.ref b from ry);obtain⟨z,hd,xs,rel,dd⟩:=za1 I.hok e;refine wpAny_notIn_heap (tupleKind_room_in1 hu) (XJ I.hok eb) hd dd ?_;have q:=(rel.val k).isSome_eq;rw[Option.isSome_map]at q;rw[←q,←l];exact h _ (I.tok _)
theorem UM{h':Heap}{t':Nat}{ob:HO}(I:Inv X pins σ H s)(mu:Mut (H a))(hs:Heap.SameBut a s.heap h')(he:∃q,h'.get? a=some q)(new:yA X.prog X.w (upd H a ob) h' a ob):
  Inv X pins σ (upd H a ob) { s with heap:=h',toks:=t' } :=
 I.write (x:=a) (e:=a) mu (.inl rfl) (λb q hb z=>(hs.2 b hb).trans z) he new
theorem zei{P:Program}{w:World}{H':Hp}{h':Heap}{kvs:List (Key×V)}{vs:List (Key×Value)}(z:kvs.length≤sizeLine)(hd:(a == sysModules)=false)(rel:KV kvs vs)(dd:h'.DictOf (yZ P w) a vs):
  yA P w H' h' a (.dK kvs):=⟨z,hd,vs,rel,dd⟩
theorem TU{H':Hp}{Q:Unit→Shared→Prop}(hu:A.units + 1 < cLine)(I:Inv X pins σ H s)(g:DPut H a y v H')(ry:RelV y u)(rv:RelV v r)(h:∀s',Inv X pins σ H' s'→Q () s'):
  wpAny (model X.prog X.w) A (setItem (.ref a) u r) Q E s:=by
 rcases g with⟨kvs,k,e,ey,l,eH⟩ | ⟨kvs,k,b,e,ey,eb,l,eH⟩
 ·subst ey eH;obtain⟨z,hd,vs,rel,dd⟩:=ze0 I.hok e;have hz:vs.length≤sizeLine:=by rw[←rel.length]; exact z
  have hl:(putK kvs k v).length≤sizeLine:=by have:=vD kvs k v; omega
  refine wpAny_setItem_pairs (hsz:=hz) (Uv ry) dd λh' dd' hs=>h _ ?_;have he:∃q,h'.get? a=some q:=let⟨q,_,_,hq,_⟩:=dd'; ⟨q,hq⟩;exact UM I (by rw[e]; exact True.intro) hs he (zei hl hd (rel.put k rv) dd')
 ·subst ey eH;cases(show u=Value.ref b from ry);obtain⟨z,hd,xs,rel,dd⟩:=zeZ I.hok e;have hz:xs.length≤sizeLine:=by rw[←Paired.length rel]; exact z
  have hl:(putK kvs k v).length≤sizeLine:=by have:=vD kvs k v; omega
  refine wpAny_setItem_heap (hsz:=hz) (tupleKind_room_in1 hu) (XJ I.hok eb) dd λh' dd' hs=>h _ ?_;obtain⟨q,es,ep,hq,h2,h3,h4,_,h5⟩:=dd';refine UM I (by rw[e]; exact True.intro) hs ⟨q,hq⟩ ⟨hl,hd,_,(rel.put k (Qj I.hok eb) rv).keeps λc ys ec=>?_,q,es,ep,hq,h2,h3,h4,h5⟩;exact ec.imp (λy=>by rw[zr (zcY y e (λz=>nomatch z))]; exact y) λ⟨o,n,y⟩=>⟨o,n,by rw[zr (zcY y e (λz=>nomatch z))]; exact y⟩
end
section
variable {X:Cx}{pins:AL}{σ:St}{H:Hp}{s:Shared}{a:Addr}{kvs:List (Key×V)}{k:Key}{u:Value}{A:Around}{E:AN}
end
def tDIn(ty td:TE):TE:=λσ H Q=>ty σ H λy H1=>td σ H1 λx H2=>∃a o,x=.ref a∧DGet H2 a y o∧Q (.bl o.isSome) H2
def V5(ty td:TE):TE:=λσ H Q=>ty σ H λy H1=>td σ H1 λx H2=>∃a o,x=.ref a∧DGet H2 a y o∧Q (.bl (!o.isSome)) H2
def QB(td ty tv:TE):TS:=λD σ H=>tv σ H λv H1=>td σ H1 λx H2=>ty σ H2 λy H3=>∃a H4,x=.ref a∧DPut H3 a y v H4∧D.nx σ H4
section
variable {X:Cx}{o i e value:Expr}{pos pos' tpos:Pos}{td ty tv:TE}
theorem zdB(hu:X.A.units + 1 < cLine)(hi:PE X i ty)(ho:PE X o td):PC X .In i o (tDIn ty td):=by
 intro pins s σ H Q I h;refine thn (hi pins s σ H _ I h) λiv s1 ⟨y,H1,I1,ry,q1⟩=>thn (ho pins s1 σ H1 _ I1 q1) λu s2 ⟨x,H2,I2,rx,a,ov,ex,g,q2⟩=>?_;subst ex;obtain rfl:u=Value.ref a:=rx;exact d_in hu I2 g ry λs3 I3=>⟨.bl ov.isSome,H2,I3,rfl,q2⟩
theorem Tf(hu:X.A.units + 1 < cLine)(hi:PE X i ty)(ho:PE X o td):PC X .NotIn i o (V5 ty td):=by
 intro pins s σ H Q I h;refine thn (hi pins s σ H _ I h) λiv s1 ⟨y,H1,I1,ry,q1⟩=>thn (ho pins s1 σ H1 _ I1 q1) λu s2 ⟨x,H2,I2,rx,a,ov,ex,g,q2⟩=>?_;subst ex;obtain rfl:u=Value.ref a:=rx;exact zcz hu I2 g ry λs3 I3=>⟨.bl (!ov.isSome),H2,I3,rfl,q2⟩
theorem zbR(hu:X.A.units + 1 < cLine)(ho:PE X o td)(hi:PE X i ty)(hv:PE X value tv)(hs:swapsWith value (some (.Subscript o i pos')) pos.line X.env=pure false):
  PS X (.Assign [.Subscript o i pos'] value pos) (QB td ty tv):=by
 intro pins s σ H D I h;refine wpAny_Assign_Subscript (thn (hv pins s σ H _ I h) λr s1 ⟨v,H1,I1,rv,q1⟩=>thn (ho pins s1 σ H1 _ I1 q1) λu s2 ⟨x,H2,I2,rx,q2⟩=>thn (hi pins s2 σ H2 _ I2 q2) λiv s3 ⟨y,H3,I3,ry,a,H4,ex,g,q3⟩=>?_) hs;subst ex;obtain rfl:u=Value.ref a:=rx;exact TU hu I3 g ry rv λs4 I4=>⟨σ,H4,I4,q3⟩
end
theorem za4{P:Program}{w:World}{H:Hp}(h:Heap)(hb:sysModules < h.objs.size):yA P w H (h.push { cls:=.type "dict", data:=.dict #[] }) h.objs.size (.dK []) :=
 ⟨ξj _,beq_eq_false_iff_ne.mpr (Ne.symm (ζQ hb)),[],.nil,Heap.DictOf.new h⟩
def Qo:TE:=λ_ H Q=>∀p,H p=none→Q (.ref p) (upd H p (.dK []))
section
variable {X:Cx}{pos:Pos}
theorem Q3:PE X (.Dict [] [] pos) Qo:=λpins s σ H Q I h =>
 wpAny_Dict_empty ⟨.ref s.heap.objs.size,_,I.laid (a:=s.heap.objs.size) (o:=.dK []) (t':=s.toks) (λ_ _ q=>ζj _ q) (ζl _) (za4 s.heap I.big),rfl,h _ (I.hok.fresh (ζl _))⟩
end
section
variable {X:Cx}{pins:AL}{σ:St}{H:Hp}{s:Shared}{a:Addr}{y d:V}{u r:Value}{o:Option V}{A:Around}{E:AN}
end
section
variable {X:Cx}{o e f:Expr}{apos cpos:Pos}{td ty tx:TE}
end
section
variable {X:Cx}{pins:AL}{σ:St}{H:Hp}{s:Shared}{a:Addr}{kvs:List (Key×V)}{A:Around}{E:AN}
end
section
variable {X:Cx}{pins:AL}{σ:St}{H:Hp}{s:Shared}{a:Addr}{y:V}{u:Value}{A:Around}{E:AN}
end
end L2
namespace PD
open PySem L2
section
variable {K:ζc}{S S':Sx}{κ κ':Bool}{Γ Γ' Γ'':Ctx}{P:Post}{E:XK}
abbrev DTab:=List (Key×V)
def dGet(m:DTab)(k:Int):Option V:=valV m (.inl k)
def dPut(m:DTab)(k:Int)(v:V):DTab:=putK m (.inl k) v
theorem za8(k:Int):dGet [] k=none:=rfl
theorem za7(m:DTab)(k j:Int)(v:V):dGet (dPut m k v) j=if j=k then some v else dGet m j:=by
 unfold dGet dPut;rw[Qb];by_cases h:j=k
 ·rw[if_pos h,if_pos (by rw[h])]
 ·rw[if_neg h,if_neg (λz=>h (Sum.inl.inj z))]
theorem za6(m:DTab)(k:Int)(v:V):(dPut m k v).length≤m.length + 1:=vD m _ v
def toV:AD→Option V
 | .int i=>some (.int i)
 | .bool b=>some (.bl b)
 | _=>none
theorem zdj{H0 F:Hp}{v w:V}{d:AD}(p:Rp K κ S H0 F v d)(h:toV d=some w):v=w:=by
 cases d with
 | int i=>cases yt p; exact ζr h
 | bool b=>cases tO p; exact ζr h
 | _=>cases h
theorem zcn{i:Nat}{u:TS}(es:SetC Γ i (some (.od (.dK []))) Γ')(k:ExT K S S' u Γ' P):ExT K S S' (tSeq (tAsg Qo (yJ i)) u) Γ P:=λH0 F0 H F σ B e bb vv D I=>by
 refine λp hp=>?_;have g:Gr H F (upd H p (.dK [])) F:=.newO e.le hp _;have e1:=(e.mono g).set (i:=i) (v:=.ref p) (x:=.od (.dK [])) ⟨p,rfl,⟨zk,e.le.free hp,e.gr.h.free hp,e.out hp⟩⟩ λc oc j y w hj z hw o=>by
  cases(show V.ref p=.ref c from oc);exact e.newOwn g hp j y w z hw o
 rw[es.eq]at e1;exact k H0 F0 _ F _ B e1 bb vv D I
theorem zea{i:Nat}{m:DTab}{ta:TE}{k:Int}(h:GetC Γ i (.od (.dK m)))(ha:EvE K S false ta Γ (.int k)):EvE K S κ (tDIn ta (tVar i)) Γ (.bool (dGet m k).isSome):=λH0 F0 H F σ e Q q=>ha H0 F0 H F σ e _ λv H1 F1 g1 p1=>by
 cases yt p1;obtain⟨v0,q1,a,rfl,w⟩:=(e.mono g1).has i _ h.eq;exact⟨_,q1,a,_,rfl,DGet.k (k:=.inl k) w.h,q _ H1 F1 g1 (.bl _)⟩
theorem TN{i:Nat}{m:DTab}{ta:TE}{k:Int}(h:GetC Γ i (.od (.dK m)))(ha:EvE K S false ta Γ (.int k)):EvE K S κ (V5 ta (tVar i)) Γ (.bool (!(dGet m k).isSome)):=λH0 F0 H F σ e Q q=>ha H0 F0 H F σ e _ λv H1 F1 g1 p1=>by
 cases yt p1;obtain⟨v0,q1,a,rfl,w⟩:=(e.mono g1).has i _ h.eq;exact⟨_,q1,a,_,rfl,DGet.k (k:=.inl k) w.h,q _ H1 F1 g1 (.bl _)⟩
theorem zcm{i:Nat}{m:DTab}{tk tv:TE}{k:Int}{w:V}{d:AD}(h:GetC Γ i (.od (.dK m)))(hv:EvE K S false tv Γ d)(hk:EvE K S false tk Γ (.int k))(hw:toV d=some w)(hz:m.length < sizeLine)(es:SetC Γ i (some (.od (.dK (dPut m k w)))) Γ')(kk:P.nx Γ'):ExS K S (QB (tVar i) tk tv) Γ P:=λH0 F0 H F σ B e bb vv D I =>
 hv H0 F0 H F σ e _ λv H1 F1 g1 p1=>by
  cases zdj p1 hw;obtain⟨v0,q1,a,rfl,o⟩:=(e.mono g1).has i _ h.eq;refine⟨_,q1,hk H0 F0 H1 F1 σ (e.mono g1) _ λv2 H2 F2 g2 p2=>?_⟩
  cases yt p2;have e2:=(e.mono g1).mono g2;have o2:=o.mono g2;refine⟨a,_,rfl,DPut.k (k:=.inl k) o2.h hz,?_⟩
  have e3:=e2.putO (oo:=.dK (dPut m k w)) (y:=.od (.dK (dPut m k w))) h.eq q1 (show Owns H2 (.ref a) (.od (.dK m)) a from rfl) ⟨a,rfl,⟨zk,o2.f,o2.n,o2.s⟩⟩ λ_ z=>z;rw[es.eq]at e3;exact I.nx _ _ _ F2 kk ((bb.trans g1.f).trans g2.f) e3
theorem zaG{i:Nat}{m:DTab}{tk tv:TE}{u:TS}{k:Int}{w:V}{d:AD}(h:GetC Γ i (.od (.dK m)))(hv:EvE K S false tv Γ d)(hk:EvE K S false tk Γ (.int k))(hw:toV d=some w)(hz:m.length < sizeLine)(es:SetC Γ i (some (.od (.dK (dPut m k w)))) Γ')(kk:ExT K S S' u Γ' P):ExT K S S' (tSeq (QB (tVar i) tk tv) u) Γ P:=yw (·=Γ') (zcm h hv hk hw hz es rfl) λ_ z=>z ▸ kk
end
section
variable {K:ζc}{S S':Sx}{κ κ':Bool}{Γ Γ' Γ'' Γ3:Ctx}{P:Post}
theorem zaI{te:TE}{u:TS}{d:AD}(h:EvE K S false te Γ d)(k:ExT K S S' u Γ P):ExT K S S' (tSeq (xX te) u) Γ P:=yw (·=Γ) (zcp h rfl) λ_ z=>z ▸ k
end
section
variable {K:ζc}{S S':Sx}{κ κ':Bool}{Γ Γ' Γ'':Ctx}{P:Post}
theorem zaJ(i:Nat){κ0:Bool}{t:TE}{xs ds0:AG}{Γf:Ctx}(h:GetC Γ i (.ow κ0 ds0))(es:SetC Γ i (some (.fz κ0 (.list ds0))) Γf)(k:EvO K S κ t Γf xs)(him:∀d∈xs,imm d=true):EvO K S κ t Γ xs:=λH0 F0 H F σ e Q q=>by
 obtain⟨a,Ff,e',g⟩:=thaw e h es;refine k H0 F0 H Ff σ e' Q λb vs H' F' g' n p f q'=>q b vs H' _ (g H' F' g') n p ?_ (WR him (zN q'));cases z:drop (λc=>c=a) F' b with
 | none=>rfl
 | some o=>rw[(xj.mp z).1]at f; cases f
end
end PD
namespace Rq
open Wd Sh Sx2 El
def rp(q:Rat):Int×Int:=(q.num,(q.den:Int))
theorem vk(q:Rat):Low (rp q).1 (rp q).2:=⟨by show(0:Int) < q.den; have:=q.den_pos; omega,by show Int.gcd q.num q.den=1; exact q.reduced⟩
theorem vS(q:Rat):q * ((q.den:Int):Rat)=(q.num:Rat):=by
 have h:q=Rat.divInt q.num q.den:=(Rat.num_divInt_den q).symm;have hd:((q.den:Int):Rat)≠0:=by
  intro z;have:=Rat.intCast_inj.mp (z.trans Rat.intCast_zero.symm);have:=q.den_pos;omega
 have e:q=(q.num:Rat) / ((q.den:Int):Rat):=by
  conv=>lhs; rw[h]
  exact Rat.divInt_eq_div _ _
 conv=>lhs; lhs; rw[e]
 grind
theorem UO{q:Rat}{a b:Int}(h:q * (b:Rat)=(a:Rat)):q.num * b=a * q.den:=by
 have d:=vS q;refine Rat.intCast_inj.mp ?_;rw[Rat.intCast_mul,Rat.intCast_mul];grind
theorem zeO{q:Rat}{a b:Int}(hb:0 < b)(h:q * (b:Rat)=(a:Rat)):mk a b=rp q:=(zcb (vk q) hb (UO h)).symm
theorem Xd{x:Int×Int}{q:Rat}{a b:Int}(hb:b≠0)(lo:Low x.1 x.2)(e:x.1 * b=a * x.2)(h:q * (b:Rat)=(a:Rat)):x=rp q:=by
 have c:=UO h;refine zak lo (vk q) ?_;show x.1 * (q.den:Int)=q.num * x.2;refine Int.eq_of_mul_eq_mul_left hb ?_;grind
theorem XQ(q:Rat):(q.den:Int)≠0:=by have:=q.den_pos; omega
theorem zeF(x y:Rat):pl (rp x).1 (rp x).2 (rp y).1 (rp y).2=rp (x + y):=by
 have h:=QZ (vk x) (vk y);refine Xd (Int.mul_ne_zero (XQ x) (XQ y)) h.1 h.2 ?_;have d1:=vS x;have d2:=vS y;show(x + y) * (((x.den:Int) * (y.den:Int):Int):Rat)=((x.num * (y.den:Int) + (x.den:Int) * y.num:Int):Rat);rw[Rat.intCast_mul,Rat.intCast_add,Rat.intCast_mul,Rat.intCast_mul];grind
theorem zcK(x y:Rat):tm (rp x).1 (rp x).2 (rp y).1 (rp y).2=rp (x * y):=by
 have h:=zde (vk x) (vk y);refine Xd (Int.mul_ne_zero (XQ x) (XQ y)) h.1 h.2 ?_;have d1:=vS x;have d2:=vS y;show(x * y) * (((x.den:Int) * (y.den:Int):Int):Rat)=((x.num * y.num:Int):Rat);rw[Rat.intCast_mul,Rat.intCast_mul];grind
theorem zbM:rp 0=(0,1):=rfl
theorem zaa{q:Rat}(h:0 < q.num):q≠0:=λz=>by rw[z]at h; exact absurd h #[2]
theorem zdk{q:Rat}(h:0 < q.num):((rp q).2,(rp q).1)=rp q⁻¹:=by
 have lo:=vk q;have l2:Low (q.den:Int) q.num:=⟨h,by show Int.gcd _ _=1; rw[Int.gcd_comm]; exact q.reduced⟩
 refine Xd (x:=((q.den:Int),q.num)) (a:=(q.den:Int)) (b:=q.num) ⋯ l2 rfl ?_;have d:=vS q;have n0:=zaa h;grind
theorem Qk{α:Type}(g:α→Rat):∀(xs:List α) (q:Rat),(xs.map λv=>rp (g v)).foldl (λx y=>pl x.1 x.2 y.1 y.2) (rp q)=rp (q + (xs.map g).sum)
 | [],q=>by
  show rp q=rp (q + 0);rw[Rat.add_zero]
 | x :: r,q=>by
  rw[ζF,List.foldl_cons,zeF,Qk g r,ζF,ξc,Rat.add_assoc]
theorem zdd{α:Type}(g:α→Rat)(xs:List α):tot (xs.map λv=>rp (g v))=rp (xs.map g).sum:=by
 have:=Qk g xs 0;rw[zbM,Rat.zero_add]at this;exact this
def Bq(n:Nat)(q:Rat):Prop:=∃a b:Nat,0 < a∧0 < b∧a < 2 ^ n∧b < 2 ^ n∧q * ((b:Int):Rat)=((a:Int):Rat)
theorem Bq.bits{n:Nat}{q:Rat}(h:Bq n q):0 < q.num∧q.num.natAbs < 2 ^ n∧q.den < 2 ^ n:=by
 obtain⟨a,b,ha,hb,la,lb,e⟩:=h;have c:=UO e;have dp:=q.den_pos;have np:0 < q.num:=by
  refine Int.pos_of_mul_pos_left (b:=(b:Int)) ?_ ⋯;rw[c];exact Int.mul_pos ⋯ ⋯
 have cn:q.num.natAbs * b=a * q.den:=by
  have:=congrArg Int.natAbs c;rw[ξB,ξB]at this;exact this
 have d1:q.num.natAbs ∣ a:=Nat.Coprime.dvd_of_dvd_mul_right q.reduced ⟨b,cn.symm⟩;have d2:q.den ∣ b:=Nat.Coprime.dvd_of_dvd_mul_left (Nat.Coprime.symm q.reduced) ⟨a,by rw[cn,Nat.mul_comm]⟩;have:=Nat.le_of_dvd ha d1;have:=Nat.le_of_dvd hb d2;exact⟨np,⋯,⋯⟩
theorem Bq.ne{n:Nat}{q:Rat}(h:Bq n q):q≠0:=zaa h.bits.1
theorem Bq.up{n m:Nat}{q:Rat}(h:Bq n q)(hn:n≤m):Bq m q:=by
 obtain⟨a,b,ha,hb,la,lb,e⟩:=h;have:=ξw (show 0 < 2 by decide) hn;exact⟨a,b,ha,hb,⋯,⋯,e⟩
theorem Bq.one:Bq 1 1:=⟨1,1,#[2],#[2],#[2],#[2],by rw[Rat.one_mul]⟩
theorem zai{a b n m:Nat}(h1:a < 2 ^ n)(h2:b < 2 ^ m):a * b < 2 ^ (n + m):=by
 rw[Nat.pow_add];exact ζ6 (Nat.mul_le_mul_left a ⋯) (Nat.mul_lt_mul_of_pos_right h1 (Nat.pow_pos #[2]))
theorem Bq.mul{n m:Nat}{x y:Rat}(h:Bq n x)(g:Bq m y):Bq (n + m) (x * y):=by
 obtain⟨a,b,ha,hb,la,lb,e⟩:=h;obtain⟨c,d,hc,hd,lc,ld,e'⟩:=g;refine⟨a * c,b * d,Nat.mul_pos ha hc,Nat.mul_pos hb hd,zai la lc,zai lb ld,?_⟩
 rw[ξR,ξR,Rat.intCast_mul,Rat.intCast_mul];grind
theorem Bq.inv{n:Nat}{x:Rat}(h:Bq n x):Bq n x⁻¹:=by
 have n0:=h.ne;obtain⟨a,b,ha,hb,la,lb,e⟩:=h;exact⟨b,a,hb,ha,lb,la,by grind⟩
theorem Bq.div{n m:Nat}{x y:Rat}(h:Bq n x)(g:Bq m y):Bq (n + m) (x / y):=by
 rw[Rat.div_def];exact h.mul g.inv
def Cq(m:Nat)(q:Rat):Prop:=∃a:Nat,0 < a∧a≤m∧q * ((2520:Int):Rat)=((a:Int):Rat)
theorem QR{α:Type}(f g:α→Rat):∀xs:List α,(xs.map λx=>f x + g x).sum=(xs.map f).sum + (xs.map g).sum
 | []=>(Rat.add_zero 0).symm
 | x :: r=>by
  rw[ζF,ξc,QR f g r,ζF,ξc,ζF,ξc];grind
theorem t8{α:Type}:∀xs:List α,(xs.map λ_=>(0:Rat)).sum=0
 | []=>rfl
 | _ :: r=>by rw[ζF,ξc,t8 r,Rat.add_zero]
theorem V9{α β:Type}(f:α→β→Rat)(ys:List β):∀xs:List α,(xs.map λx=>(ys.map λy=>f x y).sum).sum=(ys.map λy=>(xs.map λx=>f x y).sum).sum
 | []=>(t8 ys).symm
 | x :: r=>by
  rw[ζF,ξc,V9 f ys r,←QR];rfl
theorem QQ(xs ys:List Rat):(xs ++ ys).sum=xs.sum + ys.sum:=by
 induction xs with
 | nil=>exact(Rat.zero_add _).symm
 | cons x r ih=>rw[List.cons_append,ξc,ih,ξc,Rat.add_assoc]
theorem Ua{α β:Type}(f:α→List β)(g:β→Rat):∀xs:List α,((xs.flatMap f).map g).sum=(xs.map λx=>((f x).map g).sum).sum
 | []=>rfl
 | x :: r=>by rw[List.flatMap_cons,ζv,QQ,Ua f g r,ζF,ξc]
def S1(ss:AE)(k:Nat)(f:Asg→Rat):Asg→Rat:=λa=>((vr ss k).map λv=>f (upd a k v)).sum
def Sq(ss:AE):AF→(Asg→Rat)→Asg→Rat
 | [],f,a=>f a
 | k :: r,f,a=>((vr ss k).map λv=>Sq ss r f (upd a k v)).sum
theorem zcI(ss:AE){k j:Nat}(h:k≠j)(r:AF)(f:Asg→Rat)(a:Asg):Sq ss (k :: j :: r) f a=Sq ss (j :: k :: r) f a:=by
 show((vr ss k).map λv=>((vr ss j).map λu=>Sq ss r f (upd (upd a k v) j u)).sum).sum=((vr ss j).map λu=>((vr ss k).map λv=>Sq ss r f (upd (upd a j u) k v)).sum).sum;rw[V9];congr 1;refine ζn λu _=>?_;congr 1;refine ζn λv _=>?_;rw[X8 h]
theorem Zj(ss:AE)(f:Asg→Rat){ks ks':AF}(p:ks.Perm ks'):ks.Nodup→∀a,Sq ss ks f a=Sq ss ks' f a:=by
 induction p with
 | nil=>exact λ_ _=>rfl
 | cons k _ ih =>
  intro h a;show(List.map _ _).sum=(List.map _ _).sum;congr 1;exact ζn λv _=>ih (ζ3.mp h).2 _
 | swap x y l =>
  intro h a;exact zcI ss (λz=>(ζ3.mp h).1 (by rw[z]; exact ζf)) l f a
 | trans p1 _ ih1 ih2=>exact λh a=>(ih1 h a).trans (ih2 (p1.nodup_iff.mp h) a)
theorem Zi(ss:AE)(k:Nat)(f:Asg→Rat):∀(r:AF) (a:Asg),Sq ss (r ++ [k]) f a=Sq ss r (S1 ss k f) a
 | [],_=>rfl
 | j :: r,a=>by
  show(List.map _ _).sum=(List.map _ _).sum;congr 1;exact ζn λv _=>Zi ss k f r _
def Sl(ss:AE)(l:AF)(f:Asg→Rat):Asg→Rat:=l.foldl (λg k=>S1 ss k g) f
theorem zc9(ss:AE):∀(l:AF) (f:Asg→Rat) (a:Asg),Sl ss l f a=Sq ss l.reverse f a
 | [],_,_=>rfl
 | k :: r,f,a=>by
  show Sl ss r (S1 ss k f) a=_;rw[zc9 ss r,List.reverse_cons,Zi]
theorem zbj(ss:AE){l:AF}(nd:l.Nodup)(f:Asg→Rat)(a:Asg):Sl ss l f a=Sq ss l f a:=by
 rw[zc9];exact Zj ss f (List.reverse_perm l) ((List.reverse_perm l).nodup_iff.mpr nd) a
def asn(a:Asg):AF→AE→Asg
 | k :: r,v :: w=>asn (upd a k v) r w
 | _,_=>a
theorem W7:∀(ks:AF) (w:AE) (a:Asg) (k:Nat) (v:Int),ks.length=w.length→asn a (ks ++ [k]) (w ++ [v])=upd (asn a ks w) k v
 | [],[],_,_,_,_=>rfl
 | j :: r,u :: w,a,k,v,h=>W7 r w (upd a j u) k v (by simpa using h)
theorem yS{j:Nat}:∀(ks:AF) (w:AE) (a:Asg),j∉ks→asn a ks w j=a j
 | [],_,_,_=>by unfold asn; rfl
 | k :: r,[],_,_=>rfl
 | k :: r,v :: w,a,h=>by
  show asn (upd a k v) r w j=a j;rw[yS r w _ λz=>h (ζk _ z),zr λz=>h (by rw[z]; exact ζf)]
theorem UU{j:Nat}:∀(ks:AF) (w:AE) (a:Asg),ks.Nodup→j∈ks→ks.length=w.length→asn a ks w j=w.getD (ks.idxOf j) 0
 | k :: r,v :: w,a,nd,h,hl=>by
  show asn (upd a k v) r w j=_;have⟨n1,n2⟩:=ζ3.mp nd;by_cases e:j=k
  ·subst e;rw[yS r w _ n1,zk,List.idxOf_cons_self];rfl
  ·rw[List.idxOf_cons,show(k == j)=false from beq_eq_false_iff_ne.mpr λz=>e z.symm,cond_false,UU r w _ n2 ((List.mem_cons.mp h).resolve_left e) (by simpa using hl)];rfl
def agr(B:Nat→Bool)(a:Asg)(ks:AF)(w:AE):Bool:=(ks.zip w).all λx=>B x.1 || decide (x.2=a x.1)
theorem zbi{B:Nat→Bool}{a:Asg}{ks:AF}{w:AE}{k:Nat}{v:Int}(h:ks.length=w.length):agr B a (ks ++ [k]) (w ++ [v])=(agr B a ks w && (B k || decide (v=a k))):=by
 unfold agr;rw[List.zip_append h,List.all_append];show(_ && (_ && true))=_;rw[Bool.and_true]
theorem zb3(g:Int→Rat)(x:Int):∀(n:Nat),0≤x→x < n→((rng n).map λv=>if decide (v=x)=true then g v else 0).sum=g x:=by
 intro n h0 h1;have zero:∀m:Nat,(m:Int)≤x→((rng m).map λv=>if decide (v=x)=true then g v else 0).sum=0:=λm hm=>by
  have ez:∀v∈rng m,(if decide (v=x)=true then g v else 0)=(0:Rat):=λv hv=>by
   unfold rng at hv;obtain⟨i,hi,rfl⟩:=ζp.mp hv;have:=ζE.mp hi;exact if_neg (by rw[decide_eq_true_eq]; omega)
  rw[ζn ez,t8]
 induction n with
 | zero=>omega
 | succ n ih =>
  have e:rng (n + 1)=rng n ++ [(n:Int)]:=by unfold rng; rw[List.range_succ,List.map_append]; rfl
  rw[e,ζv,QQ];by_cases c:x=(n:Int)
  ·rw[zero n ⋯];rw[List.map_cons,List.map_nil,List.sum_cons,List.sum_nil,if_pos (by simp[c]),Rat.zero_add,Rat.add_zero,c]
  ·rw[ih ⋯];rw[List.map_cons,List.map_nil,List.sum_cons,List.sum_nil,if_neg (by simp; omega),Rat.add_zero,Rat.add_zero]
theorem zer{ss:AE}{ks:AF}{w:AE}(h:w∈wds (pk ss ks)):ks.length=w.length:=by
 unfold wds at h;obtain⟨i,_,rfl⟩:=ζp.mp h;rw[YQ];unfold pk;rw[ζa]
theorem zcH{ss:AE}(B:Nat→Bool)(a:Asg):∀(n:Nat) (ks:AF) (F:Asg→Rat),ks.length=n→ks.Nodup→(∀k∈ks,0≤a k∧a k < ss.getD k 0)→((wds (pk ss ks)).map λw=>if agr B a ks w=true then F (asn a ks w)else 0).sum=Sq ss (ks.filter B) F a:=by
 intro n;induction n with
 | zero =>
  intro ks F h _ _;have:ks=[]:=ζZ h;subst this;show(if agr B a [] []=true then F a else 0) + 0=F a;rw[Rat.add_zero];exact if_pos rfl
 | succ n ih =>
  intro ks F h nd hp;obtain⟨t,k,rfl⟩:∃t s,ks=t ++ [s]:=⟨ks.dropLast,ks.getLast (by intro e; rw[e]at h; cases h),(ξf _).symm⟩
  have hl:t.length=n:=by rw[List.length_append]at h; simpa using h
  have hk:=hp k (by simp);have ht:∀j∈t,0≤a j∧a j < ss.getD j 0:=λj hj=>hp j (ζM _ hj);have⟨ndt,_,dj⟩:=ζW.mp nd;have kt:k∉t:=λz=>dj k z k (by simp) rfl;have ep:pk ss (t ++ [k])=pk ss t ++ [ss.getD k 0]:=by unfold pk; rw[List.map_append]; rfl
  rw[ep,uw (λx hx=>by
   obtain⟨j,hj,rfl⟩:=ζp.mp hx;have:=ht j hj;omega) ⋯]
  unfold grow;rw[Ua,ζ2];have inner:∀w∈wds (pk ss t),(((rng (ss.getD k 0).toNat).map λv=>w ++ [v]).map λw=>if agr B a (t ++ [k]) w=true then F (asn a (t ++ [k]) w)else 0).sum=if agr B a t w=true then(if B k=true then S1 ss k F (asn a t w)else F (asn a t w))else 0:=λw hw=>by
   have wl:=zer hw;rw[ζA];have ek:∀v,((λw=>if agr B a (t ++ [k]) w=true then F (asn a (t ++ [k]) w)else 0)∘λv=>w ++ [v]) v=if(agr B a t w && (B k || decide (v=a k)))=true then F (upd (asn a t w) k v)else 0:=λv=>by
    show(if agr B a (t ++ [k]) (w ++ [v])=true then F (asn a (t ++ [k]) (w ++ [v]))else 0)=_;rw[zbi wl,W7 _ _ _ _ _ wl]
   rw[ζn λv _=>ek v];by_cases c:agr B a t w=true
   ·rw[if_pos c];simp only[c,Bool.true_and];by_cases b:B k=true
    ·rw[if_pos b];simp only[b,Bool.true_or,if_true];rfl
    ·rw[if_neg b];simp only[Bool.not_eq_true]at b;simp only[b,Bool.false_or];rw[zb3 (λv=>F (upd (asn a t w) k v)) (a k) _ hk.1 ⋯];congr 1;funext j;unfold upd;split
     ·rename_i e;rw[e,yS t w a kt]
     ·rfl
   ·rw[if_neg c];simp only[Bool.not_eq_true]at c;simp only[c,Bool.false_and];exact t8 _
  rw[ζn inner];by_cases b:B k=true
  ·simp only[b,if_true];rw[ih t (S1 ss k F) hl ndt ht,List.filter_cons_of_pos b,List.filter_nil,Zi]
  ·simp only[b,Bool.false_eq_true,if_false];rw[ih t F hl ndt ht,List.filter_cons_of_neg b,List.filter_nil,ζ1]
structure Qs where
 ks:AF
 f:Asg→Rat
structure QsOk(ss:AE)(s:Qs):Prop where
 k:∀j∈s.ks,j < ss.length
 nd:s.ks.Nodup
 dep:∀a b:Asg,(∀j∈s.ks,a j=b j)→s.f a=s.f b
def qX(ss:AE)(s:Qs):AM:=(wds (pk ss s.ks)).map λw=>rp (s.f (asg s.ks w))
theorem Vp(ss:AE)(s:Qs):(qX ss s).length=(prod (pk ss s.ks)).toNat:=by
 unfold qX;rw[ζa,yL]
theorem zcV{ss:AE}{s:Qs}(ok:QsOk ss s){a:Asg}(hr:∀j∈s.ks,0≤a j∧a j < ss.getD j 0):(qX ss s).getD (rkF (pk ss s.ks) (s.ks.map a)).toNat (0,1)=rp (s.f a):=by
 have inr:∀(i:Nat) x v,(pk ss s.ks)[i]?=some x→(s.ks.map a)[i]?=some v→0≤v∧v < x:=λi x v h1 h2=>by
  unfold pk at h1;rw[ζo]at h1 h2;cases e:s.ks[i]? with
  | none=>rw[e]at h1; cases h1
  | some c =>
   rw[e]at h1 h2;have e1:ss.getD c 0=x:=ζr h1;have e2:a c=v:=ζr h2;rw[←e1,←e2];exact hr c (ζd e)
 have pl:(pk ss s.ks).length=s.ks.length:=by unfold pk; rw[List.length_map]
 have b:=wx (ss:=pk ss s.ks) (ws:=s.ks.map a) (by rw[pl,ζa]) inr;have g:=zbm (ss:=pk ss s.ks) (i:=(rkF (pk ss s.ks) (s.ks.map a)).toNat) ⋯;rw[ζ0 b.1,VZ s.ks.length _ _ pl (ζa ..) inr]at g;unfold qX;rw[ζb,ζo,g];show rp (s.f (asg s.ks (s.ks.map a)))=_;rw[ok.dep _ a λj hj=>zcF a hj]
def lout(ss:AE)(s:Qs)(k:Nat):Qs:=⟨oth s.ks k,S1 ss k s.f⟩
def join(n:Nat)(s t:Qs):Qs:=⟨unF n s.ks t.ks,λa=>s.f a * t.f a⟩
def dvd(s t:Qs):Qs:=⟨s.ks,λa=>s.f a / t.f a⟩
def one:Qs:=⟨[],λ_=>1⟩
theorem Vw(ss:AE):QsOk ss one:=⟨λj h=>(nomatch h),ξ8,λ_ _ _=>rfl⟩
theorem zcf{ss:AE}{s t:Qs}(h1:QsOk ss s)(h2:QsOk ss t):QsOk ss (join ss.length s t) :=
 ⟨λj hj=>(xP.mp hj).1,Qc ..,λa b h=>by
  show s.f a * t.f a=s.f b * t.f b;rw[h1.dep a b λj hj=>h j (xP.mpr ⟨h1.k j hj,.inl hj⟩),h2.dep a b λj hj=>h j (xP.mpr ⟨h2.k j hj,.inr hj⟩)]⟩
theorem za0{ss:AE}{s t:Qs}(h1:QsOk ss s)(h2:QsOk ss t)(hs:∀k∈t.ks,k∈s.ks):QsOk ss (dvd s t) :=
 ⟨h1.k,h1.nd,λa b h=>by
  show s.f a / t.f a=s.f b / t.f b;rw[h1.dep a b h,h2.dep a b λj hj=>h j (hs j hj)]⟩
theorem zep{ss:AE}{ks:AF}{f:Asg→Rat}(dep:∀a b:Asg,(∀j∈ks,a j=b j)→f a=f b)(k:Nat):∀a b:Asg,(∀j∈oth ks k,a j=b j)→S1 ss k f a=S1 ss k f b:=λa b h=>by
 unfold S1;congr 1;refine ζn λv _=>dep _ _ λj hj=>?_;by_cases e:j=k
 ·rw[e,zk,zk]
 ·rw[zr e,zr e,h j (xB.mpr ⟨hj,e⟩)]
theorem XC{ss:AE}{s:Qs}(h:QsOk ss s)(k:Nat):QsOk ss (lout ss s k) :=
 ⟨λj hj=>h.k j (xB.mp hj).1,h.nd.sublist ζx,zep h.dep k⟩
end Rq
namespace Ti
open Wd Sh Sx2 El Rq
variable {ss:AE}{c:Nat→Asg→Rat}{pa:Nat→AF}{hs:AF}{N:Nat}
theorem Xh{α:Type}(q:Rat)(g:α→Rat):∀xs:List α,(xs.map λx=>q * g x).sum=q * (xs.map g).sum
 | []=>(Rat.mul_zero q).symm
 | x :: r=>by rw[ζF,ξc,Xh q g r,ζF,ξc,Rat.mul_add]
def Fr(k:Nat)(f:Asg→Rat):Prop:=∀a v,f (upd a k v)=f a
theorem Fr.mul{k:Nat}{f g:Asg→Rat}(h:Fr k f)(h':Fr k g):Fr k λa=>f a * g a:=λa v=>by
 show f _ * g _=f a * g a;rw[h,h']
theorem Fr.sq{k:Nat}{f:Asg→Rat}(h:Fr k f):∀l,Fr k (Sq ss l f)
 | []=>h
 | j :: r=>λa v=>by
  show(List.map _ _).sum=(List.map _ _).sum;congr 1;refine ζn λu _=>?_;by_cases e:j=k
  ·have:upd (upd a k v) j u=upd a j u:=by
    subst e;funext i;unfold upd;split <;> rfl
   rw[this]
  ·rw[X8 λz=>e z.symm];exact Fr.sq h r _ _
theorem vZ{l:AF}{f g:Asg→Rat}(h:∀a,f a=g a)(a:Asg):Sq ss l f a=Sq ss l g a:=by rw[show f=g from funext h]
theorem Zn{f g:Asg→Rat}:∀l,(∀k∈l,Fr k g)→∀a,Sq ss l (λa=>g a * f a) a=g a * Sq ss l f a
 | [],_,_=>rfl
 | k :: r,h,a=>by
  show(List.map _ _).sum=_ * (List.map _ _).sum;rw[←Xh];congr 1;refine ζn λv _=>?_;rw[Zn r (λj hj=>h j (ζk _ hj)),h k ζf]
theorem Qu(m:AF)(f:Asg→Rat):∀l a,Sq ss (l ++ m) f a=Sq ss l (Sq ss m f) a
 | [],_=>rfl
 | k :: r,a=>by
  show(List.map _ _).sum=(List.map _ _).sum;congr 1;exact ζn λv _=>Qu m f r _
theorem zeA{l:AF}{k:Nat}(nd:l.Nodup)(hk:k∉l)(f:Asg→Rat)(a:Asg):S1 ss k (Sq ss l f) a=Sq ss l (S1 ss k f) a:=by
 rw[←Zi];exact Zj ss f (List.perm_append_comm (l₁:=[k])) (ζ3.mpr ⟨hk,nd⟩) a
structure Bo(ss:AE)(c:Nat→Asg→Rat)(pa:Nat→AF)(hs:AF)(N:Nat):Prop where
 dep:∀k,k < N→∀a b:Asg,(∀j,j=k∨j∈pa k→a j=b j)→c k a=c k b
 one:∀k,k < N→∀a,S1 ss k (c k) a=1
 hid:∀h∈hs,pa h=[]
 hn:hs.Nodup
 hl:∀h∈hs,h < N
def Pr(c:Nat→Asg→Rat):AF→Asg→Rat
 | [],_=>1
 | k :: r,a=>c k a * Pr c r a
theorem ZB(a:Asg)(m:AF):∀l,Pr c (l ++ m) a=Pr c l a * Pr c m a
 | []=>(Rat.one_mul _).symm
 | k :: r=>by
  show c k a * Pr c (r ++ m) a=c k a * Pr c r a * _;rw[ZB a m r,Rat.mul_assoc]
theorem Ud(a:Asg){l m:AF}(p:l.Perm m):Pr c l a=Pr c m a:=by
 induction p with
 | nil=>rfl
 | cons k _ ih=>show c k a * _=c k a * _; rw[ih]
 | swap x y l =>
  show c y a * (c x a * _)=c x a * (c y a * _);grind
 | trans _ _ h1 h2=>rw[h1,h2]
theorem Bo.fr(B:Bo ss c pa hs N){k j:Nat}(hj:j < N)(h1:k≠j)(h2:k∉pa j):Fr k (c j):=λa v=>B.dep j hj _ _ λi hi=>zr λz=>hi.elim (λe=>h1 (by rw[←z,e])) λe=>h2 (by rw[←z]; exact e)
theorem Bo.prf(B:Bo ss c pa hs N){k:Nat}:∀L:AF,(∀j∈L,j < N∧k≠j∧k∉pa j)→Fr k (Pr c L)
 | [],_=>λ_ _=>rfl
 | j :: r,h=>Fr.mul (B.fr (h j ζf).1 (h j ζf).2.1 (h j ζf).2.2) (B.prf r λi hi=>h i (ζk _ hi))
theorem Bo.prh(B:Bo ss c pa hs N){k:Nat}{H:AF}(hH:∀h∈H,h∈hs)(hk:k∉H):Fr k (Pr c H):=B.prf H λj hj=>⟨B.hl j (hH j hj),λe=>hk (e ▸ hj),by rw[B.hid j (hH j hj)]; exact List.not_mem_nil⟩
def Q(ss:AE)(c:Nat→Asg→Rat)(hs L:AF):Asg→Rat:=Sq ss hs λa=>Pr c L a * Pr c hs a
theorem Xj{l m:AF}(p:l.Perm m):Q ss c hs l=Q ss c hs m:=by
 unfold Q;congr 1;funext a;rw[Ud a p]
theorem Bo.leaf(B:Bo ss c pa hs N){L:AF}{k:Nat}(kN:k < N)(hk:k∉hs)(h:∀j∈L,j < N∧k≠j∧k∉pa j):S1 ss k (Q ss c hs (L ++ [k]))=Q ss c hs L:=by
 funext a;unfold Q;rw[zeA B.hn hk];refine vZ (λb=>?_) a;have e:(λa=>Pr c (L ++ [k]) a * Pr c hs a)=λa=>(Pr c L a * Pr c hs a) * c k a:=by
  funext a;rw[ZB];show Pr c L a * (c k a * 1) * _=_;grind
 rw[e];have:=Zn (ss:=ss) (f:=c k) (g:=λa=>Pr c L a * Pr c hs a) [k] (λj hj=>by
  rw[ζi.mp hj];exact(B.prf L h).mul (B.prh (λ_ z=>z) hk)) b
 refine this.trans ?_;show _ * S1 ss k (c k) b=_;rw[B.one k kN,Rat.mul_one]
theorem Bo.tail(B:Bo ss c pa hs N):∀(t o:AF),(o ++ t).Nodup→(∀x∈o,x < N)→(∀k∈t,k∉hs∧k < N)→(∀x∈o,∀y∈t,y∉pa x)→t.Pairwise (λx y=>y∉pa x)→Sl ss t.reverse (Q ss c hs (o ++ t))=Q ss c hs o
 | [],o,_,_,_,_,_=>by rw[ζ1]; rfl
 | k :: r,o,nd,ho,ht,hx,pw=>by
  have e:o ++ k :: r=(o ++ [k]) ++ r:=by rw[ξI]; rfl
  have⟨p1,p2⟩:=ξu.mp pw;have⟨k1,k2⟩:=ht k ζf;have ih:=B.tail r (o ++ [k]) (e ▸ nd) (λx hx=>(ζu.mp hx).elim (ho x) λz=>by rw[ζi.mp z]; exact k2) (λj hj=>ht j (ζk _ hj)) (λx h y hy=>(ζu.mp h).elim (λz=>hx x z y (ζk _ hy)) λz=>by rw[ζi.mp z]; exact p1 y hy) p2;rw[List.reverse_cons,e];unfold Sl at ih ⊢;rw[ξq,ih];exact B.leaf k2 k1 λj hj=>⟨ho j hj,λz=>by
   have:=ζW.mp nd;exact this.2.2 j hj k ζf z.symm,hx j hj k ζf⟩
theorem fac{H1 H2:AF}{U V:Asg→Rat}(hU:∀h∈H2,Fr h U)(hV:∀h∈H1,Fr h V)(a:Asg):Sq ss (H1 ++ H2) (λa=>U a * V a) a=Sq ss H1 U a * Sq ss H2 V a:=by
 rw[Qu,vZ (Zn H2 hU),vZ (λb=>Rat.mul_comm _ _),Zn H1 λh hh=>Fr.sq (hV h hh) _,Rat.mul_comm]
theorem Bo.h1(B:Bo ss c pa hs N):∀H:AF,(∀h∈H,h∈hs)→H.Nodup→∀a,Sq ss H (Pr c H) a=1
 | [],_,_,_=>rfl
 | h :: r,hH,nd,a=>by
  have⟨n1,n2⟩:=ζ3.mp nd;have hh:=hH h ζf;refine Eq.trans ?_ (B.one h (B.hl h hh) a);show(List.map _ _).sum=(List.map _ _).sum;congr 1;refine ζn λv _=>?_;have:=Zn (ss:=ss) (f:=Pr c r) (g:=c h) r (λj hj=>B.fr (B.hl h hh) (λe=>n1 (e ▸ hj)) (by rw[B.hid h hh]; exact List.not_mem_nil)) (upd a h v);refine this.trans ?_;rw[B.h1 r (λx hx=>hH x (ζk _ hx)) n2,Rat.mul_one]
theorem Bo.nil(B:Bo ss c pa hs N)(a:Asg):Q ss c hs [] a=1:=by
 refine Eq.trans (vZ (λb=>?_) a) (B.h1 hs (λ_ z=>z) B.hn a);exact Rat.one_mul _
theorem Bo.two(B:Bo ss c pa hs N){X Y:AF}(hX:∀j∈X,j < N∧j∉hs)(hY:∀j∈Y,j < N∧j∉hs)(sp:∀h∈hs,∀x∈X,∀y∈Y,h∈pa x→h∉pa y)(a:Asg):Q ss c hs (X ++ Y) a=Q ss c hs X a * Q ss c hs Y a:=by
 let p:Nat→Bool:=λh=>X.any λx=>decide (h∈pa x);have pp:(hs.filter p ++ hs.filter λh=>!p h).Perm hs:=List.filter_append_perm p hs;have m1:∀h∈hs.filter p,h∈hs:=λh z=>(ζm.mp z).1;have m2:∀h∈hs.filter λh=>!p h,h∈hs:=λh z=>(ζm.mp z).1;have n1:(hs.filter p).Nodup:=B.hn.sublist ζx;have n2:(hs.filter λh=>!p h).Nodup:=B.hn.sublist ζx;have d1:∀h∈hs.filter p,h∉hs.filter λh=>!p h:=λh z y=>by
  have:=(ζm.mp z).2;have:=(ζm.mp y).2;simp_all
 have fX:∀h∈hs.filter (λh=>!p h),Fr h (Pr c X):=λh z=>B.prf X λj hj=>⟨(hX j hj).1,λe=>(hX j hj).2 (e ▸ m2 h z),λy=>by
  have w:=(ζm.mp z).2;have:p h=true:=ξn.mpr ⟨j,hj,decide_eq_true y⟩;rw[this]at w;cases w⟩
 have fY:∀h∈hs.filter p,Fr h (Pr c Y):=λh z=>B.prf Y λj hj=>⟨(hY j hj).1,λe=>(hY j hj).2 (e ▸ m1 h z),by
  obtain⟨x,x1,x2⟩:=ξn.mp (ζm.mp z).2;exact sp h (m1 h z) x x1 j hj (of_decide_eq_true x2)⟩
 have g:∀U V:Asg→Rat,(∀h∈hs.filter (λh=>!p h),Fr h U)→(∀h∈hs.filter p,Fr h V)→Sq ss hs (λa=>(U a * V a) * Pr c hs a) a=Sq ss (hs.filter p) (λa=>U a * Pr c (hs.filter p) a) a * Sq ss (hs.filter λh=>!p h) (λa=>V a * Pr c (hs.filter λh=>!p h) a) a:=λU V hU hV=>by
  rw[←fac (λh z=>(hU h z).mul (B.prh m1 λy=>d1 h y z)) λh z=>(hV h z).mul (B.prh m2 (d1 h z)),←Zj ss _ pp (pp.nodup_iff.mpr B.hn)];refine vZ (λb=>?_) a;rw[←Ud b pp,ZB];grind
 have one:∀k,Fr k λ_=>(1:Rat):=λ_ _ _=>rfl;have e1:=g (Pr c X) (Pr c Y) fX fY;have e2:=g (Pr c X) (λ_=>1) fX λ_ _=>one _;have e3:=g (λ_=>1) (Pr c Y) (λ_ _=>one _) fY;rw[vZ (l:=hs.filter λh=>!p h) (λb=>Rat.one_mul _),B.h1 _ m2 n2]at e2;rw[vZ (l:=hs.filter p) (λb=>Rat.one_mul _),B.h1 _ m1 n1]at e3;have q0:Q ss c hs (X ++ Y) a=Sq ss hs (λa=>(Pr c X a * Pr c Y a) * Pr c hs a) a:=vZ (λb=>by rw[ZB]) a;have q1:Q ss c hs X a=Sq ss hs (λa=>(Pr c X a * 1) * Pr c hs a) a:=vZ (λb=>by rw[Rat.mul_one]) a;have q2:Q ss c hs Y a=Sq ss hs (λa=>(1 * Pr c Y a) * Pr c hs a) a:=vZ (λb=>by rw[Rat.one_mul]) a;rw[q0,q1,q2,e1,e2,e3,Rat.mul_one,Rat.one_mul]
theorem Bo.ratio(B:Bo ss c pa hs N){o:AF}{k:Nat}{C:Nat→Bool}(ho:∀j∈o ++ [k],j < N∧j∉hs)(hc:C k=true)(sp:∀h∈hs,∀x∈o ++ [k],∀y∈o ++ [k],C x=true→C y=false→h∈pa x→h∉pa y)(nz:∀L:AF,L.Sublist (o ++ [k])→∀a,Q ss c hs L a≠0)(a:Asg):Q ss c hs (o ++ [k]) a / Q ss c hs o a=Q ss c hs (o.filter C ++ [k]) a / Q ss c hs (o.filter C) a:=by
 have hin:∀j∈o,j∈o ++ [k]:=λj z=>ζM _ z;have key:∀L:AF,(∀j∈L,j∈o ++ [k])→Q ss c hs L a=Q ss c hs (L.filter C) a * Q ss c hs (L.filter λj=>!C j) a:=λL hL=>by
  rw[←Xj (List.filter_append_perm C L)];exact B.two (λj z=>ho j (hL j (List.mem_filter.mp z).1)) (λj z=>ho j (hL j (List.mem_filter.mp z).1)) (λh hh x hx y hy=>sp h hh x (hL x (List.mem_filter.mp hx).1) y (hL y (List.mem_filter.mp hy).1) (List.mem_filter.mp hx).2 (by simpa using(List.mem_filter.mp hy).2)) a
 have k1:=key (o ++ [k]) λ_ z=>z;have k2:=key o hin;have f1:(o ++ [k]).filter C=o.filter C ++ [k]:=by
  rw[ζ2];congr 1;simp[hc]
 have f2:(o ++ [k]).filter (λj=>!C j)=o.filter λj=>!C j:=by
  rw[ζ2];simp[hc]
 rw[f1,f2]at k1;have os:o.Sublist (o ++ [k]):=List.sublist_append_left _ _;have z1:=nz (o.filter C) (ζx.trans os) a;have z2:=nz (o.filter λj=>!C j) (ζx.trans os) a;rw[k1,k2];grind
def Nq(d m:Nat)(q:Rat):Prop:=∃a:Nat,0 < a∧a≤m∧q * ((d:Int):Rat)=((a:Int):Rat)
theorem Nq.bq{d m n:Nat}{q:Rat}(h:Nq d m q)(hd:0 < d)(h1:d < 2 ^ n)(h2:m < 2 ^ n):Bq n q:=by
 obtain⟨a,a0,am,e⟩:=h;exact⟨a,d,a0,hd,⋯,h1,e⟩
theorem Nq.up{d m k:Nat}{q:Rat}(h:Nq d m q)(hm:m≤k):Nq d k q:=by
 obtain⟨a,a0,am,e⟩:=h;exact⟨a,a0,⋯,e⟩
theorem Nq.mul{d m e n:Nat}{x y:Rat}(h:Nq d m x)(g:Nq e n y):Nq (d * e) (m * n) (x * y):=by
 obtain⟨a,a0,am,e1⟩:=h;obtain⟨b,b0,bm,e2⟩:=g;refine⟨a * b,Nat.mul_pos a0 b0,Nat.mul_le_mul am bm,?_⟩
 have:((d * e:Nat):Int)=(d:Int) * (e:Int):=ξR d e;have h2:((a * b:Nat):Int)=(a:Int) * (b:Int):=ξR a b;rw[this,h2,Rat.intCast_mul,Rat.intCast_mul,←e1,←e2];grind
theorem Nq.sum{α:Type}{d m:Nat}(g:α→Rat):∀(xs:List α) (x:α),(∀y∈x :: xs,Nq d m (g y))→Nq d ((xs.length + 1) * m) ((x :: xs).map g).sum
 | [],x,h=>by
  obtain⟨a,a0,am,e⟩:=h x ζf;refine⟨a,a0,?_,?_⟩
  ·show a≤(0 + 1) * m;omega
  ·rw[ζF,ξc];show(g x + 0) * _=_;rw[Rat.add_zero];exact e
 | y :: r,x,h=>by
  obtain⟨a,a0,am,e⟩:=h x ζf;obtain⟨b,b0,bm,e2⟩:=Nq.sum g r y λz hz=>h z (ζk _ hz);refine⟨a + b,⋯,?_,?_⟩
  ·show a + b≤(r.length + 1 + 1) * m;rw[Nat.add_mul (r.length + 1),Nat.one_mul];omega
  ·have:((a + b:Nat):Int)=(a:Int) + (b:Int):=ξl a b;rw[ζF,ξc,this,Rat.intCast_add,←e,←e2];grind
theorem Nq.s1{d m k:Nat}{f:Asg→Rat}(h1:1≤ss.getD k 0)(h4:ss.getD k 0≤4)(h:∀a,Nq d m (f a))(a:Asg):Nq d (4 * m) (S1 ss k f a):=by
 unfold S1;have e:(vr ss k).length=(ss.getD k 0).toNat:=by unfold vr rng; rw[List.length_map,List.length_range]
 cases z:vr ss k with
 | nil=>rw[z,List.length_nil]at e; omega
 | cons v r =>
  rw[z]at e;have el:r.length + 1=(ss.getD k 0).toNat:=e;exact(Nq.sum (λv=>f (upd a k v)) r v λ_ _=>h _).up (Nat.mul_le_mul_right _ ⋯)
theorem Nq.sq{d:Nat}{f:Asg→Rat}:∀(l:AF) {m:Nat},(∀k∈l,1≤ss.getD k 0∧ss.getD k 0≤4)→(∀a,Nq d m (f a))→∀a,Nq d (4 ^ l.length * m) (Sq ss l f a)
 | [],m,_,h,a=>by rw[List.length_nil,Nat.pow_zero,Nat.one_mul]; exact h a
 | k :: r,m,hl,h,a=>by
  have:=Nq.s1 (hl k ζf).1 (hl k ζf).2 (Nq.sq r (λj hj=>hl j (ζk _ hj)) h) a;rw[ζY,ξ0,Nat.mul_comm _ 4,Nat.mul_assoc];exact this
theorem Nq.pr{d:Nat}(h:∀k,k < N→∀a,Nq d d (c k a)):∀(L:AF),(∀k∈L,k < N)→∀a,Nq (d ^ L.length) (d ^ L.length) (Pr c L a)
 | [],_,_=>⟨1,#[2],ζl _,by rw[List.length_nil,Nat.pow_zero]; exact Rat.one_mul _⟩
 | k :: r,hL,a=>by
  have:=(h k (hL k ζf) a).mul (Nq.pr h r (λj hj=>hL j (ζk _ hj)) a);rw[ζY,ξ0,Nat.mul_comm _ d];exact this
theorem Nq.q{d:Nat}(h:∀k,k < N→∀a,Nq d d (c k a))(hz:∀k∈hs,1≤ss.getD k 0∧ss.getD k 0≤4)(hh:∀k∈hs,k < N){L:AF}(hL:∀k∈L,k < N)(a:Asg):Nq (d ^ (L.length + hs.length)) (4 ^ hs.length * d ^ (L.length + hs.length)) (Q ss c hs L a):=by
 refine Nq.sq hs hz (λb=>?_) a;rw[Nat.pow_add];exact(Nq.pr h L hL b).mul (Nq.pr h hs hh b)
end Ti
open PySem L2 PD
local macro_rules | `(tactic| walk_at"comp_ok")=>`(tactic| (refine vL.of (by with_unfolding_all rfl) (by decide +kernel) rfl (by decide +kernel) ?_ (by with_unfolding_all rfl) rfl (by with_unfolding_all rfl); (repeat (with_unfolding_all refine List.forall_mem_cons.mpr ⟨by with_unfolding_all rfl,?_⟩)); exact List.forall_mem_nil _))
local macro_rules | `(tactic| walk_at"comp_okC")=>`(tactic| (refine CompOkC.of (by with_unfolding_all rfl) (λ_ _=>by with_unfolding_all rfl) (by decide +kernel) rfl rfl rfl (by decide +kernel) ?_ (by with_unfolding_all rfl) rfl (by with_unfolding_all rfl); (repeat (with_unfolding_all refine List.forall_mem_cons.mpr ⟨by with_unfolding_all rfl,?_⟩)); exact List.forall_mem_nil _))
local macro_rules | `(tactic| walk_at"comp_lam")=>`(tactic| exact vL.lam (by assumption) (by decide +kernel) rfl (by decide +kernel) (by decide +kernel) rfl (by with_unfolding_all rfl))
local macro_rules | `(tactic| walk_at"gc")=>`(tactic| ((repeat ((with_reducible apply GetC.succ))) ; (with_reducible exact GetC.zero)))
local macro_rules | `(tactic| walk_at"sc")=>`(tactic| ((repeat ((with_reducible apply SetC.succ))) ; (with_reducible exact SetC.zero)))
local macro_rules | `(tactic| walk_at"st")=>`(tactic| ((repeat (first | (with_reducible apply xh.got) | ((with_reducible apply xh.no)))) ; (with_reducible exact xh.z)))
local macro_rules | `(tactic| walk_at"cc")=>`(tactic| ((repeat (first | (with_reducible apply xG.no) | ((with_reducible apply xG.got) ; focus walk_at"gc"))); (with_reducible exact xG.nil)))
local macro_rules | `(tactic| walk_at"mk")=>`(tactic| ((repeat (first | ((with_reducible apply MarkC.got); focus (first | exact MkD.fz | exact MkD.ow | exact MkD.im rfl | exact MkD.ox)) | (with_reducible apply MarkC.no))); (with_reducible exact MarkC.nil)))
local macro_rules | `(tactic| walk_at"sp")=>`(tactic| ((repeat (first | ((with_reducible apply SpC.got); focus (first | exact SpD.fz | exact SpD.ow | exact SpD.im rfl | exact SpD.ox | exact SpD.tn)) | (with_reducible apply SpC.no))); (with_reducible exact SpC.nil)))
local macro_rules | `(tactic| walk_at"sd")=>`(tactic| first | ((with_reducible apply asm) ; assumption) | decide | omega | skip)
local macro_rules | `(tactic| walk_at"ln")=>`(tactic| (simp only[List.length_cons,List.length_nil]; decide))
local macro_rules | `(tactic| walk_at"ev")=>`(tactic| first
 | (with_reducible exact zd6)
 | (with_reducible exact zd3)
 | (with_reducible exact zeY)
 | (with_reducible exact ev_str)
 | (with_reducible exact zaW)
 | (with_reducible exact zC)
 | (with_reducible exact Zf)
 | ((with_reducible apply asm) ; (with_reducible assumption))
 | ((with_reducible apply evv) ; walk_at"gc"; decide)
 | ((with_reducible apply evi) ; walk_at"gc"; rfl)
 | ((with_reducible apply evtn) ; walk_at"gc"; done)
 | ((with_reducible apply evw) ; walk_at"gc"; decide)
 | ((with_reducible apply xc) <;> walk_at"ev")
 | ((with_reducible apply XN) <;> walk_at"ev")
 | ((with_reducible apply UE) <;> walk_at"ev")
 | ((with_reducible apply zeX) <;> walk_at"ev")
 | ((with_reducible apply YF) <;> walk_at"ev")
 | ((with_reducible apply ev_ge) <;> walk_at"ev")
 | ((with_reducible apply wZ) <;> walk_at"ev")
 | ((with_reducible apply xD) <;> walk_at"ev")
 | ((with_reducible apply WX) <;> walk_at"ev")
 | ((with_reducible apply xa) <;> walk_at"ev")
 | ((with_reducible apply zd1) <;> walk_at"ev")
 | ((with_reducible apply zd4) <;> walk_at"ev")
 | ((with_reducible refine' VJ (EvE.toD (κ:=false) ?_)) <;> walk_at"ev")
 | ((with_reducible refine' ev_notN (EvE.toD (κ:=false) ?_)) <;> walk_at"ev")
 | ((with_reducible apply zP) <;> walk_at"ev")
 | ((with_reducible apply xb) <;> walk_at"ev")
 | ((with_reducible apply wv) <;> walk_at"ev" <;> done)
 | ((with_reducible apply zaR) <;> walk_at"ev" <;> done)
 | ((with_reducible apply ev_eqB) <;> walk_at"ev" <;> done)
 | ((with_reducible apply zaS) <;> walk_at"ev" <;> done)
 | ((with_reducible apply ev_eqS) <;> walk_at"ev" <;> done)
 | ((with_reducible apply ev_neS) <;> walk_at"ev" <;> done)
 | ((with_reducible apply zaV) <;> (try (with_reducible intro _)) <;> walk_at"ev")
 | ((with_reducible apply zaQ) <;> (try (with_reducible intro _)) <;> walk_at"ev")
 | ((with_reducible apply zd2) <;> walk_at"ev")
 | ((with_reducible apply zM) <;> walk_at"ev")
 | ((with_reducible apply et_B) <;> walk_at"ev")
 | ((with_reducible apply vF) <;> (try (with_reducible intro _)) <;> walk_at"ev")
 | ((with_reducible apply UF) <;> (try (with_reducible intro _)) <;> walk_at"ev")
 | ((with_reducible apply tI) <;> walk_at"ev")
 | ((with_reducible apply zh) <;> walk_at"ev")
 | ((with_reducible apply zaO) <;> walk_at"ev")
 | ((with_reducible apply EvO.toE) ; ((with_reducible apply yf)) <;> walk_at"ev")
 | ((with_reducible apply yf) <;> walk_at"ev")
 | ((with_reducible apply yg) <;> walk_at"ev" <;> done)
 | ((with_reducible apply zcv) <;> walk_at"ev")
 | ((with_reducible apply EvO.toE) ; ((with_reducible apply yW)) <;> walk_at"ev")
 | ((with_reducible apply yW) <;> walk_at"ev")
 | ((with_reducible apply zec) <;> walk_at"ev")
 | ((with_reducible apply Ze) <;> walk_at"ev")
 | ((with_reducible apply EvO.toE) ; ((with_reducible apply xx)) <;> walk_at"ev")
 | ((with_reducible apply xx) <;> walk_at"ev")
 | ((with_reducible apply EvO.toE) ; ((with_reducible apply uU)) <;> walk_at"ev")
 | ((with_reducible apply uU) <;> walk_at"ev")
 | ((with_reducible apply EvO.toE) ; ((with_reducible apply wX)) <;> walk_at"ev")
 | ((with_reducible apply wX) <;> walk_at"ev")
 | ((with_reducible apply EvO.toE) ; ((with_reducible apply evo_listRev)) <;> walk_at"ev")
 | ((with_reducible apply evo_listRev) <;> walk_at"ev")
 | ((with_reducible refine' zd5 (EvE.toD (κ:=false) ?_) ?_) <;> walk_at"ev")
 | ((with_reducible apply zi) <;> walk_at"ev")
 | ((with_reducible apply uV) <;> walk_at"ev")
 | ((with_reducible apply zaM) ; walk_at"ev"; done)
 | ((with_reducible apply zaL) ; walk_at"ev"; done)
 | ((with_reducible apply EvE.toL) ; walk_at"ev"; done)
 | ((with_reducible apply EvO.toL) ; walk_at"ev"; done)
 | (with_reducible apply isE)
 | (with_reducible apply isL)
 | (with_reducible apply isT)
 | (with_reducible apply isA)
 | (with_reducible apply isO)
 | (with_reducible apply isD)
 | (with_reducible apply isI)
 | (with_reducible exact atI0)
 | (with_reducible exact atI1)
 | ((with_reducible apply asm) ; (with_reducible assumption))
 | ((with_reducible apply zdO) ; with_unfolding_all rfl)
 | (simp only[List.length_cons,List.length_nil]; decide)
 | decide
 | omega
 | skip)
local macro_rules | `(tactic| walk_at"go")=>`(tactic| repeat (first
 | ((with_reducible apply exo (te:=tLst tNil) true) ; (focus (walk_at"ev"; done)); (focus walk_at"sc"))
 | ((with_reducible apply exs true) ; (focus (walk_at"ev"; done)); (focus walk_at"sc"))
 | ((with_reducible apply exs false) ; (focus (walk_at"ev"; done)); (focus walk_at"sc"))
 | ((with_reducible apply exa) ; (focus walk_at"gc"); (focus (walk_at"ev"; done)); (focus walk_at"sc"); (focus (walk_at"sd"; done)))
 | (with_reducible apply exn)))
local macro_rules | `(tactic| walk_at"run")=>`(tactic| (apply zbL; assumption; assumption; assumption; assumption; focus walk_at"st"))
local macro_rules | `(tactic| walk_at"ot")=>`(tactic| first | exact oneT_of (Nat.le_refl 1) | exact oneT_of (Nat.zero_le 1))
local macro_rules | `(tactic| walk_at"sv")=>`(tactic| ((repeat (first | (with_reducible apply StartV.got) | ((with_reducible apply StartV.no)))) ; (with_reducible exact StartV.z)))
local macro_rules | `(tactic| walk_at"runv")=>`(tactic| (apply run_defV; assumption; assumption; assumption; assumption; focus walk_at"sv"))
namespace L2
open PySem PySem.Spec PyProof.Rows
theorem pF{X:Cx}{x:Str}{ps:AJ}{k m:Nat}{sp:Sp}{e:Expr}{es:List Expr}{t:TA}{p pos:Pos}(C:zt X.prog X.w X.K X.mg X.base CX0 x ps k sp)(hr:Room m X.A)(ha:PA X (e :: es) t)(h:k≤m:=by decide)(hg:Gl X x:=by rfl)(hdb:(x == ("__debug__" : Str))=false:=by decide)(he:starEach (e :: es) X.env=(false,eval e X.env) :: starEach es X.env:=by rfl)(hpl:(backTo pos (starEach es X.env)).any (·.1)=false:=by rfl):PE X (.Call (.Name x p) (e :: es) [] pos) (vY sp [] E0 t):=zeI C (hr.mono h) hg Q6 ha hdb he hpl
theorem pB{X:Cx}{id:String}{r:List V→Hp→VK→Prop}{x:Str}{e:Expr}{es:List Expr}{t:TA}{p pos:Pos}(hc:yX X (.builtin id) r)(hm:X.mg x=none)(ha:PA X (e :: es) t)(hg:Gl X x:=by rfl)(hv:bootBuiltins x=some (.builtin id):=by decide +kernel)(hn:x ≠ "__name__" := by decide)(hdb:(x == ("__debug__" : Str))=false:=by decide)(he:starEach (e :: es) X.env=(false,eval e X.env) :: starEach es X.env:=by rfl)(hpl:(backTo pos (starEach es X.env)).any (·.1)=false:=by rfl):PE X (.Call (.Name x p) (e :: es) [] pos) (tCB r t):=Q4 hc hg hm hv ha hn hdb he hpl
theorem pY{X:Cx}{T:String}{r:List V→Hp→VK→Prop}{x:Str}{e:Expr}{es:List Expr}{t:TA}{p pos:Pos}(hc:yX X (.type T) r)(hm:X.mg x=none)(ha:PA X (e :: es) t)(hg:Gl X x:=by rfl)(hv:bootBuiltins x=some (.type T):=by decide +kernel)(hn:x ≠ "__name__" := by decide)(hdb:(x == ("__debug__" : Str))=false:=by decide)(he:starEach (e :: es) X.env=(false,eval e X.env) :: starEach es X.env:=by rfl)(hpl:(backTo pos (starEach es X.env)).any (·.1)=false:=by rfl):PE X (.Call (.Name x p) (e :: es) [] pos) (tCB r t):=Te hc hg hm hv ha hn hdb he hpl
theorem pS{X:Cx}{i:Nat}{x:Str}{e:Expr}{te:TE}{pos pos':Pos}(hN:X.N.Nodup)(he:PE X e te)(hi:X.N[i]?=some x:=by rfl)(hx:Loc X.env.scope x:=by first | exact .inl rfl | exact .inr rfl)(hs:swapsWith e (some (.Name x pos')) pos.line X.env=pure false:=by rfl)(hf:X.fn x=true∨X.env.scope.names.lookup x=some .local:=by first | exact .inl rfl | exact .inr rfl | assumption):PS X (.Assign [.Name x pos'] e pos) (tAsg te (yJ i)):=zdq hN hi hx he hs hf
theorem pN{X:Cx}{i:Nat}{x:Str}{pos:Pos}(hN:X.N.Nodup)(hi:X.N[i]?=some x:=by rfl)(hx:Loc X.env.scope x:=by first | exact .inl rfl | exact .inr rfl)(hf:X.fn x=true∨X.env.scope.names.lookup x=some .local:=by first | exact .inl rfl | exact .inr rfl | assumption):PG X (.Name x pos) (yJ i):=zbW hN hi hx hf
theorem pX{X:Cx}{r:R2}{a b:Expr}{ta tb:TE}{pos:Pos}(hr:IxR X r)(ha:PE X a ta)(hb:PE X b tb)(hs:UW b:=by exact λ_ _=>rfl):PE X (.Subscript a b pos) (tOp r ta tb):=zeH hr ha hb hs
end L2
namespace K79
open PySem L2 PD Cm
def top(i:Nat):Stmt:=PySem.Challenge.pw_causebook_k79_whole_chains_worked.main.body.getD i (.Pass ⟨0,0,0,0⟩)
structure Bs(mg:AO):Prop where
 len:mg "len" = none
 set:mg "set" = none
 list:mg "list" = none
 range:mg "range" = none
 reversed:mg "reversed" = none
 min:mg "min" = none
 sorted:mg "sorted" = none
 zip:mg "zip" = none
 any:mg "any" = none
 isinstance:mg "isinstance" = none
 int:mg "int" = none
 bool:mg "bool" = none
 abs:mg "abs" = none
 tuple:mg "tuple" = none
 sum:mg "sum" = none
section
variable {P:Program}{w:World}{K:ζc}{mg:AO}{base:Heap}{f:Addr}{fd:FuncData}
seal PE PA PS PSs PT PG PI
open Wd Sh Sx2
structure Shr(n:Nat)(a b:Int):Prop where
 low:Low a b
 ba:a.natAbs < 2 ^ n
 bb:b.natAbs < 2 ^ n
abbrev shD(x:Int×Int):AD:=.tuple [.int x.1,.int x.2]
def xg(ds:AG)(d:AD):Prop:=∃a b:Int,ds=[.int a,.int b]∧1≤b∧d=.int (Int.gcd a b:Nat)
theorem uC:zw ["number","bottom","greater","less","rest"] ["number","bottom"] (zn (top 16)):={}
theorem uO(F:Fun K "common_divisor" "common_divisor" (top 16) f fd)(B:Bs mg): FnOk P w K mg base CX0 1 f fd ["number","bottom"] (spD K true xg):=by
 have sc:=uC;refine F.ok sc (λvs H Q E h=>zH (λ_ _⟨_,_,e,_⟩=>by rw[e];rfl) h) (λcdv A outer s H vs Q E hr h=>?_);obtain⟨Fh,ds,d,le,dp,p,q⟩:=h
 refine⟨_,(ze (pS (i:=2) sc.nd (pv 0))
   (ze (pS (i:=3) sc.nd (pv 1))
   (ze (wB AC (zF Yr (pv 3) zf (zT _)) (ze (pS (i:=4) sc.nd (zm yi (pv 2) (pv 3)))
   (ze (pS (i:=2) sc.nd (pv 3))
   (zg (pS (i:=3) sc.nd (pv 4))))))
   (zg (zE (pv 2)))))),?_⟩
 have hN:=sc.n 5;obtain⟨a,b,rfl,hb,rfl⟩:=p;walk_at"run";walk_at"go";refine yw (λΓ=>∃y z,Γ=[some (.fz false (.int a)),some (.fz false (.int b)),some (.fz true (.int (Int.gcd a b:Nat))),y,z]) (wG (λm Γ=>∃x y z,Γ=[some (.fz false (.int a)),some (.fz false (.int b)),some (.fz true (.int x)),some (.fz true (.int y)),z]∧0≤y∧(y=0→0 < x)∧Int.gcd x y=Int.gcd a b∧m=y.toNat) b.toNat ⟨a,b,none,rfl,⋯,⋯,rfl,rfl⟩ ?_) ?_
 ·rintro m Γ' ⟨x,y,z,rfl,hy,hx,hg,rfl⟩;refine⟨!decide (y=0),∅, λc=>?_,λc=>?_⟩
  ·have y0:y≠0:=by simpa using c
   have yp:0 < y:=by omega
   refine exs true ∅ #[0] ?_;refine exs true ∅ #[0] ?_;refine exs1 true ∅ #[0] ?_;have h1:=ζO x yp;have h2:=ζU x y0;exact⟨_,⋯,y,x % y,_,rfl,h2,λ_=>yp,by rw[WS]; exact hg,rfl⟩
  ·have y0:y=0:=by simpa using c
   subst y0;rw[Int.gcd_zero_right]at hg;have e:x=((Int.gcd a b:Nat):Int):=by have:=hx rfl; omega
   rw[e];exact⟨_,_,rfl⟩
 ·rintro Γ' ⟨y,z,rfl⟩;exact zO true ∅ rfl (.inl ⟨rfl,rfl⟩)
theorem vI{a b:Int}{n:Nat}{x:Int}(h:1≤b)(hb:b.natAbs < 2 ^ n)(hn:n≤9000):vM x ((Int.gcd a b:Nat):Int):=⟨Zc h,up (dn (zay h) hb) hn⟩
theorem Shr.up{m n:Nat}{a b:Int}(h:Shr m a b)(hn:m≤n):Shr n a b:=⟨h.low,Sh.up h.ba hn,Sh.up h.bb hn⟩
theorem zI:200000 < sizeLine:=by decide
def Wy(ds:AG)(d:AD):Prop:=∃x y:Int×Int,ds=[shD x,shD y]∧Shr 40000 x.1 x.2∧Shr 9000 y.1 y.2∧d=shD (pl x.1 x.2 y.1 y.2)
theorem zbF:zw ["one","other","divisor","top","rest"] ["one","other"] (zn (top 17)):={}
theorem zb5(F:Fun K "plus" "plus" (top 17) f fd)(B:Bs mg)(c_common_divisor:zt P w K mg base CX0 "common_divisor" ["number","bottom"] 1 (spD K true xg)):FnOk P w K mg base CX0 2 f fd ["one","other"] (spD K true Wy):=by
 have sc:=zbF;refine F.ok sc (λvs H Q E h=>zH (λ_ _⟨_,_,e,_⟩=>by rw[e];rfl) h) (λcdv A outer s H vs Q E hr h=>?_);obtain⟨Fh,ds,d,le,dp,p,q⟩:=h
 refine⟨_,(ze (pS (i:=2) sc.nd (pF c_common_divisor hr (zb (pX (zB (K:=K) rfl) (pv 0) zf) (zb (pX (zB (K:=K) rfl) (pv 1) zf) zd))))
   (ze (pS (i:=3) sc.nd (zm zX (zm yj (pX (zB (K:=K) rfl) (pv 0) zf) (zm yN (pX (zB (K:=K) rfl) (pv 1) zf) (pv 2))) (zm yj (pX (zB (K:=K) rfl) (pv 1) zf) (zm yN (pX (zB (K:=K) rfl) (pv 0) zf) (pv 2)))))
   (ze (pS (i:=4) sc.nd (pF c_common_divisor hr (zb (pv 3) (zb (pv 2) zd))))
   (zg (zE (yH (zb (zm yN (pv 3) (pv 4)) (zb (zm yj (zm yN (pX (zB (K:=K) rfl) (pv 0) zf) (pv 2)) (zm yN (pX (zB (K:=K) rfl) (pv 1) zf) (pv 4))) zd)))))))),?_⟩
 have hN:=sc.n 5;obtain⟨⟨a,b⟩,⟨c,d⟩,rfl,s1,s2,rfl⟩:=p;have d1:1≤d:=s2.low.pos;have b1:1≤b:=s1.low.pos;have g1:1≤((Int.gcd b d:Nat):Int):=Zc d1;have e1:vM d ((Int.gcd b d:Nat):Int):=vI d1 s2.bb ⋯;have e2:vM b ((Int.gcd b d:Nat):Int):=vI d1 s2.bb ⋯;have bd:(d / ((Int.gcd b d:Nat):Int)).natAbs < 2 ^ 9000:=dn (uu (ξT b d)) s2.bb;have bb:(b / ((Int.gcd b d:Nat):Int)).natAbs < 2 ^ 40000:=dn (uu (Int.gcd_dvd_left b d)) s1.bb;have m1:IntMulOk a (d / ((Int.gcd b d:Nat):Int)):=ZI s1.ba bd ⋯;have m2:IntMulOk c (b / ((Int.gcd b d:Nat):Int)):=ZI s2.ba bb ⋯;have bg:(((Int.gcd b d:Nat):Int)).natAbs < 2 ^ 9000:=dn (zay d1) s2.bb;have e3:∀x,vM x ((Int.gcd (a * (d / ((Int.gcd b d:Nat):Int)) + c * (b / ((Int.gcd b d:Nat):Int))) ((Int.gcd b d:Nat):Int):Nat):Int):=λx=>vI g1 bg ⋯
 have br:(d / ((Int.gcd (a * (d / ((Int.gcd b d:Nat):Int)) + c * (b / ((Int.gcd b d:Nat):Int))) ((Int.gcd b d:Nat):Int):Nat):Int)).natAbs < 2 ^ 9000 :=
  dn (uu (Int.dvd_trans (ξT _ _) (ξT b d))) s2.bb
 have m3:IntMulOk (b / ((Int.gcd b d:Nat):Int)) (d / ((Int.gcd (a * (d / ((Int.gcd b d:Nat):Int)) + c * (b / ((Int.gcd b d:Nat):Int))) ((Int.gcd b d:Nat):Int):Nat):Int)):=ZI bb br ⋯;walk_at"run";refine exs true (zi ∅ ⟨b,d,rfl,d1,rfl⟩) #[0] ?_;refine exs true ∅ #[0] ?_;refine exs true (zi ∅ ⟨_,_,rfl,g1,rfl⟩) #[0] ?_;refine zO true (by walk_at"ev"; exact e3 _; exact e3 _) ?_ (.inl ⟨rfl,rfl⟩);rfl
def tj(ds:AG)(d:AD):Prop:=∃xs:AM,ds=[.list (xs.map shD)]∧(∀x∈xs,Shr 8900 x.1 x.2)∧xs.length≤4∧d=shD (tot xs)
theorem zby:∀(xs:AM),(∀x∈xs,Shr 8900 x.1 x.2)→(sm xs).1.natAbs < 2 ^ (8902 * xs.length + 1)∧(sm xs).2.natAbs < 2 ^ (8902 * xs.length + 1):=by
 have key:∀(n:Nat) (xs:AM),xs.length=n→(∀x∈xs,Shr 8900 x.1 x.2)→(sm xs).1.natAbs < 2 ^ (8902 * n + 1)∧(sm xs).2.natAbs < 2 ^ (8902 * n + 1):=by
  intro n;induction n with
  | zero =>
   intro xs h _;have:xs=[]:=ζZ h;subst this;exact⟨#[2],#[2]⟩
  | succ n ih =>
   intro xs h hx;obtain⟨t,s,rfl⟩:∃t s,xs=t ++ [s]:=⟨xs.dropLast,xs.getLast (by intro e; rw[e]at h; cases h),(ξf _).symm⟩
   have hl:t.length=n:=by rw[List.length_append]at h; simpa using h
   have ih':=ih t hl λx hx'=>hx x (ζM _ hx');have hs:=hx s (by simp);unfold sm at ih' ⊢;rw[Zo];generalize smT t (0,1)=z at ih';have a1:=VA ih'.1 hs.bb;have a2:=VA hs.ba ih'.2;rw[Nat.add_comm 8900 (8902 * n + 1)]at a2;have a3:=VA ih'.2 hs.bb;refine⟨up (zeo a1 a2) ⋯,up a3 ⋯⟩
 exact λxs=>key xs.length xs rfl
theorem zbq{xs:AM}(h:∀x∈xs,Shr 8900 x.1 x.2)(hl:xs.length≤4):Shr 40000 (tot xs).1 (tot xs).2:=by
 have ok:=zex xs λx hx=>(h x hx).low;have b:=zby xs h;have le:=ok.le;have p1:=Za ok.low;have p2:=ok.pos;exact⟨ok.low,up (ζ6 le.2 b.1) ⋯,up (ζ6 ⋯ b.2) ⋯⟩
theorem Qy:zw ["shares","found","part"] ["shares"] (zn (top 20)):={}
theorem Q7(F:Fun K "total" "total" (top 20) f fd)(B:Bs mg)(c_plus:zt P w K mg base CX0 "plus" ["one","other"] 2 (spD K true Wy)):FnOk P w K mg base CX0 3 f fd ["shares"] (spD K true tj):=by
 have sc:=Qy;refine F.ok sc (λvs H Q E h=>zH (λ_ _⟨_,e,_⟩=>by rw[e];rfl) h) (λcdv A outer s H vs Q E hr h=>?_);obtain⟨Fh,ds,d,le,dp,p,q⟩:=h
 refine⟨_,(ze (pS (i:=1) sc.nd (yH (zb zf (zb zf zd))))
   (ze (zU AC rfl (zG (K:=K) rfl (pv 0)) (pN (i:=2) sc.nd) (zg (pS (i:=1) sc.nd (pF c_plus hr (zb (pv 1) (zb (pv 2) zd))))))
   (zg (zE (pv 1))))),?_⟩
 have hN:=sc.n 3;obtain⟨xs,rfl,hx,hl,rfl⟩:=p;walk_at"run";walk_at"go";refine yv false (λi Γ=>∃y,Γ=[some (.fz false (.list (xs.map shD))),some (.fz true (shD (tot (xs.take i)))),y]) (zK ∅) ⟨none,by rw[ζK]; rfl⟩ ?_ ?_
 ·rintro i d Γ' hd ⟨y,rfl⟩;obtain⟨x,hx',rfl⟩:=yk hd;have hi:=(ζh.mp hx').1;refine⟨_,egn #[0] ?_⟩
  refine exs1 true (zi ∅ ⟨tot (xs.take i),x,rfl,zbq (λz hz=>hx z (ξh hz)) (by rw[ζN]; omega),(hx x (ζd hx')).up #[2],rfl⟩) #[0] ?_;show∃y,_;rw[take_succ hx',X9];exact⟨_,rfl⟩
 ·rintro Γ' ⟨y,rfl⟩;refine zO true ∅ ?_ (.inl ⟨rfl,rfl⟩);rw[ζa,ζR]
def vP(ds:AG)(d:AD):Prop:=∃x y:Int×Int,ds=[shD x,shD y]∧Shr 9000 x.1 x.2∧1≤x.1∧Shr 40000 y.1 y.2∧d=shD (tm x.1 x.2 y.1 y.2)
theorem Qz:zw ["one","other","first","second"] ["one","other"] (zn (top 18)):={}
theorem Q8(F:Fun K "times" "times" (top 18) f fd)(B:Bs mg)(c_common_divisor:zt P w K mg base CX0 "common_divisor" ["number","bottom"] 1 (spD K true xg)):FnOk P w K mg base CX0 2 f fd ["one","other"] (spD K true vP):=by
 have sc:=Qz;refine F.ok sc (λvs H Q E h=>zH (λ_ _⟨_,_,e,_⟩=>by rw[e];rfl) h) (λcdv A outer s H vs Q E hr h=>?_);obtain⟨Fh,ds,d,le,dp,p,q⟩:=h
 refine⟨_,(ze (pS (i:=2) sc.nd (pF c_common_divisor hr (zb (pX (zB (K:=K) rfl) (pv 0) zf) (zb (pX (zB (K:=K) rfl) (pv 1) zf) zd))))
   (ze (pS (i:=3) sc.nd (pF c_common_divisor hr (zb (pX (zB (K:=K) rfl) (pv 1) zf) (zb (pX (zB (K:=K) rfl) (pv 0) zf) zd))))
   (zg (zE (yH (zb (zm yj (zm yN (pX (zB (K:=K) rfl) (pv 0) zf) (pv 2)) (zm yN (pX (zB (K:=K) rfl) (pv 1) zf) (pv 3))) (zb (zm yj (zm yN (pX (zB (K:=K) rfl) (pv 0) zf) (pv 3)) (zm yN (pX (zB (K:=K) rfl) (pv 1) zf) (pv 2))) zd))))))),?_⟩
 have hN:=sc.n 4;obtain⟨⟨a,b⟩,⟨c,d⟩,rfl,s1,a1,s2,rfl⟩:=p;have d1:1≤d:=s2.low.pos;have b1:1≤b:=s1.low.pos;have a1:1≤a:=a1;have e1:∀x,vM x ((Int.gcd a d:Nat):Int):=λx=>by rw[Int.gcd_comm]; exact vI a1 s1.ba ⋯
 have e2:∀x,vM x ((Int.gcd c b:Nat):Int):=λx=>vI b1 s1.bb ⋯;have ba:(a / ((Int.gcd a d:Nat):Int)).natAbs < 2 ^ 9000:=dn (uu (Int.gcd_dvd_left a d)) s1.ba;have bc:(c / ((Int.gcd c b:Nat):Int)).natAbs < 2 ^ 40000:=dn (uu (Int.gcd_dvd_left c b)) s2.ba;have bb:(b / ((Int.gcd c b:Nat):Int)).natAbs < 2 ^ 9000:=dn (uu (ξT c b)) s1.bb;have bd:(d / ((Int.gcd a d:Nat):Int)).natAbs < 2 ^ 40000:=dn (uu (ξT a d)) s2.bb;have m1:IntMulOk (a / ((Int.gcd a d:Nat):Int)) (c / ((Int.gcd c b:Nat):Int)):=ZI ba bc ⋯;have m2:IntMulOk (b / ((Int.gcd c b:Nat):Int)) (d / ((Int.gcd a d:Nat):Int)):=ZI bb bd ⋯;walk_at"run";refine exs true (zi ∅ ⟨a,d,rfl,d1,rfl⟩) #[0] ?_;refine exs true (zi ∅ ⟨c,b,rfl,b1,rfl⟩) #[0] ?_;refine zO true (by walk_at"ev"; exact e1 _; exact e2 _; exact e2 _; exact e1 _) ?_ (.inl ⟨rfl,rfl⟩);rfl
def Wz(ds:AG)(d:AD):Prop:=∃x y:Int×Int,ds=[shD x,shD y]∧Shr 9000 x.1 x.2∧1≤x.1∧Shr 40000 y.1 y.2∧0 < y.1∧d=shD (tm x.1 x.2 y.2 y.1)
theorem zaA{n:Nat}{a b:Int}(h:Shr n a b)(ha:0 < a):Shr n b a:=⟨⟨ha,by rw[Int.gcd_comm]; exact h.low.co⟩,h.bb,h.ba⟩
theorem zbG:zw ["one","other"] ["one","other"] (zn (top 19)):={}
theorem zb6(F:Fun K "over" "over" (top 19) f fd)(B:Bs mg)(c_times:zt P w K mg base CX0 "times" ["one","other"] 2 (spD K true vP)):FnOk P w K mg base CX0 3 f fd ["one","other"] (spD K true Wz):=by
 have sc:=zbG;refine F.ok sc (λvs H Q E h=>zH (λ_ _⟨_,_,e,_⟩=>by rw[e];rfl) h) (λcdv A outer s H vs Q E hr h=>?_);obtain⟨Fh,ds,d,le,dp,p,q⟩:=h
 refine⟨_,(ze (yK (zF wD (pX (zB (K:=K) rfl) (pv 1) zf) zf (zT _)) (zg Zv) zY)
   (ze (yK (zF Ys (pX (zB (K:=K) rfl) (pv 1) zf) zf (zT _)) (zg (zE (pF c_times hr (zb (pv 0) (zb (yH (zb (Q2 Vd (pX (zB (K:=K) rfl) (pv 1) zf)) (zb (Q2 Vd (pX (zB (K:=K) rfl) (pv 1) zf)) zd))) zd))))) zY)
   (zg (zE (pF c_times hr (zb (pv 0) (zb (yH (zb (pX (zB (K:=K) rfl) (pv 1) zf) (zb (pX (zB (K:=K) rfl) (pv 1) zf) zd))) zd))))))),?_⟩
 have hN:=sc.n 2;obtain⟨⟨a,b⟩,⟨c,d⟩,rfl,s1,a1,s2,h0,rfl⟩:=p;have h0':0 < c:=h0;walk_at"run";refine tW (b:=decide (c=0)) ∅ (decide_eq_false ⋯) ?_;refine tW (b:=decide (c < 0)) ∅ (decide_eq_false ⋯) ?_;exact zO true (zi ∅ (show vP [shD (a,b),shD (d,c)] _ from⟨_,_,rfl,s1,a1,zaA s2 h0',rfl⟩)) rfl (.inl ⟨rfl,rfl⟩)
def Wx(ds:AG)(d:AD):Prop:=∃ss ws:AE,ds=[il ss,il ws]∧(∀s∈ss,1≤s∧s≤9)∧d=.int (rkF ss ws)
theorem T6{xs ys:AE}{i:Nat}{x y:Int}(h1:xs[i]?=some x)(h2:ys[i]?=some y):(xs.zip ys).take (i + 1)=(xs.zip ys).take i ++ [(x,y)]:=take_succ (ξr.mpr ⟨h1,h2⟩)
theorem zbE:zw ["sizes","world","place","size","value"] ["sizes","world"] (zn (top 23)):={}
theorem zb4(F:Fun K "rank" "rank" (top 23) f fd)(B:Bs mg): FnOk P w K mg base CX0 1 f fd ["sizes","world"] (spD K true Wx):=by
 have sc:=zbE;refine F.ok sc (λvs H Q E h=>zH (λ_ _⟨_,_,e,_⟩=>by rw[e];rfl) h) (λcdv A outer s H vs Q E hr h=>?_);obtain⟨Fh,ds,d,le,dp,p,q⟩:=h
 refine⟨_,(ze (pS (i:=2) sc.nd zf)
   (ze (zU AC rfl (wc (K:=K) rfl rfl B.zip (zb (pv 0) (zb (pv 1) zd))) (xK (K:=K) (n:=2) rfl rfl (yd (pN (i:=3) sc.nd) (yd (pN (i:=4) sc.nd) xJ))) (zg (pS (i:=2) sc.nd (zm zX (zm yj (pv 2) (pv 3)) (pv 4)))))
   (zg (zE (pv 2))))),?_⟩
 have hN:=sc.n 5;obtain⟨ss,ws,rfl,hs,rfl⟩:=p;walk_at"run";walk_at"go";refine yv false (λi Γ=>∃x y,Γ=[some (.fz false (il ss)),some (.fz false (il ws)),some (.fz true (.int (((ss.zip ws).take i).foldl (λa x=>a * x.1 + x.2) 0))),x,y]) (vG ∅) ⟨none,none,by rw[ζK]; rfl⟩ ?_ ?_
 ·rintro i d Γ' hd ⟨x,y,rfl⟩;obtain⟨s,v,hs',hv',rfl⟩:=ZO hd;have hb:=hs s (ζd hs');refine⟨_,egt #[0] #[0] ?_⟩
  refine exs1 true (by walk_at"ev"; exact yG ⋯ ⋯) #[0] ?_;show∃x y,_;rw[T6 hs' hv',ξq];exact⟨_,_,rfl⟩
 ·rintro Γ' ⟨x,y,rfl⟩;refine zO true ∅ ?_ (.inl ⟨rfl,rfl⟩);unfold rkF;rw[ζI];rw[ξL,ξQ,ζa,ζa];exact ζl _
def fitB(v:Int)(k:Option Int):Bool:=match k with | none=>true | some x=>decide (v=x)
def WA(ds:AG)(d:AD):Prop:=∃(v:Int) (k:Option Int),ds=[.int v,optD k]∧d=.bool (fitB v k)
theorem zbI:zw ["value","known"] ["value","known"] (zn (top 24)):={}
theorem zb8(F:Fun K "fits" "fits" (top 24) f fd)(B:Bs mg): FnOk P w K mg base CX0 1 f fd ["value","known"] (spD K true WA):=by
 have sc:=zbI;refine F.ok sc (λvs H Q E h=>zH (λ_ _⟨_,_,e,_⟩=>by rw[e];rfl) h) (λcdv A outer s H vs Q E hr h=>?_);obtain⟨Fh,ds,d,le,dp,p,q⟩:=h;refine⟨_,(zg (zE (zeG (wf zdH (pv 1) tu (zT _)) (Vt (wf wD (pv 0) (pv 1) (zT _)))))),?_⟩
 have hN:=sc.n 2;obtain⟨v,k,rfl,rfl⟩:=p;walk_at"run";cases k with
 | none =>
  dsimp only[optD];exact zO true (zaQ (a:=true) (b:=true) (VJ (d:=.none) (EvE.toD (κ:=false) (evv #[1] #[2]))) λh=>nomatch h) rfl (.inl ⟨rfl,rfl⟩)
 | some x =>
  dsimp only[optD];exact zO true (zaQ (a:=false) (b:=decide (v=x)) (VJ (d:=.int x) (EvE.toD (κ:=false) (evv #[1] #[2]))) λ_=>wv (evv #[1] #[2]) (evv #[1] #[2])) rfl (.inl ⟨rfl,rfl⟩)
def Yo(ds:AG)(d:AD):Prop:=∃(hs:AH) (cs:AE),ds=[lls hs,il cs]∧hs.length * cs.length≤150000∧(∀h∈hs,h.length≤1000)∧d=lls (grow hs cs)
theorem QA:zw ["heads","choices","found","head","value"] ["heads","choices"] (zn (top 26)):={}
theorem Q9(F:Fun K "grown" "grown" (top 26) f fd)(B:Bs mg): FnOk P w K mg base CX0 1 f fd ["heads","choices"] (spD K true Yo):=by
 have sc:=QA;refine F.ok sc (λvs H Q E h=>zH (λ_ _⟨_,_,e,_⟩=>by rw[e];rfl) h) (λcdv A outer s H vs Q E hr h=>?_);obtain⟨Fh,ds,d,le,dp,p,q⟩:=h
 refine⟨_,(ze (pS (i:=2) sc.nd (zR zd))
   (ze (zU AC rfl (zG (K:=K) rfl (pv 0)) (pN (i:=3) sc.nd) (zg (zU AC rfl (zG (K:=K) rfl (pv 1)) (pN (i:=4) sc.nd) (zg (yc (yu (K:=K) rfl ζs ζC ζB zV (pv 2) (zb (zm (vA (K:=K) rfl) (pv 3) (zR (zb (pv 4) zd))) zd)))))))
   (zg (zE (pv 2))))),?_⟩
 have hN:=sc.n 5;obtain⟨hs,cs,rfl,hz,hh,rfl⟩:=p;walk_at"run";walk_at"go";refine yv false (λi Γ=>∃x y,Γ=[some (.fz false (lls hs)),some (.fz false (il cs)),some (.ow true ((grow (hs.take i) cs).map il)),x,y]) (zK ∅) ⟨none,none,by rw[ζK]; rfl⟩ ?_ ?_
 ·rintro i d Γ' hd ⟨x,y,rfl⟩;obtain⟨h,hh',rfl⟩:=yk hd;have hb:=hh h (ζd hh');have hi:=(ζh.mp hh').1;refine⟨_,egn #[0] ?_⟩
  refine tH false (λj Γ=>∃y,Γ=[some (.fz false (lls hs)),some (.fz false (il cs)),some (.ow true ((grow (hs.take i) cs ++ (cs.take j).map λc=>h ++ [c]).map il)),some (.fz false (il h)),y]) (zK ∅) ⟨_,by rw[ζK,List.map_nil,ζ1]⟩ ?_ ?_
  ·rintro j d Γ' hd ⟨y,rfl⟩;obtain⟨c,hc',rfl⟩:=yk hd;have hj:=(ζh.mp hc').1;refine⟨_,egn #[0] ?_⟩
   have e1:(h.map PyData.int).length + [PyData.int c].length≤sizeLine:=by
    rw[ζa];have:=zI;show h.length + 1≤_;omega
   refine exa1 #[1] ∅ #[0] ?_ ?_
   ·rw[ζa,ζg,ZL,ζa,ζN,ζN];have:=zI;have h2:min i hs.length * cs.length + min j cs.length≤hs.length * cs.length:=by
     rw[ξ2 ⋯,ξ2 ⋯];have:(i + 1) * cs.length≤hs.length * cs.length:=Nat.mul_le_mul_right _ ⋯;rw[Nat.succ_mul]at this;omega
    omega
   ·have e:(grow (hs.take i) cs ++ (cs.take (j + 1)).map λc=>h ++ [c]).map il=(grow (hs.take i) cs ++ (cs.take j).map λc=>h ++ [c]).map il ++ [.list (h.map .int ++ [.int c])]:=by
     rw[take_succ hc'];simp[il]
    show∃y,_;rw[e];exact⟨_,rfl⟩
  ·rintro Γ' ⟨y,rfl⟩;have e2:cs.take (cs.map PyData.int).length=cs:=by rw[ζa,ζR]
   rw[take_succ hh',Yy,e2];exact⟨_,_,rfl⟩
 ·rintro Γ' ⟨x,y,rfl⟩;refine exro #[1] ?_ (.inl ⟨rfl,rfl⟩);rw[ζa,ζR]
theorem X4:∀(l:List (Int×Option Int)) (fd:AH) (h:AE),h∈wbyF fd l→∃g∈fd,h.length=g.length + l.length
 | [],fd,h,hm=>⟨h,hm,rfl⟩
 | x :: r,fd,h,hm=>by
  obtain⟨g,hg,e⟩:=X4 r _ h hm;unfold grow at hg;obtain⟨a,ha,hb⟩:=List.mem_flatMap.mp hg;obtain⟨c,_,rfl⟩:=ζp.mp hb;refine⟨a,ha,?_⟩
  rw[e,ζg];show a.length + 1 + r.length=a.length + (r.length + 1);omega
theorem X5:∀(l:List (Int×Option Int)) (fd:AH),(wbyF fd l).length≤fd.length * (l.map λx=>x.1.toNat).foldr (· * ·) 1
 | [],fd=>by simp[wbyF]
 | x :: r,fd=>by
  show(wbyF (grow fd (chs x.1 x.2)) r).length≤fd.length * (x.1.toNat * (r.map λx=>x.1.toNat).foldr (· * ·) 1);refine ζ8 (X5 r _) ?_;rw[ZL,←Nat.mul_assoc];exact Nat.mul_le_mul_right _ (Nat.mul_le_mul_left _ (UP _ _))
theorem YB:∀(ss:AE),(∀s∈ss,1≤s∧s≤9)→((ss.map λx=>x.toNat).foldr (· * ·) 1:Nat)=(prod ss).toNat
 | [],_=>rfl
 | s :: r,h=>by
  have hs:=h s ζf;have hp:0 < prod r:=vo λx hx=>by have:=h x (ζk _ hx); omega
  show s.toNat * (r.map λx=>x.toNat).foldr (· * ·) 1=(s * prod r).toNat;rw[YB r λx hx=>h x (ζk _ hx)];have e1:s=(s.toNat:Int):=by omega
  have e2:prod r=((prod r).toNat:Int):=by omega
  conv=>rhs; rw[e1,e2,←ξR]
  rw[ζG]
theorem u9:∀(n:Nat) (ss:AE),(∀s∈ss,1≤s∧s≤9)→prod (ss.take n)≤prod ss
 | 0,ss,h=>by
  have:=vo (ss:=ss) λx hx=>by have:=h x hx; omega
  rw[ζK];show(1:Int)≤_;omega
 | n + 1,[],_=>Int.le_refl _
 | n + 1,s :: r,h=>by
  have hs:=h s ζf;exact ξN (u9 n r λx hx=>h x (ζk _ hx)) ⋯
theorem VY:∀(ss:AE) (vw:List (Option Int)) (n:Nat),ss.length=vw.length→((ss.zip vw).take n).map (λx=>x.1.toNat)=(ss.take n).map λx=>x.toNat
 | [],_,n,_=>by simp
 | s :: r,[],_,h=>by simp at h
 | s :: r,v :: e,0,_=>rfl
 | s :: r,v :: e,n + 1,h=>by
  show s.toNat :: ((r.zip e).take n).map _=s.toNat :: (r.take n).map _;rw[VY r e n (by simpa using h)]
def v6(ds:AG)(d:AD):Prop:=∃(ss:AE) (vw:List (Option Int)),ds=[il ss,vl vw]∧ss.length=vw.length∧(∀s∈ss,1≤s∧s≤9)∧ss.length≤63∧prod ss≤16384∧d=lls (wby ss vw)
def fitP(k:Option Int):AD→Bool
 | .int v=>fitB v k
 | _=>false
theorem VO(s:Int)(k:Option Int):(((List.range s.toNat).map λi:Nat=>PyData.int (i:Int)).filter (fitP k)).map (λd=>d)=(chs s k).map .int:=by
 unfold chs rng;rw[List.map_id',List.filter_map,List.filter_map,ζA];rfl
theorem Y2:zw ["sizes","view","found","size","known"] ["sizes","view"] (zn (top 25)):={}
theorem Xp(F:Fun K "worlds_by" "worlds_by" (top 25) f fd)(B:Bs mg)(c_grown:zt P w K mg base CX0 "grown" ["heads","choices"] 1 (spD K true Yo))(c_fits:zt P w K mg base CX0 "fits" ["value","known"] 1 (spD K true WA)):FnOk P w K mg base CX0 2 f fd ["sizes","view"] (spD K true v6):=by
 have sc:=Y2;refine F.ok sc (λvs H Q E h=>zH (λ_ _⟨_,_,e,_⟩=>by rw[e];rfl) h) (λcdv A outer s H vs Q E hr h=>?_);obtain⟨Fh,ds,d,le,dp,p,q⟩:=h
 refine⟨_,(ze (pS (i:=2) sc.nd (zR (zb (zR zd) zd)))
   (ze (zU AC rfl (wc (K:=K) rfl rfl B.zip (zb (pv 0) (zb (pv 1) zd))) (xK (K:=K) (n:=2) rfl rfl (yd (pN (i:=3) sc.nd) (yd (pN (i:=4) sc.nd) xJ))) (zg (pS (i:=2) sc.nd (pF c_grown hr (zb (pv 2) (zb (yE rfl (N:=["value","known"]) (js:=[none,some 4]) (by walk_at"comp_ok") (ye rfl B.range (zb (pv 3) zd)) (λ_ _ _ _=>(pN (i:=0) (show υN ["value","known"]by decide +kernel))) (λ_ _ _ _=>(yQ (wt (pF c_fits hr (zb (pv 0) (zb (pv 1) zd)))))) (λ_ _ _ _=>(pv 0))) zd))))))
   (zg (zE (pv 2))))),?_⟩
 have hN:=sc.n 5;obtain⟨ss,vw,rfl,hl,hs,h63,hp,rfl⟩:=p;walk_at"run";refine exs true (d:=lls [[]]) (EvE.eq (a:=.list [.list []]) ∅ rfl) #[0] ?_;refine yv false (λi Γ=>∃x y,Γ=[some (.fz false (il ss)),some (.fz false (vl vw)),some (.fz true (lls (wbyF [[]] ((ss.zip vw).take i)))),x,y]) (vG ∅) ⟨none,none,by rw[ζK]; rfl⟩ ?_ ?_
 ·rintro i d Γ' hd ⟨x,y,rfl⟩;obtain⟨s,v,hs',hv',rfl⟩:=ZO hd;have hb:=hs s (ζd hs');have hi:=(ζh.mp hs').1;refine⟨_,egt #[0] #[0] ?_⟩
  have hlen:(wbyF [[]] ((ss.zip vw).take i)).length≤16384:=by
   refine ζ8 (X5 _ _) ?_;rw[VY _ _ _ hl,YB _ λx hx=>hs x (ξh hx)];have:=u9 i ss hs;show 1 * _≤_;omega
  have hc:=UP s v;refine exs1 (d:=lls (grow (wbyF [[]] ((ss.zip vw).take i)) (chs s v))) true (zi (zh ∅ (zh (EvO.toE (vR (is:=[0]) false (fitP v) (λd=>d) (yM ∅ ⋯ ⋯) (by walk_at"cc") rfl #[2] ?_ ?_)) zC)) ?_) #[0] ?_
  ·rw[yn];have:=zI;omega
  ·intro d hd;obtain⟨j,hj⟩:=ξi.mp hd;obtain⟨hj,rfl⟩:=yo hj;refine egn #[0] ⟨et_B (zi ∅ ⟨_,_,rfl,rfl⟩),λ_=>by walk_at"ev"⟩
  ·refine⟨_,_,by rw[VO],?_,?_,rfl⟩
   ·have:(chs s v).length≤9:=by omega
    exact ζ8 (Nat.mul_le_mul hlen this) #[2]
   ·intro h hm;obtain⟨g,hg,e⟩:=X4 _ _ h hm;have:g=[]:=by simpa using hg
    subst this;rw[e,ζN,ξQ];show 0 + _≤_;omega
  ·show∃x y,_;rw[take_succ (x:=(s,v)) (ξr.mpr ⟨hs',hv'⟩),u7];exact⟨_,_,rfl⟩
 ·rintro Γ' ⟨x,y,rfl⟩;refine zO true ∅ ?_ (.inl ⟨rfl,rfl⟩);unfold wby;rw[ζI];rw[ξL,ξQ,ζa,ζa];exact ζl _
def Zx(ds:AG)(d:AD):Prop:=∃(ss:AE),ds=[il ss]∧(∀s∈ss,1≤s∧s≤9)∧ss.length≤63∧prod ss≤16384∧d=lls (wds ss)
theorem U3:zw ["sizes"] ["sizes"] (zn (top 22)):={}
theorem Th(F:Fun K "worlds" "worlds" (top 22) f fd)(B:Bs mg)(c_worlds_by:zt P w K mg base CX0 "worlds_by" ["sizes","view"] 2 (spD K true v6)):FnOk P w K mg base CX0 3 f fd ["sizes"] (spD K true Zx):=by
 have sc:=U3;refine F.ok sc (λvs H Q E h=>zH (λ_ _⟨_,e,_⟩=>by rw[e];rfl) h) (λcdv A outer s H vs Q E hr h=>?_);obtain⟨Fh,ds,d,le,dp,p,q⟩:=h;refine⟨_,(zg (zE (pF c_worlds_by hr (zb (pv 0) (zb (zm ZE (zR (zb tu zd)) (pB (zj (K:=K) rfl) B.len (zb (pv 0) zd))) zd))))),?_⟩
 have hN:=sc.n 1;obtain⟨ss,rfl,hs,h63,hp,rfl⟩:=p;walk_at"run";refine zO true (zi (zh ∅ (zh (EvO.toE (wX (k:=(ss.length:Int)) ∅ (EvE.eq ∅ (by rw[ζa])) ⋯ ⋯ ?_)) zC)) ?_) rfl (.inl ⟨rfl,rfl⟩)
 ·have:=zI;show 1 * _≤_;omega
 ·refine⟨ss,List.replicate ss.length none,?_,by rw[ζT],hs,h63,hp,?_⟩
  ·rw[ζG,vn]
  ·rw[zbn _ _ rfl λx hx=>by have:=hs x hx; omega]
abbrev nl(ks:AF):AD:=.list (ks.map λk:Nat=>.int (k:Int))
theorem vB(ks:AF):∀d∈ks.map (λk:Nat=>PyData.int (k:Int)),imm d=true:=λd hd=>by
 obtain⟨n,_,rfl⟩:=ζp.mp hd;rfl
def uo(ds:AG)(d:AD):Prop:=∃(vs:AG) (ks:AF),ds=[.list vs,nl ks]∧(∀d∈vs,imm d=true)∧(∀k∈ks,k < vs.length)∧ks.length≤63∧d=.list (ks.map λk=>vs.getD k .none)
def pkF(vs:AG):AD→AD
 | .int k=>vs.getD k.toNat .none
 | _=>.none
theorem Ug(ss:AE)(ks:AF)(h:∀k∈ks,k < ss.length):(ks.map λk=>(ss.map PyData.int).getD k .none)=(pk ss ks).map .int:=by
 unfold Sx2.pk;rw[ζA];refine ζn λk hk=>?_;have:=h k hk;rw[ζb,ζo,ζe this];show PyData.int _=PyData.int (ss.getD k 0);rw[ζb,ζe this];rfl
theorem U5:zw ["values","things"] ["values","things"] (zn (top 28)):={}
theorem Tk(F:Fun K "picked" "picked" (top 28) f fd)(B:Bs mg): FnOk P w K mg base CX0 1 f fd ["values","things"] (spD K true uo):=by
 have sc:=U5;refine F.ok sc (λvs H Q E h=>zH (λ_ _⟨_,_,e,_⟩=>by rw[e];rfl) h) (λcdv A outer s H vs Q E hr h=>?_);obtain⟨Fh,ds,d,le,dp,p,q⟩:=h;refine⟨_,(zg (zE (yE rfl (N:=["k","values"]) (js:=[none,some 0]) (by walk_at"comp_ok") (zG (K:=K) rfl (pv 1)) (λ_ _ _ _=>(pN (i:=0) (show υN ["k","values"]by decide +kernel))) (λ_ _ _ _=>xf) (λ_ _ _ _=>(pX (zu (K:=K) rfl) (pv 1) (pv 0)))))),?_⟩
 have hN:=sc.n 2;obtain⟨vs',ks,rfl,him,hk,hl,rfl⟩:=p;walk_at"run";refine zO true (EvO.toE (EvO.eq (wY (is:=[0]) false (pkF vs') (zK ∅) (by walk_at"cc") rfl #[2] ?_ ?_) ?_)) rfl (.inl ⟨rfl,rfl⟩)
 ·rw[ζa];have:=zI;omega
 ·intro d hd;obtain⟨k,hk',rfl⟩:=ζp.mp hd;have hkl:=hk k hk';refine egn #[0] ?_;have at1:atI vs' (k:Int)=some (pkF vs' (.int k)):=vU (by
   show _=some (vs'.getD (Int.toNat (k:Int)) .none);rw[ζG,ζb,ζe hkl];rfl)
  exact zP ((EvE.toL (κ:=false) ∅).imm him) ∅ at1
 ·rw[ζA];rfl
def Zz(ds:AG)(d:AD):Prop:=∃(vw:List (Option Int)) (ks:AF) (ws:AE),ds=[vl vw,nl ks,il ws]∧ks.length=ws.length∧(∀k∈ks,k < vw.length)∧d=vl (fil vw ks ws)
theorem zaC{vw:List (Option Int)}{ks:AF}{ws:AE}{i k:Nat}{v:Int}(h1:ks[i]?=some k)(h2:ws[i]?=some v):((ks.zip ws).take (i + 1)).foldl (λv x=>v.set x.1 (some x.2)) vw=(((ks.zip ws).take i).foldl (λv x=>v.set x.1 (some x.2)) vw).set k (some v):=by
 rw[take_succ (x:=(k,v)) (ξr.mpr ⟨h1,h2⟩),ξq];rfl
theorem zaz(l:List (Nat×Int)):∀vw:List (Option Int),(l.foldl (λv x=>v.set x.1 (some x.2)) vw).length=vw.length:=by
 induction l with
 | nil=>intro _; rfl
 | cons x r ih=>intro vw; rw[List.foldl_cons,ih,ξC]
theorem U8:zw ["view","things","values","found","k","value"] ["view","things","values"] (zn (top 30)):={}
theorem Tn(F:Fun K "filled" "filled" (top 30) f fd)(B:Bs mg): FnOk P w K mg base CX0 1 f fd ["view","things","values"] (spD K true Zz):=by
 have sc:=U8;refine F.ok sc (λvs H Q E h=>zH (λ_ _⟨_,_,_,e,_⟩=>by rw[e];rfl) h) (λcdv A outer s H vs Q E hr h=>?_);obtain⟨Fh,ds,d,le,dp,p,q⟩:=h
 refine⟨_,(ze (pS (i:=3) sc.nd (pY (yh (K:=K) rfl) B.list (zb (pv 0) zd)))
   (ze (zU AC rfl (wc (K:=K) rfl rfl B.zip (zb (pv 1) (zb (pv 2) zd))) (xK (K:=K) (n:=2) rfl rfl (yd (pN (i:=4) sc.nd) (yd (pN (i:=5) sc.nd) xJ))) (zg (Zw (pv 5) (Xn (pv 3) (pv 4) uB))))
   (zg (zE (pv 3))))),?_⟩
 have hN:=sc.n 6;obtain⟨vw,ks,ws,rfl,hl,hk,rfl⟩:=p;walk_at"run";refine exo true (yW ∅) #[0] ?_;refine yv false (λi Γ=>∃x y,Γ=[some (.fz false (vl vw)),some (.fz false (nl ks)),some (.fz false (il ws)),some (.ow true ((((ks.zip ws).take i).foldl (λv x=>v.set x.1 (some x.2)) vw).map optD)),x,y]) (vG ∅) ⟨none,none,by rw[ζK]; rfl⟩ ?_ ?_
 ·rintro i d Γ' hd ⟨x,y,rfl⟩;obtain⟨k,v,hk',hv',rfl⟩:=ZO hd;have hkl:=hk k (ζd hk');refine⟨_,egt #[0] #[0] ?_⟩
  refine exi1 (j:=k) #[1] ∅ ∅ (wj (by rw[ζa,zaz]; exact hkl)) #[0] ?_;show∃x y,_;rw[zaC hk' hv',List.map_set];exact⟨_,_,rfl⟩
 ·rintro Γ' ⟨x,y,rfl⟩;refine exro #[1] ?_ (.inl ⟨rfl,rfl⟩);unfold fil;rw[ζI];rw[ξL,ξQ,ζa,ζa];exact ζl _
structure SzOk(ss:AE)(ks:AF):Prop where
 s:∀s∈ss,1≤s∧s≤9
 k:∀k∈ks,k < ss.length
 l:ks.length≤63
 p:prod (pk ss ks)≤16384
theorem SzOk.pk{ss:AE}{ks:AF}(h:SzOk ss ks):∀s∈pk ss ks,1≤s∧s≤9:=λs hs=>by
 obtain⟨k,hk,rfl⟩:=ζp.mp hs;have:=h.k k hk;refine h.s _ ?_;rw[ζb,ζe this];exact ζ9 this
def xk(ds:AG)(d:AD):Prop:=∃(ss:AE) (vw:List (Option Int)) (ks:AF),ds=[il ss,vl vw,nl ks]∧SzOk ss ks∧vw.length=ss.length∧d=.list ((wds (pk ss ks)).map λw=>vl (fil vw ks w))
def unI:AD→AE
 | .list ds=>ds.map λd=>match d with | .int i=>i | _=>0
 | _=>[]
theorem Qd(w:AE):unI (il w)=w:=by
 show(w.map PyData.int).map _=w;rw[ζA];exact List.map_id' _
theorem t6{ss:AE}{w:AE}(h:w∈wds ss):w.length=ss.length:=by
 unfold wds at h;obtain⟨j,_,rfl⟩:=ζp.mp h;exact YQ ss j
theorem We:zw ["sizes","view","things"] ["sizes","view","things"] (zn (top 31)):={}
theorem WB(F:Fun K "views_of" "views_of" (top 31) f fd)(B:Bs mg)(c_worlds:zt P w K mg base CX0 "worlds" ["sizes"] 3 (spD K true Zx))(c_picked:zt P w K mg base CX0 "picked" ["values","things"] 1 (spD K true uo))(c_filled:zt P w K mg base CX0 "filled" ["view","things","values"] 1 (spD K true Zz)):FnOk P w K mg base CX0 4 f fd ["sizes","view","things"] (spD K true xk):=by
 have sc:=We;refine F.ok sc (λvs H Q E h=>zH (λ_ _⟨_,_,_,e,_⟩=>by rw[e];rfl) h) (λcdv A outer s H vs Q E hr h=>?_);obtain⟨Fh,ds,d,le,dp,p,q⟩:=h;refine⟨_,(zg (zE (yE rfl (N:=["values","view","things"]) (js:=[none,some 1,some 2]) (by walk_at"comp_ok") (zG (K:=K) rfl (pF c_worlds hr (zb (pF c_picked hr (zb (pv 0) (zb (pv 2) zd))) zd))) (λ_ _ _ _=>(pN (i:=0) (show υN ["values","view","things"]by decide +kernel))) (λ_ _ _ _=>xf) (λ_ _ _ _=>(pF c_filled hr (zb (pv 1) (zb (pv 2) (zb (pv 0) zd)))))))),?_⟩
 have hN:=sc.n 3;obtain⟨ss,vw,ks,rfl,ok,hl,rfl⟩:=p;walk_at"run";refine zO true (EvO.toE (EvO.eq (wY (is:=[0]) true (λd=>vl (fil vw ks (unI d))) (zK (zi (zh (EvE.eq (zi ∅ ⟨_,_,rfl,wF ss,by rw[List.length_map]; exact ok.k,ok.l,rfl⟩) (congrArg PyData.list (Ug ss ks ok.k))) zC) ⟨pk ss ks,rfl,ok.pk,by unfold Sx2.pk; rw[List.length_map]; exact ok.l,ok.p,rfl⟩)) (by walk_at"cc") rfl #[2] ?_ ?_) ?_)) rfl (.inl ⟨rfl,rfl⟩)
 ·rw[ζa,yL];have:=zI;have:=ok.p;omega
 ·intro d hd;obtain⟨v,hv,rfl⟩:=ζp.mp hd;refine egn #[0] ?_;rw[Qd];refine zi ∅ ⟨_,_,_,rfl,?_,by rw[hl]; exact ok.k,rfl⟩;rw[t6 hv];unfold Sx2.pk;rw[ζa]
 ·rw[ζA];refine ζn λv _=>?_;show vl (fil vw ks (unI (il v)))=_;rw[Qd]
abbrev shs(xs:AM):AD:=.list (xs.map shD)
abbrev v5(ks:AF)(xs:AM):AD:=.tuple [nl ks,shs xs]
def vals(vw:List (Option Int))(ks:AF):AE:=ks.map λk=>(vw.getD k none).getD 0
theorem zbS(vw:List (Option Int))(ks:AF)(h:∀k∈ks,k < vw.length)(hn:∀k∈ks,vw.getD k none≠none):(ks.map λk=>(vw.map optD).getD k .none)=(vals vw ks).map .int:=by
 unfold vals;rw[ζA];refine ζn λk hk=>?_;have h1:=h k hk;have h2:=hn k hk;rw[ζb,ζo,ζe h1];rw[ζb,ζe h1]at h2;show optD _=PyData.int ((vw.getD k none).getD 0);rw[ζb,ζe h1];cases e:vw[k]with
 | none=>exact absurd e h2
 | some v=>rfl
theorem xu{ns:AE}{k:Nat}(h:k < ns.length):atI (ns.map PyData.int) (k:Int)=some (.int (ns.getD k 0)):=by
 rw[ζb,ζe h];exact yz (ζe h)
theorem zbe{ns:AE}{i:Int}(h0:0≤i)(h:i < ns.length):atI (ns.map PyData.int) i=some (.int (ns.getD i.toNat 0)):=by
 have:=xu (ns:=ns) (k:=i.toNat) ⋯;rw[ζ0 h0]at this;exact this
theorem zo{α:Type}{l:List α}{k:Nat}{d:α}(h:k < l.length):l[k]?=some (l.getD k d):=by
 rw[ζb,ζe h];rfl
def xo(ds:AG)(d:AD):Prop:=∃(ss:AE) (ks:AF) (xs:AM) (vw:List (Option Int)) (m:Nat),ds=[il ss,v5 ks xs,vl vw]∧SzOk ss ks∧vw.length=ss.length∧(∀k∈ks,vw.getD k none≠none)∧rkF (pk ss ks) (vals vw ks)=m∧m < xs.length∧d=shD (xs.getD m (0,1))
theorem Wf:zw ["sizes","sheet","view","things"] ["sizes","sheet","view"] (zn (top 32)):={}
theorem WC(F:Fun K "share_at" "share_at" (top 32) f fd)(B:Bs mg)(c_rank:zt P w K mg base CX0 "rank" ["sizes","world"] 1 (spD K true Wx))(c_picked:zt P w K mg base CX0 "picked" ["values","things"] 1 (spD K true uo)):FnOk P w K mg base CX0 2 f fd ["sizes","sheet","view"] (spD K true xo):=by
 have sc:=Wf;refine F.ok sc (λvs H Q E h=>zH (λ_ _⟨_,_,_,_,_,e,_⟩=>by rw[e];rfl) h) (λcdv A outer s H vs Q E hr h=>?_);obtain⟨Fh,ds,d,le,dp,p,q⟩:=h
 refine⟨_,(ze (pS (i:=3) sc.nd (pX (zB (K:=K) rfl) (pv 1) zf))
   (zg (zE (pX (zu (K:=K) rfl) (pX (zB (K:=K) rfl) (pv 1) zf) (pF c_rank hr (zb (pF c_picked hr (zb (pv 0) (zb (pv 3) zd))) (zb (pF c_picked hr (zb (pv 2) (zb (pv 3) zd))) zd))))))),?_⟩
 have hN:=sc.n 4;obtain⟨ss,ks,xs,vw,m,rfl,ok,hl,hn,hm,hmx,rfl⟩:=p;walk_at"run";refine exs false ∅ #[0] ?_;have at1:atI (xs.map shD) (m:Int)=some (shD (xs.getD m (0,1))):=vU (by
  rw[ζo,ζb,ζe hmx];rfl)
 refine zO true (EvE.imm (zP (κ:=false) (EvE.toL ∅) (EvE.eq (zi (zh (EvE.eq (zi ∅ ⟨_,_,rfl,wF ss,by rw[ζa]; exact ok.k,ok.l,rfl⟩) (congrArg PyData.list (Ug ss ks ok.k))) (zh (EvE.eq (zi ∅ ⟨_,_,rfl,WQ vw,by rw[ζa,hl]; exact ok.k,ok.l,rfl⟩) (congrArg PyData.list (zbS vw ks (by rw[hl]; exact ok.k) hn))) zC)) ⟨_,_,rfl,ok.pk,rfl⟩) (congrArg PyData.int hm)) at1) rfl) rfl (.inl ⟨rfl,rfl⟩)
abbrev nls(cs:AI):AD:=.list (cs.map nl)
def unO:AD→Option Int
 | .int i=>some i
 | _=>none
def unV:AD→List (Option Int)
 | .list ds=>ds.map unO
 | _=>[]
theorem YT(w:List (Option Int)):unV (vl w)=w:=by
 show(w.map optD).map unO=w;rw[ζA];refine(ζn λx _=>?_).trans (List.map_id w);cases x <;> rfl
theorem YG(ns:AE):(dd ns).Nodup:=by
 suffices z:∀n,(dd (ns.take n)).Nodup by simpa using z ns.length
 intro n;induction n with
 | zero=>exact ξ8
 | succ n ih =>
  by_cases hn:n < ns.length
  ·have e:ns.take (n + 1)=ns.take n ++ [ns[n]]:=by rw[List.take_succ,ζe hn]; rfl
   rw[e,XS];unfold PyProof.Rows.step_dedup;split
   ·exact ih
   ·rename_i h;rw[ζW];refine⟨ih,by simp,λx hx y hy=>?_⟩
    rw[ζi.mp hy];rintro rfl;exact h (List.any_eq_true.mpr ⟨_,hx,by simp⟩)
  ·have e1:ns.take (n + 1)=ns.take n:=by rw[ζI ⋯,ζI ⋯]
   rw[e1];exact ih
def zl(ks:AF):AE:=ks.map λk:Nat=>(k:Int)
theorem yR(ks:AF):nl ks=il (zl ks):=by
 unfold zl;show PyData.list _=.list _;rw[ζA];rfl
theorem xq{k:Nat}{r:AF}:decide ((k:Int)∈zl r)=decide (k∈r):=by
 unfold zl;by_cases h:k∈r
 ·rw[decide_eq_true h,decide_eq_true (ζp.mpr ⟨k,h,rfl⟩)]
 ·rw[decide_eq_false h,decide_eq_false λz=>?_];obtain⟨j,hj,e⟩:=ζp.mp z;have:j=k:=by omega
  exact h (this ▸ hj)
theorem Wp(p:Nat→Bool)(n:Nat):((List.range n).filter p).Pairwise (· < ·):=List.pairwise_lt_range.sublist ζx
theorem VV{r:AF}(h:r.Pairwise (· < ·)):(zl r).Pairwise (·≤·)∧(zl r).Nodup:=by
 have hz:(zl r).Pairwise (· < ·):=by
  unfold zl;rw[ξS];exact h.imp λ{a b} z=>by omega
 exact⟨hz.imp λ{a b} z=>by omega,by rw[List.nodup_iff_pairwise_ne]; exact hz.imp λ{a b} z=>by omega⟩
theorem zbD{n:Nat}{xs:AF}(h:∀x∈xs,x < n):srt (dd (zl xs))=zl ((List.range n).filter λj=>decide (j∈xs)):=by
 have r:=VV (Wp (λj=>decide (j∈xs)) n);refine(Zm ?_ r.1).symm;rw[ξa r.2 (YG _)];intro a;rw[uv];unfold zl;rw[ζp,ζp];constructor
 ·rintro⟨j,hj,rfl⟩;exact⟨j,by simpa using(List.mem_filter.mp hj).2,rfl⟩
 ·rintro⟨j,hj,rfl⟩;exact⟨j,List.mem_filter.mpr ⟨List.mem_range.mpr (h j hj),by simpa using hj⟩,rfl⟩
theorem wu{x y:Nat}(h:PyData.int (x:Int)=.int (y:Int)):x=y:=Int.ofNat.inj (PyData.int.inj h)
theorem Xm:∀(xs:AE) (n:Nat),(∀x∈xs,1≤x∧x≤4)→xs.length≤n→prod xs≤4 ^ n∧1≤prod xs
 | [],n,_,_=>by
  show(1:Int)≤4 ^ n∧(1:Int)≤1;exact⟨by have:=Int.pow_pos (n:=4) (m:=n) #[2]; omega,#[2]⟩
 | x :: r,0,_,h=>by cases h
 | x :: r,n + 1,hx,h=>by
  have ih:=Xm r n (λy hy=>hx y (List.mem_cons_of_mem _ hy)) (by simpa using h);have h1:=hx x ζf;show x * prod r≤4 ^ (n + 1)∧1≤x * prod r;rw[Int.pow_succ,ξo ((4:Int) ^ n) 4];refine⟨ξU h1.2 ih.1 ⋯ #[2],?_⟩
  have:=ξU h1.1 ih.2 #[2] ⋯;omega
theorem wlen{ss:AE}{ks:AF}{w:AE}(hw:w∈wds (pk ss ks)):w.length=ks.length:=by
 rw[t6 hw];unfold Sx2.pk;rw[ζa]
theorem atI0{α:Type}{a:α}{l:List α}:atI (a :: l) 0=some a:=vU (j:=0) rfl
theorem atI1{α:Type}{a b:α}{l:List α}:atI (a :: b :: l) 1=some b:=vU (j:=1) rfl
structure ShO(nb:Nat)(ss:AE)(ks:AF)(xs:AM):Prop where
 k:∀k∈ks,k < ss.length
 l:ks.length≤7
 xl:(xs.length:Int)=prod (pk ss ks)
 x:∀x∈xs,Shr nb x.1 x.2∧1≤x.1
structure S7(ss:AE):Prop where
 s:∀s∈ss,2≤s∧s≤4
 n:ss.length≤7
theorem yI{ss:AE}(h:∀s∈ss,2≤s∧s≤4){k:Nat}(hk:k < ss.length):2≤ss.getD k 0∧ss.getD k 0≤4:=by
 rw[ζb,ζe hk];exact h _ (ζ9 hk)
theorem zdc(n:Nat)(ks1 ks2:AF):(El.unF n ks1 ks2).length≤n:=by
 have:=ζV (λj=>decide (j∈ks1 ++ ks2)) (List.range n);rw[ζz]at this;exact this
theorem tM{ss:AE}(h:S7 ss){ks:AF}(hk:∀k∈ks,k < ss.length)(hl:ks.length≤7):SzOk ss ks:=by
 refine⟨λs z=>by have:=h.s s z; omega,hk,⋯,?_⟩
 have:=(Xm (pk ss ks) 7 (λx hx=>by
  obtain⟨j,hj,rfl⟩:=ζp.mp hx;have:=yI h.s (hk j hj);omega) (by unfold Sx2.pk; rw[List.length_map]; exact hl)).1
 have e:(4:Int) ^ 7=16384:=by decide
 omega
theorem zcJ{ss:AE}(h:S7 ss)(ks1 ks2:AF):SzOk ss (El.unF ss.length ks1 ks2):=tM h (λk hk=>(El.xP.mp hk).1) (by have:=zdc ss.length ks1 ks2; have:=h.n; omega)
def vOf(n:Nat)(U:AF)(w:AE):List (Option Int):=fil (List.replicate n none) U w
theorem V3(n:Nat)(U:AF)(w:AE):(vOf n U w).length=n:=by
 unfold vOf;rw[wW,ζT]
theorem v_at{ss:AE}{U:AF}{w:AE}(sz:SzOk ss U)(nd:U.Nodup)(hw:w∈wds (pk ss U)){k:Nat}(hk:k∈U):(vOf ss.length U w)[k]?=some (some (w.getD (U.idxOf k) 0))∧0≤w.getD (U.idxOf k) 0∧w.getD (U.idxOf k) 0 < ss.getD k 0∧U.idxOf k < w.length:=by
 have hi:U.idxOf k < U.length:=ξv.mpr hk;have hm:U[U.idxOf k]?=some k:=by rw[ζe hi,List.getElem_idxOf hi]
 have mw:U.idxOf k < w.length:=by rw[wlen hw]; exact hi
 have hwm:w[U.idxOf k]?=some (w.getD (U.idxOf k) 0):=zo mw;have hpm:(pk ss U)[U.idxOf k]?=some (ss.getD k 0):=by
  unfold Sx2.pk;rw[ζo,hm];rfl
 have b:=Vb (λs h=>by have:=sz.pk s h; omega) hw _ _ _ hpm hwm;exact⟨tG _ _ _ _ k _ nd hm hwm (by rw[ζT]; exact sz.k k hk),b.1,b.2,mw⟩
def wPk(U ks:AF)(w:AE):AE:=ks.map λk=>w.getD (U.idxOf k) 0
theorem YS{ss:AE}{U:AF}{w:AE}(sz:SzOk ss U)(nd:U.Nodup)(hw:w∈wds (pk ss U)){ks:AF}(hs:∀k∈ks,k∈U):vals (vOf ss.length U w) ks=wPk U ks w:=by
 unfold vals wPk;refine ζn λk hk=>?_;rw[ζb,(v_at sz nd hw (hs k hk)).1];rfl
def mOf(ss:AE)(ks U:AF)(w:AE):Nat:=(rkF (pk ss ks) (wPk U ks w)).toNat
def atX(ss:AE)(ks:AF)(xs:AM)(U:AF)(w:AE):Int×Int:=xs.getD (mOf ss ks U w) (0,1)
theorem m_ok{ss:AE}{U:AF}{w:AE}(sz:SzOk ss U)(nd:U.Nodup)(hw:w∈wds (pk ss U)){ks:AF}{xs:AM}{nb:Nat}(sh:ShO nb ss ks xs)(hs:∀k∈ks,k∈U):
  rkF (pk ss ks) (wPk U ks w)=(mOf ss ks U w:Int)∧mOf ss ks U w < xs.length:=by
 have b:=wx (ss:=pk ss ks) (ws:=wPk U ks w) (by unfold Sx2.pk wPk; rw[List.length_map,List.length_map]) λi s v h1 h2=>by
  unfold Sx2.pk at h1;unfold wPk at h2;rw[ζo]at h1 h2;cases e:ks[i]? with
  | none=>rw[e]at h1; cases h1
  | some c =>
   rw[e]at h1 h2;have V:=v_at sz nd hw (hs c (ζd e));have e1:ss.getD c 0=s:=ζr h1;have e2:w.getD (U.idxOf c) 0=v:=ζr h2;rw[←e1,←e2];exact⟨V.2.1,V.2.2.1⟩
 have xl:=sh.xl;unfold mOf;omega
theorem US{ss:AE}{U:AF}{w:AE}(sz:SzOk ss U)(nd:U.Nodup)(hw:w∈wds (pk ss U)){ks:AF}{xs:AM}{nb:Nat}(sh:ShO nb ss ks xs)(hs:∀k∈ks,k∈U):Shr nb (atX ss ks xs U w).1 (atX ss ks xs U w).2∧1≤(atX ss ks xs U w).1 :=
 sh.x _ (ζd (zo (m_ok sz nd hw sh hs).2))
abbrev tmX(x y:Int×Int):Int×Int:=tm x.1 x.2 y.1 y.2
def joX(ss:AE)(ks1:AF)(xs1:AM)(ks2:AF)(xs2:AM)(U:AF):AM:=(wds (pk ss U)).map λw=>tmX (atX ss ks1 xs1 U w) (atX ss ks2 xs2 U w)
def Zy(ds:AG)(d:AD):Prop:=∃(ss:AE) (ks1:AF) (xs1:AM) (ks2:AF) (xs2:AM) (U:AF),ds=[il ss,v5 ks1 xs1,v5 ks2 xs2]∧S7 ss∧ShO 9000 ss ks1 xs1∧ShO 40000 ss ks2 xs2∧U=El.unF ss.length ks1 ks2∧d=v5 U (joX ss ks1 xs1 ks2 xs2 U)
theorem U7:zw ["sizes","one","other","things","found","view"] ["sizes","one","other"] (zn (top 33)):={}
theorem Tm(F:Fun K "joined" "joined" (top 33) f fd)(B:Bs mg)(c_views_of:zt P w K mg base CX0 "views_of" ["sizes","view","things"] 4 (spD K true xk))(c_times:zt P w K mg base CX0 "times" ["one","other"] 2 (spD K true vP))(c_share_at:zt P w K mg base CX0 "share_at" ["sizes","sheet","view"] 2 (spD K true xo)):FnOk P w K mg base CX0 5 f fd ["sizes","one","other"] (spD K true Zy):=by
 have sc:=U7;refine F.ok sc (λvs H Q E h=>zH (λ_ _⟨_,_,_,_,_,_,e,_⟩=>by rw[e];rfl) h) (λcdv A outer s H vs Q E hr h=>?_);obtain⟨Fh,ds,d,le,dp,p,q⟩:=h
 refine⟨_,(ze (pS (i:=3) sc.nd (pB (XV rfl rfl) B.sorted (zb (zm (zdE rfl rfl) (pY (vT (K:=K) rfl rfl rfl) B.set (zb (pX (zB (K:=K) rfl) (pv 1) zf) zd)) (pY (vT (K:=K) rfl rfl rfl) B.set (zb (pX (zB (K:=K) rfl) (pv 2) zf) zd))) zd)))
   (ze (pS (i:=4) sc.nd (zR zd))
   (ze (zU AC rfl (zG (K:=K) rfl (pF c_views_of hr (zb (pv 0) (zb (zm ZE (zR (zb tu zd)) (pB (zj (K:=K) rfl) B.len (zb (pv 0) zd))) (zb (pv 3) zd))))) (pN (i:=5) sc.nd) (zg (yc (yu (K:=K) rfl ζs ζC ζB zV (pv 4) (zb (pF c_times hr (zb (pF c_share_at hr (zb (pv 0) (zb (pv 1) (zb (pv 5) zd)))) (zb (pF c_share_at hr (zb (pv 0) (zb (pv 2) (zb (pv 5) zd)))) zd))) zd)))))
   (zg (zE (yH (zb (pv 3) (zb (pv 4) zd)))))))),?_⟩
 have hN:=sc.n 6;obtain⟨ss,ks1,xs1,ks2,xs2,U,rfl,s7,sh1,sh2,hU,rfl⟩:=p;have big:=zI;have n7:=s7.n;have l1:=sh1.l;have l2:=sh2.l;have sz:SzOk ss U:=by rw[hU]; exact zcJ s7 ks1 ks2
 have sp:=sz.p;have nd:U.Nodup:=by rw[hU]; exact El.Qc ss.length ks1 ks2
 have in1:∀k∈ks1,k∈U:=λk hk=>by rw[hU]; exact El.xP.mpr ⟨sh1.k k hk,.inl hk⟩
 have in2:∀k∈ks2,k∈U:=λk hk=>by rw[hU]; exact El.xP.mpr ⟨sh2.k k hk,.inr hk⟩
 have sz1:=tM s7 sh1.k ⋯;have sz2:=tM s7 sh2.k ⋯;have ez:zl ks1 ++ zl ks2=zl (ks1 ++ ks2):=by unfold zl; rw[List.map_append]
 have zz:(srt (dd (zl ks1 ++ zl ks2))).map PyData.int=U.map λk:Nat=>PyData.int (k:Int):=by
  rw[hU,ez,zbD (n:=ss.length) λx hx=>by
   rcases ζu.mp hx with hx | hx
   ·exact sh1.k x hx
   ·exact sh2.k x hx]
  unfold zl El.unF;rw[ζA];rfl
 walk_at"run";refine exs true (d:=nl U) (EvO.toE (EvO.eq (XM (ns:=zl ks1) (ms:=zl ks2) (EvE.toL (EvE.eq (xb (κ:=false) ∅ ∅ atI0) (yR ks1))) (EvE.toL (EvE.eq (xb (κ:=false) ∅ ∅ atI0) (yR ks2))) (by unfold zl; rw[List.length_map,List.length_map]; omega)) zz)) #[0] ?_;refine exo true (yf (ds:=[]) zC #[2]) #[0] ?_;refine yv true (λi Γ=>∃y,Γ=[some (.fz false (il ss)),some (.fz false (v5 ks1 xs1)),some (.fz false (v5 ks2 xs2)),some (.fz true (nl U)),some (.ow true (((wds (pk ss U)).take i).map λw=>shD (tmX (atX ss ks1 xs1 U w) (atX ss ks2 xs2 U w)))),y]) (zK (zi (zh ∅ (zh (EvO.toE (wX (k:=(ss.length:Int)) ∅ (EvE.eq ∅ (by rw[ζa])) ⋯ ⋯ ?_)) (zh ∅ zC))) ⟨ss,List.replicate ss.length none,U,?_,sz,by rw[ζT],rfl⟩)) ⟨none,by rw[ζK]; rfl⟩ ?_ ?_
 ·show 1 * _≤_;omega
 ·rw[ζG,vn]
 ·rintro i d Γ' hd ⟨y,rfl⟩;obtain⟨w,hw',rfl⟩:=yk hd;have hw:=ζd hw';have hi:=(ζh.mp hw').1;rw[yL]at hi;have M1:=m_ok sz nd hw sh1 in1;have M2:=m_ok sz nd hw sh2 in2;have A1:=US sz nd hw sh1 in1;have A2:=US sz nd hw sh2 in2;have V1:=YS sz nd hw in1;have V2:=YS sz nd hw in2;have ne1:∀k∈ks1,(vOf ss.length U w).getD k none≠none:=λk hk=>by rw[ζb,(v_at sz nd hw (in1 k hk)).1]; exact λz=>by cases z
  have ne2:∀k∈ks2,(vOf ss.length U w).getD k none≠none:=λk hk=>by rw[ζb,(v_at sz nd hw (in2 k hk)).1]; exact λz=>by cases z
  refine⟨_,egn #[0] ?_⟩
  rw[show vl (fil (List.replicate ss.length none) U w)=vl (vOf ss.length U w)from rfl];refine exa1 (d:=shD (tmX (atX ss ks1 xs1 U w) (atX ss ks2 xs2 U w))) #[1] (zi (zh (zi ∅ ⟨ss,ks1,xs1,vOf ss.length U w,mOf ss ks1 U w,rfl,sz1,V3 _ _ _,ne1,by rw[V1]; exact M1.1,M1.2,rfl⟩) (zh (zi ∅ ⟨ss,ks2,xs2,vOf ss.length U w,mOf ss ks2 U w,rfl,sz2,V3 _ _ _,ne2,by rw[V2]; exact M2.1,M2.2,rfl⟩) zC)) ⟨_,_,rfl,A1.1,A1.2,A2.1,rfl⟩) #[0] ?_ ?_
  ·rw[ζa,ζN,yL];omega
  ·refine⟨some (.fz true (vl (vOf ss.length U w))),?_⟩
   rw[take_succ hw',ζv];rfl
 ·rintro Γ' ⟨y,rfl⟩;refine exfz 4 #[1] #[0] ?_;refine zO true ∅ ?_ (.inl ⟨rfl,rfl⟩);rw[ζa,ζR];show PyData.tuple [_,_]=.tuple [_,.list _];unfold joX;rw[ζA];rfl
def col(ss:AE)(ks:AF)(xs:AM)(k:Nat)(w:AE):AM:=(rng (ss.getD k 0).toNat).map λv=>xs.getD (rkF (pk ss ks) (mr k w v ks 0)).toNat (0,1)
structure ShK(ss:AE)(ks:AF)(xs:AM):Prop where
 s:∀s∈ss,2≤s∧s≤4
 k:∀k∈ks,k < ss.length
 nd:ks.Nodup
 l:ks.length≤7
 p:prod (pk ss ks)≤16384
 xl:(xs.length:Int)=prod (pk ss ks)
 x:∀x∈xs,Shr 8900 x.1 x.2
 sl:ss.length≤7
def xI(ds:AG)(d:AD):Prop:=∃(ss:AE) (ks:AF) (xs:AM) (k:Nat),ds=[il ss,v5 ks xs,.int k]∧ShK ss ks xs∧k∈ks∧d=v5 (El.oth ks k) ((wds (pk ss (El.oth ks k))).map λw=>tot (col ss ks xs k w))
theorem uQ(ds:AG)(d:AD)(h:xI ds d):ds.length=3:=by obtain⟨a,b,c,e,rfl,_⟩:=h; rfl
theorem ShK.sz{ss:AE}{ks:AF}{xs:AM}(h:ShK ss ks xs):SzOk ss ks:=⟨λs hs=>by have:=h.s s hs; omega,h.k,by have:=h.l; omega,by have:=h.p; omega⟩
theorem Ww{ss:AE}:∀(ks:AF),(∀k∈ks,k < ss.length)→(∀s∈ss,2≤s∧s≤4)→∀k,prod (pk ss (El.oth ks k))≤prod (pk ss ks)∧1≤prod (pk ss (El.oth ks k))
 | [],_,_,_=>⟨Int.le_refl _,by show(1:Int)≤1; decide⟩
 | j :: r,hk,hs,k=>by
  have ih:=Ww r (λx hx=>hk x (ζk _ hx)) hs k;have hj:=hk j ζf;have h2:2≤ss.getD j 0:=by
   rw[ζb,ζe hj];exact(hs _ (ζ9 hj)).1
  unfold El.oth;rw[List.filter_cons];split
  ·show ss.getD j 0 * prod (pk ss (El.oth r k))≤ss.getD j 0 * prod (pk ss r)∧1≤ss.getD j 0 * prod (pk ss (El.oth r k));refine⟨ξN ih.1 ⋯,?_⟩
   have:=ξN ih.2 (show 0≤ss.getD j 0 by omega);omega
  ·show prod (pk ss (El.oth r k))≤ss.getD j 0 * prod (pk ss r)∧_;refine⟨?_,ih.2⟩
   have h3:0≤prod (pk ss r):=by omega
   have:=ξK (show 1≤ss.getD j 0 by omega) h3;omega
theorem ShK.othK{ss:AE}{ks:AF}{xs:AM}(h:ShK ss ks xs)(k:Nat):SzOk ss (El.oth ks k):=⟨h.sz.s,λx hx=>h.k x (List.mem_filter.mp hx).1,by have:=List.length_filter_le (λx=>decide (x≠k)) ks; have:=h.l; unfold El.oth; omega,by have:=(Ww ks h.k h.s k).1; have:=h.p; omega⟩
def neP(k:Int):AD→Bool
 | .int j=>!decide (j=k)
 | _=>true
theorem Vv(ks:AF)(k:Nat):((ks.map λk:Nat=>PyData.int (k:Int)).filter (neP k)).map (λd=>d)=(El.oth ks k).map λk:Nat=>.int (k:Int):=by
 unfold El.oth;rw[List.map_id',List.filter_map];congr 1;refine ξ6 λx _=>?_;show(!decide ((x:Int)=k))=_;by_cases h:x=k
 ·simp[h]
 ·simp[h];omega
def shF(ss:AE)(ks:AF)(xs:AM)(d:AD):AD:=shD (xs.getD (rkF (pk ss ks) (vals (unV d) ks)).toNat (0,1))
theorem zdt{ss:AE}{ks:AF}(h:SzOk ss ks):∀s∈pk ss ks,0 < s:=λs hs=>by have:=h.pk s hs; omega
theorem T7{ss:AE}{ks:AF}{k:Nat}{w:AE}(hw:w∈wds (pk ss (El.oth ks k))):w.length=(El.oth ks k).length:=by
 rw[t6 hw];unfold Sx2.pk;rw[ζa]
structure Pl(ss:AE)(ks:AF)(xs:AM)(k:Nat)(w:AE)(v:Int)(vw:List (Option Int)):Prop where
 va:vals vw ks=mr k w v ks 0
 al:∀j∈ks,vw.getD j none≠none
 ln:vw.length=ss.length
 lo:0≤rkF (pk ss ks) (mr k w v ks 0)
 hi:(rkF (pk ss ks) (mr k w v ks 0)).toNat < xs.length
theorem ShK.pl{ss:AE}{ks:AF}{xs:AM}(h:ShK ss ks xs){k:Nat}(hk:k∈ks){w:AE}(hw:w∈wds (pk ss (El.oth ks k))){v:Int}(hv:0≤v∧v < ss.getD k 0):Pl ss ks xs k w v (fil (fil (List.replicate ss.length none) (El.oth ks k) w) [k] [v]):=by
 have hwl:w.length=(ks.filter λx=>x≠k).length:=T7 hw;have hp:=QY (zdt (h.othK k)) hw hv;refine⟨zbT h.nd h.k hwl,λj hj=>?_,by rw[wW,wW,ζT],hp.1,?_⟩
 ·exact λe=>by
   have:=T8 h.nd h.k hwl hj (v:=v);exact this e
 ·have:=h.xl;omega
theorem zcC{ss:AE}{ks:AF}{xs:AM}{k:Nat}{w:AE}:(col ss ks xs k w).length=(ss.getD k 0).toNat:=by
 unfold col rng;rw[ζa,ζa,ζz]
theorem zcB{ss:AE}{ks:AF}{xs:AM}(h:ShK ss ks xs){k:Nat}(hk:k∈ks){w:AE}(hw:w∈wds (pk ss (El.oth ks k))):∀x∈col ss ks xs k w,Shr 8900 x.1 x.2:=λx hx=>by
 unfold col rng at hx;obtain⟨v,hv,rfl⟩:=ζp.mp hx;obtain⟨i,hi,rfl⟩:=ζp.mp hv;have hi':=ζE.mp hi;have p:=h.pl hk hw (v:=(i:Int)) ⋯;refine h.x _ ?_;rw[ζb,ζe p.hi];exact ζ9 p.hi
theorem Wn:zw ["sizes","sheet","k","one_of","things","found","view"] ["sizes","sheet","k","one_of"] (zn (top 35)):={}
theorem WJ(F:Fun K "drawn_in" "drawn_in" (top 35) f fd)(B:Bs mg)(c_views_of:zt P w K mg base CX0 "views_of" ["sizes","view","things"] 4 (spD K true xk))(c_share_at:zt P w K mg base CX0 "share_at" ["sizes","sheet","view"] 2 (spD K true xo))(c_total:zt P w K mg base CX0 "total" ["shares"] 3 (spD K true tj)):FnOk P w K mg base CX0 5 f fd ["sizes","sheet","k","one_of"] (spF K mg "total" xI):=by
 have sc:=Wn;refine F.ok sc (λvs H Q E h=>zbw uQ h) (λcdv A outer s H vs Q E hr h=>?_);obtain⟨Fh,ds,d,us,a,rfl,hm,le,dp,p,q⟩:=h;have h_one_of:=c_total.at hm
 refine⟨_,(ze (yB (i:=4) rfl sc.nd rfl rfl (N:=["other","k"]) (js:=[none,some 2]) (by walk_at"comp_ok") (zG (K:=K) rfl (pX (zB (K:=K) rfl) (pv 1) zf)) (λ_ _ _ _=>(pN (i:=0) (show υN ["other","k"]by decide +kernel))) (λ_ _ _ _=>(yQ (zF Yr (pv 0) (pv 1) (zT _)))) (λ_ _ _ _=>(pv 0)))
   (ze (pS (i:=5) sc.nd (zR zd))
   (ze (zU AC rfl (zG (K:=K) rfl (pF c_views_of hr (zb (pv 0) (zb (zm ZE (zR (zb tu zd)) (pB (zj (K:=K) rfl) B.len (zb (pv 0) zd))) (zb (pv 4) zd))))) (pN (i:=6) sc.nd) (zg (yc (yu (K:=K) rfl ζs ζC ζB zV (pv 5) (zb (zdy 3 h_one_of (hr.mono #[2]) Q6 (zb (yE rfl (N:=["whole","sizes","sheet"]) (js:=[none,some 0,some 1]) (by walk_at"comp_ok") (zG (K:=K) rfl (pF c_views_of hr (zb (pv 0) (zb (pv 6) (zb (zR (zb (pv 2) zd)) zd))))) (λ_ _ _ _=>(pN (i:=0) (show υN ["whole","sizes","sheet"]by decide +kernel))) (λ_ _ _ _=>xf) (λ_ _ _ _=>(pF c_share_at hr (zb (pv 1) (zb (pv 2) (zb (pv 0) zd)))))) zd)) zd)))))
   (zg (zE (yH (zb (pv 4) (zb (pv 5) zd)))))))),?_⟩
 obtain⟨ss,ks,xs,k,rfl,ok,hk,rfl⟩:=p;apply zbK le dp q (n:=7) rfl (by rw[zQ.length dp]; show 3 < 7; decide)
 focus walk_at"st"
 focus (show SetC _ 3 _ _; walk_at"sc")
 have sl:=ok.sl;have big:=zI;refine exs true (d:=nl (El.oth ks k)) (EvE.eq (EvO.toE (vR (is:=[0]) false (neP k) (λd=>d) (zK ∅) (by walk_at"cc") rfl #[2] ?_ ?_)) (congrArg PyData.list (Vv ks k))) #[0] ?_
 ·rw[ζa];have:=ok.l;omega
 ·intro d hd;obtain⟨j,hj,rfl⟩:=ζp.mp hd;exact egn #[0] ⟨by dsimp only[neP]; walk_at"ev", λ_=>by walk_at"ev"⟩
 walk_at"go";refine yv true (λi Γ=>∃y,Γ=[some (.fz false (il ss)),some (.fz false (v5 ks xs)),some (.fz false (.int k)),some (.fn a),some (.fz true (nl (El.oth ks k))),some (.ow true (((wds (pk ss (El.oth ks k))).take i).map λw=>shD (tot (col ss ks xs k w)))),y]) (zK (zi (zh ∅ (zh (EvO.toE (wX (k:=(ss.length:Int)) ∅ (EvE.eq ∅ (by rw[ζa])) ⋯ ⋯ ?_)) (zh ∅ zC))) ⟨ss,List.replicate ss.length none,El.oth ks k,?_,ok.othK k,by rw[ζT],rfl⟩)) ⟨none,by rw[ζK]; rfl⟩ ?_ ?_
 ·show 1 * _≤_;omega
 ·rw[ζG,vn]
 ·rintro i d Γ' hd ⟨y,rfl⟩;obtain⟨w,hw',rfl⟩:=yk hd;have hw:=ζd hw';have hi:=(ζh.mp hw').1;rw[yL]at hi;refine⟨_,egn #[0] ?_⟩
  have hkl:=ok.k k hk;have gs:=yI ok.s hkl;have hone:pk ss [k]=[ss.getD k 0]:=rfl;have oko:=(ok.othK k).p;refine exa1 (d:=shD (tot (col ss ks xs k w))) #[1] (zd9 #[1] (zh (EvO.toE (EvO.eq (wY (is:=[0]) true (shF ss ks xs) (zK (zi (zh ∅ (zh ∅ (zh (show EvE _ _ _ _ _ (.list [.int k])from by walk_at"ev") zC))) ⟨ss,fil (List.replicate ss.length none) (El.oth ks k) w,[k],rfl,⟨ok.sz.s,by simpa using hkl,by show 1≤63; decide,by rw[hone]; show ss.getD k 0 * 1≤_; omega⟩,by rw[wW,List.length_replicate],rfl⟩)) (by walk_at"cc") rfl #[2] ?_ ?_) ?_)) zC) ⟨col ss ks xs k w,rfl,zcB ok hk hw,by rw[zcC]; omega,rfl⟩) #[0] ?_ ?_
  ·rw[hone,YR _ ⋯,ζa,ζa];unfold rng;rw[ζa,ζz];omega
  ·intro d hd;rw[hone,YR _ ⋯,ζA]at hd;obtain⟨v,hv,rfl⟩:=ζp.mp hd;obtain⟨j,hj,rfl⟩:=ζp.mp hv;have hj':=ζE.mp hj;have p:=ok.pl hk hw (v:=(j:Int)) ⋯;dsimp only[Function.comp_apply];refine egn #[0] ?_;refine zi ∅ ⟨ss,ks,xs,_,(rkF (pk ss ks) (mr k w j ks 0)).toNat,rfl,ok.sz,p.ln,p.al,?_,p.hi,?_⟩
   ·show rkF (pk ss ks) (vals _ ks)=_;rw[p.va,ζ0 p.lo]
   ·unfold shF;show shD (xs.getD (rkF (pk ss ks) (vals (unV (vl _)) ks)).toNat (0,1))=_;rw[YT,p.va]
  ·rw[hone,YR _ ⋯,ζA,ζA];unfold col;rw[ζA];refine ζn λv hv=>?_;obtain⟨j,hj,rfl⟩:=ζp.mp hv;have hj':=ζE.mp hj;have p:=ok.pl hk hw (v:=(j:Int)) ⋯;show shD (xs.getD (rkF (pk ss ks) (vals (unV (vl _)) ks)).toNat (0,1))=_;rw[YT,p.va];rfl
  ·rw[ζa,ζN,yL];omega
  ·show∃y,_;rw[take_succ hw',ζv];exact⟨_,rfl⟩
 ·rintro Γ' ⟨y,rfl⟩;refine exfz 5 #[1] #[0] ?_;refine zO true ∅ ?_ (.inl ⟨rfl,rfl⟩);rw[ζa,ζR];show PyData.tuple [_,_]=.tuple [_,.list _];rw[ζA];rfl
def xH(ds:AG)(d:AD):Prop:=xI ds d
theorem XF(ds:AG)(d:AD)(h:xH ds d):ds.length=3:=uQ ds d h
theorem Wh:zw ["sizes","sheet","k"] ["sizes","sheet","k"] (zn (top 34)):={}
theorem WE(F:Fun K "left_out" "left_out" (top 34) f fd)(B:Bs mg)(c_drawn_in:zt P w K mg base CX0 "drawn_in" ["sizes","sheet","k","one_of"] 5 (spF K mg "total" xI))(c_total:zt P w K mg base CX0 "total" ["shares"] 3 (spD K true tj)):FnOk P w K mg base CX0 6 f fd ["sizes","sheet","k"] (spD K true xH):=by
 have sc:=Wh;refine F.ok sc (λvs H Q E h=>zH XF h) (λcdv A outer s H vs Q E hr h=>?_);obtain⟨Fh,ds,d,le,dp,p,q⟩:=h;obtain⟨a_total,_,_,m_total,_⟩:=c_total.ex;refine⟨_,(zg (zE (pF c_drawn_in hr (zb (pv 0) (zb (pv 1) (zb (pv 2) (zb (zbX (v:=.ref a_total) rfl m_total rfl) zd))))))),?_⟩
 have hN:=sc.n 3;have p':=p;obtain⟨ss,ks,xs,k,rfl,ok,hk,rfl⟩:=p;walk_at"run";exact zO true (TQ ∅ ∅ ∅ m_total p') rfl (.inl ⟨rfl,rfl⟩)
theorem VC{k:Nat}{w:AE}{v:Int}:∀(ks:AF) (c:Nat),ks.Nodup→mr k w v ks c=ks.map λj=>if j=k then v else w.getD (c + (El.oth ks k).idxOf j) 0
 | [],_,_=>rfl
 | j :: r,c,hn=>by
  have⟨h1,h2⟩:=ζ3.mp hn;by_cases e:j=k
  ·have eo:El.oth (j :: r) k=El.oth r k:=by unfold El.oth; rw[List.filter_cons_of_neg (by simp[e])]
   rw[ζF,if_pos e,eo,←VC r c h2];show(if j=k then _ else _)=_;rw[if_pos e]
  ·have eo:El.oth (j :: r) k=j :: El.oth r k:=by unfold El.oth; rw[List.filter_cons_of_pos (by simp[e])]
   rw[ζF,if_neg e,eo,List.idxOf_cons_self];show(if j=k then _ else _)=_;rw[if_neg e,VC r (c + 1) h2];congr 1;refine ζn λi hi=>?_;have ne:j≠i:=λz=>h1 (z ▸ hi);rw[List.idxOf_cons,show(j == i)=false from beq_eq_false_iff_ne.mpr ne,cond_false,Nat.add_right_comm,Nat.add_assoc]
theorem VW(ks:AF):(srt (zl ks))=zl ((srt (zl ks)).map Int.toNat):=by
 unfold zl;rw[ζA];refine((ζn λx hx=>?_).trans (List.map_id _)).symm;obtain⟨k,_,rfl⟩:=ζp.mp ((xQ _).mem_iff.mp hx);rfl
def srtN(cs:AF):AF:=(srt (zl cs)).map Int.toNat
theorem ym(cs:AF):(srtN cs).Perm cs:=by
 have pr:(zl (srtN cs)).Perm (zl cs):=by
  unfold srtN;rw[←VW];exact xQ _
 have:=pr.map Int.toNat;unfold zl at this;rw[ζA,ζA]at this;have e:(Int.toNat∘λk:Nat=>(k:Int))=id:=by funext k; rfl
 rw[e,List.map_id,List.map_id]at this;exact this
theorem zcA{α:Type}(g:α→AD)(xs:List α)(k:Nat):cutD (xs.map g) none (some (k:Int))=(xs.take k).map g:=by
 unfold cutD;rw[HT.t7];show((xs.map g).drop 0).take (min k (xs.map g).length - 0)=_;rw[List.drop_zero,Nat.sub_zero,ζa,←List.map_take];congr 1;rcases Nat.le_total k xs.length with h | h
 ·rw[ξ2 h]
 ·rw[Nat.min_eq_right h,ζI (ζl _),ζI h]
theorem Yj{cs:AF}(h:cs.Nodup):(srtN cs).Pairwise (· < ·):=by
 have h1:(srtN cs).Nodup:=(ym cs).nodup_iff.mpr h;have h2:(srtN cs).Pairwise (·≤·):=by
  have:=wL (zl cs);unfold srtN;rw[ξS];refine this.imp λ{a b} hab=>?_;omega
 rw[List.nodup_iff_pairwise_ne]at h1;exact(h1.and h2).imp λ{a b} z=>by omega
def kD(ks:AF):AG:=ks.map λk:Nat=>.int (k:Int)
theorem tE(ks:AF):(kD ks).length=ks.length:=ζa ..
theorem Zl(ks:AF):(srt (zl ks)).map PyData.int=kD (srtN ks):=by
 have:=VW ks;have e:(srt (zl ks)).map PyData.int=(zl (srtN ks)).map PyData.int:=congrArg (List.map PyData.int) this;rw[e];show(List.map _ (srtN ks)).map PyData.int=_;rw[ζA];rfl
structure ShOk(n:Nat)(cs:AI):Prop where
 l:cs.length=n
 e:∀r∈cs,(∀x∈r,x < n)∧r.length≤60
theorem ShOk.at{n:Nat}{cs:AI}(h:ShOk n cs){k:Nat}(hk:k < n):cs[k]?=some (cs.getD k [])∧(∀x∈cs.getD k [],x < n)∧(cs.getD k []).length≤60:=by
 have z:cs[k]?=some (cs.getD k []):=zo (by rw[h.l]; exact hk);have:=h.e _ (ζd z);exact⟨z,this.1,this.2⟩
theorem Yl(ks:AF):SeqAt.shaped (nl ks)=true:=Yk (xC (λ_=>rfl) ks) (by
 have:=y8 (g:=λk:Nat=>PyData.int (k:Int)) (n:=0) (λ_=>ζl _) ks;show PyData.depthAll _ + 1≤50;omega)
inductive Rch(nx:Nat→AF)(sm:AF):Nat→Prop
 | base {x:Nat}:x∈sm→Rch nx sm x
 | step {x y:Nat}:Rch nx sm x→y∈nx x→Rch nx sm y
open Classical in
noncomputable def rchL(n:Nat)(nx:Nat→AF)(sm:AF):AF:=(List.range n).filter λx=>decide (Rch nx sm x)
theorem wz(n:Nat)(nx:Nat→AF)(sm:AF):(rchL n nx sm).Pairwise (· < ·):=List.Pairwise.sublist ζx ξO
theorem yO{n:Nat}{nx:Nat→AF}{sm:AF}{x:Nat}:x∈rchL n nx sm↔x < n∧Rch nx sm x:=by
 unfold rchL;rw[ζm,ζE];simp
structure NxOk(n:Nat)(nx:Nat→AF):Prop where
 n12:n≤12
 lt:∀x,x < n→∀y∈nx x,y < n
 l:∀x,x < n→(nx x).length≤60
structure SmOk(n:Nat)(sm:AF):Prop where
 lt:∀x∈sm,x < n
 l:sm.length≤60
theorem Rch.lt{n:Nat}{nx:Nat→AF}{sm:AF}(h:NxOk n nx)(hs:SmOk n sm){x:Nat}(r:Rch nx sm x):x < n:=by
 induction r with
 | base z=>exact hs.lt _ z
 | step _ z ih=>exact h.lt _ ih _ z
theorem QL(n:Nat)(nx:Nat→AF)(sm:AF):(rchL n nx sm).length≤n:=by
 have:=ζV (λx=>@decide (Rch nx sm x) (Classical.propDecidable _)) (List.range n)
 rwa [ζz]at this
theorem vm:∀{a b:AF},a.Pairwise (· < ·)→b.Pairwise (· < ·)→(∀x,x∈a↔x∈b)→a=b
 | [],[],_,_,_=>rfl
 | [],y :: b,_,_,h=>by have:=(h y).mpr ζf; cases this
 | x :: a,[],_,_,h=>by have:=(h x).mp ζf; cases this
 | x :: a,y :: b,ha,hb,h=>by
  obtain⟨a1,a2⟩:=ξu.mp ha;obtain⟨b1,b2⟩:=ξu.mp hb;have e:x=y:=by
   rcases ζw.mp ((h x).mp ζf)with z | z
   ·exact z
   ·rcases ζw.mp ((h y).mpr ζf)with w | w
    ·exact w.symm
    ·have:=b1 x z;have:=a1 y w;omega
  subst e;refine congrArg (x :: ·) (vm a2 b2 λz=>⟨λhz=>?_,λhz=>?_⟩)
  ·rcases ζw.mp ((h z).mp (ζk _ hz))with w | w
   ·subst w;have:=a1 z hz;omega
   ·exact w
  ·rcases ζw.mp ((h z).mpr (ζk _ hz))with w | w
   ·subst w;have:=b1 z hz;omega
   ·exact w
theorem tw:∀(n:Nat) (l:AF),l.Nodup→(∀x∈l,x < n)→l.length≤n
 | 0,[],_,_=>ζl _
 | 0,x :: l,_,h=>absurd (h x ζf) (Nat.not_lt_zero _)
 | n + 1,l,nd,h=>by
  have e:=tw n (l.erase n) (nd.erase n) λx hx=>by
   have h1:=h x (List.mem_of_mem_erase hx);have h2:x≠n:=λz=>by subst z; exact(List.Nodup.not_mem_erase nd) hx
   omega
  have:=List.length_erase (a:=n) (l:=l);split at this <;> omega
structure GI(n:Nat)(nx:Nat→AF)(sm fo wa:AF):Prop where
 nd:fo.Nodup
 fl:∀x∈fo,Rch nx sm x
 wl:∀x∈wa,Rch nx sm x
 cl:∀x∈fo,∀y∈nx x,y∈fo∨y∈wa
 sm:∀x∈sm,x∈fo∨x∈wa
 ll:wa.length≤60 + 60 * fo.length
theorem GI.old{n:Nat}{nx:Nat→AF}{sm fo wa:AF}{k:Nat}(h:GI n nx sm fo (wa ++ [k]))(hk:k∈fo):GI n nx sm fo wa:=by
 have out:∀{x:Nat},x∈fo∨x∈wa ++ [k]→x∈fo∨x∈wa:=λ{x} z=>by
  rcases z with z | z
  ·exact .inl z
  ·rcases ζu.mp z with z | z
   ·exact .inr z
   ·rw[ζi.mp z]; exact .inl hk
 have l:=h.ll;rw[ζg]at l;exact⟨h.nd,h.fl,λx hx=>h.wl x (ζM _ hx),λx hx y hy=>out (h.cl x hx y hy),λx hx=>out (h.sm x hx),⋯⟩
theorem GI.new{n:Nat}{nx:Nat→AF}{sm fo wa:AF}{k:Nat}(h:GI n nx sm fo (wa ++ [k]))(hl:(nx k).length≤60)(hk:k∉fo):GI n nx sm (fo ++ [k]) (wa ++ nx k):=by
 have rk:=h.wl k (ζJ _ (ζi.mpr rfl));have out:∀{x:Nat},x∈fo∨x∈wa ++ [k]→x∈fo ++ [k]∨x∈wa ++ nx k:=λ{x} z=>by
  rcases z with z | z
  ·exact .inl (ζM _ z)
  ·rcases ζu.mp z with z | z
   ·exact .inr (ζM _ z)
   ·exact .inl (ζJ _ z)
 have l:=h.ll;rw[ζg]at l;have l:wa.length + 1≤_:=l;refine⟨?_,λx hx=>?_,λx hx=>?_,λx hx y hy=>?_,λx hx=>out (h.sm x hx),?_⟩
 ·rw[ζW];exact⟨h.nd,by simp,λa ha b hb=>by rw[List.mem_singleton.mp hb]; rintro rfl; exact hk ha⟩
 ·rcases ζu.mp hx with hx | hx
  ·exact h.fl x hx
  ·rw[ζi.mp hx]; exact rk
 ·rcases ζu.mp hx with hx | hx
  ·exact h.wl x (ζM _ hx)
  ·exact .step rk hx
 ·rcases ζu.mp hx with hx | hx
  ·exact out (h.cl x hx y hy)
  ·rw[ζi.mp hx]at hy;exact .inr (ζJ _ hy)
 ·rw[ζg,ζg];show _≤60 + 60 * (fo.length + 1);omega
theorem GI.end{n:Nat}{nx:Nat→AF}{sm fo:AF}(no:NxOk n nx)(so:SmOk n sm)(h:GI n nx sm fo []):srtN fo=rchL n nx sm:=by
 refine vm (Yj h.nd) (wz n nx sm) λx=>?_;rw[(ym fo).mem_iff,yO];refine⟨λz=>⟨(h.fl x z).lt no so,h.fl x z⟩,λz=>?_⟩
 have cl:∀{y:Nat},y∈fo∨y∈([]:AF)→y∈fo:=λz=>z.elim (λz=>z) λz=>nomatch z;have r:=z.2;clear z;induction r with
 | base z=>exact cl (h.sm _ z)
 | step _ z ih=>exact cl (h.cl _ ih _ z)
def gP(n:Nat)(nx:Nat→AF):AD→AD→Prop:=λd r=>∃k:Nat,k < n∧d=.int (k:Int)∧r=nl (nx k)
def wU(ds:AG)(p1:AD→AD→Prop)(d:AD):Prop:=∃(n:Nat) (nx:Nat→AF) (sm:AF),ds=[nl sm]∧NxOk n nx∧SmOk n sm∧p1=gP n nx∧d=nl (rchL n nx sm)
theorem XG(ds:AG)(p1:AD→AD→Prop)(d:AD)(h:wU ds p1 d):ds.length=1:=by obtain⟨a,b,c,rfl,_⟩:=h; rfl
theorem VU(r:AF)(k:Nat):(zl (r ++ [k])).map PyData.int=(zl r).map PyData.int ++ [.int (k:Int)]:=by
 unfold zl;rw[ζv,ζv];rfl
theorem zda(r t:AF):(zl (r ++ t)).map PyData.int=(zl r).map PyData.int ++ (t.map λk:Nat=>.int (k:Int)):=by
 unfold zl;rw[ζv,ζv,ζA (l:=t)];rfl
theorem ve(r:AF):(zl r).length=r.length:=ζa ..
theorem Wm:zw ["some","nexts","found","waiting","k"] ["some","nexts"] (zn (top 10)):={}
theorem WI(F:Fun K "gathered" "gathered" (top 10) f fd)(B:Bs mg): FnOk P w K mg base CX0 4 f fd ["some","nexts"] (spG P w K mg base 3 wU):=by
 have sc:=Wm;refine F.ok sc (λvs H Q E h=>zbv XG h) (λcdv A outer s H vs Q E hr h=>?_);obtain⟨Fh,ds,d,us,a,p1,rfl,le,dp,lam,p,q⟩:=h;obtain⟨n,nx,sm,rfl,no,so,rfl,rfl⟩:=p;obtain⟨fdL,xL,splL,nmL,qL,pL,bL,lL,clL,pmL,cL,ctL,FL,hbL,haL,prL⟩:=lam
 refine⟨_,(ze (pS (i:=2) sc.nd (zR zd))
   (ze (pS (i:=3) sc.nd (pY (yh (K:=K) rfl) B.list (zb (pv 0) zd)))
   (ze (wB AC (zF ZF (pB (zj (K:=K) rfl) B.len (zb (pv 3) zd)) zf (zT _)) (ze (pS (i:=4) sc.nd (Ui (K:=K) rfl ζs PySem.F.slot_list_pop PySem.F.type_list_pop zab (pv 3)))
   (zg (yK (zF (yP (K:=K) rfl) (pv 4) (pv 2) (rfl)) (ze (yc (yu (K:=K) rfl ζs ζC ζB zV (pv 2) (zb (pv 4) zd)))
   (zg (yc (yu (K:=K) rfl ζs PySem.F.slot_list_extend PySem.F.type_list_extend (WM (K:=K) rfl) (pv 3) (zb (zdz 1 FL hbL (hr.mono #[2]) (zb (pv 4) zd)) zd))))) zY))))
   (zg (zE (pB (y9 (K:=K) rfl) B.sorted (zb (pv 2) zd))))))),?_⟩
 have big:=zI;have n12:=no.n12;have sl:=so.l;have bk:wJ K fdL [xL] []:=hbL;refine zbJ (φ:=λF1 v=>v=.ref a∧(∃nm q params body lsc cl pm c' ctv,F1 a=some (knw (PySem.W.kla_obj nm q params body lsc cl pm c' ctv)))∧∀(H' F':Hp) (v:V) (d r:AD) (Q:VK),Same F1 F'→Same F' H'→Dp K F' v d→gP n nx d r→(∀v' H'' F'',Gr H' F' H'' F''→Rp K false .fresh H' F'' v' r→Q v' H'')→splL [v] H' Q E0) le dp q (n:=5) rfl (by rw[zQ.length dp]; show 1 < 5; decide) (by walk_at"st") (by show SetC _ 1 _ _; walk_at"sc") ⟨rfl,⟨_,_,_,_,_,_,_,_,_,haL⟩,prL⟩ ?_;generalize hφ:(λ(F1:Hp) (v:V)=>v=.ref a∧(∃nm q params body lsc cl pm c' ctv,F1 a=some (knw (PySem.W.kla_obj nm q params body lsc cl pm c' ctv)))∧∀(H' F':Hp) (v:V) (d r:AD) (Q:VK),Same F1 F'→Same F' H'→Dp K F' v d→gP n nx d r→(∀v' H'' F'',Gr H' F' H'' F''→Rp K false .fresh H' F'' v' r→Q v' H'')→splL [v] H' Q E0)=φ;refine exo true (ds:=(zl []).map .int) (yf (ds:=[]) zC #[2]) #[0] ?_;refine exo true (ds:=(zl sm).map .int) (EvO.eq (yW (EvL.imm (κ:=false) (EvE.toL ∅) (vB sm))) (by unfold zl; rw[List.map_map]; rfl)) #[0] ?_;refine yw (λΓ=>∃fo x y,GI n nx sm fo []∧Γ=[some (.fz false (nl sm)),some (.xp φ),some (.ow true ((zl fo).map .int)),x,y]) (wG (λm Γ=>∃(fo wa:AF) (x:Option DV),GI n nx sm fo wa∧m=(n - fo.length) * 61 + wa.length∧Γ=[some (.fz false (nl sm)),some (.xp φ),some (.ow true ((zl fo).map .int)),some (.ow true ((zl wa).map .int)),x]) _ ⟨[],sm,none,⟨ξ8,λ_ z=>(nomatch z),λx hx=>.base hx,λ_ z=>(nomatch z),λx hx=>.inr hx,⋯⟩,rfl,rfl⟩ ?_) ?_
 ·rintro m Γ' ⟨fo,wa,x,gi,rfl,rfl⟩;have fl:=tw n fo gi.nd λx hx=>(gi.fl x hx).lt no so;have ll:=gi.ll;refine⟨decide (0 < (wa.length:Int)),EvT.eq (zM (YF (i:=(wa.length:Int)) (j:=0) (EvE.eq (yg (ds:=(zl wa).map .int) ∅) (by rw[ζa,ve])) ∅)) rfl,λh=>?_,λh=>?_⟩
  ·have h':0 < (wa.length:Int):=by simpa using h
   obtain⟨wb,k,rfl⟩:∃wb k,wa=wb ++ [k]:=by
    rcases List.eq_nil_or_concat wa with rfl | ⟨wb,k,e⟩
    ·exact absurd h' (by simp)
    ·exact⟨wb,k,by rw[e,List.concat_eq_append]⟩
   have rk:=gi.wl k (ζJ _ (ζi.mpr rfl));have kn:=rk.lt no so;have nl12:=no.l k kn;rw[VU];rw[ζg]at ll ⊢;refine yw (·=[some (.fz false (nl sm)),some (.xp φ),some (.ow true ((zl fo).map .int)),some (.ow true ((zl wb).map .int)),some (.fz true (.int (k:Int)))]) (UD (i:=3) (j:=4) #[1] #[2] #[0] #[0] rfl) ?_;rintro Γ' rfl;refine vE (b:=!decide (k∈fo)) (EvT.eq (zM (xt (neg:=true) (i:=(k:Int)) (ns:=zl fo) ∅ ∅)) (by show(!decide _)=_; rw[xq])) (λc=>?_) (λc=>?_)
   ·have c':k∉fo:=by simpa using c
    have gn:=gi.new nl12 c';have fn:fo.length + 1≤n:=by
     have:=tw n (fo ++ [k]) gn.nd λx hx=>(gn.fl x hx).lt no so
     rwa [ζg]at this
    refine exa (d:=.int (k:Int)) #[1] ∅ #[0] (by rw[ζa,ve]; omega) ?_;refine TH (es:=(nx k).map λk:Nat=>.int (k:Int)) #[1] (EvL.imm (κ:=false) (EvE.toL (zd8 (kk:=3) (fd:=fdL) (x:=xL) #[1] (λF1 v hf=>by
     rw[←hφ]at hf;exact⟨hf.1,hf.2.1,λH' F' v Q s1 s2 hd kq=>hf.2.2 H' F' v _ _ Q s1 s2 hd ⟨k,kn,rfl,rfl⟩ kq⟩) ∅)) (vB _)) (by rw[ζa,ζa,ve]; omega) #[0] ?_
    refine⟨_,?_,fo ++ [k],wb ++ nx k,_,gn,rfl,by rw[VU,zda]⟩
    rw[ζg,ζg];show(n - (fo.length + 1)) * 61 + _ < (n - fo.length) * 61 + (wb.length + 1);omega
   ·have c':k∈fo:=by simpa using c
    refine yl ⟨_,?_,fo,wb,_,gi.old c',rfl,rfl⟩;show _ < _ + (wb.length + 1);omega
  ·have h':¬0 < (wa.length:Int):=by simpa using h
   have e:wa=[]:=ξy.mp ⋯;subst e;exact⟨fo,_,_,gi,rfl⟩
 ·rintro Γ' ⟨fo,x,y,gi,rfl⟩;have fl:=tw n fo gi.nd λx hx=>(gi.fl x hx).lt no so;refine zO true (EvO.toE (EvO.eq (xw (ns:=zl fo) ∅ (by rw[ve]; omega)) (Zl fo))) ?_ (.inl ⟨rfl,rfl⟩);show PyData.list (kD (srtN fo))=_;rw[gi.end no so];rfl
theorem T5(a b:AF):((zl a).any λk=>decide (k∈zl b))=a.any λk=>decide (k∈b):=by
 unfold zl;rw[List.any_map];refine congrArg (λf=>List.any a f) (funext λk=>?_);exact xq
def uJ(ds:AG)(d:AD):Prop:=∃a b:AF,ds=[nl a,nl b]∧a.length + b.length < 2000∧d=.bool (a.any λk=>decide (k∈b))
theorem zbH:zw ["some","others"] ["some","others"] (zn (top 6)):={}
theorem zb7(F:Fun K "meet" "meet" (top 6) f fd)(B:Bs mg): FnOk P w K mg base CX0 1 f fd ["some","others"] (spD K true uJ):=by
 have sc:=zbH;refine F.ok sc (λvs H Q E h=>zH (λ_ _⟨_,_,e,_⟩=>by rw[e];rfl) h) (λcdv A outer s H vs Q E hr h=>?_);obtain⟨Fh,ds,d,le,dp,p,q⟩:=h;refine⟨_,(zg (zE (wf ZF (pB (TZ (b:=w.params.followText "set-order")) B.len (zb (zm (zb2 rfl rfl) (pY (vT (K:=K) rfl rfl rfl) B.set (zb (pv 0) zd)) (pY (vT (K:=K) rfl rfl rfl) B.set (zb (pv 1) zd))) zd)) zf (zT _)))),?_⟩
 have hN:=sc.n 2;obtain⟨a,b,rfl,hl,rfl⟩:=p;walk_at"run";refine zO true (EvE.eq (YF (TM (ns:=zl a) (ms:=zl b) (EvE.toL (EvE.eq (κ:=false) ∅ (yR a))) (EvE.toL (EvE.eq (κ:=false) ∅ (yR b))) (by rw[ve,ve]; exact hl)) ∅) ?_) rfl (.inl ⟨rfl,rfl⟩);rw[zah,T5]
def lkF(cs:AI)(hs wi:AF)(k:Nat):AF:=wi.filter λo=>(cs.getD o []).any λc=>decide (c∈(cs.getD k []).filter λc=>decide (c∈hs))
theorem tD{cs:AI}{hs wi:AF}{k o:Nat}:o∈lkF cs hs wi k↔o∈wi∧∃h∈hs,h∈cs.getD k []∧h∈cs.getD o []:=by
 unfold lkF;rw[ζm,ξn];refine⟨λ⟨h1,c,h2,h3⟩=>?_,λ⟨h1,h,h2,h3,h4⟩=>⟨h1,h,h4,decide_eq_true (ζm.mpr ⟨h3,decide_eq_true h2⟩)⟩⟩
 have:=ζm.mp (of_decide_eq_true h3);exact⟨h1,c,of_decide_eq_true this.2,this.1,h2⟩
theorem zeP{n:Nat}{wi:AF}(n12:n≤12)(hw:∀x∈wi,x < n)(wl:wi.length≤60)(cs:AI)(hs:AF):NxOk n (lkF cs hs wi):=⟨n12,λx _ y hy=>hw y (ζm.mp hy).1,λx _=>ζ8 (ζV _ _) wl⟩
def v8(ds:AG)(d:AD):Prop:=∃(n:Nat) (cs:AI) (hs wi:AF) (k:Nat),ds=[nls cs,nl hs,.int k,nl wi]∧ShOk n cs∧(∀x∈wi,x < n)∧wi.length≤60∧k < n∧d=nl (lkF cs hs wi k)
theorem Y4:zw ["causes","hidden","k","within","over_k"] ["causes","hidden","k","within"] (zn (top 13)):={}
theorem Xr(F:Fun K "linked_to" "linked_to" (top 13) f fd)(B:Bs mg)(c_meet:zt P w K mg base CX0 "meet" ["some","others"] 1 (spD K true uJ)):FnOk P w K mg base CX0 2 f fd ["causes","hidden","k","within"] (spD K true v8):=by
 have sc:=Y4;refine F.ok sc (λvs H Q E h=>zH (λ_ _⟨_,_,_,_,_,e,_⟩=>by rw[e];rfl) h) (λcdv A outer s H vs Q E hr h=>?_);obtain⟨Fh,ds,d,le,dp,p,q⟩:=h
 refine⟨_,(ze (pS (i:=4) sc.nd (yE rfl (N:=["c","hidden"]) (js:=[none,some 1]) (by walk_at"comp_ok") (zG (K:=K) rfl (pX (zu (K:=K) rfl) (pv 0) (pv 2))) (λ_ _ _ _=>(pN (i:=0) (show υN ["c","hidden"]by decide +kernel))) (λ_ _ _ _=>(yQ (zF (yV (K:=K) rfl) (pv 0) (pv 1) (rfl)))) (λ_ _ _ _=>(pv 0))))
   (zg (zE (yE rfl (N:=["other","over_k","causes"]) (js:=[none,some 4,some 0]) (by walk_at"comp_ok") (zG (K:=K) rfl (pv 3)) (λ_ _ _ _=>(pN (i:=0) (show υN ["other","over_k","causes"]by decide +kernel))) (λ_ _ _ _=>(yQ (wt (pF c_meet hr (zb (pX (zu (K:=K) rfl) (pv 2) (pv 0)) (zb (pv 1) zd)))))) (λ_ _ _ _=>(pv 0)))))),?_⟩
 have hN:=sc.n 5;obtain⟨n,cs,hs,wi,k,rfl,ok,hw,wl,kn,rfl⟩:=p;have big:=zI;have A:=ok.at kn;have A2:=A.2.2;have ak:atI (cs.map nl) (k:Int)=some (nl (cs.getD k [])):=yz A.1;have fl:=ζV (λc=>decide (c∈hs)) (cs.getD k []);walk_at"run";refine exs true (d:=nl ((cs.getD k []).filter λc=>decide (c∈hs))) (EvO.toE (yx (κ:=true) (is:=[0]) (xs:=cs.getD k []) false (λk:Nat=>.int (k:Int)) (λk:Nat=>.int (k:Int)) (λc=>decide (c∈hs)) (λx _ y _ h=>by cases wu h; exact⟨rfl,rfl⟩) (zK (zP (κ:=false) ∅ ∅ ak)) (by walk_at"cc") rfl #[2] ⋯ ?_)) #[0] ?_
 ·intro c hc;exact egn #[0] ⟨EvT.eq (zM (xt (neg:=false) (i:=(c:Int)) (ns:=zl hs) ∅ (EvE.toL (EvE.eq (κ:=false) ∅ (yR _))))) xq,λ_=>by walk_at"ev"⟩
 refine zO true (EvO.toE (yx (κ:=true) (is:=[0]) (xs:=wi) false (λk:Nat=>.int (k:Int)) (λk:Nat=>.int (k:Int)) (λo=>(cs.getD o []).any λc=>decide (c∈(cs.getD k []).filter λc=>decide (c∈hs))) (λx _ y _ h=>by cases wu h; exact⟨rfl,rfl⟩) (zK ∅) (by walk_at"cc") rfl #[2] ⋯ ?_)) rfl (.inl ⟨rfl,rfl⟩);intro o ho;have B1:=ok.at (hw o ho);have B2:=B1.2.2;have ao:atI (cs.map nl) (o:Int)=some (nl (cs.getD o [])):=yz B1.1;exact egn #[0] ⟨et_B (zi (zh (zP (κ:=false) ∅ ∅ ao) (zh ∅ zC)) ⟨cs.getD o [],_,rfl,⋯,rfl⟩),λ_=>by walk_at"ev"⟩
noncomputable def clF(n:Nat)(nx:Nat→AF):Nat→AF→AI
 | 0,_=>[]
 | _ + 1,[]=>[]
 | f + 1,x :: r=>rchL n nx [x] :: clF n nx f ((x :: r).filter λk=>!decide (k∈rchL n nx [x]))
theorem Vw{n k:Nat}(h:k < n):SmOk n [k]:=⟨λx hx=>by rw[ζi.mp hx]; exact h,by show 1≤60; decide⟩
theorem Uq{n:Nat}{nx:Nat→AF}{x:Nat}{r:AF}(hx:x < n):((x :: r).filter λk=>!decide (k∈rchL n nx [x])).length≤r.length:=by
 have:x∈rchL n nx [x]:=yO.mpr ⟨hx,.base ζf⟩;rw[List.filter_cons,decide_eq_true this];exact ζV _ _
def ZA(ds:AG)(d:AD):Prop:=∃(n:Nat) (cs:AI) (hs sm:AF),ds=[nls cs,nl hs,nl sm]∧ShOk n cs∧n≤12∧(∀x∈sm,x < n)∧sm.length≤12∧d=nls (clF n (lkF cs hs sm) sm.length sm)
theorem U9:zw ["causes","hidden","some","found","left","clump"] ["causes","hidden","some"] (zn (top 14)):={}
theorem To(F:Fun K "clumps" "clumps" (top 14) f fd)(L:WP K f "clumps" = true)(B:Bs mg)(c_gathered:zt P w K mg base CX0 "gathered" ["some","nexts"] 4 (spG P w K mg base 3 wU))(c_linked_to:zt P w K mg base CX0 "linked_to" ["causes","hidden","k","within"] 2 (spD K true v8)):FnOk P w K mg base CX0 5 f fd ["causes","hidden","some"] (spD K true ZA):=by
 have sc:=U9;refine F.okL L sc (λvs H Q E h=>zH (λ_ _⟨_,_,_,_,e,_⟩=>by rw[e];rfl) h) (λc T A outer s H vs Q E hhd htab hr h=>?_);obtain⟨Fh,ds,d,le,dp,p,q⟩:=h
 refine⟨_,(ze (pS (i:=3) sc.nd (zR zd))
   (ze (pS (i:=4) sc.nd (pY (yh (K:=K) rfl) B.list (zb (pv 2) zd)))
   (ze (wB AC (zF ZF (pB (zj (K:=K) rfl) B.len (zb (pv 4) zd)) zf (zT _)) (ze (pS (i:=5) sc.nd (Vu (caps:=[("causes", 0),("hidden", 1),("some", 2)]) c_gathered (hr.mono #[2]) rfl (zR (zb (pX (zu (K:=K) rfl) (pv 4) zf) zd)) rfl hhd htab rfl rfl rfl (ζ4.mpr ⟨⟨rfl,rfl⟩,(ζ4.mpr ⟨⟨rfl,rfl⟩,(ζ4.mpr ⟨⟨rfl,rfl⟩,(λ_ z=>nomatch z)⟩)⟩)⟩) (ζ4.mpr ⟨⟨by first | exact .head _ | exact .tail _ (.head _) | exact .tail _ (.tail _ (.head _)) | exact .tail _ (.tail _ (.tail _ (.head _))),rfl⟩,(ζ4.mpr ⟨⟨by first | exact .head _ | exact .tail _ (.head _) | exact .tail _ (.tail _ (.head _)) | exact .tail _ (.tail _ (.tail _ (.head _))),rfl⟩,(ζ4.mpr ⟨⟨by first | exact .head _ | exact .tail _ (.head _) | exact .tail _ (.tail _ (.head _)) | exact .tail _ (.tail _ (.tail _ (.head _))),rfl⟩,(λ_ z=>nomatch z)⟩)⟩)⟩) (ζ4.mpr ⟨rfl,(ζ4.mpr ⟨rfl,(ζ4.mpr ⟨rfl,(λ_ z=>nomatch z)⟩)⟩)⟩) (λ_=>rfl)))
   (ze (yB (i:=4) rfl sc.nd rfl rfl (N:=["k","clump"]) (js:=[none,some 5]) (by walk_at"comp_ok") (zG (K:=K) rfl (pv 4)) (λ_ _ _ _=>(pN (i:=0) (show υN ["k","clump"]by decide +kernel))) (λ_ _ _ _=>(yQ (zF (yP (K:=K) rfl) (pv 0) (pv 1) (rfl)))) (λ_ _ _ _=>(pv 0)))
   (zg (yc (yu (K:=K) rfl ζs ζC ζB zV (pv 3) (zb (pv 5) zd)))))))
   (zg (zE (pv 3)))))),?_⟩
 have hN:=sc.n 6;obtain⟨n,cs,hs,sm,rfl,ok,n12,hw,wl,rfl⟩:=p;have big:=zI;obtain⟨dc,e1,e2,e3⟩:∃dc:Str→AD,dc "causes" = nls cs∧dc "hidden" = nl hs∧dc "some" = nl sm:=⟨λy=>if y = "causes" then nls cs else if y = "hidden" then nl hs else nl sm,if_pos rfl,(if_neg #[2]).trans (if_pos rfl),(if_neg #[2]).trans (if_neg #[2])⟩
 walk_at"run";refine exo true (ds:=([]:AI).map nl) (yf (ds:=[]) zC #[2]) #[0] ?_;refine exs true (d:=nl sm) (EvO.toE (yW (EvL.imm (κ:=false) (EvE.toL ∅) (vB sm)))) #[0] ?_;refine yw (λΓ=>∃x y,Γ=[some (.fz false (nls cs)),some (.fz false (nl hs)),some (.fz false (nl sm)),some (.ow true ((clF n (lkF cs hs sm) sm.length sm).map nl)),x,y]) (wG (λq Γ=>∃(fo:AI) (le:AF) (y:Option DV),le.length≤q∧(∀x∈le,x < n)∧fo.length + q≤12∧fo ++ clF n (lkF cs hs sm) q le=clF n (lkF cs hs sm) sm.length sm∧Γ=[some (.fz false (nls cs)),some (.fz false (nl hs)),some (.fz false (nl sm)),some (.ow true (fo.map nl)),some (.fz true (nl le)),y]) sm.length ⟨[],sm,none,ζl _,hw,by show 0 + _≤_; omega,rfl,rfl⟩ ?_) ?_
 ·rintro q Γ' ⟨fo,le,y,hl,hx,hf,he,rfl⟩;refine⟨decide (0 < (le.length:Int)),EvT.eq (zM (YF (i:=(le.length:Int)) (j:=0) (EvE.eq (yg (ds:=le.map λk:Nat=>.int (k:Int)) ∅) (by rw[ζa])) ∅)) rfl,λh=>?_,λh=>?_⟩
  ·have h':0 < (le.length:Int):=by simpa using h
   obtain⟨x,r,rfl⟩:∃x r,le=x :: r:=by
    cases le with
    | nil=>exact absurd h' #[2]
    | cons x r=>exact⟨x,r,rfl⟩
   obtain⟨f,rfl⟩:∃f,q=f + 1:=⟨q - 1,by have:r.length + 1≤q:=hl; omega⟩
   have hl:r.length + 1≤f + 1:=hl;have xn:=hx x ζf;have a0:atI ((x :: r).map λk:Nat=>PyData.int (k:Int)) (0:Int)=some (.int (x:Int)):=yz (g:=λk:Nat=>PyData.int (k:Int)) (xs:=x :: r) (i:=0) rfl;have ll:=Uq (n:=n) (nx:=lkF cs hs sm) (x:=x) (r:=r) xn;have rl:=QL n (lkF cs hs sm) [x];refine exs true (d:=nl (rchL n (lkF cs hs sm) [x])) (VL (P:=P) (w:=w) (mg:=mg) (base:=base) (kk:=2) (x := "k") (dc:=dc) (p1:=gP n (lkF cs hs sm)) (d1:=.list [.int (x:Int)]) (EvO.toE (yf (ds:=[.int (x:Int)]) (zh (zP (κ:=false) ∅ ∅ a0) zC) (by show 1≤sizeLine; omega))) (ζ4.mpr ⟨⟨false,by show _=some (some (DV.fz false (dc "causes"))); rw[e1]; rfl⟩,ζ4.mpr ⟨⟨false,by show _=some (some (DV.fz false (dc "hidden"))); rw[e2]; rfl⟩,ζ4.mpr ⟨⟨false,by show _=some (some (DV.fz false (dc "some"))); rw[e3]; rfl⟩,λ_ z=>nomatch z⟩⟩⟩) (zap (by decide +kernel)) (λcl pm c' ctv=>wJ.all λus hl=>match us,hl with | [_],_=>rfl) (λ_ _ _ hcl _ _ _ _ hr=>(pF c_linked_to hr (zb (pv 1) (zb (pv 2) (zb (pv 0) (zb (pv 3) zd)))))) (λd r h=>?_) ⟨n,lkF cs hs sm,[x],rfl,zeP n12 hw ⋯ cs hs,Vw xn,rfl,rfl⟩) #[0] ?_
   ·obtain⟨k,kn,rfl,rfl⟩:=h;show EvE K .fresh false _ [some (.fz false (.int k)),some (.fz false (dc "causes")),some (.fz false (dc "hidden")),some (.fz false (dc "some"))] _;rw[e1,e2,e3];exact zi ∅ ⟨n,cs,hs,sm,k,rfl,ok,hw,⋯,kn,rfl⟩
   refine exs true (d:=nl ((x :: r).filter λk=>!decide (k∈rchL n (lkF cs hs sm) [x]))) (EvO.toE (yx (κ:=true) (is:=[0]) (xs:=x :: r) false (λk:Nat=>.int (k:Int)) (λk:Nat=>.int (k:Int)) (λk=>!decide (k∈rchL n (lkF cs hs sm) [x])) (λx _ y _ h=>by cases wu h; exact⟨rfl,rfl⟩) (zK ∅) (by walk_at"cc") rfl #[2] (by show r.length + 1≤_; omega) ?_)) #[0] ?_
   ·intro k hk;exact egn #[0] ⟨EvT.eq (zM (xt (neg:=true) (i:=(k:Int)) (ns:=zl (rchL n (lkF cs hs sm) [x])) ∅ (EvE.toL (EvE.eq (κ:=false) ∅ (yR _))))) (by show(!decide _)=_; rw[xq]),λ_=>by walk_at"ev"⟩
   refine exa1 (d:=nl (rchL n (lkF cs hs sm) [x])) #[1] ∅ #[0] (by rw[ζa]; omega) ?_;refine⟨f,Nat.lt_succ_self f,fo ++ [rchL n (lkF cs hs sm) [x]],_,_,ζ8 ll (Nat.le_of_succ_le_succ hl),λz hz=>hx z (ζm.mp hz).1,by rw[ζg]; show _ + 1 + _≤_; omega,?_,by rw[ζv]; rfl⟩
   rw[ξI];exact he
  ·have h':¬0 < (le.length:Int):=by simpa using h
   have e:le=[]:=ξy.mp ⋯;subst e;have:clF n (lkF cs hs sm) q []=[]:=by cases q <;> rfl
   rw[this,ζ1]at he;rw[he];exact⟨_,_,rfl⟩
 ·rintro Γ' ⟨x,y,rfl⟩;exact exro #[1] rfl (.inl ⟨rfl,rfl⟩)
theorem Rch.trans{nx:Nat→AF}{a b c:Nat}(h:Rch nx [a] b)(g:Rch nx [b] c):Rch nx [a] c:=by
 induction g with
 | base z=>rw[ζi.mp z]; exact h
 | step _ z ih=>exact .step ih z
theorem zc0{cs:AI}{hs sm:AF}{x y:Nat}(hx:x∈sm)(h:Rch (lkF cs hs sm) [x] y):y∈sm:=by
 cases h with
 | base z=>rw[ζi.mp z]; exact hx
 | step _ z=>exact(tD.mp z).1
theorem zcd{cs:AI}{hs sm:AF}{x y:Nat}(hx:x∈sm)(h:Rch (lkF cs hs sm) [x] y):Rch (lkF cs hs sm) [y] x:=by
 induction h with
 | base z=>rw[ζi.mp z]; exact .base (ζi.mpr rfl)
 | step r z ih =>
  obtain⟨_,h,h1,h2,h3⟩:=tD.mp z;exact Rch.trans (.step (.base (ζi.mpr rfl)) (tD.mpr ⟨zc0 hx r,h,h1,h3,h2⟩)) ih
def inF(cs:AI)(wi:AF)(k:Nat):AF:=(cs.getD k []).filter λc=>decide (c∈wi)
def zD(n:Nat)(hs:AF):AF:=(List.range n).filter λk=>!decide (k∈hs)
def w9(ds:AG)(d:AD):Prop:=∃(cs:AI) (hs:AF),ds=[nls cs,nl hs]∧cs.length≤1000∧d=nl (zD cs.length hs)
theorem Zp:zw ["causes","hidden"] ["causes","hidden"] (zn (top 12)):={}
theorem ZG(F:Fun K "seen_things" "seen_things" (top 12) f fd)(B:Bs mg): FnOk P w K mg base CX0 1 f fd ["causes","hidden"] (spD K true w9):=by
 have sc:=Zp;refine F.ok sc (λvs H Q E h=>zH (λ_ _⟨_,_,e,_⟩=>by rw[e];rfl) h) (λcdv A outer s H vs Q E hr h=>?_);obtain⟨Fh,ds,d,le,dp,p,q⟩:=h;refine⟨_,(zg (zE (yE rfl (N:=["k","hidden"]) (js:=[none,some 1]) (by walk_at"comp_ok") (ye rfl B.range (zb (pB (zj (K:=K) rfl) B.len (zb (pv 0) zd)) zd)) (λ_ _ _ _=>(pN (i:=0) (show υN ["k","hidden"]by decide +kernel))) (λ_ _ _ _=>(yQ (zF (yP (K:=K) rfl) (pv 0) (pv 1) (rfl)))) (λ_ _ _ _=>(pv 0))))),?_⟩
 have hN:=sc.n 2;obtain⟨cs,hs,rfl,hl,rfl⟩:=p;have big:=zI;have el:(((cs.map nl).length:Nat):Int)=(cs.length:Int):=by rw[ζa]
 walk_at"run";refine zO true (EvO.toE (YE (is:=[0]) (n:=cs.length) (λo=>.int (o:Int)) (λk=>!decide (k∈hs)) (zh (EvE.eq (yg (ds:=cs.map nl) ∅) (congrArg PyData.int el)) zC) ⋯ (by walk_at"cc") rfl #[2] ?_)) rfl (.inl ⟨rfl,rfl⟩);intro o ho;refine egn #[0] ⟨EvT.eq (zM (xt (neg:=true) (i:=(o:Int)) (ns:=zl hs) ∅ (EvE.toL (EvE.eq (κ:=false) ∅ (yR _))))) ?_,λ_=>by walk_at"ev"⟩;show(!decide _)=_;rw[xq]
theorem zed(a b:AF):PyData.eqv (nl a) (nl b)=decide (a=b):=by
 rw[yR,yR];refine(zaX _ _).trans (decide_eq_decide.mpr ⟨λh=>?_,λh=>by rw[h]⟩);unfold zl at h;exact(List.map_inj_right (λx y e=>Int.ofNat.inj e)).mp h
theorem zem(ls:AI)(l:AF):((ls.map nl).any λe=>PyData.eqv e (nl l))=decide (l∈ls):=by
 induction ls with
 | nil=>rfl
 | cons x r ih =>
  rw[ζF,ξF,ih,zed];by_cases h:x=l
  ·subst h;rw[decide_eq_true rfl,decide_eq_true ζf];rfl
  ·rw[decide_eq_false h];refine(Bool.false_or _).trans (decide_eq_decide.mpr ⟨ζk _,λz=>?_⟩);rcases ζw.mp z with z | z
   ·exact absurd z.symm h
   ·exact z
theorem zaj(l:AF):low (nl l)=true:=by
 have h2:=xC (g:=λk:Nat=>PyData.int (k:Int)) (λ_=>rfl) l;have d2:=y8 (g:=λk:Nat=>PyData.int (k:Int)) (n:=0) (λ_=>ζl _) l;unfold low;refine Bool.and_eq_true_iff.mpr ⟨h2,decide_eq_true ?_⟩;show PyData.depthAll _ + 1≤50;omega
theorem zca(ls:AI):∀e∈ls.map nl,low e=true:=λe he=>by
 obtain⟨l,_,rfl⟩:=ζp.mp he;exact zaj l
theorem X0(ls:AI):ls.zip (ls.drop 1)=(List.range (ls.length - 1)).map λi=>(ls.getD i [],ls.getD (i + 1) []):=by
 refine List.ext_getElem ?_ λi h1 h2=>?_
 ·rw[ξQ,ζ5,ζa,ζz];omega
 ·rw[ζa,ζz]at h2;rw[List.getElem_zip,ξ5,List.getElem_map,ξ3,ζb,ζb,ζe ⋯,ζe ⋯];refine congrArg (Prod.mk _) ?_;congr 1;omega
theorem VX:∀a b:AI,List.zipWith (λx y=>PyData.tuple [x,y]) (a.map nl) (b.map nl)=(a.zip b).map λo=>.tuple [nl o.1,nl o.2]
 | [],_=>rfl
 | _ :: _,[]=>rfl
 | x :: a,y :: b=>congrArg (PyData.tuple [nl x,nl y] :: ·) (VX a b)
theorem zcc{n:Nat}{cs:AI}{hs sm:AF}{x y:Nat}(hx:x∈sm)(h:Rch (lkF cs hs sm) [x] y):rchL n (lkF cs hs sm) [y]=rchL n (lkF cs hs sm) [x]:=by
 refine vm (wz ..) (wz ..) λz=>?_;rw[yO,yO];exact⟨λw=>⟨w.1,h.trans w.2⟩,λw=>⟨w.1,(zcd hx h).trans w.2⟩⟩
theorem XA{n:Nat}{cs:AI}{hs sm:AF}(lt:∀x∈sm,x < n)(r:AF):∀(f:Nat) (le:AF),le.length≤f→(∀x∈le,x∈sm)→(r∈clF n (lkF cs hs sm) f le↔∃x∈le,r=rchL n (lkF cs hs sm) [x])
 | 0,[],_,_=>⟨λz=>(by cases z),λ⟨_,z,_⟩=>(by cases z)⟩
 | 0,_ :: _,h,_=>absurd h (Nat.not_succ_le_zero _)
 | f + 1,[],_,_=>⟨λz=>(by cases z),λ⟨_,z,_⟩=>(by cases z)⟩
 | f + 1,x :: t,hf,hs'=>by
  have xs:=hs' x ζf;have ll:=Uq (n:=n) (nx:=lkF cs hs sm) (x:=x) (r:=t) (lt x xs);have hf:t.length + 1≤f + 1:=hf;have ih:=XA (cs:=cs) (hs:=hs) lt r f ((x :: t).filter λk=>!decide (k∈rchL n (lkF cs hs sm) [x])) (ζ8 ll (Nat.le_of_succ_le_succ hf)) λy hy=>hs' y (ζm.mp hy).1;show r∈rchL n (lkF cs hs sm) [x] :: clF n (lkF cs hs sm) f ((x :: t).filter λk=>!decide (k∈rchL n (lkF cs hs sm) [x]))↔_;rw[ζw,ih];constructor
  ·rintro(h | ⟨y,hy,e⟩)
   ·exact⟨x,ζf,h⟩
   ·exact⟨y,(ζm.mp hy).1,e⟩
  ·rintro⟨y,hy,e⟩;by_cases c:y∈rchL n (lkF cs hs sm) [x]
   ·exact .inl (e.trans (zcc xs (yO.mp c).2))
   ·exact .inr ⟨y,ζm.mpr ⟨hy,by rw[decide_eq_false c]; rfl⟩,e⟩
theorem zeq{ns:AE}(h:∀x∈ns,0≤x):zl (ns.map Int.toNat)=ns:=by
 unfold zl;rw[ζA];refine(ζn λx hx=>?_).trans (List.map_id _);exact ζ0 (h x hx)
theorem ShOk.ix{n:Nat}{cs:AI}(h:ShOk n cs){k:Int}(hk:0≤k∧k < n):atI (cs.map nl) k=some (il (zl (cs.getD k.toNat []))):=by
 have g:cs[k.toNat]?=some (cs.getD k.toNat []):=zo (by rw[h.l]; omega);have z:=yz (g:=nl) g;rw[ζ0 hk.1,yR]at z;exact z
theorem Vl{k:Int}{ns:AE}{x:Int}(h:x∈rm k ns):x∈ns:=by
 rcases ζu.mp h with h | h
 ·exact ξh h
 ·exact List.mem_of_mem_drop h
theorem Vm{k:Int}{ns:AE}(h:k∈ns):(rm k ns).length + 1=ns.length:=by
 have:=ξv.mpr h;unfold rm;rw[ζg,ζN,ζ5];omega
theorem zbP{k:Int}{ns:AE}(h:k∈ns):ns.Perm (k :: rm k ns):=by
 have hl:=ξv.mpr h;have e:ns=ns.take (ns.idxOf k) ++ k :: ns.drop (ns.idxOf k + 1):=by
  have z:=ζX (ns.idxOf k) ns;rw[ξt hl,List.getElem_idxOf hl]at z;exact z.symm
 unfold rm;exact(List.Perm.of_eq e).trans ξX
theorem QF{k:Int}{ns:AE}:(rm k ns).Sublist ns:=by
 have z:=ζX (ns.idxOf k) ns;have s:(ns.drop (ns.idxOf k + 1)).Sublist (ns.drop (ns.idxOf k)):=by
  rw[←List.drop_drop];exact List.drop_sublist _ _
 have:=List.Sublist.append (List.Sublist.refl (ns.take (ns.idxOf k))) s;rw[z]at this;exact this
def rdP(cs:AI)(ns:AE)(x:Int):Bool:=!((zl (cs.getD x.toNat [])).any λc=>decide (c∈ns))
theorem QK{cs:AI}{ns:AE}{x:Int}(h:rdP cs ns x=false):∃c,c∈zl (cs.getD x.toNat [])∧c∈ns:=by
 unfold rdP at h;rw[Bool.not_eq_false',ξn]at h;obtain⟨c,h1,h2⟩:=h;exact⟨c,h1,of_decide_eq_true h2⟩
theorem zbQ{cs:AI}{ns:AE}{x:Int}(h:rdP cs ns x=true):∀c∈zl (cs.getD x.toNat []),c∉ns:=λc hc hn=>by
 unfold rdP at h;rw[Bool.not_eq_true',List.any_eq_false]at h;exact h c hc (decide_eq_true hn)
def grd(cs:AI):Nat→AE→Option AE
 | 0,_=>some []
 | m + 1,L=>match L.filter (rdP cs L)with
  | []=>none
  | x :: _=>(grd cs m (rm x L)).map (x :: ·)
theorem ZN{cs:AI}{m:Nat}{L r:AE}{x:Int}(h:L.filter (rdP cs L)=x :: r):grd cs (m + 1) L=(grd cs m (rm x L)).map (x :: ·):=by
 conv=>lhs; unfold grd
 rw[h]
theorem UA{cs:AI}{m:Nat}{L:AE}(h:L.filter (rdP cs L)=[]):grd cs (m + 1) L=none:=by
 unfold grd;rw[h]
def rgI(n:Nat):AE:=zl (List.range n)
theorem vO{n:Nat}:(rgI n).length=n:=by unfold rgI zl; rw[List.length_map,List.length_range]
theorem uD{n:Nat}{x:Int}:x∈rgI n↔0≤x∧x < n:=by
 unfold rgI zl;rw[ζp];constructor
 ·rintro⟨i,hi,rfl⟩;have:=ζE.mp hi;omega
 ·rintro⟨h1,h2⟩;exact⟨x.toNat,ζE.mpr ⋯,⋯⟩
theorem Vn{n:Nat}:(rgI n).Pairwise (· < ·):=by
 unfold rgI zl;rw[ξS];exact ξO.imp λh=>by omega
def OrdS(n:Nat)(cs:AI):Prop:=ShOk n cs∧n≤12
def wR(ds:AG)(d:AD):Prop:=∃(n:Nat) (cs:AI) (f:AE),ds=[nls cs]∧OrdS n cs∧grd cs n (rgI n)=some f∧d=il f
theorem zaP{n:Nat}{cs:AI}{ns:AE}{fd:AG}{b3:Option DV}(ok:ShOk n cs)(n12:n≤12)(hl:ns.length≤12)(hn:∀x∈ns,0≤x∧x < n):
  EvE K .fresh true (vX [none,some 2,some 0] (Uy K (tVar 2)) (yJ 0) (tNot (tB (vY (spD K true uJ) [] E0 (zS (tOp (rIxL K) (tVar 2) (tVar 0)) (zS (tVar 1) tNil))))) (tVar 0)) [some (.fz false (nls cs)),some (.ow true fd),some (.ow true (ns.map .int)),b3] (il (ns.filter (rdP cs ns))):=by
 have big:=zI;have eb:zl (ns.map Int.toNat)=ns:=zeq λx hx=>(hn x hx).1;refine EvO.toE (zaJ 2 #[1] #[0] (yx (κ:=true) (is:=[0]) (xs:=ns) false PyData.int PyData.int (rdP cs ns) (λx _ y _ h=>by cases h; exact⟨rfl,rfl⟩) (zK ∅) (by walk_at"cc") rfl #[2] ⋯ ?_) (wF _));intro k hk;have kn:=hn k hk;have rk:=(ok.e _ (ζd (zo (l:=cs) (k:=k.toNat) (d:=[]) (by rw[ok.l]; omega)))).2;refine egn #[0] ⟨tI (et_B (zi (ds:=[il (zl (cs.getD k.toNat [])),il ns]) (d:=.bool ((zl (cs.getD k.toNat [])).any λc=>decide (c∈ns))) (zh (zP (EvE.toL (κ:=false) ∅) ∅ (ok.ix kn)) ∅) ⟨cs.getD k.toNat [],ns.map Int.toNat,by rw[yR (ns.map _),eb,yR],by rw[ζa]; omega,by rw[←eb,T5,eb]⟩)),λ_=>by walk_at"ev"⟩
theorem Wg:zw ["causes","found","left","ready"] ["causes"] (zn (top 7)):={}
theorem WD(F:Fun K "order_of" "order_of" (top 7) f fd)(B:Bs mg)(c_meet:zt P w K mg base CX0 "meet" ["some","others"] 1 (spD K true uJ)):FnOk P w K mg base CX0 2 f fd ["causes"] (spD K true wR):=by
 have sc:=Wg;refine F.ok sc (λvs H Q E h=>zH (λ_ _⟨_,_,_,e,_⟩=>by rw[e];rfl) h) (λcdv A outer s H vs Q E hr h=>?_);obtain⟨Fh,ds,d,le,dp,p,q⟩:=h
 refine⟨_,(ze (pS (i:=1) sc.nd (zR zd))
   (ze (pS (i:=2) sc.nd (pY (XX rfl) B.list (zb (pY TX B.range (zb (pB (zj (K:=K) rfl) B.len (zb (pv 0) zd)) zd)) zd)))
   (ze (wB AC (zF ZF (pB (zj (K:=K) rfl) B.len (zb (pv 2) zd)) zf (zT _)) (ze (yB (i:=3) rfl sc.nd rfl rfl (N:=["k","left","causes"]) (js:=[none,some 2,some 0]) (by walk_at"comp_ok") (zG (K:=K) rfl (pv 2)) (λ_ _ _ _=>(pN (i:=0) (show υN ["k","left","causes"]by decide +kernel))) (λ_ _ _ _=>(yQ (uk (wt (pF c_meet hr (zb (pX (zu (K:=K) rfl) (pv 2) (pv 0)) (zb (pv 1) zd))))))) (λ_ _ _ _=>(pv 0)))
   (ze (yK (zF wD (pB (zj (K:=K) rfl) B.len (zb (pv 3) zd)) zf (zT _)) (zg Zv) zY)
   (ze (yc (yu (K:=K) rfl ζs ζC ζB zV (pv 1) (zb (pX (zu (K:=K) rfl) (pv 3) zf) zd)))
   (zg (yc (yu (K:=K) rfl ζs PySem.F.slot_list_remove PySem.F.type_list_remove Tq (pv 2) (zb (pX (zu (K:=K) rfl) (pv 3) zf) zd))))))))
   (zg (zE (pv 1)))))),?_⟩
 have hN:=sc.n 4;obtain⟨n,cs,f,rfl,⟨ok,n12⟩,hg,rfl⟩:=p;have big:=zI;have cl:=ok.l;walk_at"run";refine exo true (ds:=[]) (yf (ds:=[]) zC #[2]) #[0] ?_;refine exo true (WV (n:=n) (EvE.eq (yg (ds:=cs.map nl) ∅) (by rw[ζa,cl])) ⋯) #[0] ?_;refine yw (λΓ=>∃(b2 b3:Option DV),Γ=[some (.fz false (nls cs)),some (.ow true (f.map .int)),b2,b3]) (wG (λm Γ=>∃(fd ns rs:AE) (b3:Option DV),Γ=[some (.fz false (nls cs)),some (.ow true (fd.map .int)),some (.ow true (ns.map .int)),b3]∧ns.length=m∧fd.length + ns.length=n∧(∀x∈ns,0≤x∧x < n)∧grd cs m ns=some rs∧fd ++ rs=f) n ⟨[],rgI n,f,none,by unfold rgI zl; rw[List.map_map]; rfl,vO,by rw[vO]; exact Nat.zero_add n,λx hx=>uD.mp hx,hg,rfl⟩ ?_) ?_
 ·rintro m Γ' ⟨fd,ns,rs,b3,rfl,hl,fl,hn,hg,hf⟩;refine⟨decide ((0:Int) < ((ns.map PyData.int).length:Nat)),zM (YF (yg (ds:=ns.map PyData.int) ∅) ∅),λc=>?_,λc=>?_⟩
  ·have c:=of_decide_eq_true c;rw[ζa]at c;obtain⟨m,rfl⟩:∃k,m=k + 1:=⟨m - 1,⋯⟩
   refine exs true (zaP ok n12 ⋯ hn) #[0] ?_;cases er:ns.filter (rdP cs ns)with
   | nil=>rw[UA er]at hg; cases hg
   | cons x r =>
    rw[ZN er]at hg;obtain⟨rs',hg',rfl⟩:=ξp.mp hg;have xm:x∈ns:=(ζm.mp (by rw[er]; exact ζf)).1;refine tW (b:=decide ((((x :: r).map PyData.int).length:Int)=0)) (zM (wv (yg (ds:=(x :: r).map PyData.int) ∅) ∅)) (decide_eq_false (by rw[ζa,ζY]; omega)) ?_;have a0:atI ((x :: r).map PyData.int) 0=some (.int x):=atI0;refine exa (d:=.int x) #[1] (zP ∅ ∅ a0) #[0] (by rw[ζa]; omega) ?_;refine exrm (ns:=ns) (k:=x) #[1] (zP ∅ ∅ a0) xm #[0] ?_;have rl:=Vm xm;refine⟨m,⋯,fd ++ [x],rm x ns,rs',_,by rw[ζv]; rfl,⋯,by rw[ζg]; show fd.length + 1 + _=n; omega,λy hy=>hn y (Vl hy),hg',by rw[ξI]; exact hf⟩
  ·have c:=of_decide_eq_false c;rw[ζa]at c;obtain rfl:m=0:=by omega
   obtain rfl:rs=[]:=(ζr hg).symm;rw[ζ1]at hf;exact⟨_,_,by rw[hf]⟩
 ·rintro Γ' ⟨b2,b3,rfl⟩;refine exfz 1 #[1] #[0] ?_;exact zO true ∅ rfl (.inl ⟨rfl,rfl⟩)
open Rq (rp Bq Cq S1 Sq Sl Qs QsOk qX)
abbrev qD(ss:AE)(s:Qs):AD:=v5 s.ks (qX ss s)
theorem ZU{n:Nat}{q:Rat}(h:Bq n q):Shr n (rp q).1 (rp q).2∧1≤(rp q).1:=⟨⟨Rq.vk q,h.bits.2.1,h.bits.2.2⟩,h.bits.1⟩
theorem Xk{ss:AE}{s:Qs}(h:QsOk ss s):s.ks.length≤ss.length:=by
 have p:s.ks.Perm ((List.range ss.length).filter λj=>decide (j∈s.ks)):=by
  rw[ξa h.nd (List.nodup_range.sublist ζx)];intro a;rw[ζm,ζE,decide_eq_true_eq];exact⟨λz=>⟨h.k a z,z⟩,λz=>z.2⟩
 rw[p.length_eq];have:=ζV (λj=>decide (j∈s.ks)) (List.range ss.length)
 rwa [ζz]at this
theorem q_sz{ss:AE}{s:Qs}(s7:S7 ss)(h:QsOk ss s):SzOk ss s.ks:=tM s7 h.k (by have:=Xk h; have:=s7.n; omega)
theorem q_xl{ss:AE}{s:Qs}(s7:S7 ss)(h:QsOk ss s):((qX ss s).length:Int)=prod (pk ss s.ks):=by
 have sz:=q_sz s7 h;have:=vo (ss:=pk ss s.ks) λx hx=>by have:=sz.pk x hx; omega
 rw[Rq.Vp];omega
theorem q_o{ss:AE}{s:Qs}{nb:Nat}(s7:S7 ss)(h:QsOk ss s)(hb:∀a,Bq nb (s.f a)):ShO nb ss s.ks (qX ss s):=⟨h.k,by have:=Xk h; have:=s7.n; omega,q_xl s7 h,λx hx=>by
 obtain⟨w,_,rfl⟩:=ζp.mp hx;exact ZU (hb _)⟩
theorem q_k{ss:AE}{s:Qs}(s7:S7 ss)(h:QsOk ss s)(hb:∀a,Bq 8900 (s.f a)):ShK ss s.ks (qX ss s):=by
 have l:=Xk h;have n5:=s7.n;have sz:=q_sz s7 h;exact⟨s7.s,h.k,h.nd,⋯,sz.p,q_xl s7 h,λx hx=>by
  obtain⟨w,_,rfl⟩:=ζp.mp hx;exact(ZU (hb _)).1,⋯⟩
theorem Ub{ss:AE}{u:Qs}{U:AF}{w:AE}(sz:SzOk ss U)(nd:U.Nodup)(hw:w∈wds (pk ss U))(hu:QsOk ss u)(hs:∀k∈u.ks,k∈U):atX ss u.ks (qX ss u) U w=rp (u.f (El.asg U w)):=by
 unfold atX mOf wPk;rw[ζn (g:=El.asg U w) λk hk=>(El.w8 _ w k (hs k hk)).symm];exact Rq.zcV hu λj hj=>by
  rw[El.w8 _ w j (hs j hj)];have V:=v_at sz nd hw (hs j hj);exact⟨V.2.1,V.2.2.1⟩
theorem Tb{ss:AE}{s t:Qs}(s7:S7 ss)(h1:QsOk ss s)(h2:QsOk ss t):joX ss s.ks (qX ss s) t.ks (qX ss t) (El.unF ss.length s.ks t.ks)=qX ss (Rq.join ss.length s t):=by
 show List.map _ (wds (pk ss (El.unF ss.length s.ks t.ks)))=List.map _ (wds (pk ss (El.unF ss.length s.ks t.ks)));refine ζn λw hw=>?_;have sz:=zcJ s7 s.ks t.ks;have nd:=El.Qc ss.length s.ks t.ks;rw[Ub sz nd hw h1 λk hk=>El.xP.mpr ⟨h1.k k hk,.inl hk⟩,Ub sz nd hw h2 λk hk=>El.xP.mpr ⟨h2.k k hk,.inr hk⟩];exact Rq.zcK _ _
theorem Yn{ss:AE}{s:Qs}{k:Nat}(s7:S7 ss)(h:QsOk ss s):((wds (pk ss (El.oth s.ks k))).map λw=>tot (col ss s.ks (qX ss s) k w))=qX ss (Rq.lout ss s k):=by
 show List.map _ _=List.map _ (wds (pk ss (El.oth s.ks k)));refine ζn λw hw=>?_;show tot ((rng (ss.getD k 0).toNat).map λv=>(qX ss s).getD (rkF (pk ss s.ks) (mr k w v s.ks 0)).toNat (0,1))=rp ((El.vr ss k).map λv=>s.f (El.upd (El.asg (El.oth s.ks k) w) k v)).sum;rw[←Rq.zdd];congr 1;refine ζn λv hv=>?_;have ond:(El.oth s.ks k).Nodup:=h.nd.sublist ζx;have osz:SzOk ss (El.oth s.ks k):=tM s7 (λx hx=>h.k x (El.xB.mp hx).1) (by have:=List.length_filter_le (λx=>decide (x≠k)) s.ks; have:=Xk h; have:=s7.n; unfold El.oth; omega);have em:mr k w v s.ks 0=s.ks.map (El.upd (El.asg (El.oth s.ks k) w) k v):=by
  rw[VC s.ks 0 h.nd];refine ζn λj hj=>?_;by_cases e:j=k
  ·rw[if_pos e,e,El.zk]
  ·rw[if_neg e,El.zr e,El.w8 _ w j (El.xB.mpr ⟨hj,e⟩),Nat.zero_add]
 rw[em];refine Rq.zcV h λj hj=>?_;by_cases e:j=k
 ·rw[e,El.zk];unfold rng at hv;obtain⟨i,hi,rfl⟩:=ζp.mp hv;have:=ζE.mp hi;omega
 ·rw[El.zr e,El.w8 _ w j (El.xB.mpr ⟨hj,e⟩)];have V:=v_at osz ond hw (El.xB.mpr ⟨hj,e⟩);exact⟨V.2.1,V.2.2.1⟩
theorem zeL(ss:AE):PyData.tuple [.list [],.list [.tuple [.int 1,.int 1]]]=qD ss Rq.one:=rfl
def tS(ds:AG)(d:AD):Prop:=∃(ss:AE) (s t:Qs),ds=[il ss,qD ss s,qD ss t]∧S7 ss∧QsOk ss s∧QsOk ss t∧(∀k∈t.ks,k∈s.ks)∧(∀a,Bq 8900 (s.f a))∧(∀a,Bq 8900 (t.f a))∧d=qD ss (Rq.dvd s t)
theorem Vj:zw ["sizes","one","other","found","part","view"] ["sizes","one","other"] (zn (top 41)):={}
theorem Vy(F:Fun K "divided" "divided" (top 41) f fd)(B:Bs mg)(c_views_of:zt P w K mg base CX0 "views_of" ["sizes","view","things"] 4 (spD K true xk))(c_over:zt P w K mg base CX0 "over" ["one","other"] 3 (spD K true Wz))(c_share_at:zt P w K mg base CX0 "share_at" ["sizes","sheet","view"] 2 (spD K true xo)):FnOk P w K mg base CX0 5 f fd ["sizes","one","other"] (spD K false tS):=by
 have sc:=Vj;refine F.ok sc (λvs H Q E h=>zH (λ_ _⟨_,_,_,e,_⟩=>by rw[e];rfl) h) (λcdv A outer s H vs Q E hr h=>?_);obtain⟨Fh,ds,d,le,dp,p,q⟩:=h
 refine⟨_,(ze (pS (i:=3) sc.nd (zR zd))
   (ze (zU AC rfl (wc (K:=K) rfl rfl B.zip (zb (pX (zB (K:=K) rfl) (pv 1) zf) (zb (pF c_views_of hr (zb (pv 0) (zb (zm ZE (zR (zb tu zd)) (pB (zj (K:=K) rfl) B.len (zb (pv 0) zd))) (zb (pX (zB (K:=K) rfl) (pv 1) zf) zd)))) zd))) (xK (K:=K) (n:=2) rfl rfl (yd (pN (i:=4) sc.nd) (yd (pN (i:=5) sc.nd) xJ))) (zg (yc (yu (K:=K) rfl ζs ζC ζB zV (pv 3) (zb (pF c_over hr (zb (pv 4) (zb (pF c_share_at hr (zb (pv 0) (zb (pv 2) (zb (pv 5) zd)))) zd))) zd)))))
   (zg (zE (yH (zb (pX (zB (K:=K) rfl) (pv 1) zf) (zb (pv 3) zd))))))),?_⟩
 have hN:=sc.n 6;obtain⟨ss,s,t,rfl,s7,h1,h2,hs,b1,b2,rfl⟩:=p;have big:=zI;have n7:=s7.n;have sz:=q_sz s7 h1;have sp:=sz.p;have sz2:=q_sz s7 h2;walk_at"run";refine exo true (yf (ds:=[]) zC #[2]) #[0] ?_;refine yv (ds:=List.zipWith (λx y=>.tuple [x,y]) ((qX ss s).map shD) ((wds (pk ss s.ks)).map λw=>vl (vOf ss.length s.ks w))) false (λi Γ=>∃x y,Γ=[some (.fz false (il ss)),some (.fz false (qD ss s)),some (.fz false (qD ss t)),some (.ow true (((wds (pk ss s.ks)).take i).map λw=>shD (rp (s.f (El.asg s.ks w) / t.f (El.asg s.ks w))))),x,y]) (vG (zh (xb (κ:=false) ∅ ∅ atI1) (zh (zi (zh ∅ (zh (EvO.toE (wX (k:=(ss.length:Int)) ∅ (EvE.eq ∅ (by rw[ζa])) ⋯ ⋯ (by show 1 * _≤_; omega))) (zh (xb (κ:=false) ∅ ∅ atI0) zC))) ⟨ss,List.replicate ss.length none,s.ks,by rw[ζG,vn],sz,ζT ..,rfl⟩) zC))) ⟨none,none,by rw[ζK]; rfl⟩ ?_ ?_
 ·rintro i d Γ' hd ⟨x,y,rfl⟩;obtain⟨z,w,hz',hw',rfl⟩:=ZO hd;have hw:=ζd hw';have hi:=(ζh.mp hw').1;rw[yL]at hi;have ez:z=rp (s.f (El.asg s.ks w)):=by
   unfold Rq.qX at hz';rw[ζo,hw']at hz';exact(ζr hz').symm
  subst ez;have A:=Ub sz h1.nd hw h2 hs;have M2:=m_ok sz h1.nd hw (q_o s7 h2 b2) hs;have V2:=YS sz h1.nd hw hs;have ne2:∀k∈t.ks,(vOf ss.length s.ks w).getD k none≠none:=λk hk=>by rw[ζb,(v_at sz h1.nd hw (hs k hk)).1]; exact λz=>by cases z
  have A1:=ZU (b1 (El.asg s.ks w));have A2:=ZU (b2 (El.asg s.ks w));refine⟨_,egt #[0] #[0] ?_⟩
  refine exa1 (d:=shD (rp (s.f (El.asg s.ks w) / t.f (El.asg s.ks w)))) #[1] (zi (zh ∅ (zh (EvE.eq (zi ∅ ⟨ss,t.ks,qX ss t,vOf ss.length s.ks w,mOf ss t.ks s.ks w,rfl,sz2,V3 _ _ _,ne2,by rw[V2]; exact M2.1,M2.2,rfl⟩) (congrArg shD (show(qX ss t).getD _ _=_ from A))) zC)) ⟨rp (s.f (El.asg s.ks w)),rp (t.f (El.asg s.ks w)),rfl,A1.1.up #[2],A1.2,A2.1.up #[2],A2.2,?_⟩) #[0] ?_ ?_
  ·have e:=Rq.zdk (b2 (El.asg s.ks w)).bits.1;have e1:(rp (t.f (El.asg s.ks w))).2=(rp (t.f (El.asg s.ks w))⁻¹).1:=congrArg Prod.fst e;have e2:(rp (t.f (El.asg s.ks w))).1=(rp (t.f (El.asg s.ks w))⁻¹).2:=congrArg Prod.snd e;rw[e1,e2,Rq.zcK,Rat.div_def]
  ·rw[ζa,ζN,yL];omega
  ·refine⟨some (.fz false (shD (rp (s.f (El.asg s.ks w))))),some (.fz false (vl (vOf ss.length s.ks w))),?_⟩
   rw[take_succ hw',ζv];rfl
 ·rintro Γ' ⟨x,y,rfl⟩;refine exfz 3 #[1] #[0] ?_;refine zO false ∅ ?_ (.inr rfl);rw[ξL,ζa,ζa,Rq.Vp,yL,Nat.min_self,ζI (by rw[yL]; exact ζl _)];show PyData.tuple [_,_]=.tuple [_,.list _];unfold Rq.qX;rw[ζA];rfl
def stp(ss:AE)(cl:AF)(st:Qs×Qs)(k:Nat):Qs×Qs:=(if k∈cl then Rq.join ss.length st.1 (Rq.dvd st.2 (Rq.lout ss st.2 k))else st.1,Rq.lout ss st.2 k)
def runC(ss:AE)(cl:AF)(s:Qs)(l:AF):Qs×Qs:=l.foldl (stp ss cl) (Rq.one,s)
theorem xN(ss:AE)(cl:AF)(s:Qs)(l:AF)(k:Nat):runC ss cl s (l ++ [k])=stp ss cl (runC ss cl s l) k:=by
 unfold runC;rw[ξq];rfl
structure CBt(ss:AE)(s:Qs)(l:AF)(R:Nat):Prop where
 b:∀i,i≤l.length→∀a,Bq 8900 (Sl ss (l.take i) s.f a)
 r:∀i,i < l.length→∀a,Bq R (Sl ss (l.take i) s.f a / Sl ss (l.take (i + 1)) s.f a)
theorem xR(ss:AE)(cl:AF)(s:Qs):∀l:AF,(runC ss cl s l).2.f=Sl ss l s.f∧(runC ss cl s l).2.ks=s.ks.filter λk=>!decide (k∈l):=by
 have key:∀(n:Nat) (l:AF),l.length=n→(runC ss cl s l).2.f=Sl ss l s.f∧(runC ss cl s l).2.ks=s.ks.filter λk=>!decide (k∈l):=by
  intro n;induction n with
  | zero =>
   intro l h;have:l=[]:=ζZ h;subst this;exact⟨rfl,(List.filter_eq_self.mpr λk _=>rfl).symm⟩
  | succ n ih =>
   intro l h;obtain⟨t,k,rfl⟩:∃t s,l=t ++ [s]:=⟨l.dropLast,l.getLast (by intro e; rw[e]at h; cases h),(ξf _).symm⟩
   have hl:t.length=n:=by rw[List.length_append]at h; simpa using h
   obtain⟨i1,i2⟩:=ih t hl;rw[xN];refine⟨?_,?_⟩
   ·show S1 ss k (runC ss cl s t).2.f=_;rw[i1];unfold Rq.Sl;rw[ξq];rfl
   ·show El.oth (runC ss cl s t).2.ks k=_;rw[i2];unfold El.oth;rw[List.filter_filter];refine ξ6 λx _=>?_;by_cases h1:x=k
    ·subst h1;simp
    ·simp[h1]
 exact λl=>key l.length l rfl
structure CSo(ss:AE)(s:Qs)(l:AF)(cl:AF)(R:Nat):Prop where
 s7:S7 ss
 ok:QsOk ss s
 nd:l.Nodup
 sub:∀k∈l,k∈s.ks
 bt:CBt ss s l R
 j:R * (cl.length - 1) + 1≤9000
 r4:R≤40000
def cnt(cl l:AF):Nat:=(l.filter λk=>decide (k∈cl)).length
theorem W0(cl l:AF)(k:Nat):cnt cl (l ++ [k])=cnt cl l + if k∈cl then 1 else 0:=by
 unfold cnt;rw[ζ2,ζg];congr 1;by_cases h:k∈cl <;> simp[h]
theorem uy{l cl:AF}(nd:l.Nodup)(h:∀x∈l,x∈cl):l.length≤cl.length:=by
 induction l generalizing cl with
 | nil=>exact ξj _
 | cons x r ih =>
  have⟨n1,n2⟩:=ζ3.mp nd;have xm:=h x ζf;have:=ih (cl:=cl.erase x) n2 λy hy=>(List.mem_erase_of_ne (λ(e:y=x)=>n1 (by rw[←e]; exact hy))).mpr (h y (ζk _ hy));have e:=List.length_erase_of_mem xm;have:0 < cl.length:=List.length_pos_of_mem xm;show r.length + 1≤_;omega
theorem zek{cl l:AF}(nd:l.Nodup):cnt cl l≤cl.length:=uy (nd.sublist ζx) λx hx=>of_decide_eq_true (ζm.mp hx).2
structure CSi(ss:AE)(s:Qs)(l cl:AF)(R i:Nat):Prop where
 o1:QsOk ss (runC ss cl s (l.take i)).1
 o2:QsOk ss (runC ss cl s (l.take i)).2
 b1:∀a,Bq (R * cnt cl (l.take i) + 1) ((runC ss cl s (l.take i)).1.f a)
theorem CSi.zero{ss:AE}{s:Qs}{l cl:AF}{R:Nat}(h:QsOk ss s):CSi ss s l cl R 0:=by
 refine⟨?_,?_,?_⟩
 ·rw[ζK]; exact Rq.Vw ss
 ·rw[ζK]; exact h
 ·rw[ζK];intro a;exact Bq.one.up ⋯
theorem CSi.next{ss:AE}{s:Qs}{l cl:AF}{R i k:Nat}(h:CSo ss s l cl R)(hi:l[i]?=some k)(c:CSi ss s l cl R i):CSi ss s l cl R (i + 1):=by
 have il:=(ζh.mp hi).1;have e:=xN ss cl s (l.take i) k;rw[←take_succ hi]at e;have ec:=W0 cl (l.take i) k;rw[←take_succ hi]at ec;have lo:=Rq.XC c.o2 k;refine⟨?_,?_,λa=>?_⟩
 ·rw[e];unfold stp;split
  ·exact Rq.zcf c.o1 (Rq.za0 c.o2 lo λj hj=>(El.xB.mp hj).1)
  ·exact c.o1
 ·rw[e];exact lo
 ·rw[e,ec];unfold stp;by_cases hk:k∈cl
  ·rw[if_pos hk,if_pos hk];show Bq _ ((runC ss cl s (l.take i)).1.f a * ((runC ss cl s (l.take i)).2.f a / S1 ss k (runC ss cl s (l.take i)).2.f a));have s1:=(xR ss cl s (l.take i)).1;have s2:=(xR ss cl s (l.take (i + 1))).1;rw[e]at s2;have s2:S1 ss k (runC ss cl s (l.take i)).2.f=_:=s2;rw[s2,s1];refine((c.b1 a).mul (h.bt.r i il a)).up ?_;rw[Nat.mul_add];omega
  ·rw[if_neg hk,if_neg hk];exact c.b1 a
def vd(ds:AG)(d:AD):Prop:=∃(ss:AE) (s:Qs) (od cl:AF) (R:Nat),ds=[il ss,qD ss s,nl od,nl cl]∧CSo ss s od.reverse cl R∧d=qD ss (runC ss cl s od.reverse).1
theorem Zq:zw ["sizes","sheet","ordered","clump","found","later_summed","k","itself_too"] ["sizes","sheet","ordered","clump"] (zn (top 40)):={}
theorem ZH(F:Fun K "clump_sheet" "clump_sheet" (top 40) f fd)(B:Bs mg)(c_left_out:zt P w K mg base CX0 "left_out" ["sizes","sheet","k"] 6 (spD K true xH))(c_joined:zt P w K mg base CX0 "joined" ["sizes","one","other"] 5 (spD K true Zy))(c_divided:zt P w K mg base CX0 "divided" ["sizes","one","other"] 5 (spD K false tS)):FnOk P w K mg base CX0 7 f fd ["sizes","sheet","ordered","clump"] (spD K true vd):=by
 have sc:=Zq;refine F.ok sc (λvs H Q E h=>zH (λ_ _⟨_,_,_,_,_,e,_⟩=>by rw[e];rfl) h) (λcdv A outer s H vs Q E hr h=>?_);obtain⟨Fh,ds,d,le,dp,p,q⟩:=h
 refine⟨_,(ze (pS (i:=4) sc.nd (yH (zb (zR zd) (zb (zR (zb (yH (zb zf (zb zf zd))) zd)) zd))))
   (ze (pS (i:=5) sc.nd (pv 1))
   (ze (zU AC rfl (zbU (K:=K) rfl rfl B.reversed (zb (pv 2) zd)) (pN (i:=6) sc.nd) (ze (pS (i:=7) sc.nd (pF c_left_out hr (zb (pv 0) (zb (pv 5) (zb (pv 6) zd)))))
   (ze (yK (zF (yV (K:=K) rfl) (pv 6) (pv 3) (rfl)) (zg (pS (i:=4) sc.nd (pF c_joined hr (zb (pv 0) (zb (pv 4) (zb (pF c_divided hr (zb (pv 0) (zb (pv 5) (zb (pv 7) zd)))) zd)))))) zY)
   (zg (pS (i:=5) sc.nd (pv 7))))))
   (zg (zE (pv 4)))))),?_⟩
 have hN:=sc.n 8;obtain⟨ss,s,od,cl,R,rfl,ok,rfl⟩:=p;have s7:=ok.s7;walk_at"run";refine exs true (d:=qD ss Rq.one) (EvE.eq (a:=.tuple [.list [],.list [.tuple [.int 1,.int 1]]]) ∅ (zeL ss)) #[0] ?_;refine exs false ∅ #[0] ?_;refine yv (ds:=(od.map λk:Nat=>PyData.int (k:Int)).reverse) false (λi Γ=>∃x y,Γ=[some (.fz false (il ss)),some (.fz false (qD ss s)),some (.fz false (nl od)),some (.fz false (nl cl)),some (.fz true (qD ss (runC ss cl s (od.reverse.take i)).1)),some (.fz false (qD ss (runC ss cl s (od.reverse.take i)).2)),x,y]∧CSi ss s od.reverse cl R i) (zef ∅) ⟨none,none,by rw[ζK]; rfl,.zero ok.ok⟩ ?_ ?_
 ·rintro i d Γ' hd ⟨x,y,rfl,c⟩;rw[←List.map_reverse]at hd;obtain⟨k,hk,rfl⟩:=yk hd;have il':=(ζh.mp hk).1;have e:=xN ss cl s (od.reverse.take i) k;rw[←take_succ hk]at e;have km:=ζd hk;have nx:=c.next ok hk;have lo:=Rq.XC c.o2 k;have r2:=xR ss cl s (od.reverse.take i);have r3:=xR ss cl s (od.reverse.take (i + 1));have B2:∀a,Bq 8900 ((runC ss cl s (od.reverse.take i)).2.f a):=λa=>by rw[r2.1]; exact ok.bt.b i ⋯ a
  have B3:∀a,Bq 8900 ((Rq.lout ss (runC ss cl s (od.reverse.take i)).2 k).f a):=λa=>by
   have:=ok.bt.b (i + 1) ⋯ a;rw[←r3.1,e]at this;exact this
  have kn:k∉od.reverse.take i:=λz=>by
   have nd:=ok.nd;rw[←ζX i od.reverse]at nd;refine(ζW.mp nd).2.2 k z k ?_ rfl;rw[ξt il',(ζh.mp hk).2];exact ζf
  have kk:k∈(runC ss cl s (od.reverse.take i)).2.ks:=by
   rw[r2.2];exact ζm.mpr ⟨ok.sub k km,by rw[decide_eq_false kn]; rfl⟩
  refine⟨_,egn #[0] ?_⟩
  refine exs true (d:=qD ss (Rq.lout ss (runC ss cl s (od.reverse.take i)).2 k)) (EvE.eq (zi ∅ ⟨ss,_,_,k,rfl,q_k s7 c.o2 B2,kk,rfl⟩) (by rw[Yn s7 c.o2]; rfl)) #[0] ?_;refine exif (b:=decide (k∈cl)) (·=[some (.fz false (il ss)),some (.fz false (qD ss s)),some (.fz false (nl od)),some (.fz false (nl cl)),some (.fz true (qD ss (runC ss cl s (od.reverse.take (i + 1))).1)),some (.fz false (qD ss (runC ss cl s (od.reverse.take i)).2)),some (.fz false (.int k)),some (.fz true (qD ss (Rq.lout ss (runC ss cl s (od.reverse.take i)).2 k)))]) (EvT.eq (zM (xt (neg:=false) (i:=(k:Int)) (ns:=zl cl) ∅ (EvE.toL (κ:=false) (EvE.eq ∅ (yR cl))))) (by rw[←xq]; rfl)) (λh=>?_) (λh=>?_) ?_
  ·have hc:k∈cl:=of_decide_eq_true h;have dv:=Rq.za0 c.o2 lo λj hj=>(El.xB.mp hj).1;have cs:=W0 cl (od.reverse.take i) k;rw[←take_succ hk,if_pos hc]at cs;have cle:=zek (cl:=cl) (l:=od.reverse.take (i + 1)) (ok.nd.sublist (ξ4 _ _));have bj:R * cnt cl (od.reverse.take i) + 1≤9000:=by
    have:=Nat.mul_le_mul_left R (show cnt cl (od.reverse.take i)≤cl.length - 1 by omega);have:=ok.j;omega
   have D:∀a,Bq 40000 ((Rq.dvd (runC ss cl s (od.reverse.take i)).2 (Rq.lout ss (runC ss cl s (od.reverse.take i)).2 k)).f a):=λa=>by
    have:=ok.bt.r i il' a;rw[←r2.1,←r3.1,e]at this;exact Bq.up this ok.r4
   refine exs1 true (EvE.eq (zi (zh ∅ (zh ∅ (zh (uV ∅ ⟨ss,_,_,rfl,s7,c.o2,lo,λj hj=>(El.xB.mp hj).1,B2,B3,rfl⟩) zC))) ⟨ss,_,_,_,_,_,rfl,s7,q_o s7 c.o1 λa=>(c.b1 a).up bj,q_o s7 dv D,rfl,rfl⟩) ?_) #[0] rfl;rw[Tb s7 c.o1 dv,e];unfold stp;rw[if_pos hc];rfl
  ·have hc:k∉cl:=of_decide_eq_false h;refine yl ?_;rw[e];unfold stp;rw[if_neg hc]
  rintro Γ' rfl;refine exs1 false ∅ #[0] ?_;show∃x y,_=_∧_;rw[show(runC ss cl s (od.reverse.take (i + 1))).2=Rq.lout ss (runC ss cl s (od.reverse.take i)).2 k by rw[e]; rfl];exact⟨_,_,rfl,nx⟩
 ·rintro Γ' ⟨x,y,rfl,c⟩;rw[ξM,ζa,ζI (by rw[ξM]; exact ζl _)];exact zO true ∅ rfl (.inl ⟨rfl,rfl⟩)
def wC(ds:AG)(d:AD):Prop:=∃xs:AM,ds=[shs xs]∧xs.length≤100000∧(∀x∈xs,1≤x.1)∧d=.none
theorem zbC{x y:Int×Int}(h:shD x=shD y):x=y:=by
 injection h with h;injection h with h1 h;injection h with h2 _;injection h1 with h1;injection h2 with h2;exact Prod.ext h1 h2
theorem tZ:zw ["shares"] ["shares"] (zn (top 38)):={}
theorem t4(F:Fun K "check_shares" "check_shares" (top 38) f fd)(B:Bs mg): FnOk P w K mg base CX0 1 f fd ["shares"] (spD K true wC):=by
 have sc:=tZ;refine F.ok sc (λvs H Q E h=>zH (λ_ _⟨_,e,_⟩=>by rw[e];rfl) h) (λcdv A outer s H vs Q E hr h=>?_);obtain⟨Fh,ds,d,le,dp,p,q⟩:=h;refine⟨_,(zg (yK (wt (pB (T2 (K:=K) rfl rfl) B.any (zb (yE rfl (N:=["part"]) (js:=[none]) (by walk_at"comp_ok") (zG (K:=K) rfl (pv 0)) (λ_ _ _ _=>(pN (i:=0) (show υN ["part"]by decide +kernel))) (λ_ _ _ _=>xf) (λ_ _ _ _=>(wf zeK (pX (zB (K:=K) rfl) (pv 0) zf) zf (zT _)))) zd))) (zg Zv) zY)),?_⟩
 have hN:=sc.n 1;obtain⟨xs,rfl,hl,h1,rfl⟩:=p;have big:=zI;walk_at"run";refine tW (b:=(xs.map λx=>decide (x.1≤0)).any λb=>b) (et_B (zeb (bs:=xs.map λx=>decide (x.1≤0)) (EvO.toL (EvO.eq (wH (κ:=false) (is:=[0]) (xs:=xs) false shD (λx=>.bool (decide (x.1≤0))) (λx _ y _ h=>by rw[zbC h]) (zK ∅) (by walk_at"cc") rfl #[2] ⋯ ?_) (by rw[ζA]; rfl))))) ?_ ?_
 ·intro x hx;refine egn #[0] ?_;walk_at"ev"
 ·rw[List.any_map,List.any_eq_false];intro x hx;have:=h1 x hx;simp;omega
 ·exact yl rfl
def odF(f:AE)(ah:AF):AF:=(f.map Int.toNat).filter λk=>decide (k∈ah)
noncomputable def wkQ(n:Nat)(cs:AI)(hs:AF)(f:AE)(ss:AE)(s:Qs)(ah pt:AF):Qs :=
 if pt∈clF n (lkF cs hs ah) ah.length ah then(runC ss pt s (odF f ah).reverse).1 else(ah.filter λk=>!decide (k∈pt)).foldl (Rq.lout ss) s
structure WSo(n:Nat)(cs:AI)(hs:AF)(f:AE)(ss:AE)(s:Qs)(ah pt:AF):Prop where
 s7:S7 ss
 ok:QsOk ss s
 sh:ShOk n cs
 n12:n≤12
 od:grd cs n (rgI n)=some f
 nn:∀x∈f,0≤x
 lt:∀x∈ah,x < n
 al:ah.length≤12
 nd:ah.Nodup
 fl:f.length≤12
 sub:∀k∈ah,k∈s.ks
 c:pt∈clF n (lkF cs hs ah) ah.length ah→∃R,CSo ss s (odF f ah).reverse pt R
 l:pt∉clF n (lkF cs hs ah) ah.length ah→∀i,i < (ah.filter λk=>!decide (k∈pt)).length→∀a,Bq 8900 (Sl ss ((ah.filter λk=>!decide (k∈pt)).take i) s.f a)
theorem tF(ss:AE):∀(l:AF) (s:Qs),QsOk ss s→QsOk ss (l.foldl (Rq.lout ss) s)∧(l.foldl (Rq.lout ss) s).f=Sl ss l s.f∧∀k,k∈(l.foldl (Rq.lout ss) s).ks↔k∈s.ks∧k∉l
 | [],s,h=>⟨h,rfl,λk=>⟨λz=>⟨z,λy=>by cases y⟩,λz=>z.1⟩⟩
 | x :: r,s,h=>by
  obtain⟨h1,h2,h3⟩:=tF ss r (Rq.lout ss s x) (Rq.XC h x);refine⟨h1,h2,λk=>?_⟩
  show k∈(r.foldl (Rq.lout ss) (Rq.lout ss s x)).ks↔_;rw[h3 k];show k∈El.oth s.ks x∧_↔_;rw[El.xB,ζw];constructor
  ·rintro⟨⟨z1,z2⟩,z3⟩;exact⟨z1,λz=>z.elim z2 z3⟩
  ·rintro⟨z1,z2⟩;exact⟨⟨z1,λz=>z2 (.inl z)⟩,λz=>z2 (.inr z)⟩
theorem Ul{ah pt:AF}(i:Nat):((ah.take (i + 1)).filter λk=>!decide (k∈pt))=((ah.take i).filter λk=>!decide (k∈pt)) ++ ((ah[i]?).toList.filter λk=>!decide (k∈pt)):=by
 rw[List.take_add_one,ζ2]
theorem WU{ah:AF}(p:Nat→Bool)(i:Nat):(ah.take i).filter p=(ah.filter p).take ((ah.take i).filter p).length:=by
 have e:=congrArg (List.filter p) (ζX i ah);rw[ζ2]at e;rw[←e,List.take_left]
def v7(ds:AG)(d:AD):Prop:=∃(n:Nat) (cs:AI) (hs:AF) (f:AE) (ss:AE) (s:Qs) (ah pt:AF),ds=[il ss,nls cs,nl hs,qD ss s,nl ah,nl pt]∧WSo n cs hs f ss s ah pt∧d=qD ss (wkQ n cs hs f ss s ah pt)
theorem Y3:zw ["sizes","causes","hidden","sheet","ahead","part","found","k"] ["sizes","causes","hidden","sheet","ahead","part"] (zn (top 39)):={}
theorem Xq(F:Fun K "worked_on" "worked_on" (top 39) f fd)(B:Bs mg)(c_clumps:zt P w K mg base CX0 "clumps" ["causes","hidden","some"] 5 (spD K true ZA))(c_clump_sheet:zt P w K mg base CX0 "clump_sheet" ["sizes","sheet","ordered","clump"] 7 (spD K true vd))(c_order_of:zt P w K mg base CX0 "order_of" ["causes"] 2 (spD K true wR))(c_left_out:zt P w K mg base CX0 "left_out" ["sizes","sheet","k"] 6 (spD K true xH)):FnOk P w K mg base CX0 8 f fd ["sizes","causes","hidden","sheet","ahead","part"] (spD K false v7):=by
 have sc:=Y3;refine F.ok sc (λvs H Q E h=>zH (λ_ _⟨_,_,_,_,_,_,_,_,e,_⟩=>by rw[e];rfl) h) (λcdv A outer s H vs Q E hr h=>?_);obtain⟨Fh,ds,d,le,dp,p,q⟩:=h
 refine⟨_,(ze (yK (zF (zb0 (K:=K) rfl hr.units) (pv 5) (pF c_clumps hr (zb (pv 1) (zb (pv 2) (zb (pv 4) zd)))) (rfl)) (zg (zE (pF c_clump_sheet hr (zb (pv 0) (zb (pv 3) (zb (yE rfl (N:=["k","ahead"]) (js:=[none,some 4]) (by walk_at"comp_ok") (zG (K:=K) rfl (pF c_order_of hr (zb (pv 1) zd))) (λ_ _ _ _=>(pN (i:=0) (show υN ["k","ahead"]by decide +kernel))) (λ_ _ _ _=>(yQ (zF (yV (K:=K) rfl) (pv 0) (pv 1) (rfl)))) (λ_ _ _ _=>(pv 0))) (zb (pv 5) zd))))))) zY)
   (ze (pS (i:=6) sc.nd (pv 3))
   (ze (zU AC rfl (zG (K:=K) rfl (pv 4)) (pN (i:=7) sc.nd) (zg (yK (zF (yP (K:=K) rfl) (pv 7) (pv 5) (rfl)) (zg (pS (i:=6) sc.nd (pF c_left_out hr (zb (pv 0) (zb (pv 6) (zb (pv 7) zd)))))) zY)))
   (zg (zE (pv 6)))))),?_⟩
 have hN:=sc.n 8;obtain⟨n,cs,hs,f,ss,s,ah,pt,rfl,ok,rfl⟩:=p;have big:=zI;have s7:=ok.s7;have al:=ok.al;have fl:=ok.fl;walk_at"run";refine zaF (b:=decide (pt∈clF n (lkF cs hs ah) ah.length ah)) (zM (EvE.eq (zd7 (neg:=false) (d:=nl pt) (ds:=(clF n (lkF cs hs ah) ah.length ah).map nl) ∅ (EvE.toL (zi ∅ ⟨n,cs,hs,ah,rfl,ok.sh,ok.n12,ok.lt,al,rfl⟩)) (zaj _) (zca _)) (congrArg PyData.bool (zem _ _)))) (λh=>?_) (λh=>?_)
 ·have h':=of_decide_eq_true h;obtain⟨R,co⟩:=ok.c h';unfold wkQ;rw[if_pos h'];have ef:f.map PyData.int=(f.map Int.toNat).map λk:Nat=>PyData.int (k:Int):=by
   rw[ζA];exact ζn λx hx=>congrArg PyData.int (ζ0 (ok.nn x hx)).symm
  refine exrs false (zi (zh ∅ (zh ∅ (zh (EvO.toE (yx (κ:=false) (is:=[0]) (xs:=f.map Int.toNat) false (λk:Nat=>.int (k:Int)) (λk:Nat=>.int (k:Int)) (λk=>decide (k∈ah)) (λx _ y _ h=>by cases wu h; exact⟨rfl,rfl⟩) (zK (EvE.eq (a:=il f) (zi (ds:=[nls cs]) (d:=il f) ∅ (show wR [nls cs] (il f)from⟨n,cs,f,rfl,⟨ok.sh,ok.n12⟩,ok.od,rfl⟩)) (congrArg PyData.list ef))) (by walk_at"cc") rfl #[2] (by rw[ζa]; omega) λk _=>egn #[0] ⟨EvT.eq (zM (xt (neg:=false) (i:=(k:Int)) (ns:=zl ah) ∅ (EvE.toL (κ:=false) (EvE.eq ∅ (yR ah))))) (by rw[←xq]; rfl),λ_=>by walk_at"ev"⟩)) (zh ∅ zC)))) ⟨ss,s,odF f ah,pt,R,rfl,co,rfl⟩) rfl (.inr rfl)
 ·have h':=of_decide_eq_false h;have bl:=ok.l h';refine exn ?_;refine exs false ∅ #[0] ?_;refine yv false (λi Γ=>∃x,Γ=[some (.fz false (il ss)),some (.fz false (nls cs)),some (.fz false (nl hs)),some (.fz false (qD ss s)),some (.fz false (nl ah)),some (.fz false (nl pt)),some (.fz false (qD ss (((ah.take i).filter λk=>!decide (k∈pt)).foldl (Rq.lout ss) s))),x]) (zK ∅) ⟨none,by rw[ζK]; rfl⟩ ?_ ?_
  ·rintro i d Γ' hd ⟨x,rfl⟩;obtain⟨k,hk,rfl⟩:=yk hd;have km:=ζd hk;have il':=(ζh.mp hk).1;refine⟨_,egn #[0] ?_⟩
   refine vE (b:=!decide (k∈pt)) (EvT.eq (zM (xt (neg:=true) (i:=(k:Int)) (ns:=zl pt) ∅ (EvE.toL (κ:=false) (EvE.eq ∅ (yR pt))))) (by rw[←xq]; rfl)) (λh=>?_) (λh=>?_)
   ·obtain⟨h1,h2,h3⟩:=tF ss ((ah.take i).filter λk=>!decide (k∈pt)) s ok.ok;have kn:k∉ah.take i:=λz=>by
     have nd:=ok.nd;rw[←ζX i ah]at nd;refine(ζW.mp nd).2.2 k z k ?_ rfl;rw[ξt il',(ζh.mp hk).2];exact ζf
    have et:=Ul (ah:=ah) (pt:=pt) i;rw[hk]at et;have et:((ah.take (i + 1)).filter λk=>!decide (k∈pt))=((ah.take i).filter λk=>!decide (k∈pt)) ++ [k]:=by
     rw[et];congr 1;show List.filter _ [k]=_;rw[List.filter_cons_of_pos (by simpa using h)];rfl
    have len:((ah.take i).filter λk=>!decide (k∈pt)).length < (ah.filter λk=>!decide (k∈pt)).length:=by
     have:=congrArg List.length (WU (ah:=ah) (λk=>!decide (k∈pt)) (i + 1));rw[et,ζN,ζg]at this;simp only[List.length_singleton]at this;omega
    have B:∀a,Bq 8900 ((((ah.take i).filter λk=>!decide (k∈pt)).foldl (Rq.lout ss) s).f a):=λa=>by
     rw[h2,WU];exact bl _ len a
    refine exs1 false (EvE.eq (zi ∅ ⟨ss,_,_,k,rfl,q_k s7 h1 B,(h3 k).mpr ⟨ok.sub k km,λz=>kn (ζm.mp z).1⟩,rfl⟩) (by rw[Yn s7 h1])) #[0] ?_;show∃x,_;rw[et,ξq];exact⟨_,rfl⟩
   ·refine yl ?_;have et:=Ul (ah:=ah) (pt:=pt) i;rw[hk]at et;show∃x,_;rw[et,show((some k).toList.filter λk=>!decide (k∈pt))=[]from List.filter_cons_of_neg (by rw[h]; exact ζD),ζ1];exact⟨_,rfl⟩
  ·rintro Γ' ⟨x,rfl⟩;refine zO false ∅ ?_ (.inr rfl);unfold wkQ;rw[if_neg h',ζa,ζR]
noncomputable def wkN(n:Nat)(cs:AI)(hs:AF)(f:AE)(ss:AE)(s:Qs)(ls:AI):Nat→Qs
 | 0=>s
 | i + 1=>wkQ n cs hs f ss (wkN n cs hs f ss s ls i) (ls.getD i []) (ls.getD (i + 1) [])
structure WKo(n:Nat)(cs:AI)(hs:AF)(f:AE)(ss:AE)(s:Qs)(ls:AI)(nb:Nat):Prop where
 s7:S7 ss
 sh:ShOk n cs
 n12:n≤12
 sn:ss.length=n
 ll:ls.length≤100
 l0:0 < ls.length
 ks:s.ks=zD n hs
 pos:∀a,0 < (s.f a).num
 w:∀i,i + 1 < ls.length→WSo n cs hs f ss (wkN n cs hs f ss s ls i) (ls.getD i []) (ls.getD (i + 1) [])
 e:QsOk ss (wkN n cs hs f ss s ls (ls.length - 1))
 es:∀k∈(wkN n cs hs f ss s ls (ls.length - 1)).ks,k∈zD n hs
 eb:∀a,Bq nb ((wkN n cs hs f ss s ls (ls.length - 1)).f a)
def um(ds:AG)(d:AD):Prop:=∃(n:Nat) (cs:AI) (hs:AF) (f:AE) (ss:AE) (s:Qs) (ls:AI) (nb:Nat),ds=[il ss,nls cs,nl hs,nls ls,shs (qX ss s)]∧WKo n cs hs f ss s ls nb∧d=shs (qX ss ⟨zD n hs,(wkN n cs hs f ss s ls (ls.length - 1)).f⟩)
theorem zdb{a b:List (Option Int)}(h:vl a=vl b):a=b:=by
 have:=congrArg unV h;rw[YT,YT]at this;exact this
theorem U4:zw ["sizes","causes","hidden","lists","shares","seen","sheet","ahead","part"] ["sizes","causes","hidden","lists","shares"] (zn (top 37)):={}
theorem Tj(F:Fun K "worked" "worked" (top 37) f fd)(B:Bs mg)(c_check_shares:zt P w K mg base CX0 "check_shares" ["shares"] 1 (spD K true wC))(c_seen_things:zt P w K mg base CX0 "seen_things" ["causes","hidden"] 1 (spD K true w9))(c_worked_on:zt P w K mg base CX0 "worked_on" ["sizes","causes","hidden","sheet","ahead","part"] 8 (spD K false v7))(c_views_of:zt P w K mg base CX0 "views_of" ["sizes","view","things"] 4 (spD K true xk))(c_share_at:zt P w K mg base CX0 "share_at" ["sizes","sheet","view"] 2 (spD K true xo)):FnOk P w K mg base CX0 9 f fd ["sizes","causes","hidden","lists","shares"] (spD K true um):=by
 have sc:=U4;refine F.ok sc (λvs H Q E h=>zH (λ_ _⟨_,_,_,_,_,_,_,_,e,_⟩=>by rw[e];rfl) h) (λcdv A outer s H vs Q E hr h=>?_);obtain⟨Fh,ds,d,le,dp,p,q⟩:=h
 refine⟨_,(ze (yc (pF c_check_shares hr (zb (pv 4) zd)))
   (ze (pS (i:=5) sc.nd (pF c_seen_things hr (zb (pv 1) (zb (pv 2) zd))))
   (ze (pS (i:=6) sc.nd (yH (zb (pv 5) (zb (pv 4) zd))))
   (ze (zU AC rfl (wc (K:=K) rfl rfl B.zip (zb (pv 3) (zb (vz (vi (K:=K) rfl) (pv 3) (uL zf) uM) zd))) (xK (K:=K) (n:=2) rfl rfl (yd (pN (i:=7) sc.nd) (yd (pN (i:=8) sc.nd) xJ))) (zg (pS (i:=6) sc.nd (pF c_worked_on hr (zb (pv 0) (zb (pv 1) (zb (pv 2) (zb (pv 6) (zb (pv 7) (zb (pv 8) zd))))))))))
   (zg (zE (yE rfl (N:=["view","sizes","sheet"]) (js:=[none,some 0,some 6]) (by walk_at"comp_ok") (zG (K:=K) rfl (pF c_views_of hr (zb (pv 0) (zb (zm ZE (zR (zb tu zd)) (pB (zj (K:=K) rfl) B.len (zb (pv 0) zd))) (zb (pv 5) zd))))) (λ_ _ _ _=>(pN (i:=0) (show υN ["view","sizes","sheet"]by decide +kernel))) (λ_ _ _ _=>xf) (λ_ _ _ _=>(pF c_share_at hr (zb (pv 1) (zb (pv 2) (zb (pv 0) zd)))))))))))),?_⟩
 have hN:=sc.n 9;obtain⟨n,cs,hs,f,ss,s,ls,nb,rfl,ok,rfl⟩:=p;have big:=zI;have s7:=ok.s7;have n7:=s7.n;have cl:=ok.sh.l;have sn:=ok.sn;have ll:=ok.ll;have l0:=ok.l0;have snd:(zD n hs).Nodup:=List.nodup_range.sublist ζx;have slt:∀k∈zD n hs,k < ss.length:=λk hk=>by rw[sn]; exact ζE.mp (ζm.mp hk).1
 have sll:(zD n hs).length≤7:=by
  have:=ζV (λk=>!decide (k∈hs)) (List.range n);rw[ζz]at this;show((List.range n).filter _).length≤7;omega
 have sz:SzOk ss (zD n hs):=tM s7 slt sll;have sp:=sz.p;have xl:(qX ss s).length≤100000:=by
  rw[Rq.Vp,ok.ks];omega
 walk_at"run";refine zaI (d:=.none) (zi (ds:=[shs (qX ss s)]) ∅ ⟨qX ss s,rfl,xl,λx hx=>?_,rfl⟩) ?_
 ·obtain⟨w,_,rfl⟩:=ζp.mp hx;exact ok.pos _
 refine exs true (d:=nl (zD n hs)) (EvE.eq (zi ∅ ⟨cs,hs,rfl,⋯,rfl⟩) (by rw[cl])) #[0] ?_;refine exs false (d:=qD ss s) (EvE.eq (a:=.tuple [nl (zD n hs),shs (qX ss s)]) ∅ (by rw[←ok.ks])) #[0] ?_;refine yv (ds:=(ls.zip (ls.drop 1)).map λo=>.tuple [nl o.1,nl o.2]) false (λi Γ=>∃x y,Γ=[some (.fz false (il ss)),some (.fz false (nls cs)),some (.fz false (nl hs)),some (.fz false (nls ls)),some (.fz false (shs (qX ss s))),some (.fz true (nl (zD n hs))),some (.fz false (qD ss (wkN n cs hs f ss s ls i))),x,y]) (EvI.eq (vG (xs:=ls.map nl) (ys:=(ls.drop 1).map nl) (zh ∅ (zh (EvO.toE (EvO.eq (xx (ds:=ls.map nl) (lo:=some (1:Int)) (hi:=none) ∅ (Ze ∅) Zf) (show cutD (ls.map nl) (some (1:Int)) none=_ from cutH nl ls 1))) zC))) (VX _ _)) ⟨none,none,rfl⟩ ?_ ?_
 ·rintro i d Γ' hd ⟨x,y,rfl⟩;obtain⟨o,ho,rfl⟩:=yk hd;rw[X0]at ho;obtain⟨hi,eo⟩:=ζh.mp ho;rw[ζa,ζz]at hi;rw[List.getElem_map,ξ3]at eo;subst eo;refine⟨_,egt #[0] #[0] ?_⟩
  refine exs1 false (d:=qD ss (wkN n cs hs f ss s ls (i + 1))) (uV (ds:=[il ss,nls cs,nl hs,qD ss (wkN n cs hs f ss s ls i),nl (ls.getD i []),nl (ls.getD (i + 1) [])]) ∅ ⟨n,cs,hs,f,ss,wkN n cs hs f ss s ls i,ls.getD i [],ls.getD (i + 1) [],rfl,ok.w i ⋯,rfl⟩) #[0] ?_;exact⟨_,_,rfl⟩
 ·rintro Γ' ⟨x,y,rfl⟩;have en:((ls.zip (ls.drop 1)).map λo=>PyData.tuple [nl o.1,nl o.2]).length=ls.length - 1:=by rw[ζa,X0,ζa,ζz]
  rw[en];have eo:=ok.e;have es:=ok.es;have eb:=ok.eb;generalize wkN n cs hs f ss s ls (ls.length - 1)=u at eo es eb;have sz2:=q_sz s7 eo;refine zO true (d:=shs (qX ss ⟨zD n hs,u.f⟩)) (EvO.toE (EvO.eq (wH (κ:=true) (is:=[0]) (xs:=wds (pk ss (zD n hs))) false (λw=>vl (vOf ss.length (zD n hs) w)) (λw=>shD (atX ss u.ks (qX ss u) (zD n hs) w)) (λx hx y hy h=>?_) (zK (zi (ds:=[il ss,vl (List.replicate ss.length none),nl (zD n hs)]) (zh ∅ (zh (EvE.eq (EvO.toE (wX (k:=(ss.length:Int)) ∅ (EvE.eq ∅ (by rw[ζa])) ⋯ ⋯ (by show 1 * _≤_; omega))) (by rw[ζG,vn])) (zh ∅ zC))) ⟨ss,List.replicate ss.length none,zD n hs,rfl,sz,ζT ..,rfl⟩)) (by walk_at"cc") rfl #[2] (by rw[yL]; omega) ?_) ?_)) rfl (.inl ⟨rfl,rfl⟩)
  ·have e:∀w∈wds (pk ss (zD n hs)),w=(zD n hs).map λk=>((vOf ss.length (zD n hs) w).getD k none).getD 0:=λw hw=>by
    refine List.ext_getElem (by rw[ζa]; exact wlen hw) λi h1 h2=>?_;rw[ζa]at h2;have km:(zD n hs)[i]∈zD n hs:=ζ9 h2;rw[List.getElem_map,ζb,(v_at sz snd hw km).1];show w[i]=w.getD ((zD n hs).idxOf (zD n hs)[i]) 0;rw[snd.idxOf_getElem i h2,ζb,ζe h1];rfl
   have z:=zdb h;have ex:=e x hx;have ey:=e y hy;rw[z]at ex;rw[ex.trans ey.symm]
  ·intro w hw;have M2:=m_ok sz snd hw (q_o s7 eo eb) es;have V2:=YS sz snd hw es;have ne2:∀k∈u.ks,(vOf ss.length (zD n hs) w).getD k none≠none:=λk hk=>by rw[ζb,(v_at sz snd hw (es k hk)).1]; exact λz=>by cases z
   exact egn #[0] (zi (ds:=[il ss,qD ss u,vl (vOf ss.length (zD n hs) w)]) ∅ ⟨ss,u.ks,qX ss u,vOf ss.length (zD n hs) w,mOf ss u.ks (zD n hs) w,rfl,sz2,V3 _ _ _,ne2,by rw[V2]; exact M2.1,M2.2,rfl⟩)
  ·show List.map _ _=(qX ss ⟨zD n hs,u.f⟩).map shD;unfold Rq.qX;rw[ζA];refine ζn λw hw=>?_;show shD (atX ss u.ks (qX ss u) (zD n hs) w)=shD (rp (u.f (El.asg (zD n hs) w)));rw[Ub sz snd hw eo es]
def stK(cs:AI):Nat→AE→AE
 | 0,L=>L
 | m + 1,L=>match L.filter (rdP cs L)with
  | []=>L
  | x :: _=>stK cs m (rm x L)
theorem Qq{cs:AI}{m:Nat}{L r:AE}{x:Int}(h:L.filter (rdP cs L)=x :: r):stK cs (m + 1) L=stK cs m (rm x L):=by
 conv=>lhs; unfold stK
 rw[h]
theorem zbu{cs:AI}{m:Nat}{L:AE}(h:L.filter (rdP cs L)=[]):stK cs (m + 1) L=L:=by
 conv=>lhs; unfold stK
 rw[h]
structure Stk(cs:AI)(L S:AE):Prop where
 ne:S≠[]
 sb:S.Sublist L
 h:∀k∈S,∃c,c∈zl (cs.getD k.toNat [])∧c∈S
theorem Yz{cs:AI}:∀(m:Nat) {L:AE},L.length=m→grd cs m L=none→Stk cs L (stK cs m L)
 | 0,L,hl,h=>by cases h
 | m + 1,L,hl,h=>by
  cases e:L.filter (rdP cs L)with
  | nil =>
   rw[zbu e];refine⟨λz=>(by rw[z]at hl; cases hl),List.Sublist.refl _,λk hk=>QK ?_⟩
   cases c:rdP cs L k with
   | false=>rfl
   | true =>
    have:k∈L.filter (rdP cs L):=ζm.mpr ⟨hk,c⟩;rw[e]at this; cases this
  | cons x r =>
   rw[ZN e]at h;have xm:x∈L:=(ζm.mp (by rw[e]; exact ζf)).1;have rl:=Vm xm;obtain⟨h1,h2,h3⟩:=Yz m (L:=rm x L) ⋯ (Option.map_eq_none_iff.mp h);rw[Qq e];exact⟨h1,h2.trans QF,h3⟩
theorem WT{p:Int→Bool}{L r:AE}{x:Int}(hs:L.Pairwise (· < ·))(h:L.filter p=x :: r):x∈L∧p x=true∧∀k∈L,k < x→p k=false:=by
 have hx:x∈L.filter p:=by rw[h]; exact ζf
 refine⟨(ζm.mp hx).1,(ζm.mp hx).2,λk hk hlt=>?_⟩
 cases c:p k with
 | false=>rfl
 | true =>
  have hm:k∈L.filter p:=ζm.mpr ⟨hk,c⟩;have hp:=hs.filter p;rw[h]at hm hp;rcases ζw.mp hm with rfl | z
  ·omega
  ·have:=(ξu.mp hp).1 k z;omega
def OG(cs:AI)(L f:AE):Prop:=f.Perm L∧∀a y b,f=a ++ y :: b→(∀c∈zl (cs.getD y.toNat []),c∈L→c∈a)∧∀k∈b,k < y→∃c,c∈zl (cs.getD k.toNat [])∧c∈L∧c∉a
theorem zcZ{L:AE}(hs:L.Pairwise (· < ·)):L.Nodup:=hs.imp λh e=>by rw[e]at h; exact absurd h (Int.lt_irrefl _)
theorem ZM{cs:AI}:∀(m:Nat) {L f:AE},L.length=m→L.Pairwise (· < ·)→grd cs m L=some f→OG cs L f
 | 0,L,f,hl,hs,h=>by
  obtain rfl:f=[]:=(ζr h).symm;obtain rfl:L=[]:=ξy.mp hl;exact⟨.nil,λa y b e=>by cases a <;> cases e⟩
 | m + 1,L,f,hl,hs,h=>by
  cases e:L.filter (rdP cs L)with
  | nil=>rw[UA e]at h; cases h
  | cons x r =>
   rw[ZN e]at h;obtain⟨f',h1,rfl⟩:=ξp.mp h;obtain⟨xm,xr,xl⟩:=WT hs e;have rl:=Vm xm;have rp:=zbP xm;obtain⟨pm,ih⟩:=ZM m (L:=rm x L) ⋯ (hs.sublist QF) h1;have nd:=zcZ hs;have nx:x∉rm x L:=(ζ3.mp (rp.nodup_iff.mp nd)).1;refine⟨((List.perm_cons x).mpr pm).trans rp.symm,λa y b ef=>?_⟩
   cases a with
   | nil =>
    cases ef;refine⟨λc hc hcL=>absurd hcL (zbQ xr c hc),λk hk hlt=>?_⟩
    have kL:k∈L:=Vl (pm.mem_iff.mp hk);obtain⟨c,c1,c2⟩:=QK (xl k kL hlt);exact⟨c,c1,c2,λz=>by cases z⟩
   | cons x' a =>
    cases ef;obtain⟨i1,i2⟩:=ih a y b rfl;refine⟨λc hc hcL=>?_,λk hk hlt=>?_⟩
    ·rcases ζw.mp (rp.mem_iff.mp hcL)with z | z
     ·rw[z]; exact ζf
     ·exact ζk _ (i1 c hc z)
    ·obtain⟨c,c1,c2,c3⟩:=i2 k hk hlt;refine⟨c,c1,Vl c2,λz=>?_⟩
     rcases ζw.mp z with z | z
     ·rw[z]at c2; exact nx c2
     ·exact c3 z
theorem Qx(n:Nat)(hs:AF):(zD n hs).Nodup:=List.nodup_range.sublist ζx
def zv(ns:AE)(k:Nat):Int :=
 if(k:Int) < ns.length then ns.getD k 0
 else if(0:Int) < ns.length then(50021 + 19 * (k:Int) * k + ns.getD (k % ns.length) 0 % 1000037 * ((k:Int) / ns.length + 3)) * 48271 % 2147483647
 else(50021 + 19 * (k:Int) * k) * 48271 % 2147483647
def zW(ds:AG)(d:AD):Prop:=∃(ns:AE) (k:Nat),ds=[il ns,.int k]∧ns.length≤63∧k≤1000000∧d=.int (zv ns k)
theorem U6:zw ["_law_script","_law_k","_law_mixed"] ["_law_script","_law_k"] (zn (top 44)):={}
theorem Tl(F:Fun K "_law_at" "_law_at" (top 44) f fd)(B:Bs mg): FnOk P w K mg base CX0 1 f fd ["_law_script","_law_k"] (spD K true zW):=by
 have sc:=U6;refine F.ok sc (λvs H Q E h=>zH (λ_ _⟨_,_,e,_⟩=>by rw[e];rfl) h) (λcdv A outer s H vs Q E hr h=>?_);obtain⟨Fh,ds,d,le,dp,p,q⟩:=h
 refine⟨_,(ze (yK (zF Ys (pv 1) (pB (zj (K:=K) rfl) B.len (zb (pv 0) zd)) (zT _)) (zg (zE (pX (zu (K:=K) rfl) (pv 0) (pv 1)))) zY)
   (ze (pS (i:=2) sc.nd (zm zX zf (zm yj (zm yj zf (pv 1)) (pv 1))))
   (ze (yK (zF ZF (pB (zj (K:=K) rfl) B.len (zb (pv 0) zd)) zf (zT _)) (zg (pS (i:=2) sc.nd (zm zX (pv 2) (zm yj (zm yi (pX (zu (K:=K) rfl) (pv 0) (zm yi (pv 1) (pB (zj (K:=K) rfl) B.len (zb (pv 0) zd)))) zf) (zm zX (zm yY (pv 1) (pB (zj (K:=K) rfl) B.len (zb (pv 0) zd))) zf))))) zY)
   (zg (zE (zm yi (zm yj (pv 2) zf) zf)))))),?_⟩
 have hN:=sc.n 3;obtain⟨ns,k,rfl,h63,hk,rfl⟩:=p;walk_at"run";refine zaF (b:=decide ((k:Int) < ns.length)) (EvT.eq ∅ (by rw[ζa])) (λh=>?_) (λh=>?_)
 ·have h':(k:Int) < ns.length:=by simpa using h
  refine exrs true (zP ∅ ∅ (xu ⋯)) ?_ (.inl ⟨rfl,rfl⟩);unfold zv;rw[if_pos h']
 ·have h':¬(k:Int) < ns.length:=by simpa using h
  have m1:IntMulOk 19 (k:Int):=yG ⋯ ⋯;have m2:IntMulOk (19 * (k:Int)) (k:Int):=yG ⋯ ⋯;refine exn ?_;refine exs true (d:=.int (50021 + 19 * (k:Int) * k)) ∅ #[0] ?_;refine exif (b:=decide ((0:Int) < ns.length)) (λΓ=>Γ=[some (.fz false (il ns)),some (.fz false (.int k)),some (.fz true (.int (if(0:Int) < ns.length then 50021 + 19 * (k:Int) * k + ns.getD (k % ns.length) 0 % 1000037 * ((k:Int) / ns.length + 3)else 50021 + 19 * (k:Int) * k)))]) (EvT.eq ∅ (by rw[ζa])) (λh2=>?_) (λh2=>?_) ?_
  ·have h3:(0:Int) < ns.length:=by simpa using h2
   have q1:(k:Int) / ns.length≤k:=Int.ediv_le_self _ ⋯;have q2:(0:Int)≤(k:Int) / ns.length:=Int.ediv_nonneg ⋯ ⋯;have lm:((ns.map PyData.int).length:Int)=ns.length:=by rw[ζa]
   have ix:EvE K .fresh true (tOp (rIxL K) (tVar 0) (tOp (rI (λ_ j=>0 < j) λi j=>.int (i % j)) (tVar 1) (tCB (λxs H Q=>∃p ys,xs=[.ref p]∧(SqL K H p ys∨SqT K H p ys)∧Q (.int ys.length) H) (zS (tVar 0) tNil)))) [some (.fz false (il ns)),some (.fz false (.int k)),some (.fz true (.int (50021 + 19 * (k:Int) * k)))] (.int (ns.getD (k % ns.length) 0)):=by
    refine zP (i:=((k % ns.length:Nat):Int)) ∅ (EvE.eq (xa (j:=ns.length) ∅ (EvE.eq ∅ (by rw[ζa])) h3) ?_) (xu (Nat.mod_lt _ ⋯));rw[Int.natCast_emod]
   refine exs1 true (xc ∅ (wZ (xa (ix.weak λh=>nomatch h) ∅ #[2]) (xc (xD (j:=ns.length) ∅ (EvE.eq ∅ (by rw[ζa])) ⟨h3,⋯⟩) ∅) ?_)) #[0] ?_
   ·exact yG ⋯ ⋯
   ·show _=_;rw[if_pos h3]
  ·have h3:¬(0:Int) < ns.length:=by simpa using h2
   refine yl ?_;show _=_;rw[if_neg h3]
  ·rintro Γ' rfl;refine zO true (by walk_at"ev"; exact yG #[2] #[2]) ?_ (.inl ⟨rfl,rfl⟩);unfold zv;rw[if_neg h'];split <;> rfl
def v9(ds:AG)(d:AD):Prop:=∃i:Int,ds=[.int i]∧d=.bool true
theorem Y5:zw ["_law_found"] ["_law_found"] (zn (top 43)):={}
theorem Xs(F:Fun K "_law_whole" "_law_whole" (top 43) f fd)(B:Bs mg): FnOk P w K mg base CX0 1 f fd ["_law_found"] (spD K true v9):=by
 have sc:=Y5;refine F.ok sc (λvs H Q E h=>zH (λ_ _⟨_,e,_⟩=>by rw[e];rfl) h) (λcdv A outer s H vs Q E hr h=>?_);obtain⟨Fh,ds,d,le,dp,p,q⟩:=h;refine⟨_,(zg (zE (Q5 (pB (w6 (K:=K) rfl) B.isinstance (zb (pv 0) (zb (t9 (v:=.ty "int") rfl B.int (by decide +kernel) rfl) zd))) (Vt (zdx (pB (w6 (K:=K) rfl) B.isinstance (zb (pv 0) (zb (t9 (v:=.ty "bool") rfl B.bool (by decide +kernel) rfl) zd)))))))),?_⟩
 have hN:=sc.n 1;obtain⟨i,rfl,rfl⟩:=p;walk_at"run";exact zO (d:=.bool (true && !false)) true ∅ rfl (.inl ⟨rfl,rfl⟩)
def pw5(j:Nat):Int:=[1,2,4,8,16].getD j 1
theorem zdn:∀j:Nat,j < 5→0 < pw5 j∧pw5 j≤16:=by decide
def arK(ns:AE)(k:Nat):AF:=(List.range k).filter λj=>decide (zv ns (2 + k) / pw5 j % 2=1)
def arR(ns:AE)(k:Nat):AF:=if zv ns 1 % 3=1∧0 < k∧k - 1∉arK ns k then arK ns k ++ [k - 1]else arK ns k
def arF(ns:AE)(n:Nat):AI:=(List.range n).map (arR ns)
theorem zbh(ns:AE)(k:Nat):(∀j∈arR ns k,j < k)∧(arR ns k).length≤k + 1:=by
 have h1:∀j∈arK ns k,j < k:=λj hj=>ζE.mp (ζm.mp hj).1;have h2:(arK ns k).length≤k:=by
  have:=ζV (λj=>decide (zv ns (2 + k) / pw5 j % 2=1)) (List.range k);rw[ζz]at this;exact this
 unfold arR;split
 ·rename_i c;refine⟨λj hj=>?_,by rw[ζg]; show _ + 1≤_; omega⟩
  rcases ζu.mp hj with h | h
  ·exact h1 j h
  ·have:=ζi.mp h;omega
 ·exact⟨h1,⋯⟩
def vy(ds:AG)(dss:List AG):Prop:=∃(ns:AE) (n:Nat),ds=[il ns,.int n]∧ns.length≤63∧n≤6∧dss=(arF ns n).map kD
theorem Z6:zw ["_law_script","_law_many","_law_kin","_law_k","_law_bits"] ["_law_script","_law_many"] (zn (top 45)):={}
theorem Yc(F:Fun K "_law_arrows" "_law_arrows" (top 45) f fd)(B:Bs mg)(c_law_at:zt P w K mg base CX0 "_law_at" ["_law_script","_law_k"] 1 (spD K true zW)):FnOk P w K mg base CX0 2 f fd ["_law_script","_law_many"] (spO2 K vy):=by
 have sc:=Z6;refine F.ok sc (λvs H Q E h=>Qv (λ_ _⟨_,_,e,_⟩=>by rw[e];rfl) h) (λcdv A outer s H vs Q E hr h=>?_);obtain⟨Fh,ds,dss,le,dp,p,q⟩:=h
 refine⟨_,(ze (pS (i:=2) sc.nd (zR zd))
   (ze (zU AC rfl (ye rfl B.range (zb (pv 1) zd)) (pN (i:=3) sc.nd) (ze (pS (i:=4) sc.nd (pF c_law_at hr (zb (pv 0) (zb (zm zX zf (pv 3)) zd))))
   (ze (yc (yu (K:=K) rfl ζs ζC ζB zV (pv 2) (zb (yE rfl (N:=["_law_j","_law_bits"]) (js:=[none,some 4]) (by walk_at"comp_ok") (ye rfl B.range (zb (pv 3) zd)) (λ_ _ _ _=>(pN (i:=0) (show υN ["_law_j","_law_bits"]by decide +kernel))) (λ_ _ _ _=>(yQ (zF wD (zm yi (zm yY (pv 1) (pX (zB (K:=K) rfl) (yH (zb zf (zb zf (zb zf (zb zf (zb zf zd)))))) (pv 0))) zf) zf (zT _)))) (λ_ _ _ _=>(pv 0))) zd)))
   (zg (yK (PW.pt (u8 (zF wD (zm yi (pF c_law_at hr (zb (pv 0) (zb zf zd))) zf) zf (zT _)) (u8 (zF ZF (pv 3) zf (zT _)) (uI (zF (yP (K:=K) rfl) (zm xF (pv 3) zf) (pX (zu (K:=K) rfl) (pv 2) (pv 3)) (rfl)))))) (zg (yc (yu (K:=K) rfl ζs ζC ζB zV (pX (zu (K:=K) rfl) (pv 2) (pv 3)) (zb (zm xF (pv 3) zf) zd)))) zY)))))
   (zg (zE (pv 2))))),?_⟩
 have hN:=sc.n 5;obtain⟨ns,n,rfl,h63,hn,rfl⟩:=p;have big:=zI;refine zeB (G:=XZ K ((arF ns n).map kD)) le dp q hN (by walk_at"st") ?_;refine uT (·=[some (.fz false (il ns)),some (.fz false (.int n)),some (.o2 none []),none,none]) ?_ ?_
 ·exact zeU (u:=Wa) #[0] (yl rfl)
 rintro Γ1 rfl;refine uT (λΓ=>∃x y,Γ=[some (.fz false (il ns)),some (.fz false (.int n)),some (.o2 none ((arF ns n).map kD)),x,y]) (tH (ds:=(List.range n).map λi:Nat=>.int (i:Int)) true (λi Γ=>∃x y,Γ=[some (.fz false (il ns)),some (.fz false (.int n)),some (.o2 none ((arF ns i).map kD)),x,y]) (yM (n:=(n:Int)) ∅ ⋯ ⋯) ⟨none,none,rfl⟩ ?_ ?_) ?_
 ·rintro i d Γ' hd ⟨x,y,rfl⟩;obtain⟨hi,rfl⟩:=yo hd;refine⟨_,egn #[0] ?_⟩
  have e1:(arF ns (i + 1)).map kD=(arF ns i).map kD ++ [kD (arR ns i)]:=by
   unfold arF;rw[List.range_succ,ζv,ζv];rfl
  have al:((arF ns i).map kD).length=i:=by rw[ζa]; exact QG
  rw[e1];generalize (arF ns i).map kD=pre at al;refine exs true (d:=.int (zv ns (2 + i))) (zi ∅ (show zW [il ns,.int (2 + (i:Int))] _ from⟨ns,2 + i,by rw[ξl]; rfl,h63,⋯,rfl⟩)) #[0] ?_;refine yw (·=[some (.fz false (il ns)),some (.fz false (.int n)),some (.o2 none (pre ++ [kD (arK ns i)])),some (.fz true (.int i)),some (.fz true (.int (zv ns (2 + i))))]) (TD (ds:=kD (arK ns i)) #[1] (EvO.eq (YE (κ:=true) (is:=[0]) (n:=i) (λj=>.int (j:Int)) (λj=>decide (zv ns (2 + i) / pw5 j % 2=1)) ∅ ⋯ (by walk_at"cc") rfl #[2] ?_) rfl) ⋯ #[0] rfl) ?_
  ·intro j hj;have pj:=zdn j ⋯;have a5:atI [PyData.int 1,.int 2,.int 4,.int 8,.int 16] (j:Int)=some (.int (pw5 j)):=yz (g:=PyData.int) (xs:=[1,2,4,8,16]) (zo (d:=1) (show j < 5 by omega));exact egn #[0] ⟨zM (wv (xa (xD ∅ (xb (κ:=false) (ds:=[.int 1,.int 2,.int 4,.int 8,.int 16]) ∅ ∅ a5) ⟨pj.1,⋯⟩) ∅ #[2]) ∅),λ_=>by walk_at"ev"⟩
  rintro Γ2 rfl;have gi:(pre ++ [kD (arK ns i)])[i]?=some (kD (arK ns i)):=by rw[ξb ⋯,al,ξ9]; rfl
  have ix:ixN (pre ++ [kD (arK ns i)]).length (i:Int)=some i:=wj (by rw[ζg]; show i < _ + 1; omega);have kz:kD (arK ns i)=(zl (arK ns i)).map .int:=by unfold kD zl; rw[List.map_map]; rfl
  have kl:(arK ns i).length≤6:=by
   have:=ζV (λj=>decide (zv ns (2 + i) / pw5 j % 2=1)) (List.range i);rw[ζz]at this;unfold arK;omega
  refine vE (b:=decide (zv ns 1 % 3=1) && (decide ((0:Int) < i) && (!decide ((i:Int) - 1∈zl (arK ns i))))) (vF (zM (wv (xa (zi ∅ (show zW [il ns,.int 1] _ from⟨ns,1,rfl,h63,#[2],rfl⟩)) ∅ #[2]) ∅)) λ_=>vF ∅ λ_=>zM (xt (neg:=true) (i:=(i:Int) - 1) (ns:=zl (arK ns i)) ∅ (EvL.weak (κ':=true) (kz ▸ VH #[1] ∅ ix gi) (λz=>nomatch z)))) (λh=>?_) λh=>?_
  ·have h':zv ns 1 % 3=1∧(0:Int) < i∧¬(i:Int) - 1∈zl (arK ns i):=by simpa using h
   have hm:i - 1∉arK ns i:=λz=>h'.2.2 (ζp.mpr ⟨i - 1,z,⋯⟩);have ei:(i:Int) - 1=((i - 1:Nat):Int):=by omega
   refine ZP (d:=.int ((i - 1:Nat):Int)) #[1] ∅ ix gi (EvE.eq ∅ (congrArg PyData.int ei)) (by rw[tE]; omega) #[0] ?_;show∃x y,_;have er:arR ns i=arK ns i ++ [i - 1]:=by unfold arR; rw[if_pos ⟨h'.1,⋯,hm⟩]
   have es:(pre ++ [kD (arK ns i)]).set i (kD (arK ns i) ++ [.int ((i - 1:Nat):Int)])=pre ++ [kD (arR ns i)]:=by
    rw[er,List.set_append_right i _ ⋯,al,ξ9];unfold kD;rw[ζv];rfl
   rw[es];exact⟨_,_,rfl⟩
  ·have h':¬(zv ns 1 % 3=1∧0 < i∧i - 1∉arK ns i):=λz=>by
    have hz:¬(i:Int) - 1∈zl (arK ns i):=λw=>by
     obtain⟨j,hj,e⟩:=ζp.mp w;have:j=i - 1:=by omega
     exact z.2.2 (this ▸ hj)
    rw[decide_eq_true z.1,decide_eq_true (show(0:Int) < i by omega),decide_eq_false hz]at h;cases h
   refine yl ?_;show∃x y,_;have er:arR ns i=arK ns i:=by unfold arR; rw[if_neg h']
   rw[er];exact⟨_,_,rfl⟩
 ·rintro Γ' ⟨x,y,rfl⟩;rw[yn];exact⟨_,_,rfl⟩
 ·rintro Γ' ⟨x,y,rfl⟩;exact TC #[1]
def ppK(ns:AE)(m k:Nat):Nat×Nat:=if zv ns 1 % 3=1∧k=0 then(0,m - 1)else((zv ns (9 + k) % m).toNat,((zv ns (9 + k) % m + 1 + zv ns (9 + k) / m % ((m:Int) - 1)) % m).toNat)
theorem ZC(ns:AE){m k:Nat}(hm:2≤m):(ppK ns m k).1 < m∧(ppK ns m k).2 < m:=by
 have a0:=ζU (zv ns (9 + k)) (show(m:Int)≠0 by omega);have a1:=ζO (zv ns (9 + k)) (show(0:Int) < m by omega);have b0:=ζU (zv ns (9 + k) % m + 1 + zv ns (9 + k) / m % ((m:Int) - 1)) (show(m:Int)≠0 by omega);have b1:=ζO (zv ns (9 + k) % m + 1 + zv ns (9 + k) / m % ((m:Int) - 1)) (show(0:Int) < m by omega);unfold ppK;split
 ·exact⟨by show 0 < m; omega,by show m - 1 < m; omega⟩
 ·exact⟨by show(zv ns (9 + k) % m).toNat < m; omega,by show Int.toNat _ < m; omega⟩
abbrev PS2:=AI×List (Nat×Nat)
def yC(kin:AI)(o x:Nat):AI:=kin.set o (kin.getD o [] ++ [x])
def ppS(m:Nat)(o:Nat×Nat)(st:PS2):PS2:=if(st.1.getD o.1 []).length < 5∧(st.1.getD o.2 []).length < 5 then(yC (yC st.1 o.1 (m + st.2.length)) o.2 (m + st.2.length),st.2 ++ [o])else st
def ppN(ns:AE)(m:Nat)(kin:AI):Nat→PS2
 | 0=>(kin,[])
 | k + 1=>ppS m (ppK ns m k) (ppN ns m kin k)
structure vK(m:Nat)(st:PS2)(k:Nat):Prop where
 l:st.1.length=m
 e:∀r∈st.1,(∀x∈r,x < m + st.2.length)∧r.length≤20 + 2 * k
 p:st.2.length≤k
theorem VT{m:Nat}{kin:AI}{o x b c:Nat}(hl:kin.length=m)(ho:o < m)(h:∀r∈kin,(∀x∈r,x < b)∧r.length≤c)(hx:x < b):(yC kin o x).length=m∧∀r∈yC kin o x,(∀x∈r,x < b)∧r.length≤c + 1:=by
 unfold yC;refine⟨by rw[ξC]; exact hl,λr hr=>?_⟩
 rcases List.mem_or_eq_of_mem_set hr with hr | hr
 ·have:=h r hr;exact⟨this.1,⋯⟩
 ·have g:=h _ (ζd (zo (d:=([]:AF)) (show o < kin.length by omega)));rw[hr];refine⟨λy hy=>?_,by rw[ζg]; show _ + 1≤_; omega⟩
  rcases ζu.mp hy with hy | hy
  ·exact g.1 y hy
  ·rw[ζi.mp hy]; exact hx
theorem zdr{m:Nat}{o:Nat×Nat}{st:PS2}{k:Nat}(ho:o.1 < m∧o.2 < m)(h:vK m st k):vK m (ppS m o st) (k + 1):=by
 unfold ppS;split
 ·have h0:∀r∈st.1,(∀x∈r,x < m + st.2.length + 1)∧r.length≤20 + 2 * k:=λr hr=>⟨λx hx=>by have:=(h.e r hr).1 x hx; omega,(h.e r hr).2⟩
  have h1:=VT (x:=m + st.2.length) h.l ho.1 h0 ⋯;have h2:=VT (x:=m + st.2.length) h1.1 ho.2 h1.2 ⋯;have hp:=h.p;refine⟨h2.1,λr hr=>?_,by show(st.2 ++ [o]).length≤_; rw[ζg]; show _ + 1≤_; omega⟩
  have:=h2.2 r hr;refine⟨λx hx=>?_,⋯⟩
  have:=this.1 x hx;show x < m + (st.2 ++ [o]).length;rw[ζg];show x < m + (_ + 1);omega
 ·exact⟨h.l,λr hr=>⟨(h.e r hr).1,by have:=(h.e r hr).2; omega⟩,by have:=h.p; omega⟩
theorem tq(ns:AE){m:Nat}(hm:2≤m){kin:AI}(hk:vK m (kin,[]) 0):∀k,vK m (ppN ns m kin k) k
 | 0=>hk
 | k + 1=>zdr (ZC ns hm) (tq ns hm hk k)
abbrev prL(ps:List (Nat×Nat)):AG:=ps.map λo=>.tuple [.int (o.1:Int),.int (o.2:Int)]
theorem UV(kin:AI){o x:Nat}(ho:o < kin.length):(kin.map kD).set o (kD (kin.getD o []) ++ [.int (x:Int)])=(yC kin o x).map kD:=by
 unfold yC;rw[List.map_set];congr 1;unfold kD;rw[ζv];rfl
def uc(d0:AD)(dss:List AG)(d2 d:AD)(dss':List AG):Prop:=∃(ns:AE) (kin:AI) (m:Nat),d0=il ns∧ns.length≤63∧dss=kin.map kD∧d2=.int 3∧2≤m∧m≤6∧vK m (kin,[]) 0∧d=.list (prL (ppN ns m kin (zv ns 8 % 4).toNat).2)∧dss'=(ppN ns m kin (zv ns 8 % 4).toNat).1.map kD
theorem Y8:zw ["_law_script","_law_kin","_law_most","_law_pairs_here","_law_many","_law_k","_law_cell","_law_one","_law_other"] ["_law_script","_law_kin","_law_most"] (zn (top 46)):={}
theorem Xv(F:Fun K "_law_pairs" "_law_pairs" (top 46) f fd)(B:Bs mg)(c_law_at:zt P w K mg base CX0 "_law_at" ["_law_script","_law_k"] 1 (spD K true zW)):FnOk P w K mg base CX0 2 f fd ["_law_script","_law_kin","_law_most"] (spP2 K uc):=by
 have sc:=Y8;refine F.ok sc (λvs H Q E h=>by obtain⟨_,_,_,_,_,_,_,_,_,_,rfl,_⟩:=h; rfl) (λcdv A outer s H vs Q E hr h=>?_);obtain⟨Fh,H0,v0,a,v2,d0,d2,dss,d,dss',rfl,le,l0,hh,k0,k2,ko,p,q⟩:=h
 refine⟨_,(ze (pS (i:=3) sc.nd (zR zd))
   (ze (pS (i:=4) sc.nd (pB (zj (K:=K) rfl) B.len (zb (pv 1) zd)))
   (ze (zU AC rfl (ye rfl B.range (zb (zm yi (pF c_law_at hr (zb (pv 0) (zb zf zd))) (zm zX (pv 2) zf)) zd)) (pN (i:=5) sc.nd) (ze (pS (i:=6) sc.nd (pF c_law_at hr (zb (pv 0) (zb (zm zX zf (pv 5)) zd))))
   (ze (pS (i:=7) sc.nd (zm yi (pv 6) (pv 4)))
   (ze (pS (i:=8) sc.nd (zm yi (zm zX (zm zX (pv 7) zf) (zm yi (zm yY (pv 6) (pv 4)) (zm xF (pv 4) zf))) (pv 4)))
   (ze (yK (PW.pt (u8 (zF wD (zm yi (pF c_law_at hr (zb (pv 0) (zb zf zd))) zf) zf (zT _)) (uI (zF wD (pv 5) zf (zT _))))) (ze (pS (i:=7) sc.nd zf)
   (zg (pS (i:=8) sc.nd (zm xF (pv 4) zf)))) zY)
   (zg (yK (PW.pt (u8 (zF Ys (pB (zj (K:=K) rfl) B.len (zb (pX (zu (K:=K) rfl) (pv 1) (pv 7)) zd)) zf (zT _)) (uI (zF Ys (pB (zj (K:=K) rfl) B.len (zb (pX (zu (K:=K) rfl) (pv 1) (pv 8)) zd)) zf (zT _))))) (ze (yc (yu (K:=K) rfl ζs ζC ζB zV (pX (zu (K:=K) rfl) (pv 1) (pv 7)) (zb (zm zX (pv 4) (pB (zj (K:=K) rfl) B.len (zb (pv 3) zd))) zd)))
   (ze (yc (yu (K:=K) rfl ζs ζC ζB zV (pX (zu (K:=K) rfl) (pv 1) (pv 8)) (zb (zm zX (pv 4) (pB (zj (K:=K) rfl) B.len (zb (pv 3) zd))) zd)))
   (zg (yc (yu (K:=K) rfl ζs ζC ζB zV (pv 3) (zb (yH (zb (pv 7) (zb (pv 8) zd))) zd)))))) zY)))))))
   (zg (zE (pv 3)))))),?_⟩
 have hN:=sc.n 9;obtain⟨ns,kin,m,rfl,h63,rfl,rfl,m2,m6,hkin,rfl,rfl⟩:=p;have big:=zI;have n0:=ζU (zv ns 8) (show(4:Int)≠0 by decide);have n1:=ζO (zv ns 8) (show(0:Int) < 4 by decide);obtain⟨n,hn⟩:∃n:Nat,zv ns 8 % 4=(n:Int):=⟨(zv ns 8 % 4).toNat,⋯⟩
 have n4:n≤3:=by omega
 have hn':(zv ns 8 % 4).toNat=n:=by omega
 rw[hn']at q;have hl:kin.length=m:=hkin.l;refine zdi (n:=6) (d:=.list (prL (ppN ns m kin n).2)) (dss':=(ppN ns m kin n).1.map kD) le l0 hh k0 k2 ko (λv H' F' z=>q v H' F' z.1 z.2.1 z.2.2) rfl ?_;show ExM K _ [some (.fz false (il ns)),some (.o2 (some a) (kin.map kD)),some (.fz false (.int 3)),none,none,none,none,none,none] _;refine uT (·=[some (.fz false (il ns)),some (.o2 (some a) (kin.map kD)),some (.fz false (.int 3)),some (.ow true []),none,none,none,none,none]) (exo1 true (yf (ds:=[]) zC #[2]) #[0] rfl) ?_;rintro Γ1 rfl;refine uT (·=[some (.fz false (il ns)),some (.o2 (some a) (kin.map kD)),some (.fz false (.int 3)),some (.ow true []),some (.fz true (.int m)),none,none,none,none]) (exs1 true (EvE.eq (TL #[1]) (by rw[ζa,hl])) #[0] rfl) ?_;rintro Γ1 rfl;refine uT (λΓ=>∃x y z w,Γ=[some (.fz false (il ns)),some (.o2 (some a) ((ppN ns m kin n).1.map kD)),some (.fz false (.int 3)),some (.ow true (prL (ppN ns m kin n).2)),some (.fz true (.int m)),x,y,z,w]) (tH (ds:=(List.range n).map λi:Nat=>.int (i:Int)) true (λi Γ=>∃x y z w,Γ=[some (.fz false (il ns)),some (.o2 (some a) ((ppN ns m kin i).1.map kD)),some (.fz false (.int 3)),some (.ow true (prL (ppN ns m kin i).2)),some (.fz true (.int m)),x,y,z,w]) (yM (n:=(n:Int)) (zh (EvE.eq (xa (j:=4) (zi ∅ (show zW [il ns,.int 8] _ from⟨ns,8,rfl,h63,#[2],rfl⟩)) (EvE.eq (xc ∅ ∅) rfl) #[2]) (congrArg PyData.int hn)) zC) ⋯ ⋯) ⟨none,none,none,none,rfl⟩ ?_ ?_) ?_
 ·rintro i dd Γ' hd ⟨x,y,z,w,rfl⟩;obtain⟨hi,rfl⟩:=yo hd;have ok:=tq ns m2 hkin i;have okk:=ZC ns (m:=m) (k:=i) m2;have e1:ppN ns m kin (i + 1)=ppS m (ppK ns m i) (ppN ns m kin i):=rfl;rw[e1];generalize ppN ns m kin i=st at ok;obtain⟨ki,pr⟩:=st;have kl:ki.length=m:=ok.l;have pl:pr.length≤i:=ok.p;refine⟨_,egn #[0] ?_⟩
  have dm:CDiv (zv ns (9 + i)) m:=⟨⋯,⋯⟩
  refine exs true (d:=.int (zv ns (9 + i))) (zi ∅ (show zW [il ns,.int (9 + (i:Int))] _ from⟨ns,9 + i,by rw[ξl]; rfl,h63,⋯,rfl⟩)) #[0] ?_;have a0:=ζU (zv ns (9 + i)) (show(m:Int)≠0 by omega);have a1:=ζO (zv ns (9 + i)) (show(0:Int) < m by omega);have b0:=ζU (zv ns (9 + i) % m + 1 + zv ns (9 + i) / m % ((m:Int) - 1)) (show(m:Int)≠0 by omega);refine exs true (d:=.int (zv ns (9 + i) % m)) ∅ #[0] ?_;refine exs true (d:=.int ((zv ns (9 + i) % m + 1 + zv ns (9 + i) / m % ((m:Int) - 1)) % m)) ∅ #[0] ?_;refine exif (b:=decide (zv ns 1 % 3=1) && decide ((i:Int)=0)) (·=[some (.fz false (il ns)),some (.o2 (some a) (ki.map kD)),some (.fz false (.int 3)),some (.ow true (prL pr)),some (.fz true (.int m)),some (.fz true (.int i)),some (.fz true (.int (zv ns (9 + i)))),some (.fz true (.int (ppK ns m i).1)),some (.fz true (.int (ppK ns m i).2))]) (vF (zM (wv (xa (zi ∅ (show zW [il ns,.int 1] _ from⟨ns,1,rfl,h63,#[2],rfl⟩)) ∅ #[2]) ∅)) λ_=>by walk_at"ev") (λh=>?_) (λh=>?_) ?_
  ·have h':zv ns 1 % 3=1∧(i:Int)=0:=by simpa using h
   refine exs true (d:=.int 0) ∅ #[0] ?_;refine exs1 true (d:=.int ((m - 1:Nat):Int)) (EvE.eq (XN ∅ ∅) (congrArg PyData.int ⋯)) #[0] ?_;show _=_;unfold ppK;rw[if_pos ⟨h'.1,⋯⟩];rfl
  ·have h':¬(zv ns 1 % 3=1∧i=0):=λz=>by
    rw[decide_eq_true z.1,decide_eq_true (show(i:Int)=0 by omega)]at h;cases h
   refine yl ?_;show _=_;unfold ppK;rw[if_neg h'];show _=([_,_,_,_,_,_,_,some (.fz true (.int ((zv ns (9 + i) % m).toNat:Int))),some (.fz true (.int (((zv ns (9 + i) % m + 1 + zv ns (9 + i) / m % ((m:Int) - 1)) % m).toNat:Int)))]:PD.Ctx);rw[ζ0 a0,ζ0 b0]
  rintro Γ2 rfl;generalize ppK ns m i=o at okk;obtain⟨o1,o2⟩:=o;have o1l:o1 < m:=okk.1;have o2l:o2 < m:=okk.2;have ml:(ki.map kD).length=m:=by rw[ζa]; exact kl
  have g1:(ki.map kD)[o1]?=some (kD (ki.getD o1 [])):=by rw[ζo,zo (d:=([]:AF)) (show o1 < ki.length by omega)]; rfl
  have g2:(ki.map kD)[o2]?=some (kD (ki.getD o2 [])):=by rw[ζo,zo (d:=([]:AF)) (show o2 < ki.length by omega)]; rfl
  have r1:=(ok.e _ (ζd (zo (d:=([]:AF)) (show o1 < ki.length by omega)))).2;have x1:ixN (ki.map kD).length (o1:Int)=some o1:=wj ⋯;have x2:ixN (ki.map kD).length (o2:Int)=some o2:=wj ⋯;have ll:∀r:AF,PyData.int (((kD r).length:Nat):Int)=.int (r.length:Int):=λr=>by rw[tE]
  refine vE (b:=decide (((ki.getD o1 []).length:Int) < 5) && decide (((ki.getD o2 []).length:Int) < 5)) (vF (zM (UE (EvE.eq (yg (EvL.weak (κ':=true) (VH #[1] ∅ x1 g1) (λz=>nomatch z))) (ll _)) ∅)) λ_=>zM (UE (EvE.eq (yg (EvL.weak (κ':=true) (VH #[1] ∅ x2 g2) (λz=>nomatch z))) (ll _)) ∅)) (λh=>?_) λh=>?_
  ·have h':(ki.getD o1 []).length < 5∧(ki.getD o2 []).length < 5:=by
    have:((ki.getD o1 []).length:Int) < 5∧((ki.getD o2 []).length:Int) < 5:=by simpa using h
    omega
   have ep:ppS m (o1,o2) (ki,pr)=(yC (yC ki o1 (m + pr.length)) o2 (m + pr.length),pr ++ [(o1,o2)]):=by unfold ppS; rw[if_pos h']
   rw[ep];have en:∀{t:TE} {Γ:PD.Ctx},EvE K .fresh true t Γ (.int ((m:Int) + (((prL pr).length:Nat):Int)))→EvE K .fresh true t Γ (.int ((m + pr.length:Nat):Int)):=λz=>EvE.eq z (congrArg PyData.int (by rw[ζa,ξl]));refine yw (·=[some (.fz false (il ns)),some (.o2 (some a) ((yC ki o1 (m + pr.length)).map kD)),some (.fz false (.int 3)),some (.ow true (prL pr)),some (.fz true (.int m)),some (.fz true (.int i)),some (.fz true (.int (zv ns (9 + i)))),some (.fz true (.int o1)),some (.fz true (.int o2))]) (ZP (d:=.int ((m + pr.length:Nat):Int)) #[1] ∅ x1 g1 (en (xc ∅ (yg ∅))) (by rw[tE]; omega) #[0] (by show _=_; rw[UV ki ⋯])) ?_;rintro Γ3 rfl;have kl2:(yC ki o1 (m + pr.length)).length=m:=by unfold yC; rw[List.length_set]; exact kl
   have r2:=(VT (x:=m + pr.length) kl o1l (λr hr=>⟨λx hx=>(show x < m + pr.length + 1 by have:x < m + pr.length:=(ok.e r hr).1 x hx; omega),(ok.e r hr).2⟩) ⋯).2;generalize yC ki o1 (m + pr.length)=ki2 at kl2 r2;have g3:(ki2.map kD)[o2]?=some (kD (ki2.getD o2 [])):=by rw[ζo,zo (d:=([]:AF)) (show o2 < ki2.length by omega)]; rfl
   have x3:ixN (ki2.map kD).length (o2:Int)=some o2:=wj (by rw[ζa]; omega);have r3:=(r2 _ (ζd (zo (d:=([]:AF)) (show o2 < ki2.length by omega)))).2;refine yw (·=[some (.fz false (il ns)),some (.o2 (some a) ((yC ki2 o2 (m + pr.length)).map kD)),some (.fz false (.int 3)),some (.ow true (prL pr)),some (.fz true (.int m)),some (.fz true (.int i)),some (.fz true (.int (zv ns (9 + i)))),some (.fz true (.int o1)),some (.fz true (.int o2))]) (ZP (d:=.int ((m + pr.length:Nat):Int)) #[1] ∅ x3 g3 (en (xc ∅ (yg ∅))) (by rw[tE]; omega) #[0] (by show _=_; rw[UV ki2 ⋯])) ?_;rintro Γ3 rfl;refine exa1 #[1] ∅ #[0] (by rw[ζa]; omega) ?_;show∃x y z w,_;have:prL pr ++ [PyData.tuple [.int (o1:Int),.int (o2:Int)]]=prL (pr ++ [(o1,o2)]):=by unfold prL; rw[List.map_append]; rfl
   rw[this];exact⟨_,_,_,_,rfl⟩
  ·have h':¬((ki.getD o1 []).length < 5∧(ki.getD o2 []).length < 5):=λz=>by
    rw[decide_eq_true (show((ki.getD o1 []).length:Int) < 5 by omega),decide_eq_true (show((ki.getD o2 []).length:Int) < 5 by omega)]at h;cases h
   have ep:ppS m (o1,o2) (ki,pr)=(ki,pr):=by unfold ppS; rw[if_neg h']
   rw[ep];exact yl ⟨_,_,_,_,rfl⟩
 ·rintro Γ' ⟨x,y,z,w,rfl⟩;rw[yn];exact⟨_,_,_,_,rfl⟩
 ·rintro Γ' ⟨x,y,z,w,rfl⟩;refine zdY 3 #[1] #[0] ?_;exact zaE (j:=1) ∅ #[1]
def lnN(ns:AE):Nat→AF
 | 0=>[]
 | k + 1=>(lnN ns k).take (zv ns (14 + k) % ((k:Int) + 1)).toNat ++ k :: (lnN ns k).drop (zv ns (14 + k) % ((k:Int) + 1)).toNat
theorem tU(ns:AE):∀n,(lnN ns n).length=n∧∀x∈lnN ns n,x < n
 | 0=>⟨rfl,(λx h=>by cases h)⟩
 | k + 1=>by
  have ih:=tU ns k;have h1:=ζO (zv ns (14 + k)) (show(0:Int) < (k:Int) + 1 by omega);have h0:=ζU (zv ns (14 + k)) (show(k:Int) + 1≠0 by omega);unfold lnN;refine⟨?_,λx hx=>?_⟩
  ·rw[ζg,ζY,ζN,ζ5,ih.1];omega
  ·rcases ζu.mp hx with h | h
   ·have:=ih.2 x (ξh h); omega
   ·rcases ζw.mp h with h | h
    ·omega
    ·have:=ih.2 x (List.mem_of_mem_drop h); omega
theorem ZX(ns:AE){m:Nat}(h6:m≤6):vK m (arF ns m,[]) 0:=⟨QG,λr hr=>by
 obtain⟨k,hk,rfl⟩:=ζp.mp hr;have hk:=ζE.mp hk;have:=zbh ns k;exact⟨λx hx=>by have:=this.1 x hx; show x < m + 0; omega,⋯⟩,ζl _⟩
def stF(ns:AE)(m:Nat):PS2:=ppN ns m (arF ns m) (zv ns 8 % 4).toNat
theorem YV(ns:AE){m:Nat}(h2:2≤m)(h6:m≤6):vK m (stF ns m) 3:=by
 have n0:=ζU (zv ns 8) (show(4:Int)≠0 by decide);have n1:=ζO (zv ns 8) (show(0:Int) < 4 by decide);have:=tq ns h2 (ZX ns h6) (zv ns 8 % 4).toNat;exact⟨this.l,λr hr=>⟨(this.e r hr).1,by have:=(this.e r hr).2; omega⟩,by have:=this.p; unfold stF; omega⟩
def zZ(ns:AE)(m:Nat):AF:=lnN ns (m + (stF ns m).2.length)
def csN(line:AF)(kin:AI):Nat→AI
 | 0=>line.map λ_=>[]
 | k + 1=>(csN line kin k).set (line.getD k 0) (srtN ((kin.getD k []).map λj=>line.getD j 0))
def csF(ns:AE)(m:Nat):AI:=csN (zZ ns m) (stF ns m).1 m
def hiF(ns:AE)(m:Nat):AF:=srtN ((zZ ns m).drop m)
theorem uZ(line:AF)(kin:AI):∀k,(csN line kin k).length=line.length
 | 0=>ζa ..
 | k + 1=>by unfold csN; rw[List.length_set]; exact uZ line kin k
def ub(ds:AG)(d:AD):Prop:=∃(ns:AE) (m:Nat),ds=[il ns,.int m,.int 3]∧ns.length≤63∧2≤m∧m≤6∧d=.tuple [nls (csF ns m),nl (hiF ns m),nl ((zZ ns m).take m)]
theorem zar(css:AI):∀ds∈css.map kD,∀d∈ds,imm d=true:=λds hds=>by
 obtain⟨c,_,rfl⟩:=ζp.mp hds;exact vB c
theorem za9{α:Type}(g:α→AD)(xs:List α){k:Nat}(h:k≤xs.length):cutD (xs.map g) (some (k:Int)) none=(xs.drop k).map g:=by
 unfold cutD;rw[HT.t7];show((xs.map g).drop (min k (xs.map g).length)).take ((xs.map g).length - min k (xs.map g).length)=_;rw[ζa,ξ2 h,←List.map_drop];refine ζI ?_;rw[ζa,ζ5];omega
theorem Y7:zw ["_law_script","_law_many","_law_most","_law_kin","_law_pairs_here","_law_line","_law_k","_law_causes"] ["_law_script","_law_many","_law_most"] (zn (top 47)):={}
theorem Xu(F:Fun K "_law_shape" "_law_shape" (top 47) f fd)(B:Bs mg)(c_law_arrows:zt P w K mg base CX0 "_law_arrows" ["_law_script","_law_many"] 2 (spO2 K vy))(c_law_pairs:zt P w K mg base CX0 "_law_pairs" ["_law_script","_law_kin","_law_most"] 2 (spP2 K uc))(c_law_at:zt P w K mg base CX0 "_law_at" ["_law_script","_law_k"] 1 (spD K true zW)):FnOk P w K mg base CX0 3 f fd ["_law_script","_law_many","_law_most"] (spD K true ub):=by
 have sc:=Y7;refine F.ok sc (λvs H Q E h=>zH (λ_ _⟨_,_,e,_⟩=>by rw[e];rfl) h) (λcdv A outer s H vs Q E hr h=>?_);obtain⟨Fh,ds,d,le,dp,p,q⟩:=h
 refine⟨_,(ze (pS (i:=3) sc.nd (pF c_law_arrows hr (zb (pv 0) (zb (pv 1) zd))))
   (ze (pS (i:=4) sc.nd (pF c_law_pairs hr (zb (pv 0) (zb (pv 3) (zb (pv 2) zd)))))
   (ze (pS (i:=5) sc.nd (zR zd))
   (ze (zU AC rfl (ye rfl B.range (zb (zm zX (pv 1) (pB (zj (K:=K) rfl) B.len (zb (pv 4) zd))) zd)) (pN (i:=6) sc.nd) (zg (yc (yu (K:=K) rfl ζs PySem.F.slot_list_insert PySem.F.type_list_insert Tr (pv 5) (zb (zm yi (pF c_law_at hr (zb (pv 0) (zb (zm zX zf (pv 6)) zd))) (zm zX (pv 6) zf)) (zb (pv 6) zd))))))
   (ze (yB (i:=7) rfl sc.nd rfl rfl (N:=["_law_k"]) (js:=[none]) (by walk_at"comp_ok") (zG (K:=K) rfl (pv 5)) (λ_ _ _ _=>(pN (i:=0) (show υN ["_law_k"]by decide +kernel))) (λ_ _ _ _=>xf) (λ_ _ _ _=>(zR zd)))
   (ze (zU AC rfl (ye rfl B.range (zb (pv 1) zd)) (pN (i:=6) sc.nd) (zg (Zw (pB (y9 (K:=K) rfl) B.sorted (zb (yE rfl (N:=["_law_j","_law_line"]) (js:=[none,some 5]) (by walk_at"comp_ok") (zG (K:=K) rfl (pX (zu (K:=K) rfl) (pv 3) (pv 6))) (λ_ _ _ _=>(pN (i:=0) (show υN ["_law_j","_law_line"]by decide +kernel))) (λ_ _ _ _=>xf) (λ_ _ _ _=>(pX (zu (K:=K) rfl) (pv 1) (pv 0)))) zd)) (Xn (pv 7) (pX (zu (K:=K) rfl) (pv 5) (pv 6)) uB))))
   (zg (zE (yH (zb (pv 7) (zb (pB (y9 (K:=K) rfl) B.sorted (zb (vz (vi (K:=K) rfl) (pv 5) (uL (pv 1)) uM) zd)) (zb (vz (vi (K:=K) rfl) (pv 5) uM (uL (pv 1))) zd)))))))))))),?_⟩
 have hN:=sc.n 8;obtain⟨ns,m,rfl,h63,h2,h6,rfl⟩:=p;have big:=zI;have sok:=YV ns h2 h6;have est:stF ns m=ppN ns m (arF ns m) (zv ns 8 % 4).toNat:=rfl;walk_at"run";refine TK (dss:=(arF ns m).map kD) ∅ ⟨ns,m,rfl,h63,h6,rfl⟩ #[0] ?_;refine TJ (d:=.list (prL (stF ns m).2)) (dss':=(stF ns m).1.map kD) (j:=3) ∅ #[1] ∅ ⟨ns,arF ns m,m,rfl,h63,rfl,rfl,h2,h6,ZX ns h6,rfl,rfl⟩ (zar _) (zar _) #[0] #[0] ?_;have ecs:csF ns m=csN (zZ ns m) (stF ns m).1 m:=rfl;have eln:zZ ns m=lnN ns (m + (stF ns m).2.length):=rfl;have ehi:hiF ns m=srtN ((zZ ns m).drop m):=rfl;rw[ecs,ehi,eln]at *;clear ecs eln ehi est;generalize stF ns m=st at *;obtain⟨kin,prs⟩:=st;have kl:kin.length=m:=sok.l;have pl:prs.length≤3:=sok.p;have ke:=sok.e;refine exo true (yf (ds:=[]) zC #[2]) #[0] ?_;refine zeV 3 #[1] #[0] ?_;have e3:(kin.map kD).map PyData.list=kin.map nl:=by rw[ζA]; rfl
 rw[e3];have lt:((m:Int) + (((prL prs).length:Nat):Int))=((m + prs.length:Nat):Int):=by rw[ζa,ξl]
 refine yv (ds:=(List.range (m + prs.length)).map λi:Nat=>.int (i:Int)) true (λi Γ=>∃x,Γ=[some (.fz false (il ns)),some (.fz false (.int m)),some (.fz false (.int 3)),some (.fz true (nls kin)),some (.fz true (.list (prL prs))),some (.ow true (kD (lnN ns i))),x,none]) (yM (n:=((m + prs.length:Nat):Int)) (zh (EvE.eq (xc ∅ ∅) (congrArg PyData.int lt)) zC) ⋯ ⋯) ⟨none,rfl⟩ ?_ ?_
 ·rintro i d Γ' hd ⟨x,rfl⟩;obtain⟨hi,rfl⟩:=yo hd;have oi:=tU ns i;have h1:=ζO (zv ns (14 + i)) (show(0:Int) < (i:Int) + 1 by omega);have h0:=ζU (zv ns (14 + i)) (show(i:Int) + 1≠0 by omega);refine⟨_,egn #[0] ?_⟩
  refine exin (m:=zv ns (14 + i) % ((i:Int) + 1)) (d:=.int i) #[1] (xa (zi ∅ (show zW [il ns,.int (14 + (i:Int))] _ from⟨ns,14 + i,by rw[ξl]; rfl,h63,⋯,rfl⟩)) ∅ ⋯) ∅ h0 ?_ ?_ #[0] ?_
  ·rw[tE,oi.1];omega
  ·rw[tE,oi.1];omega
  ·show∃x,_;have e:kD (lnN ns (i + 1))=(kD (lnN ns i)).take (zv ns (14 + i) % ((i:Int) + 1)).toNat ++ .int (i:Int) :: (kD (lnN ns i)).drop (zv ns (14 + i) % ((i:Int) + 1)).toNat:=by
    unfold kD;rw[←List.map_take,←List.map_drop];show List.map _ (_ ++ _ :: _)=_;rw[ζv,ζF]
   rw[e];exact⟨_,rfl⟩
 rintro Γ' ⟨x,rfl⟩;rw[yn];have ho:=tU ns (m + prs.length);generalize lnN ns (m + prs.length)=line at ho;obtain⟨hol,hoe⟩:=ho;refine exfz 5 #[1] #[0] ?_;have ekd:PyData.list (kD line)=nl line:=rfl;rw[ekd];refine exo true (ds:=(csN line kin 0).map nl) (EvO.eq (wH (κ:=true) (κ':=false) (is:=[0]) (xs:=line) (λk:Nat=>.int (k:Int)) (λ_=>.list []) (λ_ _ _ _ _=>rfl) (zK ∅) (by walk_at"cc") rfl #[2] ⋯ ?_) ?_) #[0] ?_
 ·intro k hk;exact egn #[0] (EvO.toE (yf (ds:=[]) zC #[2]))
 ·show _=(line.map λ_=>[]).map nl;rw[ζA];rfl
 have lg:∀j:Nat,j < m + prs.length→atI (line.map λk:Nat=>PyData.int (k:Int)) (j:Int)=some (.int (line.getD j 0:Nat))∧line.getD j 0 < m + prs.length:=λj hj=>by
  have z:line[j]?=some (line.getD j 0):=zo ⋯;exact⟨yz z,hoe _ (ζd z)⟩
 refine yv (ds:=(List.range m).map λi:Nat=>.int (i:Int)) true (λi Γ=>∃x,Γ=[some (.fz false (il ns)),some (.fz false (.int m)),some (.fz false (.int 3)),some (.fz true (nls kin)),some (.fz true (.list (prL prs))),some (.fz true (nl line)),x,some (.ow true ((csN line kin i).map nl))]) (yM (n:=(m:Int)) ∅ ⋯ ⋯) ⟨_,rfl⟩ ?_ ?_
 ·rintro i d Γ' hd ⟨x,rfl⟩;obtain⟨hi,rfl⟩:=yo hd;refine⟨_,egn #[0] ?_⟩
  have gk:kin[i]?=some (kin.getD i []):=zo ⋯;have gke:=ke _ (ζd gk);have a1:atI (kin.map nl) (i:Int)=some (nl (kin.getD i [])):=yz gk;have a2:=lg i ⋯;generalize er:kin.getD i []=r at a1 gke;refine exi1 (j:=line.getD i 0) (m:=(line.getD i 0:Nat)) (d:=nl (srtN (r.map λj=>line.getD j 0))) #[1] (EvE.eq (EvO.toE (xw (ns:=zl (r.map λj=>line.getD j 0)) (EvO.toL (EvO.eq (wH (κ:=false) (κ':=false) (is:=[0]) (xs:=r) (λk:Nat=>.int (k:Int)) (λj=>.int (line.getD j 0:Nat)) (λx _ y _ h=>by cases wu h; rfl) (zK (zP (κ:=false) ∅ ∅ a1)) (by walk_at"cc") rfl #[2] ⋯ ?_) ?_)) ?_)) ?_) (EvE.imm (κ:=false) (zP (κ:=false) ∅ ∅ a2.1) rfl) (wj (by rw[ζa,uZ,hol]; exact a2.2)) #[0] ?_
  ·intro j hj;have:=lg j (gke.1 j hj);exact egn #[0] (EvE.imm (κ:=false) (zP (κ:=false) ∅ ∅ this.1) rfl)
  ·unfold zl;rw[ζA,ζA];rfl
  ·unfold zl;rw[ζa,ζa];omega
  ·exact congrArg PyData.list (Zl _)
  ·show∃x,_;have:(csN line kin (i + 1)).map nl=((csN line kin i).map nl).set (line.getD i 0) (nl (srtN ((kin.getD i []).map λj=>line.getD j 0))):=by
    show((csN line kin i).set _ _).map nl=_;rw[List.map_set]
   rw[this,er];exact⟨_,rfl⟩
 rintro Γ' ⟨x2,rfl⟩;rw[yn];generalize csN line kin m=cs;refine exfz 7 #[1] #[0] ?_;refine zO true (zaO (zh ∅ (zh (EvE.eq (EvO.toE (xw (ns:=zl (line.drop m)) (EvO.toL (EvO.eq (xx (ds:=line.map λk:Nat=>.int (k:Int)) ∅ ∅ ∅) ?_)) ?_)) ?_) (zh (EvO.toE (EvO.eq (xx (ds:=line.map λk:Nat=>.int (k:Int)) ∅ ∅ ∅) ?_)) zC))) (by show 3≤_; omega)) rfl (.inl ⟨rfl,rfl⟩)
 ·rw[za9 _ _ ⋯];unfold zl;rw[ζA];rfl
 ·unfold zl;rw[ζa,ζ5];omega
 ·exact congrArg PyData.list (Zl _)
 ·exact zcA _ line m
theorem zcG(ns:AE)(k:Nat):(arR ns k).length≤k:=by
 have fl:=ζV (λj=>decide (zv ns (2 + k) / pw5 j % 2=1)) (List.range k);rw[ζz]at fl;unfold arR;split
 ·rename_i h;rw[ζg];show(arK ns k).length + 1≤k;have ne:(arK ns k).length≠k:=λz=>by
   have:arK ns k=List.range k:=List.Sublist.eq_of_length ζx (by rw[z,ζz]);rw[this]at h;exact h.2.2 (ζE.mpr ⋯)
  have:(arK ns k).length≤k:=fl;omega
 ·exact fl
theorem QV(ns:AE){m k:Nat}(hm:2≤m):(ppK ns m k).1≠(ppK ns m k).2:=by
 unfold ppK;split
 ·show 0≠m - 1;omega
 ·have a0:=ζU (zv ns (9 + k)) (show(m:Int)≠0 by omega);have a1:=ζO (zv ns (9 + k)) (show(0:Int) < m by omega);have c0:=ζU (zv ns (9 + k) / m) (show(m:Int) - 1≠0 by omega);have c1:=ζO (zv ns (9 + k) / m) (show(0:Int) < (m:Int) - 1 by omega);generalize zv ns (9 + k) % m=x at *;generalize zv ns (9 + k) / m % ((m:Int) - 1)=y at *;show x.toNat≠((x + 1 + y) % m).toNat;by_cases h:x + 1 + y < m
  ·rw[ξJ ⋯ h];omega
  ·rw[show x + 1 + y=(x + 1 + y - m) + m by omega,Int.add_emod_right,ξJ ⋯ ⋯];omega
theorem add5{kin:AI}{o x c:Nat}(h:∀r∈kin,r.length≤c)(ho:o < kin.length)(h4:(kin.getD o []).length + 1≤c):∀r∈yC kin o x,r.length≤c:=λr hr=>by
 unfold yC at hr;rcases List.mem_or_eq_of_mem_set hr with hr | rfl
 ·exact h r hr
 ·rw[ζg]; exact h4
theorem T4(kin:AI){o x p:Nat}(h:p≠o):(yC kin o x).getD p []=kin.getD p []:=by
 unfold yC;rw[ζb,ζy (Ne.symm h),←ζb]
theorem pp5(ns:AE){m:Nat}(hm:2≤m){kin:AI}(hk:vK m (kin,[]) 0)(h:∀r∈kin,r.length≤5):∀k,∀r∈(ppN ns m kin k).1,r.length≤5
 | 0=>h
 | k + 1=>by
  have ih:=pp5 ns hm hk h k;have ok:=tq ns hm hk k;have o:=ZC ns (k:=k) hm;have ne:=QV ns (k:=k) hm;show∀r∈(ppS m (ppK ns m k) (ppN ns m kin k)).1,r.length≤5;generalize ppN ns m kin k=st at ih ok;generalize ppK ns m k=p at o ne;unfold ppS;split
  ·rename_i q;have l1:(yC st.1 p.1 (m + st.2.length)).length=m:=by unfold yC; rw[List.length_set]; exact ok.l
   exact add5 (add5 ih (by rw[ok.l]; exact o.1) ⋯) (by rw[l1]; exact o.2) (by rw[T4 _ (Ne.symm ne)]; omega)
  ·exact ih
theorem Uo(ns:AE):∀n,(lnN ns n).Perm (List.range n)
 | 0=>.refl _
 | k + 1=>by
  have ih:=Uo ns k;unfold lnN;generalize (zv ns (14 + k) % ((k:Int) + 1)).toNat=m;refine List.Perm.trans ξX ?_;rw[ζX,List.range_succ];exact(List.Perm.cons k ih).trans (List.perm_append_singleton k (List.range k)).symm
theorem UN{n:Nat}{line:AF}{kin:AI}(hl:∀j,line.getD j 0 < n)(h5:∀r∈kin,r.length≤5):∀k,∀own∈csN line kin k,(∀c∈own,c < n)∧own.length≤5
 | 0=>λown ho=>by
  obtain⟨_,_,rfl⟩:=ζp.mp (show own∈line.map λ_=>([]:AF)from ho);exact⟨λc hc=>(nomatch hc),ξj _⟩
 | k + 1=>λown ho=>by
  rcases List.mem_or_eq_of_mem_set (show own∈(csN line kin k).set (line.getD k 0) (srtN ((kin.getD k []).map λj=>line.getD j 0))from ho)with h | rfl
  ·exact UN hl h5 k own h
  ·refine⟨λc hc=>?_,?_⟩
   ·obtain⟨j,_,rfl⟩:=ζp.mp ((ym _).mem_iff.mp hc);exact hl j
   ·rw[(ym _).length_eq,ζa];by_cases hk:k < kin.length
    ·exact h5 _ (ζd (zo hk))
    ·rw[ζb,ζ7 ⋯];exact ξj _
theorem V6{n:Nat}{xs:AF}(nd:xs.Nodup)(h:∀x∈xs,x < n):srtN xs=(List.range n).filter λj=>decide (j∈xs):=by
 have r:=VV (Wp (λj=>decide (j∈xs)) n);have e:srt (zl xs)=zl ((List.range n).filter λj=>decide (j∈xs)):=by
  refine(Zm ?_ r.1).symm;unfold zl;refine List.Perm.map _ ?_;rw[ξa (List.nodup_range.sublist ζx) nd];intro a;rw[ζm,ζE,decide_eq_true_eq];exact⟨λz=>z.2,λz=>⟨h a z,z⟩⟩
 unfold srtN;rw[e];unfold zl;rw[ζA];exact List.map_id' _
structure ShF(m n:Nat)(cs:AI)(hs ln:AF):Prop where
 l:cs.length=n
 ck:∀own∈cs,(∀c∈own,c < n)∧own.length≤5
 m2:2≤m
 m4:m≤4
 nm:m≤n
 n7:n≤m + 3
 hl:hs.length=n - m
 pm:(zD n hs ++ hs).Perm (List.range n)
 sn:srtN ln=zD n hs
 ll:ln.length=m
 un:hs=(List.range n).filter λj=>!decide (j∈zD n hs)
theorem Qw(ns:AE){m:Nat}(m2:2≤m)(m4:m≤4):ShF m (csF ns m).length (csF ns m) (hiF ns m) ((zZ ns m).take m):=by
 have m6:m≤6:=by omega
 have K5:=pp5 ns m2 (ZX ns m6) (λr hr=>by
  obtain⟨k,hk,rfl⟩:=ζp.mp hr;have:=zcG ns k;have:=ζE.mp hk;omega) (zv ns 8 % 4).toNat
 have ST:=YV ns m2 m6;have LL:=tU ns (m + (stF ns m).2.length);have pm:=Uo ns (m + (stF ns m).2.length);have el:(csF ns m).length=m + (stF ns m).2.length:=by unfold csF; rw[uZ]; exact LL.1
 have p3:=ST.p;have line_lt:∀j,(zZ ns m).getD j 0 < m + (stF ns m).2.length:=λj=>by
  by_cases hj:j < (zZ ns m).length
  ·exact LL.2 _ (ζd (zo hj))
  ·rw[ζb,ζ7 ⋯];show 0 < _;omega
 rw[el];generalize hn:m + (stF ns m).2.length=n at *;have lf:zZ ns m=lnN ns n:=by unfold zZ; rw[hn]
 have nd:(zZ ns m).Nodup:=by rw[lf]; exact pm.nodup_iff.mpr List.nodup_range
 have mem:∀j,j∈zZ ns m↔j < n:=λj=>by rw[lf,pm.mem_iff,ζE]
 have ls:(zZ ns m).length=n:=by rw[lf]; exact LL.1
 have td:=ζX m (zZ ns m);have nd2:=nd;rw[←td,ζW]at nd2;have hm:∀j,j∈hiF ns m↔j∈(zZ ns m).drop m:=λj=>(ym _).mem_iff;have tin:∀j,j∈(zZ ns m).take m↔j < n∧j∉hiF ns m:=λj=>by
  rw[hm];constructor
  ·intro h;exact⟨(mem j).mp (ξh h),λz=>nd2.2.2 j h j z rfl⟩
  ·rintro⟨h1,h2⟩;have:=(mem j).mpr h1;rw[←td]at this;exact(ζu.mp this).resolve_right h2
 have sin:∀j,j∈zD n (hiF ns m)↔j < n∧j∉hiF ns m:=λj=>by
  unfold zD;rw[ζm,ζE];simp
 have hnd:(hiF ns m).Nodup:=(ym _).nodup_iff.mpr nd2.2.1;have hlt:∀j∈hiF ns m,j < n:=λj hj=>(mem j).mp (List.mem_of_mem_drop ((hm j).mp hj));refine⟨el,?_,m2,m4,⋯,⋯,?_,?_,?_,by rw[ζN,ls]; omega,?_⟩
 ·exact UN line_lt K5 m
 ·unfold hiF;rw[(ym _).length_eq,ζ5,ls]
 ·rw[ξa (by
   rw[ζW];refine⟨Qx _ _,hnd,λa ha b hb=>?_⟩
   rintro rfl;exact((sin a).mp ha).2 hb) List.nodup_range]
  intro a;rw[ζu,sin,ζE];constructor
  ·rintro(h | h)
   ·exact h.1
   ·exact hlt a h
  ·intro h;by_cases z:a∈hiF ns m
   ·exact .inr z
   ·exact .inl ⟨h,z⟩
 ·rw[V6 (n:=n) nd2.1 λx hx=>(mem x).mp (ξh hx)];unfold zD;refine ξ6 λj hj=>?_;have hj:=ζE.mp hj;by_cases z:j∈hiF ns m
  ·rw[decide_eq_true z,decide_eq_false λh=>((tin j).mp h).2 z]; rfl
  ·rw[decide_eq_false z,decide_eq_true ((tin j).mpr ⟨hj,z⟩)]; rfl
 ·conv=>lhs; unfold hiF
  rw[V6 (n:=n) nd2.2.1 λx hx=>(mem x).mp (List.mem_of_mem_drop hx)];refine ξ6 λj hj=>?_;have hj:=ζE.mp hj;by_cases z:j∈hiF ns m
  ·rw[decide_eq_true ((hm j).mp z),decide_eq_false λh=>((sin j).mp h).2 z]; rfl
  ·rw[decide_eq_false λh=>z ((hm j).mpr h),decide_eq_true ((sin j).mpr ⟨hj,z⟩)]; rfl
theorem Uf(ss:AE)(ks:AF)(k:Nat):pk ss (ks ++ [k])=pk ss ks ++ [ss.getD k 0]:=by
 unfold Sx2.pk;rw[ζv];rfl
def xS(ds:AG)(d:AD):Prop:=∃a b:Int,ds=[.int a,.int b]∧1≤b∧d=.int (Int.gcd a b:Nat)
theorem Z4:zw ["_law_one","_law_other","_law_rest"] ["_law_one","_law_other"] (zn (top 48)):={}
theorem Ya(F:Fun K "_law_common" "_law_common" (top 48) f fd)(B:Bs mg): FnOk P w K mg base CX0 1 f fd ["_law_one","_law_other"] (spD K true xS):=by
 have sc:=Z4;refine F.ok sc (λvs H Q E h=>zH (λ_ _⟨_,_,e,_⟩=>by rw[e];rfl) h) (λcdv A outer s H vs Q E hr h=>?_);obtain⟨Fh,ds,d,le,dp,p,q⟩:=h
 refine⟨_,(ze (pS (i:=0) sc.nd (pB W5 B.abs (zb (pv 0) zd)))
   (ze (pS (i:=1) sc.nd (pB W5 B.abs (zb (pv 1) zd)))
   (ze (wB AC (zF Yr (pv 1) zf (zT _)) (ze (pS (i:=2) sc.nd (zm yi (pv 0) (pv 1)))
   (ze (pS (i:=0) sc.nd (pv 1))
   (zg (pS (i:=1) sc.nd (pv 2))))))
   (zg (zE (pv 0)))))),?_⟩
 have hN:=sc.n 3;obtain⟨a,b,rfl,hb,rfl⟩:=p;walk_at"run";walk_at"go";refine yw (λΓ=>∃y z,Γ=[some (.fz true (.int (Int.gcd a b:Nat))),y,z]) (wG (λm Γ=>∃x y z,Γ=[some (.fz true (.int x)),some (.fz true (.int y)),z]∧0≤y∧(y=0→0 < x)∧Int.gcd x y=Int.gcd a b∧m=y.toNat) b.toNat ⟨_,_,none,rfl,⋯,⋯,by simp[Int.gcd],⋯⟩ ?_) ?_
 ·rintro m Γ' ⟨x,y,z,rfl,hy,hx,hg,rfl⟩;refine⟨!decide (y=0),∅, λc=>?_,λc=>?_⟩
  ·have y0:y≠0:=by simpa using c
   have yp:0 < y:=by omega
   refine exs true ∅ #[0] ?_;refine exs true ∅ #[0] ?_;refine exs1 true ∅ #[0] ?_;have h1:=ζO x yp;have h2:=ζU x y0;exact⟨_,⋯,y,x % y,_,rfl,h2,λ_=>yp,by rw[WS]; exact hg,rfl⟩
  ·have y0:y=0:=by simpa using c
   subst y0;rw[Int.gcd_zero_right]at hg;have e:x=((Int.gcd a b:Nat):Int):=by have:=hx rfl; omega
   rw[e];exact⟨_,_,rfl⟩
 ·rintro Γ' ⟨y,z,rfl⟩;exact zO true ∅ rfl (.inl ⟨rfl,rfl⟩)
theorem Up(ns:AE):∀n,(lnN ns n).Nodup
 | 0=>ξ8
 | k + 1=>by
  have ih:=Up ns k;have hk:k∉lnN ns k:=λz=>by have:=(tU ns k).2 k z; omega
  unfold lnN;refine(List.perm_middle.nodup_iff).mpr ?_;rw[ζX];exact ζ3.mpr ⟨hk,ih⟩
theorem vQ{kin:AI}{o y j x:Nat}(ho:o < kin.length):x∈(yC kin o y).getD j []↔x∈kin.getD j []∨j=o∧x=y:=by
 unfold yC;rw[ζb,ζb (i:=j)];by_cases h:j=o
 ·subst h;rw[ζt ho];show x∈_ ++ [y]↔_;rw[ζu,ζi,ζb];simp
 ·rw[ζy (Ne.symm h)];simp[h]
structure E2(m:Nat)(st:PS2):Prop where
 e:∀i,i < st.2.length→∃a b,a < m∧b < m∧a≠b∧∀j,m + i∈st.1.getD j []↔j=a∨j=b
theorem uP{α:Type}{l:List (List α)}{j:Nat}{x:α}(h:x∈l.getD j []):l.getD j []∈l:=by
 by_cases hj:j < l.length
 ·exact ζd (zo (d:=[]) hj)
 ·rw[ζb,ζ7 ⋯]at h;cases h
theorem zds{m:Nat}{o:Nat×Nat}{st:PS2}{k:Nat}(ho:o.1 < m∧o.2 < m)(hn:o.1≠o.2)(h:vK m st k)(g:E2 m st):E2 m (ppS m o st):=by
 unfold ppS;split
 ·have l1:(yC st.1 o.1 (m + st.2.length)).length=m:=by unfold yC; rw[List.length_set]; exact h.l
  have new:∀j,m + st.2.length∉st.1.getD j []:=λj z=>by
   have:=(h.e _ (uP z)).1 _ z;omega
  refine⟨λi hi=>?_⟩
  have hi:i < (st.2 ++ [o]).length:=hi;rw[ζg]at hi;have hi:i < st.2.length + 1:=hi;have w:∀j,m + i∈(yC (yC st.1 o.1 (m + st.2.length)) o.2 (m + st.2.length)).getD j []↔m + i∈st.1.getD j []∨(j=o.1∨j=o.2)∧i=st.2.length:=λj=>by
   rw[vQ (by rw[l1]; exact ho.2),vQ (by rw[h.l]; exact ho.1)];have:(m + i=m + st.2.length)↔i=st.2.length:=by omega
   rw[this]
   exact⟨fun
    | .inl (.inl z)=>.inl z
    | .inl (.inr z)=>.inr ⟨.inl z.1,z.2⟩
    | .inr z=>.inr ⟨.inr z.1,z.2⟩,fun
    | .inl z=>.inl (.inl z)
    | .inr ⟨.inl z,y⟩=>.inl (.inr ⟨z,y⟩)
    | .inr ⟨.inr z,y⟩=>.inr ⟨z,y⟩⟩
  by_cases c:i=st.2.length
  ·subst c;refine⟨o.1,o.2,ho.1,ho.2,hn,λj=>?_⟩
   rw[w j]
   exact⟨fun
    | .inl z=>absurd z (new j)
    | .inr z=>z.1,λz=>.inr ⟨z,rfl⟩⟩
  ·obtain⟨a,b,h1,h2,h3,h4⟩:=g.e i ⋯;refine⟨a,b,h1,h2,h3,λj=>?_⟩
   rw[w j]
   exact⟨fun
    | .inl z=>(h4 j).mp z
    | .inr z=>absurd z.2 c,λz=>.inl ((h4 j).mpr z)⟩
 ·exact g
theorem QU(ns:AE){m:Nat}(hm:2≤m){kin:AI}(hk:vK m (kin,[]) 0):∀k,E2 m (ppN ns m kin k)
 | 0=>⟨λi hi=>absurd hi (Nat.not_lt_zero i)⟩
 | k + 1=>zds (ZC ns hm) (QV ns hm) (tq ns hm hk k) (QU ns hm hk k)
theorem wg{l:AF}(h:l.Nodup){i j:Nat}(hi:i < l.length)(hj:j < l.length):l.getD i 0=l.getD j 0↔i=j:=by
 rw[ζb,ζb,ζe hi,ζe hj];exact⟨λe=>(List.getElem_inj h).mp (ζr (congrArg some e)),λe=>by subst e; rfl⟩
theorem wq{line:AF}{kin:AI}(nd:line.Nodup)(lt:∀x∈line,x < line.length)(j x:Nat):∀k,k≤line.length→(x∈(csN line kin k).getD j []↔∃i,i < k∧j=line.getD i 0∧∃t∈kin.getD i [],x=line.getD t 0)
 | 0,_=>by
  have:(csN line kin 0).getD j []=[]:=by
   unfold csN;rw[ζb,ζo];cases line[j]? <;> rfl
  rw[this];exact⟨λz=>(nomatch z),λ⟨i,hi,_⟩=>absurd hi (Nat.not_lt_zero i)⟩
 | k + 1,hk=>by
  have ih:=wq (kin:=kin) nd lt j x k ⋯;have lk:line.getD k 0 < (csN line kin k).length:=by rw[uZ]; exact lt _ (ζd (zo (d:=0) ⋯))
  have row:∀i,(x∈srtN ((kin.getD i []).map λj=>line.getD j 0))↔∃t∈kin.getD i [],x=line.getD t 0:=λi=>by
   rw[(ym _).mem_iff,ζp];exact⟨λ⟨t,h1,h2⟩=>⟨t,h1,h2.symm⟩,λ⟨t,h1,h2⟩=>⟨t,h1,h2.symm⟩⟩
  unfold csN;rw[ζb];by_cases c:j=line.getD k 0
  ·rw[c,ζt lk];show x∈srtN _↔_;rw[row k];refine⟨λz=>⟨k,⋯,rfl,z⟩,λ⟨i,hi,e,z⟩=>?_⟩
   rw[(wg nd ⋯ ⋯).mp e];exact z
  ·rw[ζy (Ne.symm c),←ζb,ih];refine⟨λ⟨i,hi,z⟩=>⟨i,⋯,z⟩,λ⟨i,hi,e,z⟩=>⟨i,?_,e,z⟩⟩
   have:i≠k:=λy=>c (y ▸ e);omega
def TwE(cs:AI)(hs:AF):Prop:=∀h∈hs,∃a b,a < b∧b < cs.length∧∀j,h∈cs.getD j []↔j=a∨j=b
theorem Qf(ns:AE){m:Nat}(h2:2≤m)(h6:m≤6):TwE (csF ns m) (hiF ns m):=by
 intro h hh;have s:=YV ns h2 h6;have g:E2 m (stF ns m):=QU ns h2 (ZX ns h6) _;have l:=tU ns (m + (stF ns m).2.length);have nd:(zZ ns m).Nodup:=Up ns _;have ll:(zZ ns m).length=m + (stF ns m).2.length:=l.1;have lt:∀x∈zZ ns m,x < (zZ ns m).length:=λx hx=>by rw[ll]; exact l.2 x hx
 have hd:=(ym _).mem_iff.mp hh;obtain⟨i,hi,e⟩:=ξx.mp hd;rw[ζ5,ll]at hi;rw[ξ5]at e;have e:h=(zZ ns m).getD (m + i) 0:=by rw[ζb,ζe ⋯]; exact e.symm
 obtain⟨a,b,am,bm,ab,w⟩:=g.e i ⋯;have key:∀j,h∈(csF ns m).getD j []↔j=(zZ ns m).getD a 0∨j=(zZ ns m).getD b 0:=λj=>by
  unfold csF;rw[wq nd lt j h m ⋯];constructor
  ·rintro⟨i',hi',ej,t,ht,et⟩;have tl:=(s.e _ (uP ht)).1 t ht;have:m + i=t:=(wg nd ⋯ ⋯).mp (e.symm.trans et);rw[←this,w i']at ht;rcases ht with rfl | rfl
   ·exact .inl ej
   ·exact .inr ej
  ·rintro(ej | ej)
   ·exact⟨a,am,ej,m + i,(w a).mpr (.inl rfl),e⟩
   ·exact⟨b,bm,ej,m + i,(w b).mpr (.inr rfl),e⟩
 have cl:(csF ns m).length=(zZ ns m).length:=uZ ..;have na:(zZ ns m).getD a 0 < (csF ns m).length:=by rw[cl]; exact lt _ (ζd (zo (d:=0) ⋯))
 have nb:(zZ ns m).getD b 0 < (csF ns m).length:=by rw[cl]; exact lt _ (ζd (zo (d:=0) ⋯))
 have ne:(zZ ns m).getD a 0≠(zZ ns m).getD b 0:=λz=>ab ((wg nd ⋯ ⋯).mp z);rcases Nat.lt_or_gt_of_ne ne with c | c
 ·exact⟨_,_,c,nb,key⟩
 ·exact⟨_,_,c,na,λj=>(key j).trans Or.comm⟩
theorem zeR{n:Nat}{cs:AI}(h:ShOk n cs)(n12:n≤12)(wi:AF):NxOk n (inF cs wi):=⟨n12,λx hx y hy=>(h.at hx).2.1 y (ζm.mp hy).1,λx hx=>ζ8 (ζV _ _) (h.at hx).2.2⟩
noncomputable def dueL(n:Nat)(cs:AI)(sm wi:AF):AF:=wi.filter λk=>decide (k∈rchL n (inF cs wi) sm)
structure MK(m:DTab)(fo:AF):Prop where
 has:∀k:Nat,(dGet m (k:Int)).isSome=decide (k∈fo)
 len:m.length≤fo.length
theorem MK.put{m:DTab}{fo:AF}(h:MK m fo)(k:Nat)(v:V):MK (dPut m (k:Int) v) (fo ++ [k]):=⟨λj=>by
 rw[za7];by_cases e:j=k
 ·rw[if_pos (by rw[e]),e,decide_eq_true (ζJ _ (ζi.mpr rfl))];rfl
 ·rw[if_neg ⋯,h.has j];refine decide_eq_decide.mpr ⟨λz=>ζM _ z,λz=>?_⟩;rcases ζu.mp z with z | z
  ·exact z
  ·exact absurd (ζi.mp z) e,by
 have:=za6 m (k:Int) v;have:=h.len;rw[ζg];show _≤_ + 1;omega⟩
theorem zdU{n:Nat}{nx:Nat→AF}{sm fo:AF}(no:NxOk n nx)(so:SmOk n sm)(h:GI n nx sm fo [])(x:Nat):x∈fo↔x∈rchL n nx sm:=by
 rw[←h.end no so,(ym fo).mem_iff]
theorem UG(l:AF):PyData.eqv (nl l) (.list [])=decide (l=[]):=by cases l <;> rfl
def ug(ds:AG)(d:AD):Prop:=∃(n:Nat) (cs:AI) (sm wi:AF),ds=[nls cs,nl sm,nl wi]∧ShOk n cs∧n≤12∧SmOk n sm∧wi.length≤1000∧d=nl (dueL n cs sm wi)
theorem Xc:zw ["_law_causes","_law_some","_law_within","_law_marks","_law_waiting","_law_k"] ["_law_causes","_law_some","_law_within"] (zn (top 51)):={}
theorem Xz(F:Fun K "_law_above" "_law_above" (top 51) f fd)(B:Bs mg): FnOk P w K mg base CX0 1 f fd ["_law_causes","_law_some","_law_within"] (spD K true ug):=by
 have sc:=Xc;refine F.ok sc (λvs H Q E h=>zH (λ_ _⟨_,_,_,_,e,_⟩=>by rw[e];rfl) h) (λcdv A outer s H vs Q E hr h=>?_);obtain⟨Fh,ds,d,le,dp,p,q⟩:=h
 refine⟨_,(ze (pS (i:=3) sc.nd Q3)
   (ze (pS (i:=4) sc.nd (pY (yh (K:=K) rfl) B.list (zb (pv 1) zd)))
   (ze (wB AC (zF (Uk (K:=K) rfl hr.units) (pv 4) (zR zd) (zT _)) (ze (pS (i:=5) sc.nd (Ui (K:=K) rfl ζs PySem.F.slot_list_pop PySem.F.type_list_pop zab (pv 4)))
   (zg (yK (QS (Tf (zat hr) (pv 5) (pv 3))) (ze (zbR (zat hr) (pv 3) (pv 5) uN rfl)
   (zg (pS (i:=4) sc.nd (zm (vA (K:=K) rfl) (pv 4) (yE rfl (N:=["_law_j","_law_within"]) (js:=[none,some 2]) (by walk_at"comp_ok") (zG (K:=K) rfl (pX (zu (K:=K) rfl) (pv 0) (pv 5))) (λ_ _ _ _=>(pN (i:=0) (show υN ["_law_j","_law_within"]by decide +kernel))) (λ_ _ _ _=>(yQ (zF (yV (K:=K) rfl) (pv 0) (pv 1) (rfl)))) (λ_ _ _ _=>(pv 0))))))) zY))))
   (zg (zE (yE rfl (N:=["_law_k","_law_marks"]) (js:=[none,some 3]) (by walk_at"comp_ok") (zG (K:=K) rfl (pv 2)) (λ_ _ _ _=>(pN (i:=0) (show υN ["_law_k","_law_marks"]by decide +kernel))) (λ_ _ _ _=>(yQ (QS (zdB (zat hr) (pv 0) (pv 1))))) (λ_ _ _ _=>(pv 0)))))))),?_⟩
 have hN:=sc.n 6;obtain⟨n,cs,sm,wi,rfl,ok,n12,so,wl,rfl⟩:=p;have big:=zI;have no:=zeR ok n12 wi;have sl:=so.l;walk_at"run";refine zcn #[0] ?_;refine exo true (ds:=sm.map λk:Nat=>.int (k:Int)) (yW (EvL.imm (κ:=false) (EvE.toL ∅) (vB sm))) #[0] ?_;refine yw (λΓ=>∃m fo x y,MK m fo∧GI n (inF cs wi) sm fo []∧Γ=[some (.fz false (nls cs)),some (.fz false (nl sm)),some (.fz false (nl wi)),some (.od (.dK m)),x,y]) (wG (λq Γ=>∃(m:DTab) (fo wa:AF) (x:Option DV),MK m fo∧GI n (inF cs wi) sm fo wa∧q=(n - fo.length) * 61 + wa.length∧Γ=[some (.fz false (nls cs)),some (.fz false (nl sm)),some (.fz false (nl wi)),some (.od (.dK m)),some (.ow true (wa.map λk:Nat=>.int (k:Int))),x]) _ ⟨[],[],sm,none,⟨λk=>by rw[za8]; rfl,ζl _⟩,⟨ξ8,λ_ z=>(nomatch z),λx hx=>.base hx,λ_ z=>(nomatch z),λx hx=>.inr hx,⋯⟩,rfl,rfl⟩ ?_) ?_
 ·rintro q Γ' ⟨m,fo,wa,x,mk,gi,rfl,rfl⟩;have fl:=tw n fo gi.nd λx hx=>(gi.fl x hx).lt no so;have ll:=gi.ll;have ml:=mk.len;refine⟨!decide (wa=[]),EvT.eq (zM (zaU (neg:=true) (d:=nl wa) (f:=.list []) (EvL.toD (κ:=true) ∅) (EvE.toD (κ:=true) (EvO.toE (yf (ds:=[]) zC #[2]))) (Yl _) rfl)) (by show(!PyData.eqv _ _)=_; rw[UG]),λh=>?_,λh=>?_⟩
  ·have h':wa≠[]:=by simpa using h
   obtain⟨wb,k,rfl⟩:∃wb k,wa=wb ++ [k]:=by
    rcases List.eq_nil_or_concat wa with rfl | ⟨wb,k,e⟩
    ·exact absurd rfl h'
    ·exact⟨wb,k,by rw[e,List.concat_eq_append]⟩
   have rk:=gi.wl k (ζJ _ (ζi.mpr rfl));have kn:=rk.lt no so;have nl12:=no.l k kn;have A:=ok.at kn;have A2:=A.2.2;have ak:atI (cs.map nl) (k:Int)=some (nl (cs.getD k [])):=yz A.1;rw[show(wb ++ [k]).map (λk:Nat=>PyData.int (k:Int))=wb.map (λk:Nat=>PyData.int (k:Int)) ++ [.int (k:Int)]from by rw[ζv]; rfl];rw[ζg]at ll ⊢;refine yw (·=[some (.fz false (nls cs)),some (.fz false (nl sm)),some (.fz false (nl wi)),some (.od (.dK m)),some (.ow true (wb.map λk:Nat=>.int (k:Int))),some (.fz true (.int (k:Int)))]) (UD (i:=4) (j:=5) (ds:=wb.map λk:Nat=>.int (k:Int)) (d:=.int (k:Int)) #[1] #[2] #[0] #[0] rfl) ?_;rintro Γ' rfl;refine vE (b:=!decide (k∈fo)) (EvT.eq (et_B (TN (i:=3) (k:=(k:Int)) #[1] ∅)) (by rw[mk.has k])) (λc=>?_) (λc=>?_)
   ·have c':k∉fo:=by simpa using c
    have gn:=gi.new nl12 c';have fn:fo.length + 1≤n:=by
     have:=tw n (fo ++ [k]) gn.nd λx hx=>(gn.fl x hx).lt no so
     rwa [ζg]at this
    refine zaG (d:=.bool true) (w:=.bl true) (k:=(k:Int)) #[1] ∅ ∅ rfl ⋯ #[0] ?_;have fl2:(inF cs wi k).length≤60:=nl12;refine exo1 true (ds:=(wb ++ inF cs wi k).map λk:Nat=>.int (k:Int)) (EvO.eq (uU (xs:=wb.map λk:Nat=>.int (k:Int)) (ys:=(inF cs wi k).map λk:Nat=>.int (k:Int)) ∅ (EvO.toL (yx (κ:=true) (is:=[0]) (xs:=cs.getD k []) false (λk:Nat=>.int (k:Int)) (λk:Nat=>.int (k:Int)) (λc=>decide (c∈wi)) (λx _ y _ h=>by cases wu h; exact⟨rfl,rfl⟩) (zK (zP (κ:=false) ∅ ∅ ak)) (by walk_at"cc") rfl #[2] ⋯ ?_)) (by rw[ζa,ζa]; omega)) (by rw[ζv])) #[0] ?_
    ·intro c hc;exact egn #[0] ⟨EvT.eq (zM (xt (neg:=false) (i:=(c:Int)) (ns:=zl wi) ∅ (EvE.toL (EvE.eq (κ:=false) ∅ (yR _))))) xq,λ_=>by walk_at"ev"⟩
    refine⟨_,?_,_,fo ++ [k],wb ++ inF cs wi k,_,mk.put k (.bl true),gn,rfl,rfl⟩
    rw[ζg,ζg];show(n - (fo.length + 1)) * 61 + _ < (n - fo.length) * 61 + (wb.length + 1);omega
   ·have c':k∈fo:=by simpa using c
    refine yl ⟨_,?_,m,fo,wb,_,mk,gi.old c',rfl,rfl⟩;show _ < _ + (wb.length + 1);omega
  ·have e:wa=[]:=by simpa using h
   subst e;exact⟨m,fo,_,_,mk,gi,rfl⟩
 ·rintro Γ' ⟨m,fo,x,y,mk,gi,rfl⟩;refine zO true (EvO.toE (yx (κ:=true) (is:=[0]) (xs:=wi) false (λk:Nat=>.int (k:Int)) (λk:Nat=>.int (k:Int)) (λk=>decide (k∈rchL n (inF cs wi) sm)) (λx _ y _ h=>by cases wu h; exact⟨rfl,rfl⟩) (zK ∅) (by walk_at"cc") rfl #[2] ⋯ ?_)) rfl (.inl ⟨rfl,rfl⟩);intro k hk;refine egn #[0] ⟨EvT.eq (et_B (zea (i:=1) (k:=(k:Int)) #[1] ∅)) ?_,λ_=>by walk_at"ev"⟩;rw[mk.has k];exact decide_eq_decide.mpr (zdU no so gi k)
theorem Vz:∀(l sm:AF),l.Nodup→(∀x∈l,x∈sm)→l.length≤sm.length
 | [],_,_,_=>ξj _
 | x :: l,sm,nd,h=>by
  obtain⟨n1,n2⟩:=ζ3.mp nd;have hx:=h x ζf;have ih:=Vz l (sm.erase x) n2 λy hy=>(List.mem_erase_of_ne (λe=>n1 (by rw[←e]; exact hy))).mpr (h y (ζk _ hy));rw[List.length_erase_of_mem hx]at ih;have:=List.length_pos_of_mem hx;show l.length + 1≤_;omega
structure CI(cs:AI)(hs sm:AF)(k:Nat)(fo:AF):Prop where
 nd:fo.Nodup
 kf:k∈fo
 s:∀x∈fo,x∈sm
 r:∀x∈fo,Rch (lkF cs hs sm) [k] x
def Clh(cs:AI)(sm fo:AF)(h:Nat):Prop:=∀x∈fo,∀y∈sm,h∈cs.getD x []→h∈cs.getD y []→y∈fo
theorem CI.add{cs:AI}{hs sm fo:AF}{k h x y:Nat}(c:CI cs hs sm k fo)(hh:h∈hs)(hx:x∈fo)(hy:y∈sm)(hn:y∉fo)(h1:h∈cs.getD x [])(h2:h∈cs.getD y []):CI cs hs sm k (fo ++ [y]):=by
 refine⟨?_,ζM _ c.kf,λz hz=>?_,λz hz=>?_⟩
 ·rw[ζW];exact⟨c.nd,by simp,λa ha b hb=>by rw[List.mem_singleton.mp hb]; rintro rfl; exact hn ha⟩
 ·rcases ζu.mp hz with hz | hz
  ·exact c.s z hz
  ·rw[ζi.mp hz]; exact hy
 ·rcases ζu.mp hz with hz | hz
  ·exact c.r z hz
  ·rw[ζi.mp hz];exact .step (c.r x hx) (tD.mpr ⟨hy,h,hh,h1,h2⟩)
theorem CI.end{n:Nat}{cs:AI}{hs sm fo:AF}{k:Nat}(c:CI cs hs sm k fo)(lt:∀x∈sm,x < n)(cl:∀h∈hs,Clh cs sm fo h):srtN fo=rchL n (lkF cs hs sm) [k]:=by
 refine vm (Yj c.nd) (wz ..) λx=>?_;rw[(ym fo).mem_iff,yO];refine⟨λz=>⟨lt x (c.s x z),c.r x z⟩,λz=>?_⟩
 have r:=z.2;clear z;induction r with
 | base z=>rw[ζi.mp z]; exact c.kf
 | step _ z ih =>
  obtain⟨h0,h,h1,h2,h3⟩:=tD.mp z;exact cl h h1 _ ih _ h0 h2 h3
structure CJ(cs:AI)(hs sm:AF)(k:Nat)(fo0:AF)(i:Nat)(fo:AF):Prop where
 c:CI cs hs sm k fo
 o:(fo=fo0∧∀h∈hs.take i,Clh cs sm fo0 h)∨(fo0.length < fo.length∧¬∀h∈hs,Clh cs sm fo0 h)
theorem CJ.keep{cs:AI}{hs sm fo0 fo:AF}{k i h:Nat}(c:CJ cs hs sm k fo0 i fo)(hk:hs[i]?=some h)(cl:Clh cs sm fo h):CJ cs hs sm k fo0 (i + 1) fo:=⟨c.c,by
 rcases c.o with⟨rfl,o⟩ | o
 ·refine .inl ⟨rfl,λh' hh=>?_⟩;rw[take_succ hk]at hh;rcases ζu.mp hh with hh | hh
  ·exact o h' hh
  ·rw[ζi.mp hh]; exact cl
 ·exact .inr o⟩
theorem CJ.more{cs:AI}{hs sm fo0 fo:AF}{k i h x y:Nat}(c:CJ cs hs sm k fo0 i fo)(hk:hs[i]?=some h)(hx:x∈fo)(hy:y∈sm)(hn:y∉fo)(h1:h∈cs.getD x [])(h2:h∈cs.getD y []):CJ cs hs sm k fo0 (i + 1) (fo ++ [y]):=⟨c.c.add (ζd hk) hx hy hn h1 h2,.inr (by
 rw[ζg];show _ < _ + 1∧_;rcases c.o with⟨rfl,o⟩ | o
 ·exact⟨Nat.lt_succ_self _,λz=>hn (z h (ζd hk) x hx y hy h1 h2)⟩
 ·exact⟨⋯,o.2⟩)⟩
def uf(ds:AG)(d:AD):Prop:=∃(n:Nat) (cs:AI) (hs sm:AF) (k:Nat),ds=[nls cs,nl hs,nl sm,.int k]∧TwE cs hs∧cs.length=n∧n≤12∧hs.length≤12∧sm.Pairwise (· < ·)∧(∀x∈sm,x < n)∧sm.length≤12∧k∈sm∧d=nl (rchL n (lkF cs hs sm) [k])
theorem zaZ{cs:AI}{sm:AF}{h a b:Nat}(rise:sm.Pairwise (· < ·))(ab:a < b)(w:∀j,h∈cs.getD j []↔j=a∨j=b):(a∈sm∧b∈sm→(sm.filter λj=>decide (h∈cs.getD j []))=[a,b])∧(¬(a∈sm∧b∈sm)→(sm.filter λj=>decide (h∈cs.getD j [])).length≠2):=by
 have mem:∀j,j∈(sm.filter λj=>decide (h∈cs.getD j []))↔j∈sm∧(j=a∨j=b):=λj=>by rw[ζm,decide_eq_true_eq,w j]
 have fr:(sm.filter λj=>decide (h∈cs.getD j [])).Pairwise (· < ·):=rise.sublist ζx;constructor
 ·rintro⟨ha,hb⟩;refine vm fr (by simp[ab]) λj=>?_;rw[mem j];simp only[List.mem_cons,List.not_mem_nil,or_false];exact⟨λz=>z.2,λz=>⟨by rcases z with rfl | rfl <;> assumption,z⟩⟩
 ·intro c e;generalize (sm.filter λj=>decide (h∈cs.getD j []))=l at mem fr e
  match l,e with
  | [x,y],_ =>
   have xy:x < y:=(ξu.mp fr).1 y (ζi.mpr rfl);have hx:=(mem x).mp ζf;have hy:=(mem y).mp (ζk _ (ζi.mpr rfl));refine c ?_;rcases hx.2 with e1 | e1 <;> rcases hy.2 with e2 | e2 <;> subst e1 <;> subst e2
   ·omega
   ·exact⟨hx.1,hy.1⟩
   ·omega
   ·omega
theorem Uj{fo:AF}{a b:Nat}(ha:a∈fo)(hb:b∉fo):([a,b].filter λj=>!decide (j∈fo))=[b]∧([b,a].filter λj=>!decide (j∈fo))=[b]:=by
 refine⟨?_,?_⟩
 ·rw[List.filter_cons_of_neg (by rw[decide_eq_true ha]; simp),List.filter_cons_of_pos (by rw[decide_eq_false hb]; rfl)];rfl
 ·rw[List.filter_cons_of_pos (by rw[decide_eq_false hb]; rfl),List.filter_cons_of_neg (by rw[decide_eq_true ha]; simp)];rfl
theorem Xb:zw ["_law_causes","_law_hidden","_law_some","_law_k","_law_clump_here","_law_step","_law_h","_law_ends"] ["_law_causes","_law_hidden","_law_some","_law_k"] (zn (top 50)):={}
theorem Xy(F:Fun K "_law_clump" "_law_clump" (top 50) f fd)(B:Bs mg): FnOk P w K mg base CX0 1 f fd ["_law_causes","_law_hidden","_law_some","_law_k"] (spD K true uf):=by
 have sc:=Xb;refine F.ok sc (λvs H Q E h=>zH (λ_ _⟨_,_,_,_,_,e,_⟩=>by rw[e];rfl) h) (λcdv A outer s H vs Q E hr h=>?_);obtain⟨Fh,ds,d,le,dp,p,q⟩:=h
 refine⟨_,(ze (pS (i:=4) sc.nd (zR (zb (pv 3) zd)))
   (ze (zU AC rfl (ye rfl B.range (zb (pB (zj (K:=K) rfl) B.len (zb (pv 2) zd)) zd)) (pN (i:=5) sc.nd) (zg (zU AC rfl (zG (K:=K) rfl (pv 1)) (pN (i:=6) sc.nd) (ze (yB (i:=7) rfl sc.nd rfl rfl (N:=["_law_j","_law_h","_law_causes"]) (js:=[none,some 6,some 0]) (by walk_at"comp_ok") (zG (K:=K) rfl (pv 2)) (λ_ _ _ _=>(pN (i:=0) (show υN ["_law_j","_law_h","_law_causes"]by decide +kernel))) (λ_ _ _ _=>(yQ (zF (yV (K:=K) rfl) (pv 1) (pX (zu (K:=K) rfl) (pv 2) (pv 0)) (rfl)))) (λ_ _ _ _=>(pv 0)))
   (zg (yK (PW.pt (u8 (zF wD (pB (zj (K:=K) rfl) B.len (zb (pv 7) zd)) zf (zT _)) (uI (zF Yr (wf (yV (K:=K) rfl) (pX (zu (K:=K) rfl) (pv 7) zf) (pv 4) (rfl)) (wf (yV (K:=K) rfl) (pX (zu (K:=K) rfl) (pv 7) zf) (pv 4) (rfl)) (zT _))))) (zg (pS (i:=4) sc.nd (zm (vA (K:=K) rfl) (pv 4) (yE rfl (N:=["_law_j","_law_clump_here"]) (js:=[none,some 4]) (by walk_at"comp_ok") (zG (K:=K) rfl (pv 7)) (λ_ _ _ _=>(pN (i:=0) (show υN ["_law_j","_law_clump_here"]by decide +kernel))) (λ_ _ _ _=>(yQ (zF (yP (K:=K) rfl) (pv 0) (pv 1) (rfl)))) (λ_ _ _ _=>(pv 0)))))) zY))))))
   (zg (zE (pB (y9 (K:=K) rfl) B.sorted (zb (pv 4) zd)))))),?_⟩
 have hN:=sc.n 8;obtain⟨n,cs,hs,sm,k,rfl,te,cl,n12,hl,rise,lt,sl,ks,rfl⟩:=p;have big:=zI;have el:∀l:AF,PyData.int (((l.map λk:Nat=>PyData.int (k:Int)).length:Nat):Int)=.int (l.length:Int):=λl=>by rw[ζa]
 walk_at"run";refine exs true (d:=nl [k]) (EvO.toE (yf (ds:=[.int (k:Int)]) (zh ∅ zC) (by show 1≤sizeLine; omega))) #[0] ?_;refine yv (ds:=(List.range sm.length).map λi:Nat=>.int (i:Int)) true (λi Γ=>∃(fo:AF) (x y z:Option DV),CI cs hs sm k fo∧(i + 1≤fo.length∨∀h∈hs,Clh cs sm fo h)∧Γ=[some (.fz false (nls cs)),some (.fz false (nl hs)),some (.fz false (nl sm)),some (.fz false (.int k)),some (.fz true (nl fo)),x,y,z]) (yM (n:=(sm.length:Int)) (zh (EvE.eq (yg ∅) (el sm)) zC) ⋯ ⋯) ⟨[k],none,none,none,⟨by simp,List.mem_singleton.mpr rfl,λx hx=>by rw[List.mem_singleton.mp hx]; exact ks,λx hx=>.base hx⟩,.inl (Nat.le_refl _),rfl⟩ ?_ ?_
 ·rintro i d Γ' hd ⟨fo0,x,y,z,c0,o0,rfl⟩;obtain⟨hi,rfl⟩:=yo hd;refine⟨_,egn #[0] ?_⟩
  refine tH (ds:=hs.map λi:Nat=>.int (i:Int)) false (λi' Γ=>∃(fo:AF) (y z:Option DV),CJ cs hs sm k fo0 i' fo∧Γ=[some (.fz false (nls cs)),some (.fz false (nl hs)),some (.fz false (nl sm)),some (.fz false (.int k)),some (.fz true (nl fo)),some (.fz true (.int i)),y,z]) (zK ∅) ⟨fo0,_,_,⟨c0,.inl ⟨rfl,λ_ z=>by cases z⟩⟩,rfl⟩ ?_ ?_
  ·rintro i' d Γ' hd ⟨fo,y,z,cj,rfl⟩;obtain⟨h,hk,rfl⟩:=yk hd;obtain⟨a,b,ab,bc,we⟩:=te h (ζd hk);have e2:=zaZ (sm:=sm) rise ab we;have fl:=Vz fo sm cj.c.nd cj.c.s;refine⟨_,egn #[0] ?_⟩
   refine exs true (d:=nl (sm.filter λj=>decide (h∈cs.getD j []))) (EvO.toE (yx (κ:=true) (is:=[0]) (xs:=sm) false (λk:Nat=>.int (k:Int)) (λk:Nat=>.int (k:Int)) (λj=>decide (h∈cs.getD j [])) (λx _ y _ h=>by cases wu h; exact⟨rfl,rfl⟩) (zK ∅) (by walk_at"cc") rfl #[2] ⋯ ?_)) #[0] ?_
   ·intro j hj;have aj:atI (cs.map nl) (j:Int)=some (nl (cs.getD j [])):=yz (zo (by rw[cl]; exact lt j hj));exact egn #[0] ⟨EvT.eq (zM (xt (neg:=false) (i:=(h:Int)) (ns:=zl (cs.getD j [])) ∅ (EvE.toL (EvE.eq (κ:=false) (zP (κ:=false) ∅ ∅ aj) (yR _))))) xq,λ_=>by walk_at"ev"⟩
   by_cases c:a∈sm∧b∈sm
   ·rw[e2.1 c];have a0:atI ([a,b].map λk:Nat=>PyData.int (k:Int)) (0:Int)=some (.int (a:Int)):=rfl;have a1:atI ([a,b].map λk:Nat=>PyData.int (k:Int)) (1:Int)=some (.int (b:Int)):=rfl;refine vE (b:=decide (((([a,b].map λk:Nat=>PyData.int (k:Int)).length:Nat):Int)=2) && !(decide (a∈fo) == decide (b∈fo))) (vF (zM (wv (yg (ds:=[a,b].map λk:Nat=>PyData.int (k:Int)) ∅) ∅)) λ_=>zM (zaS (EvE.eq (xt (neg:=false) (i:=(a:Int)) (ns:=zl fo) (zP (κ:=false) ∅ ∅ a0) (EvE.toL (EvE.eq (κ:=false) ∅ (yR _)))) (congrArg PyData.bool xq)) (EvE.eq (xt (neg:=false) (i:=(b:Int)) (ns:=zl fo) (zP (κ:=false) ∅ ∅ a1) (EvE.toL (EvE.eq (κ:=false) ∅ (yR _)))) (congrArg PyData.bool xq)))) (λt=>?_) (λt=>?_)
    ·have t2:=((ξZ _ _).mp t).2;obtain⟨v,u,hv,hu,us,h1,h2,ef⟩:∃v u,v∈fo∧u∉fo∧u∈sm∧h∈cs.getD v []∧h∈cs.getD u []∧([a,b].filter λj=>!decide (j∈fo))=[u]:=by
      by_cases ha:a∈fo <;> by_cases hb:b∈fo
      ·rw[decide_eq_true ha,decide_eq_true hb]at t2; cases t2
      ·exact⟨a,b,ha,hb,c.2,(we a).mpr (.inl rfl),(we b).mpr (.inr rfl),(Uj ha hb).1⟩
      ·exact⟨b,a,hb,ha,c.1,(we b).mpr (.inr rfl),(we a).mpr (.inl rfl),(Uj hb ha).2⟩
      ·rw[decide_eq_false ha,decide_eq_false hb]at t2; cases t2
     refine exs1 true (d:=nl (fo ++ [u])) (EvO.toE (EvO.eq (uU (xs:=fo.map λk:Nat=>.int (k:Int)) (ys:=[u].map λk:Nat=>.int (k:Int)) ∅ (EvO.toL (EvO.eq (yx (κ:=true) (is:=[0]) (xs:=[a,b]) false (λk:Nat=>.int (k:Int)) (λk:Nat=>.int (k:Int)) (λj=>!decide (j∈fo)) (λx _ y _ h=>by cases wu h; exact⟨rfl,rfl⟩) (zK ∅) (by walk_at"cc") rfl #[2] (by show 2≤_; omega) ?_) (by rw[ef]))) (by rw[ζa]; show _ + 1≤_; omega)) (by rw[ζv]))) #[0] ⟨fo ++ [u],_,_,cj.more hk hv us hu h1 h2,rfl⟩;intro j hj;exact egn #[0] ⟨EvT.eq (zM (xt (neg:=true) (i:=(j:Int)) (ns:=zl fo) ∅ (EvE.toL (EvE.eq (κ:=false) ∅ (yR _))))) (by show(!decide _)=_; rw[xq]),λ_=>by walk_at"ev"⟩
    ·have t2:decide (a∈fo)=decide (b∈fo):=by
      have:(!(decide (a∈fo) == decide (b∈fo)))=false:=(Bool.and_eq_false_iff.mp t).resolve_left (λz=>of_decide_eq_false z rfl);simpa using this
     have t3:a∈fo↔b∈fo:=decide_eq_decide.mp t2;refine yl ⟨fo,_,_,cj.keep hk λx hx y hy h1 h2=>?_,rfl⟩;rcases(we x).mp h1 with rfl | rfl <;> rcases(we y).mp h2 with rfl | rfl
     ·exact hx
     ·exact t3.mp hx
     ·exact t3.mpr hx
     ·exact hx
   ·have ne:=e2.2 c;generalize (sm.filter λj=>decide (h∈cs.getD j []))=l at ne;refine vE (b:=decide ((l.length:Int)=2) && false) (vF (zM (wv (EvE.eq (yg (ds:=l.map λk:Nat=>PyData.int (k:Int)) ∅) (el l)) ∅)) λz=>absurd (of_decide_eq_true z) ⋯) (λt=>by simp at t) (λt=>?_);refine yl ⟨fo,_,_,cj.keep hk λx hx y hy h1 h2=>?_,rfl⟩;have xs:=cj.c.s x hx;rcases(we x).mp h1 with rfl | rfl <;> rcases(we y).mp h2 with rfl | rfl
    ·exact hx
    ·exact absurd ⟨xs,hy⟩ c
    ·exact absurd ⟨hy,xs⟩ c
    ·exact hx
  ·rintro Γ' ⟨fo,y,z,cj,rfl⟩;refine⟨fo,_,_,_,cj.c,?_,rfl⟩
   have o:=cj.o;rw[ζa,ζR]at o;rcases o with⟨rfl,o⟩ | ⟨o1,o2⟩
   ·exact .inr o
   ·rcases o0 with o0 | o0
    ·exact .inl ⋯
    ·exact absurd o0 o2
 ·rintro Γ' ⟨fo,x,y,z,c,o,rfl⟩;rw[yn]at o;have fl:=Vz fo sm c.nd c.s;have cl':∀h∈hs,Clh cs sm fo h:=o.resolve_left ⋯;rw[←c.end lt cl'];exact zO true (EvE.eq (EvO.toE (xw (ns:=zl fo) (EvE.toL (EvE.eq (κ:=false) ∅ (yR fo))) (by rw[ve]; omega))) (congrArg PyData.list (Zl fo))) rfl (.inl ⟨rfl,rfl⟩)
def vp(ds:AG)(d:AD):Prop:=∃(ss:AE) (ks:AF),ds=[il ss,nl ks]∧SzOk ss ks∧d=lls (wds (pk ss ks))
theorem Ue(ss:AE)(ks:AF)(i:Nat):pk ss (ks.take i)=(pk ss ks).take i:=by
 unfold Sx2.pk;rw[List.map_take]
theorem Z1:zw ["_law_sizes_here","_law_things","_law_some","_law_k","_law_more","_law_world","_law_value"] ["_law_sizes_here","_law_things"] (zn (top 55)):={}
theorem Z7(F:Fun K "_law_worlds" "_law_worlds" (top 55) f fd)(B:Bs mg): FnOk P w K mg base CX0 1 f fd ["_law_sizes_here","_law_things"] (spD K true vp):=by
 have sc:=Z1;refine F.ok sc (λvs H Q E h=>zH (λ_ _⟨_,_,e,_⟩=>by rw[e];rfl) h) (λcdv A outer s H vs Q E hr h=>?_);obtain⟨Fh,ds,d,le,dp,p,q⟩:=h
 refine⟨_,(ze (pS (i:=2) sc.nd (zR (zb (zR zd) zd)))
   (ze (zU AC rfl (zG (K:=K) rfl (pv 1)) (pN (i:=3) sc.nd) (ze (pS (i:=4) sc.nd (zR zd))
   (ze (zU AC rfl (zG (K:=K) rfl (pv 2)) (pN (i:=5) sc.nd) (zg (zU AC rfl (ye rfl B.range (zb (pX (zu (K:=K) rfl) (pv 0) (pv 3)) zd)) (pN (i:=6) sc.nd) (zg (yc (yu (K:=K) rfl ζs ζC ζB zV (pv 4) (zb (zm (vA (K:=K) rfl) (pv 5) (zR (zb (pv 6) zd))) zd)))))))
   (zg (pS (i:=2) sc.nd (pv 4))))))
   (zg (zE (pv 2))))),?_⟩
 have hN:=sc.n 7;obtain⟨ss,ks,rfl,ok,rfl⟩:=p;have big:=zI;walk_at"run";refine exs true (d:=lls [[]]) (EvE.eq (a:=.list [.list []]) ∅ rfl) #[0] ?_;refine yv false (λi Γ=>∃x y z u,Γ=[some (.fz false (il ss)),some (.fz false (nl ks)),some (.fz true (lls (wds (pk ss (ks.take i))))),x,y,z,u]) (zK ∅) ⟨none,none,none,none,by rw[ζK]; rfl⟩ ?_ ?_
 ·rintro i d Γ' hd ⟨x,y,z,u,rfl⟩;obtain⟨k,hk',rfl⟩:=yk hd;have hkl:=ok.k k (ζd hk');have gs:1≤ss.getD k 0∧ss.getD k 0≤9:=by
   rw[ζb,ζe hkl];exact ok.s _ (ζ9 hkl)
  have wl:(wds (pk ss (ks.take i))).length≤16384:=by
   rw[yL,Ue];have:=u9 i (pk ss ks) ok.pk;have:=ok.p;omega
  generalize hws:wds (pk ss (ks.take i))=ws at wl;have hwl:∀w∈ws,w.length≤63:=λw hw=>by
   rw[←hws]at hw;rw[t6 hw];unfold Sx2.pk;rw[ζa,ζN];have:=ok.l;omega
  refine⟨_,egn #[0] ?_⟩
  walk_at"go";refine yv true (λj Γ=>∃z u,Γ=[some (.fz false (il ss)),some (.fz false (nl ks)),some (.fz true (lls ws)),some (.fz false (.int k)),some (.ow true ((grow (ws.take j) (rng (ss.getD k 0).toNat)).map il)),z,u]) (zK ∅) ⟨_,_,by rw[ζK]; rfl⟩ ?_ ?_
  ·rintro j d Γ' hd ⟨z,u,rfl⟩;obtain⟨h,hh',rfl⟩:=yk hd;have hb:=hwl h (ζd hh');have hj:=(ζh.mp hh').1;refine⟨_,egn #[0] ?_⟩
   refine tH true (λn Γ=>∃u,Γ=[some (.fz false (il ss)),some (.fz false (nl ks)),some (.fz true (lls ws)),some (.fz false (.int k)),some (.ow true ((grow (ws.take j) (rng (ss.getD k 0).toNat) ++ ((rng (ss.getD k 0).toNat).take n).map λc=>h ++ [c]).map il)),some (.fz true (il h)),u])
    (yM (zh (zP ∅ ∅ (xu hkl)) zC) ⋯ ⋯) ⟨_,by rw[ζK,List.map_nil,ζ1]⟩ ?_ ?_
   ·rintro n d Γ' hd ⟨u,rfl⟩;obtain⟨hn,rfl⟩:=yo hd;refine⟨_,egn #[0] ?_⟩
    have e1:(h.map PyData.int).length + [PyData.int (n:Int)].length≤sizeLine:=by
     rw[ζa];show h.length + 1≤_;omega
    have rl:(rng (ss.getD k 0).toNat).length=(ss.getD k 0).toNat:=by unfold rng; rw[List.length_map,List.length_range]
    have rn:(rng (ss.getD k 0).toNat)[n]?=some (n:Int):=by unfold rng; rw[List.getElem?_map,List.getElem?_range hn]; rfl
    refine exa1 #[1] ∅ #[0] ?_ ?_
    ·rw[ζa,ζg,ZL,ζa,ζN,ζN,rl];have h2:min j ws.length * (ss.getD k 0).toNat≤16384 * 9:=Nat.mul_le_mul ⋯ ⋯;omega
    ·have e:(grow (ws.take j) (rng (ss.getD k 0).toNat) ++ ((rng (ss.getD k 0).toNat).take (n + 1)).map λc=>h ++ [c]).map il=(grow (ws.take j) (rng (ss.getD k 0).toNat) ++ ((rng (ss.getD k 0).toNat).take n).map λc=>h ++ [c]).map il ++ [.list (h.map .int ++ [.int (n:Int)])]:=by
      rw[take_succ rn];simp[il]
     show∃y,_;rw[e];exact⟨_,rfl⟩
   ·rintro Γ' ⟨u,rfl⟩;have rl:(rng (ss.getD k 0).toNat).length=(ss.getD k 0).toNat:=by unfold rng; rw[List.length_map,List.length_range]
    have e2:(rng (ss.getD k 0).toNat).take (ss.getD k 0).toNat=rng (ss.getD k 0).toNat:=ζI (by rw[rl]; exact ζl _);rw[take_succ hh',Yy,yn,e2];exact⟨_,_,rfl⟩
  ·rintro Γ' ⟨z,u,rfl⟩;refine exfz 4 #[1] #[0] ?_;refine exs1 true ∅ #[0] ?_;show∃x y z u,_;rw[ζa,ζR,take_succ hk'];have e:pk ss (ks.take i ++ [k])=pk ss (ks.take i) ++ [ss.getD k 0]:=by unfold Sx2.pk; rw[List.map_append]; rfl
   rw[e,uw (λx hx=>by rw[Ue]at hx; have:=ok.pk x (ξh hx); omega) ⋯,hws];exact⟨_,_,_,_,rfl⟩
 ·rintro Γ' ⟨x,y,z,u,rfl⟩;refine zO true ∅ ?_ (.inl ⟨rfl,rfl⟩);rw[ζa,ζR]
theorem QT(ns:AE){m:Nat}(hm:2≤m){kin:AI}(hk:vK m (kin,[]) 0)(h:∀i t,t∈kin.getD i []→t < i):∀k i t,t∈(ppN ns m kin k).1.getD i []→t < i∨m≤t
 | 0,i,t,ht=>.inl (h i t ht)
 | k + 1,i,t,ht=>by
  have ih:=QT ns hm hk h k;have ok:=tq ns hm hk k;have ho:=ZC ns (m:=m) (k:=k) hm;have ht:t∈(ppS m (ppK ns m k) (ppN ns m kin k)).1.getD i []:=ht;unfold ppS at ht;split at ht
  ·have l1:(yC (ppN ns m kin k).1 (ppK ns m k).1 (m + (ppN ns m kin k).2.length)).length=m:=by unfold yC; rw[List.length_set]; exact ok.l
   rcases(vQ (by rw[l1]; exact ho.2)).mp ht with ht | ht
   ·rcases(vQ (by rw[ok.l]; exact ho.1)).mp ht with ht | ht
    ·exact ih i t ht
    ·omega
   ·omega
  ·exact ih i t ht
theorem zdC(ns:AE){m:Nat}(h2:2≤m)(h6:m≤6):∃f,grd (csF ns m) (csF ns m).length (rgI (csF ns m).length)=some f:=by
 cases e:grd (csF ns m) (csF ns m).length (rgI (csF ns m).length)with
 | some f=>exact⟨f,rfl⟩
 | none =>
  exfalso;have st:=Yz _ vO e;have s:=YV ns h2 h6;have l:=tU ns (m + (stF ns m).2.length);have nd:(zZ ns m).Nodup:=Up ns _;have ll:(zZ ns m).length=m + (stF ns m).2.length:=l.1;have lt:∀x∈zZ ns m,x < (zZ ns m).length:=λx hx=>by rw[ll]; exact l.2 x hx
  have low:∀i t,t∈(stF ns m).1.getD i []→t < i∨m≤t:=QT ns h2 (ZX ns h6) (λi t ht=>by
   have:t∈(arF ns m).getD i []:=ht;unfold arF at this;rw[ζb,ζo]at this;cases q:(List.range m)[i]? with
   | none=>rw[q]at this; cases this
   | some j =>
    rw[q]at this;have ej:i=j:=by
     have:=ζh.mp q;obtain⟨h1,h2⟩:=this;rw[ξ3]at h2;exact h2
    rw[ej];exact(zbh ns j).1 t this) _
  have key:∀(d i:Nat),i≤d→i < m→((((zZ ns m).getD i 0:Nat):Int))∈stK (csF ns m) (csF ns m).length (rgI (csF ns m).length)→False:=by
   intro d;induction d with
   | zero =>
    intro i hi im hm;obtain⟨c,c1,c2⟩:=st.h _ hm;obtain⟨c',hc',rfl⟩:=ζp.mp c1;rw[ζG]at hc';unfold csF at hc';obtain⟨i',i1,i2,t,t1,t2⟩:=(wq nd lt _ c' m ⋯).mp hc';have ei:i=i':=(wg nd ⋯ ⋯).mp i2;subst ei;rcases low i t t1 with z | z
    ·omega
    ·obtain⟨y,y1,y2⟩:=st.h _ c2;obtain⟨y',hy',rfl⟩:=ζp.mp y1;rw[ζG,t2]at hy';unfold csF at hy';obtain⟨i3,j1,j2,_⟩:=(wq nd lt _ y' m ⋯).mp hy';have tl:=(s.e _ (uP t1)).1 t t1;have:=(wg nd ⋯ ⋯).mp j2;omega
   | succ d ih =>
    intro i hi im hm;obtain⟨c,c1,c2⟩:=st.h _ hm;obtain⟨c',hc',rfl⟩:=ζp.mp c1;rw[ζG]at hc';unfold csF at hc';obtain⟨i',i1,i2,t,t1,t2⟩:=(wq nd lt _ c' m ⋯).mp hc';have ei:i=i':=(wg nd ⋯ ⋯).mp i2;subst ei;rcases low i t t1 with z | z
    ·rw[t2]at c2;exact ih t ⋯ ⋯ c2
    ·obtain⟨y,y1,y2⟩:=st.h _ c2;obtain⟨y',hy',rfl⟩:=ζp.mp y1;rw[ζG,t2]at hy';unfold csF at hy';obtain⟨i3,j1,j2,_⟩:=(wq nd lt _ y' m ⋯).mp hy';have tl:=(s.e _ (uP t1)).1 t t1;have:=(wg nd ⋯ ⋯).mp j2;omega
  obtain⟨k,km⟩:∃k,k∈stK (csF ns m) (csF ns m).length (rgI (csF ns m).length):=by
   cases q:stK (csF ns m) (csF ns m).length (rgI (csF ns m).length)with
   | nil=>exact absurd q st.ne
   | cons x r=>exact⟨x,ζf⟩
  obtain⟨c,c1,c2⟩:=st.h _ km;obtain⟨c',hc',rfl⟩:=ζp.mp c1;unfold csF at hc';obtain⟨i',i1,i2,t,t1,t2⟩:=(wq nd lt _ c' m ⋯).mp hc';have kr:=uD.mp (st.sb.subset km);have:k=(((zZ ns m).getD i' 0:Nat):Int):=by omega
  rw[this]at km;exact key i' i' (ζl _) i1 km
abbrev tbl(ts:List AH):AD:=.list (ts.map lls)
abbrev uj(ss:AE)(cs:AI)(ts:List AH):AD:=.tuple [il ss,nls cs,tbl ts]
structure YO(s:Int)(r:AE):Prop where
 l:(r.length:Int)=s
 w:∀x∈r,0≤x∧x < 10 ^ 60
 p:1≤r.sum
 b:r.sum < 10 ^ 62
structure BkOk(ss:AE)(cs:AI)(ts:List AH):Prop where
 s:∀s∈ss,2≤s∧s≤4
 n:ss.length≤12
 cl:cs.length=ss.length
 tl:ts.length=ss.length
 ck:∀(k:Nat) own,cs[k]?=some own→(∀c∈own,c < ss.length)∧own.length≤5
 tk:∀(k:Nat) own t,cs[k]?=some own→ts[k]?=some t→(t.length:Int)=prod (pk ss own)
 rk:∀(k:Nat) t,ts[k]?=some t→∀r∈t,YO (ss.getD k 0) r
theorem atI2{α:Type}{a b c:α}{l:List α}:atI (a :: b :: c :: l) 2=some c:=vU (j:=2) rfl
theorem Qp:∀(xs:AE),(∀x∈xs,0≤x)→0≤xs.sum
 | [],_=>by simp
 | x :: r,h=>by
  rw[ξc];have:=Qp r λy hy=>h y (ζk _ hy);have:=h x ζf;omega
structure BOk(B:Int):Prop where
 lo:1≤B
 hi:B≤1010
theorem QX{z:Nat}(h:z≤19):1010 ^ z < 2 ^ 200:=ζ6 (ξw #[2] h) #[2]
theorem Bpow{Bb:Int}(h:BOk Bb)(m:Nat):0 < Bb ^ m∧(Bb ^ m).natAbs≤1010 ^ m:=⟨Int.pow_pos (by have:=h.lo; omega),by
 rw[Int.natAbs_pow];exact Nat.pow_le_pow_left (by have:=h.lo; have:=h.hi; omega) m⟩
theorem VE:∀(r:AE),(∀x∈r,0≤x)→∀x∈r,0≤x∧x≤r.sum
 | y :: r,h,x,hx=>by
  have hr:=Qp r λz hz=>h z (ζk _ hz);have hy:=h y ζf;rw[ξc];rcases ζw.mp hx with rfl | hx
  ·omega
  ·have:=VE r (λz hz=>h z (ζk _ hz)) x hx;omega
structure SkO(ss:AE)(cs:AI)(ts:List AH)(Bb:Int):Prop where
 b:BkOk ss cs ts
 n:ss.length≤7
 B:BOk Bb
 dv:∀t∈ts,∀r∈t,(∀x∈r,r.sum ∣ x * Bb)∧∀x∈r,1≤x
structure SsOk(n:Nat)(ss:AE):Prop where
 l:ss.length=n
 s:∀s∈ss,2≤s∧s≤4
theorem ze3{i:Int}(h0:-5≤i)(h:i < 5):∃v,atI [PyData.int 1,.int 2,.int 4,.int 8,.int 16] i=some (.int v)∧1≤v∧v≤16:=by
 have:i=-5∨i=-4∨i=-3∨i=-2∨i=-1∨i=0∨i=1∨i=2∨i=3∨i=4:=by omega
 rcases this with rfl | rfl | rfl | rfl | rfl | rfl | rfl | rfl | rfl | rfl
 ·exact⟨1,rfl,#[2],#[2]⟩
 ·exact⟨2,rfl,#[2],#[2]⟩
 ·exact⟨4,rfl,#[2],#[2]⟩
 ·exact⟨8,rfl,#[2],#[2]⟩
 ·exact⟨16,rfl,#[2],#[2]⟩
 ·exact⟨1,rfl,#[2],#[2]⟩
 ·exact⟨2,rfl,#[2],#[2]⟩
 ·exact⟨4,rfl,#[2],#[2]⟩
 ·exact⟨8,rfl,#[2],#[2]⟩
 ·exact⟨16,rfl,#[2],#[2]⟩
theorem ze4{i:Nat}(h:i≤3):∃v,atI [PyData.int 4,.int 4,.int 3,.int 2] (i:Int)=some (.int v)∧2≤v∧v≤4:=by
 have:i=0∨i=1∨i=2∨i=3:=by omega
 rcases this with rfl | rfl | rfl | rfl
 ·exact⟨4,rfl,#[2],#[2]⟩
 ·exact⟨4,rfl,#[2],#[2]⟩
 ·exact⟨3,rfl,#[2],#[2]⟩
 ·exact⟨2,rfl,#[2],#[2]⟩
def ua(ds:AG)(G:AD→Prop):Prop:=∃(ns:AE) (n:Nat) (hs:AF) (mst:Int),ds=[il ns,.int n,nl hs,.int mst]∧ns.length≤63∧n≤7∧hs.length≤3∧hs.length + 2≤n∧n≤hs.length + 4∧G=λd=>∃ss,SsOk n ss∧d=il ss
theorem Y6:zw ["_law_script","_law_many","_law_hidden","_law_most","_law_sizes_here","_law_left","_law_rest","_law_k","_law_size"] ["_law_script","_law_many","_law_hidden","_law_most"] (zn (top 52)):={}
theorem Xt(F:Fun K "_law_sizes" "_law_sizes" (top 52) f fd)(B:Bs mg)(c_law_at:zt P w K mg base CX0 "_law_at" ["_law_script","_law_k"] 1 (spD K true zW)):FnOk P w K mg base CX0 2 f fd ["_law_script","_law_many","_law_hidden","_law_most"] (spW K true ua):=by
 have sc:=Y6;refine F.ok sc (λvs H Q E h=>YW (λ_ _⟨_,_,_,_,e,_⟩=>by rw[e];rfl) h) (λcdv A outer s H vs Q E hr h=>?_);obtain⟨Fh,ds,G,le,dp,p,q⟩:=h
 refine⟨_,(ze (pS (i:=4) sc.nd (zR zd))
   (ze (pS (i:=5) sc.nd (pv 3))
   (ze (pS (i:=6) sc.nd (zm xF (pv 1) (pB (zj (K:=K) rfl) B.len (zb (pv 2) zd))))
   (ze (zU AC rfl (ye rfl B.range (zb (pv 1) zd)) (pN (i:=7) sc.nd) (ze (pS (i:=8) sc.nd (zm zX zf (zm yi (pF c_law_at hr (zb (pv 0) (zb (zm zX zf (pv 7)) zd))) zf)))
   (ze (yK (zF (yV (K:=K) rfl) (pv 7) (pv 2) (rfl)) (zg (pS (i:=8) sc.nd (pB (TY rfl) B.min (zb (pv 8) (zb (pX (zB (K:=K) rfl) (yH (zb zf (zb zf (zb zf (zb zf zd))))) (pB (zj (K:=K) rfl) B.len (zb (pv 2) zd))) zd))))) (ze (pS (i:=6) sc.nd (zm xF (pv 6) zf))
   (ze (yK (zF ZF (zm yj (pv 8) (pX (zB (K:=K) rfl) (yH (zb zf (zb zf (zb zf (zb zf (zb zf zd)))))) (pv 6))) (pv 5) (zT _)) (zg (pS (i:=8) sc.nd zf)) zY)
   (zg (pS (i:=5) sc.nd (zm yY (pv 5) (pv 8)))))))
   (zg (yc (yu (K:=K) rfl ζs ζC ζB zV (pv 4) (zb (pv 8) zd)))))))
   (zg (zE (pv 4))))))),?_⟩
 have hN:=sc.n 9;obtain⟨ns,n,hs,mst,rfl,h63,n7,h3,hn2,hn4,rfl⟩:=p;have big:=zI;refine Zr le dp q hN (by walk_at"st") ?_;refine exo true (yf (ds:=[]) zC #[2]) #[0] ?_;refine exs true (d:=.int mst) (EvE.imm (κ:=false) ∅ rfl) #[0] ?_;refine exs true (d:=.int ((n:Int) - (hs.length:Int))) (XN ∅ (EvE.eq (yg (ds:=hs.map λk:Nat=>.int (k:Int)) ∅) (by rw[ζa]))) #[0] ?_;refine yv (ds:=(List.range n).map λi:Nat=>.int (i:Int)) true (λi Γ=>∃(ss:AE) (left rest:Int) (x7 x8:Option DV),SsOk i ss∧(n:Int) - hs.length - i≤rest∧rest≤(n:Int) - hs.length∧Γ=[some (.fz false (il ns)),some (.fz false (.int n)),some (.fz false (nl hs)),some (.fz false (.int mst)),some (.ow true (ss.map .int)),some (.fz true (.int left)),some (.fz true (.int rest)),x7,x8]) (yM (n:=(n:Int)) ∅ ⋯ ⋯) ⟨[],mst,_,none,none,⟨rfl,λ_ h=>(nomatch h)⟩,⋯,⋯,rfl⟩ ?_ ?_
 ·rintro i d Γ' hd ⟨ss,left,rest,x7,x8,so,r0,r1,rfl⟩;obtain⟨hi,rfl⟩:=yo hd;have sl:=so.l;refine⟨_,egn #[0] ?_⟩
  obtain⟨sz,esz,z2,z4⟩:∃sz,2 + zv ns (26 + i) % 3=sz∧2≤sz∧sz≤4:=⟨_,rfl,⋯,⋯⟩
  refine exs true (d:=.int sz) (EvE.eq (xc ∅ (xa (zi ∅ (show zW [il ns,.int (26 + (i:Int))] _ from⟨ns,26 + i,by rw[ξl]; rfl,h63,⋯,rfl⟩)) ∅ #[2])) (congrArg PyData.int esz)) #[0] ?_;clear esz;refine exif (b:=decide (i∈hs)) (λΓ=>∃(left rest sz:Int),(2≤sz∧sz≤4)∧(n:Int) - hs.length - (i + 1:Nat)≤rest∧rest≤(n:Int) - hs.length∧Γ=[some (.fz false (il ns)),some (.fz false (.int n)),some (.fz false (nl hs)),some (.fz false (.int mst)),some (.ow true (ss.map .int)),some (.fz true (.int left)),some (.fz true (.int rest)),some (.fz true (.int i)),some (.fz true (.int sz))]) (EvT.eq (zM (xt (neg:=false) (i:=(i:Int)) (ns:=zl hs) ∅ (EvE.toL (EvE.eq (κ:=false) ∅ (yR hs))))) xq) (λ_=>?_) (λ_=>?_) ?_
  ·obtain⟨v,av,v2,v4⟩:=ze4 h3;refine exs1 true (d:=.int (if v < sz then v else sz)) (zcu ∅ (xb (κ:=false) ∅ (EvE.eq (yg (ds:=hs.map λk:Nat=>.int (k:Int)) ∅) (by rw[ζa])) av)) #[0] ⟨left,rest,_,by split <;> omega,⋯,r1,rfl⟩
  ·refine exs true (d:=.int (rest - 1)) ∅ #[0] ?_;obtain⟨v,av,v1,v16⟩:=ze3 (i:=rest - 1) ⋯ ⋯;refine exif (b:=decide (left < sz * v)) (λΓ=>∃sz:Int,(2≤sz∧sz≤4)∧Γ=[some (.fz false (il ns)),some (.fz false (.int n)),some (.fz false (nl hs)),some (.fz false (.int mst)),some (.ow true (ss.map .int)),some (.fz true (.int left)),some (.fz true (.int (rest - 1))),some (.fz true (.int i)),some (.fz true (.int sz))]) (zM (YF (wZ ∅ (xb (κ:=false) ∅ ∅ av) (yG ⋯ ⋯)) ∅)) (λ_=>exs1 true (d:=.int 2) ∅ #[0] ⟨2,#[2],rfl⟩) (λ_=>yl ⟨sz,⟨z2,z4⟩,rfl⟩) ?_;rintro Γ2 ⟨sz,zz,rfl⟩;have cd:CDiv left sz:=⟨⋯,⋯⟩
   exact exs1 true (d:=.int (left / sz)) (xD ∅ ∅ cd) #[0] ⟨left / sz,rest - 1,sz,zz,⋯,⋯,rfl⟩
  ·rintro Γ2 ⟨left,rest,sz,zz,r0,r1,rfl⟩;refine exa1 (d:=.int sz) #[1] ∅ #[0] (by rw[ζa]; omega) ⟨ss ++ [sz],left,rest,_,_,⟨by rw[ζg,sl]; rfl,λs hs'=>?_⟩,r0,r1,by rw[ζv]; rfl⟩;rcases ζu.mp hs' with h | h
   ·exact so.s s h
   ·rw[ζi.mp h]; exact zz
 ·rintro Γ' ⟨ss,left,rest,x7,x8,so,r0,r1,rfl⟩;rw[yn]at so;exact exro #[1] ⟨ss,so,rfl⟩ (.inl ⟨rfl,rfl⟩)
theorem tele(f:Nat→Int)(m:Int):∀n,((List.range n).map λk=>(f (k + 1) - f k) * m).sum=(f n - f 0) * m
 | 0=>by simp
 | n + 1=>by
  rw[List.range_succ,ζv,List.sum_append,tele f m n];simp only[List.map_cons,List.map_nil,List.sum_cons,List.sum_nil,Int.sub_mul];omega
theorem zam{i j:Int}(h0:-(2 ^ 64) < i)(h1:i < 2 ^ 64):IntMulOk i j:=.of_left (intBits_le_64 h0 h1)
theorem cp57:CPow 10 57:=⟨#[2],#[2]⟩
def rowR(c:AE)(m:Int)(s:Nat):AE:=(List.range s).map λk=>(c.getD (k + 1) 0 - c.getD k 0 + 1) * m
def RowD(bs:Int)(r:AE):Prop:=∀x∈r,r.sum ∣ x * bs
theorem zdm{c:AE}{s:Nat}{W m bs:Int}(hs:(rowR c m s).sum=W * m)(hd:W ∣ bs):RowD bs (rowR c m s):=λx hx=>by
 obtain⟨k,_,rfl⟩:=ζp.mp hx;rw[hs];obtain⟨q,rfl⟩:=hd;exact⟨(c.getD (k + 1) 0 - c.getD k 0 + 1) * q,by grind⟩
theorem zdl{c:AE}{s:Nat}{W m:Int}(hl:c.length=s + 1)(hs:c.Pairwise (·≤·))(h0:0∈c)(hW:W∈c)(hb:∀x∈c,0≤x∧x≤W)(W1:1≤W)(W2:W + s≤100)(m1:1≤m)(m2:m≤10 ^ 57):YO s (rowR c m s)∧(rowR c m s).sum=(W + s) * m∧∀x∈rowR c m s,1≤x:=by
 have mono:∀i j:Nat,i≤j→j < s + 1→c.getD i 0≤c.getD j 0:=λi j hij hj=>by
  have e1:c.getD i 0=c[i]'⋯:=by rw[ζb,ζe ⋯]; rfl
  have e2:c.getD j 0=c[j]'⋯:=by rw[ζb,ζe ⋯]; rfl
  rcases Nat.lt_or_eq_of_le hij with h | h
  ·rw[e1,e2];exact List.pairwise_iff_getElem.mp hs i j ⋯ ⋯ h
  ·rw[h]; exact Int.le_refl _
 have inB:∀i:Nat,i < s + 1→0≤c.getD i 0∧c.getD i 0≤W:=λi hi=>hb _ (ζd (zo (d:=(0:Int)) (show i < c.length by omega)));have f0:c.getD 0 0=0:=by
  obtain⟨i,hi⟩:=ξi.mp h0;have il':=(ζh.mp hi).1;have a:=mono 0 i ⋯ ⋯;rw[ζb (i:=i),hi]at a;have:=(inB 0 ⋯).1;have a':c.getD 0 0≤0:=a;omega
 have fS:c.getD s 0=W:=by
  obtain⟨i,hi⟩:=ξi.mp hW;have il':=(ζh.mp hi).1;have a:=mono i s ⋯ ⋯;rw[ζb (i:=i),hi]at a;have:=(inB s ⋯).2;have a':W≤c.getD s 0:=a;omega
 have sm:(rowR c m s).sum=(W + s) * m:=by
  have:=tele (λk=>c.getD k 0 + (k:Int)) m s;unfold rowR;rw[f0,fS]at this;rw[show W + (s:Int)=W + (s:Int) - (0 + ((0:Nat):Int))by omega,←this];congr 1;refine ζn λk _=>?_;congr 1;omega
 have wm:(W + s) * m≤100 * 10 ^ 57:=ξU W2 m2 ⋯ #[2];have wp:1 * 1≤(W + s) * m:=ξU ⋯ m1 #[2] ⋯;refine⟨⟨by unfold rowR; rw[List.length_map,List.length_range],λx hx=>?_,by rw[sm]; omega,?_⟩,sm,λx hx=>?_⟩
 ·obtain⟨k,hk,rfl⟩:=ζp.mp hx;have hk:=ζE.mp hk;have d:=mono k (k + 1) ⋯ ⋯;have d1:=(inB k ⋯).1;have d2:=(inB (k + 1) ⋯).2;refine⟨Int.mul_nonneg ⋯ ⋯,?_⟩
  have:(c.getD (k + 1) 0 - c.getD k 0 + 1) * m≤100 * 10 ^ 57:=ξU ⋯ m2 ⋯ #[2];have e:(100:Int) * 10 ^ 57 < 10 ^ 60:=by decide
  omega
 ·rw[sm];have e:(100:Int) * 10 ^ 57 < 10 ^ 62:=by decide
  omega
 ·obtain⟨k,hk,rfl⟩:=ζp.mp hx;have hk:=ζE.mp hk;have d:=mono k (k + 1) ⋯ ⋯;have:1 * 1≤(c.getD (k + 1) 0 - c.getD k 0 + 1) * m:=ξU ⋯ m1 #[2] ⋯;omega
def tR(ds:AG)(G:AD→Prop):Prop:=∃(ns:AE) (a s:Nat) (bs:Int),ds=[il ns,.int a,.int s,.int bs]∧ns.length≤63∧a≤100000∧2≤s∧s≤4∧12≤bs∧bs≤100∧bs % 2=0∧G=λd=>∃r,(YO s r∧RowD bs r∧∀x∈r,1≤x)∧d=il r
theorem Vi:zw ["_law_script","_law_at_here","_law_size","_law_base","_law_cell","_law_whole_here","_law_cuts","_law_k","_law_many"] ["_law_script","_law_at_here","_law_size","_law_base"] (zn (top 53)):={}
theorem Vx(F:Fun K "_law_row" "_law_row" (top 53) f fd)(B:Bs mg)(c_law_at:zt P w K mg base CX0 "_law_at" ["_law_script","_law_k"] 1 (spD K true zW)):FnOk P w K mg base CX0 2 f fd ["_law_script","_law_at_here","_law_size","_law_base"] (spW K true tR):=by
 have sc:=Vi;refine F.ok sc (λvs H Q E h=>YW (λ_ _⟨_,_,_,_,e,_⟩=>by rw[e];rfl) h) (λcdv A outer s H vs Q E hr h=>?_);obtain⟨Fh,ds,G,le,dp,p,q⟩:=h
 refine⟨_,(ze (pS (i:=4) sc.nd (pF c_law_at hr (zb (pv 0) (zb (pv 1) zd))))
   (ze (pS (i:=5) sc.nd (zm yY (pv 3) (zm zX zf (zm yi (pv 4) zf))))
   (ze (pS (i:=6) sc.nd (zR (zb zf (zb (zm xF (pv 5) (pv 2)) zd))))
   (ze (zU AC rfl (ye rfl B.range (zb (zm xF (pv 2) zf) zd)) (pN (i:=7) sc.nd) (zg (yc (yu (K:=K) rfl ζs ζC ζB zV (pv 6) (zb (zm yi (zm yY (pF c_law_at hr (zb (pv 0) (zb (zm zX (zm zX (pv 1) zf) (pv 7)) zd))) zf) (zm zX (zm xF (pv 5) (pv 2)) zf)) zd)))))
   (ze (pS (i:=6) sc.nd (pB (y9 (K:=K) rfl) B.sorted (zb (pv 6) zd)))
   (ze (pS (i:=8) sc.nd (zm zX zf (zm yi (zm yY (pv 4) zf) zf)))
   (ze (yK (zF wD (zm yi (zm yY (pv 4) zf) zf) zf (zT _)) (zg (pS (i:=8) sc.nd (zm zX zf (zm yi (zm yY (pv 4) zf) (zm zdD zf zf))))) zY)
   (zg (zE (yE rfl (N:=["_law_k","_law_many","_law_cuts"]) (js:=[none,some 8,some 6]) (by walk_at"comp_ok") (ye rfl B.range (zb (pv 2) zd)) (λ_ _ _ _=>(pN (i:=0) (show υN ["_law_k","_law_many","_law_cuts"]by decide +kernel))) (λ_ _ _ _=>xf) (λ_ _ _ _=>(zm yj (zm zX (zm xF (pX (zu (K:=K) rfl) (pv 2) (zm zX (pv 0) zf)) (pX (zu (K:=K) rfl) (pv 2) (pv 0))) zf) (pv 1))))))))))))),?_⟩
 have hN:=sc.n 9;obtain⟨ns,a,s,bs,rfl,h63,ha,s2,s4,b1,b2,b0,rfl⟩:=p;have big:=zI;refine Zr le dp q hN (by walk_at"st") ?_;generalize hc:zv ns a=cell;refine exs true (d:=.int cell) (EvE.eq (zi ∅ ⟨ns,a,rfl,h63,⋯,rfl⟩) (congrArg PyData.int hc)) #[0] ?_;clear hc;have cm:=Int.emod_two_eq cell;have cd:CDiv bs (1 + cell % 2):=⟨⋯,⋯⟩
 obtain⟨W,hW,W1,W2,Wd⟩:∃W,bs / (1 + cell % 2)=W∧6≤W∧W≤100∧W ∣ bs:=by
  rcases cm with h | h <;> rw[h]
  ·exact⟨_,rfl,⋯,⋯,⟨1,⋯⟩⟩
  ·exact⟨_,rfl,⋯,⋯,⟨2,⋯⟩⟩
 refine exs true (d:=.int W) (EvE.eq (xD ∅ ∅ cd) (congrArg PyData.int hW)) #[0] ?_;clear hW;obtain⟨V,hV⟩:∃V,W - (s:Int)=V:=⟨_,rfl⟩
 refine exo true (yf (ds:=[.int 0,.int V]) (zh ∅ (zh (EvE.eq ∅ (congrArg PyData.int hV)) zC)) (by show 2≤_; omega)) #[0] ?_;refine yv (ds:=(List.range (s - 1)).map λi:Nat=>.int (i:Int)) true (λi Γ=>∃(cs:AE) (x:Option DV),cs.length=i + 2∧0∈cs∧V∈cs∧(∀x∈cs,0≤x∧x≤V)∧Γ=[some (.fz false (il ns)),some (.fz false (.int a)),some (.fz false (.int s)),some (.fz false (.int bs)),some (.fz true (.int cell)),some (.fz true (.int W)),some (.ow true (cs.map .int)),x,none]) (yM (n:=((s - 1:Nat):Int)) (zh (EvE.eq ∅ (congrArg PyData.int (show(s:Int) - 1=((s - 1:Nat):Int)by omega))) zC) ⋯ ⋯) ⟨[0,V],none,rfl,ζf,ζk _ ζf,λx hx=>?_,rfl⟩ ?_ ?_
 ·rcases ζw.mp hx with h | h
  ·omega
  ·rw[ζi.mp h]; omega
 ·rintro i d Γ' hd ⟨cs,x,cl,c0,cW,cb,rfl⟩;obtain⟨hi,rfl⟩:=yo hd;refine⟨_,egn #[0] ?_⟩
  generalize hc:zv ns (a + 1 + i)=cut;have add:∀v:Int,0≤v→v≤V→(cs ++ [v]).length=i + 1 + 2∧0∈cs ++ [v]∧V∈cs ++ [v]∧∀x∈cs ++ [v],0≤x∧x≤V:=λv h0 h1=>⟨by rw[ζg,cl]; show i + 2 + 1=_; omega,ζM _ c0,ζM _ cW,λx hx=>by
   rcases ζu.mp hx with hx | hx
   ·exact cb x hx
   ·rw[ζi.mp hx]; exact⟨h0,h1⟩⟩
  have c3:CDiv cut 3:=⟨#[2],#[2]⟩
  obtain⟨z1,z2,z3,z4⟩:=add (cut / 3 % (V + 1)) (ζU _ ⋯) (by have:=ζO (cut / 3) (show 0 < V + 1 by omega); omega);exact exa1 (d:=.int (cut / 3 % (V + 1))) #[1] (xa (j:=V + 1) (xD (EvE.eq (zi ∅ ⟨ns,a + 1 + i,by rw[ξl,ξl]; rfl,h63,⋯,rfl⟩) (congrArg PyData.int hc)) ∅ c3) (EvE.eq ∅ (congrArg PyData.int (show W - (s:Int) + 1=V + 1 by omega))) ⋯) #[0] (by rw[ζa]; omega) ⟨cs ++ [cut / 3 % (V + 1)],_,z1,z2,z3,z4,by rw[ζv]; rfl⟩
 ·rintro Γ' ⟨cs,x,cl,c0,cW,cb,rfl⟩;rw[yn]at cl;refine exs true (d:=il (srt cs)) (EvO.toE (xw ∅ ⋯)) #[0] ?_;have pm:=xQ cs;have c2:CDiv cell 2:=⟨#[2],#[2]⟩
  have c12:CDiv cell 12:=⟨#[2],#[2]⟩
  obtain⟨m,hm,m1,m97⟩:∃m,1 + cell / 2 % 97=m∧1≤m∧m≤97:=⟨_,rfl,⋯,⋯⟩
  refine exs true (d:=.int m) (EvE.eq ∅ (congrArg PyData.int hm)) #[0] ?_;clear hm;refine exif (b:=decide (cell / 2 % 6=1)) (λΓ=>∃m:Int,(1≤m∧m≤10 ^ 57)∧Γ=[some (.fz false (il ns)),some (.fz false (.int a)),some (.fz false (.int s)),some (.fz false (.int bs)),some (.fz true (.int cell)),some (.fz true (.int W)),some (.fz true (il (srt cs))),x,some (.fz true (.int m))]) ∅ (λh=>?_) (λh=>yl ⟨m,⟨m1,Int.le_trans m97 #[2]⟩,rfl⟩) ?_
  ·obtain⟨u,hu,u1,u2⟩:∃u,1 + cell / 12 % 10 ^ (57:Int).toNat=u∧1≤u∧u≤10 ^ 57:=by
    have e:(10:Int) ^ (57:Int).toNat=10 ^ 57:=rfl;rw[e];have h1:=ζU (cell / 12) (show(10:Int) ^ 57≠0 by decide);have h2:=ζO (cell / 12) (show(0:Int) < 10 ^ 57 by decide);exact⟨_,rfl,⋯,⋯⟩
   exact exs1 true (d:=.int u) (EvE.eq (xc ∅ (xa (j:=10 ^ (57:Int).toNat) ∅ (by walk_at"ev"; exact cp57) #[2])) (congrArg PyData.int hu)) #[0] ⟨u,⟨u1,u2⟩,rfl⟩
  ·clear m1 m97;rintro Γ2 ⟨m,⟨m1,m2⟩,rfl⟩;have sl:(srt cs).length=s + 1:=by rw[pm.length_eq]; omega
   have sb:∀k:Nat,k < s + 1→0≤(srt cs).getD k 0∧(srt cs).getD k 0≤V:=λk hk=>cb _ (pm.mem_iff.mp (ζd (zo (d:=(0:Int)) ⋯)));have rk:=zdl sl (wL cs) (pm.mem_iff.mpr c0) (pm.mem_iff.mpr cW) (λx hx=>cb x (pm.mem_iff.mp hx)) ⋯ ⋯ m1 m2;refine zO true (EvO.toE (zcq (is:=[0]) (n:=s) (λk=>.int (((srt cs).getD (k + 1) 0 - (srt cs).getD k 0 + 1) * m)) ∅ ⋯ (by walk_at"cc") rfl #[2] ?_)) ⟨rowR (srt cs) m s,⟨rk.1,zdm (W:=W) (by rw[rk.2.1]; congr 1; omega) Wd,rk.2.2⟩,?_⟩ (.inl ⟨rfl,rfl⟩)
   ·intro k hk;have a1:atI ((srt cs).map PyData.int) ((k:Int) + 1)=some (.int ((srt cs).getD (k + 1) 0)):=xu (k:=k + 1) ⋯;have a0:atI ((srt cs).map PyData.int) (k:Int)=some (.int ((srt cs).getD k 0)):=xu ⋯;have i1:=sb k ⋯;have i2:=sb (k + 1) ⋯;exact egn #[0] (wZ (xc (XN (zP (κ:=false) ∅ ∅ a1) (zP (κ:=false) ∅ ∅ a0)) ∅) ∅ (zam ⋯ ⋯))
   ·unfold rowR il;rw[ζA];rfl
structure TbP(ss:AE)(cs:AI)(ts:List AH):Prop where
 h:∀(j:Nat) t,ts[j]?=some t→(t.length:Int)=prod (pk ss (cs.getD j []))∧∀r∈t,YO (ss.getD j 0) r
theorem TbP.add{ss:AE}{cs:AI}{ts:List AH}(h:TbP ss cs ts){t:AH}(h1:(t.length:Int)=prod (pk ss (cs.getD ts.length [])))(h2:∀r∈t,YO (ss.getD ts.length 0) r):TbP ss cs (ts ++ [t]):=⟨λj u hu=>by
 by_cases hj:j < ts.length
 ·rw[ξs hj]at hu;exact h.h j u hu
 ·have e:j=ts.length:=by
   have:=(ζh.mp hu).1;rw[ζg]at this;have:j < ts.length + 1:=this;omega
  subst e;rw[ξb (ζl _),ξ9]at hu;cases hu;exact⟨h1,h2⟩⟩
def vq(ds:AG)(G:AD→Prop):Prop:=∃(ns:AE) (n:Nat) (ss:AE) (cs:AI) (bs:Int),ds=[il ns,il ss,nls cs,.int bs]∧ns.length≤63∧n≤7∧SsOk n ss∧cs.length=n∧(∀own∈cs,(∀c∈own,c < n)∧own.length≤5)∧12≤bs∧bs≤100∧bs % 2=0∧G=λd=>∃ts,SkO ss cs ts bs∧d=tbl ts
theorem Z2:zw ["_law_script","_law_sizes_here","_law_causes","_law_base","_law_at_here","_law_tables_here","_law_k","_law_count","_law_j","_law_rows","_law_place"] ["_law_script","_law_sizes_here","_law_causes","_law_base"] (zn (top 54)):={}
theorem Z8(F:Fun K "_law_tables" "_law_tables" (top 54) f fd)(B:Bs mg)(c_law_row:zt P w K mg base CX0 "_law_row" ["_law_script","_law_at_here","_law_size","_law_base"] 2 (spW K true tR)):FnOk P w K mg base CX0 3 f fd ["_law_script","_law_sizes_here","_law_causes","_law_base"] (spW K true vq):=by
 have sc:=Z2;refine F.ok sc (λvs H Q E h=>YW (λ_ _⟨_,_,_,_,_,e,_⟩=>by rw[e];rfl) h) (λcdv A outer s H vs Q E hr h=>?_);obtain⟨Fh,ds,G,le,dp,p,q⟩:=h
 refine⟨_,(ze (pS (i:=4) sc.nd zf)
   (ze (pS (i:=5) sc.nd (zR zd))
   (ze (zU AC rfl (ye rfl B.range (zb (pB (zj (K:=K) rfl) B.len (zb (pv 1) zd)) zd)) (pN (i:=6) sc.nd) (ze (pS (i:=7) sc.nd zf)
   (ze (zU AC rfl (zG (K:=K) rfl (pX (zu (K:=K) rfl) (pv 2) (pv 6))) (pN (i:=8) sc.nd) (zg (pS (i:=7) sc.nd (zm yj (pv 7) (pX (zu (K:=K) rfl) (pv 1) (pv 8))))))
   (ze (pS (i:=9) sc.nd (zR zd))
   (ze (zU AC rfl (ye rfl B.range (zb (pv 7) zd)) (pN (i:=10) sc.nd) (ze (yc (yu (K:=K) rfl ζs ζC ζB zV (pv 9) (zb (pF c_law_row hr (zb (pv 0) (zb (pv 4) (zb (pX (zu (K:=K) rfl) (pv 1) (pv 6)) (zb (pv 3) zd))))) zd)))
   (zg (pS (i:=4) sc.nd (zm zX (pv 4) (pX (zu (K:=K) rfl) (pv 1) (pv 6)))))))
   (zg (yc (yu (K:=K) rfl ζs ζC ζB zV (pv 5) (zb (pv 9) zd)))))))))
   (zg (zE (pv 5)))))),?_⟩
 have hN:=sc.n 11;obtain⟨ns,n,ss,cs,bs,rfl,h63,n7,sok,cl,cok,b1,b2,b0,rfl⟩:=p;have big:=zI;have sl:=sok.l;refine Zr le dp q hN (by walk_at"st") ?_;refine exs true (d:=.int ((37:Nat):Int)) (show EvE K .fresh true _ _ (.int 37)by walk_at"ev") #[0] ?_;refine exo true (yf (ds:=[]) zC #[2]) #[0] ?_;refine yv (ds:=(List.range ss.length).map λi:Nat=>.int (i:Int)) true (λi Γ=>∃(ts:List AH) (a:Nat) (x6 x7 x8 x9 x10:Option DV),ts.length=i∧TbP ss cs ts∧(∀t∈ts,∀r∈t,RowD bs r∧∀x∈r,1≤x)∧a≤37 + 5000 * i∧Γ=[some (.fz false (il ns)),some (.fz false (il ss)),some (.fz false (nls cs)),some (.fz false (.int bs)),some (.fz true (.int a)),some (.ow true (ts.map lls)),x6,x7,x8,x9,x10]) (yM (n:=(ss.length:Int)) (zh (EvE.eq (yg (ds:=ss.map .int) ∅) (by rw[List.length_map])) zC) ⋯ ⋯) ⟨[],37,none,none,none,none,none,rfl,⟨λ_ _ h=>by simp at h⟩,λ_ h=>(nomatch h),⋯,rfl⟩ ?_ ?_
 ·rintro i d Γ' hd ⟨ts,a,x6,x7,x8,x9,x10,tl,tp,td,ha,rfl⟩;obtain⟨hi,rfl⟩:=yo hd;refine⟨_,egn #[0] ?_⟩
  have gc:cs[i]?=some (cs.getD i []):=zo ⋯;have C:=cok _ (ζd gc);have gs:=yI sok.s (k:=i) ⋯;obtain⟨s,es⟩:∃s:Nat,ss.getD i 0=(s:Int):=⟨(ss.getD i 0).toNat,⋯⟩
  have as:atI (ss.map PyData.int) (i:Int)=some (.int (s:Int)):=by rw[←es]; exact xu ⋯
  generalize hown:cs.getD i []=own at gc C;have a1:atI (cs.map nl) (i:Int)=some (nl own):=yz gc;have hol:∀c∈own,c < ss.length:=λc hc=>by rw[sl]; exact C.1 c hc
  have pr:=Xm (pk ss own) 5 (λx hx=>by
   obtain⟨j,hj,rfl⟩:=ζp.mp hx;have:=yI sok.s (hol j hj);omega) (by unfold Sx2.pk; rw[List.length_map]; exact C.2)
  have e5:(4:Int) ^ 5=1024:=by decide
  refine exs true (d:=.int 1) ∅ #[0] ?_;refine yv (ds:=own.map λk:Nat=>.int (k:Int)) false (λm Γ=>∃x8,Γ=[some (.fz false (il ns)),some (.fz false (il ss)),some (.fz false (nls cs)),some (.fz false (.int bs)),some (.fz true (.int a)),some (.ow true (ts.map lls)),some (.fz true (.int i)),some (.fz true (.int (prod (pk ss (own.take m))))),x8,x9,x10]) (zK (zP (κ:=false) ∅ ∅ a1)) ⟨x8,by rw[ζK]; rfl⟩ ?_ ?_
  ·rintro m d Γ' hd ⟨x8,rfl⟩;obtain⟨c,hc',rfl⟩:=yk hd;have hl:=hol c (ζd hc');have gs:=yI sok.s hl;refine⟨_,egn #[0] ?_⟩
   rw[take_succ hc',Uf,tf];exact exs1 true (wZ ∅ (zP (κ:=false) ∅ ∅ (xu hl)) (yG ⋯ ⋯)) #[0] ⟨_,rfl⟩
  rintro Γ' ⟨x8,rfl⟩;rw[ζa,ζR];obtain⟨M,eM⟩:∃M:Nat,prod (pk ss own)=(M:Int):=⟨(prod (pk ss own)).toNat,⋯⟩
  rw[eM];refine exo true (yf (ds:=[]) zC #[2]) #[0] ?_;refine yv (ds:=(List.range M).map λi:Nat=>.int (i:Int)) true (λp Γ=>∃(rs:AH) (a:Nat) (x10:Option DV),rs.length=p∧(∀r∈rs,YO s r∧RowD bs r∧∀x∈r,1≤x)∧a≤37 + 5000 * i + 4 * p∧Γ=[some (.fz false (il ns)),some (.fz false (il ss)),some (.fz false (nls cs)),some (.fz false (.int bs)),some (.fz true (.int a)),some (.ow true (ts.map lls)),some (.fz true (.int i)),some (.fz true (.int M)),x8,some (.ow true (rs.map il)),x10]) (yM (n:=(M:Int)) ∅ ⋯ ⋯) ⟨[],a,x10,rfl,λ_ h=>(nomatch h),⋯,rfl⟩ ?_ ?_
  ·clear ha;rintro p d Γ' hd ⟨rs,a,x10,rl,ro,ha,rfl⟩;obtain⟨hp,rfl⟩:=yo hd;refine⟨_,egn #[0] ?_⟩
   refine exag #[1] (ZQ (zh ∅ (zh ∅ (zh (zP (κ:=false) ∅ ∅ as) (zh ∅ zC)))) ⟨ns,a,s,bs,rfl,h63,⋯,⋯,⋯,b1,b2,b0,rfl⟩) (λd=>by walk_at"sc") (by rw[ζa]; omega) ?_;rintro d ⟨r,rok,rfl⟩;refine exs1 true (d:=.int ((a + s:Nat):Int)) (EvE.eq (xc ∅ (zP (κ:=false) ∅ ∅ as)) (congrArg PyData.int (show(a:Int) + (s:Int)=((a + s:Nat):Int)by omega))) #[0] ⟨rs ++ [r],a + s,_,by rw[ζg,rl]; rfl,λy hy=>?_,⋯,by rw[ζv]; rfl⟩;rcases ζu.mp hy with hy | hy
   ·exact ro y hy
   ·rw[ζi.mp hy]; exact rok
  ·clear ha;rintro Γ' ⟨rs,a,x10,rl,ro,ha,rfl⟩;rw[yn]at rl ha;refine exfz 9 #[1] #[0] ?_;rw[show PyData.list (rs.map il)=lls rs from rfl];refine exa1 (d:=lls rs) #[1] ∅ #[0] (by rw[ζa]; omega) ⟨ts ++ [rs],a,_,_,_,_,_,by rw[ζg,tl]; rfl,tp.add ?_ ?_,λt ht=>?_,⋯,by rw[ζv]; rfl⟩
   ·rw[tl,hown,eM,rl]
   ·rw[tl,es]; exact λr hr=>(ro r hr).1
   ·rcases ζu.mp ht with ht | ht
    ·exact td t ht
    ·rw[ζi.mp ht]; exact λr hr=>(ro r hr).2
 ·rintro Γ' ⟨ts,a,x6,x7,x8,x9,x10,tl,tp,td,ha,rfl⟩;rw[yn]at tl;refine exro #[1] ⟨ts,⟨⟨sok.s,⋯,by rw[cl,sl],by rw[tl],λk own hk=>?_,λk own t hk ht=>?_,λk t ht=>(tp.h k t ht).2⟩,⋯,⟨⋯,⋯⟩,td⟩,rfl⟩ (.inl ⟨rfl,rfl⟩)
  ·have C:=cok _ (ζd hk);exact⟨λc hc=>by rw[sl]; exact C.1 c hc,C.2⟩
  ·have e:cs.getD k []=own:=by rw[ζb,hk]; rfl
   rw[←e];exact(tp.h k t ht).1
def prT(ss:AE)(cs:AI)(ts:List AH)(Bb:Int)(ks:AF)(w:AE):Int:=prod (ks.map λk=>El.tkF ss cs ts Bb k w)
structure WIn(ss:AE)(w:AE):Prop where
 l:w.length=ss.length
 r:∀j,j < ss.length→0≤w.getD j 0∧w.getD j 0 < ss.getD j 0
def uK(ds:AG)(d:AD):Prop:=∃(ss:AE) (cs:AI) (ts:List AH) (Bb:Int) (ks:AF) (w:AE),ds=[uj ss cs ts,.int Bb,nl ks,il w]∧SkO ss cs ts Bb∧(∀k∈ks,k < ss.length)∧WIn ss w∧d=.int (prT ss cs ts Bb ks w)
theorem SkO.row{ss:AE}{cs:AI}{ts:List AH}{Bb:Int}(h:SkO ss cs ts Bb):∀t∈ts,∀r∈t,1≤r.sum∧r.sum < 10 ^ 62∧∀x∈r,0≤x∧x≤r.sum:=λt ht r hr=>by
 obtain⟨k,hk⟩:=ξi.mp ht;have R:=h.b.rk k t hk r hr;exact⟨R.p,R.b,VE r λx hx=>(R.w x hx).1⟩
theorem SkO.bd{ss:AE}{cs:AI}{ts:List AH}{Bb:Int}(h:SkO ss cs ts Bb)(k:Nat)(w:AE):0≤El.tkF ss cs ts Bb k w∧El.tkF ss cs ts Bb k w≤1010:=El.zez (by have:=h.B.lo; omega) h.B.hi (λt ht r hr=>(h.row t ht r hr).2.2) k w
theorem Wi:zw ["_law_parts","_law_base","_law_some","_law_values","_law_part_here","_law_k","_law_place","_law_j","_law_row_here"] ["_law_parts","_law_base","_law_some","_law_values"] (zn (top 56)):={}
theorem WF(F:Fun K "_law_part" "_law_part" (top 56) f fd)(B:Bs mg): FnOk P w K mg base CX0 1 f fd ["_law_parts","_law_base","_law_some","_law_values"] (spD K true uK):=by
 have sc:=Wi;refine F.ok sc (λvs H Q E h=>zH (λ_ _⟨_,_,_,_,_,_,e,_⟩=>by rw[e];rfl) h) (λcdv A outer s H vs Q E hr h=>?_);obtain⟨Fh,ds,d,le,dp,p,q⟩:=h
 refine⟨_,(ze (pS (i:=4) sc.nd zf)
   (ze (zU AC rfl (zG (K:=K) rfl (pv 2)) (pN (i:=5) sc.nd) (ze (pS (i:=6) sc.nd zf)
   (ze (zU AC rfl (zG (K:=K) rfl (pX (zu (K:=K) rfl) (pX (zB (K:=K) rfl) (pv 0) zf) (pv 5))) (pN (i:=7) sc.nd) (zg (pS (i:=6) sc.nd (zm zX (zm yj (pv 6) (pX (zu (K:=K) rfl) (pX (zB (K:=K) rfl) (pv 0) zf) (pv 7))) (pX (zu (K:=K) rfl) (pv 3) (pv 7))))))
   (ze (pS (i:=8) sc.nd (pX (zu (K:=K) rfl) (pX (zu (K:=K) rfl) (pX (zB (K:=K) rfl) (pv 0) zf) (pv 5)) (pv 6)))
   (zg (pS (i:=4) sc.nd (zm yj (pv 4) (zm yN (zm yj (pX (zu (K:=K) rfl) (pv 8) (pX (zu (K:=K) rfl) (pv 3) (pv 5))) (pv 1)) (pB (TW (K:=K) rfl rfl) B.sum (zb (pv 8) zd))))))))))
   (zg (zE (pv 4))))),?_⟩
 have hN:=sc.n 9;obtain⟨ss,cs,ts,Bb,ks,w,rfl,ok,hks,hw,rfl⟩:=p;have big:=zI;have n7:=ok.n;have cl:=ok.b.cl;have tl:=ok.b.tl;have B1:=ok.B.lo;have B2:=ok.B.hi;have wl:=hw.l;have wr:=hw.r;walk_at"run";refine exs true (d:=.int (prT ss cs ts Bb [] w)) (show EvE K .fresh true _ _ (.int 1)by walk_at"ev") #[0] ?_;refine yv (ds:=ks.map λk:Nat=>.int (k:Int)) false (λi Γ=>∃x5 x6 x7 x8,Γ=[some (.fz false (uj ss cs ts)),some (.fz false (.int Bb)),some (.fz false (nl ks)),some (.fz false (il w)),some (.fz true (.int (prT ss cs ts Bb (ks.take i) w))),x5,x6,x7,x8]) (zK ∅) ⟨none,none,none,none,by rw[ζK]⟩ ?_ ?_
 ·rintro i d Γ' hd ⟨x5,x6,x7,x8,rfl⟩;obtain⟨k,hk',rfl⟩:=yk hd;have hk:=hks k (ζd hk');have oc:=zo (d:=([]:AF)) (show k < cs.length by omega);have oo:=(ok.b.ck k _ oc).1;have a1:atI (cs.map nl) (k:Int)=some (nl (cs.getD k [])):=yz oc;have ot:ts[k]?=some (ts.getD k []):=zo ⋯;have a2:atI (ts.map lls) (k:Int)=some (lls (ts.getD k [])):=yz ot;have aw:atI (w.map PyData.int) (k:Int)=some (.int (w.getD k 0)):=xu ⋯;rw[take_succ hk'];generalize hpp:prT ss cs ts Bb (ks.take i) w=pp;refine⟨_,egn #[0] ?_⟩
  refine exs true (d:=.int 0) ∅ #[0] ?_;generalize hown:cs.getD k []=own at a1 oo;refine yv (ds:=own.map λk:Nat=>.int (k:Int)) false (λm Γ=>∃x7,Γ=[some (.fz false (uj ss cs ts)),some (.fz false (.int Bb)),some (.fz false (nl ks)),some (.fz false (il w)),some (.fz true (.int pp)),some (.fz false (.int k)),some (.fz true (.int (rkF (pk ss (own.take m)) ((own.take m).map λj=>w.getD j 0)))),x7,x8]) (zK (zP (κ:=false) (EvE.toL (xb (κ:=false) ∅ ∅ atI1)) ∅ a1)) ⟨_,by rw[ζK]; rfl⟩ ?_ ?_
  ·rintro m d Γ' hd ⟨x7,rfl⟩;obtain⟨c,hc',rfl⟩:=yk hd;have hcl:=oo c (ζd hc');have gc:=yI ok.b.s (k:=c) ⋯;have as:atI (ss.map PyData.int) (c:Int)=some (.int (ss.getD c 0)):=xu ⋯;have ac:atI (w.map PyData.int) (c:Int)=some (.int (w.getD c 0)):=xu ⋯;refine⟨_,egn #[0] ?_⟩
   rw[take_succ hc',Uf,ζv];show ExS K .fresh _ _ _;rw[show([c].map λj=>w.getD j 0)=[w.getD c 0]from rfl,El.Wq (by unfold Sx2.pk; rw[List.length_map,List.length_map])];exact exs1 true (xc (wZ ∅ (zP (κ:=false) (EvE.toL (xb (κ:=false) ∅ ∅ atI0)) ∅ as) (yG ⋯ ⋯)) (zP (κ:=false) ∅ ∅ ac)) #[0] ⟨_,rfl⟩
  ·rintro Γ' ⟨x7,rfl⟩;rw[ζa,ζR];have b:=wx (ss:=pk ss own) (ws:=own.map λj=>w.getD j 0) (by unfold Sx2.pk; rw[List.length_map,List.length_map]) λi s v h1 h2=>by
    unfold Sx2.pk at h1;rw[ζo]at h1 h2;cases e:own[i]? with
    | none=>rw[e]at h1; cases h1
    | some c =>
     rw[e]at h1 h2;have e1:ss.getD c 0=s:=ζr h1;have e2:w.getD c 0=v:=ζr h2;rw[←e1,←e2];exact wr c (oo c (ζd e))
   have tlen:=ok.b.tk k _ _ oc ot;rw[hown]at tlen;have er:(ts.getD k [])[(rkF (pk ss own) (own.map λj=>w.getD j 0)).toNat]?=some (El.rowW ss cs ts k w):=by
    unfold El.rowW;rw[hown];exact zo ⋯
   have ar:atI ((ts.getD k []).map il) (rkF (pk ss own) (own.map λj=>w.getD j 0))=some (il (El.rowW ss cs ts k w)):=by
    have:=yz (g:=il) er
    rwa [ζ0 b.1]at this
   have R:=ok.b.rk k _ ot _ (ζd er);have rr:=ok.row _ (ζd ot) _ (ζd er);have wk:=wr k hk;have rl:=R.l;have ax:atI ((El.rowW ss cs ts k w).map PyData.int) (w.getD k 0)=some (.int ((El.rowW ss cs ts k w).getD (w.getD k 0).toNat 0)):=zbe wk.1 ⋯;refine exs false (d:=il (El.rowW ss cs ts k w)) (zP (κ:=false) (EvE.toL (zP (κ:=false) (EvE.toL (xb (κ:=false) ∅ ∅ atI2)) ∅ a2)) ∅ ar) #[0] ?_;have cd:vM ((El.rowW ss cs ts k w).getD (w.getD k 0).toNat 0 * Bb) (El.rowW ss cs ts k w).sum:=⟨⋯,by
    have e:(10:Int) ^ 62 < 2 ^ 1000:=by decide
    have h2:(El.rowW ss cs ts k w).sum.natAbs < 2 ^ 1000:=by omega
    exact up h2 ⋯⟩
   have tb:=ok.bd k w;refine exs1 true (d:=.int (prT ss cs ts Bb (ks.take i ++ [k]) w)) (EvE.eq (wZ (j:=El.tkF ss cs ts Bb k w) ∅ (WX (wZ (zP (κ:=false) ∅ (zP (κ:=false) ∅ ∅ aw) ax) ∅ (yG ⋯ ⋯)) (zd0 ∅) cd) (yG ⋯ ⋯)) (by
    show _=PyData.int (prod ((ks.take i ++ [k]).map _));rw[ζv,←hpp];exact congrArg PyData.int (tf _ _).symm)) #[0] ⟨_,_,_,_,rfl⟩
 ·rintro Γ' ⟨x5,x6,x7,x8,rfl⟩;refine zO true ∅ ?_ (.inl ⟨rfl,rfl⟩);rw[ζa,ζR]
def wOO(n:Nat)(U hs:AF)(w o:AE):AE:=(List.range n).map (Pb.asn (Pb.asn (λ_=>0) U w) hs o)
theorem Vc{n:Nat}{U hs:AF}{w o:AE}{j:Nat}(h:j < n):(wOO n U hs w o).getD j 0=Pb.asn (Pb.asn (λ_=>0) U w) hs o j:=by
 unfold wOO;rw[ζb,ζo,ξD h];rfl
theorem vV{ss:AE}:∀(ks:AF) (w:AE) (a:El.Asg) (j:Nat),j∈ks→ks.Nodup→w.length=ks.length→(∀(i:Nat) s v,(pk ss ks)[i]?=some s→w[i]?=some v→0≤v∧v < s)→Pb.asn a ks w j=w.getD (ks.idxOf j) 0∧0≤Pb.asn a ks w j∧Pb.asn a ks w j < ss.getD j 0
 | k :: r,v :: w,a,j,hj,nd,hl,hr=>by
  show Pb.asn (El.upd a k v) r w j=_∧0≤Pb.asn (El.upd a k v) r w j∧Pb.asn (El.upd a k v) r w j < _;have⟨kn,nd'⟩:=ζ3.mp nd;by_cases e:j=k
  ·subst e;rw[Pb.yS r w _ kn,El.zk,List.idxOf_cons_self];exact⟨rfl,hr 0 _ v rfl rfl⟩
  ·have hj':=(ζw.mp hj).resolve_left e;rw[List.idxOf_cons,show(k == j)=false from beq_eq_false_iff_ne.mpr λz=>e z.symm,cond_false];exact vV r w _ j hj' nd' (by simpa using hl) λi s u h1 h2=>hr (i + 1) s u h1 h2
structure HdO(ss:AE)(U hs:AF):Prop where
 s7:S7 ss
 pm:(U ++ hs).Perm (List.range ss.length)
 un:hs=(List.range ss.length).filter λj=>!decide (j∈U)
section
variable {ss:AE}{U hs:AF}
theorem HdO.nd(h:HdO ss U hs):U.Nodup∧hs.Nodup∧∀j∈U,j∉hs:=by
 have:=h.pm.nodup_iff.mpr List.nodup_range;rw[ζW]at this;exact⟨this.1,this.2.1,λj h1 h2=>this.2.2 j h1 j h2 rfl⟩
theorem HdO.mem(h:HdO ss U hs){j:Nat}:j∈U∨j∈hs↔j < ss.length:=by rw[←ζu,h.pm.mem_iff,ζE]
theorem HdO.len(h:HdO ss U hs):U.length + hs.length=ss.length:=by rw[←ζg,h.pm.length_eq,ζz]
theorem HdO.sz(h:HdO ss U hs):SzOk ss U∧SzOk ss hs:=by
 have l:=h.len;have n:=h.s7.n;exact⟨tM h.s7 (λk hk=>h.mem.mp (.inl hk)) ⋯,tM h.s7 (λk hk=>h.mem.mp (.inr hk)) ⋯⟩
theorem X3{ks:AF}(sz:SzOk ss ks){w:AE}(hw:w∈wds (pk ss ks)):∀(i:Nat) s v,(pk ss ks)[i]?=some s→w[i]?=some v→0≤v∧v < s:=λi s v h1 h2=>Vb (λs h=>by have:=sz.pk s h; omega) hw i s v h1 h2
theorem HdO.win(h:HdO ss U hs){w o:AE}(hw:w∈wds (pk ss U))(ho:o∈wds (pk ss hs)):WIn ss (wOO ss.length U hs w o):=by
 have⟨n1,n2,n3⟩:=h.nd;have⟨z1,z2⟩:=h.sz;refine⟨by unfold wOO; rw[List.length_map,List.length_range],λj hj=>?_⟩
 rw[Vc hj];rcases h.mem.mpr hj with hu | hh
 ·rw[Pb.yS _ _ _ (n3 j hu)];exact(vV U w _ j hu n1 (wlen hw) (X3 z1 hw)).2
 ·exact(vV hs o _ j hh n2 (wlen ho) (X3 z2 ho)).2
end
def hdF(ss:AE)(cs:AI)(ts:List AH)(Bb:Int)(U hs L:AF)(w:AE):Int:=((wds (pk ss hs)).map λo=>prT ss cs ts Bb (L ++ hs) (wOO ss.length U hs w o)).sum
theorem X1(ks:AF)(w:AE):List.zipWith (λa b=>PyData.tuple [a,b]) (ks.map λk:Nat=>PyData.int (k:Int)) (w.map PyData.int)=(ks.zip w).map λx=>.tuple [.int (x.1:Int),.int x.2]:=by
 rw[List.zipWith_map,List.zip,List.map_zipWith]
theorem zav{ss:AE}{ks:AF}(sz:SzOk ss ks){k:Nat}(h:k∈ks):k < ss.length:=sz.k k h
theorem zc4{ss:AE}{ks:AF}(sz:SzOk ss ks){i k:Nat}(h:ks[i]?=some k):k < ss.length:=sz.k k (ζd h)
def ud(ds:AG)(d:AD):Prop:=∃(ss:AE) (cs:AI) (ts:List AH) (Bb:Int) (U hs L:AF),ds=[uj ss cs ts,.int Bb,nl hs,nl U,nl L]∧SkO ss cs ts Bb∧HdO ss U hs∧(∀k∈L,k∈U)∧L.length≤100∧d=il ((wds (pk ss U)).map (hdF ss cs ts Bb U hs L))
theorem Zu:∀(ks:AF) (w:AE) (vs:AE) (i k:Nat) (v:Int),ks[i]?=some k→w[i]?=some v→Pb.putL vs (ks.take (i + 1)) (w.take (i + 1))=(Pb.putL vs (ks.take i) (w.take i)).set k v
 | k :: r,v :: w,vs,0,_,_,h1,h2=>by
  cases h1;cases h2;show Pb.putL (vs.set _ _) (r.take 0) (w.take 0)=_;rw[ζK,ζK,ζK,ζK];rfl
 | k :: r,v :: w,vs,i + 1,_,_,h1,h2=>Zu r w (vs.set k v) i _ _ h1 h2
theorem Y9:zw ["_law_parts","_law_base","_law_hidden","_law_seen","_law_some","_law_heads_here","_law_values","_law_world","_law_k","_law_value","_law_top","_law_other"] ["_law_parts","_law_base","_law_hidden","_law_seen","_law_some"] (zn (top 57)):={}
theorem Xw(F:Fun K "_law_heads" "_law_heads" (top 57) f fd)(B:Bs mg)(c_law_worlds:zt P w K mg base CX0 "_law_worlds" ["_law_sizes_here","_law_things"] 1 (spD K true vp))(c_law_part:zt P w K mg base CX0 "_law_part" ["_law_parts","_law_base","_law_some","_law_values"] 1 (spD K true uK)):FnOk P w K mg base CX0 2 f fd ["_law_parts","_law_base","_law_hidden","_law_seen","_law_some"] (spD K true ud):=by
 have sc:=Y9;refine F.ok sc (λvs H Q E h=>zH (λ_ _⟨_,_,_,_,_,_,_,e,_⟩=>by rw[e];rfl) h) (λcdv A outer s H vs Q E hr h=>?_);obtain⟨Fh,ds,d,le,dp,p,q⟩:=h
 refine⟨_,(ze (pS (i:=5) sc.nd (zR zd))
   (ze (yB (i:=6) rfl sc.nd rfl rfl (N:=["_law_size"]) (js:=[none]) (by walk_at"comp_ok") (zG (K:=K) rfl (pX (zB (K:=K) rfl) (pv 0) zf)) (λ_ _ _ _=>(pN (i:=0) (show υN ["_law_size"]by decide +kernel))) (λ_ _ _ _=>xf) (λ_ _ _ _=>zf))
   (ze (zU AC rfl (zG (K:=K) rfl (pF c_law_worlds hr (zb (pX (zB (K:=K) rfl) (pv 0) zf) (zb (pv 3) zd)))) (pN (i:=7) sc.nd) (ze (zU AC rfl (wc (K:=K) rfl rfl B.zip (zb (pv 3) (zb (pv 7) zd))) (xK (K:=K) (n:=2) rfl rfl (yd (pN (i:=8) sc.nd) (yd (pN (i:=9) sc.nd) xJ))) (zg (Zw (pv 9) (Xn (pv 6) (pv 8) uB))))
   (ze (pS (i:=10) sc.nd zf)
   (ze (zU AC rfl (zG (K:=K) rfl (pF c_law_worlds hr (zb (pX (zB (K:=K) rfl) (pv 0) zf) (zb (pv 2) zd)))) (pN (i:=11) sc.nd) (ze (zU AC rfl (wc (K:=K) rfl rfl B.zip (zb (pv 2) (zb (pv 11) zd))) (xK (K:=K) (n:=2) rfl rfl (yd (pN (i:=8) sc.nd) (yd (pN (i:=9) sc.nd) xJ))) (zg (Zw (pv 9) (Xn (pv 6) (pv 8) uB))))
   (zg (pS (i:=10) sc.nd (zm zX (pv 10) (pF c_law_part hr (zb (pv 0) (zb (pv 1) (zb (zm (vA (K:=K) rfl) (pv 4) (pv 2)) (zb (pv 6) zd))))))))))
   (zg (yc (yu (K:=K) rfl ζs ζC ζB zV (pv 5) (zb (pv 10) zd))))))))
   (zg (zE (pv 5)))))),?_⟩
 have hN:=sc.n 12;obtain⟨ss,cs,ts,Bb,U,hs,L,rfl,ok,hd,hL,Ll,rfl⟩:=p;have big:=zI;have n7:=ok.n;have⟨nd1,nd2,nd3⟩:=hd.nd;have⟨z1,z2⟩:=hd.sz;have p1:=z1.p;have p2:=z2.p;have len:=hd.len;walk_at"run";refine exo true (yf (ds:=[]) zC #[2]) #[0] ?_;refine exo true (ds:=(List.replicate ss.length (0:Int)).map .int) (EvO.eq (wY (is:=[0]) (κ:=true) false (λ_=>.int 0) (zK (xb (κ:=false) ∅ ∅ atI0)) (by walk_at"cc") rfl #[2] (by rw[ζa]; omega) λd _=>egn #[0] ∅) (by rw[ζA,List.map_replicate]; exact List.map_const' ..)) #[0] ?_;refine yv (ds:=(wds (pk ss U)).map il) true (λi Γ=>∃(vs:AE) (x7 x8 x9 x10 x11:Option DV),vs.length=ss.length∧Γ=[some (.fz false (uj ss cs ts)),some (.fz false (.int Bb)),some (.fz false (nl hs)),some (.fz false (nl U)),some (.fz false (nl L)),some (.ow true ((((wds (pk ss U)).take i).map (hdF ss cs ts Bb U hs L)).map .int)),some (.ow true (vs.map .int)),x7,x8,x9,x10,x11]) (zK (zi (zh (xb (κ:=false) ∅ ∅ atI0) (zh ∅ zC)) ⟨ss,U,rfl,z1,rfl⟩)) ⟨List.replicate ss.length 0,none,none,none,none,none,ζT ..,by rw[ζK]; rfl⟩ ?_ ?_
 ·rintro i d Γ' hd' ⟨vs,x7,x8,x9,x10,x11,vl',rfl⟩;obtain⟨w,hw',rfl⟩:=yk hd';have hw:=ζd hw';have wl:=wlen hw;have hi:=(ζh.mp hw').1;rw[yL]at hi;have AV:=λj hj=>vV (ss:=ss) U w (λ_=>0) j hj nd1 wl (X3 z1 hw);rw[take_succ hw',ζv,ζv];have accl:((((wds (pk ss U)).take i).map (hdF ss cs ts Bb U hs L)).map PyData.int).length≤16384:=by
   rw[ζa,ζa,ζN,yL];omega
  generalize (((wds (pk ss U)).take i).map (hdF ss cs ts Bb U hs L)).map PyData.int=acc at accl;refine⟨_,egn #[0] ?_⟩
  refine yv (ds:=(U.zip w).map λx=>.tuple [.int (x.1:Int),.int x.2]) false (λj Γ=>∃x8 x9,Γ=[some (.fz false (uj ss cs ts)),some (.fz false (.int Bb)),some (.fz false (nl hs)),some (.fz false (nl U)),some (.fz false (nl L)),some (.ow true acc),some (.ow true ((Pb.putL vs (U.take j) (w.take j)).map .int)),some (.fz true (il w)),x8,x9,x10,x11]) ((vG ∅).eq (X1 U w)) ⟨_,_,by rw[ζK,ζK]; rfl⟩ ?_ ?_
  ·rintro j d Γ' hd ⟨x8,x9,rfl⟩;obtain⟨⟨k,v⟩,hkv,rfl⟩:=yk hd;obtain⟨hk,hv⟩:=ξr.mp hkv;have kl:=zc4 z1 hk;refine⟨_,egt #[0] #[0] ?_⟩
   rw[Zu U w vs j k v hk hv,List.map_set];exact exi1 (j:=k) (d:=.int v) #[1] ∅ ∅ (wj (by rw[ζa,Pb.wA,vl']; exact kl)) #[0] ⟨_,_,rfl⟩
  rintro Γ' ⟨x8,x9,rfl⟩;rw[ζa,ξQ,show min U.length w.length=U.length by omega,ζR,show U.length=w.length from wl.symm,ζR];obtain⟨vs1,e1,l1,g1⟩:∃vs1,Pb.putL vs U w=vs1∧vs1.length=ss.length∧∀j∈U,vs1.getD j 0=Pb.asn (λ_=>0) U w j:=⟨_,rfl,by rw[Pb.wA,vl'],λj hj=>by
   rw[Pb.Xl U w vs (λi=>vs.getD i 0) (by rw[vl']; exact zav z1 hj) λ_ _=>rfl];exact Pb.VR U w _ _ hj wl.symm⟩
  rw[e1];refine exs true (d:=.int 0) ∅ #[0] ?_;refine yv (ds:=(wds (pk ss hs)).map il) true (λj Γ=>∃(vs:AE) (x8 x9 x11:Option DV),(vs.length=ss.length∧∀j∈U,vs.getD j 0=Pb.asn (λ_=>0) U w j)∧Γ=[some (.fz false (uj ss cs ts)),some (.fz false (.int Bb)),some (.fz false (nl hs)),some (.fz false (nl U)),some (.fz false (nl L)),some (.ow true acc),some (.ow true (vs.map .int)),some (.fz true (il w)),x8,x9,some (.fz true (.int ((((wds (pk ss hs)).take j).map λo=>prT ss cs ts Bb (L ++ hs) (wOO ss.length U hs w o)).sum))),x11]) (zK (zi (zh (xb (κ:=false) ∅ ∅ atI0) (zh ∅ zC)) ⟨ss,hs,rfl,z2,rfl⟩)) ⟨vs1,_,_,_,⟨l1,g1⟩,by rw[ζK]; rfl⟩ ?_ ?_
  ·rintro j d Γ' hd' ⟨vs,x8,x9,x11,⟨vl2,gv⟩,rfl⟩;obtain⟨o,ho',rfl⟩:=yk hd';have ho:=ζd ho';have ol:=wlen ho;refine⟨_,egn #[0] ?_⟩
   rw[take_succ ho',ζv,List.sum_append];generalize (((wds (pk ss hs)).take j).map λo=>prT ss cs ts Bb (L ++ hs) (wOO ss.length U hs w o)).sum=tp;refine yv (ds:=(hs.zip o).map λx=>.tuple [.int (x.1:Int),.int x.2]) false (λm Γ=>∃x8 x9,Γ=[some (.fz false (uj ss cs ts)),some (.fz false (.int Bb)),some (.fz false (nl hs)),some (.fz false (nl U)),some (.fz false (nl L)),some (.ow true acc),some (.ow true ((Pb.putL vs (hs.take m) (o.take m)).map .int)),some (.fz true (il w)),x8,x9,some (.fz true (.int tp)),some (.fz true (il o))]) ((vG ∅).eq (X1 hs o)) ⟨_,_,by rw[ζK,ζK]; rfl⟩ ?_ ?_
   ·rintro m d Γ' hd ⟨x8,x9,rfl⟩;obtain⟨⟨k,v⟩,hkv,rfl⟩:=yk hd;obtain⟨hk,hv⟩:=ξr.mp hkv;have kl:=zc4 z2 hk;refine⟨_,egt #[0] #[0] ?_⟩
    rw[Zu hs o vs m k v hk hv,List.map_set];exact exi1 (j:=k) (d:=.int v) #[1] ∅ ∅ (wj (by rw[ζa,Pb.wA,vl2]; exact kl)) #[0] ⟨_,_,rfl⟩
   ·rintro Γ' ⟨x8,x9,rfl⟩;rw[ζa,ξQ,show min hs.length o.length=hs.length by omega,ζR,show hs.length=o.length from ol.symm,ζR];have ew:Pb.putL vs hs o=wOO ss.length U hs w o:=by
     refine List.ext_getElem? λt=>?_;by_cases ht:t < ss.length
     ·have e1:(Pb.putL vs hs o).getD t 0=(wOO ss.length U hs w o).getD t 0:=by
       rw[Vc ht,Pb.Xl hs o vs (λi=>vs.getD i 0) ⋯ λ_ _=>rfl];rcases hd.mem.mpr ht with hu | hh
       ·rw[Pb.yS _ _ _ (nd3 t hu),Pb.yS _ _ _ (nd3 t hu)];exact gv t hu
       ·exact Pb.VR hs o _ _ hh ol.symm
      rw[zo (d:=(0:Int)) (show t < (Pb.putL vs hs o).length by rw[Pb.wA,vl2]; exact ht),zo (d:=(0:Int)) (show t < (wOO ss.length U hs w o).length by unfold wOO; rw[List.length_map,List.length_range]; exact ht),e1]
     ·rw[List.getElem?_eq_none (by rw[Pb.wA,vl2]; omega),List.getElem?_eq_none (by unfold wOO; rw[List.length_map,List.length_range]; omega)]
    rw[ew];have wi:=hd.win hw ho;have cat:(L.map λk:Nat=>PyData.int (k:Int)) ++ (hs.map λk:Nat=>PyData.int (k:Int))=(L ++ hs).map λk:Nat=>PyData.int (k:Int):=(ζv ..).symm;refine exs1 true (d:=.int (tp + prT ss cs ts Bb (L ++ hs) (wOO ss.length U hs w o))) (xc ∅ (zcs 6 #[1] #[0] (zi (zh ∅ (zh ∅ (zh (EvO.toE (EvO.eq (uU (xs:=L.map λk:Nat=>PyData.int (k:Int)) (ys:=hs.map λk:Nat=>PyData.int (k:Int)) (EvE.toL (κ:=false) ∅) (EvE.toL (κ:=false) ∅) (by rw[ζa,ζa]; omega)) cat)) (zh ∅ zC)))) ⟨ss,cs,ts,Bb,L ++ hs,_,rfl,ok,λk hk=>hd.mem.mp ((ζu.mp hk).imp (hL k) id),wi,rfl⟩) rfl)) #[0] ?_;have gw:∀j∈U,(wOO ss.length U hs w o).getD j 0=Pb.asn (λ_=>0) U w j:=λt ht=>by rw[Vc (zav z1 ht),Pb.yS _ _ _ (nd3 t ht)]
    show∃(vs:AE) (x8 x9 x11:Option DV),_∧_=[_,_,_,_,_,_,_,_,_,_,some (DV.fz true (.int (tp + (prT ss cs ts Bb (L ++ hs) (wOO ss.length U hs w o) + 0)))),_];rw[Int.add_zero];exact⟨wOO ss.length U hs w o,_,_,_,⟨wi.l,gw⟩,rfl⟩
  ·rintro Γ' ⟨vs,x8,x9,x11,⟨vl2,gv⟩,rfl⟩;rw[ζa,ζR,show((wds (pk ss hs)).map λo=>prT ss cs ts Bb (L ++ hs) (wOO ss.length U hs w o)).sum=hdF ss cs ts Bb U hs L w from rfl];refine exa1 (d:=.int (hdF ss cs ts Bb U hs L w)) #[1] ∅ #[0] ⋯ ?_;exact⟨vs,_,_,_,_,_,vl2,rfl⟩
 ·rintro Γ' ⟨vs,x7,x8,x9,x10,x11,vl',rfl⟩;rw[ζa,ζR];exact exro #[1] rfl (.inl ⟨rfl,rfl⟩)
def wT(ds:AG)(d:AD):Prop:=∃(x:Int×Int) (T Bt:Int),ds=[shD x,.int T,.int Bt]∧Shr 1000 x.1 x.2∧T.natAbs < 2 ^ 1000∧Bt.natAbs < 2 ^ 1000∧x.1 * Bt=T * x.2∧d=.bool true
theorem Wk:zw ["_law_found","_law_top","_law_bottom_here"] ["_law_found","_law_top","_law_bottom_here"] (zn (top 49)):={}
theorem WH(F:Fun K "_law_fits" "_law_fits" (top 49) f fd)(B:Bs mg)(c_law_whole:zt P w K mg base CX0 "_law_whole" ["_law_found"] 1 (spD K true v9))(c_law_common:zt P w K mg base CX0 "_law_common" ["_law_one","_law_other"] 1 (spD K true xS)):FnOk P w K mg base CX0 2 f fd ["_law_found","_law_top","_law_bottom_here"] (spD K true wT):=by
 have sc:=Wk;refine F.ok sc (λvs H Q E h=>zH (λ_ _⟨_,_,_,e,_⟩=>by rw[e];rfl) h) (λcdv A outer s H vs Q E hr h=>?_);obtain⟨Fh,ds,d,le,dp,p,q⟩:=h
 refine⟨_,(ze (yK (PW.pt (Uc (uk (wt (pB (w6 (K:=K) rfl) B.isinstance (zb (pv 0) (zb (t9 (v:=.ty "tuple") rfl B.tuple (by decide +kernel) rfl) zd))))) (Vq (zF Yr (pB (zj (K:=K) rfl) B.len (zb (pv 0) zd)) zf (zT _))))) (zg (zE uN)) zY)
   (ze (yK (PW.pt (Uc (uk (wt (pF c_law_whole hr (zb (pX (zB (K:=K) rfl) (pv 0) zf) zd)))) (Uc (uk (wt (pF c_law_whole hr (zb (pX (zB (K:=K) rfl) (pv 0) zf) zd)))) (Vq (zF Ys (pX (zB (K:=K) rfl) (pv 0) zf) zf (zT _)))))) (zg (zE uN)) zY)
   (zg (zE (Q5 (wf wD (zm yj (pX (zB (K:=K) rfl) (pv 0) zf) (pv 2)) (zm yj (pv 1) (pX (zB (K:=K) rfl) (pv 0) zf)) (zT _)) (Vt (wf wD (pF c_law_common hr (zb (pX (zB (K:=K) rfl) (pv 0) zf) (zb (pX (zB (K:=K) rfl) (pv 0) zf) zd))) zf (zT _)))))))),?_⟩
 have hN:=sc.n 3;obtain⟨⟨a,b⟩,T,Bt,rfl,sh,hT,hB,he,rfl⟩:=p;have b1:1≤b:=sh.low.pos;have m1:IntMulOk a Bt:=ZI sh.ba hB ⋯;have m2:IntMulOk T b:=ZI hT sh.bb ⋯;walk_at"run";refine tW ∅ (by simp) ?_;refine tW (b:=!true || (!true || decide (b < 1))) (UF (tI (et_B (zi ∅ ⟨_,rfl,rfl⟩))) λ_=>UF (tI (et_B (zi ∅ ⟨_,rfl,rfl⟩))) λ_=>by walk_at"ev") (by simp; omega) ?_;refine zO true (EvE.eq (zaV ∅ λ_=>wv (zi ∅ ⟨a,b,rfl,b1,rfl⟩) ∅) ?_) rfl (.inl ⟨rfl,rfl⟩);have he':a * Bt=T * b:=he;have hg:Int.gcd a b=1:=sh.low.co;rw[he',hg];simp
def wS(ds:AG)(d:AD):Prop:=∃(xs:AM) (hs:AE) (Bt:Int),ds=[shs xs,il hs,.int Bt]∧xs.length=hs.length∧(∀(i:Nat) x T,xs[i]?=some x→hs[i]?=some T→wT [shD x,.int T,.int Bt] (.bool true))∧d=.bool true
theorem Wj:zw ["_law_found","_law_heads_here","_law_bottom_here","_law_one","_law_top"] ["_law_found","_law_heads_here","_law_bottom_here"] (zn (top 61)):={}
theorem WG(F:Fun K "_law_good" "_law_good" (top 61) f fd)(B:Bs mg)(c_law_fits:zt P w K mg base CX0 "_law_fits" ["_law_found","_law_top","_law_bottom_here"] 2 (spD K true wT)):FnOk P w K mg base CX0 3 f fd ["_law_found","_law_heads_here","_law_bottom_here"] (spD K true wS):=by
 have sc:=Wj;refine F.ok sc (λvs H Q E h=>zH (λ_ _⟨_,_,_,e,_⟩=>by rw[e];rfl) h) (λcdv A outer s H vs Q E hr h=>?_);obtain⟨Fh,ds,d,le,dp,p,q⟩:=h
 refine⟨_,(ze (yK (PW.pt (Uc (uk (wt (pB (w6 (K:=K) rfl) B.isinstance (zb (pv 0) (zb (t9 (v:=.ty "list") rfl B.list (by decide +kernel) rfl) zd))))) (Vq (zF Yr (pB (zj (K:=K) rfl) B.len (zb (pv 0) zd)) (pB (zj (K:=K) rfl) B.len (zb (pv 1) zd)) (zT _))))) (zg (zE uN)) zY)
   (ze (zU AC rfl (wc (K:=K) rfl rfl B.zip (zb (pv 0) (zb (pv 1) zd))) (xK (K:=K) (n:=2) rfl rfl (yd (pN (i:=3) sc.nd) (yd (pN (i:=4) sc.nd) xJ))) (zg (yK (uk (wt (pF c_law_fits hr (zb (pv 3) (zb (pv 4) (zb (pv 2) zd)))))) (zg (zE uN)) zY)))
   (zg (zE uN)))),?_⟩
 have hN:=sc.n 5;obtain⟨xs,hs,Bt,rfl,hl,hf,rfl⟩:=p;walk_at"run";refine tW (b:=!true || !decide ((xs.length:Int)=hs.length)) (UF ∅ λ_=>zM (zaR (EvE.eq (yg (ds:=xs.map shD) ∅) (by rw[List.length_map])) (EvE.eq (yg (ds:=hs.map PyData.int) ∅) (by rw[List.length_map])))) (by rw[hl]; simp) ?_;refine yv false (λi Γ=>∃x y,Γ=[some (.fz false (shs xs)),some (.fz false (il hs)),some (.fz false (.int Bt)),x,y]) (vG ∅) ⟨none,none,rfl⟩ ?_ ?_
 ·rintro i d Γ' hd ⟨x,y,rfl⟩;obtain⟨z,T,hz,hT,rfl⟩:=ZO hd;refine⟨_,egt #[0] #[0] ?_⟩
  exact vE (b:=!true) (tI (et_B (zi ∅ (hf i z T hz hT)))) (λh=>by cases h) λ_=>yl ⟨_,_,rfl⟩
 ·rintro Γ' ⟨x,y,rfl⟩;exact zO true ∅ rfl (.inl ⟨rfl,rfl⟩)
def vx(ds:AG)(d:AD):Prop:=∃(Bb:Int) (n:Nat),ds=[.int Bb,.int n]∧BOk Bb∧n≤7∧d=.int (Bb ^ n)
theorem Z5:zw ["_law_base","_law_many","_law_bottom_here","_law_k"] ["_law_base","_law_many"] (zn (top 58)):={}
theorem Yb(F:Fun K "_law_bottom" "_law_bottom" (top 58) f fd)(B:Bs mg): FnOk P w K mg base CX0 1 f fd ["_law_base","_law_many"] (spD K true vx):=by
 have sc:=Z5;refine F.ok sc (λvs H Q E h=>zH (λ_ _⟨_,_,e,_⟩=>by rw[e];rfl) h) (λcdv A outer s H vs Q E hr h=>?_);obtain⟨Fh,ds,d,le,dp,p,q⟩:=h
 refine⟨_,(ze (pS (i:=2) sc.nd zf)
   (ze (zU AC rfl (ye rfl B.range (zb (pv 1) zd)) (pN (i:=3) sc.nd) (zg (pS (i:=2) sc.nd (zm yj (pv 2) (pv 0)))))
   (zg (zE (pv 2))))),?_⟩
 have hN:=sc.n 4;obtain⟨Bb,n,rfl,hB,hn,rfl⟩:=p;have B1:=hB.lo;have B2:=hB.hi;walk_at"run";refine exs true (d:=.int 1) ∅ #[0] ?_;refine yv (ds:=(List.range n).map λi:Nat=>.int (i:Int)) true (λi Γ=>∃x,Γ=[some (.fz false (.int Bb)),some (.fz false (.int n)),some (.fz true (.int (Bb ^ i))),x]) (yM (n:=(n:Int)) ∅ ⋯ ⋯) ⟨none,by rw[Int.pow_zero]⟩ ?_ ?_
 ·rintro i d Γ' hd ⟨x,rfl⟩;obtain⟨hi,rfl⟩:=yo hd;refine⟨_,egn #[0] ?_⟩
  rw[Int.pow_succ];exact exs1 true (wZ ∅ ∅ (yG ⋯ ⋯)) #[0] ⟨_,rfl⟩
 ·rintro Γ' ⟨x,rfl⟩;rw[yn];exact zO true ∅ rfl (.inl ⟨rfl,rfl⟩)
def vt(ds:AG)(d:AD):Prop:=∃a b:Int,ds=[.int a,.int b]∧1≤b∧Int.gcd a b < 2 ^ 9000∧d=shD (mk a b)
theorem Z3:zw ["_law_top","_law_bottom_here","_law_many"] ["_law_top","_law_bottom_here"] (zn (top 60)):={}
theorem Z9(F:Fun K "_law_lowest" "_law_lowest" (top 60) f fd)(B:Bs mg)(c_law_common:zt P w K mg base CX0 "_law_common" ["_law_one","_law_other"] 1 (spD K true xS)):FnOk P w K mg base CX0 2 f fd ["_law_top","_law_bottom_here"] (spD K true vt):=by
 have sc:=Z3;refine F.ok sc (λvs H Q E h=>zH (λ_ _⟨_,_,e,_⟩=>by rw[e];rfl) h) (λcdv A outer s H vs Q E hr h=>?_);obtain⟨Fh,ds,d,le,dp,p,q⟩:=h
 refine⟨_,(ze (pS (i:=2) sc.nd (pF c_law_common hr (zb (pv 0) (zb (pv 1) zd))))
   (zg (zE (yH (zb (zm yN (pv 0) (pv 2)) (zb (zm yN (pv 1) (pv 2)) zd)))))),?_⟩
 have hN:=sc.n 3;obtain⟨a,b,rfl,hb,hbb,rfl⟩:=p;walk_at"run";have e1:∀x,vM x ((Int.gcd a b:Nat):Int):=λx=>⟨Zc hb,hbb⟩
 refine exs true (zi ∅ ⟨a,b,rfl,hb,rfl⟩) #[0] ?_;refine zO true (by walk_at"ev"; exact e1 _; exact e1 _) ?_ (.inl ⟨rfl,rfl⟩);rfl
def cm(ss:AE)(a:El.Asg):El.Asg:=λj=>a j % ss.getD j 0
def wM(ss:AE)(a:El.Asg):AE:=(List.range ss.length).map (cm ss a)
theorem Yf{ss:AE}{a:El.Asg}{j:Nat}(h:j < ss.length):(wM ss a).getD j 0=cm ss a j:=by
 unfold wM;rw[ζb,ζo,ξD h];rfl
theorem Qa{ss:AE}(h:∀s∈ss,2≤s∧s≤4)(a:El.Asg):WIn ss (wM ss a):=by
 refine⟨by unfold wM; rw[List.length_map,List.length_range],λj hj=>?_⟩
 rw[Yf hj];have:=yI h hj;exact⟨ζU _ ⋯,ζO _ ⋯⟩
noncomputable def cQ(ss:AE)(cs:AI)(ts:List AH)(Bb:Int)(k:Nat)(a:El.Asg):Rat:=((El.tkF ss cs ts Bb k (wM ss a):Int):Rat) / ((Bb:Int):Rat)
section
variable {ss:AE}{cs:AI}{ts:List AH}{Bb:Int}
theorem SkO.rw(h:SkO ss cs ts Bb){k:Nat}(hk:k < ss.length){w:AE}(hw:WIn ss w):ts[k]?=some (ts.getD k [])∧El.rowW ss cs ts k w∈ts.getD k []:=by
 have oc:=zo (d:=([]:AF)) (show k < cs.length by rw[h.b.cl]; exact hk);have oo:=(h.b.ck k _ oc).1;have ot:ts[k]?=some (ts.getD k []):=zo (by rw[h.b.tl]; exact hk);have b:=wx (ss:=pk ss (cs.getD k [])) (ws:=(cs.getD k []).map λj=>w.getD j 0) (by unfold Sx2.pk; rw[List.length_map,List.length_map]) λi s v h1 h2=>by
  unfold Sx2.pk at h1;rw[ζo]at h1 h2;cases e:(cs.getD k [])[i]? with
  | none=>rw[e]at h1; cases h1
  | some c =>
   rw[e]at h1 h2;have e1:ss.getD c 0=s:=ζr h1;have e2:w.getD c 0=v:=ζr h2;rw[←e1,←e2];exact hw.r c (oo c (ζd e))
 have tlen:=h.b.tk k _ _ oc ot;refine⟨ot,?_⟩
 unfold El.rowW;exact ζd (zo (d:=[]) ⋯)
theorem SkO.tk(h:SkO ss cs ts Bb){k:Nat}(hk:k < ss.length){w:AE}(hw:WIn ss w):1≤El.tkF ss cs ts Bb k w∧El.tkF ss cs ts Bb k w≤Bb∧(El.rowW ss cs ts k w).sum * El.tkF ss cs ts Bb k w=(El.rowW ss cs ts k w).getD (w.getD k 0).toNat 0 * Bb∧1≤(El.rowW ss cs ts k w).sum∧((El.rowW ss cs ts k w).length:Int)=ss.getD k 0:=by
 have⟨ot,rm⟩:=h.rw hk hw;have R:=h.b.rk k _ ot _ rm;have D:=h.dv _ (ζd ot) _ rm;have wk:=hw.r k hk;have rl:=R.l;have rp:=R.p;have B1:=h.B.lo;unfold El.tkF;generalize El.rowW ss cs ts k w=r at *;have xm:r.getD (w.getD k 0).toNat 0∈r:=ζd (zo ⋯);generalize r.getD (w.getD k 0).toNat 0=x at *;have x1:=D.2 x xm;have x2:=(VE r (λy hy=>by have:=D.2 y hy; omega) x xm).2;obtain⟨q,hq⟩:=D.1 x xm;have e:x * Bb / r.sum=q:=by rw[hq]; exact ξ1 _ ⋯
 rw[e];have p1:0 < r.sum * q:=by rw[←hq]; exact Int.mul_pos ⋯ ⋯
 have q0:0 < q:=Int.lt_of_not_ge λz=>by
  have:=ξN z (show 0≤r.sum by omega);omega
 refine⟨q0,?_,hq.symm,rp,rl⟩
 have:r.sum * q≤r.sum * Bb:=by rw[←hq]; exact ξK x2 ⋯
 exact Int.le_of_mul_le_mul_left this ⋯
theorem bne(h:SkO ss cs ts Bb):((Bb:Int):Rat)≠0:=λz=>by
 have:=h.B.lo;have:=Rat.intCast_inj.mp (z.trans Rat.intCast_zero.symm);omega
theorem SkO.nq(h:SkO ss cs ts Bb)(k:Nat)(hk:k < ss.length)(a:El.Asg):Ti.Nq Bb.toNat Bb.toNat (cQ ss cs ts Bb k a):=by
 have T:=h.tk hk (Qa h.b.s a);have B1:=h.B.lo;have nz:=bne h;refine⟨(El.tkF ss cs ts Bb k (wM ss a)).toNat,⋯,⋯,?_⟩
 rw[ζ0 ⋯,ζ0 ⋯];unfold cQ;grind
theorem Xi{α:Type}(g:α→Int):∀xs:List α,(xs.map λx=>((g x:Int):Rat)).sum=(((xs.map g).sum:Int):Rat)
 | []=>rfl
 | x :: r=>by rw[ζF,ξc,Xi g r,ζF,ξc,Rat.intCast_add]
theorem zey{k:Nat}{a b:El.Asg}(hk:k < ss.length)(ho:∀c∈cs.getD k [],c < ss.length)(h:∀j,j=k∨j∈cs.getD k []→a j=b j):El.tkF ss cs ts Bb k (wM ss a)=El.tkF ss cs ts Bb k (wM ss b):=by
 have e:∀j,j < ss.length→(j=k∨j∈cs.getD k [])→(wM ss a).getD j 0=(wM ss b).getD j 0:=λj hj z=>by
  rw[Yf hj,Yf hj];unfold cm;rw[h j z]
 unfold El.tkF El.rowW;rw[e k hk (.inl rfl),ζn λj hj=>e j (ho j hj) (.inr hj)]
theorem SkO.bo(h:SkO ss cs ts Bb){hs:AF}(sf:∀k,k < ss.length→k∉cs.getD k [])(hid:∀x∈hs,cs.getD x []=[])(hn:hs.Nodup)(hl:∀x∈hs,x < ss.length):Ti.Bo ss (cQ ss cs ts Bb) (λk=>cs.getD k []) hs ss.length:=by
 have own:∀k,k < ss.length→∀c∈cs.getD k [],c < ss.length:=λk hk=>(h.b.ck k _ (zo (d:=([]:AF)) (by rw[h.b.cl]; exact hk))).1;have nz:=bne h;refine⟨λk hk a b z=>?_,λk hk a=>?_,hid,hn,hl⟩
 ·unfold cQ;rw[zey hk (own k hk) z]
 ·have g:=yI h.b.s hk;obtain⟨r,er⟩:∃r,El.rowW ss cs ts k (wM ss (El.upd a k 0))=r:=⟨_,rfl⟩
  have rows:∀v,El.rowW ss cs ts k (wM ss (El.upd a k v))=r:=λv=>by
   rw[←er];unfold El.rowW;rw[ζn λj hj=>?_];have jl:=own k hk j hj;have jk:j≠k:=λz=>sf k hk (z ▸ hj);rw[Yf jl,Yf jl];unfold cm;rw[El.zr jk,El.zr jk]
  have T0:=h.tk hk (Qa h.b.s (El.upd a k 0));rw[er]at T0;have rne:((r.sum:Int):Rat)≠0:=λz=>by
   have:=Rat.intCast_inj.mp (z.trans Rat.intCast_zero.symm);omega
  have term:∀v∈El.vr ss k,cQ ss cs ts Bb k (El.upd a k v)=(((r.sum:Int):Rat))⁻¹ * (((r.getD v.toNat 0:Int)):Rat):=λv hv=>by
   have vb:=Pb.zev hv;have T:=(h.tk hk (Qa h.b.s (El.upd a k v))).2.2.1;rw[rows v,Yf hk]at T;have ev:cm ss (El.upd a k v) k=v:=by
    unfold cm;rw[El.zk];exact ξJ vb.1 vb.2
   rw[ev]at T;have T':=congrArg (λx:Int=>(x:Rat)) T;simp only[Rat.intCast_mul]at T';unfold cQ;generalize ((El.tkF ss cs ts Bb k (wM ss (El.upd a k v)):Int):Rat)=t at *;grind
  unfold S1;rw[ζn term,Ti.Xh,Xi];have e:((El.vr ss k).map λv=>r.getD v.toNat 0).sum=r.sum:=by
   unfold El.vr;rw[show(ss.getD k 0).toNat=r.length by omega];exact Pb.zbt r
  rw[e];grind
end
theorem zcX{n:Nat}{cs:AI}{f:AE}(h:grd cs n (rgI n)=some f):(f.map Int.toNat).Pairwise (λx y=>y∉cs.getD x [])∧∀k,k < n→k∉cs.getD k []:=by
 have og:=ZM n vO Vn h;have fnd:f.Nodup:=og.1.nodup_iff.mpr (zcZ Vn);have nn:∀x∈f,0≤x:=λx hx=>(uD.mp (og.1.mem_iff.mp hx)).1;refine⟨?_,λk hk hc=>?_⟩
 ·rw[ξS];refine List.pairwise_iff_getElem.mpr λi j hi hj lt hm=>?_;have e:f=f.take i ++ f[i] :: f.drop (i + 1):=by rw[List.getElem_cons_drop,ζX]
  have c:=(og.2 _ _ _ e).1 f[j] (ζp.mpr ⟨f[j].toNat,hm,ζ0 (nn _ (ζ9 hj))⟩) (og.1.mem_iff.mp (ζ9 hj));obtain⟨m,hm',em⟩:=ξx.mp c;rw[ζN]at hm';rw[List.getElem_take]at em;have:=(List.getElem_inj fnd).mp em;omega
 ·have kf:(k:Int)∈f:=og.1.mem_iff.mpr (uD.mpr ⟨⋯,⋯⟩);obtain⟨a,b,e⟩:=List.append_of_mem kf;have c:=(og.2 _ _ _ e).1 (k:Int) (ζp.mpr ⟨k,by rw[ζG]; exact hc,rfl⟩) (og.1.mem_iff.mp kf);rw[e]at fnd;exact(ζW.mp fnd).2.2 _ c _ ζf rfl
def Cc(n:Nat)(cs:AI)(hs ah pt:AF):Prop:=pt∈clF n (lkF cs hs ah) ah.length ah∨∀x∈pt,∀y∈ah,y∈cs.getD x []→y∈pt
structure Fy(n:Nat)(cs:AI)(hs:AF)(f:AE)(ss:AE)(U:AF)(c:Nat→El.Asg→Rat)(d:Nat):Prop where
 s7:S7 ss
 sn:ss.length=n
 sh:ShOk n cs
 od:grd cs n (rgI n)=some f
 ur:U.Pairwise (· < ·)
 ult:∀k∈U,k < n
 uh:∀k∈U,k∉hs
 ul:U.length + hs.length≤7
 u4:U.length≤4
 h3:hs.length≤3
 bo:Ti.Bo ss c (λk=>cs.getD k []) hs n
 nq:∀k,k < n→∀a,Ti.Nq d d (c k a)
 d0:0 < d
 d1:d≤1010
theorem wy{l:AF}(h:l.Pairwise (· < ·)):l.Nodup:=h.imp λz=>by omega
section
variable {n:Nat}{cs:AI}{hs:AF}{f:AE}{ss:AE}{U:AF}{c:Nat→El.Asg→Rat}{d:Nat}
theorem Fy.perm(h:Fy n cs hs f ss U c d):f.Perm (rgI n):=(ZM n vO Vn h.od).1
theorem Fy.odp(h:Fy n cs hs f ss U c d){ah:AF}(nd:ah.Nodup)(lt:∀k∈ah,k < n):(odF f ah).Perm ah:=by
 have e:(f.map Int.toNat).Perm (List.range n):=by
  have:=h.perm.map Int.toNat
  rwa [show(rgI n).map Int.toNat=List.range n by unfold rgI zl; rw[List.map_map]; exact(List.map_congr_left λx _=>Int.toNat_natCast x).trans (List.map_id _)]at this
 have e2:(odF f ah).Perm ((List.range n).filter λk=>decide (k∈ah)):=e.filter _;refine e2.trans ?_;rw[ξa (List.nodup_range.sublist ζx) nd];intro x;rw[ζm,ζE];exact⟨λz=>of_decide_eq_true z.2,λz=>⟨lt x z,decide_eq_true z⟩⟩
theorem Fy.hz(h:Fy n cs hs f ss U c d):∀k∈hs,1≤ss.getD k 0∧ss.getD k 0≤4:=λk hk=>by
 have:=yI h.s7.s (k:=k) (by rw[h.sn]; exact h.bo.hl k hk);omega
theorem Fy.qn(h:Fy n cs hs f ss U c d){L:AF}(nd:L.Nodup)(hL:∀k∈L,k∈U)(a:El.Asg):Ti.Nq (d ^ (L.length + hs.length)) (4 ^ hs.length * d ^ (L.length + hs.length)) (Ti.Q ss c hs L a)∧0 < d ^ (L.length + hs.length)∧d ^ (L.length + hs.length) < 2 ^ 70∧4 ^ hs.length * d ^ (L.length + hs.length) < 2 ^ 76:=by
 have l:=uy nd hL;have ul:=h.ul;have p:d ^ (L.length + hs.length)≤1010 ^ 7:=ζ8 (Nat.pow_le_pow_left h.d1 _) (ξw #[2] ⋯);have p4:4 ^ hs.length≤4 ^ 3:=ξw #[2] h.h3;refine⟨Ti.Nq.q h.nq h.hz h.bo.hl (λk hk=>h.ult k (hL k hk)) a,Nat.pow_pos h.d0,ζ6 p #[2],ζ6 (Nat.mul_le_mul p4 p) #[2]⟩
theorem Fy.qb(h:Fy n cs hs f ss U c d){L:AF}(nd:L.Nodup)(hL:∀k∈L,k∈U)(a:El.Asg):Bq 80 (Ti.Q ss c hs L a):=by
 have⟨q,q0,q1,q2⟩:=h.qn nd hL a;exact q.bq q0 (Nat.lt_trans q1 #[2]) (Nat.lt_trans q2 #[2])
theorem Fy.tl(h:Fy n cs hs f ss U c d){o t:AF}(nd:(o ++ t).Nodup)(hu:∀k∈o ++ t,k∈U)(p1:∀x∈o,∀y∈t,y∉cs.getD x [])(p2:t.Pairwise λx y=>y∉cs.getD x []):Sl ss t.reverse (Ti.Q ss c hs (o ++ t))=Ti.Q ss c hs o :=
 h.bo.tail t o nd (λx hx=>h.ult x (hu x (ζM _ hx))) (λk hk=>⟨h.uh k (hu k (ζJ _ hk)),h.ult k (hu k (ζJ _ hk))⟩) p1 p2
theorem Fy.run(h:Fy n cs hs f ss U c d){s:Qs}{od pt:AF}(sf:s.f=Ti.Q ss c hs od)(nd:od.Nodup)(hu:∀k∈od,k∈U)(pw:od.Pairwise λx y=>y∉cs.getD x [])(sp:∀x∈hs,∀y∈od,∀z∈od,y∈pt→z∉pt→x∈cs.getD y []→x∉cs.getD z []):∀(t o:AF),od=o ++ t→(runC ss pt s t.reverse).1.f=λa=>Ti.Q ss c hs (od.filter λk=>decide (k∈pt)) a / Ti.Q ss c hs (o.filter λk=>decide (k∈pt)) a
 | [],o,e=>by
  rw[ζ1]at e;subst e;funext a;show(1:Rat)=_;have:=(h.qb (nd.sublist ζx) (λk hk=>hu k (ζm.mp hk).1) a (L:=od.filter λk=>decide (k∈pt))).ne;grind
 | k :: t,o,e=>by
  have e':od=(o ++ [k]) ++ t:=by rw[e,ξI]; rfl
  have ih:=Fy.run h sf nd hu pw sp t (o ++ [k]) e';have nd':=nd;have pw':=pw;rw[e']at nd' pw';have hu':∀x∈(o ++ [k]) ++ t,x∈U:=e' ▸ hu;have hin:∀x∈o ++ [k],x∈U:=λx hx=>hu' x (ζM _ hx);have⟨w1,w2,w3⟩:=List.pairwise_append.mp pw';have⟨v1,_,v3⟩:=List.pairwise_append.mp w1;have⟨d1,_,_⟩:=ζW.mp nd';have⟨d2,_,d4⟩:=ζW.mp d1;have s2:(runC ss pt s t.reverse).2.f=Ti.Q ss c hs (o ++ [k]):=by
   rw[(xR ss pt s t.reverse).1,sf,e'];exact h.tl nd' hu' w3 w2
  have s3:S1 ss k (Ti.Q ss c hs (o ++ [k]))=Ti.Q ss c hs o:=h.bo.leaf (h.ult k (hin k (ζJ _ ζf))) (h.uh k (hin k (ζJ _ ζf))) λj hj=>⟨h.ult j (hin j (ζM _ hj)),λz=>d4 j hj k ζf z.symm,v3 j hj k ζf⟩
  rw[List.reverse_cons,xN];unfold stp;funext a;have sub:∀L:AF,L.Sublist (o ++ [k])→∀a,Ti.Q ss c hs L a≠0:=λL hL a=>(h.qb (d1.sublist hL) (λx hx=>hin x (hL.subset hx)) a).ne;by_cases hc:k∈pt
  ·rw[if_pos hc];show(runC ss pt s t.reverse).1.f a * ((runC ss pt s t.reverse).2.f a / S1 ss k (runC ss pt s t.reverse).2.f a)=_;rw[ih,s2,s3];have r:=h.bo.ratio (o:=o) (k:=k) (C:=λk=>decide (k∈pt)) (λj hj=>⟨h.ult j (hin j hj),h.uh j (hin j hj)⟩) (decide_eq_true hc) (λx hx y hy z hz c1 c2=>sp x hx y (by rw[e']; exact ζM _ hy) z (by rw[e']; exact ζM _ hz) (of_decide_eq_true c1) (of_decide_eq_false c2)) sub a;have ef:(o ++ [k]).filter (λk=>decide (k∈pt))=o.filter (λk=>decide (k∈pt)) ++ [k]:=by
    rw[ζ2];simp[hc]
   rw[r,ef];have z1:=sub (o.filter (λk=>decide (k∈pt)) ++ [k]) (List.filter_sublist.append (List.Sublist.refl _)) a;have z2:=sub (o.filter λk=>decide (k∈pt)) (ζx.trans (List.sublist_append_left _ _)) a;grind
  ·rw[if_neg hc];show(runC ss pt s t.reverse).1.f a=_;rw[ih];have:(o ++ [k]).filter (λk=>decide (k∈pt))=o.filter λk=>decide (k∈pt):=by
    rw[ζ2];simp[hc]
   rw[this]
end
theorem QD{ss:AE}{s:Qs}{U:AF}(cl:AF)(h:∀k∈s.ks,k∈U)(hu:∀k∈s.ks,k < ss.length):∀l:AF,∀k∈(runC ss cl s l).1.ks,k∈U:=by
 have key:∀(n:Nat) (l:AF),l.length=n→∀k∈(runC ss cl s l).1.ks,k∈U:=by
  intro n;induction n with
  | zero =>
   intro l hl k hk;have:l=[]:=ζZ hl;subst this;exact(nomatch hk)
  | succ n ih =>
   intro l hl k hk;obtain⟨t,x,rfl⟩:∃t s,l=t ++ [s]:=⟨l.dropLast,l.getLast (by intro e; rw[e]at hl; cases hl),(ξf _).symm⟩
   have tl:t.length=n:=by rw[List.length_append]at hl; simpa using hl
   rw[xN]at hk;unfold stp at hk;have hk:k∈(if x∈cl then Rq.join ss.length (runC ss cl s t).1 (Rq.dvd (runC ss cl s t).2 (Rq.lout ss (runC ss cl s t).2 x))else(runC ss cl s t).1).ks:=hk;split at hk
   ·rcases(El.xP.mp hk).2 with z | z
    ·exact ih t tl k z
    ·have z:k∈(runC ss cl s t).2.ks:=z;rw[(xR ss cl s t).2]at z;exact h k (ζm.mp z).1
   ·exact ih t tl k hk
 exact λl=>key l.length l rfl
theorem CSi.all{ss:AE}{s:Qs}{l cl:AF}{R:Nat}(h:CSo ss s l cl R):∀j,j≤l.length→CSi ss s l cl R j
 | 0,_=>.zero h.ok
 | j + 1,hj=>(CSi.all h j ⋯).next h (ζe ⋯)
theorem QE{ss:AE}{s:Qs}{cl:AF}{k:Nat}(ks:k∈s.ks)(kl:k < ss.length)(kc:k∈cl):∀l:AF,l.Nodup→k∈l→k∈(runC ss cl s l).1.ks:=by
 have key:∀(n:Nat) (l:AF),l.length=n→l.Nodup→k∈l→k∈(runC ss cl s l).1.ks:=by
  intro n;induction n with
  | zero =>
   intro l hl _ hk;have:l=[]:=ζZ hl;subst this;exact(nomatch hk)
  | succ n ih =>
   intro l hl nd hk;obtain⟨t,x,rfl⟩:∃t s,l=t ++ [s]:=⟨l.dropLast,l.getLast (by intro e; rw[e]at hl; cases hl),(ξf _).symm⟩
   have tl:t.length=n:=by rw[List.length_append]at hl; simpa using hl
   have⟨n1,_,n3⟩:=ζW.mp nd;rw[xN];unfold stp;by_cases c:k∈t
   ·have z:=ih t tl n1 c;show k∈(if x∈cl then Rq.join ss.length (runC ss cl s t).1 (Rq.dvd (runC ss cl s t).2 (Rq.lout ss (runC ss cl s t).2 x))else(runC ss cl s t).1).ks;split
    ·exact El.xP.mpr ⟨kl,.inl z⟩
    ·exact z
   ·have e:k=x:=by
     rcases ζu.mp hk with z | z
     ·exact absurd z c
     ·exact ζi.mp z
    subst e;rw[if_pos kc];refine El.xP.mpr ⟨kl,.inr ?_⟩;show k∈(runC ss cl s t).2.ks;rw[(xR ss cl s t).2];exact ζm.mpr ⟨ks,by rw[decide_eq_false c]; rfl⟩
 exact λl=>key l.length l rfl
theorem zel{n:Nat}{cs:AI}{hs ah pt:AF}(lt:∀x∈ah,x < n)(h:pt∈clF n (lkF cs hs ah) ah.length ah):∀x∈hs,∀y∈ah,∀z∈ah,y∈pt→z∉pt→x∈cs.getD y []→x∉cs.getD z []:=by
 intro x hx y hy z hz yp zp h1 h2;obtain⟨x0,_,e⟩:=(XA lt pt ah.length ah (ζl _) λ_ w=>w).mp h;rw[e]at yp zp;exact zp (yO.mpr ⟨lt z hz,.step (yO.mp yp).2 (tD.mpr ⟨hz,x,hx,h1,h2⟩)⟩)
structure ChO(n:Nat)(cs:AI)(hs U:AF)(ls:AI):Prop where
 ne:0 < ls.length
 h0:ls.getD 0 []=U
 r:∀l∈ls,l.Pairwise (· < ·)∧l≠[]
 st:∀j,j + 1 < ls.length→(∀k∈ls.getD (j + 1) [],k∈ls.getD j [])∧(ls.getD (j + 1) []).length < (ls.getD j []).length∧Cc n cs hs (ls.getD j []) (ls.getD (j + 1) [])
structure Ay(ss:AE)(c:Nat→El.Asg→Rat)(hs U L:AF)(s:Qs):Prop where
 ok:QsOk ss s
 u:∀k∈s.ks,k∈U
 l:∀k∈L,k∈s.ks
 f:s.f=Ti.Q ss c hs L
section
variable {n:Nat}{cs:AI}{hs:AF}{f:AE}{ss:AE}{U:AF}{c:Nat→El.Asg→Rat}{d:Nat}
theorem Fy.step(h:Fy n cs hs f ss U c d){s:Qs}{ah pt:AF}(A:Ay ss c hs U ah s)(ar:ah.Pairwise (· < ·))(ps:∀k∈pt,k∈ah)(pr:pt.Pairwise (· < ·))(cc:Cc n cs hs ah pt):WSo n cs hs f ss s ah pt∧Ay ss c hs U pt (wkQ n cs hs f ss s ah pt):=by
 obtain⟨ok,su,asub,sf⟩:=A;have u4:=h.u4;have sn:=h.sn;have n7:=h.s7.n;have and':=wy ar;have pnd:=wy pr;have au:∀k∈ah,k∈U:=λk hk=>su k (asub k hk);have alt:∀k∈ah,k < n:=λk hk=>h.ult k (au k hk);have alt':∀k∈ah,k < ss.length:=λk hk=>by rw[sn]; exact alt k hk
 have al:ah.length≤U.length:=uy and' au;have pl:pt.length≤ah.length:=uy pnd ps;have op:=h.odp and' alt;have orp:(odF f ah).reverse.Perm ah:=(List.reverse_perm _).trans op;have ond:(odF f ah).Nodup:=op.nodup_iff.mpr and';have orn:(odF f ah).reverse.Nodup:=orp.nodup_iff.mpr and';have ou:∀k∈odF f ah,k∈U:=λk hk=>au k (op.mem_iff.mp hk);have pw:(odF f ah).Pairwise λx y=>y∉cs.getD x []:=(zcX h.od).1.sublist ζx;have so:s.f=Ti.Q ss c hs (odF f ah):=by rw[sf,Ti.Xj op]
 have pp:((odF f ah).filter λk=>decide (k∈pt)).Perm pt:=by
  rw[ξa (ond.sublist ζx) pnd];intro x;rw[ζm];exact⟨λz=>of_decide_eq_true z.2,λz=>⟨op.mem_iff.mpr (ps x z),decide_eq_true z⟩⟩
 have tb:∀i a,Bq 80 (Sl ss ((odF f ah).reverse.take i) s.f a):=λi a=>by
  have T:Sl ss ((odF f ah).reverse.take i) s.f=Ti.Q ss c hs ((odF f ah).take ((odF f ah).length - i)):=by
   rw[List.take_reverse,so];have e:=ζX ((odF f ah).length - i) (odF f ah);have pw':=pw;have nd':=ond;rw[←e]at pw' nd';have⟨_,w2,w3⟩:=List.pairwise_append.mp pw';have:=h.tl nd' (λk hk=>ou k (by rw[e]at hk; exact hk)) w3 w2;rw[e]at this;exact this
  rw[T];exact h.qb (ond.sublist (ξ4 _ _)) (λk hk=>ou k (ξh hk)) a
 have C:CSo ss s (odF f ah).reverse pt 160:=⟨h.s7,ok,orn,λk hk=>asub k (orp.mem_iff.mp hk),⟨λi _ a=>(tb i a).up #[2],λi _ a=>(tb i a).div (tb (i + 1) a)⟩,⋯,#[2]⟩
 have W:WSo n cs hs f ss s ah pt:=⟨h.s7,ok,h.sh,⋯,h.od,λx hx=>(uD.mp (h.perm.mem_iff.mp hx)).1,alt,⋯,and',by rw[h.perm.length_eq,vO]; omega,asub,λ_=>⟨160,C⟩,λ_ i _ a=>by
  have fs:((ah.filter λk=>!decide (k∈pt)).take i).Sublist ah:=(ξ4 _ _).trans ζx;have⟨q,q0,q1,q2⟩:=h.qn and' au a;rw[Rq.zbj ss (and'.sublist fs),sf];have z:=Ti.Nq.sq (ss:=ss) ((ah.filter λk=>!decide (k∈pt)).take i) (λk hk=>by
   have:=yI h.s7.s (alt' k (fs.subset hk));omega) (λb=>(h.qn and' au b).1) a
  have fl:=fs.length_le;have p4:4 ^ ((ah.filter λk=>!decide (k∈pt)).take i).length≤4 ^ 4:=ξw #[2] ⋯;exact(z.bq (n:=90) q0 (Nat.lt_trans q1 #[2]) (ζ6 (Nat.mul_le_mul p4 (Nat.le_of_lt q2)) #[2])).up #[2]⟩
 refine⟨W,?_⟩
 unfold wkQ;split
 ·rename_i hc;have ci:=(CSi.all C (odF f ah).reverse.length (ζl _)).o1;rw[ζR]at ci;have r:=h.run so ond ou pw (λx hx y hy z hz=>zel alt hc x hx y (op.mem_iff.mp hy) z (op.mem_iff.mp hz)) (odF f ah) [] rfl;refine⟨ci,QD pt su ok.k _,λk hk=>QE (asub k (ps k hk)) (alt' k (ps k hk)) hk _ orn (orp.mem_iff.mpr (ps k hk)),?_⟩
  rw[r];funext a;have o:=h.bo.nil a;show _ / Ti.Q ss c hs [] a=_;rw[o,Ti.Xj pp];grind
 ·rename_i hc;have cl:=cc.resolve_left hc;obtain⟨f1,f2,f3⟩:=tF ss (ah.filter λk=>!decide (k∈pt)) s ok;refine⟨f1,λk hk=>su k ((f3 k).mp hk).1,λk hk=>(f3 k).mpr ⟨asub k (ps k hk),λz=>?_⟩,?_⟩
  ·have:=(ζm.mp z).2;rw[decide_eq_true hk]at this;cases this
  ·rw[f2,sf];have pa:(pt ++ (odF f ah).filter λk=>!decide (k∈pt)).Perm ah:=(pp.symm.append_right _).trans ((List.filter_append_perm _ _).trans op);have tm:∀k∈(odF f ah).filter λk=>!decide (k∈pt),k∈ah∧k∉pt:=λk hk=>⟨op.mem_iff.mp (List.mem_filter.mp hk).1,by simpa using(List.mem_filter.mp hk).2⟩
   have tl:=h.tl (o:=pt) (t:=(odF f ah).filter λk=>!decide (k∈pt)) (pa.nodup_iff.mpr and') (λk hk=>au k (pa.mem_iff.mp hk)) (λx hx y hy z=>(tm y hy).2 (cl x hx y (tm y hy).1 z)) (pw.sublist ζx);rw[←tl,Ti.Xj pa];funext a;have fp:(ah.filter λk=>!decide (k∈pt)).Perm ((odF f ah).filter λk=>!decide (k∈pt)).reverse:=(op.symm.filter _).trans (List.reverse_perm _).symm;have fn:=and'.sublist (ζx (p:=λk=>!decide (k∈pt)));rw[Rq.zbj ss fn,Rq.zbj ss (fp.nodup_iff.mp fn)];exact Rq.Zj ss _ fp fn a
theorem Fy.chain(h:Fy n cs hs f ss U c d){ls:AI}(ch:ChO n cs hs U ls){s:Qs}(a0:Ay ss c hs U U s):∀i,i < ls.length→Ay ss c hs U (ls.getD i []) (wkN n cs hs f ss s ls i)∧(i + 1 < ls.length→WSo n cs hs f ss (wkN n cs hs f ss s ls i) (ls.getD i []) (ls.getD (i + 1) [])):=by
 have mem:∀j,j < ls.length→ls.getD j []∈ls:=λj hj=>ζd (zo hj);have go:∀i,i + 1 < ls.length→Ay ss c hs U (ls.getD i []) (wkN n cs hs f ss s ls i)→WSo n cs hs f ss (wkN n cs hs f ss s ls i) (ls.getD i []) (ls.getD (i + 1) [])∧Ay ss c hs U (ls.getD (i + 1) []) (wkN n cs hs f ss s ls (i + 1)):=λi hi A=>h.step A (ch.r _ (mem i ⋯)).1 (ch.st i hi).1 (ch.r _ (mem (i + 1) hi)).1 (ch.st i hi).2.2;intro i;induction i with
 | zero =>
  intro hi;have A:Ay ss c hs U (ls.getD 0 []) (wkN n cs hs f ss s ls 0):=by rw[ch.h0]; exact a0
  exact⟨A,λz=>(go 0 z A).1⟩
 | succ i ih =>
  intro hi;have A:=(go i hi (ih ⋯).1).2;exact⟨A,λz=>(go (i + 1) z A).1⟩
theorem Fy.sub(h:Fy n cs hs f ss U c d){ls:AI}(ch:ChO n cs hs U ls):∀j,j < ls.length→∀k∈ls.getD j [],k∈U
 | 0,_=>by rw[ch.h0]; exact λ_ z=>z
 | j + 1,hj=>λk hk=>Fy.sub h ch j ⋯ k ((ch.st j hj).1 k hk)
theorem Fy.wk(h:Fy n cs hs f ss U c d)(hU:U=zD n hs){ls:AI}(ch:ChO n cs hs U ls)(ll:ls.length≤4){s:Qs}(sk:s.ks=U)(a0:Ay ss c hs U U s):WKo n cs hs f ss s ls 80∧(wkN n cs hs f ss s ls (ls.length - 1)).f=Ti.Q ss c hs (ls.getD (ls.length - 1) []):=by
 have ne:=ch.ne;have n7:=h.s7.n;have sn:=h.sn;have E:=(h.chain ch a0 (ls.length - 1) ⋯).1;have mem:ls.getD (ls.length - 1) []∈ls:=ζd (zo ⋯);refine⟨⟨h.s7,h.sh,⋯,h.sn,⋯,ne,sk.trans hU,λa=>?_,λi hi=>(h.chain ch a0 i ⋯).2 hi,E.ok,λk hk=>by rw[←hU]; exact E.u k hk,λa=>?_⟩,E.f⟩
 ·rw[a0.f];exact(h.qb (wy h.ur) (λ_ z=>z) a).bits.1
 ·rw[E.f];exact h.qb (wy (ch.r _ mem).1) (h.sub ch _ ⋯) a
end
theorem zbg:∀(U:AF) (w:AE) {j:Nat},j∉U→El.asg U w j=0
 | [],_,_,_=>rfl
 | _ :: _,[],_,_=>rfl
 | k :: r,v :: w,j,h=>by
  show El.upd (El.asg r w) k v j=0;rw[El.zr λz=>h (by rw[z]; exact ζf)];exact zbg r w λz=>h (ζk _ z)
section
variable {ss:AE}{cs:AI}{ts:List AH}{Bb:Int}{U hs L:AF}
theorem zcW(ok:SkO ss cs ts Bb)(b:El.Asg):∀M:AF,Ti.Pr (cQ ss cs ts Bb) M b * ((Bb ^ M.length:Int):Rat)=((prT ss cs ts Bb M (wM ss b):Int):Rat)
 | []=>by
  show(1:Rat) * ((Bb ^ 0:Int):Rat)=((1:Int):Rat);rw[Int.pow_zero,Rat.one_mul]
 | k :: r=>by
  have ih:=zcW ok b r;have nz:=bne ok;have e:prT ss cs ts Bb (k :: r) (wM ss b)=El.tkF ss cs ts Bb k (wM ss b) * prT ss cs ts Bb r (wM ss b):=rfl;rw[e,Rat.intCast_mul,←ih,ζY,Int.pow_succ,Rat.intCast_mul];show cQ ss cs ts Bb k b * Ti.Pr (cQ ss cs ts Bb) r b * _=_;unfold cQ;grind
theorem hd_Q(ok:SkO ss cs ts Bb)(hd:HdO ss U hs){w:AE}(hw:w∈wds (pk ss U)):Ti.Q ss (cQ ss cs ts Bb) hs L (El.asg U w) * ((Bb ^ (L.length + hs.length):Int):Rat)=((hdF ss cs ts Bb U hs L w:Int):Rat):=by
 have⟨n1,n2,n3⟩:=hd.nd;have⟨z1,z2⟩:=hd.sz;have S:=Rq.zcH (ss:=ss) (λ_=>true) (El.asg U w) hs.length hs (λa=>Ti.Pr (cQ ss cs ts Bb) L a * Ti.Pr (cQ ss cs ts Bb) hs a) rfl n2 λk hk=>by
  rw[zbg U w λz=>n3 k z hk];have:=yI hd.s7.s (hd.mem.mp (.inr hk));omega
 rw[List.filter_eq_self.mpr λ_ _=>rfl]at S;unfold Ti.Q;rw[←S,Rat.mul_comm,←Ti.Xh];unfold hdF;rw[←Xi];congr 1;refine ζn λo ho=>?_;have ag:Rq.agr (λ_=>true) (El.asg U w) hs o=true:=by
  unfold Rq.agr;exact ξE.mpr λ_ _=>rfl
 rw[if_pos ag,←Ti.ZB,Rat.mul_comm,←ζg,zcW ok];have ol:=wlen ho;have ew:wM ss (Rq.asn (El.asg U w) hs o)=wOO ss.length U hs w o:=by
  unfold wM wOO;refine ζn λj hj=>?_;have hj:=ζE.mp hj;unfold cm;by_cases h:j∈hs
  ·have V:=vV hs o (Pb.asn (λ_=>0) U w) j h n2 ol (X3 z2 ho);rw[Rq.UU hs o _ n2 h ol.symm,←V.1];exact ξJ V.2.1 V.2.2
  ·have hu:=(hd.mem.mpr hj).resolve_right h;have V:=vV U w (λ_=>0) j hu n1 (wlen hw) (X3 z1 hw);rw[Rq.yS hs o _ h,Pb.yS hs o _ h,El.w8 U w j hu,←V.1];exact ξJ V.2.1 V.2.2
 rw[ew]
end
def pw4(j:Nat):Int:=[1,2,4,8].getD j 1
theorem zdo(j:Nat)(h:j < 4):0 < pw4 j∧pw4 j≤8:=by
 match j,h with
 | 0,_=>exact⟨#[2],#[2]⟩
 | 1,_=>exact⟨#[2],#[2]⟩
 | 2,_=>exact⟨#[2],#[2]⟩
 | 3,_=>exact⟨#[2],#[2]⟩
def dx(i:Nat):Nat:=33 + i
theorem zcE{α:Type}{g:α→AD}{xs:List α}{d:α}(k:Nat)(h:k + 1≤xs.length):atI (xs.map g) (-((k:Int) + 1))=some (g (xs.getD (xs.length - (k + 1)) d)):=by
 unfold atI ixN;rw[ζa,if_neg ⋯,if_pos ⋯];show(xs.map g)[(-((k:Int) + 1) + (xs.length:Int)).toNat]?=_;rw[show(-((k:Int) + 1) + (xs.length:Int)).toNat=xs.length - (k + 1)by omega,ζo,zo (d:=d) ⋯];rfl
structure LOk(n:Nat)(l:AF):Prop where
 r:l.Pairwise (· < ·)
 lt:∀x∈l,x < n
 ne:l≠[]
 l:l.length≤4
theorem LOk.pos{n:Nat}{l:AF}(h:LOk n l):0 < l.length:=Nat.pos_of_ne_zero λz=>h.ne (ξy.mp z)
def subF(bi:Int)(l:AF):AF:=l.filter λj=>decide (bi / 2 % 16 / pw4 ((zl l).idxOf (j:Int)) % 2=1)
noncomputable def fdF(n:Nat)(cs:AI)(hs:AF)(bi:Int)(l:AF):AF:=if bi % 2=1 then rchL n (lkF cs hs l) [l.getD (bi / 2 % (l.length:Int)).toNat 0]else dueL n cs (subF bi l) l
def uR(ls:AI):AF:=ls.getD (ls.length - 1) []
noncomputable def drS(n:Nat)(cs:AI)(hs:AF)(bi:Int)(ls:AI):AI:=if fdF n cs hs bi (uR ls)≠[]∧(fdF n cs hs bi (uR ls)).length < (uR ls).length then ls ++ [fdF n cs hs bi (uR ls)]else ls
noncomputable def drF(ns:AE)(n:Nat)(cs:AI)(hs se:AF):Nat→AI
 | 0=>[se]
 | i + 1=>drS n cs hs (zv ns (dx i)) (drF ns n cs hs se i)
structure LsOk(n:Nat)(ls:AI):Prop where
 e:∀l∈ls,LOk n l
 ne:0 < ls.length
theorem LsOk.last{n:Nat}{ls:AI}(h:LsOk n ls):LOk n (uR ls):=h.e _ (ζd (zo (d:=[]) (by have:=h.ne; omega)))
theorem zaD{n:Nat}{cs:AI}{hs l:AF}{bi:Int}(h:LOk n l):(fdF n cs hs bi l).Pairwise (· < ·)∧∀x∈fdF n cs hs bi l,x < n:=by
 unfold fdF;split
 ·exact⟨wz ..,λx hx=>(yO.mp hx).1⟩
 ·exact⟨h.r.sublist ζx,λx hx=>h.lt x (ζm.mp hx).1⟩
theorem zeh{n:Nat}{cs:AI}{hs:AF}{bi:Int}{ls:AI}(h:LsOk n ls):LsOk n (drS n cs hs bi ls)∧(drS n cs hs bi ls).length≤ls.length + 1:=by
 unfold drS;split
 ·rename_i c;have f:=zaD (cs:=cs) (hs:=hs) (bi:=bi) h.last;have l6:=h.last.l;refine⟨⟨λl hl=>?_,by rw[ζg]; show 0 < _ + 1; omega⟩,by rw[ζg]; exact ζl _⟩
  rcases ζu.mp hl with hl | hl
  ·exact h.e l hl
  ·rw[ζi.mp hl];exact⟨f.1,f.2,c.1,⋯⟩
 ·exact⟨h,⋯⟩
theorem XO(ns:AE){n:Nat}{cs:AI}{hs se:AF}(h:LOk n se):∀i,LsOk n (drF ns n cs hs se i)∧(drF ns n cs hs se i).length≤i + 1
 | 0=>⟨⟨λl hl=>by rw[ζi.mp hl]; exact h,by show 0 < 1; omega⟩,ζl _⟩
 | i + 1=>by
  have ih:=XO ns (cs:=cs) (hs:=hs) h i;have:=zeh (cs:=cs) (hs:=hs) (bi:=zv ns (dx i)) ih.1;exact⟨this.1,ζ8 this.2 ⋯⟩
def ue(ds:AG)(d:AD):Prop:=∃(ns:AE) (n:Nat) (cs:AI) (hs se:AF),ds=[il ns,nls cs,nl hs,nl se]∧ns.length≤63∧ShOk n cs∧n≤12∧TwE cs hs∧hs.length≤12∧LOk n se∧d=nls (drF ns n cs hs se 3)
theorem Xa:zw ["_law_script","_law_causes","_law_hidden","_law_seen","_law_lists","_law_k","_law_cell","_law_ahead","_law_some","_law_found"] ["_law_script","_law_causes","_law_hidden","_law_seen"] (zn (top 59)):={}
theorem Xx(F:Fun K "_law_drawn" "_law_drawn" (top 59) f fd)(B:Bs mg)(c_law_at:zt P w K mg base CX0 "_law_at" ["_law_script","_law_k"] 1 (spD K true zW))(c_law_above:zt P w K mg base CX0 "_law_above" ["_law_causes","_law_some","_law_within"] 1 (spD K true ug))(c_law_clump:zt P w K mg base CX0 "_law_clump" ["_law_causes","_law_hidden","_law_some","_law_k"] 1 (spD K true uf)):FnOk P w K mg base CX0 2 f fd ["_law_script","_law_causes","_law_hidden","_law_seen"] (spD K false ue):=by
 have sc:=Xa;refine F.ok sc (λvs H Q E h=>zH (λ_ _⟨_,_,_,_,_,e,_⟩=>by rw[e];rfl) h) (λcdv A outer s H vs Q E hr h=>?_);obtain⟨Fh,ds,d,le,dp,p,q⟩:=h
 refine⟨_,(ze (pS (i:=4) sc.nd (zR (zb (pv 3) zd)))
   (ze (zU AC rfl (ye rfl B.range (zb zf zd)) (pN (i:=5) sc.nd) (ze (pS (i:=6) sc.nd (pF c_law_at hr (zb (pv 0) (zb (zm zX zf (pv 5)) zd))))
   (ze (pS (i:=7) sc.nd (pX (zu (K:=K) rfl) (pv 4) (Q2 Vd zf)))
   (ze (yB (i:=8) rfl sc.nd rfl rfl (N:=["_law_j","_law_cell","_law_ahead"]) (js:=[none,some 6,some 7]) (by walk_at"comp_ok") (zG (K:=K) rfl (pv 7)) (λ_ _ _ _=>(pN (i:=0) (show υN ["_law_j","_law_cell","_law_ahead"]by decide +kernel))) (λ_ _ _ _=>(yQ (zF wD (zm yi (zm yY (zm yi (zm yY (pv 1) zf) zf) (pX (zB (K:=K) rfl) (yH (zb zf (zb zf (zb zf (zb zf zd))))) (yu (K:=K) rfl ζs PySem.F.slot_list_index PySem.F.type_list_index (Ts (K:=K) rfl) (pv 2) (zb (pv 0) zd)))) zf) zf (zT _)))) (λ_ _ _ _=>(pv 0)))
   (ze (pS (i:=9) sc.nd (pF c_law_above hr (zb (pv 1) (zb (pv 8) (zb (pv 7) zd)))))
   (ze (yK (zF wD (zm yi (pv 6) zf) zf (zT _)) (zg (pS (i:=9) sc.nd (pF c_law_clump hr (zb (pv 1) (zb (pv 2) (zb (pv 7) (zb (pX (zu (K:=K) rfl) (pv 7) (zm yi (zm yY (pv 6) zf) (pB (zj (K:=K) rfl) B.len (zb (pv 7) zd)))) zd))))))) zY)
   (zg (yK (PW.pt (u8 (zF (Uk (K:=K) rfl hr.units) (pv 9) (zR zd) (zT _)) (uI (zF Ys (pB (zj (K:=K) rfl) B.len (zb (pv 9) zd)) (pB (zj (K:=K) rfl) B.len (zb (pv 7) zd)) (zT _))))) (zg (yc (yu (K:=K) rfl ζs ζC ζB zV (pv 4) (zb (pv 9) zd)))) zY))))))))
   (zg (zE (pv 4))))),?_⟩
 have hN:=sc.n 10;obtain⟨ns,n,cs,hs,se,rfl,h63,ok,n12,te,hl,so,rfl⟩:=p;have big:=zI;have cl:=ok.l;have el:∀l:AF,PyData.int (((l.map λk:Nat=>PyData.int (k:Int)).length:Nat):Int)=.int (l.length:Int):=λl=>by rw[ζa]
 walk_at"run";refine exo false (ds:=[se].map nl) (yf (ds:=[nl se]) (zh ∅ zC) (by show 1≤sizeLine; omega)) #[0] ?_;refine yv (ds:=(List.range 3).map λi:Nat=>.int (i:Int)) true (λi Γ=>∃a b c d e,Γ=[some (.fz false (il ns)),some (.fz false (nls cs)),some (.fz false (nl hs)),some (.fz false (nl se)),some (.ow false ((drF ns n cs hs se i).map nl)),a,b,c,d,e]) (yM (n:=3) ∅ ⋯ ⋯) ⟨_,_,_,_,_,rfl⟩ ?_ ?_
 ·rintro i d Γ' hd ⟨a,b,c,d,e,rfl⟩;obtain⟨hi,rfl⟩:=yo hd;have D:=XO ns (cs:=cs) (hs:=hs) so i;have es:drF ns n cs hs se (i + 1)=drS n cs hs (zv ns (dx i)) (drF ns n cs hs se i):=rfl;rw[es];have dn:=D.1.ne;have dl:=D.2;have lo:=D.1.last;generalize drF ns n cs hs se i=ls at D dn dl lo;have al:atI (ls.map nl) (-1)=some (nl (uR ls)):=zcE (d:=[]) 0 ⋯;refine⟨_,egn #[0] ?_⟩
  refine exs true (d:=.int (zv ns (dx i))) (zi ∅ (show zW [il ns,.int (33 + (i:Int))] _ from⟨ns,dx i,by unfold dx; rw[Int.natCast_add]; rfl,h63,by unfold dx; omega,rfl⟩)) #[0] ?_;unfold drS;generalize zv ns (dx i)=bi;generalize uR ls=l at al lo;have lp:=lo.pos;have l6:=lo.l;have llt:=lo.lt;refine exs false (d:=nl l) (zP (κ:=false) ∅ ∅ al) #[0] ?_;refine exs true (d:=nl (subF bi l)) (EvO.toE (yx (κ:=true) (is:=[0]) (xs:=l) false (λk:Nat=>.int (k:Int)) (λk:Nat=>.int (k:Int)) (λj=>decide (bi / 2 % 16 / pw4 ((zl l).idxOf (j:Int)) % 2=1)) (λx _ y _ h=>by cases wu h; exact⟨rfl,rfl⟩) (zK ∅) (by walk_at"cc") rfl #[2] ⋯ ?_)) #[0] ?_
  ·intro j hj;have jz:(j:Int)∈zl l:=ζp.mpr ⟨j,hj,rfl⟩;have ji:=List.idxOf_lt_length_of_mem jz;rw[ve]at ji;generalize hx:(zl l).idxOf (j:Int)=ix at ji;have pi:=zdo ix ⋯;have a6:atI [PyData.int 1,.int 2,.int 4,.int 8] (ix:Int)=some (.int (pw4 ix)):=yz (g:=PyData.int) (xs:=[1,2,4,8]) (zo (d:=1) (show ix < 4 by omega));exact egn #[0] ⟨zM (wv (xa (xD (j:=pw4 ix) (xa (xD ∅ ∅ ⟨#[2],#[2]⟩) ∅ #[2]) (xb (κ:=false) (ds:=[.int 1,.int 2,.int 4,.int 8]) ∅ (EvE.eq (zaT (ns:=zl l) (k:=(j:Int)) (EvE.toL (EvE.eq (κ:=false) ∅ (yR l))) ∅ jz) (by rw[hx])) a6) ⟨pi.1,⋯⟩) ∅ #[2]) ∅),λ_=>by walk_at"ev"⟩
  have sl:(subF bi l).length≤l.length:=ζV _ _;refine exs true (d:=nl (dueL n cs (subF bi l) l)) (zi ∅ ⟨n,cs,subF bi l,l,rfl,ok,n12,⟨λx hx=>llt x (ζm.mp hx).1,⋯⟩,⋯,rfl⟩) #[0] ?_;refine exif (b:=decide (bi % 2=1)) (·=[some (.fz false (il ns)),some (.fz false (nls cs)),some (.fz false (nl hs)),some (.fz false (nl se)),some (.ow false (ls.map nl)),some (.fz true (.int i)),some (.fz true (.int bi)),some (.fz false (nl l)),some (.fz true (nl (subF bi l))),some (.fz true (nl (fdF n cs hs bi l)))]) ∅ (λh=>?_) (λh=>?_) ?_
  ·have h:bi % 2=1:=by simpa using h
   have q0:=ζU (bi / 2) (show(l.length:Int)≠0 by omega);have q1:=ζO (bi / 2) (show(0:Int) < l.length by omega);have ef:fdF n cs hs bi l=rchL n (lkF cs hs l) [l.getD (bi / 2 % (l.length:Int)).toNat 0]:=by unfold fdF; rw[if_pos h]
   rw[ef];obtain⟨q,hq⟩:∃q:Nat,bi / 2 % (l.length:Int)=(q:Int):=⟨_,(ζ0 q0).symm⟩
   rw[hq,ζG];have gq:l[q]?=some (l.getD q 0):=zo ⋯;have aq:atI (l.map λk:Nat=>PyData.int (k:Int)) (q:Int)=some (.int (l.getD q 0:Nat)):=yz gq;exact exs1 true (zi (zh ∅ (zh ∅ (zh ∅ (zh (zP (κ:=false) ∅ (EvE.eq (xa (j:=(l.length:Int)) (xD ∅ ∅ ⟨#[2],#[2]⟩) (EvE.eq (yg (ds:=l.map λk:Nat=>PyData.int (k:Int)) ∅) (el l)) ⋯) (congrArg PyData.int hq)) aq) zC)))) ⟨n,cs,hs,l,l.getD q 0,rfl,te,cl,n12,hl,lo.r,llt,⋯,ζd gq,rfl⟩) #[0] rfl
  ·have h:¬bi % 2=1:=by simpa using h
   have ef:fdF n cs hs bi l=dueL n cs (subF bi l) l:=by unfold fdF; rw[if_neg h]
   rw[ef];exact yl rfl
  rintro Γ' rfl;generalize fdF n cs hs bi l=fo;refine vE (b:=!decide (fo=[]) && decide ((fo.length:Int) < (l.length:Int))) (vF (EvT.eq (zM (zaU (neg:=true) (EvE.toD (κ:=true) ∅) (EvE.toD (κ:=true) (EvO.toE (yf (ds:=[]) zC #[2]))) (Yl _) rfl)) (by show(!PyData.eqv _ _)=_; rw[UG])) λ_=>zM (UE (EvE.eq (yg (ds:=fo.map λk:Nat=>PyData.int (k:Int)) ∅) (el fo)) (EvE.eq (yg (ds:=l.map λk:Nat=>PyData.int (k:Int)) ∅) (el l)))) (λh=>?_) (λh=>?_)
  ·have h1:=(ξZ _ _).mp h;have h2:fo≠[]:=by simpa using h1.1
   have h3:=of_decide_eq_true h1.2;refine exa1 (d:=nl fo) #[1] ∅ #[0] (by rw[ζa]; omega) ?_;show∃a b c d e,_;rw[if_pos ⟨h2,⋯⟩,ζv];exact⟨_,_,_,_,_,rfl⟩
  ·refine yl ?_;show∃a b c d e,_;rw[if_neg λz=>by rw[decide_eq_false z.1,decide_eq_true (show(fo.length:Int) < (l.length:Int)by omega)]at h; cases h];exact⟨_,_,_,_,_,rfl⟩
 ·rintro Γ' ⟨a,b,c,d,e,rfl⟩;rw[yn];exact exro (κ:=false) #[1] rfl (.inr rfl)
theorem ChO.take{n:Nat}{cs:AI}{hs U:AF}{ls:AI}(h:ChO n cs hs U ls){m:Nat}(h1:1≤m):ChO n cs hs U (ls.take m):=by
 have g:∀j,j < m→(ls.take m).getD j []=ls.getD j []:=λj hj=>by
  rw[ζb,ζb,List.getElem?_take_of_lt hj]
 have:=h.ne;refine⟨by rw[ζN]; omega,by rw[g 0 h1]; exact h.h0,λl hl=>h.r l (ξh hl),λj hj=>?_⟩
 rw[ζN]at hj;rw[g j ⋯,g (j + 1) ⋯];exact h.st j ⋯
theorem zdX{n:Nat}{cs:AI}{hs l:AF}{bi:Int}(h:LOk n l):∀x∈fdF n cs hs bi l,x∈l:=λx hx=>by
 unfold fdF at hx;split at hx
 ·have p:=h.pos;have q0:=ζU (bi / 2) (show(l.length:Int)≠0 by omega);have q1:=ζO (bi / 2) (show(0:Int) < l.length by omega);exact zc0 (ζd (zo (d:=0) ⋯)) (yO.mp hx).2
 ·exact(ζm.mp hx).1
theorem zeT{n:Nat}{cs:AI}{hs l:AF}{bi:Int}(h:LOk n l)(sh:ShOk n cs):Cc n cs hs l (fdF n cs hs bi l):=by
 unfold fdF;split
 ·have p:=h.pos;have q0:=ζU (bi / 2) (show(l.length:Int)≠0 by omega);have q1:=ζO (bi / 2) (show(0:Int) < l.length by omega);exact .inl ((XA h.lt _ l.length l (ζl _) λ_ w=>w).mpr ⟨_,ζd (zo (d:=0) ⋯),rfl⟩)
 ·refine .inr λx hx y hy hc=>ζm.mpr ⟨hy,decide_eq_true ?_⟩;have r:=yO.mp (of_decide_eq_true (ζm.mp hx).2);exact yO.mpr ⟨h.lt y hy,.step r.2 (ζm.mpr ⟨hc,decide_eq_true hy⟩)⟩
theorem zc7(ns:AE){n:Nat}{cs:AI}{hs se:AF}(h:LOk n se)(sh:ShOk n cs):∀i,ChO n cs hs se (drF ns n cs hs se i)
 | 0=>⟨by show 0 < 1; decide,rfl,λl hl=>by rw[ζi.mp hl]; exact⟨h.r,h.ne⟩,λj hj=>absurd hj (by show¬j + 1 < 1; omega)⟩
 | i + 1=>by
  have ih:=zc7 ns (cs:=cs) (hs:=hs) h sh i;have D:=(XO ns (cs:=cs) (hs:=hs) h i).1;show ChO n cs hs se (drS n cs hs (zv ns (dx i)) (drF ns n cs hs se i));unfold drS;split
  ·rename_i c;have ne:=ih.ne;have fo:=zaD (cs:=cs) (hs:=hs) (bi:=zv ns (dx i)) D.last;have fs:=zdX (cs:=cs) (hs:=hs) (bi:=zv ns (dx i)) D.last;have fc:=zeT (hs:=hs) (bi:=zv ns (dx i)) D.last sh;generalize fdF n cs hs (zv ns (dx i)) (uR (drF ns n cs hs se i))=g at *;unfold uR at *;generalize drF ns n cs hs se i=ls at *;have gl:∀j,j < ls.length→(ls ++ [g]).getD j []=ls.getD j []:=λj hj=>by
    rw[ζb,ζb,ξs hj]
   have gr:(ls ++ [g]).getD ls.length []=g:=by
    rw[ζb,List.getElem?_concat_length];rfl
   refine⟨by rw[ζg]; show 0 < _ + 1; omega,by rw[gl 0 ne]; exact ih.h0,λl hl=>?_,λj hj=>?_⟩
   ·rcases ζu.mp hl with z | z
    ·exact ih.r l z
    ·rw[ζi.mp z]; exact⟨fo.1,c.1⟩
   ·rw[ζg]at hj;have hj:j + 1 < ls.length + 1:=hj;by_cases e:j + 1=ls.length
    ·rw[e,gr,gl j ⋯,show j=ls.length - 1 by omega];exact⟨fs,c.2,fc⟩
    ·rw[gl j ⋯,gl (j + 1) ⋯];exact ih.st j ⋯
  ·exact ih
theorem zdV(ns:AE){m:Nat}(h2:2≤m)(h6:m≤6):∀h∈hiF ns m,(csF ns m).getD h []=[]:=by
 intro h hh;have l:=tU ns (m + (stF ns m).2.length);have nd:(zZ ns m).Nodup:=Up ns _;have ll:(zZ ns m).length=m + (stF ns m).2.length:=l.1;have lt:∀x∈zZ ns m,x < (zZ ns m).length:=λx hx=>by rw[ll]; exact l.2 x hx
 have hd:=(ym _).mem_iff.mp hh;obtain⟨i,hi,e⟩:=ξx.mp hd;rw[ζ5,ll]at hi;rw[ξ5]at e;have e:h=(zZ ns m).getD (m + i) 0:=by rw[ζb,ζe ⋯]; exact e.symm
 refine List.eq_nil_iff_forall_not_mem.mpr λx hx=>?_;unfold csF at hx;rw[wq nd lt h x m ⋯]at hx;obtain⟨i',hi',ej,_⟩:=hx;have:=(wg nd ⋯ ⋯).mp (e.symm.trans ej);omega
theorem ze5{i:Int}(h0:0≤i)(h:i < 4):∃v,atI [PyData.int 12,.int 20,.int 60,.int 100] i=some (.int v)∧12≤v∧v≤100∧v % 2=0:=by
 have:i=0∨i=1∨i=2∨i=3:=by omega
 rcases this with rfl | rfl | rfl | rfl
 ·exact⟨12,rfl,#[2],#[2],#[2]⟩
 ·exact⟨20,rfl,#[2],#[2],#[2]⟩
 ·exact⟨60,rfl,#[2],#[2],#[2]⟩
 ·exact⟨100,rfl,#[2],#[2],#[2]⟩
theorem U1(ss:AE)(cs:AI)(hs:AF)(ls:AI)(xs:AM):SeqAt.shaped (.list [il ss,nls cs,nl hs,nls ls,shs xs])=true:=by
 have l1:=xC (g:=nl) (λk=>xC (g:=λk:Nat=>PyData.int (k:Int)) (λ_=>rfl) k) cs;have l2:=xC (g:=nl) (λk=>xC (g:=λk:Nat=>PyData.int (k:Int)) (λ_=>rfl) k) ls;have l3:=xC (g:=λk:Nat=>PyData.int (k:Int)) (λ_=>rfl) hs;have l4:=xC (g:=PyData.int) (λ_=>rfl) ss;have l5:=xC (g:=shD) (λ_=>rfl) xs;have dn1:∀k:AF,PyData.depth (nl k)≤1:=λk=>by
  have:=y8 (g:=λk:Nat=>PyData.int (k:Int)) (n:=0) (λ_=>ζl _) k;show PyData.depthAll _ + 1≤1;omega
 have d1:=y8 (g:=nl) (n:=1) dn1 cs;have d2:=y8 (g:=nl) (n:=1) dn1 ls;have d3:=y8 (g:=λk:Nat=>PyData.int (k:Int)) (n:=0) (λ_=>ζl _) hs;have d4:=y8 (g:=PyData.int) (n:=0) (λ_=>ζl _) ss;have d5:=y8 (g:=shD) (n:=1) (λ_=>ζl _) xs;refine Yk ?_ ?_
 ·show(PyData.canLayAll0 _ && (PyData.canLayAll0 _ && (PyData.canLayAll0 _ && (PyData.canLayAll0 _ && (PyData.canLayAll0 _ && true)))))=true;rw[l1,l2,l3,l4,l5];rfl
 ·show max (PyData.depthAll _ + 1) (max (PyData.depthAll _ + 1) (max (PyData.depthAll _ + 1) (max (PyData.depthAll _ + 1) (max (PyData.depthAll _ + 1) 0)))) + 1≤50;omega
theorem zbB(xs:AM):∀d∈xs.map shD,imm d=true:=λd hd=>by
 obtain⟨x,_,rfl⟩:=ζp.mp hd;rfl
theorem Qt{ss:AE}{f:El.Asg→Rat}:∀(l:AF) (V:Nat→Prop),(∀a b:El.Asg,(∀j,V j∨j∈l→a j=b j)→f a=f b)→∀a b:El.Asg,(∀j,V j→a j=b j)→Rq.Sq ss l f a=Rq.Sq ss l f b
 | [],V,h,a,b,z=>h a b λj hj=>hj.elim (z j) λy=>(nomatch y)
 | k :: r,V,h,a,b,z=>by
  show(List.map _ _).sum=(List.map _ _).sum;congr 1;refine ζn λv _=>Qt r (λj=>V j∨j=k) (λa b w=>h a b λj hj=>?_) _ _ λj hj=>?_
  ·rcases hj with y | y
   ·exact w j (.inl (.inl y))
   ·rcases ζw.mp y with y | y
    ·exact w j (.inl (.inr y))
    ·exact w j (.inr y)
  ·by_cases e:j=k
   ·rw[e,El.zk,El.zk]
   ·rw[El.zr e,El.zr e];exact z j (hj.resolve_right e)
theorem Vr{ss:AE}{c:Nat→El.Asg→Rat}{pa:Nat→AF}{hs:AF}{N:Nat}(B:Ti.Bo ss c pa hs N)(ow:∀k,k < N→∀j∈pa k,j < N){a b:El.Asg}(h:∀j,j < N→a j=b j):∀L:AF,(∀k∈L,k < N)→Ti.Pr c L a=Ti.Pr c L b
 | [],_=>rfl
 | k :: r,hL=>by
  have kN:=hL k ζf;show c k a * _=c k b * _;rw[B.dep k kN a b λj hj=>h j (hj.elim (λe=>e ▸ kN) (ow k kN j)),Vr B ow h r λj hj=>hL j (ζk _ hj)]
theorem zeE{ss:AE}{c:Nat→El.Asg→Rat}{pa:Nat→AF}{hs:AF}{N:Nat}(B:Ti.Bo ss c pa hs N)(ow:∀k,k < N→∀j∈pa k,j < N){L:AF}(hL:∀k∈L,k < N)(a b:El.Asg)(h:∀j∈zD N hs,a j=b j):Ti.Q ss c hs L a=Ti.Q ss c hs L b:=by
 refine Qt hs (λj=>j∈zD N hs) (λa b z=>?_) a b h;have z':∀j,j < N→a j=b j:=λj hj=>z j (by
  by_cases y:j∈hs
  ·exact .inr y
  ·exact .inl (ζm.mpr ⟨ζE.mpr hj,by rw[decide_eq_false y]; rfl⟩))
 rw[Vr B ow z' L hL,Vr B ow z' hs B.hl]
theorem zcj{n:Nat}{cs:AI}{hs:AF}{f:AE}{ss:AE}{U L:AF}{ts:List AH}{bs:Int}(ok:SkO ss cs ts bs)(hd:HdO ss U hs)(fy:Fy n cs hs f ss U (cQ ss cs ts bs) bs.toNat)(nd:L.Nodup)(hL:∀k∈L,k∈U):wS [shs (qX ss ⟨U,Ti.Q ss (cQ ss cs ts bs) hs L⟩),il ((wds (pk ss U)).map (hdF ss cs ts bs U hs L)),.int (bs ^ (hs.length + L.length))] (.bool true):=by
 refine⟨_,_,_,rfl,by unfold Rq.qX; rw[List.length_map,List.length_map],λi x T h1 h2=>?_,rfl⟩
 unfold Rq.qX at h1;rw[ζo]at h1 h2;cases e:(wds (pk ss U))[i]? with
 | none=>rw[e]at h1; cases h1
 | some w =>
  rw[e]at h1 h2;cases h1;cases h2;have hw:=ζd e;have B1:=ok.B.lo;have Q1:=hd_Q (L:=L) ok hd hw;have⟨q,q0,q1,q2⟩:=fy.qn nd hL (El.asg U w);have qb:=fy.qb nd hL (El.asg U w);obtain⟨a,a0,am,ea⟩:=q;have eB:(((bs.toNat ^ (L.length + hs.length):Nat):Int))=bs ^ (L.length + hs.length):=by rw[Int.natCast_pow,ζ0 ⋯]
  rw[eB,Q1]at ea;have eT:=Rat.intCast_inj.mp ea;rw[Nat.add_comm hs.length];have hT:(hdF ss cs ts bs U hs L w).natAbs < 2 ^ 76:=by omega
  have hB:(bs ^ (L.length + hs.length)).natAbs < 2 ^ 70:=by omega
  exact⟨_,_,_,rfl,(ZU qb).1.up #[2],up hT #[2],up hB #[2],Rq.UO Q1,rfl⟩
theorem zdh:zw ["_law_script","_law_causes","_law_hidden","_law_line","_law_base","_law_sizes_here","_law_parts","_law_seen","_law_bottom_here","_law_sheet","_law_lists","_law_k","_law_heads_here","_law_kin","_law_given","_law_handed"] ["_law_script"] (zn (top 62)):={}
theorem zdJ(F:Fun K "law" "law" (top 62) f fd)(B:Bs mg)(c_law_shape:zt P w K mg base CX0 "_law_shape" ["_law_script","_law_many","_law_most"] 3 (spD K true ub))(c_law_at:zt P w K mg base CX0 "_law_at" ["_law_script","_law_k"] 1 (spD K true zW))(c_law_sizes:zt P w K mg base CX0 "_law_sizes" ["_law_script","_law_many","_law_hidden","_law_most"] 2 (spW K true ua))(c_law_tables:zt P w K mg base CX0 "_law_tables" ["_law_script","_law_sizes_here","_law_causes","_law_base"] 3 (spW K true vq))(c_law_bottom:zt P w K mg base CX0 "_law_bottom" ["_law_base","_law_many"] 1 (spD K true vx))(c_law_heads:zt P w K mg base CX0 "_law_heads" ["_law_parts","_law_base","_law_hidden","_law_seen","_law_some"] 2 (spD K true ud))(c_law_lowest:zt P w K mg base CX0 "_law_lowest" ["_law_top","_law_bottom_here"] 2 (spD K true vt))(c_law_drawn:zt P w K mg base CX0 "_law_drawn" ["_law_script","_law_causes","_law_hidden","_law_seen"] 2 (spD K false ue))(c_law_good:zt P w K mg base CX0 "_law_good" ["_law_found","_law_heads_here","_law_bottom_here"] 3 (spD K true wS))(c_worked:zt P w K mg base CX0 "worked" ["sizes","causes","hidden","lists","shares"] 9 (spD K true um)):FnOk P w K mg base CX0 10 f fd ["_law_script"] (V7 K):=by
 have sc:=zdh;refine F.ok sc (λvs H Q E h=>?_) (λcdv A outer s H vs Q E hr h=>?_)
 ·obtain⟨a,ns,rfl,_⟩:=h;rfl
 obtain⟨a,ns,rfl,hS,h63,k⟩:=h;have le:Same H H:=Same.refl H;have dp:zQ K H [V.ref a] [PyData.list (ns.map .int)]:=.cons (.lst hS (ZR ns)) .nil;have q:∀v H' F',Gr H H H' F'→Rp K false .fresh H F' v (.bool true)→Q v H':=λv H' F' _ z=>by cases z; exact k H'
 refine⟨_,(ze (Zw (pF c_law_shape hr (zb (pv 0) (zb (zm zX zf (zm yi (pF c_law_at hr (zb (pv 0) (zb zf zd))) zf)) (zb zf zd)))) (xK (K:=K) (n:=3) rfl rfl (yd (pN (i:=1) sc.nd) (yd (pN (i:=2) sc.nd) (yd (pN (i:=3) sc.nd) xJ)))))
   (ze (pS (i:=4) sc.nd (pX (zB (K:=K) rfl) (yH (zb zf (zb zf (zb zf (zb zf zd))))) (zm yi (zm yY (pF c_law_at hr (zb (pv 0) (zb zf zd))) zf) zf)))
   (ze (pS (i:=5) sc.nd (pF c_law_sizes hr (zb (pv 0) (zb (pB (zj (K:=K) rfl) B.len (zb (pv 1) zd)) (zb (pv 2) (zb zf zd))))))
   (ze (pS (i:=6) sc.nd (yH (zb (pv 5) (zb (pv 1) (zb (pF c_law_tables hr (zb (pv 0) (zb (pv 5) (zb (pv 1) (zb (pv 4) zd))))) zd)))))
   (ze (pS (i:=7) sc.nd (pB (y9 (K:=K) rfl) B.sorted (zb (pv 3) zd)))
   (ze (pS (i:=8) sc.nd (pF c_law_bottom hr (zb (pv 4) (zb (pB (zj (K:=K) rfl) B.len (zb (pv 1) zd)) zd))))
   (ze (yB (i:=9) rfl sc.nd rfl rfl (N:=["_law_top","_law_bottom_here"]) (js:=[none,some 8]) (by walk_at"comp_ok") (zG (K:=K) rfl (pF c_law_heads hr (zb (pv 6) (zb (pv 4) (zb (pv 2) (zb (pv 7) (zb (pv 7) zd))))))) (λ_ _ _ _=>(pN (i:=0) (show υN ["_law_top","_law_bottom_here"]by decide +kernel))) (λ_ _ _ _=>xf) (λ_ _ _ _=>(pF c_law_lowest hr (zb (pv 0) (zb (pv 1) zd)))))
   (ze (pS (i:=10) sc.nd (pF c_law_drawn hr (zb (pv 0) (zb (pv 1) (zb (pv 2) (zb (pv 7) zd))))))
   (ze (zU AC rfl (Td rfl B.range (zb zf (zb (zm zX (pB (zj (K:=K) rfl) B.len (zb (pv 10) zd)) zf) zd))) (pN (i:=11) sc.nd) (ze (pS (i:=12) sc.nd (pF c_law_heads hr (zb (pv 6) (zb (pv 4) (zb (pv 2) (zb (pv 7) (zb (pX (zu (K:=K) rfl) (pv 10) (zm xF (pv 11) zf)) zd)))))))
   (ze (pS (i:=8) sc.nd (pF c_law_bottom hr (zb (pv 4) (zb (zm zX (pB (zj (K:=K) rfl) B.len (zb (pv 2) zd)) (pB (zj (K:=K) rfl) B.len (zb (pX (zu (K:=K) rfl) (pv 10) (zm xF (pv 11) zf)) zd))) zd))))
   (ze (yB (i:=13) rfl sc.nd rfl rfl (N:=["_law_some"]) (js:=[none]) (by walk_at"comp_ok") (zG (K:=K) rfl (pv 1)) (λ_ _ _ _=>(pN (i:=0) (show υN ["_law_some"]by decide +kernel))) (λ_ _ _ _=>xf) (λ_ _ _ _=>(pY (yh (K:=K) rfl) B.list (zb (pv 0) zd))))
   (ze (yB (i:=14) rfl sc.nd rfl rfl (N:=["_law_some"]) (js:=[none]) (by walk_at"comp_ok") (zG (K:=K) rfl (vz (vi (K:=K) rfl) (pv 10) uM (uL (pv 11)))) (λ_ _ _ _=>(pN (i:=0) (show υN ["_law_some"]by decide +kernel))) (λ_ _ _ _=>xf) (λ_ _ _ _=>(pY (yh (K:=K) rfl) B.list (zb (pv 0) zd))))
   (ze (pS (i:=15) sc.nd (zR (zb (pY (yh (K:=K) rfl) B.list (zb (pv 5) zd)) (zb (pv 13) (zb (pY (yh (K:=K) rfl) B.list (zb (pv 2) zd)) (zb (pv 14) (zb (pY (yh (K:=K) rfl) B.list (zb (pv 9) zd)) zd)))))))
   (ze (yK (uk (wt (pF c_law_good hr (zb (pF c_worked hr (zb (pX (zu (K:=K) rfl) (pv 15) zf) (zb (pX (zu (K:=K) rfl) (pv 15) zf) (zb (pX (zu (K:=K) rfl) (pv 15) zf) (zb (pX (zu (K:=K) rfl) (pv 15) zf) (zb (pX (zu (K:=K) rfl) (pv 15) zf) zd)))))) (zb (pv 12) (zb (pv 8) zd)))))) (zg (zE uN)) zY)
   (zg (yK (zF (zbZ (K:=K) rfl hr.units) (pv 15) (zR (zb (pv 5) (zb (pv 1) (zb (pv 2) (zb (vz (vi (K:=K) rfl) (pv 10) uM (uL (pv 11))) (zb (pv 9) zd)))))) (zT _)) (zg (zE uN)) zY)))))))))
   (zg (zE uN))))))))))),?_⟩
 have hN:=sc.n 16;have big:=zI;walk_at"run";have at0:zW [il ns,.int 0] (.int (zv ns 0)):=⟨ns,0,rfl,h63,#[2],rfl⟩
 have f0:=ζU (zv ns 0) (show(3:Int)≠0 by decide);have f1:=ζO (zv ns 0) (show(0:Int) < 3 by decide);obtain⟨m,hm⟩:∃m:Nat,2 + zv ns 0 % 3=(m:Int):=⟨(2 + zv ns 0 % 3).toNat,⋯⟩
 have m2:2≤m:=by omega
 have m4:m≤4:=by omega
 have sh:=Qw ns m2 m4;have te:=Qf ns m2 (show m≤6 by omega);have hno:=zdV ns m2 (show m≤6 by omega);obtain⟨fo,od⟩:=zdC ns m2 (show m≤6 by omega);refine yw (·=[some (.fz false (il ns)),some (.fz true (nls (csF ns m))),some (.fz true (nl (hiF ns m))),some (.fz true (nl ((zZ ns m).take m))),none,none,none,none,none,none,none,none,none,none,none,none]) (zdZ (κ:=true) (zi (zh ∅ (zh (EvE.eq (xc ∅ (xa (zi ∅ at0) ∅ #[2])) (congrArg PyData.int hm)) (zh ∅ zC))) ⟨ns,m,rfl,h63,m2,⋯,rfl⟩) (eg3 #[0] #[0] #[0] rfl)) ?_;rintro Γ1 rfl;generalize csF ns m=cs at *;generalize hiF ns m=hs at *;generalize (zZ ns m).take m=ln at *;generalize hn:cs.length=n at sh od;have sn4:=sh.m4;have nm:=sh.nm;have n7:=sh.n7;have hl:=sh.hl;have c3:CDiv (zv ns 0) 3:=⟨#[2],#[2]⟩
 obtain⟨bs,ab,b1,b2,b0⟩:=ze5 (i:=zv ns 0 / 3 % 4) ⋯ ⋯;refine exs true (d:=.int bs) (xb (κ:=true) ∅ (xa (xD (zi ∅ at0) ∅ c3) ∅ #[2]) ab) #[0] ?_;have ecl:PyData.int (((cs.map nl).length:Nat):Int)=.int (n:Int):=by rw[ζa,hn]
 refine exg true (ZQ (zh ∅ (zh (EvE.eq (yg (ds:=cs.map nl) ∅) ecl) ∅)) ⟨ns,n,hs,24,rfl,h63,⋯,⋯,⋯,⋯,rfl⟩) (λd=>by walk_at"sc") ?_;rintro d ⟨ss,so,rfl⟩;have sl:=so.l;refine exg true (zaN ∅ ∅ (ZQ ∅ ⟨ns,n,ss,cs,bs,rfl,h63,⋯,so,hn,sh.ck,b1,b2,b0,rfl⟩)) (λd=>by walk_at"sc") ?_;rintro d ⟨_,⟨ts,ok,rfl⟩,rfl⟩;rw[show PyData.tuple [il ss,nls cs,tbl ts]=uj ss cs ts from rfl];have lnl:ln.length < 64:=by have:=sh.ll; omega
 have es:((srt (zl ln)).map PyData.int)=(zD n hs).map λk:Nat=>PyData.int (k:Int):=by
  rw[Zl,sh.sn];rfl
 refine exs true (d:=nl (zD n hs)) (EvO.toE (EvO.eq (xw (ns:=zl ln) (EvE.toL (EvE.eq (κ:=false) ∅ (yR ln))) (by unfold zl; rw[List.length_map]; exact lnl)) es)) #[0] ?_;have s7:S7 ss:=⟨so.s,⋯⟩
 have hd:HdO ss (zD n hs) hs:=⟨s7,by rw[sl]; exact sh.pm,by rw[sl]; exact sh.un⟩
 have BO:BOk bs:=⟨⋯,⋯⟩
 refine exs true (d:=.int (bs ^ n)) (zi (zh ∅ (zh (EvE.eq (yg (ds:=cs.map nl) ∅) ecl) zC)) ⟨bs,n,rfl,BO,⋯,rfl⟩) #[0] ?_;have ur:(zD n hs).Pairwise (· < ·):=List.pairwise_lt_range.sublist ζx;have und:=wy ur;have ult:∀k∈zD n hs,k < n:=λk hk=>ζE.mp (ζm.mp hk).1;have ult':∀k∈zD n hs,k < ss.length:=λk hk=>by rw[sl]; exact ult k hk
 have uh:∀k∈zD n hs,k∉hs:=λk hk=>by simpa using(List.mem_filter.mp hk).2
 have hlen:=hd.len;have sl0:(zD n hs).length=m:=by
  rw[←sh.sn,(ym _).length_eq];exact sh.ll
 have shk:ShOk n cs:=⟨hn,λr hr=>⟨(sh.ck r hr).1,by have:=(sh.ck r hr).2; omega⟩⟩
 have own:∀k,k < n→∀j∈cs.getD k [],j < n:=λk hk=>(sh.ck _ (ζd (zo (d:=[]) ⋯))).1;have bo:Ti.Bo ss (cQ ss cs ts bs) (λk=>cs.getD k []) hs n:=by
  have:=ok.bo (hs:=hs) (λk hk=>(zcX od).2 k ⋯) hno hd.nd.2.1 λk hk=>hd.mem.mp (.inr hk)
  rwa [sl]at this
 have fy:Fy n cs hs fo ss (zD n hs) (cQ ss cs ts bs) bs.toNat:=⟨s7,sl,shk,od,ur,ult,uh,⋯,⋯,⋯,bo,λk hk a=>ok.nq k ⋯ a,⋯,⋯⟩
 obtain⟨q,eq⟩:∃q:Rq.Qs,q=⟨zD n hs,Ti.Q ss (cQ ss cs ts bs) hs (zD n hs)⟩:=⟨_,rfl⟩
 have a0:Ay ss (cQ ss cs ts bs) hs (zD n hs) (zD n hs) q:=by
  rw[eq];exact⟨⟨ult',und,zeE bo own ult⟩,λ_ z=>z,λ_ z=>z,rfl⟩
 have qk:q.ks=zD n hs:=by rw[eq]
 have Wl:(wds (pk ss (zD n hs))).length≤16384:=by
  have:=hd.sz.1.p;rw[yL];omega
 have bp:=Bpow BO n;have eX:(wds (pk ss (zD n hs))).map (λw=>shD (mk (hdF ss cs ts bs (zD n hs) hs (zD n hs) w) (bs ^ n)))=(qX ss q).map shD:=by
  rw[eq];unfold Rq.qX;rw[ζA];refine ζn λw hw=>congrArg shD (Rq.zeO bp.1 ?_);have:=hd_Q (L:=zD n hs) ok hd hw;rw[hlen,sl]at this;exact this
 refine exs true (d:=shs (qX ss q)) (EvO.toE (EvO.eq (wH (is:=[0]) (xs:=wds (pk ss (zD n hs))) true (λw=>.int (hdF ss cs ts bs (zD n hs) hs (zD n hs) w)) (λw=>shD (mk (hdF ss cs ts bs (zD n hs) hs (zD n hs) w) (bs ^ n))) (λx _ y _ h=>by rw[PyData.int.inj h]) (zK (EvE.eq (zi ∅ ⟨ss,cs,ts,bs,_,_,_,rfl,ok,hd,λ_ z=>z,⋯,rfl⟩) (by show PyData.list _=PyData.list _; rw[ζA]; rfl))) (by walk_at"cc") rfl #[2] ⋯ ?_) eX)) #[0] ?_
 ·intro w _;refine egn #[0] (zi ∅ ⟨_,_,rfl,bp.1,?_,rfl⟩);have g:=Nat.gcd_le_right (hdF ss cs ts bs (zD n hs) hs (zD n hs) w).natAbs (show 0 < (bs ^ n).natAbs by omega);exact ζH (ζ6 g (ζ6 bp.2 (QX ⋯))) (ξw #[2] #[2])
 have lo:LOk n (zD n hs):=⟨ur,ult,λz=>by rw[z]at sl0; simp at sl0; omega,⋯⟩
 have D:=XO ns (cs:=cs) (hs:=hs) lo 3;have C:=zc7 ns (hs:=hs) lo shk 3;have d4:=D.2;refine exs false (d:=nls (drF ns n cs hs (zD n hs) 3)) (uV ∅ ⟨ns,n,cs,hs,zD n hs,rfl,h63,shk,⋯,te,⋯,lo,rfl⟩) #[0] ?_;generalize drF ns n cs hs (zD n hs) 3=ls at *;have lsl:ls.length≤4:=d4;have el:PyData.int (((ls.map nl).length:Nat):Int)=.int (ls.length:Int):=by rw[ζa]
 refine yv (ds:=(List.range ((ls.length:Int) + 1 - 1).toNat).map λi:Nat=>.int (1 + (i:Int))) true (λ_ Γ=>∃x8 x11 x12 x13 x14 x15:Option DV,Γ=[some (.fz false (il ns)),some (.fz true (nls cs)),some (.fz true (nl hs)),some (.fz true (nl ln)),some (.fz true (.int bs)),some (.fz true (il ss)),some (.fz true (uj ss cs ts)),some (.fz true (nl (zD n hs))),x8,some (.fz true (shs (qX ss q))),some (.fz false (nls ls)),x11,x12,x13,x14,x15]) (zcw (m:=1) (n:=(ls.length:Int) + 1) (zh ∅ (zh (xc (EvE.eq (yg (ds:=ls.map nl) ∅) el) ∅) zC)) ⋯) ⟨_,_,_,_,_,_,rfl⟩ ?_ ?_
 ·rintro i d Γ' hd' ⟨x8,x11,x12,x13,x14,x15,rfl⟩;obtain⟨i',hi',rfl⟩:=yk hd';have il':i'=i∧i < ls.length:=by
   have:=ζh.mp hi';obtain⟨h1,h2⟩:=this;rw[ζz]at h1;rw[ξ3]at h2;omega
  obtain⟨rfl,hi⟩:=il';have gL:ls[i']?=some (ls.getD i' []):=zo hi;have aL:atI (ls.map nl) (i':Int)=some (nl (ls.getD i' [])):=yz gL;have tl:(ls.take (i' + 1)).length=i' + 1:=by rw[ζN]; omega
  have W:=fy.wk rfl (C.take (m:=i' + 1) ⋯) ⋯ qk a0;have gt:(ls.take (i' + 1)).getD i' []=ls.getD i' []:=by rw[ζb,ζb,List.getElem?_take_of_lt ⋯]
  rw[tl,Nat.add_sub_cancel,gt]at W;have Lr:=C.r _ (ζd gL);have Lu:=fy.sub C i' hi;have Lnd:=wy Lr.1;have Ll:=uy Lnd Lu;have pw:um [il ss,nls cs,nl hs,nls (ls.take (i' + 1)),shs (qX ss q)] (shs (qX ss ⟨zD n hs,Ti.Q ss (cQ ss cs ts bs) hs (ls.getD i' [])⟩)):=⟨n,cs,hs,fo,ss,q,ls.take (i' + 1),80,rfl,W.1,by rw[tl,Nat.add_sub_cancel,W.2]⟩
  have pg:=zcj ok hd fy Lnd Lu;generalize ls.getD i' []=L at *;have k1:(1:Int) + (i':Int) - 1=i':=by omega
  refine⟨_,egn #[0] ?_⟩
  refine exs true (d:=il ((wds (pk ss (zD n hs))).map (hdF ss cs ts bs (zD n hs) hs L))) (zi (zh ∅ (zh ∅ (zh ∅ (zh ∅ (zh (zP (κ:=false) ∅ (EvE.eq ∅ (congrArg PyData.int k1)) aL) zC))))) ⟨ss,cs,ts,bs,_,_,_,rfl,ok,hd,Lu,⋯,rfl⟩) #[0] ?_;refine exs true (d:=.int (bs ^ (hs.length + L.length))) (zi (zh ∅ (zh (EvE.eq (xc (EvE.eq (yg (ds:=hs.map λk:Nat=>.int (k:Int)) ∅) (by rw[ζa])) (EvE.eq (yg (ds:=L.map λk:Nat=>.int (k:Int)) (EvE.toL (zP (κ:=false) ∅ (EvE.eq ∅ (congrArg PyData.int k1)) aL))) (by rw[ζa]))) (congrArg PyData.int (ξl hs.length L.length).symm)) zC)) ⟨bs,hs.length + L.length,rfl,BO,⋯,rfl⟩) #[0] ?_;refine exs true (d:=nls cs) (EvO.toE (EvO.eq (wY (is:=[0]) false (λd=>d) (zK ∅) (by walk_at"cc") rfl #[2] ?_ ?_) (by rw[List.map_id']))) #[0] ?_
  ·rw[ζa];omega
  ·intro d hd;obtain⟨v,_,rfl⟩:=ζp.mp hd;exact egn #[0] (EvO.toE (yW (EvL.imm (κ:=false) (EvE.toL ∅) (vB v))))
  have k2:(1:Int) + (i':Int)=((i' + 1:Nat):Int):=by omega
  have cut:cutD (ls.map nl) none (some (1 + (i':Int)))=(ls.take (i' + 1)).map nl:=by rw[k2]; exact cutT nl ls (i' + 1)
  refine exs true (d:=nls (ls.take (i' + 1))) (EvO.toE (EvO.eq (wY (is:=[0]) false (λd=>d) (zK (EvO.toE (EvO.eq (xx (ds:=ls.map nl) (lo:=none) (hi:=some (1 + (i':Int))) ∅ Zf (Ze ∅)) cut))) (by walk_at"cc") rfl #[2] ?_ ?_) (by rw[List.map_id']))) #[0] ?_
  ·rw[ζa,tl];omega
  ·intro d hd;obtain⟨v,_,rfl⟩:=ζp.mp hd;exact egn #[0] (EvO.toE (yW (EvL.imm (κ:=false) (EvE.toL ∅) (vB v))))
  refine exs true (d:=.list [il ss,nls cs,nl hs,nls (ls.take (i' + 1)),shs (qX ss q)]) (EvO.toE (yf (ds:=[il ss,nls cs,nl hs,nls (ls.take (i' + 1)),shs (qX ss q)]) (zh (EvO.toE (yW (EvL.imm (κ:=false) (EvE.toL ∅) (wF ss)))) (zh ∅ (zh (EvO.toE (yW (EvL.imm (κ:=false) (EvE.toL ∅) (vB hs)))) (zh ∅ (zh (EvO.toE (yW (EvL.imm (κ:=false) (EvE.toL ∅) (zbB (qX ss q))))) zC))))) (by show 5≤sizeLine; omega))) #[0] ?_;have hx:atI [il ss,nls cs,nl hs,nls (ls.take (i' + 1)),shs (qX ss q)] 0=some (il ss)∧atI [il ss,nls cs,nl hs,nls (ls.take (i' + 1)),shs (qX ss q)] 1=some (nls cs)∧atI [il ss,nls cs,nl hs,nls (ls.take (i' + 1)),shs (qX ss q)] 2=some (nl hs)∧atI [il ss,nls cs,nl hs,nls (ls.take (i' + 1)),shs (qX ss q)] 3=some (nls (ls.take (i' + 1)))∧atI [il ss,nls cs,nl hs,nls (ls.take (i' + 1)),shs (qX ss q)] 4=some (shs (qX ss q)):=⟨rfl,rfl,rfl,rfl,rfl⟩
  refine tW (b:=!true) (tI (et_B (zi (zh (zi (zh (zP (κ:=false) ∅ ∅ hx.1) (zh (zP (κ:=false) ∅ ∅ hx.2.1) (zh (zP (κ:=false) ∅ ∅ hx.2.2.1) (zh (zP (κ:=false) ∅ ∅ hx.2.2.2.1) (zh (zP (κ:=false) ∅ ∅ hx.2.2.2.2) zC))))) pw) ∅) pg))) rfl ?_;exact vE (b:=false) (zM (zct (d:=.list [il ss,nls cs,nl hs,nls (ls.take (i' + 1)),shs (qX ss q)]) (EvE.toD (κ:=true) ∅) (EvE.toD (κ:=false) (EvO.toE (yf (ds:=[il ss,nls cs,nl hs,nls (ls.take (i' + 1)),shs (qX ss q)]) (zh ∅ (zh ∅ (zh ∅ (zh (EvO.toE (EvO.eq (xx (ds:=ls.map nl) (lo:=none) (hi:=some (1 + (i':Int))) ∅ Zf (Ze ∅)) cut)) (zh ∅ zC))))) (by show 5≤sizeLine; omega)))) (U1 ss cs hs (ls.take (i' + 1)) (qX ss q)))) (λh=>by cases h) λ_=>yl ⟨_,_,_,_,_,_,rfl⟩
 ·rintro Γ' ⟨x8,x11,x12,x13,x14,x15,rfl⟩;exact zO true ∅ rfl (.inr rfl)
end
abbrev De(K:ζc)(x:Str)(i:Nat):=∃f fd,At K x (top i) f fd
theorem zen{l:PySem.W.OpenLaw}{w:World}{K:ζc}{h:Heap}{mg:AO}{fa:Addr}(X:K.In h)(G:h.Ns mainGlobals mg)(hfa:mg "law" = some (.ref fa))
  (d6:De K "meet" 6) (d7:De K "order_of" 7) (d10:De K "gathered" 10) (d12:De K "seen_things" 12) (d13:De K "linked_to" 13) (d14:∃f fd,AtL K "clumps" (top 14) f fd) (d16:De K "common_divisor" 16) (d17:De K "plus" 17) (d18:De K "times" 18) (d19:De K "over" 19) (d20:De K "total" 20) (d26:De K "grown" 26) (d24:De K "fits" 24) (d25:De K "worlds_by" 25) (d22:De K "worlds" 22) (d23:De K "rank" 23) (d28:De K "picked" 28) (d30:De K "filled" 30) (d31:De K "views_of" 31) (d32:De K "share_at" 32) (d33:De K "joined" 33) (d35:De K "drawn_in" 35) (d34:De K "left_out" 34) (d38:De K "check_shares" 38) (d41:De K "divided" 41) (d40:De K "clump_sheet" 40) (d39:De K "worked_on" 39) (d37:De K "worked" 37) (d43:De K "_law_whole" 43) (d44:De K "_law_at" 44) (d45:De K "_law_arrows" 45) (d46:De K "_law_pairs" 46) (d47:De K "_law_shape" 47) (d48:De K "_law_common" 48) (d49:De K "_law_fits" 49) (d50:De K "_law_clump" 50) (d51:De K "_law_above" 51) (d52:De K "_law_sizes" 52) (d53:De K "_law_row" 53) (d54:De K "_law_tables" 54) (d55:De K "_law_worlds" 55) (d56:De K "_law_part" 56) (d57:De K "_law_heads" 57) (d58:De K "_law_bottom" 58) (d59:De K "_law_drawn" 59) (d60:De K "_law_lowest" 60) (d61:De K "_law_good" 61)
  {f0:Addr} {oc:Value} {od an:Option Addr} {osl:Array (Option Value)} {kV doc pm cdv ct:Value} (a0:PySem.W.nsIn K mainGlobals "law" = some (some (.ref f0)))
  (l0:K.lookup f0=some ⟨oc,od,.func (PySem.W.fnOf "law" "law" (wn (top 62)) (xE (top 62)) (zn (top 62)) .none kV doc pm an cdv ct),osl⟩) (c0:PySem.W.codeIn K cdv "law" = true) (k0:PySem.W.keepIn K (.ref f0)=true)
  (z1:PySem.W.nsIn K mainGlobals "len" = some none) (z2:PySem.W.nsIn K mainGlobals "set" = some none) (z3:PySem.W.nsIn K mainGlobals "list" = some none) (z4:PySem.W.nsIn K mainGlobals "range" = some none) (z5:PySem.W.nsIn K mainGlobals "reversed" = some none) (z6:PySem.W.nsIn K mainGlobals "min" = some none) (z7:PySem.W.nsIn K mainGlobals "sorted" = some none) (z8:PySem.W.nsIn K mainGlobals "zip" = some none) (z9:PySem.W.nsIn K mainGlobals "any" = some none) (z10:PySem.W.nsIn K mainGlobals "isinstance" = some none) (z11:PySem.W.nsIn K mainGlobals "int" = some none) (z12:PySem.W.nsIn K mainGlobals "bool" = some none) (z13:PySem.W.nsIn K mainGlobals "abs" = some none) (z14:PySem.W.nsIn K mainGlobals "tuple" = some none) (z15:PySem.W.nsIn K mainGlobals "sum" = some none) :
  ∃fd:FuncData,(∀(s:Shared) (v:Value),BindsTo s fd ⟨[v],[]⟩ [("_law_script", v)])∧∀base:Heap,K.In base→base.Ns mainGlobals mg→FnOk l.prog w K mg base CX0 10 fa fd ["_law_script"] (V7 K):=by
 have e:=hfa.symm.trans (PySem.W.mg_of X G a0);cases e;have nn:∀{x:Str},PySem.W.nsIn K mainGlobals x=some none→mg x=none:=λz=>PySem.W.mg_none_of X G z;have B:Bs mg:=⟨nn z1,nn z2,nn z3,nn z4,nn z5,nn z6,nn z7,nn z8,nn z9,nn z10,nn z11,nn z12,nn z13,nn z14,nn z15⟩
 refine⟨PySem.W.fnOf "law" "law" (wn (top 62)) (xE (top 62)) (zn (top 62)) .none kV doc pm an cdv ct,λs v=>.of_eq rfl,λbase _ _=>?_⟩
 have mm:∀{x:Str} {f:Addr},PySem.W.nsIn K mainGlobals x=some (some (.ref f))→mg x=some (.ref f):=λz=>PySem.W.mg_of X G z;obtain⟨f6,g6,a6,F6⟩:=d6;have b6:=F6.binds (ps:=["some","others"]) λ_ _ _ _ _ _ us hl=>match us,hl with | [_,_],_=>rfl
 have C_meet:=zJ (P:=l.prog) (w:=w) (base:=base) F6 (mm a6) b6 (zb7 F6 B);obtain⟨f7,g7,a7,F7⟩:=d7;have b7:=F7.binds (ps:=["causes"]) λ_ _ _ _ _ _ us hl=>match us,hl with | [_],_=>rfl
 have C_order_of:=zJ (P:=l.prog) (w:=w) (base:=base) F7 (mm a7) b7 (WD F7 B C_meet);obtain⟨f10,g10,a10,F10⟩:=d10;have b10:=F10.binds (ps:=["some","nexts"]) λ_ _ _ _ _ _ us hl=>match us,hl with | [_,_],_=>rfl
 have C_gathered:=zJ (P:=l.prog) (w:=w) (base:=base) F10 (mm a10) b10 (WI F10 B);obtain⟨f12,g12,a12,F12⟩:=d12;have b12:=F12.binds (ps:=["causes","hidden"]) λ_ _ _ _ _ _ us hl=>match us,hl with | [_,_],_=>rfl
 have C_seen_things:=zJ (P:=l.prog) (w:=w) (base:=base) F12 (mm a12) b12 (ZG F12 B);obtain⟨f13,g13,a13,F13⟩:=d13;have b13:=F13.binds (ps:=["causes","hidden","k","within"]) λ_ _ _ _ _ _ us hl=>match us,hl with | [_,_,_,_],_=>rfl
 have C_linked_to:=zJ (P:=l.prog) (w:=w) (base:=base) F13 (mm a13) b13 (Xr F13 B C_meet);obtain⟨f14,g14,a14,F14,L14⟩:=d14;have b14:=F14.binds (ps:=["causes","hidden","some"]) λ_ _ _ _ _ _ us hl=>match us,hl with | [_,_,_],_=>rfl
 have C_clumps:=zJ (P:=l.prog) (w:=w) (base:=base) F14 (mm a14) b14 (To F14 L14 B C_gathered C_linked_to);obtain⟨f16,g16,a16,F16⟩:=d16;have b16:=F16.binds (ps:=["number","bottom"]) λ_ _ _ _ _ _ us hl=>match us,hl with | [_,_],_=>rfl
 have C_common_divisor:=zJ (P:=l.prog) (w:=w) (base:=base) F16 (mm a16) b16 (uO F16 B);obtain⟨f17,g17,a17,F17⟩:=d17;have b17:=F17.binds (ps:=["one","other"]) λ_ _ _ _ _ _ us hl=>match us,hl with | [_,_],_=>rfl
 have C_plus:=zJ (P:=l.prog) (w:=w) (base:=base) F17 (mm a17) b17 (zb5 F17 B C_common_divisor);obtain⟨f18,g18,a18,F18⟩:=d18;have b18:=F18.binds (ps:=["one","other"]) λ_ _ _ _ _ _ us hl=>match us,hl with | [_,_],_=>rfl
 have C_times:=zJ (P:=l.prog) (w:=w) (base:=base) F18 (mm a18) b18 (Q8 F18 B C_common_divisor);obtain⟨f19,g19,a19,F19⟩:=d19;have b19:=F19.binds (ps:=["one","other"]) λ_ _ _ _ _ _ us hl=>match us,hl with | [_,_],_=>rfl
 have C_over:=zJ (P:=l.prog) (w:=w) (base:=base) F19 (mm a19) b19 (zb6 F19 B C_times);obtain⟨f20,g20,a20,F20⟩:=d20;have b20:=F20.binds (ps:=["shares"]) λ_ _ _ _ _ _ us hl=>match us,hl with | [_],_=>rfl
 have C_total:=zJ (P:=l.prog) (w:=w) (base:=base) F20 (mm a20) b20 (Q7 F20 B C_plus);obtain⟨f26,g26,a26,F26⟩:=d26;have b26:=F26.binds (ps:=["heads","choices"]) λ_ _ _ _ _ _ us hl=>match us,hl with | [_,_],_=>rfl
 have C_grown:=zJ (P:=l.prog) (w:=w) (base:=base) F26 (mm a26) b26 (Q9 F26 B);obtain⟨f24,g24,a24,F24⟩:=d24;have b24:=F24.binds (ps:=["value","known"]) λ_ _ _ _ _ _ us hl=>match us,hl with | [_,_],_=>rfl
 have C_fits:=zJ (P:=l.prog) (w:=w) (base:=base) F24 (mm a24) b24 (zb8 F24 B);obtain⟨f25,g25,a25,F25⟩:=d25;have b25:=F25.binds (ps:=["sizes","view"]) λ_ _ _ _ _ _ us hl=>match us,hl with | [_,_],_=>rfl
 have C_worlds_by:=zJ (P:=l.prog) (w:=w) (base:=base) F25 (mm a25) b25 (Xp F25 B C_grown C_fits);obtain⟨f22,g22,a22,F22⟩:=d22;have b22:=F22.binds (ps:=["sizes"]) λ_ _ _ _ _ _ us hl=>match us,hl with | [_],_=>rfl
 have C_worlds:=zJ (P:=l.prog) (w:=w) (base:=base) F22 (mm a22) b22 (Th F22 B C_worlds_by);obtain⟨f23,g23,a23,F23⟩:=d23;have b23:=F23.binds (ps:=["sizes","world"]) λ_ _ _ _ _ _ us hl=>match us,hl with | [_,_],_=>rfl
 have C_rank:=zJ (P:=l.prog) (w:=w) (base:=base) F23 (mm a23) b23 (zb4 F23 B);obtain⟨f28,g28,a28,F28⟩:=d28;have b28:=F28.binds (ps:=["values","things"]) λ_ _ _ _ _ _ us hl=>match us,hl with | [_,_],_=>rfl
 have C_picked:=zJ (P:=l.prog) (w:=w) (base:=base) F28 (mm a28) b28 (Tk F28 B);obtain⟨f30,g30,a30,F30⟩:=d30;have b30:=F30.binds (ps:=["view","things","values"]) λ_ _ _ _ _ _ us hl=>match us,hl with | [_,_,_],_=>rfl
 have C_filled:=zJ (P:=l.prog) (w:=w) (base:=base) F30 (mm a30) b30 (Tn F30 B);obtain⟨f31,g31,a31,F31⟩:=d31;have b31:=F31.binds (ps:=["sizes","view","things"]) λ_ _ _ _ _ _ us hl=>match us,hl with | [_,_,_],_=>rfl
 have C_views_of:=zJ (P:=l.prog) (w:=w) (base:=base) F31 (mm a31) b31 (WB F31 B C_worlds C_picked C_filled);obtain⟨f32,g32,a32,F32⟩:=d32;have b32:=F32.binds (ps:=["sizes","sheet","view"]) λ_ _ _ _ _ _ us hl=>match us,hl with | [_,_,_],_=>rfl
 have C_share_at:=zJ (P:=l.prog) (w:=w) (base:=base) F32 (mm a32) b32 (WC F32 B C_rank C_picked);obtain⟨f33,g33,a33,F33⟩:=d33;have b33:=F33.binds (ps:=["sizes","one","other"]) λ_ _ _ _ _ _ us hl=>match us,hl with | [_,_,_],_=>rfl
 have C_joined:=zJ (P:=l.prog) (w:=w) (base:=base) F33 (mm a33) b33 (Tm F33 B C_views_of C_times C_share_at);obtain⟨f35,g35,a35,F35⟩:=d35;have b35:=F35.binds (ps:=["sizes","sheet","k","one_of"]) λ_ _ _ _ _ _ us hl=>match us,hl with | [_,_,_,_],_=>rfl
 have C_drawn_in:=zJ (P:=l.prog) (w:=w) (base:=base) F35 (mm a35) b35 (WJ F35 B C_views_of C_share_at C_total);obtain⟨f34,g34,a34,F34⟩:=d34;have b34:=F34.binds (ps:=["sizes","sheet","k"]) λ_ _ _ _ _ _ us hl=>match us,hl with | [_,_,_],_=>rfl
 have C_left_out:=zJ (P:=l.prog) (w:=w) (base:=base) F34 (mm a34) b34 (WE F34 B C_drawn_in C_total);obtain⟨f38,g38,a38,F38⟩:=d38;have b38:=F38.binds (ps:=["shares"]) λ_ _ _ _ _ _ us hl=>match us,hl with | [_],_=>rfl
 have C_check_shares:=zJ (P:=l.prog) (w:=w) (base:=base) F38 (mm a38) b38 (t4 F38 B);obtain⟨f41,g41,a41,F41⟩:=d41;have b41:=F41.binds (ps:=["sizes","one","other"]) λ_ _ _ _ _ _ us hl=>match us,hl with | [_,_,_],_=>rfl
 have C_divided:=zJ (P:=l.prog) (w:=w) (base:=base) F41 (mm a41) b41 (Vy F41 B C_views_of C_over C_share_at);obtain⟨f40,g40,a40,F40⟩:=d40;have b40:=F40.binds (ps:=["sizes","sheet","ordered","clump"]) λ_ _ _ _ _ _ us hl=>match us,hl with | [_,_,_,_],_=>rfl
 have C_clump_sheet:=zJ (P:=l.prog) (w:=w) (base:=base) F40 (mm a40) b40 (ZH F40 B C_left_out C_joined C_divided);obtain⟨f39,g39,a39,F39⟩:=d39;have b39:=F39.binds (ps:=["sizes","causes","hidden","sheet","ahead","part"]) λ_ _ _ _ _ _ us hl=>match us,hl with | [_,_,_,_,_,_],_=>rfl
 have C_worked_on:=zJ (P:=l.prog) (w:=w) (base:=base) F39 (mm a39) b39 (Xq F39 B C_clumps C_clump_sheet C_order_of C_left_out);obtain⟨f37,g37,a37,F37⟩:=d37;have b37:=F37.binds (ps:=["sizes","causes","hidden","lists","shares"]) λ_ _ _ _ _ _ us hl=>match us,hl with | [_,_,_,_,_],_=>rfl
 have C_worked:=zJ (P:=l.prog) (w:=w) (base:=base) F37 (mm a37) b37 (Tj F37 B C_check_shares C_seen_things C_worked_on C_views_of C_share_at);obtain⟨f43,g43,a43,F43⟩:=d43;have b43:=F43.binds (ps:=["_law_found"]) λ_ _ _ _ _ _ us hl=>match us,hl with | [_],_=>rfl
 have C__law_whole:=zJ (P:=l.prog) (w:=w) (base:=base) F43 (mm a43) b43 (Xs F43 B);obtain⟨f44,g44,a44,F44⟩:=d44;have b44:=F44.binds (ps:=["_law_script","_law_k"]) λ_ _ _ _ _ _ us hl=>match us,hl with | [_,_],_=>rfl
 have C__law_at:=zJ (P:=l.prog) (w:=w) (base:=base) F44 (mm a44) b44 (Tl F44 B);obtain⟨f45,g45,a45,F45⟩:=d45;have b45:=F45.binds (ps:=["_law_script","_law_many"]) λ_ _ _ _ _ _ us hl=>match us,hl with | [_,_],_=>rfl
 have C__law_arrows:=zJ (P:=l.prog) (w:=w) (base:=base) F45 (mm a45) b45 (Yc F45 B C__law_at);obtain⟨f46,g46,a46,F46⟩:=d46;have b46:=F46.binds (ps:=["_law_script","_law_kin","_law_most"]) λ_ _ _ _ _ _ us hl=>match us,hl with | [_,_,_],_=>rfl
 have C__law_pairs:=zJ (P:=l.prog) (w:=w) (base:=base) F46 (mm a46) b46 (Xv F46 B C__law_at);obtain⟨f47,g47,a47,F47⟩:=d47;have b47:=F47.binds (ps:=["_law_script","_law_many","_law_most"]) λ_ _ _ _ _ _ us hl=>match us,hl with | [_,_,_],_=>rfl
 have C__law_shape:=zJ (P:=l.prog) (w:=w) (base:=base) F47 (mm a47) b47 (Xu F47 B C__law_arrows C__law_pairs C__law_at);obtain⟨f48,g48,a48,F48⟩:=d48;have b48:=F48.binds (ps:=["_law_one","_law_other"]) λ_ _ _ _ _ _ us hl=>match us,hl with | [_,_],_=>rfl
 have C__law_common:=zJ (P:=l.prog) (w:=w) (base:=base) F48 (mm a48) b48 (Ya F48 B);obtain⟨f49,g49,a49,F49⟩:=d49;have b49:=F49.binds (ps:=["_law_found","_law_top","_law_bottom_here"]) λ_ _ _ _ _ _ us hl=>match us,hl with | [_,_,_],_=>rfl
 have C__law_fits:=zJ (P:=l.prog) (w:=w) (base:=base) F49 (mm a49) b49 (WH F49 B C__law_whole C__law_common);obtain⟨f50,g50,a50,F50⟩:=d50;have b50:=F50.binds (ps:=["_law_causes","_law_hidden","_law_some","_law_k"]) λ_ _ _ _ _ _ us hl=>match us,hl with | [_,_,_,_],_=>rfl
 have C__law_clump:=zJ (P:=l.prog) (w:=w) (base:=base) F50 (mm a50) b50 (Xy F50 B);obtain⟨f51,g51,a51,F51⟩:=d51;have b51:=F51.binds (ps:=["_law_causes","_law_some","_law_within"]) λ_ _ _ _ _ _ us hl=>match us,hl with | [_,_,_],_=>rfl
 have C__law_above:=zJ (P:=l.prog) (w:=w) (base:=base) F51 (mm a51) b51 (Xz F51 B);obtain⟨f52,g52,a52,F52⟩:=d52;have b52:=F52.binds (ps:=["_law_script","_law_many","_law_hidden","_law_most"]) λ_ _ _ _ _ _ us hl=>match us,hl with | [_,_,_,_],_=>rfl
 have C__law_sizes:=zJ (P:=l.prog) (w:=w) (base:=base) F52 (mm a52) b52 (Xt F52 B C__law_at);obtain⟨f53,g53,a53,F53⟩:=d53;have b53:=F53.binds (ps:=["_law_script","_law_at_here","_law_size","_law_base"]) λ_ _ _ _ _ _ us hl=>match us,hl with | [_,_,_,_],_=>rfl
 have C__law_row:=zJ (P:=l.prog) (w:=w) (base:=base) F53 (mm a53) b53 (Vx F53 B C__law_at);obtain⟨f54,g54,a54,F54⟩:=d54;have b54:=F54.binds (ps:=["_law_script","_law_sizes_here","_law_causes","_law_base"]) λ_ _ _ _ _ _ us hl=>match us,hl with | [_,_,_,_],_=>rfl
 have C__law_tables:=zJ (P:=l.prog) (w:=w) (base:=base) F54 (mm a54) b54 (Z8 F54 B C__law_row);obtain⟨f55,g55,a55,F55⟩:=d55;have b55:=F55.binds (ps:=["_law_sizes_here","_law_things"]) λ_ _ _ _ _ _ us hl=>match us,hl with | [_,_],_=>rfl
 have C__law_worlds:=zJ (P:=l.prog) (w:=w) (base:=base) F55 (mm a55) b55 (Z7 F55 B);obtain⟨f56,g56,a56,F56⟩:=d56;have b56:=F56.binds (ps:=["_law_parts","_law_base","_law_some","_law_values"]) λ_ _ _ _ _ _ us hl=>match us,hl with | [_,_,_,_],_=>rfl
 have C__law_part:=zJ (P:=l.prog) (w:=w) (base:=base) F56 (mm a56) b56 (WF F56 B);obtain⟨f57,g57,a57,F57⟩:=d57;have b57:=F57.binds (ps:=["_law_parts","_law_base","_law_hidden","_law_seen","_law_some"]) λ_ _ _ _ _ _ us hl=>match us,hl with | [_,_,_,_,_],_=>rfl
 have C__law_heads:=zJ (P:=l.prog) (w:=w) (base:=base) F57 (mm a57) b57 (Xw F57 B C__law_worlds C__law_part);obtain⟨f58,g58,a58,F58⟩:=d58;have b58:=F58.binds (ps:=["_law_base","_law_many"]) λ_ _ _ _ _ _ us hl=>match us,hl with | [_,_],_=>rfl
 have C__law_bottom:=zJ (P:=l.prog) (w:=w) (base:=base) F58 (mm a58) b58 (Yb F58 B);obtain⟨f59,g59,a59,F59⟩:=d59;have b59:=F59.binds (ps:=["_law_script","_law_causes","_law_hidden","_law_seen"]) λ_ _ _ _ _ _ us hl=>match us,hl with | [_,_,_,_],_=>rfl
 have C__law_drawn:=zJ (P:=l.prog) (w:=w) (base:=base) F59 (mm a59) b59 (Xx F59 B C__law_at C__law_above C__law_clump);obtain⟨f60,g60,a60,F60⟩:=d60;have b60:=F60.binds (ps:=["_law_top","_law_bottom_here"]) λ_ _ _ _ _ _ us hl=>match us,hl with | [_,_],_=>rfl
 have C__law_lowest:=zJ (P:=l.prog) (w:=w) (base:=base) F60 (mm a60) b60 (Z9 F60 B C__law_common);obtain⟨f61,g61,a61,F61⟩:=d61;have b61:=F61.binds (ps:=["_law_found","_law_heads_here","_law_bottom_here"]) λ_ _ _ _ _ _ us hl=>match us,hl with | [_,_,_],_=>rfl
 have C__law_good:=zJ (P:=l.prog) (w:=w) (base:=base) F61 (mm a61) b61 (WG F61 B C__law_fits);exact zdJ (VF l0 c0 k0) B C__law_shape C__law_at C__law_sizes C__law_tables C__law_bottom C__law_heads C__law_lowest C__law_drawn C__law_good C_worked
theorem walk{l:PySem.W.OpenLaw}{q:Program}{loose:AJ}{XP:(Str→Option Value)→Heap→Prop}{YP:World→Heap→Prop}{d:DefRec}{K:Params→ζc}(hn:l.most=some 63)(hdf:d.params.defaults=[])
  (hY:∀(w:World) (h:Heap),YP w h→(K w.params).In h) (hT:∀(w:World) (h:Heap),YP w h→(∀p∈yq (K w.params),h.get? p.1=some (PySem.W.tabObj #[]))∧YU (K w.params)=true)
  (F:∀(w:World) (mg:AO) (fa:Addr) (h:Heap),(K w.params).In h→h.Ns mainGlobals mg→mg d.name=some (.ref fa)→
   ∃fd:FuncData,(∀(s:Shared) (u:Value),BindsTo s fd ⟨[u],[]⟩ [("_law_script", u)])∧∀base:Heap,(K w.params).In base→base.Ns mainGlobals mg→FnOk l.prog w (K w.params) mg base CX0 10 fa fd ["_law_script"] (V7 (K w.params))) :
  PySem.W.WalkO q loose XP YP l.row.toRowW d [] (λf vs=>PySem.call f vs) :=
 L2.zbo (n:=63) (k:=10) (x := "_law_script") (CX:=λ_=>CX0) (sp:=λw=>V7 (K w.params)) hn #[2] hdf ⟨rfl,#[2],#[2],rfl⟩ hY hT F (λ_ _ a ns hl hS=>⟨a,ns,rfl,hS,hl,λ_=>rfl⟩) λ_ _ _ _ _ z=>z
end K79
def PySem.W.Fast.tw5098130757456194319 : PySem.Program := PySem.Challenge.pw_causebook_k79_whole_chains_worked
theorem PySem.W.Fast.te5098130757456194319 : PySem.Challenge.pw_causebook_k79_whole_chains_worked = PySem.W.Fast.tw5098130757456194319 := rfl
def PySem.W.Fast.tw13348582811696761407 : Nat := 0
def PySem.W.Fast.tw14533390916265240672 : Nat := 0
def PySem.W.Fast.tw17847696850964187138 : Nat := 0
def PySem.W.Fast.tw8223524678248247205 : Nat := 0
def PySem.W.Fast.tw4290201233567531108 : Nat := 0
def PySem.W.Fast.tw15881759899967475244 : Nat := 0
def PySem.W.Fast.tw10378921508929841579 : Nat := 0
def PySem.W.Fast.tw12530836500214421409:=0
def PySem.W.Fast.tw15935775247149818025:=0
def PySem.W.Fast.tw8116092223797436445:=0
def PySem.W.Fast.tw10779127068782707369:=0
def PySem.W.Fast.tw3039681029495597274:=0
def PySem.W.Fast.tw11724218554523389684:=0
def PySem.W.Fast.tw6955597332265869540:=0
def PySem.W.Fast.tw4405052248615482354:=0
def PySem.W.Fast.tw18244907319164078744:=0
def PySem.W.Fast.tw13596622399378144845:=0
def PySem.W.Fast.tw9014211219837010538:=0
def PySem.W.Fast.tw8214721514338050100:=0
def PySem.W.Fast.tw15457503840764303160:=0
def PySem.W.Fast.tw16168190154665575252:=0
def PySem.W.Fast.tw10860502155424895386:=0
def PySem.W.Fast.tw8278543083934711533:=0
def PySem.W.Fast.tw8422510098817549856:=0
def PySem.W.Fast.tw5370749489921845711:=0
def PySem.W.Fast.tw9158993832546942226:=0
def PySem.W.Fast.tw12589809262240672032:=0
def PySem.W.Fast.tw158293448259485468:=0
def PySem.W.Fast.tw17215108255710221355:=0
def PySem.W.Fast.tw5248755243490566533:=0
def PySem.W.Fast.tw16568345523064554288:=0
def PySem.W.Fast.tw8912223855668882791:=0
def PySem.W.Fast.tw354412359993834467:=0
def PySem.W.Fast.tw1057125402411346561:=0
def PySem.W.Fast.tw11873139471047784969:=0
def PySem.W.Fast.tw1955202071471945356:=0
def PySem.W.Fast.tw593447687724230216:=0
def PySem.W.Fast.tw2979624425400982247:=0
def PySem.W.Fast.tw12413367641604359135:=0
def PySem.W.Fast.tw512838122584095319:=0
def PySem.W.Fast.tw16962727155353464566:=0
def PySem.W.Fast.tw12977816648317698653:=0
def PySem.W.Fast.tw9794389769955584925:=0
def PySem.W.Fast.tw2394900794353783949:=0
def PySem.W.Fast.tw8148931896905325056:=0
def PySem.W.Fast.tw279141225110234680:=0
def PySem.W.Fast.tw860048089326100554:=0
def PySem.W.Fast.tw12863783615312694894:=0
def PySem.W.Fast.tw5129945015978288284:=0
def PySem.W.Fast.tw3373155726463488410:=0
def PySem.W.Fast.tw6942917285409363120:=0
def PySem.W.Fast.tw16112666091625081428:=0
def PySem.W.Fast.tw9952975669726679957:=0
def PySem.W.Fast.tw14018053454261292836:=0
def PySem.W.Fast.tw18164618433133499788:=0
def PySem.W.Fast.tw17776521738761349451:=0
open PySem PySem.W PyProof.Rows
set_option maxRecDepth 100000 in
set_option maxHeartbeats 0 in
theorem PySem.Challenge.cw_causebook_k79_whole_chains_worked_holds : PySem.Challenge.rw_causebook_k79_whole_chains_worked.Holds := by
 w_on; o_law; k_head; (case hw=>w_witness2)
 k_fill
 refine K79.walk (l:=PySem.Challenge.rw_causebook_k79_whole_chains_worked) rfl rfl (fun w h Y=>PySem.W.km_in_of Y) (fun w h Y=>⟨zbs (PySem.W.km_tabs_of Y) (by kernel_rfl),by kernel_rfl⟩) ?F
 case F =>
  intro w mg fa h KX G hmg
  refine' K79.zen KX G hmg ?d6 ?d7 ?d10 ?d12 ?d13 ?d14 ?d16 ?d17 ?d18 ?d19 ?d20 ?d26 ?d24 ?d25 ?d22 ?d23 ?d28 ?d30 ?d31 ?d32 ?d33 ?d35 ?d34 ?d38 ?d41 ?d40 ?d39 ?d37 ?d43 ?d44 ?d45 ?d46 ?d47 ?d48 ?d49 ?d50 ?d51 ?d52 ?d53 ?d54 ?d55 ?d56 ?d57 ?d58 ?d59 ?d60 ?d61 ?a0 ?l0 ?c0 ?k0 ?z1 ?z2 ?z3 ?z4 ?z5 ?z6 ?z7 ?z8 ?z9 ?z10 ?z11 ?z12 ?z13 ?z14 ?z15
  iterate 5 (refine' Cm.Ql ?a ?l ?c ?k; (case a=>k_is); (case l=>k_is); (case c=>k_is); (case k=>k_is))
  iterate 1 (refine' Cm.zbr ?a ?l ?c ?k ?m; (case a=>k_is); (case l=>k_is); (case c=>k_is); (case k=>k_is); (case m=>kernel_rfl))
  iterate 41 (refine' Cm.Ql ?a ?l ?c ?k; (case a=>k_is); (case l=>k_is); (case c=>k_is); (case k=>k_is))
  (case a0=>k_is); (case l0=>k_is); (case c0=>k_is); (case k0=>k_is)
  (case z1=>k_is); (case z2=>k_is); (case z3=>k_is); (case z4=>k_is); (case z5=>k_is); (case z6=>k_is); (case z7=>k_is); (case z8=>k_is); (case z9=>k_is); (case z10=>k_is); (case z11=>k_is); (case z12=>k_is); (case z13=>k_is); (case z14=>k_is); (case z15=>k_is)
#print axioms PySem.Challenge.cw_causebook_k79_whole_chains_worked_holds
