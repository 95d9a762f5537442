import PyProof.Rows.All
import Wide.All
import OpenK.AllK
import Wide.FinOn
import Lean
import PyProof.EqAt
import PyProof.EqKinds
import PyProof.TupleCall
import PySem.Challenge.RW_causebook_k16_refused_books
set_option Elab.async false
set_option linter.all false
set_option maxRecDepth 100000
set_option genSizeOf false
local macro_rules | `(tactic| omega) => `(tactic| first | lia | omega (config := {}))
theorem b1z{b:Type}{p:List b→Prop}(h:∀ a,p [a]):∀ us:List b,us.length=1→p us|[a],_=>h a
theorem b2z{c:Type}{p:List c→Prop}(h:∀ a b,p [a,b]):∀ us:List c,us.length=2→p us|[a,b],_=>h a b
theorem b3z{d:Type}{p:List d→Prop}(h:∀ a b c,p [a,b,c]):∀ us:List d,us.length=3→p us|[a,b,c],_=>h a b c
theorem b4z{e:Type}{p:List e→Prop}(h:∀ a b c d,p [a,b,c,d]):∀ us:List e,us.length=4→p us|[a,b,c,d],_=>h a b c d
local macro_rules | `(tactic| walk_at "b1") => `(tactic| exact fun _ _ _ _ _ _ => b1z fun _ => rfl)
local macro_rules | `(tactic| walk_at "b2") => `(tactic| exact fun _ _ _ _ _ _ => b2z fun _ _ => rfl)
local macro_rules | `(tactic| walk_at "b3") => `(tactic| exact fun _ _ _ _ _ _ => b3z fun _ _ _ => rfl)
local macro_rules | `(tactic| walk_at "b4") => `(tactic| exact fun _ _ _ _ _ _ => b4z fun _ _ _ _ => rfl)
abbrev ζa:=PySem.W.Frag
abbrev ζb:=@List.mem_cons_of_mem
abbrev ζc:=@List.length_map
abbrev ζd:=@PySem.Heap.get?_push_of_some
abbrev ζe:=@List.getElem?_eq_getElem
abbrev ζf:=@List.getD_eq_getElem?_getD
abbrev ζg:=@List.getElem?_eq_some_iff
abbrev ζh:=@List.getElem?_set_self
abbrev ζi:=@List.mem_cons_self
abbrev ζj:=@List.getElem?_map
abbrev ζk:=@List.mem_of_getElem?
abbrev ζl:=@PySem.Heap.lt_size
abbrev ζm:=@List.getElem?_set_ne
abbrev ζn:=@List.mem_map
abbrev ζo:=@PySem.Heap.get?_push_size
abbrev ζp:=@Nat.le_refl
abbrev ζq:=@List.mem_cons
abbrev ζr:=@List.length_append
abbrev ζs:=@List.mem_singleton
abbrev ζt:=@Nat.ne_of_lt
abbrev ζu:=@List.mem_append
abbrev ζv:=@Bool.false_ne_true
abbrev ζw:=@List.mem_append_right
abbrev ζx:=@List.append_nil
abbrev ζy:=@List.mem_append_left
abbrev ζz:=@List.mem_or_eq_of_mem_set
abbrev ζA:=@List.length_set
abbrev ζB:=@PySem.F.plainAttrs_list
abbrev ζC:=@Nat.lt_of_lt_of_le
abbrev ζD:=@Option.some.inj
abbrev ζE:=@List.size_toArray
abbrev ζF:=@List.map_append
abbrev ζG:=@List.length_range
abbrev ζH:=@Int.toNat_natCast
abbrev ζI:=@List.mem_iff_getElem?
abbrev ζJ:=@PySem.Heap.get?_update_self
abbrev ζK:=@List.length_pos_iff
abbrev ζL:=@List.length_take
abbrev ζM:=@List.all_eq_true
abbrev ζN:=@List.length_replicate
abbrev ζO:=@List.take_of_length_le
abbrev ζP:=@List.map_map
abbrev ζQ:=@List.mem_filter
abbrev ζR:=@Bool.and_false
abbrev ζS:=@PySem.Heap.size_push
abbrev ζT:=@List.getElem?_eq_none
abbrev ζU:=@List.length_dropLast
abbrev ζV:=@PySem.F.type_list_append
abbrev ζW:=@PySem.F.slot_list_append
abbrev ζX:=@PySem.Heap.get?_update_other
abbrev ζY:=@Array.length_toList
abbrev ζZ:=@List.length_cons
abbrev ζ0:=@Array.getElem?_toList
abbrev ζ1:=@List.mem_range
abbrev ζ2:=@List.length_drop
abbrev ζ3:=@Bool.and_eq_true
abbrev ζ4:=@List.mem_filterMap
abbrev ζ5:=@List.replicate_succ
abbrev ζ6:=@Nat.ne_of_gt
abbrev ζ7:=@Nat.le_trans
abbrev ζ8:=@List.take_append_drop
abbrev ζ9:=@List.idxOf_lt_length_iff
abbrev ξa:=@Nat.zero_le
abbrev ξb:=@Array.getElem?_eq_some_iff
abbrev ξc:=@Array.getElem?_eq_getElem
abbrev ξd:=@Int.emod_nonneg
abbrev ξe:=@List.map_replicate
abbrev ξf:=@Int.emod_lt_of_pos
abbrev ξg:=@List.lookup_cons
abbrev ξh:=@List.any_eq_true
abbrev ξi:=@Nat.lt_irrefl
abbrev ξj:=@List.getElem?_replicate
abbrev ξk:=@Nat.lt_succ_of_lt
abbrev ξl:=@List.reverse_cons
abbrev ξm:=@List.nodup_append
abbrev ξn:=@List.nodup_cons
abbrev ξo:=@List.map_congr_left
abbrev ξp:=@List.getElem?_append_right
abbrev ξq:=@List.map_cons
abbrev ξr:=@List.getElem?_zip_eq_some
abbrev ξs:=@Option.isSome_iff_exists
abbrev ξt:=@List.flatten_cons
abbrev ξu:=@Nat.le_succ
abbrev ξv:=@List.getElem_of_mem
abbrev ξw:=@List.getElem?_range
abbrev ξx:=@List.mem_iff_getElem
abbrev ξy:=@List.getElem?_append_left
abbrev ξz:=@Bool.false_and
abbrev ξA:=@Nat.zero_lt_succ
abbrev ξB:=@Nat.succ_lt_succ
abbrev ξC:=@Nat.le_add_right
abbrev ξD:=@List.take_length
abbrev ξE:=@List.length_reverse
abbrev ξF:=@List.map_id'
abbrev ξG:=@List.eq_of_mem_replicate
abbrev ξH:=@List.pairwise_cons
abbrev ξI:=@Option.map_eq_some_iff
abbrev ξJ:=@List.ext_getElem?
abbrev ξK:=@List.eraseIdx_eq_take_drop_succ
abbrev ξL:=@List.perm_middle
abbrev ξM:=@List.getElem_mem
abbrev ξN:=@List.map_const'
abbrev ξO:=@Int.natCast_add
abbrev ξP:=@Bool.eq_iff_iff
abbrev ξQ:=@PySem.F.excBase_ValueError
abbrev ξR:=@List.map_set
abbrev ξS:=@PySem.Heap.get?_none_of_le
abbrev ξT:=@Array.append_assoc
abbrev ξU:=@List.drop_eq_getElem_cons
abbrev ξV:=@Nat.not_lt
abbrev ξW:=@List.take_add_one
abbrev ξX:=@List.pairwise_map
abbrev ξY:=@List.getElem?_take_of_lt
abbrev ξZ:=@List.append_assoc
abbrev ξ0:=@Bool.eq_false_iff
abbrev ξ1:=@Option.bind_eq_some_iff
abbrev ξ2:=@Nat.lt_succ_self
abbrev ξ3:=@Option.map_eq_none_iff
abbrev ξ4:=@List.pairwise_lt_range
abbrev ξ5:=@List.length_pos_of_mem
abbrev ξ6:=@Nat.min_eq_left
abbrev ξ7:=@Int.natCast_mul
abbrev υN (l:List PySem.Str):Prop:=l.Nodup
abbrev AA:=@PySem.wpAny_bind
abbrev AB:=@PySem.wpAny_pure
abbrev AC:=@PySem.PassesOwn.never
abbrev AD:=PySem.PyData
abbrev AE:=List Int
abbrev AF:=List Nat
abbrev AG:=List AD
abbrev AH:=List AE
abbrev AI:=List AF
abbrev AJ:=List PySem.Str
abbrev AK:=List PySem.Value
abbrev AL:=List (PySem.Addr×PySem.Obj)
abbrev AM:=PySem.Value→PySem.Shared→Prop
abbrev AN:=PySem.Str→Option PySem.Value
local macro_rules | `(∅) => `(by walk_at "ev")
local macro_rules | `(⋯) => `(by omega)
local macro_rules | `(#[0]) => `(by walk_at "sc")
local macro_rules | `(#[1]) => `(by walk_at "gc")
local macro_rules | `(#[2]) => `(by decide)
namespace L2
open PySem PySem.Spec PyProof.Rows
abbrev Key:=Sum Int Str
def zcL:Key→Value→Bool
 | .inl k,v=>Value.isInt k v
 | .inr x,v=>Value.isStrOf x v
def keyH(w:World):Key→Int
 | .inl k=>hashInt k
 | .inr x=>hashStr w x
theorem yK:∀{k:Key} {v:Value},zcL k v=true→(∃i t,k=Sum.inl i∧v=Value.int i t)∨(∃x t,k=Sum.inr x∧v=Value.str x t)
 | .inl i,v,h=>by
  obtain⟨t,e⟩:=Value.isInt_shape (k:=i) (v:=v) h;exact .inl ⟨i,t,rfl,e⟩
 | .inr x,v,h=>by
  obtain⟨t,e⟩:=Value.isStrOf_shape (x:=x) (v:=v) h;exact .inr ⟨x,t,rfl,e⟩
theorem zdy(a b:Int):decide ((Sum.inl a:Key)=Sum.inl b)=(a==b):=by
 by_cases e:a=b
 ·subst e;simp
 ·have h:¬(Sum.inl a:Key)=Sum.inl b:=λq=>e (Sum.inl.inj q);rw[decide_eq_false h];exact(beq_eq_false_iff_ne.mpr e).symm
theorem zdv(a b:Str):decide ((Sum.inr a:Key)=Sum.inr b)=decide (a=b):=by
 by_cases e:a=b
 ·subst e;simp
 ·have h:¬(Sum.inr a:Key)=Sum.inr b:=λq=>e (Sum.inr.inj q);rw[decide_eq_false h,decide_eq_false e]
theorem zdx(a:Int)(b:Str):decide ((Sum.inl a:Key)=Sum.inr b)=false:=decide_eq_false (λq=>nomatch q)
theorem zdw(a:Str)(b:Int):decide ((Sum.inr a:Key)=Sum.inl b)=false:=decide_eq_false (λq=>nomatch q)
def UG(prog:Program)(w:World):PySem.KeyKind prog w Key where
 is:=zcL
 hash:=keyH w
 inj:=λv a b ha hb=>by
  rcases yK ha with⟨i,t,rfl,rfl⟩|⟨x,t,rfl,rfl⟩
  ·rcases yK hb with⟨j,u,rfl,e⟩|⟨y,u,rfl,e⟩
   ·injection e with e1 _;rw[e1]
   ·exact nomatch e
  ·rcases yK hb with⟨j,u,rfl,e⟩|⟨y,u,rfl,e⟩
   ·exact nomatch e
   ·injection e with e1 _;rw[e1]
 byValue:=λk v h=>by
  rcases yK h with⟨i,t,rfl,rfl⟩|⟨x,t,rfl,rfl⟩<;>rfl
 pyHash:=λhv h=>by
  rcases yK hv with⟨i,t,rfl,rfl⟩|⟨x,t,rfl,rfl⟩
  ·exact wpAny_pyHash_int h
  ·exact wpAny_pyHash_str h
 eqBool:=λhu hv h=>by
  rcases yK hu with⟨i,t,rfl,rfl⟩|⟨x,t,rfl,rfl⟩
  ·rcases yK hv with⟨j,u,rfl,rfl⟩|⟨y,u,rfl,rfl⟩
   ·rw[zdy]at h;exact wpAny_eqBool_int h
   ·rw[zdx]at h;exact SeqAt.EqAt.int_str i t y u _ _ _ _ h
  ·rcases yK hv with⟨j,u,rfl,rfl⟩|⟨y,u,rfl,rfl⟩
   ·rw[zdw]at h;exact SeqAt.EqAt.str_int x t j u _ _ _ _ h
   ·rw[zdv]at h;exact wpAny_eqBool_str h
 «strs»:=λk x t v h=>by
  rcases yK h with⟨i,u,rfl,e⟩|⟨y,u,rfl,e⟩
  ·exact nomatch e
  ·injection e with e1 _;subst e1;cases v<;>rfl
inductive V where
 | non|bl (b:Bool)|int (i:Int)|str (x:Str)|byt (b:Array UInt8)|flt (b:UInt64)|ref (a:Addr)|ty (n:String)
 deriving DecidableEq
def RelV:V→Value→Prop
 | .non,u=>u=Value.none
 | .bl b,u=>u=Value.bool b
 | .int i,u=>∃t,u=Value.int i t
 | .str x,u=>∃t,u=Value.str x t
 | .byt b,u=>∃t,u=Value.bytes b t
 | .flt b,u=>∃t,u=Value.float b t
 | .ref a,u=>u=Value.ref a
 | .ty n,u=>u=Value.type n
abbrev Vals:List V→AK→Prop:=Paired RelV
theorem Vals.length{xs:List V}{us:AK}(r:Vals xs us):xs.length=us.length:=Paired.length r
theorem Vals.get:∀{xs:List V} {us:AK} {i:Nat} {x:V},Vals xs us→xs[i]?=some x→∃u,us[i]?=some u∧RelV x u
 | _,_,_,_,.nil,e=>by simp at e
 | _,_,0,_,.cons r _,e=>by simp at e;subst e;exact⟨_,rfl,r⟩
 | _,_,i+1,x,.cons _ t,e=>by
  obtain⟨u,a,b⟩:=Vals.get (i:=i) (x:=x) t (by simpa using e);exact⟨u,by simpa using a,b⟩
theorem Vals.set{x:V}{u:Value}(r:RelV x u):∀{xs:List V} {us:AK} (i:Nat),Vals xs us→Vals (xs.set i x) (us.set i u)
 | _,_,_,.nil=>.nil
 | _,_,0,.cons _ t=>.cons r t
 | _,_,i+1,.cons q t=>.cons q (Vals.set r i t)
theorem Vals.append:∀{xs ys:List V} {us ws:AK},Vals xs us→Vals ys ws→Vals (xs++ys) (us++ws)
 | _,_,_,_,.nil,s=>s
 | _,_,_,_,.cons r t,s=>.cons r (Vals.append t s)
theorem Vals.take:∀{xs:List V} {us:AK} (n:Nat),Vals xs us→Vals (xs.take n) (us.take n)
 | _,_,0,_=>.nil
 | _,_,_+1,.nil=>.nil
 | _,_,n+1,.cons r t=>.cons r (Vals.take n t)
theorem Vals.drop:∀{xs:List V} {us:AK} (n:Nat),Vals xs us→Vals (xs.drop n) (us.drop n)
 | _,_,0,r=>r
 | _,_,_+1,.nil=>.nil
 | _,_,n+1,.cons _ t=>Vals.drop n t
def RelO:Option V→Option Value→Prop
 | some v,some u=>RelV v u
 | none,none=>True
 | _,_=>False
def KV{κ:Type}:List (κ×V)→List (κ×Value)→Prop:=Paired λ(p:κ×V) (q:κ×Value)=>p.1=q.1∧RelV p.2 q.2
def kV:Key→V
 | .inl i=>.int i
 | .inr x=>.str x
inductive HO where
 | lst (xs:List V)
 | tup (xs:List V)
 | dK (kvs:List (Key×V))|dT (kvs:List (List Key×V))
 | set (S:Int→Bool) (n:Nat)
 | ins (C dx:Addr) (fs:List (Str×V))
 | own (x:Addr)
 | xd (fs:List (Str×V))
 | met (f x:Addr)
 | rng (lo hi:Int)
 | frz (o:Obj) (u:HO)
 | tbl (ps:Array Value)
 | ext (φ:Heap→Prop)
abbrev Hp:=Addr→Option HO
def upd(H:Hp)(a:Addr)(o:HO):Hp:=λb=>if b=a then some o else H b
theorem zm{H:Hp}{a:Addr}{o:HO}:upd H a o a=some o:=by unfold upd;rw[if_pos rfl]
theorem zk{H:Hp}{a b:Addr}{o:HO}(h:b≠a):upd H a o b=H b:=by unfold upd;rw[if_neg h]
theorem Xh{H:Hp}{a b:Addr}{o u:HO}(h:H a=some o)(h':H b=some u)(d:o≠u):a≠b:=by
 intro e;subst e;rw[h]at h';exact d (ζD h')
theorem zt{H:Hp}{a b:Addr}{o:HO}(h:H a=some o)(h':H b=none):a≠b:=by
 intro e;subst e;rw[h]at h';cases h'
def zen(H:Hp)(b:Addr)(ys:List V):Prop:=H b=some (.tup ys)∨∃o:Obj,(∀v,o.data≠.cell v)∧H b=some (.frz o (.tup ys))
def tagQ(ps:Array Value):Str:=match(ps[0]?:Option Value)with|some (.str q _)=>q|_ => ""
section
variable (P:Program)(w:World)
def yN(H:Hp)(h:Heap)(a:Addr):HO→Prop
 | .lst xs=>xs.length≤sizeLine∧∃(its:AK) (n:Nat),Vals xs its∧h.get? a=some {cls:=.type "list", data:=.seq its.toArray n}
 | .tup xs=>xs.length≤sizeLine∧∃its:AK,Vals xs its∧IsTup h a its.toArray
 | .dK kvs=>kvs.length≤sizeLine∧(a==sysModules)=false∧∃vs,KV kvs vs∧h.DictOf (UG P w) a vs
 | .dT kvs=>kvs.length≤sizeLine∧(a==sysModules)=false∧∃xs:List (List Key×Addr×Value),
   Paired (λ(p:List Key×V) (q:List Key×Addr×Value)=>p.1=q.1∧zen H q.2.1 (p.1.map kV)∧RelV p.2 q.2.2) kvs xs∧
   ∃o es ep,h.get? a=some o∧o.ExactDict∧o.data=.dict es ep∧es.toList=xs.map (entryOfKey (tupleKind (UG P w)))∧(xs.map (·.1)).Nodup
 | .set S n=>h.SetOf (intKind P w) a S n
 | .ins C dx fs=>H dx=some (.own a)∧fs.length≤1000∧dx≠a∧h.get? a=some (PySem.W.instObj C dx)∧
   ∃mA,h.Ns1 dx mA∧(∀f,RelO (fs.lookup f) (mA f))∧PySem.Within mA (fs.map (·.1))
 | .own _=>∃o,h.get? a=some o
 | .xd fs=>∃mA,h.Ns1 a mA∧∀f,RelO (fs.lookup f) (mA f)
 | .rng lo hi=>∃t u v,h.get? a=some {cls:=.type "range", data:=.fields #[.int lo t,.int hi u,.int 1 v]}
 | .frz o u=>h.get? a=some o∧yN H h a u
 | .tbl ps=>∃vs:Array Value,h.get? a=some (PySem.W.tabObj vs)∧TriplesOk vs.toList∧∀p v,codeAmong p vs.toList=some v→∃b o fs t,v=.ref b∧H b=some (.frz o (.ext λ_=>True))∧o.data=.fields fs∧fs[1]?=some (.str (tagQ ps) t)
 | .met f x=>h.get? a=some (PySem.W.methodObj (.ref f) (.ref x))
 | .ext φ=>φ h∧(∃o,h.get? a=some o)∧∀h1 h2:Heap,φ h1→(∀o,h1.get? a=some o→h2.get? a=some o)→φ h2
def HOk(H:Hp)(h:Heap):Prop:=∀a o,H a=some o→yN P w H h a o
end
section
variable {P:Program}{w:World}{H H':Hp}{h h':Heap}{a:Addr}{o:HO}
theorem yN.lt(x:yN P w H h a o):a<h.objs.size:=by
 cases o with
 | lst xs=>obtain⟨_,_,_,_,e⟩:=x;exact ζl e
 | tup xs=>obtain⟨_,_,_,p⟩:=x;exact p.lt
 | dK kvs=>obtain⟨_,_,_,_,o,_,_,e,_⟩:=x;exact ζl e
 | dT kvs=>obtain⟨_,_,_,_,o,_,_,e,_⟩:=x;exact ζl e
 | set S n=>obtain⟨o,_,_,_,e,_⟩:=x;exact ζl e
 | ins C dx fs=>obtain⟨_,_,_,e,_⟩:=x;exact ζl e
 | own y=>obtain⟨_,e⟩:=x;exact ζl e
 | xd fs=>obtain⟨_,⟨_,_,_,e,_⟩,_⟩:=x;exact ζl e
 | rng lo hi=>obtain⟨_,_,_,e⟩:=x;exact ζl e
 | frz ob u=>obtain⟨e,_⟩:=x;exact ζl e
 | tbl ps=>obtain⟨_,e,_⟩:=x;exact ζl e
 | met f y=>exact ζl (show h.get? a=some _ from x)
 | ext φ=>obtain⟨_,⟨_,e⟩,_⟩:=x;exact ζl e
theorem Paired.mapP{e g:Type}{F G:e→g→Prop}:∀{c:List e} {d:List g},Paired F c d→(∀a b,F a b→G a b)→Paired G c d
 | _,_,.nil,_=>.nil
 | _,_,.cons r t,f=>.cons (f _ _ r) (Paired.mapP t f)
theorem yN.stay(x:yN P w H h a o)(k:∀b u,(b=a∨H b=some (.own a))→h.get? b=some u→h'.get? b=some u)
  (B:∀b,H b=some (.own a)→H' b=some (.own a)) (D:∀b xs,H b=some (.tup xs)→H' b=some (.tup xs))
  (s:∀b o u,H b=some (.frz o u)→(∀v,o.data≠.cell v)→H' b=some (.frz o u):=by first|exact λ_ _ _ q _=>q|(intro b o u z _;rw[zk (zt z (by assumption))];exact z)|(intro b o u z _;rw[zk (λe=>by subst e;simp_all [Mut])];exact z)):yN P w H' h' a o:=by
 induction o with
 | lst xs=>obtain⟨z,j,n,r,e⟩:=x;exact⟨z,j,n,r,k _ _ (.inl rfl) e⟩
 | tup xs=>obtain⟨z,j,r,ob,e,c⟩:=x;exact⟨z,j,r,ob,k _ _ (.inl rfl) e,c⟩
 | dK kvs=>obtain⟨z,y,vs,r,ob,g,i,e,c⟩:=x;exact⟨z,y,vs,r,ob,g,i,k _ _ (.inl rfl) e,c⟩
 | dT kvs =>
  obtain⟨z,y,xs,r,ob,g,i,e,c⟩:=x;exact⟨z,y,xs,Paired.mapP r λp q z=>⟨z.1,z.2.1.imp (D _ _) λ⟨o,n,y⟩=>⟨o,n,s _ _ _ y n⟩,z.2.2⟩,ob,g,i,k _ _ (.inl rfl) e,c⟩
 | set S n=>obtain⟨ob,g,i,t,e,c⟩:=x;exact⟨ob,g,i,t,k _ _ (.inl rfl) e,c⟩
 | ins C dx fs =>
  obtain⟨d,z,ne,e,l,⟨od,g,i,m,c⟩,r⟩:=x;exact⟨B _ d,z,ne,k _ _ (.inl rfl) e,l,⟨od,g,i,k _ _ (.inr d) m,c⟩,r⟩
 | own y=>obtain⟨ob,e⟩:=x;exact⟨ob,k _ _ (.inl rfl) e⟩
 | xd fs=>obtain⟨l,⟨od,g,i,e,c⟩,r⟩:=x;exact⟨l,⟨od,g,i,k _ _ (.inl rfl) e,c⟩,r⟩
 | rng lo hi=>obtain⟨t,u,v,e⟩:=x;exact⟨t,u,v,k _ _ (.inl rfl) e⟩
 | frz ob u E=>obtain⟨e,q⟩:=x;exact⟨k _ _ (.inl rfl) e,E q⟩
 | tbl ps=>obtain⟨vs,e,t,z⟩:=x;exact⟨vs,k _ _ (.inl rfl) e,t,λp v y=>let⟨b,o,fs,t,F,m,A⟩:=z p v y;⟨b,o,fs,t,F,s _ _ _ m (λv y=>by rw[A.1]at y;cases y),A⟩⟩
 | met f y =>
  have e:h.get? a=some (PySem.W.methodObj (.ref f) (.ref y)):=x;show h'.get? a=some (PySem.W.methodObj (.ref f) (.ref y));exact k a _ (.inl rfl) e
 | ext φ=>obtain⟨p,⟨o,e⟩,st⟩:=x;exact⟨st _ _ p λo q=>k _ _ (.inl rfl) q,⟨o,k _ _ (.inl rfl) e⟩,st⟩
theorem HOk.lt(x:HOk P w H h)(e:H a=some o):a<h.objs.size:=(x a o e).lt
theorem HOk.fresh(x:HOk P w H h)(e:h.objs.size≤a):H a=none:=by
 cases q:H a with
 | none=>rfl
 | some u=>exact absurd (ζC (x.lt q) e) (ξi _)
theorem HOk.kept(x:HOk P w H h)(k:∀b u,h.get? b=some u→h'.get? b=some u):HOk P w H h':=λa o e =>
 (x a o e).stay (λb u _ q=>k b u q) (λ_ q=>q) λ_ _ q=>q
theorem HOk.laid(x:HOk P w H h)(k:∀b u,h.get? b=some u→h'.get? b=some u)(hp:h.objs.size≤a)(new:yN P w (upd H a o) h' a o):HOk P w (upd H a o) h':=λb u e=>by
 have d:=x.fresh hp;by_cases f:b=a
 ·subst f;rw[zm]at e;cases e;exact new
 ·rw[zk f]at e;exact(x b u e).stay (λc v _ q=>k c v q) (λc q=>by rw[zk (zt q d)];exact q) λc xs q=>by rw[zk (zt q d)];exact q
end
def Rd(H:Hp)(a:Addr)(u:HO):Prop:=H a=some u∨∃o,H a=some (.frz o u)
theorem Rd.ok{P:Program}{w:World}{H:Hp}{h:Heap}{a:Addr}{u:HO}(r:Rd H a u)(x:HOk P w H h):yN P w H h a u:=by
 rcases r with r|⟨o,r⟩
 ·exact x a u r
 ·obtain⟨_,q⟩:=x a _ r;exact q
def Mut:Option HO→Prop
 | some (.lst _)=>True
 | some (.dK _)=>True
 | some (.dT _)=>True
 | some (.set _ _)=>True
 | some (.ins _ _ _)=>True
 | some (.ext _)=>True
 | _=>False
section
variable {P:Program}{w:World}{H:Hp}{h h':Heap}{x e:Addr}{o':HO}
theorem HOk.write(ok:HOk P w H h)(g:Mut (H x))(m:e=x∨H e=some (.own x))(k:∀b u,b≠e→h.get? b=some u→h'.get? b=some u)(l:∃u,h'.get? e=some u)
  (new:yN P w (upd H x o') h' x o'):HOk P w (upd H x o') h':=λb u q=>by
 have d:∀c y,H c=some (.own y)→c≠x:=λc y r z=>by subst z;rw[r]at g;exact g
 have f:∀c xs,H c=some (.tup xs)→c≠x:=λc xs r z=>by subst z;rw[r]at g;exact g
 by_cases i:b=x
 ·subst i;rw[zm]at q;cases q;exact new
 ·rw[zk i]at q;by_cases a:b=e
  ·have n:H b=some (.own x):=by
    rcases m with z|z
    ·exact absurd (a.trans z) i
    ·rw[a];exact z
   rw[q]at n;cases n;obtain⟨v,o⟩:=l;exact⟨v,by rw[a];exact o⟩
  ·refine(ok b u q).stay (λc v j r=>k c v ?_ r) (λc r=>by rw[zk (d c b r)];exact r) λc xs r=>by rw[zk (f c xs r)];exact r
   rcases j with rfl|j
   ·exact a
   ·rintro rfl;rcases m with z|z
    ·exact d c b j z
    ·rw[j]at z;cases z;exact i rfl
end
structure Un(fs ex:List Addr)(H H':Hp)(h h':Heap):Prop where
 keep:∀b o,h.get? b=some o→H b=none→b∉fs→b∉ex→h'.get? b=some o
 slot:∀b o,h.get? b=some o→H b=none→b∈fs→b∉ex→∃sl,h'.get? b=some {o with slots:=sl}
 free:∀b o,h.get? b=some o→H b=none→b∉ex→H' b=none
 there:∀b o,h.get? b=some o→b∉ex→∃o',h'.get? b=some o'
 tups:∀b xs,H b=some (.tup xs)→H' b=some (.tup xs)
 frzs:∀b o u,H b=some (.frz o u)→H' b=some (.frz o u)
 tbls:∀b ps,H b=some (.tbl ps)→∃more,H' b=some (.tbl (ps++more))
section
variable {fs fs' ex ex':List Addr}{H H1 H2:Hp}{h h1 h2 h':Heap}{a x e:Addr}{o:HO}
theorem Un.any(u:Un fs ex H H1 h h1){b:Addr}{ob:Obj}(q:h.get? b=some ob)(n:H b=none)(a:b∉ex):∃sl,h1.get? b=some {ob with slots:=sl}:=by
 by_cases c:b∈fs
 ·exact u.slot b ob q n c a
 ·exact⟨ob.slots,u.keep b ob q n c a⟩
theorem Un.kept(k:∀b u,h.get? b=some u→h'.get? b=some u):Un fs ex H H h h':=
 ⟨λb ob q _ _ _=>k b ob q,λb ob q _ _ _=>⟨ob.slots,k b ob q⟩,λ_ _ _ n _=>n,λb ob q _=>⟨ob,k b ob q⟩,λ_ _ q=>q,λ_ _ _ q=>q,λ_ ps q=>⟨#[],by rw[q];simp⟩⟩
theorem Un.refl:Un fs ex H H h h:=Un.kept λ_ _ q=>q
theorem Un.laid(k:∀b u,h.get? b=some u→h'.get? b=some u)(hp:h.objs.size≤a)(c:H a=none):Un fs ex H (upd H a o) h h' where
 keep:=λb u q _ _ _=>k b u q
 slot:=λb u q _ _ _=>⟨u.slots,k b u q⟩
 free:=λb u q n _=>by rw[zk (ζt (ζC (ζl q) hp))];exact n
 there:=λb u q _=>⟨u,k b u q⟩
 tups:=λb xs q=>by rw[zk (zt q c)];exact q
 frzs:=λb u xs q=>by rw[zk (zt q c)];exact q
 tbls:=λb ps q=>⟨#[],by rw[zk (zt q c),q];simp⟩
theorem Un.write(c:Mut (H x))(j:e=x∨H e=some (.own x))(k:∀b u,b≠e→h.get? b=some u→h'.get? b=some u)(d:∃u,h'.get? e=some u):Un fs ex H (upd H x o) h h':=by
 have g:∀b,H b=none→b≠x:=λb n z=>by subst z;rw[n]at c;exact c
 have i:∀b,H b=none→b≠e:=λb n z=>by
  subst z;rcases j with r|r
  ·exact g b n r
  ·rw[n]at r;cases r
 have f:∀b u,H b=some u→¬Mut (some u)→b≠x:=λb u q l z=>by subst z;rw[q]at c;exact l c
 refine⟨λb u q n _ _=>k b u (i b n) q,λb u q n _ _=>⟨u.slots,k b u (i b n) q⟩,λb u q n _=>by rw[zk (g b n)];exact n,λb u q _=>?_,
  λb xs q=>by rw[zk (f b _ q λz=>z)];exact q,λb u xs q=>by rw[zk (f b _ q λz=>z)];exact q,λb ps q=>⟨#[],by rw[zk (f b _ q λz=>z),q];simp⟩⟩
 by_cases a:b=e
 ·subst a;exact d
 ·exact⟨u,k b u a q⟩
end
def trk(h:Heap)(H:Hp):List Addr:=(List.range h.objs.size).filter λa=>(H a).isSome
def hidT(h:Heap)(H:Hp):Heap:=PySem.W.hideAll h (trk h H)
theorem Tu(h:Heap)(H:Hp):(hidT h H).objs.size=h.objs.size:=PySem.W.hideAll_size _ _
theorem zal{h:Heap}{H:Hp}{b:Addr}{o:Obj}(e:h.get? b=some o)(n:H b=none):(hidT h H).get? b=some o:=
 PySem.W.hideAll_get _ e λa=>by
  have q:(H b).isSome=true:=(ζQ.mp a).2;rw[n]at q;simp at q
theorem zbM{h:Heap}{H:Hp}{b:Addr}{o:Obj}(e:(hidT h H).get? b=some o):h.get? b=some o∧H b=none:=by
 have a:h.get? b=some o:=PySem.W.of_hideAll (trk h H) e;refine⟨a,?_⟩
 cases q:H b with
 | none=>rfl
 | some x =>
  have c:b∈trk h H:=List.mem_filter.mpr ⟨List.mem_range.mpr (Heap.lt_size a),by simp[q]⟩;have z:(hidT h H).get? b=none:=PySem.W.hideAll_none (trk h H) c;rw[z]at e;cases e
def zab:AJ:=["above","beneath","above_in","clumps","reach","least_parting","least_set","why_not"]
def zco(o:Obj):Option (Addr×Str):=match o.cls,o.data with
 | .type "code", .fields vs=>(match(vs[1]?:Option Value),(vs[11]?:Option Value)with
  | some (.str q _),some (.ref P)=>if zab.contains q then some (P,q ++ ".<locals>.<lambda>")else none
  | _,_=>none)
 | _,_=>none
def yT(K:ζa):List (Addr×Str):=K.filterMap λp=>(K.lookup p.1).bind zco
def XG(K:ζa):Bool:=(yT K).all λp=>(K.lookup p.1).isNone&&(yT K).all λq=>decide (p.1=q.1→p.2=q.2)
def TbOk(K:ζa)(H:Hp):Prop:=∀p∈yT K,∃t more,H p.1=some (.tbl (#[.str p.2 t]++more))
theorem TbOk.un{K:ζa}{fs ex:List Addr}{H H':Hp}{h h':Heap}(t:TbOk K H)(u:Un fs ex H H' h h'):TbOk K H':=λp hp=>by
 obtain⟨k,m,e⟩:=t p hp;obtain⟨a,b⟩:=u.tbls _ _ e;exact⟨k,m++a,by rw[b,ξT]⟩
structure Mod(K:ζa)(mg:AN)(base:Heap):Prop where
 kin:K.In base
 glob:base.Ns mainGlobals mg
 blt:∃mb,base.Ns builtinsNs mb∧∀x:Str,x ≠ "__name__"→mb x=bootBuiltins x
 nolimit:base.NoLimit
 bm:∃bm ob,mg "__builtins__" = some (.ref bm)∧bm≠builtinsNs∧base.get? bm=some ob∧ob.cls=.type "module"∧ob.dict=some builtinsNs∧ob.data=.plain
structure Cx where
 prog:Program
 w:World
 K:ζa
 mg:Str→Option Value
 base:Heap
 A:Around
 N:AJ
 s₀:Shared
 H₀:Hp
 env:Env
 outer:List Env
 stack:List Env
 ex:List Addr
 fn:Str→Bool
 calm:Bool
 pn:AL
 xe:Value→Shared→Prop
def frs(l:List Env):List Addr:=l.filterMap (·.frame)
abbrev Cx.fs(X:Cx):List Addr:=frs X.outer
def Vis(sc:Scope)(x:Str):Prop:=sc.names.lookup x=some .local∨sc.names.lookup x=some .cell∨sc.names.lookup x=some .free
def Loc(sc:Scope)(x:Str):Prop:=sc.names.lookup x=some .local∨sc.names.lookup x=some .cell
def Look(env:Env)(h:Heap)(m:AN)(x:Str)(u:Value):Prop:=
 (env.kindOf x=some .local∧m x=some u)∨((env.kindOf x=some .cell∨env.kindOf x=some .free)∧∃c,env.cells.lookup x=some c∧h.IsCell c (some u))
structure Cx.Ok(X:Cx):Prop where
 mod:Mod X.K X.mg X.base
 kind:X.env.scope.kind=.function
 glob:X.env.globals=mainGlobals
 blt:X.env.builtins=builtinsNs
 above:X.s₀.heap.objs.size≤X.env.locals
 inj:∀x y c,X.env.cells.lookup x=some c→X.env.cells.lookup y=some c→x=y
 has:∀x,(X.env.kindOf x=some .cell∨X.env.kindOf x=some .free)→∃c,X.env.cells.lookup x=some c
 cab:∀x c,X.fn x=true→X.env.cells.lookup x=some c→X.s₀.heap.objs.size≤c
 hd:X.calm=true→X.A.handled=none
 frames:X.A.frames=some X.stack
 stk:X.stack=X.outer∨(X.stack=X.env::X.outer∧X.env.frame=some X.env.locals)
 exf:∀b∈X.ex,b≠X.env.locals∧∀x c,X.env.cells.lookup x=some c→c≠b
 bs:∀b o,X.base.get? b=some o→X.s₀.heap.get? b=some o∧X.H₀ b=none
 bsz:X.base.objs.size≤X.s₀.heap.objs.size
 noex:∀b o,X.base.get? b=some o→b∉X.ex
 exfs:∀b∈X.ex,b∉X.fs
 funs:X.s₀.heap.FunFrames X.base X.outer
 frf:∀b∈X.fs,X.H₀ b=none
 tb:TbOk X.K X.H₀
structure Inv(X:Cx)(pins:AL)(σ:List (Option V))(H:Hp)(s:Shared):Prop where
 ok:X.Ok
 os:s.os=X.s₀.os
 bare:AllBare s.gens
 base:Un X.fs X.ex X.H₀ H X.s₀.heap s.heap
 loc:∃m,s.heap.Ns X.env.locals m∧∀(i:Nat) (x:Str) (v:V),X.N[i]?=some x→σ[i]?=some (some v)→Vis X.env.scope x→∃u,RelV v u∧Look X.env s.heap m x u
 cell:∀x c,X.env.cells.lookup x=some c→∃v,s.heap.IsCell c v
 free:H X.env.locals=none
 freeC:∀x c,X.env.cells.lookup x=some c→H c=none∨X.fn x=false∧∃o u,H c=some (.frz o u)
 pin:∀p∈X.pn++pins,s.heap.get? p.1=some p.2∧H p.1=none∧p.1≠X.env.locals∧p.1∉X.fs∧∀v,p.2.data≠.cell v
 hok:HOk X.prog X.w H s.heap
 len:σ.length=X.N.length
section
variable {X:Cx}{pins:AL}{σ:List (Option V)}{H H':Hp}{s:Shared}{h':Heap}
theorem Cx.Ok.nofr(ok:X.Ok){b:Addr}{o:Obj}(e:X.base.get? b=some o):b∉X.fs:=λa=>by
 have:=(ok.funs.mem a).1;rw[e]at this;cases this
theorem Inv.bs(I:Inv X pins σ H s):∀b o,X.base.get? b=some o→s.heap.get? b=some o∧H b=none:=λb o e =>
 ⟨I.base.keep b o (I.ok.bs b o e).1 (I.ok.bs b o e).2 (I.ok.nofr e) (I.ok.noex b o e),I.base.free b o (I.ok.bs b o e).1 (I.ok.bs b o e).2 (I.ok.noex b o e)⟩
theorem Inv.bk(I:Inv X pins σ H s):∀b o,X.base.get? b=some o→s.heap.get? b=some o:=λb o e=>(I.bs b o e).1
theorem Inv.mod(I:Inv X pins σ H s):Mod X.K X.mg X.base:=I.ok.mod
theorem Inv.kIn(I:Inv X pins σ H s):X.K.In s.heap:=I.ok.mod.kin.keeps I.bk
theorem Inv.lt(I:Inv X pins σ H s):X.env.locals<s.heap.objs.size:=let⟨_,a,_⟩:=I.loc;a.lt
theorem Inv.sz(I:Inv X pins σ H s):X.s₀.heap.objs.size≤s.heap.objs.size:=ζ7 I.ok.above (Nat.le_of_lt I.lt)
theorem Inv.nofs(I:Inv X pins σ H s){a:Addr}(h:s.heap.objs.size≤a):a∉X.fs:=λb=>by
 obtain⟨_,o,c,_⟩:=I.ok.funs.mem b;exact absurd (ζC (ζl c) (ζ7 I.sz h)) (ξi _)
theorem Inv.cne(I:Inv X pins σ H s):∀x c,X.env.cells.lookup x=some c→c≠X.env.locals:=λx c e z=>by
 obtain⟨v,o,d,hd⟩:=I.cell x c e;obtain⟨m,⟨o',f,g,a,b,_⟩,_⟩:=I.loc;rw[z,a]at d;cases d;rw[b]at hd;cases hd
theorem Inv.funs(I:Inv X pins σ H s):s.heap.FunFrames X.base X.outer:=by
 have all:∀(l:List Env),(∀b∈frs l,b∈X.fs)→X.s₀.heap.FunFrames X.base l→s.heap.FunFrames X.base l:=by
  intro l;induction l with
  | nil=>intro _ _;trivial
  | cons env r g =>
   intro f h;obtain⟨i,⟨L,o,a,j,k,hd⟩,m⟩:=h;have c:L∈X.fs:=f L (by unfold frs;rw[List.filterMap_cons,a];exact List.mem_cons_self);obtain⟨sl,e⟩:=I.base.slot L o k (I.ok.frf L c) c λz=>I.ok.exfs L z c;exact⟨i,⟨L,_,a,j,e,hd⟩,g (λb d=>f b (by unfold frs;rw[List.filterMap_cons,a];exact List.mem_cons_of_mem _ d)) m⟩
 exact all X.outer (λ_ d=>d) I.ok.funs
theorem Inv.stack(I:Inv X pins σ H s):s.heap.FunFrames X.base X.stack:=by
 rcases I.ok.stk with e|⟨e,a⟩
 ·rw[e];exact I.funs
 ·rw[e];obtain⟨m,b,_⟩:=I.loc;refine .cons (by rw[I.ok.kind];decide) a b ?_ I.funs;exact ξS (ζ7 I.ok.bsz I.ok.above)
theorem Inv.stkSub(I:Inv X pins σ H s):∀b∈frs X.stack,b∈X.env.locals::X.fs:=λb a=>by
 rcases I.ok.stk with e|⟨e,c⟩
 ·rw[e]at a;exact ζb _ a
 ·rw[e]at a;unfold frs at a;rw[List.filterMap_cons,c]at a;exact a
theorem Inv.stkFree(I:Inv X pins σ H s):∀b∈frs X.stack,H b=none:=λb a=>by
 rcases ζq.mp (I.stkSub b a)with e|a
 ·rw[e];exact I.free
 ·obtain⟨_,o,c,_⟩:=I.ok.funs.mem a;exact I.base.free b o c (I.ok.frf b a) λz=>I.ok.exfs b z a
theorem Inv.step{g':Array GenState}{t':Nat}{d':Drawn}{ch:List Addr}(I:Inv X pins σ H s)
  (f:∀b∈ch,(b∈X.ex∨X.s₀.heap.objs.size≤b)∧b≠X.env.locals∧(∀x c,X.env.cells.lookup x=some c→c≠b)∧∀p∈X.pn++pins,p.1≠b)
  (keep:∀b o,b≠X.env.locals→b∉X.fs→b∉ch→s.heap.get? b=some o→H b=none→h'.get? b=some o)
  (slot:∀b o,b≠X.env.locals→b∈X.fs→b∉ch→s.heap.get? b=some o→H b=none→∃sl,h'.get? b=some {o with slots:=sl}) (free:∀b o,b∉ch→s.heap.get? b=some o→H b=none→H' b=none)
  (there:∀b o,b∉ch→s.heap.get? b=some o→∃o',h'.get? b=some o')
  (tups:∀b xs,H b=some (.tup xs)→H' b=some (.tup xs)) (frzs:∀b o u,H b=some (.frz o u)→H' b=some (.frz o u)) (tbls:∀b ps,H b=some (.tbl ps)→∃more,H' b=some (.tbl (ps++more)))
  (ns:∀m,s.heap.Ns X.env.locals m→h'.Ns X.env.locals m) (hok:HOk X.prog X.w H' h') (M:AllBare g') :
  Inv X pins σ H' {s with heap:=h',gens:=g',drawn:=d',toks:=t'}:=by
 have C:∀b o,X.s₀.heap.get? b=some o→b≠X.env.locals:=λb o e=>ζt (ζC (ζl e) I.ok.above);have j:∀b o,X.s₀.heap.get? b=some o→b∉X.ex→b∉ch:=λb o e a y=>by
  rcases(f b y).1 with z|z
  ·exact a z
  ·exact absurd (ζC (ζl e) z) (ξi _)
 have g:∀x c,X.env.cells.lookup x=some c→∀v,s.heap.IsCell c v→h'.IsCell c v:=λx c e v ⟨o,A,hd⟩=>by
  have h:c∉ch:=λz=>(f c z).2.2.1 x c e rfl;rcases I.freeC x c e with B|⟨_,E,F,B⟩
  ·by_cases J:c∈X.fs
   ·obtain⟨sl,q⟩:=slot c o (I.cne x c e) J h A B;exact⟨_,q,hd⟩
   ·exact⟨o,keep c o (I.cne x c e) J h A B,hd⟩
  ·have K:=(I.hok c _ B).1;rw[A]at K;cases K;exact⟨o,(hok c _ (frzs c _ _ B)).1,hd⟩
 refine⟨I.ok,I.os,M,⟨λb o e n y a=>?_,λb o e n y a=>?_,λb o e n a=>?_,λb o e a=>?_,λb xs e=>tups b xs (I.base.tups b xs e),λb o xs e=>frzs b o xs (I.base.frzs b o xs e),λb ps e=>?_⟩,?_,λx c e=>?_,?_,λx c e=>?_,λp hp=>?_,hok,I.len⟩
 ·exact keep b o (C b o e) y (j b o e a) (I.base.keep b o e n y a) (I.base.free b o e n a)
 ·obtain⟨sl,t⟩:=I.base.slot b o e n y a;obtain⟨G,D⟩:=slot b _ (C b o e) y (j b o e a) t (I.base.free b o e n a);exact⟨G,D⟩
 ·obtain⟨o',t⟩:=I.base.there b o e a;exact free b o' (j b o e a) t (I.base.free b o e n a)
 ·obtain⟨o',t⟩:=I.base.there b o e a;exact there b o' (j b o e a) t
 ·obtain⟨N,t⟩:=I.base.tbls b ps e;obtain⟨O,D⟩:=tbls b _ t;exact⟨N++O,by rw[D,ξT]⟩
 ·obtain⟨m,B,P⟩:=I.loc;refine⟨m,ns m B,λi x v t D Q=>?_⟩
  obtain⟨u,r,l⟩:=P i x v t D Q;refine⟨u,r,?_⟩
  rcases l with l|⟨k,c,e,z⟩
  ·exact .inl l
  ·exact .inr ⟨k,c,e,g x c e _ z⟩
 ·obtain⟨v,z⟩:=I.cell x c e;exact⟨v,g x c e v z⟩
 ·obtain⟨m,⟨o,_,_,A,_⟩,_⟩:=I.loc;exact free _ o (λz=>(f _ z).2.1 rfl) A I.free
 ·obtain⟨v,o,A,hd⟩:=I.cell x c e;exact(I.freeC x c e).elim (λn=>.inl (free c o (λz=>(f c z).2.2.1 x c e rfl) A n)) λ⟨R,E,F,S⟩=>.inr ⟨R,E,F,frzs c E F S⟩
 ·obtain⟨e,n,ne,L,d⟩:=I.pin p hp;have h:p.1∉ch:=λz=>(f p.1 z).2.2.2 p hp rfl;exact⟨keep p.1 p.2 ne L h e n,free p.1 p.2 h e n,ne,L,d⟩
theorem Inv.un{t':Nat}(I:Inv X pins σ H s)(u:Un X.fs [] H H' s.heap h')(hok:HOk X.prog X.w H' h'):Inv X pins σ H' {s with heap:=h',toks:=t'}:=by
 obtain⟨m,⟨o,k,l,g,r⟩,_⟩:=id I.loc;obtain⟨sl,h⟩:=u.any g I.free (by simp);exact I.step (g':=s.gens) (d':=s.drawn) (ch:=[]) (λ_ z=>nomatch z) (λb o _ c _ e n=>u.keep b o e n c (by simp)) (λb o _ c _ e n=>u.slot b o e n c (by simp)) (λb o _ e n=>u.free b o e n (by simp)) (λb o _ e=>u.there b o e (by simp)) u.tups u.frzs u.tbls (λp i=>by
  obtain⟨o',d,f,a,j⟩:=i;rw[g]at a;cases a;exact⟨_,d,f,h,j⟩) hok I.bare
theorem Inv.call{g':Array GenState}{t':Nat}{d':Drawn}{ch:List Addr}(I:Inv X pins σ H s)(u:Un (frs X.stack) ch H H' s.heap h')(hok:HOk X.prog X.w H' h')(k:AllBare g')
  (d:∀b∈ch,(b∈X.ex∨X.s₀.heap.objs.size≤b)∧b≠X.env.locals∧(∀x c,X.env.cells.lookup x=some c→c≠b)∧∀p∈X.pn++pins,p.1≠b) :
  Inv X pins σ H' {s with heap:=h',gens:=g',drawn:=d',toks:=t'}:=by
 obtain⟨m,⟨o,v,y,j,r⟩,_⟩:=id I.loc;obtain⟨sl,g⟩:=u.any j I.free λz=>(d _ z).2.1 rfl;exact I.step (ch:=ch) d (λb o g l a e n=>u.keep b o e n (λz=>(ζq.mp (I.stkSub b z)).elim g l) a) (λb o _ _ a e n=>u.any e n a) (λb o a e n=>u.free b o e n a) (λb o a e=>u.there b o e a) u.tups u.frzs u.tbls (λA q=>by
  obtain⟨o',h,i,f,t⟩:=q;rw[j]at f;cases f;exact⟨_,h,i,g,t⟩) hok k
theorem Inv.turned{t':Nat}{it:Addr}(I:Inv X pins σ H s)(k:∀b o,b≠it→s.heap.get? b=some o→h'.get? b=some o)(g:H it=none)(f:it≠X.env.locals)
  (h:it∈X.ex∨X.s₀.heap.objs.size≤it) (i:∀x c,X.env.cells.lookup x=some c→c≠it) (j:∀p∈X.pn++pins,p.1≠it):Inv X pins σ H {s with heap:=h',toks:=t'}:=by
 have d:∀b u,H b=some u→b≠it:=λb u e z=>by rw[z,g]at e;cases e
 refine I.step (g':=s.gens) (d':=s.drawn) (ch:=[it]) (λb l=>?_) (λb o _ _ a e _=>k b o (λz=>a (by simp[z])) e) (λb o _ _ a e _=>⟨o.slots,k b o (λz=>a (by simp[z])) e⟩) (λ_ _ _ _ n=>n)
  (λb o a e=>⟨o,k b o (λz=>a (by simp[z])) e⟩) (λ_ _ e=>e) (λ_ _ _ e=>e) (λb ps e=>⟨#[],by rw[e];simp⟩) (λm t=>?_) (λb u e=>?_) I.bare
 ·have e:b=it:=by simpa using l
  subst e;exact⟨h,f,i,j⟩
 ·obtain⟨o,w,y,A,r⟩:=t;exact⟨o,w,y,k _ o (Ne.symm f) A,r⟩
 ·refine(I.hok b u e).stay (λc v a q=>k c v ?_ q) (λ_ q=>q) λ_ _ q=>q;rcases a with z|z
  ·rw[z];exact d b u e
  ·exact d c _ z
theorem Inv.tok(I:Inv X pins σ H s)(t:Nat):Inv X pins σ H {s with toks:=t}:=I.un (h':=s.heap) (t':=t) Un.refl I.hok
theorem Inv.kept{t':Nat}(I:Inv X pins σ H s)(k:∀b u,s.heap.get? b=some u→h'.get? b=some u):Inv X pins σ H {s with heap:=h',toks:=t'}:=I.un (Un.kept k) (I.hok.kept k)
theorem Inv.laid{a:Addr}{o:HO}{t':Nat}(I:Inv X pins σ H s)(k:∀b u,s.heap.get? b=some u→h'.get? b=some u)(hp:s.heap.objs.size≤a)(new:yN X.prog X.w (upd H a o) h' a o):
  Inv X pins σ (upd H a o) {s with heap:=h',toks:=t'}:=I.un (Un.laid k hp (I.hok.fresh hp)) (I.hok.laid k hp new)
theorem Inv.write{x e:Addr}{o:HO}{t':Nat}(I:Inv X pins σ H s)(c:Mut (H x))(d:e=x∨H e=some (.own x))(k:∀b u,b≠e→s.heap.get? b=some u→h'.get? b=some u)(a:∃u,h'.get? e=some u)
  (new:yN X.prog X.w (upd H x o) h' x o):Inv X pins σ (upd H x o) {s with heap:=h',toks:=t'}:=I.un (Un.write c d k a) (I.hok.write c d k a new)
theorem Inv.weak{σ':List (Option V)}(I:Inv X pins σ H s)(b:σ'.length=σ.length)(w:∀(i:Nat) v,σ'[i]?=some (some v)→σ[i]?=some (some v)):Inv X pins σ' H s:=
 ⟨I.ok,I.os,I.bare,I.base,let⟨m,c,a⟩:=I.loc;⟨m,c,λi x v d e f=>a i x v d (w i v e) f⟩,I.cell,I.free,I.freeC,I.pin,I.hok,b.trans I.len⟩
theorem Inv.pins_of{a:AL}(I:Inv X pins σ H s)(h:∀p∈a,s.heap.get? p.1=some p.2∧H p.1=none∧p.1≠X.env.locals∧p.1∉X.fs∧∀v,p.2.data≠.cell v):Inv X a σ H s:=
 ⟨I.ok,I.os,I.bare,I.base,I.loc,I.cell,I.free,I.freeC,λp hp=>(ζu.mp hp).elim (λz=>I.pin p (ζy _ z)) (h p),I.hok,I.len⟩
theorem Yp{N:AJ}(c:N.Nodup){i j:Nat}{x:Str}(a:N[i]?=some x)(b:N[j]?=some x):i=j:=by
 obtain⟨f,d⟩:=ζg.mp a;obtain⟨g,e⟩:=ζg.mp b;exact(List.getElem_inj c).mp (d.trans e.symm)
theorem Xc{M:Model}{A:Around}{E:AM}{i:Nat}{x:Str}{v:V}{u:Value}{Q:Unit→Shared→Prop}(I:Inv X pins σ H s)(hN:X.N.Nodup)(hi:X.N[i]?=some x)(B:Loc X.env.scope x)(r:RelV v u)
  (h:∀s',Inv X pins (σ.set i (some v)) H s'→(∃a,Heap.SameBut a s.heap s'.heap∧(a=X.env.locals∨X.env.cells.lookup x=some a))→Q () s') (hf:X.fn x=true∨X.env.scope.names.lookup x=some .local:=by first|exact .inl rfl|exact .inr rfl|assumption):wpAny M A (storeName X.env x u) Q E s:=by
 obtain⟨m,Y,hl⟩:=id I.loc;have O:(X.env.scope.kind==.class||(X.env.scope.kind==.module&&X.env.locals != X.env.globals))=false:=by rw[I.ok.kind];rfl
 have G:i<σ.length:=by rw[I.len];exact(ζg.mp hi).1
 have cne:=I.cne;have g:∀{a:Addr} {h':Heap},(∃o,s.heap.get? a=some o∧H a=none)→Heap.SameBut a s.heap h'→HOk X.prog X.w H h':=λ{a h'} ha f b ob e=>by
  obtain⟨_,_,C⟩:=ha;refine(I.hok b ob e).stay (λc U t q=>(f.2 c ?_).trans q) (λ_ q=>q) λ_ _ q=>q;rintro rfl;rcases t with rfl|t
  ·rw[C]at e;cases e
  ·rw[C]at t;cases t
 rcases B with J|J
 ·refine wpAny_storeName_local J Y (λh' Z f=>?_) O;obtain⟨oL,_,_,a0,_⟩:=id Y;refine h _ ⟨I.ok,I.os,I.bare,⟨λb o e n K B=>?_,λb o e n K B=>?_,I.base.free,λb o e B=>?_,I.base.tups,I.base.frzs,I.base.tbls⟩,⟨_,Z,λj y v' l D e3=>?_⟩,λy c e=>?_,I.free,I.freeC,λp hp=>?_,g ⟨oL,a0,I.free⟩ f,by simpa using I.len⟩ ⟨_,f,.inl rfl⟩
  ·exact(f.2 b (ζt (ζC (ζl e) I.ok.above))).trans (I.base.keep b o e n K B)
  ·obtain⟨sl,l⟩:=I.base.slot b o e n K B;exact⟨sl,(f.2 b (ζt (ζC (ζl e) I.ok.above))).trans l⟩
  ·obtain⟨o',l⟩:=I.base.there b o e B;exact⟨o',(f.2 b (ζt (ζC (ζl e) I.ok.above))).trans l⟩
  ·by_cases L:j=i
   ·subst L;rw[hi]at l;cases l;rw[ζh G]at D;cases D;exact⟨u,r,.inl ⟨J,by simp⟩⟩
   ·rw[ζm (Ne.symm L)]at D;obtain⟨u',r',q⟩:=hl j y v' l D e3;refine⟨u',r',?_⟩
    rcases q with⟨k,e⟩|⟨k,c,e,z⟩
    ·refine .inl ⟨k,?_⟩;have:y≠x:=λe=>L (Yp hN l (e ▸ hi));simp[this,e]
    ·exact .inr ⟨k,c,e,z.sameBut f (cne y c e)⟩
  ·obtain⟨U,z⟩:=I.cell y c e;exact⟨U,z.sameBut f (cne y c e)⟩
  ·obtain⟨e,n,ne,nf,d⟩:=I.pin p hp;exact⟨(f.2 p.1 ne).trans e,n,ne,nf,d⟩
 ·have F:X.fn x=true:=by
   rcases hf with z|z
   ·exact z
   ·rw[z]at J;cases J
  obtain⟨c,t⟩:=I.ok.has x (.inl J);obtain⟨U,z⟩:=I.cell x c t;refine wpAny_storeName_cell I.ok.kind J t z (λh' P f=>?_);obtain⟨oc,R,S⟩:=id z;refine h {s with heap:=h'} ⟨I.ok,I.os,I.bare,⟨λb o e n K B=>?_,λb o e n K B=>?_,I.base.free,λb o e B=>?_,I.base.tups,I.base.frzs,I.base.tbls⟩,⟨m,Y.sameBut f (Ne.symm (cne x c t)),λj y v' l D e3=>?_⟩,λy W e=>?_,I.free,I.freeC,λp hp=>?_,g ⟨oc,R,(I.freeC x c t).elim (λn=>n) λz=>by rw[F]at z;cases z.1⟩ f,by simpa using I.len⟩ ⟨c,f,.inr t⟩
  ·exact(f.2 b (ζt (ζC (ζl e) (I.ok.cab x c F t)))).trans (I.base.keep b o e n K B)
  ·obtain⟨sl,l⟩:=I.base.slot b o e n K B;exact⟨sl,(f.2 b (ζt (ζC (ζl e) (I.ok.cab x c F t)))).trans l⟩
  ·obtain⟨o',l⟩:=I.base.there b o e B;exact⟨o',(f.2 b (ζt (ζC (ζl e) (I.ok.cab x c F t)))).trans l⟩
  ·by_cases L:j=i
   ·subst L;rw[hi]at l;cases l;rw[ζh G]at D;cases D;exact⟨u,r,.inr ⟨.inl J,c,t,P⟩⟩
   ·rw[ζm (Ne.symm L)]at D;obtain⟨u',r',q⟩:=hl j y v' l D e3;refine⟨u',r',?_⟩
    rcases q with q|⟨k,W,e,z'⟩
    ·exact .inl q
    ·refine .inr ⟨k,W,e,z'.sameBut f ?_⟩;rintro rfl;exact L (Yp hN l (I.ok.inj _ _ _ e t ▸ hi))
  ·by_cases T:W=c
   ·subst T;exact⟨_,P⟩
   ·obtain⟨w2,z2⟩:=I.cell y W e;exact⟨w2,z2.sameBut f T⟩
  ·obtain⟨e,n,ne,nf,d⟩:=I.pin p hp;refine⟨(f.2 p.1 ?_).trans e,n,ne,nf,d⟩
   intro q;rw[q,R]at e;have q':oc=p.2:=ζD e;exact d U (by rw[←q'];exact S)
theorem tF{M:Model}{A:Around}{E:AM}{i:Nat}{x:Str}{v:V}{u:Value}{Q:Unit→Shared→Prop}(I:Inv X pins σ H s)(a:X.N.Nodup)(hi:X.N[i]?=some x)(b:Loc X.env.scope x)(r:RelV v u)
  (h:∀s',Inv X pins (σ.set i (some v)) H s'→Q () s') (c:X.fn x=true∨X.env.scope.names.lookup x=some .local:=by first|exact .inl rfl|exact .inr rfl|assumption):wpAny M A (storeName X.env x u) Q E s:=
 Xc I a hi b r (λs' d _=>h s' d) c
theorem Inv.call'{s':Shared}{ch:List Addr}(I:Inv X pins σ H s)(d:s'.os=s.os)(u:Un (frs X.stack) ch H H' s.heap s'.heap)(hok:HOk X.prog X.w H' s'.heap)(f:AllBare s'.gens)
  (a:∀b∈ch,(b∈X.ex∨X.s₀.heap.objs.size≤b)∧b≠X.env.locals∧(∀x c,X.env.cells.lookup x=some c→c≠b)∧∀p∈X.pn++pins,p.1≠b):Inv X pins σ H' s':=by
 obtain⟨h',g',d',t',o'⟩:=s';have e:o'=s.os:=d;subst e;exact I.call (g':=g') (t':=t') (d':=d') u hok f a
end
abbrev XK:=Value→Option Addr→Hp→Prop
abbrev St:=List (Option V)
abbrev VK:=V→Hp→Prop
abbrev TE:=St→Hp→VK→Prop
abbrev TT:=St→Hp→(Bool→Hp→Prop)→Prop
abbrev TA:=St→Hp→(List V→Hp→Prop)→Prop
structure Ends where
 nx:St→Hp→Prop
 rt:VK
 bk:St→Hp→Prop:=λ_ _=>False
 ct:St→Hp→Prop:=λ_ _=>False
abbrev TS:=Ends→St→Hp→Prop
def EP(X:Cx)(pins:AL)(σ:St)(Q:VK)(u:Value)(s':Shared):Prop:=∃v H',Inv X pins σ H' s'∧RelV v u∧Q v H'
def TP(X:Cx)(pins:AL)(σ:St)(Q:Bool→Hp→Prop)(b:Bool)(s':Shared):Prop:=∃H',Inv X pins σ H' s'∧Q b H'
def AP(X:Cx)(pins:AL)(σ:St)(Q:List V→Hp→Prop)(us:AK)(s':Shared):Prop:=∃vs H',Inv X pins σ H' s'∧Vals vs us∧Q vs H'
def SP(X:Cx)(pins:AL)(D:Ends)(f:Flow)(s':Shared):Prop:=
 match f with
 | .next=>∃σ' H',Inv X pins σ' H' s'∧D.nx σ' H'
 | .brk=>∃σ' H',Inv X pins σ' H' s'∧D.bk σ' H'
 | .cont=>∃σ' H',Inv X pins σ' H' s'∧D.ct σ' H'
 | .ret u=>∃v σ' H',Inv X pins σ' H' s'∧RelV v u∧D.rt v H'
def PE(X:Cx)(e:Expr)(t:TE):Prop:=
 ∀(pins:AL) (s:Shared) (σ:St) (H:Hp) (Q:VK),Inv X pins σ H s→t σ H Q→wpAny (model X.prog X.w) X.A (eval e X.env) (EP X pins σ Q) X.xe s
def PT(X:Cx)(e:Expr)(t:TT):Prop:=
 ∀(pins:AL) (s:Shared) (σ:St) (H:Hp) (Q:Bool→Hp→Prop),Inv X pins σ H s→t σ H Q→wpAny (model X.prog X.w) X.A (isTrue e X.env (eval e X.env)) (TP X pins σ Q) X.xe s
def PW(X:Cx)(e:Expr)(t:TT):Prop:=
 ∀(whole:Sem Value) (pins:AL) (s:Shared) (σ:St) (H:Hp) (Q:Bool→Hp→Prop),Inv X pins σ H s→t σ H Q→wpAny (model X.prog X.w) X.A (isTrue e X.env whole) (TP X pins σ Q) X.xe s
theorem PW.pt{X:Cx}{e:Expr}{t:TT}(h:PW X e t):PT X e t:=h _
def PA(X:Cx)(es:List Expr)(t:TA):Prop:=
 ∀(pos:Pos) (pins:AL) (s:Shared) (σ:St) (H:Hp) (Q:List V→Hp→Prop),Inv X pins σ H s→t σ H Q→wpAny (model X.prog X.w) X.A (spliced (backTo pos (starEach es X.env))) (AP X pins σ Q) X.xe s
def PS(X:Cx)(st:Stmt)(t:TS):Prop:=
 ∀(pins:AL) (s:Shared) (σ:St) (H:Hp) (D:Ends),Inv X pins σ H s→t D σ H→wpAny (model X.prog X.w) X.A (exec st X.env) (SP X pins D) X.xe s
def PSs(X:Cx)(st:List Stmt)(t:TS):Prop:=
 ∀(pins:AL) (s:Shared) (σ:St) (H:Hp) (D:Ends),Inv X pins σ H s→t D σ H→wpAny (model X.prog X.w) X.A (execs st X.env) (SP X pins D) X.xe s
theorem thn{b:Type}{t:Sem b}{Q c:b→Shared→Prop}{M:Model}{A:Around}{E:AM}{s:Shared}(h:wpAny M A t Q E s)(d:∀a s,Q a s→c a s):wpAny M A t c E s:=wpAny_mono h d λ_ _ x=>x
section
variable {X:Cx}
def tVar(i:Nat):TE:=λσ H Q=>∃v,σ[i]?=some (some v)∧Q v H
def tC(v:V):TE:=λ_ H Q=>Q v H
theorem zde{i:Nat}{x:Str}{f:Pos}(k:X.N[i]?=some x)(n:Vis X.env.scope x)(hd:(x==("__debug__" : Str))=false:=by decide)(g:(x==("__classdict__" : Str))=false:=by decide):PE X (.Name x f) (tVar i):=by
 intro pins s σ H Q I h;obtain⟨v,e,h⟩:=h;obtain⟨m,o,p⟩:=I.loc;obtain⟨u,r,l⟩:=p i x v k e n;have b:EP X pins σ Q u s:=⟨v,H,I,r,h⟩
 rcases l with⟨d,q⟩|⟨d,c,j,a⟩
 ·exact wpAny_Name (wpAny_loadName_local I.ok.kind d o q b) hd
 ·rcases d with d|d
  ·exact wpAny_Name (wpAny_loadName_cell I.ok.kind d j a b) hd
  ·exact wpAny_Name (wpAny_loadName_free I.ok.kind d j a b g) hd
theorem ze{i j pos}:PE X (.Constant (.int i) j pos) (tC (.int i)):=λ_ _ _ H _ I h=>wpAny_Constant_int ⟨.int i,H,I.tok _,⟨_,rfl⟩,h⟩
theorem xN{b j pos}:PE X (.Constant (.bool b) j pos) (tC (.bl b)):=λ_ _ _ H _ I h=>Constant_bool ⟨.bl b,H,I,rfl,h⟩
theorem xz{j pos}:PE X (.Constant .none j pos) (tC .non):=λ_ _ _ H _ I h=>Constant_none ⟨.non,H,I,rfl,h⟩
theorem uY{x j pos}:PE X (.Constant (.str x) j pos) (tC (.str x)):=λ_ _ _ H _ I h=>Calls.Constant_str ⟨.str x,H,I.tok _,⟨_,rfl⟩,h⟩
def Gl(X:Cx)(x:Str):Prop:=X.env.kindOf x=some .globalImplicit
theorem wm{E:AM}{pins:AL}{s:Shared}{σ:St}{H:Hp}{x:Str}{u:Value}{a:Pos}{Q:AM}(I:Inv X pins σ H s)(b:Gl X x)(c:X.mg x=some u)(h:Q u s)
  (hd:(x==("__debug__" : Str))=false:=by decide):wpAny (model X.prog X.w) X.A (eval (.Name x a) X.env) Q E s:=
 Calls.Name_function_global I.ok.kind b (Calls.loadGlobal_global (by rw[I.ok.glob];exact I.mod.glob.keeps I.bk) c h) hd
theorem u8{E:AM}{pins:AL}{s:Shared}{σ:St}{H:Hp}{x:Str}{u:Value}{a:Pos}{Q:AM}(I:Inv X pins σ H s)(b:Gl X x)(c:X.mg x=none)(d:bootBuiltins x=some u)(h:Q u s)
  (e:x ≠ "__name__" := by decide) (hd:(x==("__debug__" : Str))=false:=by decide):wpAny (model X.prog X.w) X.A (eval (.Name x a) X.env) Q E s:=by
 obtain⟨mb,f,g⟩:=I.mod.blt;exact Calls.Name_function_global I.ok.kind b (Calls.loadGlobal_builtin (by rw[I.ok.glob];exact I.mod.glob.keeps I.bk) c (by rw[I.ok.blt];exact f.keeps I.bk) ((g x e).trans d) h) hd
theorem wP{x:Str}{v:V}{u:Value}{a:Pos}(b:Gl X x)(c:X.mg x=some u)(r:RelV v u)(hd:(x==("__debug__" : Str))=false:=by decide):PE X (.Name x a) (tC v):=
 λ_ _ _ H _ I h=>wm I b c ⟨v,H,I,r,h⟩ hd
theorem yO{x:Str}{v:V}{u:Value}{a:Pos}(b:Gl X x)(c:X.mg x=none)(d:bootBuiltins x=some u)(r:RelV v u)(e:x ≠ "__name__" := by decide)(hd:(x==("__debug__" : Str))=false:=by decide):PE X (.Name x a) (tC v):=
 λ_ _ _ H _ I h=>u8 I b c d ⟨v,H,I,r,h⟩ e hd
variable {a b:Expr}{ta tb:TE}{pos:Pos}
def tB(t:TE):TT:=λσ H Q=>t σ H λx H1=>∃c,x=.bl c∧Q c H1
theorem ye{e:Expr}{t:TE}(h:PE X e t)(b:∀a,isTrue e X.env a=(do let v←a;standAt e.pos;holding [v] (truthy v)):=by intro _;rfl):PT X e (tB t):=by
 intro pins s σ H Q I c;refine isTrue_plain (thn (h pins s σ H _ I c) λv s1 ⟨x,f,g,i,j⟩=>?_) (b _);obtain⟨d,rfl,q⟩:=j;cases i;exact wpAny_truthy_bool ⟨f,g,q⟩
variable {tA tB':TT}{rest:List Expr}
def tAnd(t u:TT):TT:=λσ H Q=>t σ H λc H1=>if c=true then u σ H1 Q else Q false H1
def tOr(t u:TT):TT:=λσ H Q=>t σ H λc H1=>if c=true then Q true H1 else u σ H1 Q
def tNot(t:TT):TT:=λσ H Q=>t σ H λc H1=>Q (!c) H1
theorem xI(b:PT X a tA):PW X (.BoolOp .And [a] pos) tA:=by
 intro d pins s σ H Q I h;refine isTrue_and (thn (b pins s σ H Q I h) λc s1 e=>?_);cases c with
 | true=>exact isTrue_and_nil e
 | false=>exact e
theorem uW(b:PT X a tA):PW X (.BoolOp .Or [a] pos) tA:=by
 intro d pins s σ H Q I h;refine isTrue_or (thn (b pins s σ H Q I h) λc s1 e=>?_);cases c with
 | false=>exact isTrue_or_nil e
 | true=>exact e
theorem wA(g:PT X a tA)(i:PW X (.BoolOp .And (b::rest) pos) tB'):PW X (.BoolOp .And (a::b::rest) pos) (tAnd tA tB'):=by
 intro j pins s σ H Q I h;refine isTrue_and (thn (g pins s σ H _ I h) λc s1 ⟨d,e,f⟩=>?_);cases c with
 | true=>exact i j pins s1 σ d Q e f
 | false=>exact⟨d,e,f⟩
theorem ve(g:PT X a tA)(i:PW X (.BoolOp .Or (b::rest) pos) tB'):PW X (.BoolOp .Or (a::b::rest) pos) (tOr tA tB'):=by
 intro j pins s σ H Q I h;refine isTrue_or (thn (g pins s σ H _ I h) λc s1 ⟨d,e,f⟩=>?_);cases c with
 | true=>exact⟨d,e,f⟩
 | false=>exact i j pins s1 σ d Q e f
theorem yx(b:PT X a tA):PT X (.UnaryOp .Not a pos) (tNot tA):=by
 intro pins s σ H Q I h;exact isTrue_not (b pins s σ H (λc d=>Q (!c) d) I h)
def zcw(ta tb:TE):TE:=λσ H Q=>ta σ H λx H1=>∃c,x=.bl c∧if c=true then tb σ H1 Q else Q (.bl false) H1
def zcu(ta:TE):TE:=λσ H Q=>ta σ H λx H1=>∃c,x=.bl c∧Q (.bl (!c)) H1
theorem wW{op}{t:TE}(h:PE X a t):PE X (.BoolOp op [a] pos) t:=λpins s σ H Q I b=>BoolOp_one (h pins s σ H Q I b)
theorem wI(g:PE X a ta)(i:PE X (.BoolOp .And (b::rest) pos) tb):PE X (.BoolOp .And (a::b::rest) pos) (zcw ta tb):=by
 intro pins s σ H Q I h;refine BoolOp_and (thn (g pins s σ H _ I h) λv s1 ⟨x,e,f,j,d⟩=>?_);obtain⟨c,rfl,d⟩:=d;cases j;refine wpAny_truthy_bool ?_;cases c with
 | true=>exact i pins s1 σ e Q f d
 | false=>exact⟨.bl false,e,f,rfl,d⟩
theorem QR(d:PE X a ta):PE X (.UnaryOp .Not a pos) (zcu ta):=by
 intro pins s σ H Q I h;refine UnaryOp_ (thn (d pins s σ H _ I h) λv s1 ⟨x,e,f,g,b⟩=>?_);obtain⟨c,rfl,b⟩:=b;cases g;exact not_of (wpAny_truthy_bool ⟨.bl (!c),e,f,rfl,b⟩)
end
section
variable {prog:Program}{w:World}{A:Around}{E:AM}{s:Shared}
def HQ(A:Around)(h:Heap):Prop:=∀v,A.handled=some v→∃b o vs,v=.ref b∧h.get? b=some o∧o.data=.fields vs∧vs[2]?=some .none
theorem HQ.no{h:Heap}(a:A.handled=none):HQ A h:=λv e=>by rw[a]at e;cases e
theorem HQ.keep{h h':Heap}(q:HQ A h)(k:∀b o vs,h.get? b=some o→o.data=.fields vs→vs[2]?=some .none→h'.get? b=some o):HQ A h':=λv e=>by
 obtain⟨b,o,vs,d,f,a,c⟩:=q v e;exact⟨b,o,vs,d,k b o vs f a c,a,c⟩
theorem Vk:entryFor table "proto.unchain" = some Builtin.«proto.unchain»:=by
 kernel_rfl
theorem zbo{g:Type}{Q:g→Shared→Prop}{e:Addr}{a:Obj}{ws:Array Value}(q:HQ A s.heap)(d:s.heap.get? e=some a)(hd:a.data=.fields ws)(h:2<ws.size)(ne:∀b,A.handled=some (.ref b)→b≠e)
  (k:∀h',(∀c,c≠e→h'.get? c=s.heap.get? c)→(∃o',h'.get? e=some o'∧o'.cls=a.cls)→E (.ref e) {s with heap:=h'}):wpAny (model prog w) A (raiseNew (.ref e)) Q E s:=by
 simp only[raiseNew];refine AA (wpAny_handled ?_);cases f:A.handled with
 | none=>exact wpAny_throw (k s.heap (λ_ _=>rfl) ⟨a,d,rfl⟩)
 | some v =>
  obtain⟨b,o,vs,rfl,i,j,l⟩:=q v f;have m:=ne b f;show wpAny _ _ (if(Value.ref b != Value.ref e)=true then _ else _) _ _ _;rw[if_pos (by simp[m])];refine AA (wpAny_holding (runValue_entry Vk ?_));unfold Builtin.«proto.unchain»;refine AA (wpAny_field i j l ?_);rw[if_pos (show(Value.none==Value.none)=true from rfl)];refine AB ⟨_,rfl,?_⟩;refine AA ?_;unfold updateField;refine AA (wpAny_load d ?_);rw[hd];show wpAny _ _ (if 2<ws.size then _ else _) _ _ _;rw[if_pos h];refine wpAny_update d ?_;refine wpAny_throw (k _ (λc n=>ζX _ _ (Ne.symm n)) ⟨_,ζJ _ d (Obj.isFreed_of_fields (Obj.data_mapFields hd _)),Obj.cls_mapFields ..⟩)
theorem Qp{d:Type}{Q:d→Shared→Prop}(q:HQ A s.heap)(k:∀h' e,(∀b o,s.heap.get? b=some o→h'.get? b=some o)→(∃o,h'.get? e=some o∧o.cls=.type "StopIteration")→E (.ref e) {s with heap:=h'}):
  wpAny (model prog w) A (newExc (.type "StopIteration") [] >>= λe=>raiseNew e) Q E s:=by
 refine AA ?_;simp only[newExc,newTuple];refine AA (wpAny_newObj_type ?_ (by size_fits));refine AA (m:=firstArgMember _ _) (wpAny_of_eq (a:=Value.none) (by first|rfl|(simp only[firstArgMember];rfl)) ?_);refine wpAny_newObj_type ?_ (by size_fits);have c:∀{f o2:Obj} (b:Addr) (o:Obj),s.heap.get? b=some o→((s.heap.push f).push o2).get? b=some o:=λb o e=>ζd _ (ζd _ e);refine zbo (q.keep λb o vs e _ _=>c b o e) (ζo _ rfl) rfl (by rw[Array.size_append];exact ζC #[2] (ξC 6 _)) (λb g z=>?_) λh' h i=>k h' _ (λb o e=>(h b ?_).trans (c b o e)) i
 ·obtain⟨n,o,_,j,l,_⟩:=q _ g;cases j;exact absurd (ζl l) (by rw[z,ζS];exact ξV.mpr (ξu _))
 ·intro z;exact absurd (ζl e) (by rw[z,ζS];exact ξV.mpr (ξu _))
theorem zbO{it l:Addr}{i:Nat}{a:Array Value}{Q:Fin→Shared→Prop}(q:HQ A s.heap)(f:s.heap.IsListIter it l i)(k:s.heap.IsList l a)(m:a[i]?=none)
  (n:∀h' e,Heap.ExtBut it s.heap h'→(∃o,h'.get? e=some o∧o.cls=.type "StopIteration")→E (.ref e) {s with heap:=h'}):wpAny (model prog w) A (Builtin.«list_iterator.__next__» ⟨[.ref it],[]⟩) Q E s:=by
 obtain⟨o,d,v,hd⟩:=id f;obtain⟨y,g,_,nl,h⟩:=k;show wpAny _ _ (field (.ref it) 0 >>= _) _ _ s;refine AA (wpAny_field d hd (x:=.ref l) rfl ?_);show wpAny _ _ (if(Value.ref l==Value.none)=true then _ else _) _ _ s;rw[if_neg (show¬((Value.ref l==Value.none)=true)from ζv)];show wpAny _ _ (field (.ref it) 1 >>= _) _ _ s;refine AA (wpAny_field d hd (x:=.int i 0) rfl ?_);show wpAny _ _ (seqItems? (.ref l) >>= _) _ _ s;refine AA (wpAny_seqItems g h ?_);simp only[Int.toNat_natCast,m];refine AA (wpAny_rule (AA (wpAny_setField d hd (by simp) ?_)));refine Qp (s:={s with heap:=_}) (HQ.keep q λb o' vs c j p=>?_) λh' e r t=>n h' e (λb o' u c=>r b o' ((Heap.SameBut.update ..).extBut b o' u c)) t;refine(Heap.SameBut.update ..).extBut b o' (λz=>?_) c;rw[z,d]at c;cases c;rw[hd]at j;cases j;cases p
theorem Xl{it l:Addr}{i:Nat}{a:Array Value}{Q:Option Value→Shared→Prop}(q:HQ A s.heap)(c:s.heap.IsListIter it l i)(d:s.heap.IsList l a)(f:a[i]?=none)
  (g:∀h',Heap.ExtBut it s.heap h'→Q none {s with heap:=h'}):wpAny (model prog w) A (pyNext (.ref it)) Q E s:=by
 unfold pyNext
 refine AA (wpAny_attempt (wpAny_callSpecial?_slot (name:=Str.ofString "__next__") c.typeIs slot_listiter_next
  (wpAny_call_entry slot_listiter_next c.typeIs entry_listiter_next (zbO (A:=A.in1) q c d f λh' e h j=>?_) (args_listiter_next _))))
 exact AA (wpAny_isInstance (T:= "StopIteration") (b:=true) j isSubtype_stop (AB (g _ h)))
theorem Qd{it t:Addr}{i:Nat}{items}{Q:Option Value→Shared→Prop}(q:HQ A s.heap)
  (a:IsTupIter s.heap it t i) (j:IsTup s.heap t items) (k:items[i]?=none)
  (l:∀h',Heap.ExtBut it s.heap h'→Q none {s with heap:=h'}):wpAny (model prog w) A (pyNext (.ref it)) Q E s:=by
 obtain⟨o,d,u,hd⟩:=id a;obtain⟨v,f,_,nl,g⟩:=j;unfold pyNext
 refine AA (wpAny_attempt (wpAny_callSpecial?_slot (name:=Str.ofString "__next__") a.typeIs slot_tupleiter_next
  (wpAny_call_entry slot_tupleiter_next a.typeIs entry_tupleiter_next ?_ (args_tupleiter_next _))))
 show wpAny _ _ (field (.ref it) 0 >>= _) _ _ s;refine AA (wpAny_field d hd (x:=.ref t) rfl ?_);show wpAny _ _ (if(Value.ref t==Value.none)=true then _ else _) _ _ s;rw[if_neg (show¬((Value.ref t==Value.none)=true)from ζv)];show wpAny _ _ (field (.ref it) 1 >>= _) _ _ s;refine AA (wpAny_field d hd (x:=.int i 0) rfl ?_);show wpAny _ _ (seqItems? (.ref t) >>= _) _ _ s;refine AA (wpAny_seqItems f g ?_);simp only[Int.toNat_natCast,k];refine AA (wpAny_rule (AA (wpAny_setField d hd (by simp) ?_)));refine Qp (A:=A.in1) (s:={s with heap:=_}) (HQ.keep (A:=A.in1) q λb o' vs c h m=>?_) λh' e n p=>?_
 ·refine(Heap.SameBut.update ..).extBut b o' (λz=>?_) c;rw[z,d]at c;cases c;rw[hd]at h;cases h;cases m
 ·exact AA (wpAny_isInstance (T:= "StopIteration") (b:=true) p isSubtype_stop (AB (l _ λb o' r c=>n b o' ((Heap.SameBut.update ..).extBut b o' r c))))
theorem zbb{t:Addr}{a:Array Value}{Q:AK→Shared→Prop}(q:HQ A s.heap)(j:IsTup s.heap t a)
  (r:∀h',Heap.ExtBut s.heap.objs.size s.heap h'→Q a.toList {s with heap:=h'}):wpAny (model prog w) A (unpackItems (.ref t) a.size none) Q E s:=by
 have k:t≠s.heap.objs.size:=by obtain⟨o,u,_⟩:=j;exact ζt (ζl u)
 unfold unpackItems;refine AA ?_
 ·unfold notIterableAtAll;refine AA (wpAny_specialOf j.typeIs slot_tuple_iter.lookup ?_);refine AB ?_;simp only[Bool.false_eq_true,if_false];refine AA (wpAny_holding (iter_tuple j ?_));refine AA (wpAny_holding (draw_tuple k a.size 0 _ _ ⟨_,ζo _ rfl,rfl,rfl⟩ (j.push _) ⋯ λf g d=>?_));have l:List.take a.size (List.drop 0 a.toList)=a.toList:=by
   rw[List.drop_zero];exact List.take_of_length_le (by simp)
  rw[l];rw[if_neg (by simp)];have h:IsTup f t a:=(j.push _).extBut d.extBut k;have v:HQ A f:=q.keep λc o vs n x y=>d.extBut c o (ζt (ζl n)) (ζd _ n);refine AA (wpAny_holding (Qd (s:={s with heap:=f}) v g h (by simp) λm i=>?_));simp only[Option.isSome_none,Bool.false_eq_true,if_false];refine AB (r m λb o p e=>i b o p (d.extBut b o p (ζd _ e)))
theorem Qa{t:Addr}{b:Array Value}{a:List (Bool×(Value→Sem Unit))}{Q:Unit→Shared→Prop}(q:HQ A s.heap)(d:IsTup s.heap t b)
  (e:a.length=b.size) (c:a.findIdx? (·.1)=none)
  (h:∀h',Heap.ExtBut s.heap.objs.size s.heap h'→wpAny (model prog w) A (assignInOrder (a.map (·.2)) b.toList) Q E {s with heap:=h'}) :
  wpAny (model prog w) A (unpack (.ref t) a) Q E s:=by
 unfold unpack;rw[e,c];exact AA (wpAny_holding (zbb q d h))
theorem za3{env:Env}{b:List Expr}{x1}{d:Pos}{t:Addr}{a:Array Value}{Q:Unit→Shared→Prop}(q:HQ A s.heap)(e:IsTup s.heap t a)
  (f:(assignEach b env).length=a.size) (c:(assignEach b env).findIdx? (·.1)=none)
  (h:∀h',Heap.ExtBut s.heap.objs.size s.heap h'→wpAny (model prog w) A (assignInOrder ((assignEach b env).map (·.2)) a.toList) Q E {s with heap:=h'}) :
  wpAny (model prog w) A (assign (.Tuple b x1 d) env (.ref t)) Q E s:=by
 rw[assign_Tuple];exact AA (wpAny_standAt (Qa q e f c h))
def hbL(A:Around):List Addr:=match A.handled with|some (.ref b)=>[b]|_=>[]
theorem HQ.kept{h h':Heap}(q:HQ A h)(k:∀b∈hbL A,∀o,h.get? b=some o→h'.get? b=some o):HQ A h':=λv e=>by
 obtain⟨b,o,vs,rfl,a,c,d⟩:=q v e;exact⟨b,o,vs,rfl,k b (by unfold hbL;rw[e];exact .head _) o a,c,d⟩
theorem HQ.lt{h:Heap}(q:HQ A h):∀b∈hbL A,b<h.objs.size:=λb a=>by
 unfold hbL at a;split at a
 ·next c e =>
  obtain⟨g,o,_,d,f,_⟩:=q _ e;cases d;rw[ζs.mp a];exact ζl f
 ·cases a
theorem T7(I f:Addr)(k:f≠I)(a:Array Value):Walks prog w A I ([I,f]++hbL A) [I] a.size (λi v=>a[i]?=some v) (λi h=>h.IsListIter I f i∧h.IsList f a∧HQ A h) where
 sub:=λb c=>by simp at c;simp[c]
 frame:=λ_ _ _ st l=>⟨st.1.at λo e=>l I (by simp) o e,st.2.1.at λo e=>l f (by simp) o e,st.2.2.kept λb c o e=>l b (List.mem_append_right _ c) o e⟩
 item:=λi s Q E hi st g=>by
  refine wpAny_pyNext_list_item st.1 st.2.1 (x:=a[i]) (by simp[hi]) λh' j d=>?_;refine g _ h' s.toks (by simp[hi]) ⟨j,st.2.1.extBut d.extBut k,st.2.2.keep λb o vs m p q=>d.extBut b o (λz=>?_) m⟩ λb o c e=>d.extBut b o (λh=>c (by simp[h])) e;obtain⟨u,r,_,t⟩:=st.1;rw[z,r]at m;cases m;rw[t]at p;cases p;cases q
 done:=λs Q E st g=>Xl st.2.2 st.1 st.2.1 (by simp) λh' n=>g h' s.toks λb o c e=>n b o (λh=>c (by simp[h])) e
 self:=λ_ _ _ _ st g=>wpAny_pyIter_listiter st.1 g
end
section
variable {X:Cx}{pins:AL}{σ:List (Option V)}{H:Hp}{s:Shared}
def Held(X:Cx):Prop:=∀v,X.A.handled=some v→∃b o vs,v=.ref b∧(b,o)∈X.pn∧o.data=.fields vs∧vs[2]?=some .none
def Gd(X:Cx):Prop:=X.calm=true∨Held X
theorem Inv.hq(I:Inv X pins σ H s)(g:Gd X):HQ X.A s.heap:=g.elim (λh=>.no (I.ok.hd h)) λh v e=>by
 obtain⟨b,o,vs,a,c,d,f⟩:=h v e;exact⟨b,o,vs,a,(I.pin (b,o) (ζy _ c)).1,d,f⟩
end
def SqL(K:ζa)(H:Hp)(a:Addr)(xs:List V):Prop:=
 Rd H a (.lst xs)∨
  ∃(o:Obj) (its:Array Value) (n:Nat),K.lookup a=some o∧o.cls=.type "list"∧o.dict=none∧o.data=.seq its n∧its.size≤sizeLine∧Vals xs its.toList
def SqT(K:ζa)(H:Hp)(a:Addr)(xs:List V):Prop:=
 Rd H a (.tup xs)∨
  ∃(o:Obj) (its:Array Value) (n:Nat),K.lookup a=some o∧o.cls=.type "tuple"∧o.data=.seq its n∧its.size≤sizeLine∧Vals xs its.toList
def absV:Value→Option V
 | .none=>some .non
 | .bool b=>some (.bl b)
 | .int i _=>some (.int i)
 | .str x _=>some (.str x)
 | .bytes b _=>some (.byt b)
 | .float b _=>some (.flt b)
 | .ref a=>some (.ref a)
 | .type n=>some (.ty n)
 | _=>none
theorem RelV.abs{x:V}{u:Value}(r:RelV x u):absV u=some x:=by
 cases x with
 | non=>cases r;rfl
 | bl _=>cases r;rfl
 | int _=>obtain⟨t,rfl⟩:=r;rfl
 | str _=>obtain⟨t,rfl⟩:=r;rfl
 | byt _=>obtain⟨t,rfl⟩:=r;rfl
 | flt _=>obtain⟨t,rfl⟩:=r;rfl
 | ref _=>cases r;rfl
 | ty _=>cases r;rfl
theorem RelV.inj{x y:V}{u:Value}(r:RelV x u)(q:RelV y u):x=y:=ζD (r.abs.symm.trans q.abs)
theorem Vals.inj:∀{xs ys:List V} {us:AK},Vals xs us→Vals ys us→xs=ys
 | _,_,_,.nil,.nil=>rfl
 | _,_,_,.cons r t,.cons r' t'=>by rw[r.inj r',Vals.inj t t']
section
variable {X:Cx}{pins:AL}{σ:St}{H:Hp}{s:Shared}{a:Addr}{xs ys:List V}
theorem SqL.of{K:ζa}(h:H a=some (.lst xs)):SqL K H a xs:=.inl (.inl h)
theorem SqT.of{K:ζa}(h:H a=some (.tup xs)):SqT K H a xs:=.inl (.inl h)
theorem Inv.list(I:Inv X pins σ H s)(h:SqL X.K H a xs):∃b:AK,Vals xs b∧PlainL s.heap a b.toArray∧xs.length≤sizeLine:=by
 rcases h with h|⟨o,b,n,c,d,hd,f,g,r⟩
 ·obtain⟨z,b,n,r,e⟩:=h.ok I.hok;exact⟨b,r,⟨_,n,e,rfl,rfl,rfl⟩,z⟩
 ·refine⟨b.toList,r,⟨o,n,I.kIn a o c,d,hd,by simpa using f⟩,?_⟩
  have e:=r.length;simp only[Array.length_toList]at e;omega
theorem Inv.tuple(I:Inv X pins σ H s)(h:SqT X.K H a xs):∃b:AK,Vals xs b∧IsTup s.heap a b.toArray∧xs.length≤sizeLine:=by
 rcases h with h|⟨o,b,n,c,d,f,g,r⟩
 ·obtain⟨z,b,r,p⟩:=h.ok I.hok;exact⟨b,r,p,z⟩
 ·refine⟨b.toList,r,⟨o,I.kIn a o c,d,n,by simpa using f⟩,?_⟩
  have e:=r.length;simp only[Array.length_toList]at e;omega
theorem Inv.list_inj(I:Inv X pins σ H s)(h:SqL X.K H a xs)(h':SqL X.K H a ys):xs=ys:=by
 obtain⟨c,r,⟨o,n,e,_,_,d⟩,_⟩:=I.list h;obtain⟨b,i,⟨o',j,f,_,_,g⟩,_⟩:=I.list h';rw[e]at f;cases f;rw[d]at g;injection g with d1 _;have:c=b:=by simpa using congrArg Array.toList d1
 subst this;exact r.inj i
theorem Inv.tuple_inj(I:Inv X pins σ H s)(h:SqT X.K H a xs)(h':SqT X.K H a ys):xs=ys:=by
 obtain⟨c,r,⟨o,e,_,n,d⟩,_⟩:=I.tuple h;obtain⟨b,i,⟨o',f,_,j,g⟩,_⟩:=I.tuple h';rw[e]at f;cases f;rw[d]at g;injection g with d1 _;have:c=b:=by simpa using congrArg Array.toList d1
 subst this;exact r.inj i
end
abbrev Cx.wish(X:Cx)(E:AM):Cx:={X with xe:=E}
abbrev Cx.nox(X:Cx):Cx:=X.wish λ_ _=>False
theorem Cx.Ok.wish{X:Cx}(ok:X.Ok)(E:AM):(X.wish E).Ok:=
 ⟨ok.mod,ok.kind,ok.glob,ok.blt,ok.above,ok.inj,ok.has,ok.cab,ok.hd,ok.frames,ok.stk,ok.exf,ok.bs,ok.bsz,ok.noex,ok.exfs,ok.funs,ok.frf,ok.tb⟩
theorem Cx.Ok.unwish{X:Cx}{E:AM}(ok:(X.wish E).Ok):X.Ok:=
 ⟨ok.mod,ok.kind,ok.glob,ok.blt,ok.above,ok.inj,ok.has,ok.cab,ok.hd,ok.frames,ok.stk,ok.exf,ok.bs,ok.bsz,ok.noex,ok.exfs,ok.funs,ok.frf,ok.tb⟩
section
variable {X:Cx}{pins:AL}{σ:St}{H:Hp}{s:Shared}{E:AM}
theorem Inv.wish(I:Inv X pins σ H s)(E:AM):Inv (X.wish E) pins σ H s:=⟨I.ok.wish E,I.os,I.bare,I.base,I.loc,I.cell,I.free,I.freeC,I.pin,I.hok,I.len⟩
theorem Inv.unwish(I:Inv (X.wish E) pins σ H s):Inv X pins σ H s:=⟨I.ok.unwish,I.os,I.bare,I.base,I.loc,I.cell,I.free,I.freeC,I.pin,I.hok,I.len⟩
theorem SP.unwish{D:Ends}{f:Flow}{s':Shared}(h:SP (X.wish E) pins D f s'):SP X pins D f s':=by
 cases f with
 | next=>obtain⟨σ',H',I,q⟩:=h;exact⟨σ',H',I.unwish,q⟩
 | brk=>obtain⟨σ',H',I,q⟩:=h;exact⟨σ',H',I.unwish,q⟩
 | cont=>obtain⟨σ',H',I,q⟩:=h;exact⟨σ',H',I.unwish,q⟩
 | ret u=>obtain⟨v,σ',H',I,r,q⟩:=h;exact⟨v,σ',H',I.unwish,r,q⟩
theorem PSs.nox{st:List Stmt}{t:TS}(h:PSs X.nox st t):PSs X st t:=λpins s σ H D I a =>
 wpAny_mono (h pins s σ H D (I.wish _) a) (λ_ _ q=>q.unwish) λ_ _ z=>False.elim z
end
section
variable {X:Cx}{st:Stmt}{rest:List Stmt}{t u:TS}{e:Expr}{te:TE}{pos:Pos}
def Xb:TS:=λD σ H=>D.nx σ H
def tSeq(t u:TS):TS:=λD σ H=>t {D with nx:=u D} σ H
theorem zC:PSs X [] Xb:=λ_ _ σ H _ I h=>wpAny_execs_nil ⟨σ,H,I,h⟩
theorem zg(a:PS X st t)(b:PSs X rest u):PSs X (st::rest) (tSeq t u):=by
 intro pins s σ H D I h;refine wpAny_execs_cons (thn (a pins s σ H {D with nx:=u D} I h) λf s1 q=>?_);cases f with
 | next =>
  obtain⟨σ',H',c,q⟩:=q;exact b pins s1 σ' H' D c q
 | ret v=>exact q
 | brk=>exact q
 | cont=>exact q
theorem zh(a:PS X st t):PSs X [st] t:=by
 intro pins s σ H D I h;refine wpAny_execs_cons (thn (a pins s σ H D I h) λf s1 q=>?_);cases f with
 | next=>exact wpAny_execs_nil q
 | ret v=>exact q
 | brk=>exact q
 | cont=>exact q
theorem Inv.quiet{pins:AL}{σ:St}{H:Hp}{s:Shared}(I:Inv X pins σ H s):interactive X.env=false:=by simp[interactive,I.ok.kind]
def wg(te:TE):TS:=λD σ H=>te σ H λ_ H1=>D.nx σ H1
theorem yv(a:PE X e te)(b:swapsWith e none pos.line X.env=pure false:=by rfl):PS X (.Expr e pos) (wg te):=by
 intro pins s σ H D I h;exact wpAny_Expr_any (thn (a pins s σ H _ I h) λv s1 ⟨x,c,d,g,f⟩=>⟨σ,c,d,f⟩) I.quiet b
def tRet(te:TE):TS:=λD σ H=>te σ H D.rt
theorem zH(a:PE X e te):PS X (.Return (some e) pos) (tRet te):=by
 intro pins s σ H D I h;exact wpAny_Return_some (thn (a pins s σ H _ I h) λv s1 ⟨x,b,c,d,f⟩=>⟨x,σ,b,c,d,f⟩)
def tIfS(c:TT)(t u:TS):TS:=λD σ H=>c σ H λb H1=>if b=true then t D σ H1 else u D σ H1
theorem zY{c:Expr}{a b:List Stmt}{e:TT}(j:PT X c e)(k:PSs X a t)(l:PSs X b u):PS X (.If c a b pos) (tIfS e t u):=by
 intro pins s σ H D I h;refine wpAny_If (thn (j pins s σ H _ I h) λd s1 ⟨f,g,i⟩=>?_);cases d with
 | true=>exact k pins s1 σ f D g i
 | false=>exact l pins s1 σ f D g i
def Qj:TS:=λ_ _ _=>False
theorem wB:PS X st Qj:=λ_ _ _ _ _ _ h=>h.elim
theorem Zm{a:List Stmt}:PSs X a Qj:=λ_ _ _ _ _ _ h=>h.elim
end
abbrev TG:=V→St→Hp→(St→Hp→Prop)→Prop
abbrev TGs:=List V→St→Hp→(St→Hp→Prop)→Prop
def PG(X:Cx)(target:Expr)(t:TG):Prop:=
 ∀(pins:AL) (s:Shared) (σ:St) (H:Hp) (v:V) (u:Value) (Q:St→Hp→Prop),Inv X pins σ H s→RelV v u→t v σ H Q→
  wpAny (model X.prog X.w) X.A (assign target X.env u) (λ_ s'=>∃σ' H',Inv X pins σ' H' s'∧Q σ' H') X.xe s
def PGs(X:Cx)(ts:List Expr)(t:TGs):Prop:=
 ∀(pins:AL) (s:Shared) (σ:St) (H:Hp) (vs:List V) (us:AK) (Q:St→Hp→Prop),Inv X pins σ H s→Vals vs us→t vs σ H Q→
  wpAny (model X.prog X.w) X.A (assignInOrder ((assignEach ts X.env).map (·.2)) us) (λ_ s'=>∃σ' H',Inv X pins σ' H' s'∧Q σ' H') X.xe s
abbrev TSet:=V→V→V→Hp→(Hp→Prop)→Prop
def PSet(X:Cx)(t:TSet):Prop:=
 ∀(pins:AL) (s:Shared) (σ:St) (H:Hp) (o i v:V) (ov iv u:Value) (Q:Hp→Prop),Inv X pins σ H s→RelV o ov→RelV i iv→RelV v u→t o i v H Q→
  wpAny (model X.prog X.w) X.A (setItem ov iv u) (λ_ s'=>∃H',Inv X pins σ H' s'∧Q H') X.xe s
section
variable {X:Cx}{pos:Pos}
def yt(i:Nat):TG:=λv σ H Q=>Q (σ.set i (some v)) H
theorem zbC{i:Nat}{x:Str}(a:X.N.Nodup)(hi:X.N[i]?=some x)(b:Loc X.env.scope x)(c:X.fn x=true∨X.env.scope.names.lookup x=some .local:=by first|exact .inl rfl|exact .inr rfl|assumption):PG X (.Name x pos) (yt i):=by
 intro pins s σ H v u Q I r h;exact wpAny_assign_Name (tF I a hi b r (λs' d=>⟨_,H,d,h⟩) c)
def gNil:TGs:=λvs σ H Q=>vs=[]∧Q σ H
def uO(t:TG)(u:TGs):TGs:=λvs σ H Q=>∃v r,vs=v::r∧t v σ H λσ' H'=>u r σ' H' Q
theorem X0:PGs X [] gNil:=by
 intro pins s σ H vs us Q I r h;obtain⟨e,h⟩:=h;subst e;cases r;exact assignInOrder_nil ⟨σ,H,I,h⟩
theorem wH{e:Expr}{a:List Expr}{t:TG}{u:TGs}(c:PG X e t)(d:PGs X a u)
  (f:(assignEach (e::a) X.env).map (·.2)=assign e X.env::(assignEach a X.env).map (·.2):=by rfl):PGs X (e::a) (uO t u):=by
 intro pins s σ H vs us Q I r h;obtain⟨v,m,g,h⟩:=h;subst g;cases r with
 | cons r i =>
  rw[f];refine assignInOrder_cons (thn (c pins s σ H _ _ _ I r h) λ_ s1 ⟨b,j,k,l⟩=>?_);exact d pins s1 b j _ _ Q k i l
def gTup(K:ζa)(n:Nat)(t:TGs):TG:=λv σ H Q=>∃a xs,v=.ref a∧SqT K H a xs∧xs.length=n∧t xs σ H Q
theorem zbB{c:List Expr}{k:Nat}{t:TGs}{n:Nat}(i:Gd X)(h:PGs X c t)
  (j:(assignEach c X.env).length=n:=by rfl) (d:(assignEach c X.env).findIdx? (·.1)=none:=by rfl):PG X (.Tuple c k pos) (gTup X.K n t):=by
 intro pins s σ H v u Q I r f;obtain⟨a,xs,l,hq,m,f⟩:=f;subst l;cases r;obtain⟨p,g,q,y⟩:=I.tuple hq;refine za3 (I.hq i) q (by simp[j,←m,g.length]) d λh' w=>?_;have x:Inv X pins σ H {s with heap:=h'}:=I.kept (t':=s.toks) λb o e=>w b o (ζt (ζl e)) e;exact h pins _ σ H xs _ Q x (by simpa using g) f
theorem zdd{a:List Expr}{k:Nat}{t:TGs}{n:Nat}(c:X.calm=true)(h:PGs X a t)
  (d:(assignEach a X.env).length=n:=by rfl) (b:(assignEach a X.env).findIdx? (·.1)=none:=by rfl):PG X (.Tuple a k pos) (gTup X.K n t):=zbB (.inl c) h d b
def gSub(to ti:TE)(t:TSet):TG:=λv σ H Q=>to σ H λo H1=>ti σ H1 λi H2=>t o i v H2 λH3=>Q σ H3
theorem xx{o i:Expr}{to ti:TE}{t:TSet}(b:PE X o to)(hi:PE X i ti)(c:PSet X t)
  (d:∀v,assign (.Subscript o i pos) X.env v=(do
   let ov←holding [v] (eval o X.env);let a←holding [v,ov] (eval i X.env)
   standAt pos
   holding [v,ov,a] (setItem ov a v)
   release [v,ov,a] []):=by intro _;rfl):PG X (.Subscript o i pos) (gSub to ti t):=by
 intro pins s σ H v u Q I r h;rw[d];refine AA (wpAny_holding (thn (b pins s σ H _ I h) λov s1 ⟨x,e,f,g,j⟩=>?_));refine AA (wpAny_holding (thn (hi pins s1 σ e _ f j) λa s2 ⟨y,k,l,m,n⟩=>?_));refine AA (wpAny_standAt (AA (wpAny_holding (thn (c pins s2 σ k x y v ov a u _ l g m r n) λ_ z ⟨p,q,w⟩=>?_))));exact wpAny_release ⟨σ,p,q,w⟩
def tAsg(te:TE)(g:TG):TS:=λD σ H=>te σ H λx H1=>g x σ H1 D.nx
theorem xf{tg e:Expr}{te:TE}{g:TG}(a:PE X e te)(b:PG X tg g)(c:swapsWithSole [tg] e pos.line X.env=pure false:=by rfl)(d:swappedStores [tg] e X.env=pure none:=by rfl)
  (f:(assignEach [tg] X.env).map (·.2)=[assign tg X.env]:=by rfl):PS X (.Assign [tg] e pos) (tAsg te g):=by
 intro pins s σ H D I h;refine wpAny_Assign_stores (thn (a pins s σ H _ I h) λv s1 ⟨x,i,j,k,l⟩=>?_) c d;rw[f];exact thn (b pins s1 σ i x v _ j k l) λ_ s2 q=>q
theorem zdb{i:Nat}{x:Str}{e:Expr}{te:TE}{a:Pos}(b:X.N.Nodup)(hi:X.N[i]?=some x)(c:Loc X.env.scope x)(d:PE X e te)(f:swapsWith e (some (.Name x a)) pos.line X.env=pure false:=by rfl)(g:X.fn x=true∨X.env.scope.names.lookup x=some .local:=by first|exact .inl rfl|exact .inr rfl|assumption):
  PS X (.Assign [.Name x a] e pos) (tAsg te (yt i)):=by
 intro pins s σ H D I h;refine wpAny_Assign_Name (thn (d pins s σ H _ I h) λv s1 ⟨y,j,k,l,m⟩=>?_) f;exact tF k b hi c l (λs2 n=>⟨_,j,n,m⟩) g
def VA(c:TT)(tb:TS):TS:=λD σ H=>∃W:Nat→St→Hp→Prop,(∃m,W m σ H)∧∀m σ H,W m σ H→
 c σ H λb H1=>if b=true then∃N:St→Hp→Prop,(∀σ' H',N σ' H'→∃m',m'<m∧W m' σ' H')∧tb {D with nx:=N,ct:=N,bk:=D.nx} σ H1 else D.nx σ H1
theorem Yd{c:Expr}{e:List Stmt}{q:TT}{tb:TS}(hp:PassesOwn (model X.prog X.w) X.A X.env X.xe)(y:PT X c q)(z:PSs X e tb):PS X (.While c e [] pos) (VA q tb):=by
 intro pins s σ H D I h;obtain⟨W,⟨B,C⟩,turn⟩:=h;refine wpAny_While (codeAny_whileLoop (λn s'=>∃σ' H',Inv X pins σ' H' s'∧W n σ' H') ?_ B ⟨σ,H,I,C⟩);rintro n s1 ⟨d,r,E,F⟩;refine wpAny_passesOwn hp (thn (y pins s1 d r _ E (turn n d r F)) λb s2 ⟨t,u,i⟩=>?_);cases b with
 | true =>
  obtain⟨N,x,i⟩:=i;rw[if_pos rfl];refine wpAny_passesOwn hp (thn (z pins s2 d t _ u i) λf G j=>?_);cases f with
  | next =>
   obtain⟨a,g,k,l⟩:=j;obtain⟨m,o,p⟩:=x a g l;exact⟨m,o,a,g,k,p⟩
  | cont =>
   obtain⟨a,g,k,l⟩:=j;obtain⟨m,o,p⟩:=x a g l;exact⟨m,o,a,g,k,p⟩
  | brk=>exact j
  | ret v=>exact j
 | false =>
  rw[if_neg ζv];exact wpAny_execs_nil ⟨d,t,u,i⟩
end
structure It where
 go:Nat→Hp→Prop
 yld:Nat→Hp→V→Hp→Prop
 stop:Nat→Hp→Prop
def FpOk(X:Cx)(pins:AL)(H:Hp)(b:Addr):Prop:=
 H b=none∧b≠X.env.locals∧b∉X.fs∧(b∈X.ex∨X.s₀.heap.objs.size≤b)∧(∀x c,X.env.cells.lookup x=some c→c≠b)∧∀p∈X.pn++pins,p.1≠b
theorem Inv.fpOk{X:Cx}{pins:AL}{σ:St}{H H':Hp}{s:Shared}{b:Addr}(I:Inv X pins σ H s)(a:s.heap.objs.size≤b)(d:H' b=none):FpOk X pins H' b:=by
 refine⟨d,ζ6 (ζC I.lt a),I.nofs a,.inr (ζ7 I.sz a),λx c e z=>?_,λp hp z=>?_⟩
 ·obtain⟨v,q⟩:=I.cell x c e;exact absurd (ζC q.lt (by rw[z];exact a)) (ξi _)
 ·exact absurd (ζC (ζl (I.pin p hp).1) (by rw[z];exact a)) (ξi _)
structure U3(G:Cx→Prop)(P:Program)(w:World)(K:ζa)(tg:Expr)(J:It)(fp:List Addr)(it:Addr)(tn:Nat→Heap→Prop):Prop where
 mem:it∈fp
 obj:∀i h,tn i h→∀b∈fp,∃o,h.get? b=some o∧∀v,o.data≠.cell v
 keep:∀i h h',tn i h→(∀b∈fp,∀o,h.get? b=some o→h'.get? b=some o)→tn i h'
 item:∀(X:Cx),X.prog=P→X.w=w→X.K=K→G X→∀(i:Nat) (pins:AL) (s:Shared) (σ:St) (H:Hp) (E:AM),Inv X pins σ H s→(∀b∈fp,FpOk X pins H b)→tn i s.heap→J.go i H→
  wpAny (model P w) X.A (pyNext (.ref it)) (λr s1=>∃u,r=some u∧
   wpAny (model P w) X.A (letOwnedTupleGo tg (.ref it) u) (λ_ s2=>∃x H',Inv X pins σ H' s2∧RelV x u∧J.yld i H x H'∧tn (i+1) s2.heap∧∀b∈fp,H' b=none) E s1) E s
 done:∀(X:Cx),X.prog=P→X.w=w→X.K=K→G X→∀(i:Nat) (pins:AL) (s:Shared) (σ:St) (H:Hp) (E:AM),Inv X pins σ H s→(∀b∈fp,FpOk X pins H b)→tn i s.heap→J.stop i H→
  wpAny (model P w) X.A (pyNext (.ref it)) (λr s1=>r=none∧Inv X pins σ H s1) E s
 self:∀(A:Around) (i:Nat) (s:Shared) (Q:AM) (E:AM),tn i s.heap→Q (.ref it) s→wpAny (model P w) A (pyIter (.ref it)) Q E s
abbrev Turn:=U3 λX=>X.calm=true
abbrev TI:=St→Hp→(It→Hp→Prop)→Prop
def PIEG(G:Cx→Prop)(X:Cx)(pins:AL)(σ:St)(tg:Expr)(R:It→Hp→Prop)(itv:Value)(s2:Shared):Prop:=
 ∃(it:Addr) (fp:List Addr) (tn:Nat→Heap→Prop) (J:It) (H':Hp),itv=.ref it∧Inv X pins σ H' s2∧U3 G X.prog X.w X.K tg J fp it tn∧tn 0 s2.heap∧(∀b∈fp,FpOk X pins H' b)∧R J H'
abbrev PIE:=PIEG λX=>X.calm=true
def PIG(G:Cx→Prop)(X:Cx)(tg iter:Expr)(wi:TI):Prop:=
 ∀(pins:AL) (s:Shared) (σ:St) (H:Hp) (R:It→Hp→Prop),Inv X pins σ H s→wi σ H R→
  wpAny (model X.prog X.w) X.A (eval iter X.env) (λv s1=>wpAny (model X.prog X.w) X.A (pyIter v) (PIEG G X pins σ tg R) X.xe s1) X.xe s
abbrev PI:=PIG λX=>X.calm=true
theorem zam{M:Model}{A:Around}{E:AM}{s:Shared}{tg:Expr}{it:Addr}{u:Value}{o:Obj}{n:String}{vs:Array Value}{Q:Unit→Shared→Prop}(b:s.heap.get? it=some o)(c:o.cls=.type n)(hd:o.data=.fields vs)
  (d:["enumerate","zip","dict_itemiterator","dict_reverseitemiterator","odict_iterator","itertools.zip_longest","itertools.pairwise"].contains n=false) (a:Q () s):wpAny M A (letOwnedTupleGo tg (.ref it) u) Q E s:=by
 unfold letOwnedTupleGo
 cases tg<;>first
  | exact AB a
  | (cases u<;>first
    | exact AB a
    | (refine AA (wpAny_load b ?_)
       rw[c,hd];show wpAny M A (if(["enumerate","zip","dict_itemiterator","dict_reverseitemiterator","odict_iterator","itertools.zip_longest","itertools.pairwise"].contains n&&vs[0]?==some (rawInt _))=true then _ else _) Q E s;rw[if_neg (by intro h;rw[d,ξz]at h;cases h)];exact AB a))
def Itl(K:ζa)(a:Addr):It:=
 ⟨λi H=>∃xs x,SqL K H a xs∧xs[i]?=some x,λi H x H'=>H'=H∧∀xs,SqL K H a xs→xs[i]?=some x,λi H=>∃xs,SqL K H a xs∧xs.length≤i⟩
def Itt(K:ζa)(a:Addr):It:=
 ⟨λi H=>∃xs x,SqT K H a xs∧xs[i]?=some x,λi H x H'=>H'=H∧∀xs,SqT K H a xs→xs[i]?=some x,λi H=>∃xs,SqT K H a xs∧xs.length≤i⟩
def Itr(lo:Int)(n:Nat):It:=⟨λi _=>i<n,λi H x H'=>H'=H∧x=.int (lo+i),λi _=>n≤i⟩
theorem Vx{G:Cx→Prop}(J:∀X,G X→Gd X){P:Program}{w:World}{K:ζa}{tg:Expr}(a it:Addr):U3 G P w K tg (Itl K a) [it] it (λi h=>h.IsListIter it a i) where
 mem:=by simp
 obj:=λi h st b f=>by
  have e:b=it:=by simpa using f
  subst e;obtain⟨o,e,c,d⟩:=st;exact⟨o,e,λv z=>by rw[d]at z;cases z⟩
 keep:=λi h h' st k=>st.at λo e=>k it (by simp) o e
 item:=by
  intro X l m n F i pins s σ H E I j st q;subst l m n;obtain⟨xs,x,hq,r⟩:=q;obtain⟨t,y,p,L⟩:=I.list hq;obtain⟨u,M,N⟩:=y.get r;obtain⟨f0,A,O,B,C,D⟩:=j it (by simp);refine wpAny_pyNext_list_item st p.isList (x:=u) (by simpa using M) λh' g sb=>?_;have Q:Inv X pins σ H {s with heap:=h'}:=I.turned (t':=s.toks) (λb o f e=>(sb.2 b f).trans e) f0 A B C D;obtain⟨o,e,c,d⟩:=id g;exact⟨u,rfl,zam (s:={s with heap:=h'}) e c d #[2] ⟨x,H,Q,N,⟨rfl,λys R=>by rw[I.list_inj R hq];exact r⟩,g,λb f=>(j b f).1⟩⟩
 done:=by
  intro X l m n F i pins s σ H E I j st q;subst l m n;obtain⟨xs,hq,r⟩:=q;obtain⟨t,y,p,L⟩:=I.list hq;obtain⟨f0,A,O,B,C,D⟩:=j it (by simp);have T:=y.length;exact Xl (I.hq (J _ F)) st p.isList (by simp;omega) λh' S=>⟨rfl,I.turned (t':=s.toks) (λb o f e=>S b o f e) f0 A B C D⟩
 self:=λ_ _ _ _ _ st h=>wpAny_pyIter_listiter st h
theorem Vv{P:Program}{w:World}{K:ζa}{tg:Expr}(a it:Addr):Turn P w K tg (Itt K a) [it] it (λi h=>h.IsTupleIter it a i) where
 mem:=by simp
 obj:=λi h st b f=>by
  have e:b=it:=by simpa using f
  subst e;obtain⟨o,e,c,d⟩:=st;exact⟨o,e,λv z=>by rw[d]at z;cases z⟩
 keep:=λi h h' st k=>st.at λo e=>k it (by simp) o e
 item:=by
  intro X m n q F i pins s σ H E I l st r;subst m n q;obtain⟨xs,x,hq,t⟩:=r;obtain⟨g,y,p,G⟩:=I.tuple hq;obtain⟨u,J,L⟩:=y.get t;obtain⟨f0,A,M,B,C,D⟩:=l it (by simp);refine wpAny_pyNext_tuple_item st (show s.heap.IsTuple a g.toArray from p) (x:=u) (by simpa using J) λh' j sb=>?_;have N:Inv X pins σ H {s with heap:=h'}:=I.turned (t':=s.toks) (λb o f e=>(sb.2 b f).trans e) f0 A B C D;obtain⟨o,e,c,d⟩:=id j;exact⟨u,rfl,zam (s:={s with heap:=h'}) e c d #[2] ⟨x,H,N,L,⟨rfl,λys O=>by rw[I.tuple_inj O hq];exact t⟩,j,λb f=>(l b f).1⟩⟩
 done:=by
  intro X m n q F i pins s σ H E I l st r;subst m n q;obtain⟨xs,hq,t⟩:=r;obtain⟨g,y,p,G⟩:=I.tuple hq;obtain⟨f0,A,M,B,C,D⟩:=l it (by simp);have R:=y.length;exact wpAny_pyNext_tuple_end (I.ok.hd F) st (show s.heap.IsTuple a g.toArray from p) (by simp;omega) λh' Q=>⟨rfl,I.turned (t':=s.toks) (λb o f e=>Q b o f e) f0 A B C D⟩
 self:=λ_ _ _ _ _ st h=>wpAny_pyIter_tupleiter st h
theorem Vw{P:Program}{w:World}{K:ζa}{tg:Expr}(it:Addr)(lo:Int)(n:Nat):Turn P w K tg (Itr lo n) [it] it (λi h=>IsRangeIter h it (lo+(i:Nat)*1) ((n:Int)-(i:Nat)) 1) where
 mem:=by simp
 obj:=λi h st b a=>by
  have e:b=it:=by simpa using a
  subst e;exact⟨_,st,λv z=>by
   have x:Data.fields _=Data.cell v:=z;cases x⟩
 keep:=λi h h' st k=>k it (by simp) _ st
 item:=by
  intro X f g j l i pins s σ H E I d st m;subst f g j;obtain⟨f0,p,y,q,r,u⟩:=d it (by simp);have W:=Walks.range (prog:=X.prog) (w:=X.w) (I.ok.hd l) it lo 1 n;refine W.item i s _ _ m st λv h' tk A c B=>?_;obtain⟨t,rfl⟩:=A;have C:Inv X pins σ H {s with heap:=h',toks:=tk}:=I.turned (λb o a e=>B b o (by simpa using a) e) f0 p q r u;refine⟨_,rfl,zam (s:={s with heap:=h',toks:=tk}) (n:= "range_iterator") c rfl rfl #[2] ⟨.int (lo+i),H,C,⟨t,?_⟩,⟨rfl,rfl⟩,c,λb a=>(d b a).1⟩⟩
  rw[Int.mul_one]
 done:=by
  intro X f g j l i pins s σ H E I d st m;subst f g j;obtain⟨f0,p,y,q,r,u⟩:=d it (by simp);exact wpAny_pyNext_range_end (I.ok.hd l) st (by have:n≤i:=m;omega) λh' D=>⟨rfl,I.turned (t':=s.toks) (λb o a e=>D b o a e) f0 p q r u⟩
 self:=λ_ _ _ _ _ st h=>wpAny_pyIter_rangeiter st h
section
variable {X:Cx}{tg:Expr}
def Vc(K:ζa)(tl:TE):TI:=λσ H R=>tl σ H λx H1=>∃a,x=.ref a∧(∃xs,SqL K H1 a xs)∧R (Itl K a) H1
def iTup(K:ζa)(tl:TE):TI:=λσ H R=>tl σ H λx H1=>∃a,x=.ref a∧(∃xs,SqT K H1 a xs)∧R (Itt K a) H1
theorem QQ{G:Cx→Prop}(d:∀X,G X→Gd X){l:Expr}{tl:TE}(f:PE X l tl):PIG G X tg l (Vc X.K tl):=by
 intro pins s σ H R I h;refine thn (f pins s σ H _ I h) λv s1 ⟨x,g,c,i,j⟩=>?_;obtain⟨a,e,⟨xs,hq⟩,q⟩:=j;subst e;cases i;obtain⟨k,n,p,r⟩:=c.list hq;refine wpAny_pyIter_list p.isList ?_;refine⟨s1.heap.objs.size,[s1.heap.objs.size],_,_,g,rfl,c.kept (t':=s1.toks) λb o e=>ζd _ e,Vx d a _,⟨_,ζo _ rfl,rfl,rfl⟩,λb m=>?_,q⟩
 have e:b=s1.heap.objs.size:=by simpa using m
 subst e;exact c.fpOk (ζp _) (c.hok.fresh (ζp _))
theorem zbA{l:Expr}{tl:TE}(a:PE X l tl):PI X tg l (Vc X.K tl):=QQ (λ_ h=>.inl h) a
theorem zdc{l:Expr}{tl:TE}(f:PE X l tl):PI X tg l (iTup X.K tl):=by
 intro pins s σ H R I h;refine thn (f pins s σ H _ I h) λv s1 ⟨x,g,c,i,j⟩=>?_;obtain⟨a,e,⟨xs,hq⟩,q⟩:=j;subst e;cases i;obtain⟨d,m,p,n⟩:=c.tuple hq;refine wpAny_pyIter_tuple (show s1.heap.IsTuple a d.toArray from p) ?_;refine⟨s1.heap.objs.size,[s1.heap.objs.size],_,_,g,rfl,c.kept (t':=s1.toks) λb o e=>ζd _ e,Vv a _,⟨_,ζo _ rfl,rfl,rfl⟩,λb k=>?_,q⟩
 have e:b=s1.heap.objs.size:=by simpa using k
 subst e;exact c.fpOk (ζp _) (c.hok.fresh (ζp _))
theorem QI{pins:AL}{σ:St}{H:Hp}{s:Shared}{R:It→Hp→Prop}{E:AM}{lo hi:Int}{t u v:Tok}{tk:Nat}(I:Inv X pins σ H s)(c:-(2^62)≤lo)(d:lo<2^62)(f:-(2^62)≤hi)(g:hi<2^62)
  (q:R (Itr lo (hi-lo).toNat) H):wpAny (model X.prog X.w) X.A (pyIter (.ref s.heap.objs.size)) (PIE X pins σ tg R) E {s with heap:=s.heap.push {cls:=.type "range", data:=.fields #[.int lo t,.int hi u,.int 1 v]},toks:=tk}:=by
 refine wpAny_pyIter_range (IsRange.new ..) (small_one c d f g) ?_;have a:Inv X pins σ H {s with heap:=s.heap.push {cls:=.type "range", data:=.fields #[.int lo t,.int hi u,.int 1 v]},toks:=tk}:=I.kept λb o e=>ζd _ e
 refine⟨(s.heap.push {cls:=.type "range", data:=.fields #[.int lo t,.int hi u,.int 1 v]}).objs.size,[(s.heap.push {cls:=.type "range", data:=.fields #[.int lo t,.int hi u,.int 1 v]}).objs.size],_,_,H,rfl,
  a.kept (t':=tk) λb o e=>ζd _ e,Vw _ lo (hi-lo).toNat,?_,λb h=>?_,q⟩
 ·have i:lo+((0:Nat):Int)*1=lo:=by simp
  have j:(((hi-lo).toNat:Nat):Int)-((0:Nat):Int)=Builtin.Range.rangeSize lo hi 1:=by rw[rangeSize_one];split<;>omega
  show IsRangeIter _ _ (lo+((0:Nat):Int)*1) ((((hi-lo).toNat:Nat):Int)-((0:Nat):Int)) 1;rw[i,j];exact ζo _ rfl
 ·have e:b=(s.heap.push {cls:=.type "range", data:=.fields #[.int lo t,.int hi u,.int 1 v]}).objs.size:=by simpa using h
  subst e;exact a.fpOk (ζp _) (a.hok.fresh (ζp _))
def zak(ta:TA):TI:=λσ H R=>ta σ H λvs H1=>∃j:Int,vs=[.int j]∧-(2^62)≤j∧j<2^62∧R (Itr 0 j.toNat) H1
theorem yn{a:Expr}{d:TA}{p b:Pos}(f:Gl X "range")(g:X.mg "range" = none)(i:PA X [a] d)(k:starEach [a] X.env=[(false,eval a X.env)]:=by rfl):PI X tg (.Call (.Name "range" p) [a] [] b) (zak d):=by
 intro pins s σ H R I h;refine Call_ (u8 I f g boot_range (PyProof.Rows.callWith_type1 (thn (i b pins s σ H _ I h) λus s1 ⟨vs,u,l,m,c⟩=>?_) k rfl));obtain⟨j,e,c,n,q⟩:=c;subst e;cases m with
 | cons r o =>
  cases o;obtain⟨t,rfl⟩:=r;exact call_range_1 (QI l ⋯ ⋯ c n (by simpa using q))
def tFor(wi:TI)(g:TG)(tb:TS):TS:=λD σ H=>wi σ H λJ H1=>∃W:Nat→Nat→St→Hp→Prop,(∃m,W 0 m σ H1)∧∀i m σ H,W i m σ H→
 (J.stop i H∧D.nx σ H)∨(J.go i H∧∃N:St→Hp→Prop,(∀σ' H',N σ' H'→∃m',m'<m∧W (i+1) m' σ' H')∧∀x H',J.yld i H x H'→g x σ H' λσ2 H2=>tb {D with nx:=N,ct:=N,bk:=D.nx} σ2 H2)
def Zn(fp:List Addr)(h:Heap):AL:=fp.filterMap λb=>(h.get? b).map λo=>(b,o)
theorem xS{fp:List Addr}{h:Heap}{b:Addr}{o:Obj}(a:b∈fp)(e:h.get? b=some o):(b,o)∈Zn fp h:=ζ4.mpr ⟨b,a,by rw[e];rfl⟩
theorem Tm{fp:List Addr}{h:Heap}{p:Addr×Obj}(hp:p∈Zn fp h):p.1∈fp∧h.get? p.1=some p.2:=by
 obtain⟨b,a,e⟩:=ζ4.mp hp;cases q:h.get? b with
 | none=>rw[q]at e;cases e
 | some o =>
  rw[q]at e;have c:(b,o)=p:=ζD e;subst c;exact⟨a,q⟩
theorem Inv.pinned{pins:AL}{σ:St}{H:Hp}{s:Shared}{fp:List Addr}(I:Inv X pins σ H s)(f:∀b∈fp,FpOk X pins H b)(g:∀b∈fp,∃o,s.heap.get? b=some o∧∀v,o.data≠.cell v):Inv X (pins++Zn fp s.heap) σ H s:=
 I.pins_of λp hp=>(ζu.mp hp).elim (λz=>I.pin p (ζw _ z)) λz=>by
  obtain⟨a,e⟩:=Tm z;obtain⟨f0,h,i,_⟩:=f p.1 a;obtain⟨o,c,d⟩:=g p.1 a;rw[e]at c;cases c;exact⟨e,f0,h,i,d⟩
theorem Inv.unpinned{pins pl:AL}{σ:St}{H:Hp}{s:Shared}(I:Inv X (pins++pl) σ H s):Inv X pins σ H s:=I.pins_of λp hp=>I.pin p (ζw _ (ζy _ hp))
theorem zbu{G:Cx→Prop}{c:Expr}{y:List Stmt}{U:TI}{g:TG}{tb:TS}{L:Pos}(hp:PassesOwn (model X.prog X.w) X.A X.env X.xe)(V:G X)(hi:PIG G X tg c U)(hg:PG X tg g)(j:PSs X y tb)
  (hs:∀x,foldedSetIterable c X.env x=pure x:=by intro _;rfl):PS X (.For tg c y [] L) (tFor U g tb):=by
 intro pins s σ H D I h;refine wpAny_For (thn (hi pins s σ H _ I h) λv s1 h1=>thn h1 λa0 s2 h2=>?_) hs;obtain⟨it,fp,tn,J,H2,e,I2,T,M,Y,W,⟨m0,w0⟩,turn⟩:=h2;subst e;have k:∀{H':Hp},(∀b∈fp,H' b=none)→∀b∈fp,FpOk X pins H' b:=λhn b j=>⟨hn b j,(Y b j).2⟩
 refine codeAny_forLoop_any (λn s'=>∃i σ' H',Inv X pins σ' H' s'∧tn i s'.heap∧(∀b∈fp,H' b=none)∧W i n σ' H') ?_ m0 ⟨0,σ,H2,I2,M,λb j=>(Y b j).1,w0⟩;rintro n Z ⟨i,l,K,I3,C,E,w3⟩;rcases turn i n l K w3 with⟨stop,qn⟩|⟨go,N,hN,step⟩
 ·refine wpAny_passesOwn hp (thn (T.done X rfl rfl rfl V i pins Z l K X.xe I3 (k E) C stop) λr s4 ⟨O,I4⟩=>?_);subst O;exact wpAny_execs_nil ⟨l,K,I4,qn⟩
 ·refine wpAny_passesOwn hp (thn (T.item X rfl rfl rfl V i pins Z l K X.xe I3 (k E) C go) λr s4 ⟨u,O,h4⟩=>?_);subst O;refine wpAny_passesOwn hp (thn h4 λ_ s5 ⟨x,H5,I5,r5,y5,B,P⟩=>?_);have Q:=I5.pinned (k P) (T.obj _ _ B);refine wpAny_passesOwn hp (thn (hg _ s5 l H5 x u _ Q r5 (step x H5 y5)) λ_ s6 ⟨R,H6,I6,q6⟩=>?_);refine wpAny_passesOwn hp (thn (j _ s6 R H6 _ I6 q6) λf S z=>?_);have p:∀{a:St} {q:Hp},Inv X (pins++Zn fp s5.heap) a q S→N a q→∃m,m<n∧∃i σ' H',Inv X pins σ' H' S∧tn i S.heap∧(∀b∈fp,H' b=none)∧W i m σ' H':=λ{a q} t F=>by
   obtain⟨m',hm,w7⟩:=hN a q F;refine⟨m',hm,i+1,a,q,t.unpinned,T.keep _ _ _ B λb j o e=>(t.pin (b,o) (ζw _ (ζw _ (xS j e)))).1,λb j=>?_,w7⟩
   obtain⟨o,e,d⟩:=T.obj _ _ B b j;exact(t.pin (b,o) (ζw _ (ζw _ (xS j e)))).2.1
  cases f with
  | next=>obtain⟨a,q,t,F⟩:=z;exact p t F
  | cont=>obtain⟨a,q,t,F⟩:=z;exact p t F
  | brk=>obtain⟨a,q,t,z⟩:=z;exact⟨a,q,t.unpinned,z⟩
  | ret v=>obtain⟨x7,a,q,t,r7,z⟩:=z;exact⟨x7,a,q,t.unpinned,r7,z⟩
theorem xR{a:Expr}{b:List Stmt}{d:TI}{g:TG}{tb:TS}{c:Pos}(hp:PassesOwn (model X.prog X.w) X.A X.env X.xe)(e:X.calm=true)(hi:PI X tg a d)(f:PG X tg g)(h:PSs X b tb)
  (i:∀x,foldedSetIterable a X.env x=pure x:=by intro _;rfl):PS X (.For tg a b [] c) (tFor d g tb):=zbu (G:=λX=>X.calm=true) hp e hi f h i
end
abbrev R2:=V→V→Hp→VK→Prop
def OpR(X:Cx)(f:Value→Value→Sem Value)(r:R2):Prop:=
 ∀(pins:AL) (s:Shared) (σ:St) (H:Hp) (x y:V) (v u:Value) (Q:VK),Inv X pins σ H s→RelV x v→RelV y u→r x y H Q→
  wpAny (model X.prog X.w) X.A (f v u) (EP X pins σ Q) X.xe s
def UnR(X:Cx)(f:Value→Sem Value)(r:V→Hp→VK→Prop):Prop:=
 ∀(pins:AL) (s:Shared) (σ:St) (H:Hp) (x:V) (v:Value) (Q:VK),Inv X pins σ H s→RelV x v→r x H Q→
  wpAny (model X.prog X.w) X.A (f v) (EP X pins σ Q) X.xe s
def yo(X:Cx)(f:Value)(r:List V→Hp→VK→Prop):Prop:=
 ∀(pins:AL) (s:Shared) (σ:St) (H:Hp) (xs:List V) (us:AK) (Q:VK),Inv X pins σ H s→Vals xs us→r xs H Q→
  wpAny (model X.prog X.w) X.A (call f us) (EP X pins σ Q) X.xe s
def tOp(r:R2)(ta tb:TE):TE:=λσ H Q=>ta σ H λx H1=>tb σ H1 λy H2=>r x y H2 Q
def tUn(r:V→Hp→VK→Prop)(ta:TE):TE:=λσ H Q=>ta σ H λx H1=>r x H1 Q
def rI(C:Int→Int→Prop)(g:Int→Int→V):R2:=λx y H Q=>∃i j,x=.int i∧y=.int j∧C i j∧Q (g i j) H
def rI0(g:Int→Int→V):R2:=λx y H Q=>∃i j,x=.int i∧y=.int j∧Q (g i j) H
def rU(g:Int→V):V→Hp→VK→Prop:=λx H Q=>∃i,x=.int i∧Q (g i) H
section
variable {X:Cx}{a b c:Expr}{ta tb tc:TE}{pos:Pos}
theorem binT(i:PE X a ta)(j:PE X b tb){pins:AL}{s:Shared}{σ:St}{H:Hp}{R:V→V→Hp→Prop}(I:Inv X pins σ H s)
  (h:ta σ H λx g=>tb σ g λy c=>R x y c) {Q:AM} {f:Value→Value→Sem Value}
  (k:∀v u s2 x y c,Inv X pins σ c s2→RelV x v→RelV y u→R x y c→wpAny (model X.prog X.w) X.A (f v u) Q X.xe s2) :
  wpAny (model X.prog X.w) X.A (eval a X.env) (λv d=>wpAny (model X.prog X.w) X.A (eval b X.env) (λu e=>wpAny (model X.prog X.w) X.A (f v u) Q X.xe e) X.xe d) X.xe s:=by
 refine thn (i pins s σ H _ I h) λv s1 ⟨x,g,l,m,n⟩=>?_;refine thn (j pins s1 σ g _ l n) λu s2 ⟨y,c,o,p,q⟩=>?_;exact k v u s2 x y c o m p q
theorem zp{op:Operator}{r:R2}(c:OpR X (binaryOp op) r)(d:PE X a ta)(e:PE X b tb):PE X (.BinOp a op b pos) (tOp r ta tb):=by
 intro pins s σ H Q I h;exact wpAny_BinOp (binT d e I h λv u s2 x y f g i j q=>c pins s2 σ f x y v u Q g i j q)
theorem uL{op:UnaryOp}{r:V→Hp→VK→Prop}(b:UnR X (unaryOp op) r)(c:PE X a ta):PE X (.UnaryOp op a pos) (tUn r ta):=by
 intro pins s σ H Q I h;exact UnaryOp_ (thn (c pins s σ H _ I h) λv s1 ⟨x,d,e,f,g⟩=>b pins s1 σ d x v Q e f g)
theorem opI{f:Value→Value→Sem Value}{C:Int→Int→Prop}{g:Int→Int→Int}
  (a:∀(i j:Int) (t u:Tok) (s:Shared) (Q:AM) (E:AM),C i j→Q (.int (g i j) s.toks) {s with toks:=s.toks+1}→wpAny (model X.prog X.w) X.A (f (.int i t) (.int j u)) Q E s) :
  OpR X f (rI C λi j=>.int (g i j)):=by
 intro pins s σ H x y v u Q I b c h;obtain⟨i,j,rfl,rfl,d,q⟩:=h;obtain⟨t,rfl⟩:=b;obtain⟨e,rfl⟩:=c;exact a i j t e s _ _ d ⟨.int (g i j),H,I.tok _,⟨_,rfl⟩,q⟩
theorem opI0{f:Value→Value→Sem Value}{g:Int→Int→Int}
  (a:∀(i j:Int) (t u:Tok) (s:Shared) (Q:AM) (E:AM),Q (.int (g i j) s.toks) {s with toks:=s.toks+1}→wpAny (model X.prog X.w) X.A (f (.int i t) (.int j u)) Q E s) :
  OpR X f (rI0 λi j=>.int (g i j)):=by
 intro pins s σ H x y v u Q I b c h;obtain⟨i,j,rfl,rfl,q⟩:=h;obtain⟨t,rfl⟩:=b;obtain⟨d,rfl⟩:=c;exact a i j t d s _ _ ⟨.int (g i j),H,I.tok _,⟨_,rfl⟩,q⟩
theorem opB0{f:Value→Value→Sem Value}{g:Int→Int→Bool}
  (a:∀(i j:Int) (t u:Tok) (s:Shared) (Q:AM) (E:AM),Q (.bool (g i j)) s→wpAny (model X.prog X.w) X.A (f (.int i t) (.int j u)) Q E s) :
  OpR X f (rI0 λi j=>.bl (g i j)):=by
 intro pins s σ H x y v u Q I b c h;obtain⟨i,j,rfl,rfl,q⟩:=h;obtain⟨t,rfl⟩:=b;obtain⟨d,rfl⟩:=c;exact a i j t d s _ _ ⟨.bl (g i j),H,I,rfl,q⟩
def CDiv(i j:Int):Prop:=0<j∧j<1073741824
def CPow(i j:Int):Prop:=0≤j∧j≤1000000∧i.natAbs<2^64
theorem yU:OpR X (binaryOp .Add) (rI0 λi j=>.int (i+j)):=opI0 λ_ _ _ _ _ _ _ q=>add_int q
theorem Yj:OpR X (binaryOp .Sub) (rI0 λi j=>.int (i-j)):=opI0 λ_ _ _ _ _ _ _ q=>sub_int q
theorem zS:OpR X (binaryOp .FloorDiv) (rI CDiv λi j=>.int (i/j)):=opI λi j _ _ _ _ _ a q=>by
 have b:(0:Int)<j:=a.1;have c:j<1073741824:=a.2;exact floordiv_int ⋯ (by rw[Int.fdiv_eq_ediv_of_nonneg i ⋯];exact q) (.inl (PyProof.noPylong_small ⋯))
theorem zK:OpR X (binaryOp .Mod) (rI (λ_ j=>0<j) λi j=>.int (i%j)):=opI λi j _ _ _ _ _ a q=>by
 have b:(0:Int)<j:=a;exact mod_int' ⋯ (by rw[Int.fmod_eq_emod_of_nonneg i ⋯];exact q)
theorem Yk:OpR X (binaryOp .Pow) (rI CPow λi j=>.int (i^j.toNat)):=opI λ_ _ _ _ _ _ _ a q=>pow_int_small a.1 a.2.1 a.2.2 q
theorem unI{f:Value→Sem Value}{g:Int→Int}
  (a:∀(i:Int) (t:Tok) (s:Shared) (Q:AM) (E:AM),Q (.int (g i) s.toks) {s with toks:=s.toks+1}→wpAny (model X.prog X.w) X.A (f (.int i t)) Q E s) :
  UnR X f (rU λi=>.int (g i)):=by
 intro pins s σ H x v Q I b h;obtain⟨i,rfl,q⟩:=h;obtain⟨t,rfl⟩:=b;exact a i t s _ _ ⟨.int (g i),H,I.tok _,⟨_,rfl⟩,q⟩
theorem wS:UnR X (unaryOp .USub) (rU λi=>.int (-i)):=unI λ_ _ _ _ _ q=>neg_int q
end
def scal:V→V→Bool
 | .non,.non=>true | .non,.int _=>true | .int _,.non=>true | .non,.bl _=>true | .bl _,.non=>true | .non,.str _=>true | .str _,.non=>true
 | .int _,.int _=>true | .bl _,.bl _=>true | .str _,.str _=>true | .byt _,.byt _=>true
 | .int _,.str _=>true | .str _,.int _=>true | .bl _,.str _=>true | .str _,.bl _=>true
 | _,_=>false
def rEq:R2:=λx y H Q=>scal x y=true∧Q (.bl (decide (x=y))) H
def rNe:R2:=λx y H Q=>scal x y=true∧Q (.bl (!decide (x=y))) H
theorem Ze{i j:Int}:decide (V.int i=V.int j)=(i==j):=by
 rw[ξP];simp
theorem zaV{i j:Bool}:decide (V.bl i=V.bl j)=(i==j):=by
 rw[ξP];simp
theorem UZ{i j:Str}:decide (V.str i=V.str j)=(i==j):=by
 rw[ξP];simp
theorem U0{i j:Array UInt8}:decide (V.byt i=V.byt j)=(i.toList==j.toList):=by
 rw[ξP];cases i;cases j;simp
section
variable {X:Cx}{a b c:Expr}{ta tb tc:TE}{pos:Pos}
theorem yh{pins:AL}{σ:St}{H:Hp}{s:Shared}{Q:VK}{k a:Bool}(I:Inv X pins σ H s)(q:Q (.bl k) H)(e:k=a):EP X pins σ Q (.bool a) s:=by
 subst e;exact⟨.bl k,H,I,rfl,q⟩
theorem xu:OpR X (compareOp .Eq) rEq:=by
 intro pins s σ H x y v u Q I d a h;obtain⟨c,q⟩:=h;cases x with
 | non =>
  cases d;cases y with
  | non=>cases a;exact PySem.EqNone.eq_none_none (yh I q (by simp))
  | bl j=>cases a;exact PySem.EqNone.eq_none_bool (yh I q (by simp))
  | int j=>obtain⟨b,rfl⟩:=a;exact PySem.EqNone.eq_none_int (yh I q (by simp))
  | str j=>obtain⟨b,rfl⟩:=a;exact PySem.EqNone.eq_none_str (yh I q (by simp))
  | _=>exact absurd (show false=true from c) ζv
 | bl i =>
  cases d;cases y with
  | non=>cases a;exact PySem.EqNone.eq_bool_none (yh I q (by simp))
  | bl j=>cases a;exact eq_bool (yh I q zaV)
  | str j=>obtain⟨b,rfl⟩:=a;exact PySem.EqMixed.eq_bool_str (yh I q (by simp))
  | _=>exact absurd (show false=true from c) ζv
 | int i =>
  obtain⟨t,rfl⟩:=d;cases y with
  | non=>cases a;exact PySem.EqNone.eq_int_none (yh I q (by simp))
  | int j=>obtain⟨b,rfl⟩:=a;exact eq_int (yh I q Ze)
  | str j=>obtain⟨b,rfl⟩:=a;exact PySem.EqMixed.eq_int_str (yh I q (by simp))
  | _=>exact absurd (show false=true from c) ζv
 | str i =>
  obtain⟨t,rfl⟩:=d;cases y with
  | non=>cases a;exact PySem.EqNone.eq_str_none (yh I q (by simp))
  | bl j=>cases a;exact PySem.EqMixed.eq_str_bool (yh I q (by simp))
  | int j=>obtain⟨b,rfl⟩:=a;exact PySem.EqMixed.eq_str_int (yh I q (by simp))
  | str j=>obtain⟨b,rfl⟩:=a;exact eq_str (yh I q UZ)
  | _=>exact absurd (show false=true from c) ζv
 | byt i =>
  obtain⟨t,rfl⟩:=d;cases y with
  | byt j=>obtain⟨b,rfl⟩:=a;exact PySem.W.eq_bytes (yh I q U0)
  | _=>exact absurd (show false=true from c) ζv
 | _=>cases y<;>exact absurd (show false=true from c) ζv
theorem zd7:OpR X (compareOp .NotEq) rNe:=by
 intro pins s σ H x y v u Q I d a h;obtain⟨c,q⟩:=h;cases x with
 | non =>
  cases d;cases y with
  | non=>cases a;exact PySem.EqNone.ne_none_none (yh I q (by simp))
  | bl j=>cases a;exact PySem.EqNone.ne_none_bool (yh I q (by simp))
  | int j=>obtain⟨b,rfl⟩:=a;exact PySem.EqNone.ne_none_int (yh I q (by simp))
  | str j=>obtain⟨b,rfl⟩:=a;exact PySem.EqNone.ne_none_str (yh I q (by simp))
  | _=>exact absurd (show false=true from c) ζv
 | bl i =>
  cases d;cases y with
  | non=>cases a;exact PySem.EqNone.ne_bool_none (yh I q (by simp))
  | bl j=>cases a;exact ne_bool (yh I q (congrArg not zaV))
  | str j=>obtain⟨b,rfl⟩:=a;exact PySem.EqMixed.ne_bool_str (yh I q (by simp))
  | _=>exact absurd (show false=true from c) ζv
 | int i =>
  obtain⟨t,rfl⟩:=d;cases y with
  | non=>cases a;exact PySem.EqNone.ne_int_none (yh I q (by simp))
  | int j=>obtain⟨b,rfl⟩:=a;exact ne_int (yh I q (congrArg not Ze))
  | str j=>obtain⟨b,rfl⟩:=a;exact PySem.EqMixed.ne_int_str (yh I q (by simp))
  | _=>exact absurd (show false=true from c) ζv
 | str i =>
  obtain⟨t,rfl⟩:=d;cases y with
  | non=>cases a;exact PySem.EqNone.ne_str_none (yh I q (by simp))
  | bl j=>cases a;exact PySem.EqMixed.ne_str_bool (yh I q (by simp))
  | int j=>obtain⟨b,rfl⟩:=a;exact PySem.EqMixed.ne_str_int (yh I q (by simp))
  | str j=>obtain⟨b,rfl⟩:=a;exact ne_str (yh I q (congrArg not UZ))
  | _=>exact absurd (show false=true from c) ζv
 | byt i =>
  obtain⟨t,rfl⟩:=d;cases y with
  | byt j=>obtain⟨b,rfl⟩:=a;exact PySem.W.ne_bytes (yh I q (congrArg not U0))
  | _=>exact absurd (show false=true from c) ζv
 | _=>cases y<;>exact absurd (show false=true from c) ζv
theorem vU:OpR X (compareOp .Lt) (rI0 λi j=>.bl (decide (i<j))):=opB0 λ_ _ _ _ _ _ _ q=>lt_int q
theorem zcH:OpR X (compareOp .LtE) (rI0 λi j=>.bl (decide (i≤j))):=opB0 λ_ _ _ _ _ _ _ q=>le_int q
theorem uN:OpR X (compareOp .Gt) (rI0 λi j=>.bl (decide (j<i))):=opB0 λ_ _ _ _ _ _ _ q=>gt_int q
theorem zcI:OpR X (compareOp .GtE) (rI0 λi j=>.bl (decide (j≤i))):=opB0 λ_ _ _ _ _ _ _ q=>ge_int q
theorem UA:OpR X (compareOp .IsNot) (λx y H Q=>y=.non∧Q (.bl (!decide (x=.non))) H):=by
 intro pins s σ H x y v u Q I a b h;obtain⟨rfl,q⟩:=h;cases b;refine isnot_none_gen (yh I q ?_)
 cases x<;>first
  | (cases a;rfl)
  | (obtain⟨t,rfl⟩:=a;rfl)
theorem zG(b:Expr){op:CmpOp}(h:op≠.In:=by decide)(a:op≠.NotIn:=by decide):behindInMarks op b=false:=by
 have c:(op==CmpOp.In)=false:=by cases op<;>first|rfl|exact absurd rfl h
 have d:(op==CmpOp.NotIn)=false:=by cases op<;>first|rfl|exact absurd rfl a
 cases b<;>simp[behindInMarks,c,d]
theorem x6{op:CmpOp}{r:R2}(c:OpR X (compareOp op) r)(d:PE X a ta)(e:PE X b tb)(f:behindInMarks op b=false):PE X (.Compare a [op] [b] pos) (tOp r ta tb):=by
 intro pins s σ H Q I h;exact wpAny_Compare1 (binT d e I h λv u s2 x y g i j k q=>c pins s2 σ g x y v u Q i j k q) f
def Qh(t:TE):TT:=λσ H Q=>t σ H λx H'=>∃k,x=.bl k∧Q k H'
theorem zv{op:CmpOp}{r:R2}(d:OpR X (compareOp op) r)(f:PE X a ta)(g:PE X b tb)(i:behindInMarks op b=false):PT X (.Compare a [op] [b] pos) (Qh (tOp r ta tb)):=by
 intro pins s σ H Q I h;refine wpAny_isTrue_Compare1 (thn (f pins s σ H _ I h) λv s1 ⟨x,j,l,m,n⟩=>thn (g pins s1 σ j _ l n) λu s2 ⟨y,o,p,q,t⟩ =>
  thn (d pins s2 σ o x y v u _ p m q t) λc D ⟨z,w,A,B,k,e,C⟩=>?_) i
 subst e;cases B;exact wpAny_truthy_bool ⟨w,A,C⟩
def VB(r r':R2)(ta tb tc:TE):TE:=λσ H Q=>ta σ H λx H1=>tb σ H1 λy H2=>r x y H2 λz H3=>∃k,z=.bl k∧
 (if k=true then tc σ H3 λw' H4=>r' y w' H4 Q else Q (.bl false) H3)
theorem WW{op f:CmpOp}{r i:R2}(o:OpR X (compareOp op) r)(g:OpR X (compareOp f) i)(p:PE X a ta)(q:PE X b tb)(t:PE X c tc)
  (w:lastMarks [op,f] [b,c]=false:=by with_unfolding_all rfl):PE X (.Compare a [op,f] [b,c] pos) (VB r i ta tb tc):=by
 intro pins s σ H Q I h;refine Compare_chain (thn (p pins s σ H _ I h) λv s1 ⟨x,A,B,C,D⟩=>chain_link (thn (q pins s1 σ A _ B D) λu s2 ⟨y,E,F,j,G⟩ =>
  thn (o pins s2 σ E x y v u _ F C j G) λd J ⟨z,l,m,K,k,e,n⟩=>?_)) w
 subst e;cases K;refine wpAny_truthy_bool ?_;cases k with
 | false=>exact ite_ff ⟨.bl false,l,m,rfl,n⟩
 | true=>exact ite_tt (chain_last (thn (t pins J σ l _ m n) λL M ⟨N,O,P,R,S⟩=>g pins M σ O y N u L Q P j R S))
theorem Wk:(sizeLine:Nat)<2^63:=by rw[sizeLine_eq];decide
theorem wa{x:V}{us:AK}(r:Vals [x] us):∃u,us=[u]∧RelV x u:=by
 cases r with
 | cons a b=>cases b;exact⟨_,rfl,a⟩
theorem zdV{x y:V}{us:AK}(r:Vals [x,y] us):∃u a,us=[u,a]∧RelV x u∧RelV y a:=by
 cases r with
 | cons b c =>
  cases c with
  | cons d e=>cases e;exact⟨_,_,rfl,b,d⟩
theorem ux(b:X.calm=true):yo X (.builtin "max") (λxs H Q=>∃i j,xs=[.int i,.int j]∧Q (.int (if j>i then j else i)) H):=by
 intro pins s σ H xs us Q I r h;obtain⟨i,j,rfl,q⟩:=h;obtain⟨u,c,rfl,⟨t,rfl⟩,⟨d,rfl⟩⟩:=zdV r;refine max_two_ints (I.ok.hd b) λh' tk k=>⟨_,H,I.kept k,?_,q⟩
 by_cases a:j>i
 ·rw[if_pos a,if_pos a];exact⟨_,rfl⟩
 ·rw[if_neg a,if_neg a];exact⟨_,rfl⟩
theorem TY:yo X (.type "int") (λxs H Q=>(∃i,xs=[.int i]∧Q (.int i) H)∨∃k,xs=[.bl k]∧Q (.int (if k then 1 else 0)) H):=by
 intro pins s σ H xs us Q I r h;rcases h with⟨i,rfl,q⟩|⟨k,rfl,q⟩
 ·obtain⟨u,rfl,t,rfl⟩:=wa r;exact call_int_int ⟨.int i,H,I,⟨_,rfl⟩,q⟩
 ·obtain⟨u,rfl,a⟩:=wa r;cases a;exact call_int_bool ⟨.int (if k then 1 else 0),H,I.tok _,⟨_,rfl⟩,q⟩
end
theorem Tn{h:Heap}{dx:Addr}{d:AN}(n:h.Ns1 dx d):∃od,h.get? dx=some od∧∀b,PySem.W.lookIn b od=some (d b):=by
 obtain⟨o,f,m,g,hd,i,_,j⟩:=n;refine⟨o,g,λb=>?_⟩
 have e:=j b;unfold nsFind findBy at e;rw[←Array.find?_toList]at e;unfold PySem.W.lookIn;rw[hd];dsimp only;split
 ·rename_i y q;rw[q]at e;exact congrArg some e
 ·rename_i q;rw[q]at e;have a:f.toList.any (·.refKey)=false:=by
   rw[List.any_eq_false];intro y k;obtain⟨z,t,c⟩:=i y (Array.mem_toList_iff.mp k);simp[DictEntry.refKey,c]
  have l:¬f.toList.any (·.refKey)=true:=by rw[a];exact ζv
  rw[if_neg l];exact congrArg some e
section
variable {prog:Program}{w:World}{A:Around}{E:AM}{s:Shared}{K:ζa}{x dx C f:Addr}{mA:AN}{name:Str}{v:Value}
end
section
variable {P:Program}{w:World}{H H':Hp}{h h':Heap}{a C dx:Addr}{fs fs':List (Str×V)}
end
section
variable {X:Cx}{pins:AL}{σ:St}{H:Hp}{s:Shared}{a C dx:Addr}{fs:List (Str×V)}{f:Str}{v:V}{A:Around}{E:AM}
theorem zcj{prog:Program}{w:World}{env:Env}{e:Expr}{f:Str}{b:Pos}{s:Shared}{Q:AM}(c:attributeBase e f env (eval e env)=eval e env)
  (h:wpAny (model prog w) A (eval e env) (λo a=>wpAny (model prog w) A (getAttr o f true) Q E a) E s):wpAny (model prog w) A (eval (.Attribute e f b) env) Q E s:=
 Attribute_any_ h (by rw[arm_eval_Attribute,c])
end
section
variable {X:Cx}{o e value:Expr}{f:Str}{pos pos' tpos:Pos}{ta tv:TE}
end
section
variable {X:Cx}{pins:AL}{σ:St}{H:Hp}{s:Shared}{A:Around}{E:AM}{Q:AM}{c:Value}{b:Bool}
end
structure Room(k:Nat)(A:Around):Prop where
 hd:A.handled=none
 dp:A.depth+3*k+5<recursionLimit
 un:A.units+16*k+200<cLine
 gd:A.guards=some []
theorem Room.mono{j k:Nat}{A:Around}(r:Room k A)(h:j≤k):Room j A:=⟨r.hd,by have:=r.dp;omega,by have:=r.un;omega,r.gd⟩
theorem Room.deeper{k:Nat}{A:Around}(r:Room (k+1) A)(env:Env):Room k (A.deeper env):=
 ⟨r.hd,by have:=r.dp;show A.depth+1+3*k+5<_;omega,by have:=r.un;show A.units+3+16*k+200<_;omega,r.gd⟩
theorem VR{A:Around}{C:Addr}{us:AK}{a:List (Str×Value)}:(A.under (.builtin "type.__call__" ⟨.ref C::us,a⟩)).depth=A.depth+1:=by
 first|rfl|simp[Around.under,Code.weight,Code.isCreation,Code.isGuard,Code.isCaller,Code.frames,Code.isFrame,guardIds]
theorem VQ{A:Around}{C:Addr}{us:AK}{a:List (Str×Value)}:(A.under (.builtin "type.__call__" ⟨.ref C::us,a⟩)).units=A.units+1:=by
 first|rfl|simp[Around.under,Code.cUnits,Code.frames,Code.isFrame]
theorem Room.make{k:Nat}{A:Around}(r:Room (k+1) A)(C:Addr)(us:AK)(a:List (Str×Value)):Room k (A.under (.builtin "type.__call__" ⟨.ref C::us,a⟩)):=
 ⟨r.hd,by have:=r.dp;rw[VR];omega,by have:=r.un;rw[VQ];omega,r.gd⟩
theorem Room.depth{k:Nat}{A:Around}(r:Room k A):A.depth<recursionLimit:=by have:=r.dp;omega
theorem Room.units{k:Nat}{A:Around}(r:Room k A):A.units+64<cLine:=by have:=r.un;omega
def tNil:TA:=λ_ H Q=>Q [] H
def zF(ta:TE)(tr:TA):TA:=λσ H Q=>ta σ H λx H1=>tr σ H1 λxs H2=>Q (x::xs) H2
section
variable {X:Cx}{e:Expr}{es:List Expr}{te:TE}{t:TA}{pos:Pos}
theorem zd:PA X [] tNil:=λ_ _ _ _ H Q I h=>Calls.spliced_nil ⟨[],H,I,.nil,h⟩
theorem zb(b:PE X e te)(c:PA X es t)(d:starEach (e::es) X.env=(false,eval e X.env)::starEach es X.env:=by rfl):PA X (e::es) (zF te t):=by
 intro a pins s σ H Q I h;rw[d];show wpAny _ _ (spliced ((false,eval e X.env)::backTo a (starEach es X.env))) _ _ s;refine Calls.spliced_cons (thn (b pins s σ H _ I h) λu s1 ⟨x,f,g,i,j⟩=>?_);exact thn (c a pins s1 σ f _ g j) λus s2 ⟨xs,k,l,m,n⟩=>⟨x::xs,k,l,.cons i m,n⟩
def tTup(t:TA):TE:=λσ H Q=>t σ H λxs H1=>xs.length≤sizeLine∧∀p,H1 p=none→Q (.ref p) (upd H1 p (.tup xs))
def tLst(t:TA):TE:=λσ H Q=>t σ H λxs H1=>xs.length≤sizeLine∧∀p,H1 p=none→Q (.ref p) (upd H1 p (.lst xs))
theorem xy{x1}(h:PA X es t):PE X (.Tuple es x1 pos) (tTup t):=by
 intro pins s σ H Q I hq;refine wpAny_Tuple_spliced (thn (h pos pins s σ H _ I hq) λus s1 ⟨xs,a,c,r,z,q⟩=>⟨by rw[←r.length];exact z,?_⟩);have d:a s1.heap.objs.size=none:=c.hok.fresh (ζp _);refine⟨.ref s1.heap.objs.size,upd a s1.heap.objs.size (.tup xs),c.laid (t':=s1.toks) (λb u e=>ζd _ e) (ζp _) ?_,rfl,q _ d⟩
 exact⟨z,us,r,⟨_,ζo _ rfl,rfl,_,rfl⟩⟩
theorem ya(h:PA X es t):PE X (.List es pos) (tLst t):=by
 intro pins s σ H Q I hq;refine wpAny_List_spliced (thn (h pos pins s σ H _ I hq) λus s1 ⟨xs,a,c,r,z,q⟩=>⟨by rw[←r.length];exact z,?_⟩);have d:a s1.heap.objs.size=none:=c.hok.fresh (ζp _);refine⟨.ref s1.heap.objs.size,upd a s1.heap.objs.size (.lst xs),c.laid (t':=s1.toks) (λb u e=>ζd _ e) (ζp _) ?_,rfl,q _ d⟩
 exact⟨z,us,0,r,ζo _ rfl⟩
end
abbrev Sp:=List V→Hp→VK→XK→Prop
abbrev CXT:=List Env→Hp→Shared→XK→Value→Shared→Prop
structure Env0(P:Program)(w:World)(K:ζa)(mg:AN)(base:Heap)(A:Around)(outer:List Env)(s:Shared)(H:Hp):Prop where
 frames:A.frames=some outer
 mod:Mod K mg base
 bs:∀b o,base.get? b=some o→s.heap.get? b=some o∧H b=none
 bsz:base.objs.size≤s.heap.objs.size
 funs:s.heap.FunFrames base outer
 frf:∀b∈frs outer,H b=none
 hok:HOk P w H s.heap
 bare:AllBare s.gens
 tb:TbOk K H
def CE(outer:List Env)(P:Program)(w:World)(H:Hp)(s:Shared)(Q:VK)(u:Value)(s':Shared):Prop:=
 ∃v H',s'.os=s.os∧AllBare s'.gens∧Un (frs outer) [] H H' s.heap s'.heap∧HOk P w H' s'.heap∧RelV v u∧Q v H'
def CR(CX:CXT)(outer:List Env)(P:Program)(w:World)(H:Hp)(s:Shared)(Q:VK)(E:XK)(r:Result)(s':Shared):Prop:=
 match r with
 | .ok (.ret u)=>CE outer P w H s Q u s'
 | .ok _=>False
 | .error e=>CX outer H s E e s'
structure FnOk(P:Program)(w:World)(K:ζa)(mg:AN)(base:Heap)(CX:CXT)(k:Nat)(f:Addr)(fd:FuncData)(ps:AJ)(sp:Sp):Prop where
 len:∀vs H Q E,sp vs H Q E→vs.length=ps.length
 run:∀(A:Around) (outer:List Env) (s:Shared) (H:Hp) (args:Args) (us:AK) (vs:List V) (Q:VK) (E:XK),Room k A→Env0 P w K mg base A outer s H→BindsTo s fd args (ps.zip us)→Vals vs us→sp vs H Q E→
  codeAny (model P w) A (.call (.ref f) args) (CR CX outer P w H s Q E) s
theorem Env0.make{P:Program}{w:World}{K:ζa}{mg:AN}{base:Heap}{A:Around}{outer:List Env}{s:Shared}{H:Hp}(e:Env0 P w K mg base A outer s H)(C:Addr)(us:AK)(a:List (Str×Value)):
  Env0 P w K mg base (A.under (.builtin "type.__call__" ⟨.ref C::us,a⟩)) outer s H:=⟨by first|exact e.frames|(simpa[Around.under,Code.envs,Code.isFrame,pushEnvs]using e.frames),e.mod,e.bs,e.bsz,e.funs,e.frf,e.hok,e.bare,e.tb⟩
section
variable {X:Cx}{pins:AL}{σ:St}{H:Hp}{s s':Shared}
theorem Inv.env0(I:Inv X pins σ H s):Env0 X.prog X.w X.K X.mg X.base X.A X.stack s H:=
 ⟨I.ok.frames,I.ok.mod,I.bs,ζ7 I.ok.bsz I.sz,I.stack,I.stkFree,I.hok,I.bare,I.ok.tb.un I.base⟩
theorem Inv.after{Q:VK}{u:Value}(I:Inv X pins σ H s)(h:CE X.stack X.prog X.w H s Q u s'):EP X pins σ Q u s':=by
 obtain⟨v,H',os,bare,un,hok,r,q⟩:=h;obtain⟨c,g,d,t,a⟩:=s';obtain rfl:a=s.os:=os;exact⟨v,H',I.call (h':=c) (g':=g) (d':=d) (t':=t) (ch:=[]) un hok bare (λb z=>absurd z (by simp)),r,q⟩
end
def y8(sp:Sp)(dvs:List V)(E:XK)(t:TA):TE:=λσ H Q=>t σ H λvs H1=>sp (vs++dvs) H1 Q E
def ud(K:ζa)(fd:FuncData)(ps:AJ)(ds:AK):Prop:=
 ∀(s:Shared) (us:AK),K.In s.heap→(us++ds).length=ps.length→BindsTo s fd ⟨us,[]⟩ (ps.zip (us++ds))
theorem ud.all{K:ζa}{fd:FuncData}{ps:AJ}(h:∀us:AK,us.length=ps.length→bindArgs fd ⟨us,[]⟩=pure (ps.zip us)):ud K fd ps []:=λs us _ a=>by
 rw[ζx]at a ⊢;exact .of_eq (h us a)
def ZE(CX:CXT)(X:Cx)(E:XK):Prop:=∀(pins:AL) (σ:St) (H:Hp) (s:Shared) (e:Value) (s':Shared),Inv X pins σ H s→CX X.stack H s E e s'→X.xe e s'
section
variable {X:Cx}{CX:CXT}{k:Nat}{f C:Addr}{fd:FuncData}{ps:AJ}{sp:Sp}{dvs:List V}{ds:AK}{E:XK}{x m:Str}{p pos apos:Pos}{e o:Expr}{es:List Expr}{ta:TE}{t:TA}
theorem zc4{pins:AL}{σ:St}{H:Hp}{s:Shared}{Q:VK}{us:AK}{vs:List V}(F:FnOk X.prog X.w X.K X.mg X.base CX k f fd ps sp)(b:Room k X.A)(c:ud X.K fd ps ds)(hd:Vals dvs ds)(d:ZE CX X E)
  (I:Inv X pins σ H s) (r:Vals vs us) (h:sp (vs++dvs) H Q E):wpAny (model X.prog X.w) X.A (call (.ref f) us) (EP X pins σ Q) X.xe s:=by
 have a:Vals (vs++dvs) (us++ds):=r.append hd;have g:(us++ds).length=ps.length:=by rw[←a.length];exact F.len _ _ _ _ h
 refine wpAny_call (codeAny_mono (F.run X.A X.stack s H ⟨us,[]⟩ (us++ds) (vs++dvs) Q E b I.env0 (c s us I.kIn g) a h) λr s' hq=>?_);cases r with
 | error e=>exact d pins σ H s e s' I hq
 | ok fl =>
  cases fl with
  | ret u=>exact I.after hq
  | next=>exact False.elim hq
  | brk=>exact False.elim hq
  | cont=>exact False.elim hq
theorem zbF(F:FnOk X.prog X.w X.K X.mg X.base CX k f fd ps sp)(d:Room k X.A)(g:Gl X x)(i:X.mg x=some (.ref f))(j:PySem.W.keepIn X.K (.ref f)=true)(l:ud X.K fd ps ds)(hd:Vals dvs ds)(m:ZE CX X E)
  (n:PA X (e::es) t) (a:(x==("__debug__" : Str))=false:=by decide) (o:starEach (e::es) X.env=(false,eval e X.env)::starEach es X.env:=by rfl) (b:(backTo pos (starEach es X.env)).any (·.1)=false:=by rfl) :
  PE X (.Call (.Name x p) (e::es) [] pos) (y8 sp dvs E t):=by
 intro pins s σ H Q I h;refine wpAny_Call_Name_kw (wm I g i ?_ a);refine PySem.W.callWith_K (h₀:=X.base) I.ok.mod.kin j (thn (n pos pins s σ H _ I h) λus s1 ⟨vs,u,c,r,q⟩=>⟨c.kIn,?_⟩) o b;exact zc4 F d l hd m c r q
end
section
variable {X:Cx}{CX:CXT}{k:Nat}{f C:Addr}{fd:FuncData}{ps ks:AJ}{sp:Sp}{E:XK}{x m:Str}{p pos apos kpos:Pos}{e o:Expr}{es:List Expr}{kws:List Keyword}{te ta:TE}{t tk:TA}{nm:Option Str}
variable {g:AK→AK→AK}{gV:List V→List V→List V}
end
structure zJ(N P:AJ)(sc:Scope):Prop where
 kind:sc.kind=.function:=by rfl
 co:sc.isCoroutine=false:=by rfl
 gen:sc.isGenerator=false:=by rfl
 nd:N.Nodup:=by decide +kernel
 pre:N.take P.length=P:=by rfl
 par:∀x∈P,sc.names.lookup x=some .local∨sc.names.lookup x=some .cell:=by decide +kernel
 nofree:∀y∈sc.names,y.2≠.free:=by decide +kernel
theorem zJ.n{N P:AJ}{sc:Scope}(_:zJ N P sc)(k:Nat)(h:N.length=k:=by rfl):N.length=k:=h
theorem Xy{kindOf:Str→Option NameKind}{x:Str}:∀{binds:List (Str×Value)} {m:AN},(∀v,(x,v)∉binds)→bindL kindOf binds m x=m x
 | [],_,_=>rfl
 | (n,v)::r,m,h=>by
  unfold bindL;rw[Xy λw a=>h w (ζb _ a)];split
  ·have:x≠n:=by rintro rfl;exact h v ζi
   simp[this]
  ·rfl
theorem XA{kindOf:Str→Option NameKind}{x:Str}:∀{binds:List (Str×Value)} {m:AN},(∀v,(x,v)∉binds)→bindC kindOf binds m x=m x
 | [],_,_=>rfl
 | (n,v)::r,m,h=>by
  unfold bindC;rw[XA λw a=>h w (ζb _ a)];split
  ·rfl
  ·have:x≠n:=by rintro rfl;exact h v ζi
   simp[this]
theorem Xz{kindOf:Str→Option NameKind}{x:Str}{v:Value}:∀{P:AJ} {vs:AK} {i:Nat} {m:AN},P.Nodup→P[i]?=some x→vs[i]?=some v→kindOf x=some .local→
  bindL kindOf (P.zip vs) m x=some v
 | [],_,_,_,_,h,_,_=>by simp at h
 | _::_,[],_,_,_,_,h,_=>by simp at h
 | p::P,w::vs,0,m,nd,h1,h2,hk=>by
  simp at h1 h2;subst h1;subst h2;show bindL kindOf ((p,w)::P.zip vs) m p=_;unfold bindL;rw[Xy λv a=>(ξn.mp nd).1 (List.of_mem_zip a).1,if_pos hk];simp
 | p::P,w::vs,i+1,m,nd,h1,h2,hk=>by
  show bindL kindOf ((p,w)::P.zip vs) m x=_;unfold bindL;exact Xz (i:=i) (List.nodup_cons.mp nd).2 (by simpa using h1) (by simpa using h2) hk
theorem XB{kindOf:Str→Option NameKind}{x:Str}{v:Value}:∀{P:AJ} {vs:AK} {i:Nat} {m:AN},P.Nodup→P[i]?=some x→vs[i]?=some v→kindOf x≠some .local→
  bindC kindOf (P.zip vs) m x=some v
 | [],_,_,_,_,h,_,_=>by simp at h
 | _::_,[],_,_,_,_,h,_=>by simp at h
 | p::P,w::vs,0,m,nd,h1,h2,hk=>by
  simp at h1 h2;subst h1;subst h2;show bindC kindOf ((p,w)::P.zip vs) m p=_;unfold bindC;rw[XA λv a=>(ξn.mp nd).1 (List.of_mem_zip a).1,if_neg hk];simp
 | p::P,w::vs,i+1,m,nd,h1,h2,hk=>by
  show bindC kindOf ((p,w)::P.zip vs) m x=_;unfold bindC;exact XB (i:=i) (List.nodup_cons.mp nd).2 (by simpa using h1) (by simpa using h2) hk
def yM(N:AJ)(vs:List V):St:=vs.map some++List.replicate (N.length-vs.length) none
def cxOf(CX:CXT)(P:Program)(w:World)(K:ζa)(mg:AN)(base:Heap)(N:AJ)(qual:Str)(scope:Scope)(f:Addr)(cd:Value)(A:Around)(outer:List Env)(s:Shared)(H:Hp)(E:XK):Cx where
 prog:=P
 w:=w
 K:=K
 mg:=mg
 base:=base
 A:=A.deeper (envOfC qual scope s.heap.objs.size f cd)
 N:=N
 s₀:=s
 H₀:=H
 env:=envOfC qual scope s.heap.objs.size f cd
 outer:=outer
 stack:=envOfC qual scope s.heap.objs.size f cd::outer
 ex:=[]
 calm:=true
 fn:=λ_=>true
 pn:=[]
 xe:=λe s'=>wpAny (model P w) (A.deeper (envOfC qual scope s.heap.objs.size f cd)) (leaving (envOfC qual scope s.heap.objs.size f cd) e) (λ_ s''=>CX outer H s E e s'') (λe' s''=>CX outer H s E e' s'') s'
theorem Vn{sc:Scope}{n:Nat}{x:Str}(h:sc.names.lookup x=some .cell):∃c,(cellsFrom n sc.names []).lookup x=some c:=by
 have q:=PySem.W.cellsFrom_some sc.names n [] (.inl h);exact ξs.mp q
theorem Tt{CX:CXT}{P:Program}{w:World}{K:ζa}{mg:AN}{base:Heap}{N ps:AJ}{qual:Str}{scope:Scope}{f:Addr}{cd:Value}{A:Around}{outer:List Env}{s s1:Shared}{H:Hp}{E:XK}{us:AK}{vs:List V}
  (S:zJ N ps scope) (hd:A.handled=none) (g:Env0 P w K mg base A outer s H) (G:vs.length=ps.length) (r:Vals vs us)
  (x:InCallC s s.heap.objs.size (bindL (envOfC qual scope s.heap.objs.size f cd).kindOf (ps.zip us) λ_=>none) (cellsFrom (s.heap.objs.size+1) scope.names []) (bindC (envOfC qual scope s.heap.objs.size f cd).kindOf (ps.zip us) λ_=>none) s1) :
  Inv (cxOf CX P w K mg base N qual scope f cd A outer s H E) [] (yM N vs) H s1:=by
 have C:ps.length≤N.length:=by have:=congrArg List.length S.pre;rw[ζL]at this;omega
 obtain⟨o,tk,rfl,t⟩:=x.done;have j:∀b:Addr,b∉(cxOf CX P w K mg base N qual scope f cd A outer s H E).ex:=λb z=>absurd (show b∈([]:List Addr)from z) (by simp)
 refine⟨⟨g.mod,S.kind,rfl,rfl,ζp _,λy z c o d=>?_,λy l=>?_,λy c _ h=>?_,λ_=>hd,Around.frames_deeper g.frames,.inr ⟨rfl,rfl⟩,λb z=>absurd z (j b),g.bs,g.bsz,λb _ _=>j b,λb z=>absurd z (j b),g.funs,g.frf,g.tb⟩,
  rfl,g.bare,Un.kept t,⟨_,x.toInCall.ns,λi y v o d I=>?_⟩,λy c h=>⟨_,x.cell y c h⟩,g.hok.fresh (Nat.le_refl _),λy c h=>?_,λp hp=>absurd (show p∈([]:AL)from hp) (by simp),g.hok.kept t,?_⟩
 ·exact name_of_addr x.apart (PySem.mem_of_lookup o) (PySem.mem_of_lookup d)
 ·have l:scope.names.lookup y=some .cell∨scope.names.lookup y=some .free:=l;rcases l with l|l
  ·exact Vn l
  ·exact absurd rfl (S.nofree _ (PySem.mem_of_lookup l))
 ·exact Nat.le_of_lt (x.above y c (PySem.mem_of_lookup h))
 ·have hi:i<vs.length:=by
   unfold yM at d;by_cases hi:i<vs.length
   ·exact hi
   ·rw[List.getElem?_append_right (by simpa using hi)]at d;rw[ξj]at d;split at d<;>cases d
  have D:vs[i]?=some v:=by
   unfold yM at d;rw[List.getElem?_append_left (by simpa using hi),List.getElem?_map]at d;cases e:vs[i]? with
   | none=>rw[e]at d;cases d
   | some a=>rw[e]at d;cases d;rfl
  obtain⟨u,B,F⟩:=r.get D;have hp:ps[i]?=some y:=by
   rw[←S.pre,ξY ⋯];exact o
  have m:ps.Nodup:=by rw[←S.pre];exact S.nd.sublist (List.take_sublist _ _)
  refine⟨u,F,?_⟩
  rcases S.par y (ζk hp)with k|k
  ·exact .inl ⟨k,Xz m hp B k⟩
  ·obtain⟨c,e⟩:=Vn (n:=s.heap.objs.size+1) k;refine .inr ⟨.inl k,c,e,?_⟩;have q:=x.cell y c e;rw[XB m hp B (by show scope.names.lookup y≠_;rw[k];decide)]at q;exact q
 ·exact .inl (g.hok.fresh (Nat.le_of_lt (x.above y c (PySem.mem_of_lookup h))))
 ·unfold yM;show _=N.length;rw[ζr,ζc,ζN];omega
theorem zaq{CX:CXT}{P:Program}{w:World}{K:ζa}{mg:AN}{base:Heap}{k:Nat}{f:Addr}{name qual:Str}{a:Arguments}{c:List Stmt}{scope:Scope}{C kV doc pm cdv ct oc:Value}{an od:Option Addr}
  {osl:Array (Option Value)} {N ps:AJ} {sp:Sp} (F:K.lookup f=some ⟨oc,od,.func (PySem.W.fnOf name qual a c scope C kV doc pm an cdv ct),osl⟩) (m:PySem.W.codeIn K cdv qual=true) (S:zJ N ps scope)
  (len:∀vs H Q E,sp vs H Q E→vs.length=ps.length)
  (d:∀(A:Around) (outer:List Env) (s:Shared) (H:Hp) (vs:List V) (Q:VK) (E:XK),Room k (A.deeper (envOfC qual scope s.heap.objs.size f cdv))→sp vs H Q E→
   ∃t,PSs (cxOf CX P w K mg base N qual scope f cdv A outer s H E) c t∧t {nx:=λ_ H'=>Q .non H',rt:=Q} (yM N vs) H) :
  FnOk P w K mg base CX (k+1) f (PySem.W.fnOf name qual a c scope C kV doc pm an cdv ct) ps sp:=by
 refine⟨len,λA outer s H args us vs Q E p i G r j=>?_⟩
 have L:=len _ _ _ _ j;have D:K.In s.heap:=i.mod.kin.keeps λb o e=>(i.bs b o e).1;have z:s.heap.NoLimit:=i.mod.nolimit.keeps λb o e=>(i.bs b o e).1;have g:∀y∈ps.zip us,scope.names.lookup y.1=some .local∨(scope.names.lookup y.1=some .cell∧((cellsFrom (s.heap.objs.size+1) scope.names []).lookup y.1).isSome=true):=λ⟨n,v⟩ M=>by
  rcases S.par n (List.of_mem_zip M).1 with q|q
  ·exact .inl q
  ·exact .inr ⟨q,PySem.W.cellsFrom_some _ _ _ (.inl q)⟩
 refine codeAny_call_function p.depth (D _ _ F) rfl S.co S.gen rfl (PySem.W.codeRec_of D m) (G _ _ _ _ ?_);refine wpAny_newFunctionEnv_cells S.kind g λenv O s1 x=>?_;subst O;refine⟨z.keeps x.toInCall.keep,codeAny_func ?_⟩
 obtain⟨t,R,hq⟩:=d A outer s H vs Q E (p.deeper _) j;have I:Inv (cxOf CX P w K mg base N qual scope f cdv A outer s H E) [] (yM N vs) H s1:=Tt S p.hd i L r x;refine wpAny_mono (R [] s1 (yM N vs) H _ I hq) (λfl s' h=>?_) λe s' h=>h
 have l:∀{σ':St} {H':Hp} {v:V} {u:Value},Inv (cxOf CX P w K mg base N qual scope f cdv A outer s H E) [] σ' H' s'→RelV v u→Q v H'→CE outer P w H s Q u s':=
  λ{σ' H' v u} J B q=>⟨v,H',J.os,J.bare,J.base,J.hok,B,q⟩
 cases fl with
 | ret u =>
  obtain⟨v,σ',H',J,B,q⟩:=h;exact l J B q
 | next =>
  obtain⟨σ',H',J,q⟩:=h;exact l (v:=V.non) (u:=Value.none) J rfl q
 | brk =>
  obtain⟨_,_,_,q⟩:=h;exact False.elim q
 | cont =>
  obtain⟨_,_,_,q⟩:=h;exact False.elim q
section
variable {X:Cx}{x:Str}{p pos:Pos}{e:Expr}{es:List Expr}{t:TA}{id T:String}{r:List V→Hp→VK→Prop}
def tCB(r:List V→Hp→VK→Prop)(t:TA):TE:=λσ H Q=>t σ H λvs H1=>r vs H1 Q
theorem QU(c:yo X (.builtin id) r)(d:Gl X x)(f:X.mg x=none)(g:bootBuiltins x=some (.builtin id))(i:PA X (e::es) t)(j:x ≠ "__name__" := by decide)(a:(x==("__debug__" : Str))=false:=by decide)
  (k:starEach (e::es) X.env=(false,eval e X.env)::starEach es X.env:=by rfl) (b:(backTo pos (starEach es X.env)).any (·.1)=false:=by rfl):PE X (.Call (.Name x p) (e::es) [] pos) (tCB r t):=by
 intro pins s σ H Q I h;refine wpAny_Call_Name_kw (u8 I d f g ?_ j a);exact PyProof.Rows.callWith_builtin1 (thn (i pos pins s σ H _ I h) λus s1 ⟨vs,l,m,n,o⟩=>c pins s1 σ l vs us Q m n o) k b
theorem Tg(c:yo X (.type T) r)(d:Gl X x)(f:X.mg x=none)(g:bootBuiltins x=some (.type T))(i:PA X (e::es) t)(j:x ≠ "__name__" := by decide)(a:(x==("__debug__" : Str))=false:=by decide)
  (k:starEach (e::es) X.env=(false,eval e X.env)::starEach es X.env:=by rfl) (b:(backTo pos (starEach es X.env)).any (·.1)=false:=by rfl):PE X (.Call (.Name x p) (e::es) [] pos) (tCB r t):=by
 intro pins s σ H Q I h;refine wpAny_Call_Name_kw (u8 I d f g ?_ j a);exact PyProof.Rows.callWith_type1 (thn (i pos pins s σ H _ I h) λus s1 ⟨vs,l,m,n,o⟩=>c pins s1 σ l vs us Q m n o) k b
end
end L2
namespace HT
open PySem PyProof.Rows
section
open PySem.SeqAt
open PySem.AutoSeq1 (wpAny_loadPart')
open PySem.MeetsSeq PySem.MeetsSeq2 PySem.MeetsSeq3
end
section
variable {prog:Program}{w:World}{A:Around}{E:AM}{s:Shared}
def sIx(n d:Nat):Option Int→Nat
 | none=>d
 | some v=>if v<0 then(v+(n:Int)).toNat else min v.toNat n
theorem XW(n d k:Nat):sIx n d (some (k:Int))=min k n:=by
 show(if(k:Int)<0 then((k:Int)+(n:Int)).toNat else min (k:Int).toNat n)=min k n;rw[if_neg ⋯,ζH]
end
end HT
namespace L2
open PySem PySem.Spec PyProof.Rows
abbrev TO:=St→Hp→(Option Int→Hp→Prop)→Prop
def PO(X:Cx)(e:Option Expr)(t:TO):Prop:=
 ∀(pins:AL) (s:Shared) (σ:St) (H:Hp) (Q:Option Int→Hp→Prop),Inv X pins σ H s→t σ H Q→
  wpAny (model X.prog X.w) X.A (evalPart e X.env) (λu s'=>∃o H',Inv X pins σ H' s'∧IsPart u o∧Q o H') X.xe s
def Uh:TO:=λ_ H Q=>Q none H
def zct(t:TE):TO:=λσ H Q=>t σ H λx H1=>∃i,x=.int i∧Q (some i) H1
theorem xU{ns:AE}:∀{us:AK},Vals (ns.map V.int) us→IntsAre us ns:=by
 induction ns with
 | nil=>intro us r;rw[List.map_nil]at r;cases r;exact .nil
 | cons n ns a =>
  intro us r;rw[ξq]at r;cases r with
  | cons b c =>
   obtain⟨t,e⟩:=b;subst e;exact .cons n t (a c)
section
variable {X:Cx}{e:Expr}{te:TE}{lo hi:Option Expr}{tl th:TO}{pos p2:Pos}
theorem ug:PO X none Uh:=by
 intro pins s σ H Q I h;rw[evalPart_none];exact AB ⟨none,H,I,.none,h⟩
theorem tT(h:PE X e te):PO X (some e) (zct te):=by
 intro pins s σ H Q I a;rw[evalPart_some];refine thn (h pins s σ H _ I a) λu s1 ⟨x,b,c,d,f⟩=>?_;obtain⟨i,rfl,q⟩:=f;obtain⟨t,rfl⟩:=d;exact⟨some i,b,c,.int i t,q⟩
def SlR(X:Cx)(r:V→Option Int→Option Int→Hp→VK→Prop):Prop:=
 ∀(pins:AL) (s:Shared) (σ:St) (H:Hp) (x:V) (v vl vu:Value) (lo hi:Option Int) (sl:Addr) (Q:VK),Inv X pins σ H s→RelV x v→s.heap.IsSliceOf sl vl vu .none→IsPart vl lo→IsPart vu hi→r x lo hi H Q→
  ∃T id,typeLookup (.type T) "__getitem__" = pure (some (.builtin id))∧s.TypeIs v T∧wpAny (model X.prog X.w) X.A (getItem v (.ref sl)) (EP X pins σ Q) X.xe s
def tSl(r:V→Option Int→Option Int→Hp→VK→Prop)(te:TE)(tl th:TO):TE:=λσ H Q=>te σ H λx H1=>tl σ H1 λl H2=>th σ H2 λu H3=>r x l u H3 Q
theorem tU{r:V→Option Int→Option Int→Hp→VK→Prop}(g:SlR X r)(i:PE X e te)(j:PO X lo tl)(k:PO X hi th):PE X (.Subscript e (.Slice lo hi none p2) pos) (tSl r te tl th):=by
 intro pins s σ H Q I h;refine Subscript_ (thn (i pins s σ H _ I h) λv s1 ⟨x,m,n,o,p⟩=>?_);refine wpAny_Slice (thn (j pins s1 σ m _ n p) λc s2 ⟨l,t,y,pl,z⟩=>thn (k pins s2 σ t _ y z) λd a ⟨u,f,B,C,D⟩=>?_);rw[evalPart_none];refine AB ?_;have E:Inv X pins σ f {a with heap:=a.heap.push {cls:=.type "slice", data:=.fields #[c,d,.none]}}:=B.kept (t':=a.toks) λb ob q=>ζd _ q;obtain⟨T,id,F,G,J⟩:=g pins {a with heap:=a.heap.push {cls:=.type "slice", data:=.fields #[c,d,.none]}} σ f x v c d l u a.heap.objs.size Q E o (Heap.IsSliceOf.new ..) pl C D;show wpAny (model X.prog X.w) X.A (subscriptTail e (.Slice lo hi none p2) v (.ref a.heap.objs.size)) (EP X pins σ Q) X.xe {a with heap:=a.heap.push {cls:=.type "slice", data:=.fields #[c,d,.none]}};exact tail_any (ops:=[.ref a.heap.objs.size,v]) G F J (by with_unfolding_all rfl)
def cutV(xs:List V)(lo hi:Option Int):List V:=(xs.drop (HT.sIx xs.length 0 lo)).take (HT.sIx xs.length xs.length hi-HT.sIx xs.length 0 lo)
theorem Vm(xs:List V)(lo hi:Option Int):(cutV xs lo hi).length≤xs.length:=by
 unfold cutV;rw[ζL,ζ2];omega
end
def ixN(n:Nat)(i:Int):Option Nat:=if 0≤i then(if i<n then some i.toNat else none)else if -(n:Int)≤i then some (i+n).toNat else none
def atI{α:Type}(xs:List α)(i:Int):Option α:=(ixN xs.length i).bind λj=>xs[j]?
theorem UK{n:Nat}{i:Int}{j:Nat}(h:ixN n i=some j):seqIndex? i n=some j∧j<n∧-(n:Int)≤i∧i<n:=by
 unfold ixN at h;by_cases b:0≤i
 ·rw[if_pos b]at h;by_cases a:i<n
  ·rw[if_pos a]at h;have e:i.toNat=j:=ζD h;exact⟨by rw[seqIndex_of b a,e],⋯,⋯,a⟩
  ·rw[if_neg a]at h;cases h
 ·rw[if_neg b]at h;by_cases a:-(n:Int)≤i
  ·rw[if_pos a]at h;have e:(i+n).toNat=j:=ζD h;exact⟨by rw[seqIndex_neg ⋯ a,e],⋯,a,⋯⟩
  ·rw[if_neg a]at h;cases h
theorem WD{a:Type}{xs:List a}{i:Int}{v:a}(h:atI xs i=some v):∃j,seqIndex? i xs.length=some j∧xs[j]?=some v∧j<xs.length∧-(xs.length:Int)≤i∧i<xs.length:=by
 unfold atI at h;cases e:ixN xs.length i with
 | none=>rw[e]at h;cases h
 | some j =>
  rw[e]at h;obtain⟨b,c,d,f⟩:=UK e;exact⟨j,b,h,c,d,f⟩
theorem ym{a:Type}{xs:List a}{j:Nat}{v:a}(h:xs[j]?=some v):atI xs (j:Int)=some v:=by
 have b:j<xs.length:=(ζg.mp h).1;have e:ixN xs.length (j:Int)=some j:=by
  unfold ixN;rw[if_pos ⋯,if_pos ⋯];simp
 unfold atI;rw[e];exact h
theorem Vs{a:Type}(xs:List a)(v:a):atI (xs++[v]) (-1)=some v:=by
 have b:(xs++[v]).length=xs.length+1:=by simp
 have e:ixN (xs++[v]).length (-1)=some xs.length:=by
  unfold ixN;rw[b,if_neg #[2],if_pos ⋯];congr 1;omega
 unfold atI;rw[e];show(xs++[v])[xs.length]?=some v;simp
def U4(b:Expr):Prop:=∀o i,subscripted b false o i=operate [o,i] (getItem o i)
def IxR(X:Cx)(r:R2):Prop:=
 ∀(value slice:Expr) (pins:AL) (s:Shared) (σ:St) (H:Hp) (x y:V) (v u:Value) (Q:VK),Inv X pins σ H s→RelV x v→RelV y u→r x y H Q→
  subscripted slice false v u=operate [v,u] (getItem v u)→wpAny (model X.prog X.w) X.A (subscriptTail value slice v u) (EP X pins σ Q) X.xe s
def MtR(X:Cx)(id:String)(r:V→List V→Hp→VK→Prop):Prop:=
 ∀(pins:AL) (s:Shared) (σ:St) (H:Hp) (x:V) (xs:List V) (v:Value) (us:AK) (Q:VK),Inv X pins σ H s→RelV x v→Vals xs us→r x xs H Q→
  wpAny (model X.prog X.w) X.A (call (.builtin id) (v::us)) (EP X pins σ Q) X.xe s
section
variable {X:Cx}{a b:Expr}{ta tb:TE}{pos:Pos}
theorem zd3{r:R2}(c:IxR X r)(d:PE X a ta)(e:PE X b tb)(f:U4 b):PE X (.Subscript a b pos) (tOp r ta tb):=by
 intro pins s σ H Q I h;exact Subscript_ (binT d e I h λv u s2 x y g i j k q=>c a b pins s2 σ g x y v u Q i j k q (f _ _))
def rIxL(K:ζa):R2:=λx y H Q=>∃p xs i v,x=.ref p∧y=.int i∧SqL K H p xs∧atI xs i=some v∧Q v H
def rIxT(K:ζa):R2:=λx y H Q=>∃p xs i v,x=.ref p∧y=.int i∧SqT K H p xs∧atI xs i=some v∧Q v H
theorem UJ:IxR X (rIxL X.K):=by
 intro c d pins s σ H x y v u Q I n o h k;obtain⟨p,xs,i,z,rfl,rfl,hq,A,q⟩:=h;cases n;obtain⟨t,rfl⟩:=o;obtain⟨e,r,pl,F⟩:=I.list hq;obtain⟨j,b,B,G,C,D⟩:=WD A;obtain⟨w,l,f⟩:=r.get B;have E:=r.length;have J:=Wk;have a:EP X pins σ Q w s:=⟨z,H,I,f,q⟩
 by_cases m:0≤i
 ·have g:i.toNat=j:=by
   rw[seqIndex_of m D]at b;exact ζD b
  exact item_listR pl.isList m ⋯ (by rw[g];simpa using l) a k
 ·have g:(i+(e.toArray.size:Int)).toNat=j:=by
   rw[seqIndex_neg ⋯ C]at b;rw[ζE,←E];exact ζD b
  exact subscriptTail_builtinR (x:=w) pl.isList.typeIs slot_list_getitem.lookup
   (wpAny_getItem_list_neg (Q:=λr s'=>r=w∧EP X pins σ Q r s') pl.isList ⋯ (by rw[List.size_toArray]<;>omega) ⋯ (by rw[g];simpa using l) ⟨rfl,a⟩) k
theorem zdz:IxR X (rIxT X.K):=by
 intro a b pins s σ H x y v u Q I e f h g;obtain⟨p,xs,i,z,rfl,rfl,hq,k,q⟩:=h;cases e;obtain⟨t,rfl⟩:=f;obtain⟨l,r,pl,B⟩:=I.tuple hq;obtain⟨j,m,n,C,D,E⟩:=WD k;obtain⟨w,o,c⟩:=r.get n;have A:=r.length;have F:=Wk;have d:EP X pins σ Q w s:=⟨z,H,I,c,q⟩
 exact subscriptTail_builtinR (x:=w) pl.typeIs slot_tuple_getitem.lookup
  (getItem_tuple (j:=j) (Q:=λr s'=>r=w∧EP X pins σ Q r s') pl ⋯ ⋯ (by rw[List.size_toArray,←A];exact m) (by simpa using o) ⟨rfl,d⟩) g
theorem VP(its:AK)(n j:Nat)(u:Value):Obj.mapSeq (·.setIfInBounds j u) {cls:=.type "list", data:=.seq its.toArray n}={cls:=.type "list", data:=.seq (its.set j u).toArray n}:=by
 simp[Obj.mapSeq]
theorem Inv.lst{pins:AL}{σ:St}{H:Hp}{s:Shared}{p:Addr}{xs:List V}(I:Inv X pins σ H s)(h:H p=some (.lst xs)):
  ∃(a:AK) (n:Nat),Vals xs a∧s.heap.get? p=some {cls:=.type "list", data:=.seq a.toArray n}∧xs.length≤sizeLine:=by
 obtain⟨z,a,n,r,e⟩:=I.hok p _ h;exact⟨a,n,r,e,z⟩
theorem Inv.lstUpd{pins:AL}{σ:St}{H:Hp}{s:Shared}{p:Addr}{xs ys:List V}{its its':AK}{n a:Nat}{f:Obj→Obj}(I:Inv X pins σ H s)(h:H p=some (.lst xs))
  (d:s.heap.get? p=some {cls:=.type "list", data:=.seq its.toArray n}) (c:f {cls:=.type "list", data:=.seq its.toArray n}={cls:=.type "list", data:=.seq its'.toArray a}) (r:Vals ys its') (g:ys.length≤sizeLine) (t:Nat) :
  Inv X pins σ (upd H p (.lst ys)) {s with heap:=s.heap.update p f,toks:=t}:=by
 have e:(s.heap.update p f).get? p=some {cls:=.type "list", data:=.seq its'.toArray a}:=by
  rw[ζJ f d (by rw[c]<;>rfl),c]
 refine I.write (x:=p) (e:=p) (by rw[h];trivial) (.inl rfl) (λb u i q=>(ζX _ _ (Ne.symm i)).trans q) ⟨_,e⟩ ?_;exact⟨g,its',a,r,e⟩
def WR:V→V→V→Hp→(Hp→Prop)→Prop:=λo i v H Q=>∃p xs k j,o=.ref p∧i=.int k∧H p=some (.lst xs)∧ixN xs.length k=some j∧Q (upd H p (.lst (xs.set j v)))
theorem yB:PSet X WR:=by
 intro pins s σ H o i v ov B u Q I w x y h;obtain⟨p,xs,k,j,rfl,rfl,hp,z,q⟩:=h;cases w;obtain⟨t,rfl⟩:=x;obtain⟨a,n,r,c,A⟩:=I.lst hp;obtain⟨b,C,f,g⟩:=UK z;have d:=r.length;have D:=Wk
 have l:Inv X pins σ (upd H p (.lst (xs.set j v))) {s with heap:=s.heap.update p (Obj.mapSeq (·.setIfInBounds j u))}:=
  I.lstUpd hp c (VP a n j u) (r.set y j) (by rw[ζA];exact A) s.toks
 by_cases m:0≤k
 ·have e:k.toNat=j:=by
   rw[seqIndex_of m g]at b;exact ζD b
  exact PySem.W.ki_setAt c m ⋯ (by rw[ζE,←d];exact g) (by rw[e];exact⟨_,l,q⟩)
 ·have e:(k+(a.toArray.size:Int)).toNat=j:=by
   rw[seqIndex_neg ⋯ f]at b;rw[ζE,←d];exact ζD b
  exact PySem.W.ki_setBack c ⋯ (by rw[ζE,←d];exact f) ⋯ (by rw[e];exact⟨_,l,q⟩)
theorem XI(lo hi:Option Int)(n:Nat):(sliceBounds lo hi none n).1=((HT.sIx n 0 lo:Nat):Int)∧(sliceBounds lo hi none n).2.1=((HT.sIx n n hi:Nat):Int)∧(sliceBounds lo hi none n).2.2=1:=by
 refine⟨?_,?_,rfl⟩
 ·cases lo with
  | none=>simp[sliceBounds,HT.sIx]
  | some i =>
   simp only[sliceBounds,HT.sIx,Option.getD_none,show(1:Int)>0 by decide,if_true];by_cases h:i<0
   ·simp only[h,if_true]<;>omega
   ·simp only[h,if_false]<;>omega
 ·cases hi with
  | none=>simp[sliceBounds,HT.sIx]
  | some i =>
   simp only[sliceBounds,HT.sIx,Option.getD_none,show(1:Int)>0 by decide,if_true];by_cases h:i<0
   ·simp only[h,if_true]<;>omega
   ·simp only[h,if_false]<;>omega
theorem YN(its:AK)(lo hi:Option Int):slicePick its.toArray lo hi none=((its.drop (HT.sIx its.length 0 lo)).take (HT.sIx its.length its.length hi-HT.sIx its.length 0 lo)).toArray:=by
 obtain⟨a,b,c⟩:=XI lo hi its.toArray.size;unfold slicePick;rw[a,b,c];simp only[sliceRange_one,pick_run,List.size_toArray]<;>rfl
def rSlL(K:ζa):V→Option Int→Option Int→Hp→VK→Prop:=λx lo hi H Q=>∃a xs,x=.ref a∧SqL K H a xs∧∀p,H p=none→Q (.ref p) (upd H p (.lst (cutV xs lo hi)))
theorem zbj:SlR X (rSlL X.K):=by
 intro pins s σ H x v l m lo hi sl Q I e f pl g h;obtain⟨a,xs,rfl,i,q⟩:=h;cases e;obtain⟨j,r,d,k⟩:=I.list i;have c:=r.length;refine⟨"list", _,slot_list_getitem.lookup,d.isList.typeIs,?_⟩
 refine wpAny_getItem_list_slice d.isList f pl g .none (by simp) ?_ (by rw[List.size_toArray]<;>omega);rw[YN,←c];refine⟨.ref s.heap.objs.size,_,I.laid (t':=s.toks) (o:=.lst (cutV xs lo hi)) (λb ob q=>ζd _ q) (ζp _) ?_,rfl,q _ (I.hok.fresh (ζp _))⟩
 exact⟨ζ7 (Vm xs lo hi) k,_,0,(r.drop (HT.sIx xs.length 0 lo)).take (HT.sIx xs.length xs.length hi-HT.sIx xs.length 0 lo),ζo _ rfl⟩
def t9:V→Bool
 | .non=>true
 | .bl _=>true
 | .int _=>true
 | .str _=>true
 | _=>false
def eqV:V→V→Bool
 | .non,.non=>true
 | .bl a,.bl b=>a==b
 | .bl a,.int b=>(if a then 1 else 0)==b
 | .int a,.bl b=>a==(if b then 1 else 0)
 | .int a,.int b=>a==b
 | .str a,.str b=>a==b
 | _,_=>false
theorem zdJ{A:Around}{s:Shared}{y x:V}{u v:Value}(e:RelV y u)(c:RelV x v)(g:t9 y=true)(f:t9 x=true):SeqAt.EqAt A s u v (eqV y x):=by
 cases y with
 | non =>
  cases e;cases x with
  | non=>cases c;exact SeqAt.EqAt.same _
  | bl b=>cases c;exact SeqAt.EqAt.none_bool b
  | int b=>obtain⟨t,rfl⟩:=c;exact SeqAt.EqAt.none_int b t
  | str b=>obtain⟨t,rfl⟩:=c;exact SeqAt.EqAt.none_str b t
  | _=>exact absurd (show false=true from f) ζv
 | bl a =>
  cases e;cases x with
  | non=>cases c;exact SeqAt.EqAt.bool_none a
  | bl b=>cases c;exact SeqAt.EqAt.bool_bool a b
  | int b=>obtain⟨t,rfl⟩:=c;exact SeqAt.EqAt.bool_int a b t
  | str b=>obtain⟨t,rfl⟩:=c;exact SeqAt.EqAt.bool_str a b t
  | _=>exact absurd (show false=true from f) ζv
 | int a =>
  obtain⟨d,rfl⟩:=e;cases x with
  | non=>cases c;exact SeqAt.EqAt.int_none a d
  | bl b=>cases c;exact SeqAt.EqAt.int_bool a d b
  | int b=>obtain⟨t,rfl⟩:=c;exact SeqAt.EqAt.int_int a d b t
  | str b=>obtain⟨t,rfl⟩:=c;exact SeqAt.EqAt.int_str a d b t
  | _=>exact absurd (show false=true from f) ζv
 | str a =>
  obtain⟨d,rfl⟩:=e;cases x with
  | non=>cases c;exact SeqAt.EqAt.str_none a d
  | bl b=>cases c;exact SeqAt.EqAt.str_bool a d b
  | int b=>obtain⟨t,rfl⟩:=c;exact SeqAt.EqAt.str_int a d b t
  | str b=>obtain⟨t,rfl⟩:=c;exact SeqAt.EqAt.str_str a d b t
  | _=>exact absurd (show false=true from f) ζv
 | _=>exact absurd (show false=true from g) ζv
def eqU(x:V)(u:Value):Bool:=match u with
 | .none=>eqV .non x
 | .bool b=>eqV (.bl b) x
 | .int i _=>eqV (.int i) x
 | .str z _=>eqV (.str z) x
 | _=>false
theorem zaS{x y:V}{u:Value}(r:RelV y u)(f:t9 y=true):eqU x u=eqV y x:=by
 cases y with
 | non=>cases r;rfl
 | bl b=>cases r;rfl
 | int i=>obtain⟨t,rfl⟩:=r;rfl
 | str z=>obtain⟨t,rfl⟩:=r;rfl
 | _=>exact absurd (show false=true from f) ζv
theorem Zi{x:V}:∀{xs:List V} {us:AK},Vals xs us→xs.all t9=true→us.any (eqU x)=xs.any λy=>eqV y x
 | _,_,.nil,_=>rfl
 | y::xs,u::us,.cons r t,f=>by
  rw[List.all_cons,ζ3]at f;rw[List.any_cons,List.any_cons,zaS r f.1,Zi t f.2]
theorem vX{A:Around}{s:Shared}{x:V}{v:Value}(b:RelV x v)(c:t9 x=true):∀{xs:List V} {us:AK},Vals xs us→xs.all t9=true→∀u∈us,SeqAt.EqAt A s u v (eqU x u)
 | _,_,.nil,_=>λu a=>by cases a
 | y::xs,u::us,.cons r t,f=>λd a=>by
  rw[List.all_cons,ζ3]at f;rcases ζq.mp a with rfl|a
  ·rw[zaS r f.1];exact zdJ r b f.1 c
  ·exact vX b c t f.2 d a
def inV(x:V)(xs:List V):Bool:=xs.any λy=>eqV y x
def rIn(K:ζa)(neg:Bool):R2:=λx y H Q=>∃p xs,y=.ref p∧(SqL K H p xs∨SqT K H p xs)∧t9 x=true∧xs.all t9=true∧Q (.bl (if neg then !inV x xs else inV x xs)) H
theorem Ti:OpR X (compareOp .In) (rIn X.K false):=by
 intro pins s σ H x y v u Q I c e h;obtain⟨p,xs,rfl,hq,d,fs,q⟩:=h;cases e;rcases hq with hq|hq
 ·obtain⟨a,r,pl,f⟩:=I.list hq;refine SeqAt.in_listAt (eqU x) pl.isList (λw b=>vX c d r fs w (by simpa using b)) ⟨.bl _,H,I,rfl,?_⟩;rw[show a.toArray.any (eqU x)=a.any (eqU x)by simp,Zi r fs];exact q
 ·obtain⟨a,r,pl,f⟩:=I.tuple hq;refine SeqAt.in_tupleAt (eqU x) pl (λw b=>vX c d r fs w (by simpa using b)) ⟨.bl _,H,I,rfl,?_⟩;rw[show a.toArray.any (eqU x)=a.any (eqU x)by simp,Zi r fs];exact q
theorem X2:OpR X (compareOp .NotIn) (rIn X.K true):=by
 intro pins s σ H x y v u Q I c e h;obtain⟨p,xs,rfl,hq,d,fs,q⟩:=h;cases e;rcases hq with hq|hq
 ·obtain⟨a,r,pl,f⟩:=I.list hq;refine SeqAt.notIn_listAt (eqU x) pl.isList (λw b=>vX c d r fs w (by simpa using b)) ⟨.bl _,H,I,rfl,?_⟩;rw[show a.toArray.any (eqU x)=a.any (eqU x)by simp,Zi r fs];exact q
 ·obtain⟨a,r,pl,f⟩:=I.tuple hq;refine SeqAt.notIn_tupleAt (eqU x) pl (λw b=>vX c d r fs w (by simpa using b)) ⟨.bl _,H,I,rfl,?_⟩;rw[show a.toArray.any (eqU x)=a.any (eqU x)by simp,Zi r fs];exact q
theorem WC:yo X (.builtin "len") (λxs H Q=>∃p ys,xs=[.ref p]∧(SqL X.K H p ys∨SqT X.K H p ys)∧Q (.int ys.length) H):=by
 intro pins s σ H xs us Q I r h;obtain⟨p,ys,rfl,hq,q⟩:=h;obtain⟨u,rfl,d⟩:=wa r;cases d;have f:=Wk;rcases hq with hq|hq
 ·obtain⟨b,c,pl,e⟩:=I.list hq;have a:=c.length;exact Calls.call_len_list pl.isList (by simp only[List.size_toArray]<;>omega) ⟨.int ys.length,H,I.tok _,⟨s.toks+1,by rw[List.size_toArray,a]⟩,q⟩
 ·obtain⟨b,c,pl,e⟩:=I.tuple hq;have a:=c.length;exact len_tuple pl (by simp only[List.size_toArray]<;>omega) ⟨.int ys.length,H,I.tok _,⟨s.toks+1,by rw[List.size_toArray,a]⟩,q⟩
theorem Zg:yo X (.type "list") (λxs H Q=>∃p ys,xs=[.ref p]∧(SqL X.K H p ys∨SqT X.K H p ys)∧∀l,H l=none→Q (.ref l) (upd H l (.lst ys))):=by
 intro pins s σ H xs us Q I r h;obtain⟨p,ys,rfl,hq,q⟩:=h;obtain⟨u,rfl,m⟩:=wa r;cases m
 have f:∀(a:AK),Vals ys a→ys.length≤sizeLine→∀(h':Heap) (c:Nat),(∀b o',s.heap.get? b=some o'→h'.get? b=some o')→
   h'.get? s.heap.objs.size=some {cls:=.type "list", dict:=none,data:=.seq a.toArray c,slots:=#[]}→EP X pins σ Q (.ref s.heap.objs.size) {s with heap:=h'}:=λa d g h' c kp e =>
  ⟨.ref s.heap.objs.size,_,I.laid (t':=s.toks) kp (ζp _) (show yN X.prog X.w _ h' _ (.lst ys)from⟨g,a,c,d,e⟩),rfl,q _ (I.hok.fresh (ζp _))⟩
 rcases hq with hq|hq
 ·obtain⟨a,d,pl,g⟩:=I.list hq;have i:=d.length;obtain⟨o,j,k,n,hd⟩:=pl.isList;exact call_list_seq p (.inl rfl) j k hd (λh' c kp e=>f a d g h' c kp e) (by simp only[List.size_toArray]<;>omega)
 ·obtain⟨a,d,pl,g⟩:=I.tuple hq;have i:=d.length;obtain⟨o,j,k,n,hd⟩:=pl;exact call_list_seq p (.inr rfl) j k hd (λh' c kp e=>f a d g h' c kp e) (by simp only[List.size_toArray]<;>omega)
theorem Y6:yo X (.type "tuple") (λxs H Q=>∃p ys,xs=[.ref p]∧((SqL X.K H p ys∧∀l,H l=none→Q (.ref l) (upd H l (.tup ys)))∨(SqT X.K H p ys∧Q (.ref p) H))):=by
 intro pins s σ H xs us Q I r h;obtain⟨p,ys,rfl,h⟩:=h;obtain⟨u,rfl,i⟩:=wa r;cases i;rcases h with⟨hq,q⟩|⟨hq,q⟩
 ·obtain⟨a,c,pl,d⟩:=I.list hq;have f:=c.length;refine call_tuple_list pl.isList (λh' kp=>?_) (by simp only[List.size_toArray]<;>omega);have g:Inv X pins σ H {s with heap:=h'}:=I.kept (t':=s.toks) kp
  have j:Inv X pins σ (upd H h'.objs.size (.tup ys)) {s with heap:=h'.push {cls:=.type "tuple", data:=.seq a.toArray}}:=
   g.laid (t':=s.toks) (λb o e=>ζd _ e) (ζp _) (show yN X.prog X.w _ _ _ (.tup ys)from⟨d,a,c,IsTup.new _ _⟩)
  exact⟨.ref h'.objs.size,_,j,rfl,q _ (g.hok.fresh (ζp _))⟩
 ·obtain⟨a,c,pl,d⟩:=I.tuple hq;exact call_tuple_same pl ⟨.ref p,H,I,rfl,q⟩
def tyV(K:ζa)(T:String)(x:V)(H:Hp):Prop:=match x with
 | .str _=>T = "str"
 | .int _=>T = "int"
 | .ref p=>(T = "list"∧∃xs,SqL K H p xs)∨(T = "tuple"∧∃o,K.lookup p=some o∧o.cls=.type "tuple"∧o.dict=none)∨
   (T = "dict"∧((∃kvs,H p=some (.dK kvs))∨∃kvs,H p=some (.dT kvs)))∨(T = "set"∧∃S n,H p=some (.set S n))
 | _=>False
theorem Qc{pins:AL}{σ:St}{H:Hp}{s:Shared}{T:String}{x:V}{v:Value}(I:Inv X pins σ H s)(r:RelV x v)(ty:tyV X.K T x H):
  s.TypeIs v T∧∀a,v=.ref a→∃ob,s.heap.get? a=some ob∧ob.dict=none:=by
 cases x with
 | str z =>
  obtain⟨t,rfl⟩:=r;cases(show T = "str" from ty);exact⟨typeIs_str s z t,λ_ e=>nomatch e⟩
 | int i =>
  obtain⟨t,rfl⟩:=r;cases(show T = "int" from ty);exact⟨typeIs_int s i t,λ_ e=>nomatch e⟩
 | ref p =>
  cases r;rcases ty with⟨rfl,xs,hq⟩|⟨rfl,o,b,f,hd⟩|⟨rfl,b⟩|⟨rfl,S,n,b⟩
  ·obtain⟨g,_,pl,_⟩:=I.list hq;refine⟨pl.isList.typeIs,λa e=>?_⟩
   cases e;obtain⟨o,n,e,c,hd,_⟩:=pl;exact⟨o,e,hd⟩
  ·refine⟨⟨o,I.kIn p o b,f⟩,λa e=>?_⟩
   cases e;exact⟨o,I.kIn _ o b,hd⟩
  ·have z:∃o,s.heap.get? p=some o∧o.ExactDict:=by
    rcases b with⟨kvs,b⟩|⟨kvs,b⟩
    ·obtain⟨_,_,_,_,o,_,_,e,ex,_⟩:=I.hok p _ b;exact⟨o,e,ex⟩
    ·obtain⟨_,_,_,_,o,_,_,e,ex,_⟩:=I.hok p _ b;exact⟨o,e,ex⟩
   obtain⟨o,e,ex⟩:=z;refine⟨⟨o,e,ex.1⟩,λa d=>?_⟩
   cases d;exact⟨o,e,ex.2.1⟩
  ·obtain⟨o,_,_,_,e,ex,_⟩:=I.hok p _ b;refine⟨⟨o,e,ex.1⟩,λa d=>?_⟩
   cases d;exact⟨o,e,ex.2.1⟩
 | _=>exact False.elim ty
def tBM0(K:ζa)(T:String)(r:V→List V→Hp→VK→Prop)(to:TE):TE:=λσ H Q=>to σ H λx H1=>tyV K T x H1∧r x [] H1 Q
def tBM(K:ζa)(T:String)(r:V→List V→Hp→VK→Prop)(to:TE)(t:TA):TE:=λσ H Q=>to σ H λx H1=>tyV K T x H1∧t σ H1 λxs H2=>r x xs H2 Q
variable {o e:Expr}{es:List Expr}{to:TE}{t:TA}{name:Str}{apos cpos:Pos}{T id:String}{r:V→List V→Hp→VK→Prop}
theorem zdf(f:PlainAttrs T)(slot:Slot T name id)(c:typeOf (.builtin id)=pure (.type "method_descriptor"))(g:MtR X id r)(i:PE X o to)
  (a:attributeBase o name X.env (eval o X.env)=eval o X.env:=by rfl) (b:(apos.endLine==cpos.line)=true:=by rfl):PE X (.Call (.Attribute o name apos) [] [] cpos) (tBM0 X.K T r to):=by
 intro pins s σ H Q I h;refine wpAny_Call_method0_late a b (thn (i pins s σ H _ I h) λv s1 ⟨x,j,d,e,ty,k⟩=>?_);obtain⟨l,m⟩:=Qc d e ty;exact⟨T,id,f,slot,c,l,m,Calls.callWith_builtin rfl (PySem.evalArgs_none (g pins s1 σ j x [] v [] Q d e .nil k))⟩
theorem zd4(k:PlainAttrs T)(slot:Slot T name id)(f:typeOf (.builtin id)=pure (.type "method_descriptor"))(l:MtR X id r)(m:PE X o to)(n:PA X (e::es) t)
  (b:attributeBase o name X.env (eval o X.env)=eval o X.env:=by rfl)
  (d:((backTo cpos (starEach (e::es) X.env)).all (λx=>!x.1)&&(backToKw cpos (keywordEach [] X.env)).all (λx=>x.1.isSome)
   && decide ((e::es).length+([]:List Keyword).length+(if([]:List Keyword).isEmpty then 0 else 1)<30))=true:=by rfl)
  (c:(apos.endLine==cpos.line)=true:=by rfl) (p:starEach (e::es) X.env=(false,eval e X.env)::starEach es X.env:=by rfl) (a:(backTo cpos (starEach es X.env)).any (·.1)=false:=by rfl) :
  PE X (.Call (.Attribute o name apos) (e::es) [] cpos) (tBM X.K T r to t):=by
 intro pins s σ H Q I h;refine wpAny_Call_method_late b d c rfl (thn (m pins s σ H _ I h) λv s1 ⟨x,q,g,i,ty,u⟩=>?_);obtain⟨w,y⟩:=Qc g i ty;refine⟨T,id,k,slot,f,w,y,?_⟩
 have j:=n cpos pins s1 σ q _ g u;rw[p]at j ⊢;refine Calls.callWith_builtin (by show(false||(backTo cpos (starEach es X.env)).any (·.1))=false;rw[a]<;>rfl) (Calls.evalArgs_plain ?_);exact thn j λus s2 ⟨vs,z,A,B,C⟩=>l pins s2 σ z x vs v us Q A i B C
end
def MtM(X:Cx)(id:String)(r:V→List V→Hp→VK→Prop):Prop:=
 ∀(pins:AL) (s:Shared) (σ:St) (H:Hp) (x:V) (xs:List V) (v:Value) (us:AK) (Q:VK),Inv X pins σ H s→RelV x v→Vals xs us→r x xs H Q→
  wpAny (model X.prog X.w) X.A (call (.builtin id) (v::us)) (EP X pins σ Q) X.xe s
theorem Vals.one:∀{x:V} {us:AK},Vals [x] us→∃u,us=[u]∧RelV x u
 | _,_,.cons r .nil=>⟨_,rfl,r⟩
theorem Vals.two:∀{x y:V} {us:AK},Vals [x,y] us→∃u v,us=[u,v]∧RelV x u∧RelV y v
 | _,_,_,.cons r (.cons q .nil)=>⟨_,_,rfl,r,q⟩
theorem Vals.zero:∀{us:AK},Vals [] us→us=[]
 | _,.nil=>rfl
theorem Vals.dropLast{xs:List V}{us:AK}(h:Vals xs us):Vals xs.dropLast us.dropLast:=by
 induction h with
 | nil=>exact .nil
 | cons r t a =>
  cases t with
  | nil=>exact .nil
  | cons q b=>exact .cons r a
theorem Vals.reverse{xs:List V}{us:AK}(h:Vals xs us):Vals xs.reverse us.reverse:=by
 induction h with
 | nil=>exact .nil
 | cons r t a=>rw[ξl,ξl];exact Vals.append a (.cons r .nil)
theorem Vals.rep{xs:List V}{us:AK}(h:Vals xs us):∀k:Nat,Vals (List.replicate k xs).flatten (List.replicate k us).flatten
 | 0=>.nil
 | k+1=>by
  rw[ζ5,ζ5,ξt,ξt];exact Vals.append h (Vals.rep h k)
theorem V0{c:Type}(l:List c):l.eraseIdx (l.length-1)=l.dropLast:=by
 induction l with
 | nil=>rfl
 | cons a r d =>
  cases r with
  | nil=>rfl
  | cons b r =>
   have e:(a::b::r).length-1=((b::r).length-1)+1:=by
    have f:(a::b::r).length=r.length+2:=rfl;have g:(b::r).length=r.length+1:=rfl;omega
   rw[e,List.eraseIdx_cons_succ,d]
   all_goals rfl
theorem Xn(its:AK):∀(k:Nat) (acc:AK),
  List.foldl (λa b=>a++b) acc.toArray (List.replicate k its.toArray)=(acc++(List.replicate k its).flatten).toArray
 | 0,acc=>by simp
 | k+1,acc=>by
  have e:acc.toArray++its.toArray=(acc++its).toArray:=by simp
  have c:(acc++its)++(List.replicate k its).flatten=acc++(List.replicate (k+1) its).flatten:=by
   rw[ζ5,ξt,ξZ]
  rw[←c,←Xn its k (acc++its),←e,ζ5,List.foldl_cons]
section
variable {X:Cx}{pins:AL}{σ:St}{H:Hp}{s:Shared}{l b:Addr}{xs ys zs:List V}
theorem Inv.lset{its its':AK}{n:Nat}{f:Array Value→Array Value}{t':Nat}(I:Inv X pins σ H s)(a:H l=some (.lst xs))
  (e:s.heap.get? l=some {cls:=.type "list", data:=.seq its.toArray n}) (b:f its.toArray=its'.toArray) (c:Vals ys its') (d:ys.length≤sizeLine) :
  Inv X pins σ (upd H l (.lst ys)) {s with heap:=s.heap.update l (Obj.mapSeq f),toks:=t'}:=by
 have q:=PySem.IsL.update e f;rw[b]at q;refine I.write (x:=l) (e:=l) (by rw[a];exact trivial) (.inl rfl) (λi u g h=>(ζX s.heap (Obj.mapSeq f) (Ne.symm g)).trans h) ⟨_,q⟩ ?_;exact⟨d,its',_,c,q⟩
theorem Inv.lnew{its:AK}{t':Nat}(I:Inv X pins σ H s)(a:Vals ys its)(b:ys.length≤sizeLine):
  Inv X pins σ (upd H s.heap.objs.size (.lst ys)) {s with heap:=s.heap.push {cls:=.type "list", data:=.seq its.toArray},toks:=t'}:=
 I.laid (λ_ _ q=>ζd _ q) (ζp _) ⟨b,its,0,a,ζo _ rfl⟩
theorem Inv.fresh(I:Inv X pins σ H s):H s.heap.objs.size=none:=I.hok.fresh (ζp _)
theorem Inv.lstM(I:Inv X pins σ H s)(b:H l=some (.lst xs)):xs.length≤sizeLine∧∃(a:AK) (n:Nat),Vals xs a∧xs.length=a.length∧s.heap.get? l=some {cls:=.type "list", data:=.seq a.toArray n}:=by
 obtain⟨z,a,n,r,e⟩:=I.hok l _ b;exact⟨z,a,n,r,r.length,e⟩
theorem Q2{n:Nat}(h:n≤sizeLine):Builtin.List.listTooLong n=false:=by
 unfold Builtin.List.listTooLong;exact decide_eq_false ⋯
end
section
variable {X:Cx}
def vt:V→List V→Hp→VK→Prop:=λx vs H Q=>∃l xs y,x=.ref l∧vs=[y]∧H l=some (.lst xs)∧xs.length<sizeLine∧Q .non (upd H l (.lst (xs++[y])))
theorem yP:MtM X "list.append" vt:=by
 intro pins s σ H x vs v us Q I c d h;obtain⟨l,xs,y,rfl,rfl,b,g,q⟩:=h;cases c;obtain⟨u,rfl,f⟩:=d.one;obtain⟨z,a,n,r,i,e⟩:=I.lstM b;refine call_meets F.slot_list_append ⟨_,e,rfl⟩ F.entry_list_append (F.args_list_append_2 _ _) (PySem.list_append l a.toArray n u (by rw[ζE];omega)) ⟨e,?_⟩;refine⟨.non,_,I.lset (its':=a++[u]) b e (by simp) (r.append (.cons f .nil)) ?_,rfl,q⟩
 rw[ζr,List.length_singleton];omega
def rPop:V→List V→Hp→VK→Prop:=λx vs H Q=>∃l xs y,x=.ref l∧vs=[]∧H l=some (.lst xs)∧xs[xs.length-1]?=some y∧Q y (upd H l (.lst xs.dropLast))
theorem Q6:MtM X "list.pop" rPop:=by
 intro pins s σ H x vs v us Q I f g h;obtain⟨l,xs,y,rfl,rfl,d,i,q⟩:=h;cases f;have b:=g.zero;subst b;obtain⟨z,a,n,r,j,e⟩:=I.lstM d;obtain⟨u,k,m⟩:=r.get i;have c:a.toArray[a.toArray.size-1]?=some u:=by
  show a.toArray[a.length-1]?=some u;rw[←ζ0,←j];exact k
 refine call_meets F.slot_list_pop ⟨_,e,rfl⟩ F.entry_list_pop (F.args_list_pop_1 _) (MeetsSeq.list_pop_last l a.toArray n u c (by rw[ζE];omega)) ⟨e,?_⟩;refine⟨y,_,I.lset (its':=a.dropLast) d e ?_ r.dropLast ?_,m,q⟩
 ·show a.toArray.eraseIdxIfInBounds (a.toArray.size-1)=a.dropLast.toArray;rw[ζE,List.eraseIdxIfInBounds_toArray,V0]
 ·rw[ζU];omega
def rRep:R2:=λx y H Q=>∃l k xs,x=.ref l∧y=.int k∧H l=some (.lst xs)∧-(2^63)≤k∧k<2^63∧xs.length*k.toNat≤sizeLine∧
 ∀p,H p=none→Q (.ref p) (upd H p (.lst (List.replicate k.toNat xs).flatten))
theorem zbP{a:Type}(xs:List a)(k:Nat):(List.replicate k xs).flatten.length=k*xs.length:=by
 induction k with
 | zero=>simp
 | succ k b=>rw[ζ5,ξt,ζr,b,Nat.succ_mul,Nat.add_comm]
theorem zdi:OpR X (binaryOp .Mult) rRep:=by
 intro pins s σ H x y v u Q I w A h;obtain⟨l,k,xs,rfl,rfl,B,C,D,p,q⟩:=h;cases w;obtain⟨t,rfl⟩:=A;obtain⟨z,b,n,r,E,e⟩:=I.lstM B;have d:b.toArray.size*k.toNat≤sizeLine:=by rw[ζE,←E];exact p
 have f:¬b.toArray.size*k.toNat>(2^63-1)/8:=by
  have:(sizeLine:Nat)≤(2^63-1)/8:=by decide
  omega
 have g:¬(!Builtin.List.listFitsIndex k)=true:=by
  rw[fitsIndex_both C D];exact ζv
 have c:¬Builtin.List.listTooLong (b.toArray.size*k.toNat)=true:=by
  rw[Q2 d];exact ζv
 have i:List.foldl (λj o=>j++o) #[] (List.replicate (if b.toArray.isEmpty=true then 0 else k.toNat) b.toArray)=(List.replicate k.toNat b).flatten.toArray:=by
  have f0:∀m:Nat,List.foldl (λj o=>j++o) #[] (List.replicate m b.toArray)=(List.replicate m b).flatten.toArray:=λm=>by
   have:=Xn b m [];rw[List.nil_append]at this;exact this
  rw[f0];cases b with
  | nil=>simp
  | cons a G=>rw[if_neg (by simp)]
 refine wpAny_binaryOp_repeat_ref (T:= "list") (U:= "int") #[2] ⟨_,e,rfl⟩ (λs'=>typeIs_int s' k t) noFill_list_mul F.fills_int_mul F.slot_int_rmul repeat_list F.slot_int_index.lookup
  (call_meets F.slot_int_rmul (typeIs_int s k t) F.entry_int_rmul (F.args_int_rmul_2 _ _) (int___rmul___int_list k t l b.toArray n)
   ⟨e,rfl,⟨_,e,rfl⟩,call_meets F.slot_list_mul ⟨_,e,rfl⟩ F.entry_list_mul (F.args_list_mul_2 _ _) (AutoListH.list___mul___list_int_3 l b.toArray n k t g f c) ⟨e,?_⟩⟩)
 rw[i];exact⟨.ref _,_,I.lnew (t':=s.toks) (r.rep k.toNat) (by rw[zbP,Nat.mul_comm];exact p),rfl,q _ I.fresh⟩
end
section
variable {prog:Program}{w:World}{A:Around}{E:AM}{s:Shared}
end
section
variable {X:Cx}
end
end L2
namespace Att
open PySem PySem.W PySem.Calls PyProof.Rows
theorem ZQ{P:Params}{h:Heap}:∀(ns:AE) (vs:AK),WellAll P h vs (ns.map WData.int)→IntsAre vs ns:=by
 intro ns;induction ns with
 | nil =>
  intro vs w;rw[List.map_nil]at w;cases w;exact .nil
 | cons n ns c =>
  intro vs w;rw[ξq]at w;cases w with
  | cons a b =>
   cases a;exact .cons _ _ (c _ b)
theorem U9{l:OpenLaw}{n:Nat}(o:l.most=some n){P:Params}{h:Heap}{args:List WData}{b:AK}
  (c:l.row.toRowW.claim.pre args=true) (j:WellAll P h b args) :
  ∃a vs ns,b=[Value.ref a]∧args=[WData.list (ns.map WData.int)]∧h.get? a=some {cls:=.type "list", data:=.seq vs.toArray}∧IntsAre vs ns∧ns.length≤n:=by
 have k:WShape.hasAll [] args [.list .int]=true:=(pre_splitW c).1;have m:l.pre.holds [] {args:=args}=true:=(pre_splitW c).2;obtain⟨d,r,rfl,p,s⟩:=hasAllW_cons k;obtain rfl:=hasAllW_nil s;obtain⟨xs,rfl,t⟩:=hasW_list p;obtain⟨ns,rfl⟩:=items_int t;have e:ns.length≤n:=by
  unfold OpenLaw.pre at m;have g:(WTm.not (.lt (.lit (.int (n:Int))) (.len (.arg 0)))).holds [] {args:=[.list (ns.map .int)]}=true:=by
   have g:=(holds_andW m).1;rw[o]at g;exact g
  have i:=condW_of g (w_not (w_lt w_lit (w_len_list (w_arg rfl))));rw[ζc]at i;refine Nat.le_of_not_lt λq=>?_;have u:(n:Int)<((ns.length:Nat):Int):=by omega
  first
   | (rw[decide_eq_true u]at i;exact absurd i #[2])
   | (simp at i;omega)
 cases j with
 | cons v w =>
  cases w;cases v with
  | list x f=>exact⟨_,_,ns,rfl,rfl,x,ZQ ns _ f,e⟩
theorem Tf(l:OpenLaw)(args:List WData):l.row.toRowW.claim.post args (.bool true) args=true:=
 postW_of (r:=l.row.toRowW) (X:=(true==true))
  (show WShape.has [] (.bool true) .bool=true by first|rfl|decide|simp[WShape.has,WShape.arms,WShape.armsAll])
  (show(WTm.eq .res (.lit (.bool true))).value [] {args:=args,res:=some (.bool true),after:=args}=some (.bool (true==true))from w_eq_bool (w_res rfl) w_lit) rfl
theorem Vr{l:OpenLaw}{n:Nat}{q:Program}{c:AJ}{t:(Str→Option Value)→Heap→Prop}{u:World→Heap→Prop}{d:DefRec}
  (z:l.most=some n) (k:d.params.defaults=[])
  (call:∀(w:World) (s₀ b:Shared) (mg mb:AN) (g:Addr) (o:Obj) (pm cd doc:Value) (a:Addr) (vs:AK) (ns:AE),
   Ground q c [] t w s₀ mg mb b.heap→u w b.heap→
   b.heap.get? g=some o→o.data=.func (docDef d.name d.params d.body d.scope pm cd doc)→b.heap.CodeRec cd d.name→mg d.name=some (.ref g)→
   b.heap.get? a=some {cls:=.type "list", data:=.seq vs.toArray}→IntsAre vs ns→ns.length≤n→b.gens=#[]→
   codeAny (model l.prog w) callerA (.call (.ref g) ⟨[.ref a],[]⟩) (λr s'=>r=.ok (.ret (.bool true))∧OldK b.heap s'.heap∧s'.os=b.os∧AllBare s'.gens) b) :
  WalkO q c t u l.row.toRowW d [] (λf vs=>PySem.call f vs):=by
 intro w s₀ b mg mb G Y g o pm cd doc A kV B hd m v p C args x as h y D s E;obtain rfl:A=.none:=Dflts.none v k;obtain rfl:kV=.none:=Dflts.noKw v;obtain⟨a,vs,ns,rfl,rfl,i,e,j⟩:=U9 z h s;refine enter_call (codeAny_mono (call w s₀ b mg mb g o pm cd doc a vs ns G Y B (fd_plain hd) m p i e j C) λr s' hq=>?_);obtain⟨rfl,F,H,I⟩:=hq;exact⟨.inl ⟨.bool true,.bool true,[],rfl,λ_=>rfl,.bool true,Tf l _,λ_=>⟨List.Pairwise.nil,λ_ J=>(nomatch J)⟩⟩,F,H,I⟩
section
variable {prog:Program}{w:World}{A:Around}{E:AM}{s:Shared}{K:Frag}
end
end Att
namespace L2
open PySem PySem.Spec PyProof.Rows
theorem Y8:∀{vs:AK} {ns:AE},IntsAre vs ns→Vals (ns.map V.int) vs
 | _,_,.nil=>.nil
 | _,_,.cons n t h=>.cons ⟨t,rfl⟩ (Y8 h)
theorem Vz{K:ζa}{p:Addr×Str}(h:p∈yT K):∃c o vs,K.lookup c=some o∧o.cls=.type "code"∧o.data=.fields vs∧vs[11]?=some (.ref p.1):=by
 obtain⟨⟨c,_⟩,_,e⟩:=ζ4.mp h;obtain⟨o,b,a⟩:=ξ1.mp e;unfold zco at a;split at a
 ·rename_i vs d f;split at a
  ·rename_i q t P i g;split at a
   ·cases a;exact⟨c,o,vs,b,d,f,g⟩
   ·cases a
  ·cases a
 ·cases a
theorem zaa{P:Program}{w:World}{K:ζa}{mg mb:AN}{CX:CXT}{k:Nat}{T a:Addr}{fd:FuncData}{x:Str}{sp:Sp}{f:Shared}{vs:AK}{ns:AE}
  (U:K.In f.heap) (J:(∀p∈yT K,f.heap.get? p.1=some (PySem.W.tabObj #[]))∧XG K=true)
  (X:∃bm ob,mg "__builtins__" = some (.ref bm)∧bm≠builtinsNs∧f.heap.get? bm=some ob∧ob.cls=.type "module"∧ob.dict=some builtinsNs∧ob.data=.plain)
  (L:f.heap.Ns mainGlobals mg) (j:f.heap.Ns builtinsNs mb) (Y:∀x:Str,x ≠ "__name__"→mb x=bootBuiltins x) (M:f.heap.NoLimit) (hg:f.gens=#[])
  (N:f.heap.get? a=some {cls:=.type "list", data:=.seq vs.toArray}) (hi:IntsAre vs ns) (hl:ns.length≤sizeLine) (hr:Room k callerA)
  (F:∀base:Heap,K.In base→base.Ns mainGlobals mg→FnOk P w K mg base CX k T fd [x] sp) (G:∀(s:Shared) (u:Value),BindsTo s fd ⟨[u],[]⟩ [(x,u)])
  (Z:∀H:Hp,SqL K H a (ns.map V.int)→sp [.ref a] H (λv _=>v=.bl true) λ_ _ _=>False)
  (a0:∀H e s',CX [] H f (λ_ _ _=>False) e s'→False) :
  codeAny (model P w) callerA (.call (.ref T) ⟨[.ref a],[]⟩) (λr s'=>r=.ok (.ret (.bool true))∧OldK f.heap s'.heap∧s'.os=f.os∧AllBare s'.gens) f:=by
 have uq:=J.2;unfold XG at uq;have I:∀p∈yT K,f.heap.get? p.1=some (PySem.W.tabObj #[])∧K.lookup p.1=none:=λp hp=>⟨J.1 p hp,by
  have:=ζM.mp uq p hp;simp only[Bool.and_eq_true]at this;exact Option.isNone_iff_eq_none.mp this.1⟩
 have one:∀p q:Addr×Str,p∈yT K→q∈yT K→p.1=q.1→p.2=q.2:=λp q hp hq e=>by
  have:=ζM.mp uq p hp;simp only[Bool.and_eq_true]at this;have:=ζM.mp this.2 q hq;simpa[e]using this
 have rv:=Y8 hi;have O:=hi.length
 have B:∀H:Hp,SqL K H a (ns.map V.int)→HOk P w H f.heap→(∀b,H b=none∨(b=a∧∃o xs,H b=some (.frz o (.lst xs)))∨∃p∈yT K,b=p.1∧∃ps,H b=some (.tbl ps))→(H a≠none→K.lookup a=none)→TbOk K H→
   codeAny (model P w) callerA (.call (.ref T) ⟨[.ref a],[]⟩) (λr s'=>r=.ok (.ret (.bool true))∧OldK f.heap s'.heap∧s'.os=f.os∧AllBare s'.gens) f:=by
  intro H hS hok hA hK a1;have g:∀{b:Addr} {o:Obj},f.heap.get? b=some o→H b=none→(hidT f.heap H).get? b=some o:=λe n=>zal e n;have Q:∀{b:Addr} {o:Obj},f.heap.get? b=some o→(∀vs:Array Value,∀n,o.data≠.seq vs n)→(∀vs,o.data≠.fields vs)→H b=none:=λ{b o} e d1 d2=>by
   rcases hA b with z|⟨rfl,_⟩|⟨p,hp,rfl,_⟩
   ·exact z
   ·rw[N]at e;cases e;exact absurd rfl (d1 _ _)
   ·rw[(I p hp).1]at e;cases e;exact absurd rfl (d2 _)
  have l:∀{b:Addr} {m:AN},f.heap.Ns b m→(hidT f.heap H).Ns b m:=λ{b m} ⟨o,es,ep,e,d,r⟩=>⟨o,es,ep,g e (Q e (λ_ _ z=>by rw[d]at z;cases z) λ_ z=>by rw[d]at z;cases z),d,r⟩
  have R:K.In (hidT f.heap H):=λb o e=>g (U b o e) (by
   rcases hA b with z|⟨rfl,_,_,z⟩|⟨p,hp,rfl,_⟩
   ·exact z
   ·rw[hK (by rw[z];simp)]at e;cases e
   ·rw[(I p hp).2]at e;cases e)
  have hM:Mod K mg (hidT f.heap H):=⟨R,l L,⟨mb,l j,Y⟩,let⟨mc,h1,h2⟩:=M;⟨mc,l h1,h2⟩,let⟨bm,ob,q1,q2,q3,q4,q5,q6⟩:=X;⟨bm,ob,q1,q2,g q3 (Q q3 (λ_ _ z=>by rw[q6]at z;cases z) λ_ z=>by rw[q6]at z;cases z),q4,q5,q6⟩⟩
  have e0:Env0 P w K mg (hidT f.heap H) callerA [] f H:=⟨rfl,hM,λb o e=>zbM e,Nat.le_of_eq (Tu _ _),trivial,λb j=>absurd (show b∈([]:List Addr)from j) (by simp),hok,.of_eq hg,a1⟩
  refine codeAny_mono ((F _ R (l L)).run callerA [] f H ⟨[.ref a],[]⟩ [.ref a] [.ref a] _ _ hr e0 (G f (.ref a)) (.cons rfl .nil) (Z H hS)) λr s' h=>?_;cases r with
  | error e=>exact(a0 H e s' h).elim
  | ok fl =>
   cases fl with
   | next=>exact False.elim h
   | brk=>exact False.elim h
   | cont=>exact False.elim h
   | ret u =>
    obtain⟨v,H',os,bare,un,C,r',q⟩:=h;have q':v=.bl true:=q;subst q';obtain rfl:u=Value.bool true:=r';refine⟨rfl,⟨λb o e=>?_,λb o e=>un.there b o e (by simp)⟩,os,bare⟩
    rcases hA b with z|⟨rfl,ob,xs,z⟩|⟨p,hp,rfl,ps,z⟩
    ·exact .inl (un.keep b o e z (by intro z;exact absurd (show b∈([]:List Addr)from z) (by simp)) (by simp))
    ·have z2:=un.frzs _ ob _ z;obtain⟨e1,_⟩:=hok _ _ z;obtain⟨e2,_⟩:=C _ _ z2;rw[e]at e1;cases e1;exact .inl e2
    ·obtain⟨m,z2⟩:=un.tbls _ _ z;obtain⟨a2,e2,_⟩:=C _ _ z2;obtain⟨c,oc,cs,k1,k2,k3,k4⟩:=Vz hp;rw[(I p hp).1]at e;cases e;exact .inr (.inl ⟨⟨c,oc,cs,U _ _ k1,k2,k3,k4⟩,rfl,#[],a2,rfl,by simpa using e2⟩)
 have D:∀{H:Hp} {p:Addr×Str},p∈yT K→yN P w H f.heap p.1 (.tbl #[.str p.2 0]):=λ{H p} hp=>⟨#[],(I p hp).1,trivial,λq v z=>by cases z⟩
 let S:Hp:=λb=>((yT K).find? λp=>p.1==b).map λp=>HO.tbl #[.str p.2 0];have i:∀b,S b=none∨∃p∈yT K,b=p.1∧S b=some (.tbl #[.str p.2 0]):=λb=>by
  cases q:(yT K).find? λp=>p.1==b with
  | none=>exact .inl (by show Option.map _ _=none;rw[q];rfl)
  | some p=>exact .inr ⟨p,List.mem_of_find?_eq_some q,(show p.1=b by have:=List.find?_some q;simpa using this).symm,by show Option.map _ _=_;rw[q];rfl⟩
 have E:TbOk K S:=λp hp=>by
  rcases i p.1 with z|⟨q,hq,e,z⟩
  ·exfalso;have A:Option.map _ ((yT K).find? λq=>q.1==p.1)=none:=z;rw[ξ3,List.find?_eq_none]at A;exact A p hp (by simp)
  ·exact⟨0,#[],by rw[z,one p q hp hq e];simp⟩
 cases hk:K.lookup a with
 | some o =>
  have e:=U a o hk;rw[N]at e;cases e;refine B S (.inr ⟨_,vs.toArray,_,hk,rfl,rfl,rfl,by rw[List.size_toArray,O];exact hl,by simpa using rv⟩) (λb u z=>?_) (λb=>?_) (λz=>?_) E
  ·rcases i b with y|⟨p,hp,rfl,y⟩
   ·rw[y]at z;cases z
   ·rw[y]at z;cases z;exact D hp
  ·rcases i b with y|⟨p,hp,e,y⟩
   ·exact .inl y
   ·exact .inr (.inr ⟨p,hp,e,_,y⟩)
  ·rcases i a with y|⟨p,hp,rfl,y⟩
   ·exact absurd y z
   ·exact(I p hp).2
 | none =>
  have na:∀p∈yT K,p.1≠a:=λp hp e=>by
   have:=(I p hp).1;rw[e,N]at this;cases this
  refine B (λb=>if b=a then some (.frz {cls:=.type "list", data:=.seq vs.toArray} (.lst (ns.map V.int)))else S b) (.inl (.inr ⟨{cls:=.type "list", data:=.seq vs.toArray},if_pos rfl⟩)) (λb u z=>?_) (λb=>?_) (λ_=>hk) λp hp=>?_
  ·by_cases j:b=a
   ·have A:=(if_pos j).symm.trans z;cases A;subst j;exact⟨N,by rw[ζc];exact hl,vs,_,rv,N⟩
   ·have A:=(if_neg j).symm.trans z;rcases i b with y|⟨p,hp,rfl,y⟩
    ·rw[y]at A;cases A
    ·rw[y]at A;cases A;exact D hp
  ·by_cases j:b=a
   ·exact .inr (.inl ⟨j,_,_,if_pos j⟩)
   ·rcases i b with y|⟨p,hp,e,y⟩
    ·exact .inl ((if_neg j).trans y)
    ·exact .inr (.inr ⟨p,hp,e,_,(if_neg j).trans y⟩)
  ·obtain⟨t,m,e⟩:=E p hp;exact⟨t,m,(if_neg (na p hp)).trans e⟩
theorem za8{l:PySem.W.OpenLaw}{n k:Nat}{q:Program}{i:AJ}{I:(Str→Option Value)→Heap→Prop}{y:World→Heap→Prop}{d:DefRec}{K:Params→ζa}{CX:World→CXT}{sp:World→Sp}{x:Str}
  (J:l.most=some n) (z:n≤sizeLine) (A:d.params.defaults=[]) (L:Room k callerA)
  (M:∀(w:World) (h:Heap),y w h→(K w.params).In h) (N:∀(w:World) (h:Heap),y w h→(∀p∈yT (K w.params),h.get? p.1=some (PySem.W.tabObj #[]))∧XG (K w.params)=true)
  (F:∀(w:World) (mg:AN) (t:Addr) (h:Heap),(K w.params).In h→h.Ns mainGlobals mg→mg d.name=some (.ref t)→
   ∃fd:FuncData,(∀(s:Shared) (u:Value),BindsTo s fd ⟨[u],[]⟩ [(x,u)])∧
    ∀base:Heap,(K w.params).In base→base.Ns mainGlobals mg→FnOk l.prog w (K w.params) mg base (CX w) k t fd [x] (sp w))
  (B:∀(w:World) (H:Hp) (a:Addr) (ns:AE),ns.length≤n→SqL (K w.params) H a (ns.map V.int)→sp w [.ref a] H (λv _=>v=.bl true) λ_ _ _=>False)
  (C:∀(w:World) (H:Hp) (s:Shared) (e:Value) (s':Shared),CX w [] H s (λ_ _ _=>False) e s'→False) :
  PySem.W.WalkO q i I y l.row.toRowW d [] (λf vs=>PySem.call f vs):=by
 refine Att.Vr J A λw s₀ m mg mb t o pm cd doc a vs ns G Y U hd O D r j c P=>?_;have E:=M w _ Y;obtain⟨fd,Q,R⟩:=F w mg t _ E G.T.g D;exact zaa E (N w _ Y) G.T.bmain G.T.g G.T.b G.T.builtins G.T.nolimit P r j (ζ7 c z) L R Q (λH S=>B w H a ns c S) λH e s'=>C w H m e s'
def wt(s:Stmt):Arguments:=match s with
 | .FunctionDef _ a _ _ _ _ _ _ _ _=>a
 | _=>{posonlyargs:=[],args:=[],vararg:=none,kwonlyargs:=[],kw_defaults:=[],kwarg:=none,defaults:=[]}
def xk(s:Stmt):List Stmt:=match s with
 | .FunctionDef _ _ b _ _ _ _ _ _ _=>b
 | _=>[]
def zr(s:Stmt):Scope:=match s with
 | .FunctionDef _ _ _ _ _ _ sc _ _ _=>sc
 | _=>{kind:=.function,names:=[],isGenerator:=false,isCoroutine:=false}
abbrev CX0:CXT:=λ_ _ _ _ _ _=>False
abbrev E0:XK:=λ_ _ _=>False
theorem zd6{X:Cx}:ZE CX0 X E0:=λ_ _ _ _ _ _ _ h=>h.elim
structure Fun(K:ζa)(x qual:Str)(st:Stmt)(f:Addr)(fd:FuncData):Prop where
 ex:∃(oc:Value) (od:Option Addr) (kV doc pm:Value) (an:Option Addr) (cdv ct:Value) (osl:Array (Option Value)),
  fd=PySem.W.fnOf x qual (wt st) (xk st) (zr st) .none kV doc pm an cdv ct∧K.lookup f=some ⟨oc,od,.func fd,osl⟩∧PySem.W.codeIn K cdv qual=true
 kp:PySem.W.keepIn K (.ref f)=true
section
variable {P:Program}{w:World}{K:ζa}{mg:AN}{base:Heap}
theorem Fun.ok{x qual:Str}{st:Stmt}{f:Addr}{fd:FuncData}{N ps:AJ}{k:Nat}{sp:Sp}(F:Fun K x qual st f fd)(S:zJ N ps (zr st))(len:∀vs H Q E,sp vs H Q E→vs.length=ps.length)
  (a:∀(cdv:Value) (A:Around) (outer:List Env) (s:Shared) (H:Hp) (vs:List V) (Q:VK) (E:XK),Room k (A.deeper (envOfC qual (zr st) s.heap.objs.size f cdv))→sp vs H Q E→
   ∃t,PSs (cxOf CX0 P w K mg base N qual (zr st) f cdv A outer s H E).nox (xk st) t∧t {nx:=λ_ H'=>Q .non H',rt:=Q} (yM N vs) H):FnOk P w K mg base CX0 (k+1) f fd ps sp:=by
 obtain⟨oc,od,kV,doc,pm,an,cdv,ct,osl,rfl,d,b⟩:=F.ex;refine zaq d b S len λA outer s H vs Q E e c=>?_;obtain⟨t,h,q⟩:=a cdv A outer s H vs Q E e c;exact⟨t,h.nox,q⟩
theorem Fun.binds{x qual:Str}{st:Stmt}{f:Addr}{fd:FuncData}{ps:AJ}(F:Fun K x qual st f fd)
  (h:∀(kV doc pm:Value) (an:Option Addr) (cdv ct:Value) (us:AK),us.length=ps.length→bindArgs (PySem.W.fnOf x qual (wt st) (xk st) (zr st) .none kV doc pm an cdv ct) ⟨us,[]⟩=pure (ps.zip us)):ud K fd ps []:=by
 obtain⟨oc,od,kV,doc,pm,an,cdv,ct,osl,rfl,b,a⟩:=F.ex;exact .all (h kV doc pm an cdv ct)
theorem Wm{x qual:Str}{st:Stmt}{f:Addr}{oc:Value}{od an:Option Addr}{osl:Array (Option Value)}{kV doc pm cdv ct:Value}(l:K.lookup f=some ⟨oc,od,.func (PySem.W.fnOf x qual (wt st) (xk st) (zr st) .none kV doc pm an cdv ct),osl⟩)
  (c:PySem.W.codeIn K cdv qual=true) (k:PySem.W.keepIn K (.ref f)=true):Fun K x qual st f (PySem.W.fnOf x qual (wt st) (xk st) (zr st) .none kV doc pm an cdv ct):=⟨⟨oc,od,kV,doc,pm,an,cdv,ct,osl,rfl,l,c⟩,k⟩
end
section
variable {X:Cx}
theorem pv(i:Nat){x:Str}{a:Pos}(c:X.N[i]?=some x:=by rfl)(d:Vis X.env.scope x:=by first|exact Or.inl rfl|exact Or.inr (.inl rfl)|exact Or.inr (.inr rfl))(hd:(x==("__debug__" : Str))=false:=by decide)
  (b:(x==("__classdict__" : Str))=false:=by decide):PE X (.Name x a) (tVar i):=zde c d hd b
end
theorem iteF{A B:Prop}(h:B):if false=true then A else B:=by
 rw[if_neg ζv];exact h
theorem iteT{A B:Prop}(h:A):if true=true then A else B:=by
 rw[if_pos rfl];exact h
def Same(H H':Hp):Prop:=∀b o,H b=some o→H' b=some o
theorem Same.refl(H:Hp):Same H H:=λ_ _ h=>h
theorem Same.trans{H d e:Hp}(a:Same H d)(b:Same d e):Same H e:=λc o h=>b c o (a c o h)
theorem Same.free{H H':Hp}(e:Same H H'){l:Addr}(h:H' l=Option.none):H l=Option.none:=by
 cases q:H l with
 | none=>rfl
 | some o =>
  rw[e l o q]at h;cases h
theorem Same.seq{K:ζa}{H H':Hp}{a:Addr}{xs:List V}(e:Same H H')(h:SqL K H a xs):SqL K H' a xs:=by
 rcases h with(h|⟨o,h⟩)|h
 ·exact .inl (.inl (e _ _ h))
 ·exact .inl (.inr ⟨o,e _ _ h⟩)
 ·exact .inr h
end L2
set_option maxHeartbeats 1000000
namespace Wd
def prod:AE→Int
 | []=>1
 | s::r=>s*prod r
theorem ZJ:∀(a b:AE),prod (a++b)=prod a*prod b
 | [],b=>(Int.one_mul _).symm
 | s::r,b=>by
  show s*prod (r++b)=s*prod r*prod b;rw[ZJ r b,Int.mul_assoc]
theorem Xg(ss:AE)(s:Int):prod (ss++[s])=prod ss*s:=by
 rw[ZJ];show prod ss*(s*1)=_;rw[Int.mul_one]
end Wd
namespace L2
open PySem PySem.Spec PyProof.Rows PySem.SeqAt
section
variable {X:Cx}
theorem y4:OpR X (binaryOp .Mult) (rI IntMulOk λi j=>.int (i*j)):=opI λ_ _ _ _ _ _ _ a q=>mul_int q a
mutual
inductive Dp(K:ζa)(H:Hp):V→AD→Prop
 | non:Dp K H .non .none
 | bl (b:Bool):Dp K H (.bl b) (.bool b)
 | int (i:Int):Dp K H (.int i) (.int i)
 | str (x:Str):Dp K H (.str x) (.str x)
 | lst {a:Addr} {xs:List V} {ds:AG}:SqL K H a xs→zV K H xs ds→Dp K H (.ref a) (.list ds)
 | tup {a:Addr} {xs:List V} {ds:AG}:SqT K H a xs→zV K H xs ds→Dp K H (.ref a) (.tuple ds)
 | dct {a:Addr}:H a=some (.dK [])→Dp K H (.ref a) (.dict [])
inductive zV(K:ζa)(H:Hp):List V→AG→Prop
 | nil:zV K H [] []
 | cons {v:V} {vs:List V} {d:AD} {ds:AG}:Dp K H v d→zV K H vs ds→zV K H (v::vs) (d::ds)
end
mutual
theorem Dp.reads{pins:AL}{σ:St}{H:Hp}{s:Shared}(I:Inv X pins σ H s):∀{x:V} {d:AD} {u:Value},Dp X.K H x d→RelV x u→∃as,Reads s.heap u d as
 | _,_,u,.non,r=>by cases(show u=Value.none from r);exact⟨_,.none⟩
 | _,_,u,.bl b,r=>by cases(show u=Value.bool b from r);exact⟨_,.bool b⟩
 | _,_,u,.int i,r=>by obtain⟨t,e⟩:=(show∃t,u=Value.int i t from r);subst e;exact⟨_,.int i t⟩
 | _,_,u,.str x,r=>by obtain⟨t,e⟩:=(show∃t,u=Value.str x t from r);subst e;exact⟨_,.str x t⟩
 | _,_,u,@Dp.lst _ _ a xs ds h k,r=>by
  cases(show u=Value.ref a from r);obtain⟨f,g,⟨o,n,e,c,_,d⟩,_⟩:=I.list h;obtain⟨as,ra⟩:=zV.reads I k g;exact⟨_,.list e c d (by simpa using ra)⟩
 | _,_,u,@Dp.tup _ _ a xs ds h k,r=>by
  cases(show u=Value.ref a from r);obtain⟨f,g,⟨o,e,c,n,d⟩,_⟩:=I.tuple h;obtain⟨as,ra⟩:=zV.reads I k g;exact⟨_,.tuple e c d (by simpa using ra)⟩
 | _,_,u,@Dp.dct _ _ a h,r=>by
  cases(show u=Value.ref a from r);obtain⟨_,_,vs,l,o,j,p,e,c,d,_,pr,_⟩:=(show yN X.prog X.w H s.heap a (.dK [])from I.hok a _ h)
  cases l;have z:j.toList=[]:=by cases m:j.toList with|nil=>rfl|cons _ _=>rw[m]at pr;cases pr
  exact⟨_,.dict (kvs:=[]) e c.1 d (by rw[z];exact .nil) (by rw[z];exact .nil)⟩
theorem zV.reads{pins:AL}{σ:St}{H:Hp}{s:Shared}(I:Inv X pins σ H s):∀{xs:List V} {ds:AG} {us:AK},zV X.K H xs ds→Vals xs us→∃as,ReadsAll s.heap us ds as
 | _,_,_,.nil,.nil=>⟨_,.nil⟩
 | _,_,_,.cons h k,.cons r t=>by
  obtain⟨as,ra⟩:=Dp.reads I h r;obtain⟨bs,rb⟩:=zV.reads I k t;exact⟨_,.cons ra rb⟩
end
def rEqD(K:ζa)(neg:Bool):R2:=λx y H Q=>∃d e,Dp K H x d∧Dp K H y e∧shaped d=true∧shaped e=true∧Q (.bl (if neg then !PyData.eqv d e else PyData.eqv d e)) H
theorem zdo(a:X.A.units+64<cLine):OpR X (compareOp .Eq) (rEqD X.K false):=by
 intro pins s σ H x y v u Q I b c h;obtain⟨d,e,f,g,i,j,q⟩:=h;obtain⟨as,ra⟩:=f.reads I b;obtain⟨bs,rb⟩:=g.reads I c;exact eq_dataH ra rb i j a ⟨.bl (PyData.eqv d e),H,I,rfl,q⟩
theorem zdk(a:X.A.units+64<cLine):OpR X (compareOp .NotEq) (rEqD X.K true):=by
 intro pins s σ H x y v u Q I b c h;obtain⟨d,e,f,g,i,j,q⟩:=h;obtain⟨as,ra⟩:=f.reads I b;obtain⟨bs,rb⟩:=g.reads I c;exact ne_dataH ra rb i j a ⟨.bl (!PyData.eqv d e),H,I,rfl,q⟩
theorem Inv.turnNew{pins:AL}{σ:St}{H:Hp}{s:Shared}{h':Heap}{fp:List Addr}{T:Addr}{o:HO}{t':Nat}(I:Inv X pins σ H s)(f:∀b∈fp,FpOk X pins H b)
  (k:∀b u,b∉fp→s.heap.get? b=some u→h'.get? b=some u) (j:s.heap.objs.size≤T) (new:yN X.prog X.w (upd H T o) h' T o):Inv X pins σ (upd H T o) {s with heap:=h',toks:=t'}:=by
 have g:H T=none:=I.hok.fresh j;have h:∀b u,H b=some u→b∉fp:=λb u e z=>by rw[(f b z).1]at e;cases e
 have i:∀b u,s.heap.get? b=some u→b≠T:=λb u e=>ζt (ζC (ζl e) j)
 refine I.step (g':=s.gens) (d':=s.drawn) (ch:=fp) (λb a=>⟨(f b a).2.2.2.1,(f b a).2.1,(f b a).2.2.2.2.1,(f b a).2.2.2.2.2⟩) (λb u _ _ d e _=>k b u d e) (λb u _ _ d e _=>⟨u.slots,k b u d e⟩)
  (λb u _ e n=>by rw[zk (i b u e)];exact n) (λb u d e=>⟨u,k b u d e⟩) (λb xs e=>by rw[zk (zt e g)];exact e) (λb u v e=>by rw[zk (zt e g)];exact e) (λb ps e=>⟨#[],by rw[zk (zt e g),e];simp⟩)
  (λm l=>?_) (λb u e=>?_) I.bare
 ·obtain⟨ob,p,t,x,r⟩:=l;exact⟨ob,p,t,k _ ob (λz=>(f _ z).2.1 rfl) x,r⟩
 ·by_cases a:b=T
  ·subst a;rw[zm]at e;cases e;exact new
  ·rw[zk a]at e;refine(I.hok b u e).stay (λc v d q=>k c v ?_ q) (λc q=>by rw[zk (zt q g)];exact q) λc xs q=>by rw[zk (zt q g)];exact q
   rcases d with z|z
   ·rw[z];exact h b u e
   ·exact h c _ z
theorem Inv.turnAll{pins:AL}{σ:St}{H:Hp}{s:Shared}{h':Heap}{fp:List Addr}{t':Nat}(I:Inv X pins σ H s)(d:∀b∈fp,FpOk X pins H b)
  (k:∀b u,b∉fp→s.heap.get? b=some u→h'.get? b=some u):Inv X pins σ H {s with heap:=h',toks:=t'}:=by
 have f:∀b u,H b=some u→b∉fp:=λb u e z=>by rw[(d b z).1]at e;cases e
 refine I.step (g':=s.gens) (d':=s.drawn) (ch:=fp) (λb g=>⟨(d b g).2.2.2.1,(d b g).2.1,(d b g).2.2.2.2.1,(d b g).2.2.2.2.2⟩) (λb u _ _ a e _=>k b u a e) (λb u _ _ a e _=>⟨u.slots,k b u a e⟩)
  (λb u _ e n=>n) (λb u a e=>⟨u,k b u a e⟩) (λb xs e=>e) (λb u v e=>e) (λb ps e=>⟨#[],by rw[e];simp⟩)
  (λm h=>?_) (λb u e=>?_) I.bare
 ·obtain⟨ob,i,j,l,r⟩:=h;exact⟨ob,i,j,k _ ob (λz=>(d _ z).2.1 rfl) l,r⟩
 ·refine(I.hok b u e).stay (λc v a q=>k c v ?_ q) (λc q=>q) λc xs q=>q;rcases a with z|z
  ·rw[z];exact f b u e
  ·exact f c _ z
end
theorem ad{m n:Nat}(h:m≠n):(show Addr from m)≠(show Addr from n):=h
section
variable {X:Cx}
end
end L2
namespace L2
open PySem PySem.Spec PyProof.Rows
def Cx.blk(X:Cx)(N:AJ)(scope:Scope)(cl:List (Str×Addr))(C:Addr)(s:Shared)(H:Hp)(fp:List Addr):Cx:=
 {X with N:=N,s₀:=s,H₀:=H,env:=compEnvC scope cl C X.env,outer:=X.stack,stack:=X.stack,ex:=fp,fn:=λ_=>false,xe:=λ_ _=>False}
def capt(js:List (Option Nat))(σ:St):St:=js.map λo=>match o with|none=>none|some j=>(σ[j]?).join
structure vH(X:Cx)(N:AJ)(scope:Scope)(cl:List (Str×Addr))(js:List (Option Nat)):Prop where
 clos:closureFor scope X.env=pure cl
 nocell:∀y∈scope.names,y.2≠.cell
 kind:scope.kind=.function
 names:∀y∈scope.names,y.2=.local→scope.names.lookup y.1=some .local
 cells:∀p∈cl,X.env.cells.lookup p.1=some p.2
 has:∀y∈scope.names,y.2=.free→(cl.lookup y.1).isSome=true
 len:js.length=N.length
 cap:∀(i j:Nat),js[i]?=some (some j)→∃x,N[i]?=some x∧X.N[j]?=some x∧scope.names.lookup x=some .free∧(X.env.scope.names.lookup x=some .cell∨X.env.scope.names.lookup x=some .free)
def Sub(σ σ':St):Prop:=σ.length=σ'.length∧∀(i:Nat) v,σ[i]?=some (some v)→σ'[i]?=some (some v)
theorem Sub.set{σ:St}{i:Nat}{x:Option V}(h:σ[i]?=some none):Sub σ (σ.set i x):=by
 refine⟨by simp,λj v e=>?_⟩
 have ne:j≠i:=by rintro rfl;rw[h]at e;cases e
 rw[ζm (Ne.symm ne)];exact e
theorem vq{env:Env}(d:env.scope.kind=.function):∀{names:List (Str×NameKind)} {x:Str},names.lookup x=some .free→env.scope.names.lookup x=some .cell→
  (names.map λ(n,k)=>if(k==NameKind.free&&env.scope.kind==.function&&env.kindOf n==some .cell)then(n,NameKind.cell)else(n,k)).lookup x=some .cell
 | [],_,h,_=>by simp at h
 | (n,k)::r,x,h,hc=>by
  have f:=@vq env d r x;show List.lookup x ((if(k==NameKind.free&&env.scope.kind==.function&&env.kindOf n==some .cell)=true then(n,NameKind.cell)else(n,k))::_)=_;cases a:x==n with
  | true =>
   have e:x=n:=by simpa using a
   subst e;simp only[List.lookup_cons,a]at h;cases h;have c:(NameKind.free==NameKind.free&&env.scope.kind==.function&&env.kindOf x==some .cell)=true:=by
    have q:env.kindOf x=some .cell:=hc;rw[d,q];rfl
   rw[if_pos c,ξg,a]
  | false =>
   simp only[List.lookup_cons,a]at h;by_cases b:(k==NameKind.free&&env.scope.kind==.function&&env.kindOf n==some .cell)=true
   ·rw[if_pos b,ξg,a];exact f h hc
   ·rw[if_neg b,ξg,a];exact f h hc
theorem vp{env:Env}:∀{names:List (Str×NameKind)} {x:Str},names.lookup x=some .free→env.scope.names.lookup x=some .free→
  (names.map λ(n,k)=>if(k==NameKind.free&&env.scope.kind==.function&&env.kindOf n==some .cell)then(n,NameKind.cell)else(n,k)).lookup x=some .free
 | [],_,h,_=>by simp at h
 | (n,k)::r,x,h,hc=>by
  have c:=@vp env r x;show List.lookup x ((if(k==NameKind.free&&env.scope.kind==.function&&env.kindOf n==some .cell)=true then(n,NameKind.cell)else(n,k))::_)=_;cases a:x==n with
  | true =>
   have e:x=n:=by simpa using a
   subst e;simp only[List.lookup_cons,a]at h;cases h;have q:env.kindOf x=some .free:=hc;rw[if_neg (by rw[q];simp),List.lookup_cons,a]
  | false =>
   simp only[List.lookup_cons,a]at h;by_cases b:(k==NameKind.free&&env.scope.kind==.function&&env.kindOf n==some .cell)=true
   ·rw[if_pos b,ξg,a];exact c h hc
   ·rw[if_neg b,ξg,a];exact c h hc
theorem tM{env:Env}:∀{names:List (Str×NameKind)} {x:Str},(∀y∈names,y.2≠.cell)→
  ((names.map λ(n,k)=>if(k==NameKind.free&&env.scope.kind==.function&&env.kindOf n==some .cell)then(n,NameKind.cell)else(n,k)).lookup x=some .cell∨
   (names.map λ(n,k)=>if(k==NameKind.free&&env.scope.kind==.function&&env.kindOf n==some .cell)then(n,NameKind.cell)else(n,k)).lookup x=some .free)→∃y∈names,y.1=x∧y.2=.free
 | [],_,_,h=>by simp at h
 | (n,k)::r,x,hn,h=>by
  have d:=@tM env r x (λy b=>hn y (ζb _ b))
  have h':List.lookup x ((if(k==NameKind.free&&env.scope.kind==.function&&env.kindOf n==some .cell)=true then(n,NameKind.cell)else(n,k))::(r.map λ(n,k)=>if(k==NameKind.free&&env.scope.kind==.function&&env.kindOf n==some .cell)then(n,NameKind.cell)else(n,k)))=some .cell∨
   List.lookup x ((if(k==NameKind.free&&env.scope.kind==.function&&env.kindOf n==some .cell)=true then(n,NameKind.cell)else(n,k))::(r.map λ(n,k)=>if(k==NameKind.free&&env.scope.kind==.function&&env.kindOf n==some .cell)then(n,NameKind.cell)else(n,k)))=some .free:=h
  cases c:x==n with
  | true =>
   have e:x=n:=by simpa using c
   subst e;by_cases a:(k==NameKind.free&&env.scope.kind==.function&&env.kindOf x==some .cell)=true
   ·have f:k=.free:=by
     cases k<;>first|rfl|(simp at a)
    exact⟨(x,k),ζi,rfl,f⟩
   ·rw[if_neg a]at h';simp only[List.lookup_cons,c]at h';rcases h' with q|q
    ·cases q;exact absurd rfl (hn (x,.cell) ζi)
    ·cases q;exact⟨(x,.free),ζi,rfl,rfl⟩
  | false =>
   by_cases a:(k==NameKind.free&&env.scope.kind==.function&&env.kindOf n==some .cell)=true
   ·rw[if_pos a]at h';simp only[List.lookup_cons,c]at h';obtain⟨y,b,e⟩:=d h';exact⟨y,ζb _ b,e⟩
   ·rw[if_neg a]at h';simp only[List.lookup_cons,c]at h';obtain⟨y,b,e⟩:=d h';exact⟨y,ζb _ b,e⟩
section
variable {X:Cx}{N:AJ}{scope:Scope}{cl:List (Str×Addr)}{js:List (Option Nat)}{pins:AL}{σ:St}{H:Hp}{s:Shared}{fp:List Addr}
theorem T1(K:vH X N scope cl js)(I:Inv X pins σ H s)(F:∀b∈fp,FpOk X pins H b)(G:∀b∈fp,b<s.heap.objs.size){J:Heap}{P:AN}{tk:Nat}(Q:J.Ns s.heap.objs.size P)
  (n:∀b o,s.heap.get? b=some o→J.get? b=some o) :
  Inv (X.blk N scope cl s.heap.objs.size s H fp) [] (capt js σ) H {s with heap:=J,toks:=tk}:=by
 have t:∀b∈fp,b≠s.heap.objs.size:=λb g=>ζt (G b g);have a:∀x c,cl.lookup x=some c→X.env.cells.lookup x=some c:=λx c e=>K.cells (x,c) (PySem.mem_of_lookup e)
 refine⟨⟨I.ok.mod,K.kind,I.ok.glob,I.ok.blt,ζp _,λx y c A B=>I.ok.inj x y c (a x c A) (a y c B),λx R=>?_,λx c z _=>absurd z (by intro q;cases q),I.ok.hd,I.ok.frames,.inl rfl,λb g=>⟨t b g,λx c e=>(F b g).2.2.2.2.1 x c (a x c e)⟩,
  I.bs,ζ7 I.ok.bsz I.sz,λb o e g=>?_,λb g z=>?_,I.stack,I.stkFree,I.ok.tb.un I.base⟩,rfl,I.bare,Un.kept n,⟨P,Q,λi x v A B e3=>?_⟩,λx c e=>?_,I.hok.fresh (ζp _),λx c e=>(I.freeC x c (a x c e)).imp id λz=>⟨rfl,z.2⟩,λp hp=>(I.pin p (ζy _ (by rwa [ζx]at hp))).imp (n _ _) λ⟨S,T,U,V⟩=>⟨S,ζt (ζl (I.pin p (ζy _ (by rwa [ζx]at hp))).1),λz=>(ζq.mp (I.stkSub _ z)).elim T U,V⟩,I.hok.kept n,?_⟩
 ·obtain⟨y,W,A,B⟩:=tM K.nocell R;have q:=K.has y W B;rw[A]at q;exact ξs.mp q
 ·rcases(F b g).2.2.2.1 with z|z
  ·exact I.ok.noex b o e z
  ·exact absurd (ζC (ζl e) (ζ7 I.ok.bsz z)) (ξi _)
 ·rcases ζq.mp (I.stkSub b z)with q|q
  ·exact(F b g).2.1 q
  ·exact(F b g).2.2.1 q
 ·
  have hi:(capt js σ)[i]?=some (some v):=B;unfold capt at hi;rw[ζj]at hi;cases L:js[i]? with
  | none=>rw[L]at hi;cases hi
  | some o =>
   rw[L]at hi;cases o with
   | none=>cases hi
   | some j =>
    obtain⟨y,M,O,h,d⟩:=K.cap i j L;have C:N[i]?=some x:=A;rw[M]at C;cases C;have Y:σ[j]?=some (some v):=by
     cases q:σ[j]? with
     | none=>have f:(Option.join σ[j]?)=some v:=ζD hi;rw[q]at f;cases f
     | some w=>have f:(Option.join σ[j]?)=some v:=ζD hi;rw[q]at f;cases w with
      | none=>cases f
      | some w=>exact congrArg some f
    obtain⟨m,_,Z⟩:=I.loc;obtain⟨u,r,l⟩:=Z j x v O Y (.inr d);refine⟨u,r,.inr ⟨d.imp (λz=>vq I.ok.kind h z) (λz=>vp h z),?_⟩⟩
    rcases l with⟨k,_⟩|⟨_,c,ec,hc⟩
    ·rcases d with d|d<;>exact absurd (k.symm.trans d) (by intro z;cases z)
    ·obtain⟨c',D⟩:=ξs.mp (K.has (x,.free) (PySem.mem_of_lookup h) rfl);have E:=a x c' D;rw[ec]at E;cases E;exact⟨c,D,hc.keeps n⟩
 ·obtain⟨v,hv⟩:=I.cell x c (a x c e);exact⟨v,hv.keeps n⟩
 ·show(capt js σ).length=N.length;unfold capt;rw[ζc];exact K.len
theorem U2{σ':St}{H':Hp}{s':Shared}{h':Heap}(I:Inv X pins σ H s)(k:∀b∈fp,FpOk X pins H b)(J:Inv (X.blk N scope cl s.heap.objs.size s H fp) [] σ' H' s')(i:Heap.SameBut s.heap.objs.size s'.heap h'):
  Inv X pins σ H' {s' with heap:=h'}:=by
 have d:∀b o,s.heap.get? b=some o→b≠s.heap.objs.size:=λb o e=>ζt (ζl e);have u:=J.base;have f:Un (frs X.stack) fp H H' s.heap s'.heap:=u;refine I.call' (s':={s' with heap:=h'}) (ch:=fp) J.os ⟨λb o e n g h=>?_,λb o e n g h=>?_,f.free,λb o e h=>?_,f.tups,f.frzs,f.tbls⟩ (λb ob e=>?_) J.bare λb g=>?_
 ·exact(i.2 b (d b o e)).trans (f.keep b o e n g h)
 ·obtain⟨sl,q⟩:=f.slot b o e n g h;exact⟨sl,(i.2 b (d b o e)).trans q⟩
 ·obtain⟨o',q⟩:=f.there b o e h;exact⟨o',(i.2 b (d b o e)).trans q⟩
 ·have a:H' s.heap.objs.size=none:=J.free;refine(J.hok b ob e).stay (λc t j q=>(i.2 c ?_).trans q) (λ_ q=>q) λ_ _ q=>q;rintro rfl;rcases j with rfl|j
  ·rw[a]at e;cases e
  ·rw[a]at j;cases j
 ·obtain⟨f0,l,v,m,p,r⟩:=k b g;exact⟨m,l,p,r⟩
end
def PIf(X:Cx)(ifs:List Expr)(t:TT):Prop:=
 ∀(pins:AL) (s:Shared) (σ:St) (H:Hp) (Q:Bool→Hp→Prop),Inv X pins σ H s→t σ H Q→
  wpAny (model X.prog X.w) X.A (forIn ifs true λc r=>if r=true then(do let ok←isTrue c X.env (eval c X.env);pure (ForInStep.yield ok))else pure (ForInStep.yield r)) (TP X pins σ Q) X.xe s
def tYes:TT:=λ_ H Q=>Q true H
theorem zP{X:Cx}:PIf X [] tYes:=λ_ _ _ H _ I h=>wpAny_tests_nil ⟨H,I,h⟩
theorem vy{X:Cx}{c:Expr}{t:TT}(h:PT X c t):PIf X [c] t:=λpins s σ H Q I q=>wpAny_tests_one (h pins s σ H Q I q)
def zaW(J:It)(g:TG)(tt:TT)(te:TE)(σc:St)(Q:VK)(H1:Hp):Prop:=∀D,H1 D=none→
 ∃W:Nat→Nat→List V→Hp→Prop,(∃m,W 0 m [] (upd H1 D (.lst [])))∧∀i m ys H,W i m ys H→
  (J.stop i H∧Q (.ref D) H)∨
  (J.go i H∧∃N:List V→Hp→Prop,(∀zs H',N zs H'→∃m',m'<m∧W (i+1) m' zs H')∧∀x H',J.yld i H x H'→g x σc H' λσ2 H2=>Sub σc σ2∧tt σ2 H2 λb H3 =>
   if b=true then te σ2 H3 λv H4=>H4 D=some (.lst ys)∧ys.length<sizeLine∧N (ys++[v]) (upd H4 D (.lst (ys++[v])))else N ys H3)
def xG(js:List (Option Nat))(wi:TI)(g:TG)(tt:TT)(te:TE):TE:=λσ H Q=>wi σ H λJ H1=>zaW J g tt te (capt js σ) Q H1
section
variable {prog:Program}{w:World}{A:Around}{R:Result→Shared→Prop}{s:Shared}
theorem Xu{b tg a:Expr}{d:List Expr}{scope:Scope}{g:Pos}{it acc:Value}{env:Env}(i:Nat→Shared→Prop)(F:AM)(t:∀e s,¬F e s)
  (turn:∀n s,i n s→wpAny (model prog w) A (pyNext it) (λr s1=>(r=none→R (.ok .next) s1)∧∀v,r=some v→
   wpAny (model prog w) A (letOwnedTupleGo tg it v) (λ_ s2=>wpAny (model prog w) A (assign tg env v) (λ_ l =>
    wpAny (model prog w) A (forIn d true λc r=>if r=true then(do let ok←isTrue c env (eval c env);pure (ForInStep.yield ok))else pure (ForInStep.yield r)) (λok j =>
     (ok=false→∃m,m<n∧i m j)∧(ok=true→wpAny (model prog w) A (eval b env) (λx o=>wpAny (model prog w) A (call (.builtin "list.append") [acc,x]) (λ_ p=>∃m,m<n∧i m p) F o) F j)) F l) F s2) F s1) F s)
  (n:Nat) (h:i n s):codeAny (model prog w) A (.compLoop (.ListComp b [⟨tg,a,d,0⟩] scope g) 0 it acc env) R s:=by
 refine codeAny_loop rfl i (λn s u=>?_) n h;show wpAny _ A (Sem.onRaise (compTurn (.ListComp b [⟨tg,a,d,0⟩] scope g) 0 it acc env) (λx=>do noteFrame x env;theTreesLotGoes x)) _ _ s;refine wpAny_noted ?_;rw[compTurn_list];have f:∀{E:AM} (e:Value) (s:Shared),F e s→E e s:=λe s z=>(t e s z).elim;refine AA (wpAny_standAt (AA (wpAny_mono (turn n s u) (λr s1 k=>?_) f)));obtain⟨y,k⟩:=k;cases r with
 | none=>exact AB (y rfl)
 | some v =>
  refine AA (wpAny_mono (k v rfl) (λ_ s2 B=>?_) f);refine AA (wpAny_mono B (λ_ l C=>?_) f);refine AA (wpAny_mono C (λok j q=>?_) f);cases ok with
  | false=>exact AB ⟨rfl,q.1 rfl⟩
  | true =>
   refine AA (AA (wpAny_mono (q.2 rfl) (λx o D=>?_) f));exact AA (wpAny_mono D (λ_ p G=>AB (AB ⟨rfl,G⟩)) f)
end
section
variable {X:Cx}{N:AJ}{scope:Scope}{cl:List (Str×Addr)}{js:List (Option Nat)}{pins:AL}{σ:St}{H:Hp}{s:Shared}
theorem Xv{G:Cx→Prop}{k tg f:Expr}{l:List Expr}{F:Pos}{J:It}{fp:List Addr}{it:Addr}{tn:Nat→Heap→Prop}{g:TG}{tt:TT}{te:TE}{Q:VK}{E:AM}{RR:Value→Addr→Result→Shared→Prop}
  (hc:∀C s H fp,G (X.blk N scope cl C s H fp)) (K:vH X N scope cl js) (I:Inv X pins σ H s) (T:U3 G X.prog X.w X.K tg J fp it tn) (st:tn 0 s.heap) (hf:∀b∈fp,FpOk X pins H b)
  (hg:∀C s H fp,PG (X.blk N scope cl C s H fp) tg g) (ht:∀C s H fp,PIf (X.blk N scope cl C s H fp) l tt) (he:∀C s H fp,PE (X.blk N scope cl C s H fp) k te)
  (hq:zaW J g tt te (capt js σ) Q H)
  (a0:∀(D:Addr) (a s':Shared) (H':Hp) (σ':St),Inv X pins σ (upd H D (.lst [])) a→(∀b∈fp,FpOk X pins (upd H D (.lst [])) b)→Inv (X.blk N scope cl a.heap.objs.size a (upd H D (.lst [])) fp) [] σ' H' s'→Q (.ref D) H'→RR (.ref D) a.heap.objs.size (.ok .next) s') :
  wpAny (model X.prog X.w) X.A (newList []) (λacc a=>wpAny (model X.prog X.w) X.A (newFunctionEnv scope X.env.globals cl [] X.env.qual none .none (some X.env)) (λh s4 =>
   codeAny (model X.prog X.w) X.A (.compStart (.ListComp k [⟨tg,f,l,0⟩] scope F) 0 (.ref it) acc {h with scope:=relabel scope X.env}) (RR acc h.locals) s4) E a) E s:=by
 have fresh:H s.heap.objs.size=none:=I.fresh;have lt:∀b∈fp,b<s.heap.objs.size:=λb d=>by
  obtain⟨o,e,_⟩:=T.obj _ _ st b d;exact ζl e
 obtain⟨W,⟨m0,w0⟩,step⟩:=hq _ fresh;refine wpAny_newObj_type ?_;have Y:=I.lnew (ys:=[]) (its:=[]) (t':=s.toks) .nil (ξa _);have m:∀b∈fp,FpOk X pins (upd H s.heap.objs.size (.lst [])) b:=λb d=>⟨by rw[zk (ζt (lt b d))];exact(hf b d).1,(hf b d).2⟩
 generalize e3:({s with heap:=s.heap.push {cls:=.type "list", data:=.seq ([]:AK).toArray},toks:=s.toks}:Shared)=a at Y;have L:tn 0 a.heap:=by
  rw[←e3];exact T.keep _ _ _ st λb _ o e=>ζd _ e
 have M:∀b∈fp,b<a.heap.objs.size:=λb d=>by
  obtain⟨o,e,_⟩:=T.obj _ _ L b d;exact ζl e
 refine wpAny_newFunctionEnv K.nocell (by intro y hy;simp at hy) (λh4 n4 k4=>?_) K.kind;have old:∀b o,a.heap.get? b=some o→h4.get? b=some o:=λb o e=>(k4.2 b (ζt (ζl e))).trans (ζd _ e);have I4:=T1 K Y m M (tk:=a.toks+([]:List (Str×Value)).length) n4 old;have O:tn 0 h4:=T.keep _ _ _ L λb _ o e=>old b o e;have q:∀{H':Hp},(∀b∈fp,H' b=none)→∀b∈fp,FpOk (X.blk N scope cl a.heap.objs.size a (upd H s.heap.objs.size (.lst [])) fp) [] H' b:=λhn b d =>
  ⟨hn b d,ζt (M b d),λz=>(ζq.mp (Y.stkSub b z)).elim (m b d).2.1 (m b d).2.2.1,.inl d,λx c e=>(m b d).2.2.2.2.1 x c (K.cells (x,c) (PySem.mem_of_lookup e)),λp hp=>(m b d).2.2.2.2.2 p (ζy _ (by rwa [ζx]at hp))⟩
 have j:codeAny (model X.prog X.w) X.A (.compLoop (.ListComp k [⟨tg,f,l,0⟩] scope F) 0 (.ref it) (.ref s.heap.objs.size) (compEnvC scope cl a.heap.objs.size X.env)) (RR (.ref s.heap.objs.size) a.heap.objs.size)
   ({a with heap:=h4,toks:=a.toks+([]:List (Str×Value)).length}:Shared):=by
  refine Xu (λn s'=>∃i ys H',Inv (X.blk N scope cl a.heap.objs.size a (upd H s.heap.objs.size (.lst [])) fp) [] (capt js σ) H' s'∧tn i s'.heap∧(∀b∈fp,H' b=none)∧W i n ys H') (λ_ _=>False) (λ_ _ z=>z) ?_ m0
   ⟨0,[],_,I4,O,λb d=>(m b d).1,w0⟩
  rintro n s5 ⟨i,ys,Z,I5,P,R,w5⟩;rcases step i n ys Z w5 with⟨stop,qn⟩|⟨go,Nn,hN,a1⟩
  ·refine thn (T.done (X.blk N scope cl a.heap.objs.size a (upd H s.heap.objs.size (.lst [])) fp) rfl rfl rfl (hc _ _ _ _) i [] s5 (capt js σ) Z _ I5 (q R) P stop) λr s6 ⟨hr,I6⟩=>⟨λ_=>?_,λv e=>?_⟩
   ·exact a0 _ a s6 Z _ Y m I6 qn
   ·rw[hr]at e;cases e
  ·refine thn (T.item (X.blk N scope cl a.heap.objs.size a (upd H s.heap.objs.size (.lst [])) fp) rfl rfl rfl (hc _ _ _ _) i [] s5 (capt js σ) Z _ I5 (q R) P go) λr s6 ⟨u,hr,h6⟩=>⟨λe=>?_,λv e=>?_⟩
   ·rw[hr]at e;cases e
   rw[hr]at e;cases e;refine thn h6 λ_ s7 ⟨x,H7,I7,r7,y7,t,a2⟩=>?_;have a3:=I7.pinned (q a2) (T.obj _ _ t)
   have back:∀{σ':St} {H':Hp} {s':Shared} {i' n':Nat} {zs:List V},Inv (X.blk N scope cl a.heap.objs.size a (upd H s.heap.objs.size (.lst [])) fp) ([]++Zn fp s7.heap) σ' H' s'→Sub (capt js σ) σ'→W (i+1) n' zs H'→
     ∃i ys H',Inv (X.blk N scope cl a.heap.objs.size a (upd H s.heap.objs.size (.lst [])) fp) [] (capt js σ) H' s'∧tn i s'.heap∧(∀b∈fp,H' b=none)∧W i n' ys H':=λ{σ' H' s' i' n' zs} I' sb S=>by
    refine⟨i+1,zs,H',(I'.unpinned).weak sb.1 sb.2,T.keep _ _ _ t λb d o e=>(I'.pin (b,o) (ζw _ (ζw _ (xS d e)))).1,λb d=>?_,S⟩
    obtain⟨o,e,_⟩:=T.obj _ _ t b d;exact(I'.pin (b,o) (ζw _ (ζw _ (xS d e)))).2.1
   refine thn (hg _ _ _ _ _ s7 (capt js σ) H7 x _ _ a3 r7 (a1 x H7 y7)) λ_ s8 ⟨B,H8,I8,U,q8⟩=>?_;refine thn (ht _ _ _ _ _ s8 B H8 _ I8 q8) λok s9 ⟨H9,I9,q9⟩=>⟨λe=>?_,λe=>?_⟩
   ·rw[e,if_neg ζv]at q9;obtain⟨m',hm,S⟩:=hN _ _ q9;exact⟨m',hm,back (i':=0) I9 U S⟩
   ·rw[e,if_pos rfl]at q9;refine thn (he _ _ _ _ _ s9 B H9 _ I9 q9) λxv sa ⟨v,Ha,Ia,ra,qa,za,nn⟩=>?_;obtain⟨m',hm,S⟩:=hN _ _ nn;refine thn (yP (X:=X.blk N scope cl a.heap.objs.size a (upd H s.heap.objs.size (.lst [])) fp) _ sa B Ha (.ref s.heap.objs.size) [v] (.ref s.heap.objs.size) [xv] (λy H'=>H'=upd Ha s.heap.objs.size (.lst (ys++[v]))) Ia rfl (.cons ra .nil) ⟨_,ys,v,rfl,rfl,qa,za,rfl⟩) λy sb ⟨z,Hb,Ib,_,eb⟩=>?_;rw[eb]at Ib;exact⟨m',hm,back (i':=0) Ib U S⟩
 exact codeAny_compStart_list j (T.self _ 0 _ _ _ O j)
theorem zZ{b tg a:Expr}{c:List Expr}{f:Pos}{j:TI}{g:TG}{tt:TT}{te:TE}(l:X.calm=true)(K:vH X N scope cl js)(hi:PI X tg a j)
  (n:∀C s H fp,PG (X.blk N scope cl C s H fp) tg g) (o:∀C s H fp,PIf (X.blk N scope cl C s H fp) c tt) (p:∀C s H fp,PE (X.blk N scope cl C s H fp) b te)
  (r:∀x,foldedSetIterable a X.env x=pure x:=by intro _;rfl):PE X (.ListComp b [⟨tg,a,c,0⟩] scope f) (xG js j g tt te):=by
 intro pins s σ H Q I h;rw[eval_ListComp];refine wpAny_comprehension_free (use:=none) rfl r K.clos K.kind K.names (thn (hi pins s σ H _ I h) λv s1 t=>thn t λu s2 y=>?_);obtain⟨it,fp,tn,J,M,e,z,T,i,B,hq⟩:=y;subst e;refine Xv (RR:=λacc C=>compPost (model X.prog X.w) X.A X.xe none (EP X pins σ Q) acc C) (λ_ _ _ _=>l) K z T i B n o p hq ?_;intro D O s' H' σ' E F k q;obtain⟨m,G,_⟩:=k.loc;exact⟨m,G,λL d=>⟨.ref D,H',U2 E F k d,rfl,q⟩⟩
theorem WT{G:Cx→Prop}{j tg d:Expr}{k:List Expr}{n l r:Pos}{i:Nat}{y:Str}{V:TI}{g:TG}{tt:TT}{te:TE}(hc:∀C s H fp,G (X.blk N scope cl C s H fp))(hN:X.N.Nodup)(E:X.N[i]?=some y)(W:X.env.scope.names.lookup y=some .local)(K:vH X N scope cl js)(hi:PIG G X tg d V)
  (hg:∀C s H fp,PG (X.blk N scope cl C s H fp) tg g) (ht:∀C s H fp,PIf (X.blk N scope cl C s H fp) k tt) (he:∀C s H fp,PE (X.blk N scope cl C s H fp) j te)
  (F:swapsWith (.ListComp j [⟨tg,d,k,0⟩] scope n) (some (.Name y r)) l.line X.env=pure true:=by rfl)
  (hs:∀x,foldedSetIterable d X.env x=pure x:=by intro _;rfl):PS X (.Assign [.Name y r] (.ListComp j [⟨tg,d,k,0⟩] scope n) l) (tAsg (xG js V g tt te) (yt i)):=by
 intro pins s σ H D I h;rw[exec_Assign_Name_used _ _ _ _ F];refine AA (wpAny_standAt (AA ?_));show wpAny _ X.A (do let _←comprehension (.ListComp j [⟨tg,d,k,0⟩] scope n) scope X.env _ (newList []) false (eval d X.env) (some (assign (.Name y r) X.env))) _ _ s
 refine AA (wpAny_mono (wpAny_comprehension_free (use:=some (assign (.Name y r) X.env)) (Q:=λ_ s'=>SP X pins D .next s') rfl hs K.clos K.kind K.names
  (thn (hi pins s σ H _ I h) λv s1 h1=>thn h1 λa0 s2 h2=>?_)) (λ_ s' hq=>AB (AB hq)) λ_ _ e=>e)
 obtain⟨it,fp,tn,J,H2,e,I2,T,L,f2,hq⟩:=h2;subst e;refine Xv (RR:=λacc C=>compPost (model X.prog X.w) X.A X.xe (some (assign (.Name y r) X.env)) (λ_ s'=>SP X pins D .next s') acc C) hc K I2 T L f2 hg ht he hq ?_;intro Y B s' H' σ' t f3 M q;have I':Inv X pins σ H' s':=U2 t f3 M (Heap.SameBut.refl ..);obtain⟨m,hn,_⟩:=M.loc;have Z:B.heap.objs.size≠X.env.locals:=Ne.symm (ζt t.lt);have f:∀x c,X.env.cells.lookup x=some c→c≠B.heap.objs.size:=λx c e z=>by
  obtain⟨v,q⟩:=t.cell x c e;exact absurd q.lt (by rw[z];exact ξi _)
 show wpAny _ X.A (assign (.Name y r) X.env (.ref Y)) _ _ _;refine wpAny_assign_Name (Xc I' hN E (.inl W) (v:=.ref Y) rfl (λO P ⟨a,R,u⟩=>?_) (.inr W));have S:B.heap.objs.size≠a:=by
  rcases u with u|u
  ·rw[u];exact Z
  ·exact Ne.symm (f y a u)
 refine⟨m,hn.sameBut R S,λh3 U=>?_⟩
 refine⟨_,H',P.turned (t':=O.toks) (it:=B.heap.objs.size) (λb o hb e=>(U.2 b hb).trans e) M.free Z (.inr t.sz) f (λp hp z=>?_),q⟩
 exact absurd (ζl (t.pin p hp).1) (by rw[z];exact ξi _)
theorem yp{c tg a:Expr}{d:List Expr}{e b j:Pos}{i:Nat}{y:Str}{k:TI}{g:TG}{tt:TT}{te:TE}(l:X.calm=true)(m:X.N.Nodup)(f:X.N[i]?=some y)(n:X.env.scope.names.lookup y=some .local)(K:vH X N scope cl js)(hi:PI X tg a k)
  (o:∀C s H fp,PG (X.blk N scope cl C s H fp) tg g) (p:∀C s H fp,PIf (X.blk N scope cl C s H fp) d tt) (q:∀C s H fp,PE (X.blk N scope cl C s H fp) c te)
  (h:swapsWith (.ListComp c [⟨tg,a,d,0⟩] scope e) (some (.Name y j)) b.line X.env=pure true:=by rfl)
  (r:∀x,foldedSetIterable a X.env x=pure x:=by intro _;rfl):PS X (.Assign [.Name y j] (.ListComp c [⟨tg,a,d,0⟩] scope e) b) (tAsg (xG js k g tt te) (yt i)):=WT (G:=λX=>X.calm=true) (λ_ _ _ _=>l) m f n K hi o p q h r
end
structure zE(P:Program)(w:World)(K:ζa)(mg:AN)(base:Heap)(CX:CXT)(x:Str)(ps:AJ)(k:Nat)(sp:Sp):Prop where
 ex:∃f fd,FnOk P w K mg base CX k f fd ps sp∧mg x=some (.ref f)∧PySem.W.keepIn K (.ref f)=true∧ud K fd ps []
section
variable {X:Cx}{CX:CXT}{k:Nat}{ps:AJ}{sp:Sp}{E:XK}{x:Str}{p pos:Pos}{e:Expr}{es:List Expr}{t:TA}
theorem Uy(C:zE X.prog X.w X.K X.mg X.base CX x ps k sp)(c:Room k X.A)(d:Gl X x)(g:ZE CX X E)(i:PA X (e::es) t)
  (a:(x==("__debug__" : Str))=false:=by decide) (j:starEach (e::es) X.env=(false,eval e X.env)::starEach es X.env:=by rfl) (b:(backTo pos (starEach es X.env)).any (·.1)=false:=by rfl) :
  PE X (.Call (.Name x p) (e::es) [] pos) (y8 sp [] E t):=by
 intro pins s σ H Q I h;obtain⟨f,fd,F,l,m,n⟩:=C.ex;exact(zbF F c d l m n .nil g i a j b) pins s σ H Q I h
end
theorem vH.of{X:Cx}{N:AJ}{scope:Scope}{cl:List (Str×Addr)}{js:List (Option Nat)}(clos:closureFor scope X.env=pure cl)(b:(scope.names.all λy=>y.2 != .cell)=true)(kind:scope.kind=.function)
  (nm:(scope.names.all λy=>y.2 != .local||(scope.names.lookup y.1==some .local))=true) (cells:∀p∈cl,X.env.cells.lookup p.1=some p.2) (has:(scope.names.all λy=>y.2 != .free||(cl.lookup y.1).isSome)=true)
  (len:js.length=N.length) (cap:((js.zip N).all λp=>match p.1 with|none=>true|some j=>(X.N[j]?==some p.2)&&(scope.names.lookup p.2==some .free)&&(X.env.scope.names.lookup p.2==some .cell||X.env.scope.names.lookup p.2==some .free))=true):vH X N scope cl js:=by
 rw[ζM]at b nm has cap;refine⟨clos,λy a=>by simpa using b y a,kind,λy a e=>?_,cells,λy a e=>?_,len,λi j e=>?_⟩
 ·have q:=nm y a;rw[e]at q;simpa using q
 ·have q:=has y a;rw[e]at q;simpa using q
 ·have hi:i<js.length:=(ζg.mp e).1;have c:N[i]?=some (N[i]'⋯):=ζe ⋯;have d:(js.zip N)[i]?=some (some j,N[i]'⋯):=by
   rw[ξr];exact⟨e,c⟩
  have q:=cap _ (ζk d);simp only[Bool.and_eq_true,Bool.or_eq_true,beq_iff_eq]at q;exact⟨_,c,q.1.1,q.1.2,q.2⟩
theorem Same.new{H:Hp}{p:Addr}(h:H p=none)(o:HO):Same H (upd H p o):=λb u q=>by rw[zk (zt q h)];exact q
def Ul(K:ζa):Sp:=λvs H Q _=>∃(a:Addr) (ns:AE),vs=[.ref a]∧SqL K H a (ns.map V.int)∧ns.length≤63∧∀H',Q (.bl true) H'
theorem UX{K:ζa}{H:Hp}:∀ns:AE,zV K H (ns.map V.int) (ns.map PyData.int)
 | []=>.nil
 | n::r=>.cons (.int n) (UX r)
end L2
namespace PySem
theorem VS:typeLookup (.type "list_reverseiterator") "__len__" = pure none:=by rw[typeLookup_type,builtinLookup_eq_fast];kernel_rfl
theorem Q9:typeLookup (.type "list_reverseiterator") "__length_hint__" = pure (some (.builtin "list_reverseiterator.__length_hint__")):=by rw[typeLookup_type,builtinLookup_eq_fast];kernel_rfl
section
variable {prog:Program}{w:World}{A:Around}{E:AM}{s:Shared}{R:Result→Shared→Prop}
theorem W8{it:Addr}{Q:Bool→Shared→Prop}(d:s.TypeIs (.ref it) "list_reverseiterator")(h:Q false s):wpAny (model prog w) A (Builtin.List.listLengthHint (.ref it)) Q E s:=by
 unfold Builtin.List.listLengthHint;refine AA (wpAny_specialOf d VS ?_);refine AA (wpAny_specialOf d Q9 ?_);generalize c:("list_reverseiterator.__length_hint__" : String)=e
 wp_delta
 rw[show splitId e=some ("list_reverseiterator","__length_hint__")from by subst c;decide +kernel];subst c;refine AA (wpAny_isInstance (T:= "list_reverseiterator") (b:=true) d (by rw[isSubtype_type];kernel_rfl) ?_);refine wpAny_ite_split (λa=>absurd a #[2]) (λ_=>?_);refine wpAny_ite_split (λ_=>?_) (λa=>absurd (by decide +kernel) a);refine wpAny_ite_split (λa=>absurd a (by decide +kernel)) (λ_=>?_);exact AB h
theorem VV{it l:Addr}{a:Array Value}(x:A.handled=none)(d:s.heap.IsRevIter it l ((a.size:Int)-1))(y:s.heap.IsList l a)(k:l≠it)(S:Addr)(res:Value)(r:Nat)(z:s.heap.get? S=some {cls:=.type "list", data:=.seq #[] r})(h:S≠it)(m:S≠l)(B:a.size≤sizeLine)
  (C:∀h' tk c g,(∀b o,b≠S→b≠it→s.heap.get? b=some o→h'.get? b=some o)→h'.get? S=some {cls:=.type "list", dict:=none,data:=.seq c g,slots:=#[]}→ItemsOf (λi v=>a[a.size-1-i]?=some v) c a.size→R (.ok (.ret res)) {s with heap:=h',toks:=tk}) :
  wpAny (model prog w) A.in1 (Builtin.List.listExtendWith (.ref S) (.ref it) res)
   (λn s'=>match n with | .done f=>R (.ok f) s' | .again g=>g.quiet=true∧codeAny (model prog w) A g R s') (λe s'=>R (.error e) s') s:=by
 have W:=(Walks.listRev (prog:=prog) (w:=w) (A:=A.in1) x it l k a).toS;have t:s.TypeIs (.ref it) "list_reverseiterator" := d.typeIs;unfold Builtin.List.listExtendWith;refine AA (wpAny_typeOf t ?_);have D:Builtin.List.listSameRef (.ref S) (.ref it)=false:=by simp[Builtin.List.listSameRef,h]
 have E:(Value.type "list_reverseiterator" == Value.type "list")=false:=by decide
 have G:(Value.type "list_reverseiterator" == Value.type "tuple")=false:=by decide
 simp only[D,E,G,Bool.or_false,Bool.false_eq_true,if_false];refine AA (wpAny_pyIter_revIter d ?_);refine AA (wpAny_holding (W8 t ?_));refine wpAny_ite_split (λp=>absurd p (by decide +kernel)) (λ_=>?_);refine AB ⟨plainId_quiet F.plain_extend_loop _,codeAny_extend_loopS W B S (by simp[h,m]) res a.size 0 _ #[] r rfl (Nat.zero_le _) ⟨Nat.zero_le _,by simpa using d,y⟩ z (ItemsOf.nil _) λs' c g u q j=>?_⟩;rw[Moved.eq_with u];exact C s'.heap s'.toks c g (λb o H hi e=>u.heap b o (by simp[H,hi]) e) q j
theorem Y7{it l:Addr}{a:Array Value}{Q:AM}(u:A.handled=none)(h:s.heap.IsRevIter it l ((a.size:Int)-1))(t:s.heap.IsList l a)(p:l≠it)(x:a.size≤sizeLine)
  (y:∀h' tk c q,(∀b o,b≠it→s.heap.get? b=some o→h'.get? b=some o)→h'.get? s.heap.objs.size=some {cls:=.type "list", dict:=none,data:=.seq c q,slots:=#[]}→ItemsOf (λi v=>a[a.size-1-i]?=some v) c a.size→Q (.ref s.heap.objs.size) {s with heap:=h',toks:=tk}) :
  wpAny (model prog w) A (call (.type "list") [.ref it]) Q E s:=by
 have lt:∀{b o},s.heap.get? b=some o→s.heap.objs.size≠b:=λe=>ζ6 (ζl e)
 refine callType_codes (Q₁:=λobj d=>obj=.ref s.heap.objs.size∧d={s with heap:=s.heap.push {cls:=.type "list", data:=.seq #[]}}) F.called_list (F.typeCall_list_1 _) F.entry_list_init
  (code_list_new _ ⟨rfl,rfl⟩) λobj d j=>?_
 obtain⟨rfl,rfl⟩:=j;have n:(s.heap.push {cls:=.type "list", data:=.seq #[]}).get? s.heap.objs.size=some {cls:=.type "list", data:=.seq #[]}:=ζo _ rfl;obtain⟨G,z,_⟩:=id h;obtain⟨H,B,_⟩:=id t;refine⟨⟨_,n,rfl⟩,F.args_list_init_2 _ _,?_⟩
 show wpAny _ A.in1.in1 (do let old←Builtin.List.listItems (.ref s.heap.objs.size);Builtin.List.listUpdate (.ref s.heap.objs.size) (λ_=>#[]);letGo old.toList.reverse;Builtin.List.listExtendWith (.ref s.heap.objs.size) (.ref it) .none) _ _ _;refine AA ?_;unfold Builtin.List.listItems;refine AA (wpAny_seqItems n rfl (AB ?_));refine AA (m:=updateSeq s.heap.objs.size (λ_=>#[])) (wpAny_updateSeq n rfl ?_);have f:=ζJ (Obj.mapSeq (λ_=>(#[]:Array Value))) n rfl
 have g:∀b o,s.heap.get? b=some o→((s.heap.push {cls:=.type "list", data:=.seq #[]}).update s.heap.objs.size (Obj.mapSeq (λ_=>(#[]:Array Value)))).get? b=some o:=
  λb o e=>(ζX _ _ (lt e)).trans (ζd _ e)
 refine AA (wpAny_letGo ?_);refine VV (A:=A.in1) u (h.at λo e=>g _ o e) (t.at λo e=>g _ o e) p _ .none _ f (lt z) (lt B) x λh' tk c q C r k=>?_;exact⟨rfl,y h' tk c q (λb o D e=>C b o (Ne.symm (lt e)) D (g b o e)) r k⟩
end
end PySem
namespace L2
open PySem PySem.Spec PyProof.Rows
section
variable {X:Cx}
theorem QF{xs:List V}{its:AK}{acc:Array Value}(r:Vals xs its)(h:ItemsOf (λi v=>its.toArray[its.toArray.size-1-i]?=some v) acc its.toArray.size):Vals xs.reverse acc.toList:=by
 have e:acc.toList=its.reverse:=by
  have b:acc.size=its.length:=by rw[h.1,ζE]
  refine ξJ λi=>?_;by_cases hi:i<its.length
  ·have a:acc[i]?=some (acc[i]'⋯):=ξc ⋯;have q:=h.2 i _ a;rw[List.getElem?_reverse hi,ζ0,a,←q,ζE,List.getElem?_toArray]
  ·rw[ζT (by rw[ζY];omega),ζT (by rw[ξE];omega)]
 rw[e];exact r.reverse
def Z5(K:ζa)(ta:TA):TE:=λσ H Q=>ta σ H λvs H1=>∃a xs,vs=[.ref a]∧SqL K H1 a xs∧∀p,H1 p=none→Q (.ref p) (upd H1 p (.lst xs.reverse))
theorem VL{a:Expr}{y:TA}{p m f c:Pos}(C:X.calm=true)(D:Gl X "list")(E:X.mg "list" = none)(n:Gl X "reversed")(r:X.mg "reversed" = none)(F:PA X [a] y)(G:starEach (a::[]) X.env=(false,eval a X.env)::starEach [] X.env:=by rfl)
  (g:starEach (Expr.Call (.Name "reversed" m) [a] [] c::[]) X.env=(false,eval (.Call (.Name "reversed" m) [a] [] c) X.env)::starEach [] X.env:=by rfl) :
  PE X (.Call (.Name "list" p) [.Call (.Name "reversed" m) [a] [] c] [] f) (Z5 X.K y):=by
 intro pins s σ H Q I h;refine wpAny_Call_Name_kw (u8 I D E (u:=.type "list") (by decide +kernel) ?_ #[2] #[2]);refine PyProof.Rows.callWith_type1 ?_ g (by rfl);rw[g];show wpAny _ _ (spliced ((false,eval (.Call (.Name "reversed" m) [a] [] c) X.env)::backTo f (starEach [] X.env))) _ _ s;refine Calls.spliced_cons ?_;refine wpAny_Call_Name_kw (u8 I n r (u:=.type "reversed") (by decide +kernel) ?_ #[2] #[2]);refine PyProof.Rows.callWith_type1 (thn (F c pins s σ H _ I h) λus s1 ⟨vs,z,i,J,L⟩=>?_) G (by rfl);obtain⟨j,xs,rfl,M,q⟩:=L;obtain⟨u,rfl,N⟩:=J.one;cases(show u=Value.ref j from N);obtain⟨d,A,t,O⟩:=i.list M;refine call_reversed_list t.isList ?_;refine Calls.spliced_nil ?_;have T:=A.length;have v:j≠s1.heap.objs.size:=by
  obtain⟨o,e,_⟩:=t.isList;exact ζt (ζl e)
 have B:Inv X pins σ z {s1 with heap:=s1.heap.push (revObj j ((d.toArray.size:Int)-1))}:=i.kept (t':=s1.toks) λb o e=>ζd _ e;refine Y7 (s:={s1 with heap:=s1.heap.push (revObj j ((d.toArray.size:Int)-1))}) (i.ok.hd C) ⟨_,ζo _ rfl,rfl,rfl⟩ (t.isList.at λo e=>ζd _ e) v (by rw[ζE];omega) λh' tk k P R w l=>?_;have hp:z (s1.heap.push (revObj j ((d.toArray.size:Int)-1))).objs.size=none:=B.fresh;have S:=QF A l;refine⟨.ref _,_,B.turnNew (fp:=[s1.heap.objs.size]) (t':=tk) (λb x=>?_) (λb u x e=>R b u (by simpa using x) e) (Nat.le_refl _) ?_,rfl,q _ hp⟩
 ·have e:b=s1.heap.objs.size:=by simpa using x
  subst e;exact i.fpOk (ζp _) (i.hok.fresh (ζp _))
 ·exact⟨by rw[List.length_reverse];exact O,k.toList,P,S,by simpa using w⟩
end
section
variable {X:Cx}{K:ζa}
theorem zj(a:X.K=K):IxR X (rIxL K):=by subst a;exact UJ
theorem zN(a:X.K=K):IxR X (rIxT K):=by subst a;exact zdz
theorem zn(a:X.K=K):yo X (.builtin "len") (λxs H Q=>∃p ys,xs=[.ref p]∧(SqL K H p ys∨SqT K H p ys)∧Q (.int ys.length) H):=by subst a;exact WC
theorem zw(a:X.K=K):yo X (.type "list") (λxs H Q=>∃p ys,xs=[.ref p]∧(SqL K H p ys∨SqT K H p ys)∧∀l,H l=none→Q (.ref l) (upd H l (.lst ys))):=by subst a;exact Zg
theorem vA(a:X.K=K)(b:X.A.units+64<cLine):OpR X (compareOp .Eq) (rEqD K false):=by subst a;exact zdo b
theorem zbH(a:X.K=K)(b:X.A.units+64<cLine):OpR X (compareOp .NotEq) (rEqD K true):=by subst a;exact zdk b
theorem tG(a:X.K=K):SlR X (rSlL K):=by subst a;exact zbj
theorem vz(a:X.K=K):OpR X (compareOp .In) (rIn K false):=by subst a;exact Ti
theorem uM(a:X.K=K):OpR X (compareOp .NotIn) (rIn K true):=by subst a;exact X2
theorem X1{a:List Expr}{k:Nat}{t:TGs}{n:Nat}{b:Pos}(d:X.K=K)(e:X.calm=true)(h:PGs X a t)
  (f:(assignEach a X.env).length=n:=by rfl) (c:(assignEach a X.env).findIdx? (·.1)=none:=by rfl):PG X (.Tuple a k b) (gTup K n t):=by subst d;exact zdd e h f c
end
end L2
namespace L2
open PySem PySem.Spec PyProof.Rows PySem.SeqAt
section
variable {X:Cx}{K:ζa}
def rEqS(K:ζa):R2:=λx y H Q=>∃d,Dp K H x d∧Dp K H y d∧shaped d=true∧Q (.bl true) H
def rNeS(K:ζa):R2:=λx y H Q=>∃d,Dp K H x d∧Dp K H y d∧shaped d=true∧Q (.bl false) H
theorem zdn(a:X.A.units+64<cLine):OpR X (compareOp .Eq) (rEqS X.K):=by
 intro pins s σ H x y v u Q I b c h;obtain⟨d,e,f,z,q⟩:=h;obtain⟨as,ra⟩:=e.reads I b;obtain⟨bs,rb⟩:=f.reads I c;refine eq_dataH ra rb z z a ?_;rw[eqv_refl d (canLay_of_shaped z)];exact⟨.bl true,H,I,rfl,q⟩
theorem zdj(a:X.A.units+64<cLine):OpR X (compareOp .NotEq) (rNeS X.K):=by
 intro pins s σ H x y v u Q I b c h;obtain⟨d,e,f,z,q⟩:=h;obtain⟨as,ra⟩:=e.reads I b;obtain⟨bs,rb⟩:=f.reads I c;refine ne_dataH ra rb z z a ?_;rw[eqv_refl d (canLay_of_shaped z)];exact⟨.bl false,H,I,rfl,q⟩
theorem UB(a:X.K=K)(b:X.A.units+64<cLine):OpR X (compareOp .Eq) (rEqS K):=by subst a;exact zdn b
theorem zbG(a:X.K=K)(b:X.A.units+64<cLine):OpR X (compareOp .NotEq) (rNeS K):=by subst a;exact zdj b
end
end L2
namespace L2
open PySem PySem.Spec PyProof.Rows
section
end
end L2
namespace Cm
open PySem L2
theorem take_succ{a:Type}{xs:List a}{i:Nat}{x:a}(h:xs[i]?=some x):xs.take (i+1)=xs.take i++[x]:=by
 rw[ξW,h];rfl
theorem V6{P:Program}{w:World}{K:ζa}{mg:AN}{base:Heap}{x:Str}{st:Stmt}{f:Addr}{fd:FuncData}{ps:AJ}{k:Nat}{sp:Sp}(F:Fun K x x st f fd)(a:mg x=some (.ref f))(b:ud K fd ps [])(G:FnOk P w K mg base CX0 k f fd ps sp):
  zE P w K mg base CX0 x ps k sp:=⟨f,fd,G,a,F.kp,b⟩
structure At(K:ζa)(x:Str)(st:Stmt)(f:Addr)(fd:FuncData):Prop where
 ns:PySem.W.nsIn K mainGlobals x=some (some (.ref f))
 fn:Fun K x x st f fd
theorem zcX{K:ζa}{x:Str}{st:Stmt}{f:Addr}{oc:Value}{od an:Option Addr}{osl:Array (Option Value)}{kV doc pm cdv ct:Value}(a:PySem.W.nsIn K mainGlobals x=some (some (.ref f)))
  (l:K.lookup f=some ⟨oc,od,.func (PySem.W.fnOf x x (wt st) (xk st) (zr st) .none kV doc pm an cdv ct),osl⟩) (c:PySem.W.codeIn K cdv x=true) (k:PySem.W.keepIn K (.ref f)=true):∃f fd,At K x st f fd:=⟨f,_,a,Wm l c k⟩
end Cm
namespace PD
open PySem L2
variable {K:ζa}
theorem Same.seqT{H H':Hp}{a:Addr}{xs:List V}(e:Same H H')(h:SqT K H a xs):SqT K H' a xs:=by
 rcases h with(h|⟨o,h⟩)|h
 ·exact .inl (.inl (e _ _ h))
 ·exact .inl (.inr ⟨o,e _ _ h⟩)
 ·exact .inr h
mutual
theorem wq{F F':Hp}(e:Same F F'):∀{v:V} {d:AD},Dp K F v d→Dp K F' v d
 | _,_,.non=>.non
 | _,_,.bl b=>.bl b
 | _,_,.int i=>.int i
 | _,_,.str x=>.str x
 | _,_,.lst h k=>.lst (e.seq h) (vE e k)
 | _,_,.tup h k=>.tup (Same.seqT e h) (vE e k)
 | _,_,.dct h=>.dct (e _ _ h)
theorem vE{F F':Hp}(e:Same F F'):∀{vs:List V} {ds:AG},zV K F vs ds→zV K F' vs ds
 | _,_,.nil=>.nil
 | _,_,.cons h k=>.cons (wq e h) (vE e k)
end
theorem zV.length{F:Hp}:∀{vs:List V} {ds:AG},zV K F vs ds→vs.length=ds.length
 | _,_,.nil=>rfl
 | _,_,.cons _ k=>congrArg (·+1) (zV.length k)
theorem zV.get{F:Hp}:∀{vs:List V} {ds:AG} {i:Nat} {d:AD},zV K F vs ds→ds[i]?=some d→∃v,vs[i]?=some v∧Dp K F v d
 | _,_,_,_,.nil,e=>by simp at e
 | _,_,0,_,.cons h _,e=>by simp at e;subst e;exact⟨_,rfl,h⟩
 | _,_,i+1,d,.cons _ k,e=>by
  obtain⟨v,a,b⟩:=zV.get (i:=i) k (by simpa using e);exact⟨v,by simpa using a,b⟩
theorem tm{F:Hp}(ns:AE):zV K F (ns.map V.int) (ns.map PyData.int):=UX ns
theorem yd{F:Hp}:∀{vs:List V} {ns:AE},zV K F vs (ns.map PyData.int)→vs=ns.map V.int
 | _,[],.nil=>rfl
 | _,n::r,.cons h t=>by cases h;rw[ξq,yd t]
theorem ua{F:Hp}{v:V}{i:Int}(h:Dp K F v (.int i)):v=.int i:=by cases h;rfl
theorem zem{F:Hp}{v:V}{b:Bool}(h:Dp K F v (.bool b)):v=.bl b:=by cases h;rfl
theorem zdN{F:Hp}{v:V}(h:Dp K F v .none):v=.non:=by cases h;rfl
theorem zdM{F:Hp}{v:V}{ds:AG}(h:Dp K F v (.tuple ds)):∃a vs,v=.ref a∧SqT K F a vs∧zV K F vs ds:=by cases h with|tup h k=>exact⟨_,_,rfl,h,k⟩
structure Gr(H F H' F':Hp):Prop where
 h:Same H H'
 f:Same F F'
 le:Same F' H'
 ap:∀a o,H a=some o→F a=none→F' a=none
theorem Gr.refl{H F:Hp}(le:Same F H):Gr H F H F:=⟨.refl _,.refl _,le,λ_ _ _ h=>h⟩
theorem Gr.trans{H F d e g i:Hp}(a:Gr H F d e)(b:Gr d e g i):Gr H F g i:=⟨a.h.trans b.h,a.f.trans b.f,b.le,λc o q n=>b.ap c o (a.h _ _ q) (a.ap c o q n)⟩
theorem Gr.new{H F:Hp}{p:Addr}(le:Same F H)(hp:H p=none)(o:HO):Gr H F (upd H p o) (upd F p o):=by
 have fp:F p=none:=le.free hp;refine⟨Same.new hp o,Same.new fp o,λb u q=>?_,λb u q n=>?_⟩
 ·by_cases e:b=p
  ·subst e;rw[zm]at q ⊢;exact q
  ·rw[zk e]at q ⊢;exact le _ _ q
 ·rw[zk (zt q hp)];exact n
theorem Gr.newO{H F:Hp}{p:Addr}(le:Same F H)(hp:H p=none)(o:HO):Gr H F (upd H p o) F:=⟨Same.new hp o,.refl _,λb u q=>by rw[zk (zt (le _ _ q) hp)];exact le _ _ q,λ_ _ _ n=>n⟩
inductive Sx where
 | fresh|spoil (T:Addr→Prop)
def Sx.has(S:Sx)(H0:Hp)(a:Addr):Prop:=match S with | .fresh=>H0 a≠none | .spoil T=>H0 a≠none∨T a
def LN(K:ζa)(κ:Bool)(S:Sx)(H0 F:Hp)(a:Addr)(xs:List V):Prop:=match κ with
 | true=>F a=some (.lst xs)∧¬S.has H0 a
 | false=>SqL K F a xs
theorem LN.sq{κ:Bool}{S:Sx}{H0 F:Hp}{a:Addr}{xs:List V}(h:LN K κ S H0 F a xs):SqL K F a xs:=by
 cases κ with
 | true=>exact SqL.of h.1
 | false=>exact h
theorem LN.mono{κ:Bool}{S:Sx}{H0 F F':Hp}{a:Addr}{xs:List V}(h:LN K κ S H0 F a xs)(e:Same F F'):LN K κ S H0 F' a xs:=by
 cases κ with
 | true=>exact⟨e _ _ h.1,h.2⟩
 | false=>exact e.seq h
theorem LN.new{κ:Bool}{S:Sx}{H0 F:Hp}{a:Addr}{xs:List V}(h:¬S.has H0 a):LN K κ S H0 (upd F a (.lst xs)) a xs:=by
 cases κ with
 | true=>exact⟨zm,h⟩
 | false=>exact SqL.of zm
def SqU(K:ζa)(F:Hp)(a:Addr):Option (List V)→Prop
 | some xs=>SqT K F a xs
 | none=>F a=some (.dK [])
theorem Same.seqU{H H':Hp}{a:Addr}{u:Option (List V)}(e:Same H H')(h:SqU K H a u):SqU K H' a u:=by
 cases u with
 | some xs=>exact Same.seqT e h
 | none=>exact e _ _ h
theorem SqU.mv{F F':Hp}{a:Addr}{u:Option (List V)}(h:SqU K F a u)(t:∀xs,SqT K F a xs→SqT K F' a xs)(d:F a=some (.dK [])→F' a=some (.dK [])):SqU K F' a u:=by
 cases u with
 | some xs=>exact t xs h
 | none=>exact d h
mutual
inductive Rp(K:ζa)(κ:Bool)(S:Sx)(H0 F:Hp):V→AD→Prop
 | non:Rp K κ S H0 F .non .none
 | bl (b:Bool):Rp K κ S H0 F (.bl b) (.bool b)
 | int (i:Int):Rp K κ S H0 F (.int i) (.int i)
 | str (x:Str):Rp K κ S H0 F (.str x) (.str x)
 | lst {a:Addr} {xs:List V} {ds:AG}:LN K κ S H0 F a xs→zq K κ S H0 F xs ds→Rp K κ S H0 F (.ref a) (.list ds)
 | tup {a:Addr} {xs:List V} {ds:AG}:SqT K F a xs→zq K κ S H0 F xs ds→Rp K κ S H0 F (.ref a) (.tuple ds)
 | dct {a:Addr}:F a=some (.dK [])→Rp K κ S H0 F (.ref a) (.dict [])
inductive zq(K:ζa)(κ:Bool)(S:Sx)(H0 F:Hp):List V→AG→Prop
 | nil:zq K κ S H0 F [] []
 | cons {v:V} {vs:List V} {d:AD} {ds:AG}:Rp K κ S H0 F v d→zq K κ S H0 F vs ds→zq K κ S H0 F (v::vs) (d::ds)
end
section
variable {κ κ':Bool}{S S':Sx}{H0 H0' F F':Hp}
mutual
theorem wU(e:∀a xs,LN K κ S H0 F a xs→LN K κ' S' H0' F' a xs)(c:∀a u,SqU K F a u→SqU K F' a u):∀{v:V} {d:AD},Rp K κ S H0 F v d→Rp K κ' S' H0' F' v d
 | _,_,.non=>.non
 | _,_,.bl b=>.bl b
 | _,_,.int i=>.int i
 | _,_,.str x=>.str x
 | _,_,.lst h k=>.lst (e _ _ h) (ww e c k)
 | _,_,.tup h k=>.tup (c _ (some _) h) (ww e c k)
 | _,_,.dct h=>.dct (c _ none h)
theorem ww(b:∀a xs,LN K κ S H0 F a xs→LN K κ' S' H0' F' a xs)(c:∀a u,SqU K F a u→SqU K F' a u):∀{vs:List V} {ds:AG},zq K κ S H0 F vs ds→zq K κ' S' H0' F' vs ds
 | _,_,.nil=>.nil
 | _,_,.cons h k=>.cons (wU b c h) (ww b c k)
end
theorem yg(e:Same F F'){v:V}{d:AD}(h:Rp K κ S H0 F v d):Rp K κ S H0 F' v d:=wU (λ_ _ z=>z.mono e) (λ_ _ z=>Same.seqU e z) h
theorem zu(e:Same F F'){vs:List V}{ds:AG}(h:zq K κ S H0 F vs ds):zq K κ S H0 F' vs ds:=ww (λ_ _ z=>z.mono e) (λ_ _ z=>Same.seqU e z) h
mutual
theorem xC:∀{v:V} {d:AD},Rp K κ S H0 F v d→Dp K F v d
 | _,_,.non=>.non
 | _,_,.bl b=>.bl b
 | _,_,.int i=>.int i
 | _,_,.str x=>.str x
 | _,_,.lst h k=>.lst h.sq (zI k)
 | _,_,.tup h k=>.tup h (zI k)
 | _,_,.dct h=>.dct h
theorem zI:∀{vs:List V} {ds:AG},zq K κ S H0 F vs ds→zV K F vs ds
 | _,_,.nil=>.nil
 | _,_,.cons h k=>.cons (xC h) (zI k)
end
mutual
theorem v9:∀{v:V} {d:AD},Dp K F v d→Rp K false S H0 F v d
 | _,_,.non=>.non
 | _,_,.bl b=>.bl b
 | _,_,.int i=>.int i
 | _,_,.str x=>.str x
 | _,_,.lst h k=>.lst h (Zd k)
 | _,_,.tup h k=>.tup h (Zd k)
 | _,_,.dct h=>.dct h
theorem Zd:∀{vs:List V} {ds:AG},zV K F vs ds→zq K false S H0 F vs ds
 | _,_,.nil=>.nil
 | _,_,.cons h k=>.cons (v9 h) (Zd k)
end
theorem tL(a:κ'=true→κ=true){v:V}{d:AD}(h:Rp K κ S H0 F v d):Rp K κ' S H0 F v d:=by
 cases κ' with
 | false=>exact v9 (xC h)
 | true=>rw[a rfl]at h;exact h
theorem zq.length{vs:List V}{ds:AG}(h:zq K κ S H0 F vs ds):vs.length=ds.length:=zV.length (zI h)
theorem zq.get:∀{vs:List V} {ds:AG} {i:Nat} {d:AD},zq K κ S H0 F vs ds→ds[i]?=some d→∃v,vs[i]?=some v∧Rp K κ S H0 F v d
 | _,_,_,_,.nil,e=>by simp at e
 | _,_,0,_,.cons h _,e=>by simp at e;subst e;exact⟨_,rfl,h⟩
 | _,_,i+1,d,.cons _ k,e=>by
  obtain⟨v,a,b⟩:=zq.get (i:=i) k (by simpa using e);exact⟨v,by simpa using a,b⟩
theorem zq.get':∀{vs:List V} {ds:AG} {i:Nat} {v:V},zq K κ S H0 F vs ds→vs[i]?=some v→∃d,ds[i]?=some d∧Rp K κ S H0 F v d
 | _,_,_,_,.nil,e=>by simp at e
 | _,_,0,_,.cons h _,e=>by simp at e;subst e;exact⟨_,rfl,h⟩
 | _,_,i+1,d,.cons _ k,e=>by
  obtain⟨v,a,b⟩:=zq.get' (i:=i) k (by simpa using e);exact⟨v,by simpa using a,b⟩
theorem zq.append:∀{vs ws:List V} {ds a:AG},zq K κ S H0 F vs ds→zq K κ S H0 F ws a→zq K κ S H0 F (vs++ws) (ds++a)
 | _,_,_,_,.nil,k=>k
 | _,_,_,_,.cons h t,k=>.cons h (zq.append t k)
theorem zq.take:∀{vs:List V} {ds:AG} (n:Nat),zq K κ S H0 F vs ds→zq K κ S H0 F (vs.take n) (ds.take n)
 | _,_,0,_=>.nil
 | _,_,_+1,.nil=>.nil
 | _,_,n+1,.cons h t=>.cons h (zq.take n t)
theorem zq.drop:∀{vs:List V} {ds:AG} (n:Nat),zq K κ S H0 F vs ds→zq K κ S H0 F (vs.drop n) (ds.drop n)
 | _,_,0,r=>r
 | _,_,_+1,.nil=>.nil
 | _,_,n+1,.cons _ t=>zq.drop n t
theorem zq.set{v:V}{d:AD}(h:Rp K κ S H0 F v d):∀{vs:List V} {ds:AG} (n:Nat),zq K κ S H0 F vs ds→zq K κ S H0 F (vs.set n v) (ds.set n d)
 | _,_,_,.nil=>.nil
 | _,_,0,.cons _ t=>.cons h t
 | _,_,n+1,.cons q t=>.cons q (zq.set h n t)
theorem zq.reverse:∀{vs:List V} {ds:AG},zq K κ S H0 F vs ds→zq K κ S H0 F vs.reverse ds.reverse
 | _,_,.nil=>.nil
 | _,_,.cons h t=>by
  rw[ξl,ξl];exact zq.append (zq.reverse t) (.cons h .nil)
theorem zq.rep{vs:List V}{ds:AG}(h:zq K κ S H0 F vs ds):∀n:Nat,zq K κ S H0 F (List.replicate n vs).flatten (List.replicate n ds).flatten
 | 0=>.nil
 | n+1=>by
  rw[ζ5,ζ5,ξt,ξt];exact zq.append h (zq.rep h n)
theorem yr{v:V}{i:Int}(h:Rp K κ S H0 F v (.int i)):v=.int i:=by cases h;rfl
theorem Xf{v:V}{b:Bool}(h:Rp K κ S H0 F v (.bool b)):v=.bl b:=by cases h;rfl
theorem uV{v:V}{ds:AG}(h:Rp K κ S H0 F v (.list ds)):∃a vs,v=.ref a∧LN K κ S H0 F a vs∧zq K κ S H0 F vs ds:=by cases h with|lst h k=>exact⟨_,_,rfl,h,k⟩
theorem VF{v:V}{ds:AG}(h:Rp K κ S H0 F v (.tuple ds)):∃a vs,v=.ref a∧SqT K F a vs∧zq K κ S H0 F vs ds:=by cases h with|tup h k=>exact⟨_,_,rfl,h,k⟩
end
def imm:AD→Bool
 | .none=>true
 | .bool _=>true
 | .int _=>true
 | .str _=>true
 | .tuple ds=>immAll ds
 | _=>false
where immAll:AG→Bool
 | []=>true
 | d::r=>imm d&&immAll r
mutual
theorem Wz{κ:Bool}{S:Sx}{H0 F:Hp}:∀{v:V} {d:AD},imm d=true→Dp K F v d→Rp K κ S H0 F v d
 | _,_,_,.non=>.non
 | _,_,_,.bl b=>.bl b
 | _,_,_,.int i=>.int i
 | _,_,_,.str x=>.str x
 | _,_,h,.lst _ _=>by unfold imm at h;cases h
 | _,_,h,.tup q k=>.tup q (Zz (by unfold imm at h;exact h) k)
 | _,_,_,.dct h=>.dct h
theorem Zz{κ:Bool}{S:Sx}{H0 F:Hp}:∀{vs:List V} {ds:AG},imm.immAll ds=true→zV K F vs ds→zq K κ S H0 F vs ds
 | _,_,_,.nil=>.nil
 | _,_,h,.cons p k=>by
  unfold imm.immAll at h;rw[ζ3]at h;exact .cons (Wz h.1 p) (Zz h.2 k)
end
theorem vG{κ:Bool}{S:Sx}{H0 F:Hp}{vs:List V}{ds:AG}(h:∀d∈ds,imm d=true)(k:zV K F vs ds):zq K κ S H0 F vs ds:=by
 refine Zz ?_ k;clear k;induction ds with
 | nil=>rfl
 | cons d r a =>
  unfold imm.immAll;rw[h d ζi,a λx b=>h x (ζb _ b)];rfl
inductive DV where
 | fz (κ:Bool) (d:AD)|ow (κ:Bool) (ds:AG)|tn (d:AD)|ox|o2 (r:Option Addr) (dss:List AG)|fn (a:Addr)|xn (o:Addr→HO)|oa (a:Addr) (κ:Bool) (ds:AG)|xp (φ:Hp→V→Prop)|od (o:HO)|og (ad:Hp→V→Addr→Prop) (ψ:Sx→Hp→Hp→Hp→V→Prop)
abbrev Ctx:=List (Option DV)
structure OwnO(S:Sx)(H0 H F:Hp)(a:Addr)(o:HO):Prop where
 h:H a=some o
 f:F a=none
 n:H0 a=none
 s:¬S.has H0 a
abbrev vM(S:Sx)(H0 H F:Hp)(a:Addr)(vs:List V):Prop:=OwnO S H0 H F a (.lst vs)
structure IdA(r:Option Addr)(v:V)(a:Addr):Prop where
 eq:v=.ref a
 id:∀b,r=some b→a=b
structure GOk(ad:Hp→V→Addr→Prop)(ψ:Sx→Hp→Hp→Hp→V→Prop):Prop where
 pl:∀H H' v,(∀a,ad H v a→H' a=H a)→∀a,ad H' v a↔ad H v a
 ps:∀S H0 H H' F F' v,(∀a,ad H v a→H' a=H a)→Same F F'→ψ S H0 H F v→ψ S H0 H' F' v
def HasV(K:ζa)(S:Sx)(H0 H F:Hp)(v:V):DV→Prop
 | .fz κ d=>Rp K κ S H0 F v d
 | .ow κ ds=>∃a vs,v=.ref a∧vM S H0 H F a vs∧zq K κ S H0 F vs ds
 | .tn d=>∃T,S=.spoil T∧Rp K true (.spoil λa=>¬T a) (λ_=>none) F v d
 | .ox=>∃a vs,v=.ref a∧vM S H0 H F a vs
 | .fn a=>v=.ref a
 | .xn o=>∃a,v=.ref a∧F a=some (o a)
 | .oa a κ ds=>v=.ref a∧∃vs,vM S H0 H F a vs∧zq K κ S H0 F vs ds
 | .xp φ=>∃F1,Same F1 F∧φ F1 v
 | .od o=>∃a,v=.ref a∧OwnO S H0 H F a o
 | .og ad ψ=>GOk ad ψ∧(∀a,ad H v a→∃o,OwnO S H0 H F a o)∧ψ S H0 H F v
 | .o2 r dss=>∃a vs,IdA r v a∧vM S H0 H F a vs∧V.ref a∉vs∧vs.Nodup∧vs.length=dss.length∧∀(j:Nat) x,vs[j]?=some x→∃b us ds,x=.ref b∧vM S H0 H F b us∧dss[j]?=some ds∧zq K true S H0 F us ds
def Owns(H:Hp)(v:V):DV→Addr→Prop
 | .ow _ _,a=>v=.ref a
 | .ox,a=>v=.ref a
 | .oa _ _ _,a=>v=.ref a
 | .od _,a=>v=.ref a
 | .og ad _,a=>ad H v a
 | .o2 _ _,a=>v=.ref a∨∃p vs,v=.ref p∧H p=some (.lst vs)∧V.ref a∈vs
 | _,_=>False
structure DEnv(K:ζa)(S:Sx)(H0 F0 H F:Hp)(σ:St)(Γ:Ctx):Prop where
 gr:Gr H0 F0 H F
 l0:Same F0 H0
 sd:∀a,S.has H0 a→∃o,H a=some o
 s0:∀T,S=.spoil T→∀a,T a→H0 a=none
 len:σ.length=Γ.length
 has:∀(i:Nat) (x:DV),Γ[i]?=some (some x)→∃v,σ[i]?=some (some v)∧HasV K S H0 H F v x
 ne:∀(i j:Nat) (x y:DV) (v w:V) (a:Addr),Γ[i]?=some (some x)→Γ[j]?=some (some y)→σ[i]?=some (some v)→σ[j]?=some (some w)→Owns H v x a→Owns H w y a→i=j
variable {S:Sx}{κ:Bool}
theorem DEnv.le{H0 F0 H F:Hp}{σ:St}{Γ:Ctx}(e:DEnv K S H0 F0 H F σ Γ):Same F H:=e.gr.le
theorem DEnv.out{H0 F0 H F:Hp}{σ:St}{Γ:Ctx}(e:DEnv K S H0 F0 H F σ Γ){p:Addr}(hp:H p=none):¬S.has H0 p:=λc=>by
 obtain⟨o,q⟩:=e.sd p c;rw[hp]at q;cases q
theorem OwnO.mono{H0 H F H' F':Hp}{a:Addr}{u:HO}(o:OwnO S H0 H F a u)(g:Gr H F H' F'):OwnO S H0 H' F' a u:=⟨g.h _ _ o.h,g.ap _ _ o.h o.f,o.n,o.s⟩
theorem HasV.mono{H0 H F H' F':Hp}{v:V}{x:DV}(h:HasV K S H0 H F v x)(g:Gr H F H' F'):HasV K S H0 H' F' v x:=by
 cases x with
 | fz κ d=>exact yg g.f h
 | ow κ ds=>obtain⟨a,vs,e,o,k⟩:=h;exact⟨a,vs,e,o.mono g,zu g.f k⟩
 | tn d=>obtain⟨T,e,k⟩:=h;exact⟨T,e,yg g.f k⟩
 | ox=>obtain⟨a,vs,e,o⟩:=h;exact⟨a,vs,e,o.mono g⟩
 | o2 r dss =>
  obtain⟨a,vs,e,o,c,i,l,k⟩:=h;refine⟨a,vs,e,o.mono g,c,i,l,λj x m=>?_⟩
  obtain⟨b,us,ds,n,o2,q,t⟩:=k j x m;exact⟨b,us,ds,n,o2.mono g,q,zu g.f t⟩
 | fn a=>exact h
 | xn φ=>obtain⟨a,e,k⟩:=h;exact⟨a,e,g.f _ _ k⟩
 | oa a κ ds=>obtain⟨e,vs,o,k⟩:=h;exact⟨e,vs,o.mono g,zu g.f k⟩
 | xp φ=>obtain⟨A,s,k⟩:=h;exact⟨A,s.trans g.f,k⟩
 | od u=>obtain⟨a,e,o⟩:=h;exact⟨a,e,o.mono g⟩
 | og ad ψ =>
  obtain⟨ok,w,p⟩:=h;have eq:∀a,ad H v a→H' a=H a:=λa z=>by
   obtain⟨o,y⟩:=w a z;rw[y.h];exact g.h _ _ y.h
  refine⟨ok,λa z=>?_,ok.ps S H0 H H' F F' v eq g.f p⟩
  obtain⟨o,y⟩:=w a ((ok.pl H H' v eq a).mp z);exact⟨o,y.mono g⟩
theorem HasV.owns{H0 H F:Hp}{v:V}{x:DV}{a:Addr}(h:HasV K S H0 H F v x)(o:Owns H v x a):∃u,OwnO S H0 H F a u:=by
 cases x with
 | fz _ _=>exact o.elim
 | tn _=>exact o.elim
 | ow κ ds=>obtain⟨b,vs,e,w,_⟩:=h;cases(show v=.ref a from o);cases e;exact⟨_,w⟩
 | ox=>obtain⟨b,vs,e,w⟩:=h;cases(show v=.ref a from o);cases e;exact⟨_,w⟩
 | o2 r dss =>
  obtain⟨b,vs,e,w,_,_,_,k⟩:=h;rcases o with o|⟨p,us,f,hp,g⟩
  ·cases o;cases e.eq;exact⟨_,w⟩
  ·cases e.eq;cases f;have d:=w.h;rw[hp]at d;cases d;obtain⟨j,i⟩:=ζI.mp g;obtain⟨c,ws,ds,l,m,_⟩:=k j _ i;cases l;exact⟨_,m⟩
 | fn _=>exact o.elim
 | xn _=>exact o.elim
 | oa b κ ds=>obtain⟨e,vs,w,_⟩:=h;cases(show v=.ref a from o);cases e;exact⟨_,w⟩
 | xp _=>exact o.elim
 | od u=>obtain⟨b,e,w⟩:=h;cases(show v=.ref a from o);cases e;exact⟨u,w⟩
 | og ad ψ=>exact h.2.1 a o
theorem Owns.back{H0 H F H':Hp}{v:V}{x:DV}{a:Addr}(h:HasV K S H0 H F v x)(g:∀b u,OwnO S H0 H F b u→H' b=some u)(o:Owns H' v x a):Owns H v x a:=by
 cases x with
 | fz _ _=>exact o.elim
 | tn _=>exact o.elim
 | ow κ ds=>exact o
 | ox=>exact o
 | o2 r dss =>
  rcases o with o|⟨p,us,c,hp,d⟩
  ·exact .inl o
  ·obtain⟨b,vs,f,w,_⟩:=h;have e:=f.eq;rw[c]at e;cases e;rw[g _ _ w]at hp;cases hp;exact .inr ⟨p,_,c,w.h,d⟩
 | fn _=>exact o.elim
 | xn _=>exact o.elim
 | oa b κ ds=>exact o
 | xp _=>exact o.elim
 | od _=>exact o
 | og ad ψ =>
  obtain⟨ok,w,p⟩:=h;exact(ok.pl H H' v (λb z=>by
   obtain⟨u,y⟩:=w b z;rw[g _ _ y,y.h]) a).mp o
theorem DEnv.mono{H0 F0 H F H' F':Hp}{σ:St}{Γ:Ctx}(e:DEnv K S H0 F0 H F σ Γ)(g:Gr H F H' F'):DEnv K S H0 F0 H' F' σ Γ where
 gr:=e.gr.trans g
 l0:=e.l0
 sd:=λa h=>let⟨o,q⟩:=e.sd a h;⟨o,g.h _ _ q⟩
 s0:=e.s0
 len:=e.len
 has:=λi x h=>let⟨v,a,b⟩:=e.has i x h;⟨v,a,b.mono g⟩
 ne:=λi j x y v w a c d f k n o2=>by
  obtain⟨s,l,p⟩:=e.has i x c;obtain⟨t,m,r⟩:=e.has j y d;rw[f]at l;cases l;rw[k]at m;cases m;exact e.ne i j x y v w a c d f k (n.back p λ_ _ z=>g.h _ _ z.h) (o2.back r λ_ _ z=>g.h _ _ z.h)
section
variable {Γ:Ctx}
def EvE(K:ζa)(S:Sx)(κ:Bool)(t:TE)(Γ:Ctx)(d:AD):Prop:=∀(H0 F0 H F:Hp) (σ:St),DEnv K S H0 F0 H F σ Γ→∀Q:VK,(∀v H' F',Gr H F H' F'→Rp K κ S H0 F' v d→Q v H')→t σ H Q
def EvO(K:ζa)(S:Sx)(κ:Bool)(t:TE)(Γ:Ctx)(ds:AG):Prop:=∀(H0 F0 H F:Hp) (σ:St),DEnv K S H0 F0 H F σ Γ→∀Q:VK,(∀a vs H' F',Gr H F H' F'→H a=none→H' a=some (.lst vs)→F' a=none→zq K κ S H0 F' vs ds→Q (.ref a) H')→t σ H Q
def EvL(K:ζa)(S:Sx)(κ:Bool)(t:TE)(Γ:Ctx)(ds:AG):Prop:=∀(H0 F0 H F:Hp) (σ:St),DEnv K S H0 F0 H F σ Γ→∀Q:VK,(∀a vs H' F',Gr H F H' F'→SqL K H' a vs→zq K κ S H0 F' vs ds→Q (.ref a) H')→t σ H Q
def EvD(K:ζa)(S:Sx)(t:TE)(Γ:Ctx)(d:AD):Prop:=∀(H0 F0 H F:Hp) (σ:St),DEnv K S H0 F0 H F σ Γ→∀Q:VK,(∀v H' F',Gr H F H' F'→Dp K H' v d→Q v H')→t σ H Q
def EvT(K:ζa)(S:Sx)(t:TT)(Γ:Ctx)(b:Bool):Prop:=∀(H0 F0 H F:Hp) (σ:St),DEnv K S H0 F0 H F σ Γ→∀Q:Bool→Hp→Prop,(∀H' F',Gr H F H' F'→Q b H')→t σ H Q
def EvA(K:ζa)(S:Sx)(κ:Bool)(t:TA)(Γ:Ctx)(ds:AG):Prop:=∀(H0 F0 H F:Hp) (σ:St),DEnv K S H0 F0 H F σ Γ→∀Q:List V→Hp→Prop,(∀vs H' F',Gr H F H' F'→zq K κ S H0 F' vs ds→Q vs H')→t σ H Q
def EvP(K:ζa)(S:Sx)(t:TO)(Γ:Ctx)(o:Option Int):Prop:=∀(H0 F0 H F:Hp) (σ:St),DEnv K S H0 F0 H F σ Γ→∀Q:Option Int→Hp→Prop,(∀H' F',Gr H F H' F'→Q o H')→t σ H Q
theorem EvE.toD{t:TE}{d:AD}(h:EvE K S κ t Γ d):EvD K S t Γ d:=λH0 F0 H F σ e Q q=>h H0 F0 H F σ e Q λv H' F' g p=>q v H' F' g (wq g.le (xC p))
theorem EvE.weak{κ':Bool}{t:TE}{d:AD}(h:EvE K S κ t Γ d)(a:κ'=true→κ=true):EvE K S κ' t Γ d:=λH0 F0 H F σ e Q q=>h H0 F0 H F σ e Q λv H' F' g p=>q v H' F' g (tL a p)
theorem EvE.imm{κ':Bool}{t:TE}{d:AD}(h:EvE K S κ t Γ d)(a:imm d=true):EvE K S κ' t Γ d:=λH0 F0 H F σ e Q q=>h H0 F0 H F σ e Q λv H' F' g p=>q v H' F' g (Wz a (xC p))
theorem EvE.toL{t:TE}{ds:AG}(h:EvE K S κ t Γ (.list ds)):EvL K S κ t Γ ds:=λH0 F0 H F σ e Q q=>h H0 F0 H F σ e Q λv H' F' g p=>by
 obtain⟨a,vs,rfl,b,c⟩:=uV p;exact q a vs H' F' g (g.le.seq b.sq) c
theorem EvL.imm{κ':Bool}{t:TE}{ds:AG}(h:EvL K S κ t Γ ds)(b:∀d∈ds,imm d=true):EvL K S κ' t Γ ds:=λH0 F0 H F σ e Q q=>h H0 F0 H F σ e Q λa vs H' F' g p k=>q a vs H' F' g p (vG b (zI k))
theorem EvO.toL{t:TE}{ds:AG}(h:EvO K S κ t Γ ds):EvL K S κ t Γ ds:=λH0 F0 H F σ e Q q=>h H0 F0 H F σ e Q λa vs H' F' g _ p _ k=>q a vs H' F' g (SqL.of p) k
theorem EvO.toE{t:TE}{ds:AG}(h:EvO K S κ t Γ ds):EvE K S κ t Γ (.list ds):=λH0 F0 H F σ e Q q=>h H0 F0 H F σ e Q λa vs H' F' g n p f k=>by
 have s:Same F' (upd F' a (.lst vs)):=Same.new f _;refine q (.ref a) H' (upd F' a (.lst vs)) ⟨g.h,g.f.trans s,λb u z=>?_,λb u z y=>?_⟩ (.lst (LN.new (e.out n)) (zu s k))
 ·by_cases c:b=a
  ·subst c;rw[zm]at z;rw[←z];exact p
  ·rw[zk c]at z;exact g.le _ _ z
 ·rw[zk (zt z n)];exact g.ap _ _ z y
theorem zb7{i:Nat}{ds:AG}(h:Γ[i]?=some (some (.ow κ ds))):EvL K S κ (tVar i) Γ ds:=λH0 F0 H F σ e Q q=>by
 obtain⟨v,b,a,vs,rfl,o,k⟩:=e.has i _ h;exact⟨_,b,q a vs H F (.refl e.le) (SqL.of o.h) k⟩
theorem VY{i:Nat}{d:AD}(h:Γ[i]?=some (some (.fz κ d))):EvE K S κ (tVar i) Γ d:=λH0 F0 H F σ e Q q=>by
 obtain⟨v,a,hd⟩:=e.has i _ h;exact⟨v,a,q v H F (.refl e.le) hd⟩
theorem YD{i:Int}:EvE K S κ (tC (.int i)) Γ (.int i):=λ_ _ H F _ e _ q=>q _ H F (.refl e.le) (.int i)
theorem zel{b:Bool}:EvE K S κ (tC (.bl b)) Γ (.bool b):=λ_ _ H F _ e _ q=>q _ H F (.refl e.le) (.bl b)
theorem YB:EvE K S κ (tC .non) Γ .none:=λ_ _ H F _ e _ q=>q _ H F (.refl e.le) .non
theorem YA{x:Str}:EvE K S κ (tC (.str x)) Γ (.str x):=λ_ _ H F _ e _ q=>q _ H F (.refl e.le) (.str x)
theorem US{r:R2}{b tb:TE}{x y d:AD}(g:EvE K S false b Γ x)(h:EvE K S false tb Γ y)(i:∀v w H F (Q:VK),Same F H→Dp K F v x→Dp K F w y→(∀z,(∀F,Dp K F z d)→Q z H)→r v w H Q)(hi:imm d=true:=by rfl):EvE K S κ (tOp r b tb) Γ d:=λH0 F0 H F σ e Q q =>
 g H0 F0 H F σ e _ λv j k g1 l=>h H0 F0 j k σ (e.mono g1) _ λw c a g2 m=>by
  exact i v w c a Q g2.le (wq g2.f (xC l)) (xC m) λz n=>q z c a (g1.trans g2) (Wz hi (n a))
theorem Vi{g:Int→Int→V}{a tb:TE}{i j:Int}{d:AD}(hi:imm d=true)(b:∀F,Dp K F (g i j) d)(c:EvE K S false a Γ (.int i))(e:EvE K S false tb Γ (.int j)):EvE K S κ (tOp (rI0 g) a tb) Γ d:=
 US c e (λv w H F Q le f h k=>by cases ua f;cases ua h;exact⟨i,j,rfl,rfl,k _ b⟩) hi
theorem ev_I{C:Int→Int→Prop}{g:Int→Int→V}{a tb:TE}{i j:Int}{d:AD}(hi:imm d=true)(b:∀F,Dp K F (g i j) d)(c:EvE K S false a Γ (.int i))(e:EvE K S false tb Γ (.int j))(f:C i j):EvE K S κ (tOp (rI C g) a tb) Γ d:=
 US c e (λv w H F Q le h l k=>by cases ua h;cases ua l;exact⟨i,j,rfl,rfl,f,k _ b⟩) hi
theorem tf{a tb:TE}{i j:Int}(b:EvE K S false a Γ (.int i))(c:EvE K S false tb Γ (.int j)):EvE K S κ (tOp (rI0 λi j=>.int (i+j)) a tb) Γ (.int (i+j)):=Vi rfl (λ_=>.int _) b c
theorem zdG{a tb:TE}{i j:Int}(b:EvE K S false a Γ (.int i))(c:EvE K S false tb Γ (.int j)):EvE K S κ (tOp (rI0 λi j=>.int (i-j)) a tb) Γ (.int (i-j)):=Vi rfl (λ_=>.int _) b c
theorem UT{a tb:TE}{i j:Int}(b:EvE K S false a Γ (.int i))(c:EvE K S false tb Γ (.int j)):EvE K S κ (tOp (rI0 λi j=>.bl (decide (i<j))) a tb) Γ (.bool (decide (i<j))):=Vi rfl (λ_=>.bl _) b c
theorem uQ{a tb:TE}{i j:Int}(b:EvE K S false a Γ (.int i))(c:EvE K S false tb Γ (.int j)):EvE K S κ (tOp (rI0 λi j=>.bl (decide (j<i))) a tb) Γ (.bool (decide (j<i))):=Vi rfl (λ_=>.bl _) b c
theorem zaP{a tb:TE}{i j:Int}(b:EvE K S false a Γ (.int i))(c:EvE K S false tb Γ (.int j)):EvE K S κ (tOp (rI0 λi j=>.bl (decide (j≤i))) a tb) Γ (.bool (decide (j≤i))):=Vi rfl (λ_=>.bl _) b c
theorem wY{a tb:TE}{i j:Int}(b:EvE K S false a Γ (.int i))(c:EvE K S false tb Γ (.int j))(d:IntMulOk i j):EvE K S κ (tOp (rI IntMulOk λi j=>.int (i*j)) a tb) Γ (.int (i*j)):=ev_I rfl (λ_=>.int _) b c d
theorem y6{a tb:TE}{i j:Int}(b:EvE K S false a Γ (.int i))(c:EvE K S false tb Γ (.int j))(d:CDiv i j):EvE K S κ (tOp (rI CDiv λi j=>.int (i/j)) a tb) Γ (.int (i/j)):=ev_I rfl (λ_=>.int _) b c d
theorem yE{a tb:TE}{i j:Int}(b:EvE K S false a Γ (.int i))(c:EvE K S false tb Γ (.int j))(d:0<j):EvE K S κ (tOp (rI (λ_ j=>0<j) λi j=>.int (i%j)) a tb) Γ (.int (i%j)):=ev_I rfl (λ_=>.int _) b c d
theorem Zu{a tb:TE}{i j:Int}(b:EvE K S false a Γ (.int i))(c:EvE K S false tb Γ (.int j))(d:CPow i j):EvE K S κ (tOp (rI CPow λi j=>.int (i^j.toNat)) a tb) Γ (.int (i^j.toNat)):=ev_I rfl (λ_=>.int _) b c d
theorem YC{a:TE}{i:Int}(b:EvE K S false a Γ (.int i)):EvE K S κ (tUn (rU λi=>.int (-i)) a) Γ (.int (-i)):=λH0 F0 H F σ e Q q =>
 b H0 F0 H F σ e _ λv c d g1 f=>by cases yr f;exact⟨i,rfl,q _ c d g1 (.int _)⟩
theorem Ze(i j:Int):decide (V.int i=V.int j)=decide (i=j):=by by_cases h:i=j<;>simp[h]
theorem u9{a tb:TE}{i j:Int}(b:EvE K S false a Γ (.int i))(c:EvE K S false tb Γ (.int j)):EvE K S κ (tOp rEq a tb) Γ (.bool (decide (i=j))):=
 US b c λv w H F Q le d e k=>by
  cases ua d;cases ua e;refine⟨rfl,?_⟩
  rw[Ze];exact k _ λ_=>.bl _
theorem zaO{a tb:TE}{i j:Int}(b:EvE K S false a Γ (.int i))(c:EvE K S false tb Γ (.int j)):EvE K S κ (tOp rNe a tb) Γ (.bool (!(decide (i=j)))):=
 US b c λv w H F Q le d e k=>by
  cases ua d;cases ua e;refine⟨rfl,?_⟩
  rw[Ze];exact k _ λ_=>.bl _
def isNone:AD→Bool
 | .none=>true
 | _=>false
theorem zai{F:Hp}{v:V}{d:AD}(h:Dp K F v d):decide (v=.non)=isNone d:=by
 cases h<;>first|rfl|exact decide_eq_false (by intro e;cases e)
theorem Wu{a:TE}{d:AD}(b:EvD K S a Γ d):EvE K S κ (tOp (λx y H Q=>y=.non∧Q (.bl (!decide (x=.non))) H) a (tC .non)) Γ (.bool (!isNone d)):=λH0 F0 H F σ e Q q =>
 b H0 F0 H F σ e _ λv c f g1 g=>⟨rfl,by rw[zai g];exact q _ c f g1 (.bl _)⟩
theorem v8{neg:Bool}{a tb:TE}{d f:AD}(b:EvD K S a Γ d)(c:EvD K S tb Γ f)(g:SeqAt.shaped d=true)(i:SeqAt.shaped f=true):EvE K S κ (tOp (rEqD K neg) a tb) Γ (.bool (if neg then !PyData.eqv d f else PyData.eqv d f)):=λH0 F0 H F σ e Q q =>
 b H0 F0 H F σ e _ λv j k g1 l=>c H0 F0 j k σ (e.mono g1) _ λw m n g2 o=>⟨d,f,wq g2.h l,o,g,i,q _ m n (g1.trans g2) (.bl _)⟩
theorem UV{a tb:TE}{d:AD}(b:EvD K S a Γ d)(c:EvD K S tb Γ d)(z:SeqAt.shaped d=true):EvE K S κ (tOp (rEqS K) a tb) Γ (.bool true):=λH0 F0 H F σ e Q q =>
 b H0 F0 H F σ e _ λv f g g1 i=>c H0 F0 f g σ (e.mono g1) _ λw j k g2 l=>⟨d,wq g2.h i,l,z,q _ j k (g1.trans g2) (.bl _)⟩
theorem zb8{a tb:TE}{d:AD}(b:EvD K S a Γ d)(c:EvD K S tb Γ d)(z:SeqAt.shaped d=true):EvE K S κ (tOp (rNeS K) a tb) Γ (.bool false):=λH0 F0 H F σ e Q q =>
 b H0 F0 H F σ e _ λv f g g1 i=>c H0 F0 f g σ (e.mono g1) _ λw j k g2 l=>⟨d,wq g2.h i,l,z,q _ j k (g1.trans g2) (.bl _)⟩
theorem za2{H0 F:Hp}{vs:List V}{ds:AG}{i:Int}{d:AD}(k:zq K κ S H0 F vs ds)(h:atI ds i=some d):∃v,atI vs i=some v∧Rp K κ S H0 F v d:=by
 unfold atI at h ⊢;rw[zq.length k];cases e:ixN ds.length i with
 | none=>rw[e]at h;cases h
 | some j=>rw[e]at h;exact zq.get k h
theorem zM{b tb:TE}{ds:AG}{i:Int}{d:AD}(c:EvL K S κ b Γ ds)(g:EvE K S false tb Γ (.int i))(h:atI ds i=some d):EvE K S κ (tOp (rIxL K) b tb) Γ d:=λH0 F0 H F σ e Q q =>
 c H0 F0 H F σ e _ λa vs j k g1 l m=>g H0 F0 j k σ (e.mono g1) _ λw n o g2 p=>by
  cases yr p;obtain⟨v,r,s⟩:=za2 (zu g2.f m) h;exact⟨a,vs,i,v,rfl,rfl,g2.h.seq l,r,q _ n o (g1.trans g2) s⟩
theorem z0{b tb:TE}{ds:AG}{i:Int}{d:AD}(c:EvE K S κ b Γ (.tuple ds))(g:EvE K S false tb Γ (.int i))(h:atI ds i=some d):EvE K S κ (tOp (rIxT K) b tb) Γ d:=λH0 F0 H F σ e Q q =>
 c H0 F0 H F σ e _ λv j k g1 l=>g H0 F0 j k σ (e.mono g1) _ λw m n g2 o=>by
  cases yr o;obtain⟨a,vs,rfl,p,r⟩:=VF l;obtain⟨v,s,t⟩:=za2 (zu g2.f r) h;exact⟨a,vs,i,v,rfl,rfl,Same.seqT (g1.le.trans g2.h) p,s,q _ m n (g1.trans g2) t⟩
theorem yV{c tb:TE}{a b:Bool}(g:EvE K S false c Γ (.bool a))(h:a=true→EvE K S false tb Γ (.bool b)):EvE K S κ (zcw c tb) Γ (.bool (a&&b)):=λH0 F0 H F σ e Q q =>
 g H0 F0 H F σ e _ λv d f g1 i=>by
  cases Xf i;refine⟨a,rfl,?_⟩
  cases a with
  | true=>exact iteT (h rfl H0 F0 d f σ (e.mono g1) Q λv j k g2 l=>by cases Xf l;exact q _ j k (g1.trans g2) (.bl _))
  | false=>exact iteF (q _ d f g1 (.bl _))
theorem Wv{b:TE}{a:Bool}(c:EvE K S false b Γ (.bool a)):EvE K S κ (zcu b) Γ (.bool (!a)):=λH0 F0 H F σ e Q q =>
 c H0 F0 H F σ e _ λv d f g1 g=>by cases Xf g;exact⟨a,rfl,q _ d f g1 (.bl _)⟩
theorem zW{t:TE}{b:Bool}(h:EvE K S false t Γ (.bool b)):EvT K S (Qh t) Γ b:=λH0 F0 H F σ e Q q =>
 h H0 F0 H F σ e _ λv a c g1 d=>by cases Xf d;exact⟨b,rfl,q a c g1⟩
theorem et_B{t:TE}{b:Bool}(h:EvE K S false t Γ (.bool b)):EvT K S (tB t) Γ b:=λH0 F0 H F σ e Q q =>
 h H0 F0 H F σ e _ λv a c g1 d=>by cases Xf d;exact⟨b,rfl,q a c g1⟩
theorem xt{t u:TT}{a b:Bool}(f:EvT K S t Γ a)(g:a=true→EvT K S u Γ b):EvT K S (tAnd t u) Γ (a&&b):=λH0 F0 H F σ e Q q =>
 f H0 F0 H F σ e _ λc d g1=>by
  cases a with
  | true=>exact iteT (g rfl H0 F0 c d σ (e.mono g1) Q λh i g2=>q h i (g1.trans g2))
  | false=>exact iteF (q c d g1)
theorem xO{t u:TT}{a b:Bool}(f:EvT K S t Γ a)(g:a=false→EvT K S u Γ b):EvT K S (tOr t u) Γ (a||b):=λH0 F0 H F σ e Q q =>
 f H0 F0 H F σ e _ λc d g1=>by
  cases a with
  | false=>exact iteF (g rfl H0 F0 c d σ (e.mono g1) Q λh i g2=>q h i (g1.trans g2))
  | true=>exact iteT (q c d g1)
theorem yk{t:TT}{a:Bool}(b:EvT K S t Γ a):EvT K S (tNot t) Γ (!a):=λH0 F0 H F σ e Q q=>b H0 F0 H F σ e _ λc d g1=>q c d g1
theorem Wy:EvT K S tYes Γ true:=λH0 F0 H F σ e Q q=>q H F (.refl e.le)
theorem EvT.eq{t:TT}{a b:Bool}(h:EvT K S t Γ a)(e:a=b):EvT K S t Γ b:=e ▸ h
theorem EvE.eq{t:TE}{a b:AD}(h:EvE K S κ t Γ a)(e:a=b):EvE K S κ t Γ b:=e ▸ h
theorem EvO.eq{t:TE}{a b:AG}(h:EvO K S κ t Γ a)(e:a=b):EvO K S κ t Γ b:=e ▸ h
theorem zL:EvA K S κ tNil Γ []:=λH0 F0 H F σ e Q q=>q [] H F (.refl e.le) .nil
theorem zi{t:TE}{u:TA}{d:AD}{ds:AG}(h:EvE K S κ t Γ d)(k:EvA K S κ u Γ ds):EvA K S κ (zF t u) Γ (d::ds):=λH0 F0 H F σ e Q q =>
 h H0 F0 H F σ e _ λv a b g1 c=>k H0 F0 a b σ (e.mono g1) _ λvs g i g2 j=>q _ g i (g1.trans g2) (.cons (yg g2.f c) j)
theorem v7{t:TA}{ds:AG}(h:EvA K S κ t Γ ds)(b:ds.length≤sizeLine):EvE K S κ (tTup t) Γ (.tuple ds):=λH0 F0 H F σ e Q q =>
 h H0 F0 H F σ e _ λvs d c g1 a=>⟨by rw[zq.length a];exact b,λp hp=>q _ _ (upd c p (.tup vs)) (g1.trans (.new g1.le hp _)) (.tup (SqT.of zm) (zu (Same.new (g1.le.free hp) _) a))⟩
theorem zT{t:TA}{ds:AG}(h:EvA K S κ t Γ ds)(b:ds.length≤sizeLine):EvO K S κ (tLst t) Γ ds:=λH0 F0 H F σ e Q q =>
 h H0 F0 H F σ e _ λvs d c g1 a=>⟨by rw[zq.length a];exact b,λp hp=>q p vs _ c (g1.trans (.newO g1.le hp _)) (g1.h.free hp) zm (g1.le.free hp) a⟩
def spD(K:ζa)(κ:Bool)(pre:AG→AD→Prop):Sp:=λvs H Q _=>∃F ds d,Same F H∧zV K F vs ds∧pre ds d∧∀v H' F',Gr H F H' F'→Rp K κ .fresh H F' v d→Q v H'
theorem zD{pre:AG→AD→Prop}{E:XK}{t:TA}{ds:AG}{d:AD}(h:EvA K S false t Γ ds)(hp:pre ds d):EvE K S κ (y8 (spD K true pre) [] E t) Γ d:=λH0 F0 H F σ e Q q =>
 h H0 F0 H F σ e _ λvs b f g1 g=>⟨f,ds,d,g1.le,by rw[ζx];exact zI g,hp,λv i j g2 k=>q v i j (g1.trans g2) (tL (κ:=true) (λ_=>rfl) (wU (κ:=true) (κ':=true) (S':=S) (H0':=H0) (λa xs z=>⟨z.1,λc=>by
  obtain⟨u,l⟩:=(e.mono g1).sd a c;exact z.2 (by show b a≠none;rw[l];simp)⟩) (λ_ _ z=>z) k))⟩
theorem YE{pre:AG→AD→Prop}{E:XK}{t:TA}{ds:AG}{d:AD}(h:EvA K S false t Γ ds)(hp:pre ds d):EvE K S false (y8 (spD K false pre) [] E t) Γ d:=λH0 F0 H F σ e Q q =>
 h H0 F0 H F σ e _ λvs i a g1 b=>⟨a,ds,d,g1.le,by rw[ζx];exact zI b,hp,λv c f g2 g=>q v c f (g1.trans g2) (v9 (xC g))⟩
theorem yj{b:TE}{ds:AG}(h:EvL K S false b Γ ds):EvE K S κ (tCB (λxs H Q=>∃p ys,xs=[.ref p]∧(SqL K H p ys∨SqT K H p ys)∧Q (.int ys.length) H) (zF b tNil)) Γ (.int ds.length):=λH0 F0 H F σ e Q q =>
 h H0 F0 H F σ e _ λa vs c d g1 f g=>⟨a,vs,rfl,.inl f,q _ c d g1 (by rw[zq.length g];exact .int _)⟩
theorem yD{b:TE}{ds:AG}(h:EvL K S κ b Γ ds):EvO K S κ (tCB (λxs H Q=>∃p ys,xs=[.ref p]∧(SqL K H p ys∨SqT K H p ys)∧∀l,H l=none→Q (.ref l) (upd H l (.lst ys))) (zF b tNil)) Γ ds:=λH0 F0 H F σ e Q q =>
 h H0 F0 H F σ e _ λa vs g c g1 d f=>⟨a,vs,rfl,.inl d,λp hp=>q p vs _ c (g1.trans (.newO g1.le hp _)) (g1.h.free hp) zm (g1.le.free hp) f⟩
def cutD(xs:AG)(lo hi:Option Int):AG:=(xs.drop (HT.sIx xs.length 0 lo)).take (HT.sIx xs.length xs.length hi-HT.sIx xs.length 0 lo)
theorem zdO{H0 F:Hp}{vs:List V}{ds:AG}{lo hi:Option Int}(k:zq K κ S H0 F vs ds):zq K κ S H0 F (cutV vs lo hi) (cutD ds lo hi):=by
 unfold cutV cutD;rw[zq.length k];exact zq.take _ (zq.drop _ k)
theorem uv:EvP K S Uh Γ none:=λH0 F0 H F σ e Q q=>q H F (.refl e.le)
theorem Zc{t:TE}{i:Int}(h:EvE K S false t Γ (.int i)):EvP K S (zct t) Γ (some i):=λH0 F0 H F σ e Q q =>
 h H0 F0 H F σ e _ λv a b g1 c=>by cases yr c;exact⟨i,rfl,q a b g1⟩
theorem wz{t:TE}{tl b:TO}{ds:AG}{lo hi:Option Int}(h:EvL K S κ t Γ ds)(c:EvP K S tl Γ lo)(d:EvP K S b Γ hi):EvO K S κ (tSl (rSlL K) t tl b) Γ (cutD ds lo hi):=λH0 F0 H F σ e Q q =>
 h H0 F0 H F σ e _ λa vs g i g1 j k=>c H0 F0 g i σ (e.mono g1) _ λl m g2=>d H0 F0 l m σ ((e.mono g1).mono g2) _ λo n g3 =>
  ⟨a,vs,rfl,(g2.h.trans g3.h).seq j,λp hp=>q p _ _ n (((g1.trans g2).trans g3).trans (.newO g3.le hp _)) (((g1.trans g2).trans g3).h.free hp) zm (g3.le.free hp) (zdO (zu (g2.f.trans g3.f) k))⟩
end
end PD
namespace L2
open PySem PySem.Spec PyProof.Rows
section
variable {X:Cx}{K:ζa}
def QL(K:ζa):R2:=λx y H Q=>∃l b xs zs,x=.ref l∧y=.ref b∧SqL K H l xs∧SqL K H b zs∧xs.length+zs.length≤sizeLine∧∀p,H p=none→Q (.ref p) (upd H p (.lst (xs++zs)))
theorem zbI:OpR X (binaryOp .Add) (QL X.K):=by
 intro pins s σ H x y v u Q I A B h;obtain⟨l,b,xs,zs,rfl,rfl,C,D,G,q⟩:=h;cases A;cases B;obtain⟨c,r,pl,z⟩:=I.list C;obtain⟨a,o,i,J⟩:=I.list D;have L:=r.length;have M:=o.length;obtain⟨⟨cls,dd,data,sl⟩,p,t,n,hd⟩:=pl.isList;obtain⟨⟨w,j,k,m⟩,d,f,E,g⟩:=i.isList;simp only at t hd f g;subst t hd f g;have e:c.toArray++a.toArray=(c++a).toArray:=by simp
 refine concat_meets ⟨_,p,rfl⟩ ⟨_,d,rfl⟩ noFill_list_add seq_list_add PySem.F.slot_list_add PySem.F.entry_list_add (PySem.F.args_list_add_2 _ _) (list_addW l b c.toArray a.toArray n E dd j sl m (by simp only[List.size_toArray];omega)) ⟨p,d,?_⟩;rw[e];exact⟨.ref _,_,I.lnew (t':=s.toks) (r.append o) (by rw[ζr];omega),rfl,q _ I.fresh⟩
def tyD:AD→String
 | .none => "NoneType"
 | .bool _ => "bool"
 | .int _ => "int"
 | .str _ => "str"
 | .list _ => "list"
 | .tuple _ => "tuple"
 | .dict _ => "dict"
def Uw(K:ζa):List V→Hp→VK→Prop:=λxs H Q=>∃x d T b,xs=[x,.ty T]∧Dp K H x d∧PySem.W.kitOne K (.type (tyD d)) (.type T)=some b∧Q (.bl b) H
theorem TX:yo X (.builtin "isinstance") (Uw X.K):=by
 intro pins s σ H xs us Q I r h;obtain⟨x,d,T,b,rfl,dp,e,q⟩:=h;obtain⟨u,v,rfl,f,l⟩:=r.two;cases(show v=Value.type T from l);have c:∀tk,EP X pins σ Q (.bool b) {s with toks:=tk}:=λtk=>⟨.bl b,H,I.tok tk,rfl,q⟩
 cases dp with
 | non=>cases(show u=Value.none from f);exact PySem.W.kia_one PySem.W.kitx_none I.kIn True.intro e (λz=>nomatch z) c
 | bl y=>cases(show u=Value.bool y from f);exact PySem.W.kia_one PySem.W.kitx_bool I.kIn True.intro e (λz=>nomatch z) c
 | int i=>obtain⟨t,z⟩:=(show∃t,u=Value.int i t from f);cases z;exact PySem.W.kia_one PySem.W.kitx_int I.kIn True.intro e (λz=>nomatch z) c
 | str y=>obtain⟨t,z⟩:=(show∃t,u=Value.str y t from f);cases z;exact PySem.W.kia_one PySem.W.kitx_str I.kIn True.intro e (λz=>nomatch z) c
 | @lst a xs ds h k =>
  cases(show u=Value.ref a from f);obtain⟨m,l,⟨o,n,g,j,_⟩,_⟩:=I.list h;exact PySem.W.kia_one PySem.W.kitx_list I.kIn ⟨_,g,j⟩ e (λz=>nomatch z) c
 | @tup a xs ds h k =>
  cases(show u=Value.ref a from f);obtain⟨m,l,⟨o,g,j,_⟩,_⟩:=I.tuple h;exact PySem.W.kia_one PySem.W.kitx_tuple I.kIn ⟨_,g,j⟩ e (λz=>nomatch z) c
 | @dct a h =>
  cases(show u=Value.ref a from f);obtain⟨_,_,vs,_,o,p,A,g,j,_⟩:=(show yN X.prog X.w H s.heap a (.dK [])from I.hok a _ h)
  exact PySem.W.kia_one PySem.W.kitx_dict I.kIn ⟨o,g,j.1⟩ e (λz=>nomatch z) c
theorem yi(a:X.K=K):yo X (.builtin "isinstance") (Uw K):=by subst a;exact TX
theorem tV(a:X.K=K):OpR X (binaryOp .Add) (QL K):=by subst a;exact zbI
end
end L2
namespace PD
open PySem L2
section
variable {K:ζa}{S:Sx}{κ:Bool}{Γ:Ctx}
theorem uu{c tb:TE}{xs ys:AG}(i:EvL K S κ c Γ xs)(j:EvL K S κ tb Γ ys)(k:xs.length+ys.length≤sizeLine):EvO K S κ (tOp (QL K) c tb) Γ (xs++ys):=λH0 F0 H F σ e Q q =>
 i H0 F0 H F σ e _ λa vs l m g1 n d=>j H0 F0 l m σ (e.mono g1) _ λb ws s o g2 r g =>
  ⟨a,b,vs,ws,rfl,rfl,g2.h.seq n,r,by rw[zq.length d,zq.length g];exact k,λp hp=>q p _ _ o ((g1.trans g2).trans (.newO g2.le hp _)) ((g1.trans g2).h.free hp) zm (g2.le.free hp) (zq.append (zu g2.f d) g)⟩
theorem yG{a:TE}{d:AD}{T:String}{b:Bool}(h:EvD K S a Γ d)(hi:PySem.W.kitOne K (.type (tyD d)) (.type T)=some b):EvE K S κ (tCB (Uw K) (zF a (zF (tC (.ty T)) tNil))) Γ (.bool b):=λH0 F0 H F σ e Q q =>
 h H0 F0 H F σ e _ λv c f g1 g=>⟨v,d,T,b,rfl,g,hi,q _ c f g1 (.bl b)⟩
theorem zar(ns:AE):(ns.map V.int).all t9=true:=by
 rw[ζM];intro v a;obtain⟨n,_,rfl⟩:=ζn.mp a;rfl
theorem zbS(i:Int)(ns:AE):inV (.int i) (ns.map V.int)=decide (i∈ns):=by
 unfold inV;rw[List.any_map];by_cases h:i∈ns
 ·rw[decide_eq_true h,ξh];exact⟨i,h,by show eqV (.int i) (.int i)=true;simp[eqV]⟩
 ·rw[decide_eq_false h,List.any_eq_false];intro x a hq;have:x=i:=by
   have q:eqV (.int x) (.int i)=true:=hq;simpa[eqV]using q
  exact h (this ▸ a)
theorem Zv{neg:Bool}{a tb:TE}{i:Int}{ns:AE}(c:EvE K S false a Γ (.int i))(d:EvL K S false tb Γ (ns.map .int)):EvE K S κ (tOp (rIn K neg) a tb) Γ (.bool (if neg then !decide (i∈ns)else decide (i∈ns))):=λH0 F0 H F σ e Q q =>
 c H0 F0 H F σ e _ λv f g g1 h=>d H0 F0 f g σ (e.mono g1) _ λb ws j k g2 l m=>by
  cases yr h;cases yd (zI m);refine⟨b,_,rfl,.inl l,rfl,zar ns,?_⟩
  rw[zbS];exact q _ j k (g1.trans g2) (.bl _)
def ExG(K:ζa)(S:Sx)(κ:Bool)(g:TG)(js:AF)(d:AD)(Γ:Ctx)(k:Ctx→Prop):Prop:=∀(H0 F0 H F:Hp) (σ:St) (v:V),DEnv K S H0 F0 H F σ Γ→Rp K κ S H0 F v d→∀Q:St→Hp→Prop,
 (∀Γ' σ' H' F',k Γ'→Gr H F H' F'→DEnv K S H0 F0 H' F' σ' Γ'→σ'.length=σ.length→(∀j,j∉js→σ'[j]?=σ[j]?)→Q σ' H')→g v σ H Q
theorem DEnv.set{H0 F0 H F:Hp}{σ:St}{i:Nat}{v:V}{x:DV}(e:DEnv K S H0 F0 H F σ Γ)(p:HasV K S H0 H F v x)
  (g:∀a,Owns H v x a→∀(j:Nat) y w,j≠i→Γ[j]?=some (some y)→σ[j]?=some (some w)→¬Owns H w y a):DEnv K S H0 F0 H F (σ.set i (some v)) (Γ.set i (some x)):=by
 refine⟨e.gr,e.l0,e.sd,e.s0,by simp[e.len],λj f h=>?_,λj k n o q r b g1 g2 g3 g4 m o2=>?_⟩
 ·by_cases c:j=i
  ·subst c;by_cases s:j<Γ.length
   ·rw[ζh s]at h;cases h;exact⟨v,by rw[ζh (by rw[e.len];exact s)],p⟩
   ·rw[List.getElem?_eq_none (by simp;omega)]at h;cases h
  ·rw[ζm (Ne.symm c)]at h ⊢;exact e.has j f h
 ·have l:∀{j:Nat} {y:DV},(Γ.set i (some x))[j]?=some (some y)→j<Γ.length:=λ{j y} z=>by
   have:=(ζg.mp z).1;rw[ζA]at this;exact this
  by_cases c:j=i
  ·subst c;by_cases d:k=j
   ·exact d.symm
   ·rw[ζh (by rw[e.len];exact l g1)]at g3;rw[ζh (l g1)]at g1;cases g1;cases g3;rw[ζm (Ne.symm d)]at g4 g2;exact absurd o2 (g b m k o r d g2 g4)
  ·rw[ζm (Ne.symm c)]at g3 g1;by_cases d:k=i
   ·subst d;rw[ζh (by rw[e.len];exact l g2)]at g4;rw[ζh (l g2)]at g2;cases g2;cases g4;exact absurd m (g b o2 j n q c g1 g3)
   ·rw[ζm (Ne.symm d)]at g4 g2;exact e.ne j k n o q r b g1 g2 g3 g4 m o2
theorem DEnv.setF{H0 F0 H F:Hp}{σ:St}{i:Nat}{v:V}{d:AD}(e:DEnv K S H0 F0 H F σ Γ)(p:Rp K κ S H0 F v d):DEnv K S H0 F0 H F (σ.set i (some v)) (Γ.set i (some (.fz κ d))):=e.set (x:=.fz κ d) p λ_ z=>z.elim
theorem OwnO.other{H0 H F:Hp}{a b:Addr}{u c:HO}(w:OwnO S H0 H F b u)(h:b≠a):OwnO S H0 (upd H a c) F b u:=⟨by rw[zk h];exact w.h,w.f,w.n,w.s⟩
theorem HasV.other{H0 H F:Hp}{a:Addr}{v:V}{x:DV}{i:HO}(h:HasV K S H0 H F v x)(n:¬Owns H v x a):HasV K S H0 (upd H a i) F v x:=by
 cases x with
 | fz κ d=>exact h
 | tn d=>exact h
 | ow κ ds=>obtain⟨b,us,e,f,g⟩:=h;exact⟨b,us,e,f.other λz=>n (by rw[e,z];rfl),g⟩
 | ox=>obtain⟨b,us,e,f⟩:=h;exact⟨b,us,e,f.other λz=>n (by rw[e,z];rfl)⟩
 | o2 r dss =>
  obtain⟨b,us,e,f,t,A,l,k⟩:=h;refine⟨b,us,e,f.other λz=>n (.inl (by rw[e.eq,z])),t,A,l,λj y m=>?_⟩
  obtain⟨c,ws,ds,s,o2,B,C⟩:=k j y m;exact⟨c,ws,ds,s,o2.other λz=>n (.inr ⟨b,us,e.eq,f.h,by rw[←z,←s];exact ζk m⟩),B,C⟩
 | fn a=>exact h
 | xn φ=>exact h
 | oa b κ ds=>obtain⟨e,us,f,g⟩:=h;exact⟨e,us,f.other λz=>n (by rw[e,z];rfl),g⟩
 | xp φ=>exact h
 | od u=>obtain⟨b,e,f⟩:=h;exact⟨b,e,f.other λz=>n (by rw[e,z];rfl)⟩
 | og ad ψ =>
  obtain⟨ok,w,p⟩:=h;have eq:∀b,ad H v b→upd H a i b=H b:=λb z=>zk λy=>n (y ▸ z);refine⟨ok,λb z=>?_,ok.ps S H0 H _ F F v eq (.refl _) p⟩
  have z:=(ok.pl H _ v eq b).mp z;obtain⟨o,y⟩:=w b z;exact⟨o,y.other λq=>n (q ▸ z)⟩
theorem Owns.other{H0 H F:Hp}{a c:Addr}{v:V}{x:DV}{d:HO}(h:HasV K S H0 H F v x)(n:¬Owns H v x a)(o:Owns (upd H a d) v x c):Owns H v x c:=by
 cases x with
 | fz _ _=>exact o.elim
 | tn _=>exact o.elim
 | ow κ ds=>exact o
 | ox=>exact o
 | o2 r dss =>
  rcases o with o|⟨p,us,e,hp,f⟩
  ·exact .inl o
  ·rw[zk (λz=>n (.inl (by rw[e,z])))]at hp;exact .inr ⟨p,us,e,hp,f⟩
 | fn _=>exact o.elim
 | xn _=>exact o.elim
 | oa _ _ _=>exact o
 | xp _=>exact o.elim
 | od _=>exact o
 | og ad ψ=>exact(h.1.pl H (upd H a d) v (λb z=>zk λy:b=a=>n (y ▸ z)) c).mp o
theorem DEnv.putO{H0 F0 H F:Hp}{σ:St}{i:Nat}{a:Addr}{v:V}{l:HO}{x y:DV}(e:DEnv K S H0 F0 H F σ Γ)(h:Γ[i]?=some (some x))(s:σ[i]?=some (some v))(C:Owns H v x a)
  (k:HasV K S H0 (upd H a l) F v y) (I:∀c,Owns (upd H a l) v y c→Owns H v x c):DEnv K S H0 F0 (upd H a l) F σ (Γ.set i (some y)):=by
 obtain⟨W,D,J⟩:=e.has i x h;rw[s]at D;cases D;obtain⟨ws,w⟩:=J.owns C;have L:Same F (upd H a l):=λb u z=>by
  have:b≠a:=by rintro rfl;rw[w.f]at z;cases z
  rw[zk this];exact e.le _ _ z
 have E:=(ζg.mp h).1;have m:∀{j:Nat} {f:DV} {u:V},j≠i→Γ[j]?=some (some f)→σ[j]?=some (some u)→¬Owns H u f a:=λ{j f u} d z r o=>d (e.ne j i f x u v a z h r s o C);refine⟨⟨λb u z=>?_,e.gr.f,L,e.gr.ap⟩,e.l0,λb c=>?_,e.s0,by simp[e.len],λj f z=>?_,λj M X Y N O b g1 g2 g3 g4 P o2=>?_⟩
 ·rw[zk (zt z w.n)];exact e.gr.h _ _ z
 ·obtain⟨o,q⟩:=e.sd b c;by_cases G:b=a
  ·subst G;exact⟨_,zm⟩
  ·exact⟨o,by rw[zk G];exact q⟩
 ·by_cases d:j=i
  ·subst d;rw[ζh E]at z;cases z;exact⟨_,s,k⟩
  ·rw[ζm (Ne.symm d)]at z;obtain⟨u,p,t⟩:=e.has j f z;exact⟨u,p,t.other (m d z p)⟩
 ·have bk:∀{j:Nat} {f:DV} {u:V},(Γ.set i (some y))[j]?=some (some f)→σ[j]?=some (some u)→Owns (upd H a l) u f b→∃g,Γ[j]?=some (some g)∧Owns H u g b:=λ{j f u} z r o=>by
   by_cases d:j=i
   ·subst d;rw[ζh E]at z;cases z;rw[s]at r;cases r;exact⟨x,h,I b o⟩
   ·rw[ζm (Ne.symm d)]at z;obtain⟨Z,p,t⟩:=e.has j f z;rw[r]at p;cases p;exact⟨f,z,o.other t (m d z r)⟩
  obtain⟨Q,R,A⟩:=bk g1 g3 P;obtain⟨T,U,B⟩:=bk g2 g4 o2;exact e.ne j M Q T N O b R U g3 g4 A B
theorem DEnv.put{H0 F0 H F:Hp}{σ:St}{i:Nat}{a:Addr}{v:V}{vs:List V}{x y:DV}(e:DEnv K S H0 F0 H F σ Γ)(h:Γ[i]?=some (some x))(b:σ[i]?=some (some v))(d:Owns H v x a)
  (k:HasV K S H0 (upd H a (.lst vs)) F v y) (f:∀c,Owns (upd H a (.lst vs)) v y c→Owns H v x c):DEnv K S H0 F0 (upd H a (.lst vs)) F σ (Γ.set i (some y)):=e.putO h b d k f
theorem OwnO.frz{H0 H F:Hp}{a b:Addr}{u c:HO}(w:OwnO S H0 H F b u)(h:b≠a):OwnO S H0 H (upd F a c) b u:=⟨w.h,by rw[zk h];exact w.f,w.n,w.s⟩
theorem HasV.frz{H0 H F:Hp}{a:Addr}{v:V}{x:DV}{vs:List V}(h:HasV K S H0 H F v x)(s:Same F (upd F a (.lst vs)))(n:¬Owns H v x a):HasV K S H0 H (upd F a (.lst vs)) v x:=by
 cases x with
 | fz κ d=>exact yg s h
 | tn d=>obtain⟨T,A,k⟩:=h;exact⟨T,A,yg s k⟩
 | ow κ ds=>obtain⟨b,us,f,g,i⟩:=h;exact⟨b,us,f,g.frz λz=>n (by rw[f,z];rfl),zu s i⟩
 | ox=>obtain⟨b,us,f,g⟩:=h;exact⟨b,us,f,g.frz λz=>n (by rw[f,z];rfl)⟩
 | o2 r dss =>
  obtain⟨b,us,f,g,B,C,l,k⟩:=h;refine⟨b,us,f,g.frz λz=>n (.inl (by rw[f.eq,z])),B,C,l,λj y m=>?_⟩
  obtain⟨c,ws,ds,t,o2,D,E⟩:=k j y m;exact⟨c,ws,ds,t,o2.frz λz=>n (.inr ⟨b,us,f.eq,g.h,by rw[←z,←t];exact ζk m⟩),D,zu s E⟩
 | fn a=>exact h
 | xn φ=>obtain⟨b,e,k⟩:=h;exact⟨b,e,s _ _ k⟩
 | oa b κ ds=>obtain⟨f,us,g,i⟩:=h;exact⟨f,us,g.frz λz=>n (by rw[f,z];rfl),zu s i⟩
 | xp φ=>obtain⟨G,s1,k⟩:=h;exact⟨G,s1.trans s,k⟩
 | od u=>obtain⟨b,f,g⟩:=h;exact⟨b,f,g.frz λz=>n (by rw[f,z];rfl)⟩
 | og ad ψ =>
  obtain⟨ok,w,p⟩:=h;refine⟨ok,λb z=>?_,ok.ps S H0 H H F _ v (λ_ _=>rfl) s p⟩
  obtain⟨o,y⟩:=w b z;exact⟨o,y.frz λq=>n (q ▸ z)⟩
theorem DEnv.froz{H0 F0 H F:Hp}{σ:St}{i:Nat}{a:Addr}{v:V}{vs:List V}{x y:DV}(e:DEnv K S H0 F0 H F σ Γ)(h:Γ[i]?=some (some x))(l:σ[i]?=some (some v))(B:Owns H v x a)(w:vM S H0 H F a vs)
  (k:HasV K S H0 H (upd F a (.lst vs)) v y) (C:∀c,Owns H v y c→Owns H v x c):Same F (upd F a (.lst vs))∧DEnv K S H0 F0 H (upd F a (.lst vs)) σ (Γ.set i (some y)):=by
 have s:Same F (upd F a (.lst vs)):=Same.new w.f _;have q:=(ζg.mp h).1;have g:Gr H0 F0 H (upd F a (.lst vs)):=⟨e.gr.h,e.gr.f.trans s,λb u z=>by
  by_cases t:b=a
  ·subst t;rw[zm]at z;rw[←z];exact w.h
  ·rw[zk t]at z;exact e.le _ _ z,λb u z y=>by
  rw[zk (zt z w.n)];exact e.gr.ap _ _ z y⟩
 refine⟨s,g,e.l0,e.sd,e.s0,by simp[e.len],λj f z=>?_,λj D P Q E G b g1 g2 g3 g4 I o2=>?_⟩
 ·by_cases d:j=i
  ·subst d;rw[ζh q]at z;cases z;exact⟨v,l,k⟩
  ·rw[ζm (Ne.symm d)]at z;obtain⟨u,A,J⟩:=e.has j f z;exact⟨u,A,J.frz s λo=>d (e.ne j i f x u v a z h A l o B)⟩
 ·have bk:∀{j:Nat} {f:DV} {u:V},(Γ.set i (some y))[j]?=some (some f)→σ[j]?=some (some u)→Owns H u f b→∃g,Γ[j]?=some (some g)∧Owns H u g b:=λ{j f u} z r o=>by
   by_cases d:j=i
   ·subst d;rw[ζh q]at z;cases z;rw[l]at r;cases r;exact⟨x,h,C b o⟩
   ·rw[ζm (Ne.symm d)]at z;exact⟨f,z,o⟩
  obtain⟨L,M,m⟩:=bk g1 g3 I;obtain⟨N,O,p⟩:=bk g2 g4 o2;exact e.ne j D L N E G b M O g3 g4 m p
theorem DEnv.freeze{H0 F0 H F:Hp}{σ:St}{i:Nat}{ds:AG}(e:DEnv K S H0 F0 H F σ Γ)(h:Γ[i]?=some (some (.ow κ ds))):∃F',Same F F'∧DEnv K S H0 F0 H F' σ (Γ.set i (some (.fz κ (.list ds)))):=by
 obtain⟨v,b,a,vs,rfl,w,c⟩:=e.has i _ h;exact⟨_,e.froz (y:=.fz κ (.list ds)) h b rfl w (.lst (LN.new w.s) (zu (Same.new w.f _) c)) λ_ z=>z.elim⟩
theorem zcc{i:Nat}{d:AD}{k:Ctx→Prop}(h:k (Γ.set i (some (.fz κ d)))):ExG K S κ (yt i) [i] d Γ k:=λH0 F0 H F σ v e p Q q =>
 q _ _ H F h (.refl e.le) (e.setF p) (by simp) λj a=>by rw[List.getElem?_set_ne (by intro z;exact a (by simp[z]))]
structure ItD(K:ζa)(S:Sx)(κ:Bool)(H0 F:Hp)(J:It)(ds:AG):Prop where
 go:∀i H F',Same F F'→Same F' H→i<ds.length→J.go i H
 yld:∀i H F' x H',Same F F'→Same F' H→(∀a,S.has H0 a→∃o,H a=some o)→i<ds.length→J.yld i H x H'→∃d F'',ds[i]?=some d∧Gr H F' H' F''∧Rp K κ S H0 F'' x d
 stop:∀H F',Same F F'→Same F' H→J.stop ds.length H
def EvI(K:ζa)(S:Sx)(κ:Bool)(t:TI)(Γ:Ctx)(ds:AG):Prop:=∀(H0 F0 H F:Hp) (σ:St),DEnv K S H0 F0 H F σ Γ→∀R:It→Hp→Prop,(∀J H' F',Gr H F H' F'→ItD K S κ H0 F' J ds→R J H')→t σ H R
theorem zO{t:TE}{ds:AG}(h:EvE K S κ t Γ (.list ds)):EvI K S κ (Vc K t) Γ ds:=λH0 F0 H F σ e R q =>
 h H0 F0 H F σ e _ λv g c g1 j=>by
  obtain⟨a,vs,rfl,k,f⟩:=uV j;have m:=zq.length f;have b:∀{F' H':Hp},Same c F'→Same F' H'→SqL K H' a vs:=λs1 s2=>(s1.trans s2).seq k.sq;refine⟨a,rfl,⟨vs,b (.refl _) g1.le⟩,q _ g c g1 ⟨λi H' F' s1 s2 hi=>?_,λi H' F' x l s1 s2 _ hi y=>?_,λH' F' s1 s2=>?_⟩⟩
  ·exact⟨vs,vs[i]'⋯,b s1 s2,by simp⟩
  ·obtain⟨rfl,y⟩:=y;obtain⟨d,hd,hp⟩:=zq.get' f (y vs (b s1 s2));exact⟨d,F',hd,.refl s2,yg s1 hp⟩
  ·exact⟨vs,b s1 s2,⋯⟩
theorem xP{t:TA}{n:Int}(h:EvA K S false t Γ [.int n])(c:-(2^62)≤n)(d:n<2^62):EvI K S κ (zak t) Γ ((List.range n.toNat).map λi:Nat=>.int (i:Int)):=λH0 F0 H F σ e R q =>
 h H0 F0 H F σ e _ λvs f g g1 a=>by
  cases a with
  | cons p a =>
   cases a;cases yr p;refine⟨n,rfl,c,d,q _ f g g1 ⟨λi H' F' s1 s2 hi=>?_,λi H' F' x j s1 s2 _ hi y=>?_,λH' F' s1 s2=>?_⟩⟩
   ·show i<n.toNat;simpa using hi
   ·obtain⟨rfl,rfl⟩:=y;have b:i<n.toNat:=by simpa using hi
    refine⟨.int i,F',by simp[b],.refl s2,?_⟩
    have:(0:Int)+(i:Int)=i:=by omega
    rw[this];exact .int _
   ·show n.toNat≤_;simp
theorem v6{t:TE}{xs:AG}(h:EvL K S κ t Γ xs):EvO K S κ (Z5 K (zF t tNil)) Γ xs.reverse:=λH0 F0 H F σ e Q q =>
 h H0 F0 H F σ e _ λa us f b g1 c d=>⟨a,us,rfl,c,λp hp=>q p _ _ b (g1.trans (.newO g1.le hp _)) (g1.h.free hp) zm (g1.le.free hp) (zq.reverse d)⟩
def uR(js:List (Option Nat))(Γ:Ctx):Ctx:=js.map λo=>match o with|none=>none|some j=>(Γ[j]?).join
theorem ZA{js:List (Option Nat)}{i:Nat}{d:DV}(h:(uR js Γ)[i]?=some (some d)):∃j,js[i]?=some (some j)∧Γ[j]?=some (some d):=by
 unfold uR at h;rw[ζj]at h;cases e:js[i]? with
 | none=>rw[e]at h;cases h
 | some o =>
  rw[e]at h;cases o with
  | none=>cases h
  | some j =>
   refine⟨j,rfl,?_⟩
   have h':(Γ[j]?).join=some d:=ζD h;cases q:Γ[j]? with
   | none=>rw[q]at h';cases h'
   | some o=>rw[q]at h';exact congrArg some h'
theorem YG{js:List (Option Nat)}{σ:St}{i j:Nat}{v:V}(h:js[i]?=some (some j))(k:σ[j]?=some (some v)):(capt js σ)[i]?=some (some v):=by
 unfold capt;rw[ζj,h];show some ((σ[j]?).join)=_;rw[k];rfl
theorem DEnv.capt{H0 F0 H F:Hp}{σ:St}{js:List (Option Nat)}(e:DEnv K S H0 F0 H F σ Γ)(r:∀i j k:Nat,js[i]?=some (some k)→js[j]?=some (some k)→i=j):DEnv K S H0 F0 H F (L2.capt js σ) (uR js Γ):=by
 refine⟨e.gr,e.l0,e.sd,e.s0,by unfold L2.capt uR;simp,λi d h=>?_,λi j x y v w a s t u z A o2=>?_⟩
 ·obtain⟨j,b,c⟩:=ZA h;obtain⟨v,f,g⟩:=e.has j d c;exact⟨v,YG b f,g⟩
 ·obtain⟨m,b,c⟩:=ZA s;obtain⟨n,f,g⟩:=ZA t;obtain⟨B,l,_⟩:=e.has m x c;obtain⟨C,o,_⟩:=e.has n y g;have p:=YG (σ:=σ) b l;have q:=YG (σ:=σ) f o;rw[u]at p;rw[z]at q;cases p;cases q;have:=e.ne m n x y v w a c g l o A o2;subst this;exact r i j m b f
theorem zaI{κ':Bool}{js:List (Option Nat)}{wi:TI}{g:TG}{tt:TT}{te:TE}{is:AF}{ds:AG}(p:AD→Bool)(f:AD→AD)(hi:EvI K S κ' wi Γ ds)(T:∀i∈is,js[i]?=some none)(hj:∀i j k:Nat,js[i]?=some (some k)→js[j]?=some (some k)→i=j)
  (hz:ds.length≤sizeLine) (hb:∀d∈ds,ExG K S κ' g is d (uR js Γ) λΓ'=>EvT K S tt Γ' (p d)∧(p d=true→EvE K S κ te Γ' (f d))):EvO K S κ (xG js wi g tt te) Γ ((ds.filter p).map f):=λH0 F0 H F σ e Q q =>
 hi H0 F0 H F σ e _ λJ U N g1 V=>by
  intro D O;have W:∀{n l:Hp},Gr U N n l→∀a,S.has H0 a→∃o,n a=some o:=λg2 a c=>let⟨o,z⟩:=(e.mono g1).sd a c;⟨o,g2.h _ _ z⟩;refine⟨λi m ys n=>m=ds.length-i∧i≤ds.length∧∃l,Gr U N n l∧n D=some (.lst ys)∧l D=none∧zq K κ S H0 l ys (((ds.take i).filter p).map f),⟨_,rfl,ξa _,N,.newO g1.le O _,zm,g1.le.free O,.nil⟩,?_⟩
  rintro i m ys n ⟨rfl,hi,l,g2,X,fl,A⟩;by_cases r:i<ds.length
  ·refine .inr ⟨V.go i n l g2.f g2.le r,λzs w=>i+1≤ds.length∧∃l,Gr U N w l∧w D=some (.lst zs)∧l D=none∧zq K κ S H0 l zs (((ds.take (i+1)).filter p).map f),λzs w h3=>⟨ds.length-(i+1),⋯,rfl,h3⟩,λx w y=>?_⟩;obtain⟨d,F3,hd,g3,p3⟩:=V.yld i n l x w g2.f g2.le (W g2) r y;have B:=g3.h _ _ X;have Y:=g3.ap _ _ X fl;have E3:=((e.mono g1).mono (g2.trans g3)).capt hj;refine hb d (ζk hd) H0 F0 w F3 _ x E3 p3 _ λΓ' σ' H4 F4 Z g4 E4 C E=>?_;obtain⟨ht,he⟩:=Z;have G:=g4.h _ _ B;have a0:=g4.ap _ _ B Y;have tk:ds.take (i+1)=ds.take i++[d]:=by rw[ξW,hd];rfl
   refine⟨⟨C.symm,λj v P=>?_⟩,ht H0 F0 H4 F4 σ' E4 _ λH5 F5 g5=>?_⟩
   ·by_cases I:j∈is
    ·have:=T j I;unfold L2.capt at P;rw[ζj,this]at P;cases P
    ·rw[E j I];exact P
   have s:=g5.h _ _ G;have L:=g5.ap _ _ G a0;cases t:p d with
   | false =>
    refine iteF ⟨r,F5,g2.trans ((g3.trans g4).trans g5),s,L,?_⟩;rw[tk,List.filter_append,ζF];simp only[List.filter_cons,t,List.filter_nil];simpa using zu ((g3.trans g4).trans g5).f A
   | true =>
    refine iteT (he t H0 F0 H5 F5 σ' (E4.mono g5) _ λv H6 F6 g6 p6=>?_);have a1:=g6.h _ _ s;have M:=g6.ap _ _ s L;have gg:=(g3.trans g4).trans (g5.trans g6);have R:=g2.trans gg;refine⟨a1,?_,r,F6,⟨λb u z=>?_,R.f,λb u z=>?_,R.ap⟩,zm,M,?_⟩
    ·have h1:=zq.length A;rw[ζc]at h1;have h2:=List.length_filter_le p (ds.take i);rw[ζL]at h2;omega
    ·rw[zk (zt z O)];exact R.h _ _ z
    ·rw[zk (by rintro rfl;rw[M]at z;cases z)];exact R.le _ _ z
    ·rw[tk,List.filter_append,ζF];simp only[List.filter_cons,t,List.filter_nil,if_true,List.map_cons,List.map_nil];exact zq.append (zu gg.f A) (.cons p6 .nil)
  ·have ei:i=ds.length:=by omega
   subst ei;rw[ξD]at A;exact .inl ⟨V.stop n l g2.f g2.le,q D ys n l (g1.trans g2) (g1.h.free O) X fl A⟩
structure Post where
 nx:Ctx→Prop
 rt:AD→Prop
 bk:Ctx→Prop:=λ_=>False
 ct:Ctx→Prop:=λ_=>False
 kr:Bool:=false
structure Into(K:ζa)(S:Sx)(H0 F0 B:Hp)(P:Post)(D:Ends):Prop where
 nx:∀Γ' σ' H' F',P.nx Γ'→Same B F'→DEnv K S H0 F0 H' F' σ' Γ'→D.nx σ' H'
 rt:∀d v H' F',P.rt d→Gr H0 F0 H' F'→Rp K P.kr .fresh H0 F' v d→D.rt v H'
 bk:∀Γ' σ' H' F',P.bk Γ'→Same B F'→DEnv K S H0 F0 H' F' σ' Γ'→D.bk σ' H'
 ct:∀Γ' σ' H' F',P.ct Γ'→Same B F'→DEnv K S H0 F0 H' F' σ' Γ'→D.ct σ' H'
def zeo(S:Sx)(B:Hp):Prop:=∀T,S=.spoil T→∀a xs,B a=some (.lst xs)→¬T a
def ExT(K:ζa)(S S':Sx)(t:TS)(Γ:Ctx)(P:Post):Prop:=∀(H0 F0 H F:Hp) (σ:St) (B:Hp),DEnv K S H0 F0 H F σ Γ→Same B F→(S'=S∨zeo S B)→∀D:Ends,Into K S' H0 F0 B P D→t D σ H
abbrev ExS(K:ζa)(S:Sx)(t:TS)(Γ:Ctx)(P:Post):Prop:=ExT K S S t Γ P
variable {S':Sx}
variable {P:Post}
theorem yw(h:P.nx Γ):ExS K S Xb Γ P:=λH0 F0 H F σ B e b _ D I=>I.nx Γ σ H F h b e
theorem yZ{t u:TS}(N:Ctx→Prop)(a:ExT K S S t Γ {P with nx:=N,bk:=λ_=>False,ct:=λ_=>False})(c:∀Γ',N Γ'→ExT K S S' u Γ' P):ExT K S S' (tSeq t u) Γ P:=λH0 F0 H F σ B e b v D I =>
 a H0 F0 H F σ B e b (.inl rfl) {D with nx:=u D} ⟨λΓ' σ' H' F' n s d=>c Γ' n H0 F0 H' F' σ' B d s v D I,I.rt,λ_ _ _ _ z=>z.elim,λ_ _ _ _ z=>z.elim⟩
theorem Tv{H0:Hp}{a:Addr}(h:¬S.has H0 a):¬Sx.has .fresh H0 a:=by
 cases S with
 | fresh=>exact h
 | spoil T=>exact λc=>h (.inl c)
theorem WO{H0 F:Hp}{kr:Bool}{v:V}{d:AD}(b:(S=S∧κ=kr)∨kr=false)(p:Rp K κ S H0 F v d):Rp K kr .fresh H0 F v d:=by
 rcases b with⟨_,rfl⟩|rfl
 ·cases κ with
  | false=>exact v9 (xC p)
  | true=>exact wU (κ:=true) (κ':=true) (λa xs z=>⟨z.1,Tv z.2⟩) (λ_ _ z=>z) p
 ·exact v9 (xC p)
theorem zR{te:TE}{d:AD}(κ:Bool)(h:EvE K S κ te Γ d)(a:P.rt d)(c:(S=S∧κ=P.kr)∨P.kr=false):ExT K S S' (tRet te) Γ P:=λH0 F0 H F σ B e b _ D I=>h H0 F0 H F σ e _ λv H' F' g p=>I.rt d v H' F' a (e.gr.trans g) (WO c p)
theorem Xp{t:TS}(i:Nat){ds:AG}(h:Γ[i]?=some (some (.ow κ ds)))(k:ExT K S S' t (Γ.set i (some (.fz κ (.list ds)))) P):ExT K S S' t Γ P:=λH0 F0 H F σ B e b v D I=>by
 obtain⟨F',s,a⟩:=e.freeze h;exact k H0 F0 H F' σ B a (b.trans s) v D I
theorem zb3{i:Nat}{ds:AG}(h:Γ[i]?=some (some (.ow κ ds)))(a:P.rt (.list ds))(b:(S=S∧κ=P.kr)∨P.kr=false):ExT K S S' (tRet (tVar i)) Γ P:=
 Xp i h (zR κ (VY (by rw[ζh (ζg.mp h).1])) a b)
theorem zav{te:TE}{i:Nat}{d:AD}(h:EvE K S κ te Γ d)(k:P.nx (Γ.set i (some (.fz κ d)))):ExS K S (tAsg te (yt i)) Γ P:=λH0 F0 H F σ B e b _ D I =>
 h H0 F0 H F σ e _ λv H' F' g p=>I.nx _ _ H' F' k (b.trans g.f) ((e.mono g).setF p)
theorem Ws{te:TE}{i:Nat}{ds:AG}(h:EvO K S κ te Γ ds)(k:P.nx (Γ.set i (some (.ow κ ds)))):ExS K S (tAsg te (yt i)) Γ P:=λH0 F0 H F σ B e b _ D I =>
 h H0 F0 H F σ e _ λa vs H' F' g n p f q=>I.nx _ _ H' F' k (b.trans g.f) ((e.mono g).set (x:=.ow κ ds) ⟨a,vs,rfl,⟨p,f,e.gr.h.free n,e.out n⟩,q⟩ λc oc j y w s z m o=>by
  cases(show V.ref a=.ref c from oc);obtain⟨v,d,l⟩:=e.has j y z;rw[m]at d;cases d;obtain⟨us,r⟩:=l.owns (o.back l λ_ _ z=>g.h _ _ z.h);have:=r.h;rw[n]at this;cases this)
theorem UP{te:TE}{d:AD}(h:EvE K S κ te Γ d)(k:P.nx Γ):ExS K S (wg te) Γ P:=λH0 F0 H F σ B e b _ D I =>
 h H0 F0 H F σ e _ λv H' F' g p=>I.nx _ _ H' F' k (b.trans g.f) (e.mono g)
theorem Xq{te:TE}{i:Nat}{ds:AG}{d:AD}(h:Γ[i]?=some (some (.ow κ ds)))(l:EvE K S κ te Γ d)(m:ds.length<sizeLine)(k:P.nx (Γ.set i (some (.ow κ (ds++[d]))))):ExS K S (wg (tBM K "list" vt (tVar i) (zF te tNil))) Γ P:=λH0 F0 H F σ B e b _ D I=>by
 obtain⟨q,c,a,vs,rfl,w,j⟩:=e.has i _ h;refine⟨_,c,.inl ⟨rfl,_,SqL.of w.h⟩,l H0 F0 H F σ e _ λv H' F' g p=>?_⟩
 have o:=zu g.f j;refine⟨a,vs,v,rfl,rfl,g.h _ _ w.h,by rw[zq.length j];exact m,?_⟩
 exact I.nx _ _ _ F' k (b.trans g.f) ((e.mono g).put (y:=.ow κ (ds++[d])) h c (show Owns H' (.ref a) (.ow κ ds) a from rfl) ⟨a,_,rfl,⟨zm,(w.mono g).f,w.n,w.s⟩,zq.append o (.cons p .nil)⟩ λ_ z=>z)
theorem VW{te ti:TE}{i j:Nat}{m:Int}{ds:AG}{d:AD}(h:Γ[i]?=some (some (.ow κ ds)))(l:EvE K S κ te Γ d)(hi:EvE K S false ti Γ (.int m))(o:ixN ds.length m=some j)(k:P.nx (Γ.set i (some (.ow κ (ds.set j d))))):
  ExS K S (tAsg te (gSub (tVar i) ti WR)) Γ P:=λH0 F0 H F σ B e b _ D I=>by
 obtain⟨C,c,a,vs,rfl,w,g⟩:=e.has i _ h;refine l H0 F0 H F σ e _ λv p q g1 r=>⟨_,c,hi H0 F0 p q σ (e.mono g1) _ λE t u g2 x=>?_⟩
 cases yr x;have A:=zu (g1.trans g2).f g;refine⟨a,vs,m,j,rfl,rfl,(g1.trans g2).h _ _ w.h,by rw[zq.length g];exact o,?_⟩
 exact I.nx _ _ _ u k (b.trans (g1.trans g2).f) ((e.mono (g1.trans g2)).put (y:=.ow κ (ds.set j d)) h c (show Owns t (.ref a) (.ow κ ds) a from rfl) ⟨a,_,rfl,⟨zm,(w.mono (g1.trans g2)).f,w.n,w.s⟩,zq.set (yg g2.f r) _ A⟩ λ_ z=>z)
theorem yW{c:TT}{t u:TS}{b:Bool}(d:EvT K S c Γ b)(h:b=true→ExT K S S' t Γ P)(i:b=false→ExT K S S' u Γ P):ExT K S S' (tIfS c t u) Γ P:=λH0 F0 H F σ B e a v D I =>
 d H0 F0 H F σ e _ λH' F' g=>by
  cases b with
  | true=>exact iteT (h rfl H0 F0 H' F' σ B (e.mono g) (a.trans g.f) v D I)
  | false=>exact iteF (i rfl H0 F0 H' F' σ B (e.mono g) (a.trans g.f) v D I)
theorem Wt{L:TI}{g:TG}{tb:TS}{ds:AG}(κ:Bool)(k:Nat→Ctx→Prop)(hi:EvI K S κ L Γ ds)(Q:k 0 Γ)
  (R:∀i d Γ',ds[i]?=some d→k i Γ'→∃js,ExG K S κ g js d Γ' λs=>ExS K S tb s {nx:=k (i+1),rt:=P.rt,bk:=P.nx,ct:=k (i+1),kr:=P.kr}) (hd:∀Γ',k ds.length Γ'→P.nx Γ'):ExS K S (tFor L g tb) Γ P:=λH0 F0 H F σ B e b _ D I =>
 hi H0 F0 H F σ e _ λJ H1 p g1 E=>by
  refine⟨λi m h q=>m=ds.length-i∧i≤ds.length∧∃a l,k i a∧Same p l∧DEnv K S H0 F0 q l h a,⟨_,rfl,ξa _,Γ,p,Q,.refl _,e.mono g1⟩,?_⟩
  rintro i m h q ⟨rfl,hi,a,l,M,s2,r⟩;have N:Same B p:=b.trans g1.f;by_cases j:i<ds.length
  ·refine .inr ⟨E.go i q l s2 r.le j,λt u=>i+1≤ds.length∧∃v C,k (i+1) v∧Same p C∧DEnv K S H0 F0 u C t v,λt u T=>⟨_,⋯,rfl,T⟩,λx u y=>?_⟩;obtain⟨d,C,hd,g3,U⟩:=E.yld i q l x u s2 r.le r.sd j y;obtain⟨js,V⟩:=R i d a hd M;refine V H0 F0 u C h x (r.mono g3) U _ λΓ' σ' W O X g4 Y _ _=>?_;have Z:Same p O:=s2.trans (g3.f.trans g4.f);exact X H0 F0 W O σ' p Y Z (.inl rfl) _ ⟨λc o G w n z A=>⟨j,c,w,n,z,A⟩,I.rt,λc o G w n z A=>I.nx c o G w n (N.trans z) A,λc o G w n z A=>⟨j,c,w,n,z,A⟩⟩
  ·have ei:i=ds.length:=by omega
   subst ei;exact .inl ⟨E.stop q l s2 r.le,I.nx a h q l (hd a M) (N.trans s2) r⟩
theorem Ve{c:TT}{tb:TS}(l:Nat→Ctx→Prop)(y:Nat)(J:l y Γ)
  (L:∀m Γ',l m Γ'→∃b,EvT K S c Γ' b∧(b=true→ExS K S tb Γ' {nx:=λd=>∃a,a<m∧l a d,rt:=P.rt,bk:=P.nx,ct:=λd=>∃a,a<m∧l a d,kr:=P.kr})∧(b=false→P.nx Γ')):ExS K S (VA c tb) Γ P:=λH0 F0 H F σ B e M _ D I=>by
 refine⟨λm g v=>∃i u,l m i∧Same B u∧DEnv K S H0 F0 v u g i,⟨y,Γ,F,J,M,e⟩,?_⟩
 rintro m g v ⟨i,u,N,s2,w⟩;obtain⟨b,O,Q,R⟩:=L m i N;refine O H0 F0 v u g w _ λz A g3=>?_;have C:=s2.trans g3.f;cases b with
 | true =>
  refine iteT ⟨λo E=>∃a,a<m∧∃p G,l a p∧Same B G∧DEnv K S H0 F0 E G o p,λo E ⟨a,q,h⟩=>⟨a,q,h⟩,?_⟩;exact Q rfl H0 F0 z A g B (w.mono g3) C (.inl rfl) _ ⟨λj k x r ⟨a,q,n⟩ s t=>⟨a,q,j,r,n,s,t⟩,I.rt,λj k x r n s t=>I.nx j k x r n s t,λj k x r ⟨a,q,n⟩ s t=>⟨a,q,j,r,n,s,t⟩⟩
 | false=>exact iteF (I.nx i g z A (R rfl) C (w.mono g3))
def vN(n:Nat)(ds:AG):Ctx:=ds.map (λd=>some (.fz false d))++List.replicate (n-ds.length) none
theorem xj{H F:Hp}{N:AJ}{vs:List V}{ds:AG}(le:Same F H)(k:zV K F vs ds):DEnv K .fresh H F H F (L2.yM N vs) (vN N.length ds):=by
 have l:=zV.length k;have no:∀(i:Nat) (x:DV),(vN N.length ds)[i]?=some (some x)→∃d,x=.fz false d∧ds[i]?=some d:=λi x h=>by
  unfold vN at h;by_cases hi:i<ds.length
  ·rw[List.getElem?_append_left (by simpa using hi),List.getElem?_map]at h;rw[ζe hi]at h ⊢;have h':some (DV.fz false ds[i])=some x:=ζD h;exact⟨_,(ζD h').symm,rfl⟩
  ·rw[List.getElem?_append_right (by simpa using Nat.le_of_not_lt hi)]at h;rw[ξj]at h;split at h<;>cases h
 refine⟨.refl le,le,λa c=>?_,λT z=>(nomatch z),by unfold L2.yM vN;simp[l],λi x h=>?_,λi j x y v w a h _ _ _ o=>?_⟩
 ·cases q:H a with
  | none=>exact absurd q c
  | some o=>exact⟨o,rfl⟩
 ·obtain⟨f,e,h'⟩:=no i _ h;cases e;obtain⟨v,b,g⟩:=zV.get k h';refine⟨v,?_,v9 g⟩
  unfold L2.yM;have hi:=(ζg.mp b).1;rw[List.getElem?_append_left (by simpa using hi),List.getElem?_map,b];rfl
 ·obtain⟨f,e,_⟩:=no i _ h;cases e;exact o.elim
theorem Qy{t:TS}{N:AJ}{H F:Hp}{vs:List V}{ds:AG}{d:AD}{Q:VK}{Γ:Ctx}(a:vN N.length ds=Γ)(h:ExS K .fresh t Γ {nx:=λ_=>d=.none,rt:=λx=>x=d,kr:=κ})(le:Same F H)(k:zV K F vs ds)
  (q:∀v H' F',Gr H F H' F'→Rp K κ .fresh H F' v d→Q v H'):t {nx:=λ_ H'=>Q .non H',rt:=Q} (L2.yM N vs) H:=by
 subst a;refine h H F H F (L2.yM N vs) F (xj le k) (.refl _) (.inl rfl) _ ⟨λΓ' σ' H' F' n _ e=>?_,λb v H' F' e g p=>?_,λ_ _ _ _ z=>z.elim,λ_ _ _ _ z=>z.elim⟩
 ·have c:d=.none:=n;subst c;exact q .non H' F' e.gr .non
 ·have f:b=d:=e;subst f;exact q v H' F' g p
theorem Um{pre:AG→AD→Prop}{n:Nat}(h:∀ds d,pre ds d→ds.length=n){vs:List V}{H:Hp}{Q:VK}{E:XK}(s:spD K κ pre vs H Q E):vs.length=n:=by
 obtain⟨F,ds,d,_,k,p,_⟩:=s;rw[zV.length k];exact h ds d p
def zcM:Option HO→Bool
 | some (.lst _)=>true
 | _=>false
open Classical in
noncomputable def drop(T:Addr→Prop)(F:Hp):Hp:=λa=>if T a∧zcM (F a)=true then none else F a
theorem yb{T:Addr→Prop}{F:Hp}{a:Addr}{o:HO}:drop T F a=some o↔F a=some o∧¬(T a∧zcM (some o)=true):=by
 unfold drop;constructor
 ·intro h;split at h
  ·cases h
  ·rename_i c;rw[h]at c;exact⟨h,c⟩
 ·rintro⟨h,c⟩;rw[h,if_neg c]
def atom:AD→Bool
 | .none=>true
 | .bool _=>true
 | .int _=>true
 | .str _=>true
 | _=>false
end
inductive SetC:Ctx→Nat→Option DV→Ctx→Prop
 | zero {a x:Option DV} {l:Ctx}:SetC (a::l) 0 x (x::l)
 | succ {a x:Option DV} {l l':Ctx} {i:Nat}:SetC l i x l'→SetC (a::l) (i+1) x (a::l')
theorem SetC.eq{Γ Γ':Ctx}{i:Nat}{x:Option DV}(h:SetC Γ i x Γ'):Γ.set i x=Γ':=by
 induction h with
 | zero=>rfl
 | succ _ a=>rw[List.set_cons_succ,a]
inductive GetC:Ctx→Nat→DV→Prop
 | zero {x:DV} {l:Ctx}:GetC (some x::l) 0 x
 | succ {a:Option DV} {x:DV} {l:Ctx} {i:Nat}:GetC l i x→GetC (a::l) (i+1) x
theorem GetC.eq{Γ:Ctx}{i:Nat}{x:DV}(h:GetC Γ i x):Γ[i]?=some (some x):=by
 induction h with
 | zero=>rfl
 | succ _ a=>rw[List.getElem?_cons_succ,a]
inductive xF:List (Option Nat)→Ctx→Ctx→Prop
 | nil {Γ:Ctx}:xF [] Γ []
 | no {js:List (Option Nat)} {Γ Γ':Ctx}:xF js Γ Γ'→xF (none::js) Γ (none::Γ')
 | got {js:List (Option Nat)} {Γ Γ':Ctx} {j:Nat} {x:DV}:GetC Γ j x→xF js Γ Γ'→xF (some j::js) Γ (some x::Γ')
theorem xF.eq{js:List (Option Nat)}{Γ Γ':Ctx}(h:xF js Γ Γ'):uR js Γ=Γ':=by
 induction h with
 | nil=>rfl
 | no _ a =>
  unfold uR at a ⊢;rw[ξq,a]
 | got g _ a =>
  unfold uR at a ⊢;rw[ξq,a];show(Option.join _::_)=_;rw[g.eq];rfl
section
variable {K:ζa}{S S':Sx}{κ κ':Bool}{Γ Γ' Γ'':Ctx}{P:Post}
theorem evv{i:Nat}{d:AD}(h:GetC Γ i (.fz κ' d))(a:κ=true→κ'=true):EvE K S κ (tVar i) Γ d:=(VY h.eq).weak a
theorem evi{i:Nat}{d:AD}(h:GetC Γ i (.fz κ' d))(a:imm d=true):EvE K S κ (tVar i) Γ d:=(VY h.eq).imm a
theorem EvL.weak{t:TE}{ds:AG}(h:EvL K S κ' t Γ ds)(b:κ=true→κ'=true):EvL K S κ t Γ ds:=λH0 F0 H F σ e Q q=>h H0 F0 H F σ e Q λa vs H' F' g p k=>q a vs H' F' g p (by
 cases κ with
 | false=>exact Zd (zI k)
 | true=>rw[b rfl]at k;exact k)
theorem evw{i:Nat}{ds:AG}(h:GetC Γ i (.ow κ' ds))(a:κ=true→κ'=true):EvL K S κ (tVar i) Γ ds:=(zb7 h.eq).weak a
theorem exs{te:TE}{u:TS}{i:Nat}{d:AD}(κ:Bool)(h:EvE K S κ te Γ d)(e:SetC Γ i (some (.fz κ d)) Γ')(k:ExT K S S' u Γ' P):ExT K S S' (tSeq (tAsg te (yt i)) u) Γ P:=yZ (·=Γ') (zav h e.eq) λ_ z=>z ▸ k
theorem exs1{te:TE}{i:Nat}{d:AD}(κ:Bool)(h:EvE K S κ te Γ d)(e:SetC Γ i (some (.fz κ d)) Γ')(k:P.nx Γ'):ExS K S (tAsg te (yt i)) Γ P:=zav h (e.eq ▸ k)
theorem exo{te:TE}{u:TS}{i:Nat}{ds:AG}(κ:Bool)(h:EvO K S κ te Γ ds)(e:SetC Γ i (some (.ow κ ds)) Γ')(k:ExT K S S' u Γ' P):ExT K S S' (tSeq (tAsg te (yt i)) u) Γ P:=yZ (·=Γ') (Ws h e.eq) λ_ z=>z ▸ k
theorem exo1{te:TE}{i:Nat}{ds:AG}(κ:Bool)(h:EvO K S κ te Γ ds)(e:SetC Γ i (some (.ow κ ds)) Γ')(k:P.nx Γ'):ExS K S (tAsg te (yt i)) Γ P:=Ws h (e.eq ▸ k)
theorem exa{te:TE}{u:TS}{i:Nat}{ds:AG}{d:AD}(h:GetC Γ i (.ow κ ds))(a:EvE K S κ te Γ d)(e:SetC Γ i (some (.ow κ (ds++[d]))) Γ')(b:ds.length<sizeLine)(k:ExT K S S' u Γ' P):ExT K S S' (tSeq (wg (tBM K "list" vt (tVar i) (zF te tNil))) u) Γ P:=yZ (·=Γ') (Xq h.eq a b e.eq) λ_ z=>z ▸ k
theorem exa1{te:TE}{i:Nat}{ds:AG}{d:AD}(h:GetC Γ i (.ow κ ds))(a:EvE K S κ te Γ d)(e:SetC Γ i (some (.ow κ (ds++[d]))) Γ')(b:ds.length<sizeLine)(k:P.nx Γ'):ExS K S (wg (tBM K "list" vt (tVar i) (zF te tNil))) Γ P:=Xq h.eq a b (e.eq ▸ k)
theorem exi1{te ti:TE}{i j:Nat}{m:Int}{ds:AG}{d:AD}(h:GetC Γ i (.ow κ ds))(a:EvE K S κ te Γ d)(hi:EvE K S false ti Γ (.int m))(b:ixN ds.length m=some j)(e:SetC Γ i (some (.ow κ (ds.set j d))) Γ')(k:P.nx Γ'):ExS K S (tAsg te (gSub (tVar i) ti WR)) Γ P:=VW h.eq a hi b (e.eq ▸ k)
theorem exfz{t:TS}(i:Nat){ds:AG}(h:GetC Γ i (.ow κ ds))(e:SetC Γ i (some (.fz κ (.list ds))) Γ')(k:ExT K S S' t Γ' P):ExT K S S' t Γ P:=Xp i h.eq (by rw[e.eq];exact k)
theorem egn{i:Nat}{d:AD}{k:Ctx→Prop}(e:SetC Γ i (some (.fz κ d)) Γ')(h:k Γ'):ExG K S κ (yt i) [i] d Γ k:=zcc (by rw[e.eq];exact h)
theorem exro{i:Nat}{ds:AG}(h:GetC Γ i (.ow κ ds))(a:P.rt (.list ds))(b:(S=S∧κ=P.kr)∨P.kr=false):ExT K S S' (tRet (tVar i)) Γ P:=zb3 h.eq a b
theorem exif{c:TT}{t u v:TS}{b:Bool}(N:Ctx→Prop)(a:EvT K S c Γ b)(d:b=true→ExS K S t Γ {P with nx:=N,bk:=λ_=>False,ct:=λ_=>False})(e:b=false→ExS K S u Γ {P with nx:=N,bk:=λ_=>False,ct:=λ_=>False})(k:∀Γ',N Γ'→ExT K S S' v Γ' P):ExT K S S' (tSeq (tIfS c t u) v) Γ P:=yZ N (yW a d e) k
theorem wQ{c:TT}{t u v:TS}{b:Bool}(h:EvT K S c Γ b)(i:b=true→ExT K S S' (tSeq t v) Γ P)(j:b=false→ExT K S S' (tSeq u v) Γ P):ExT K S S' (tSeq (tIfS c t u) v) Γ P:=λH0 F0 H F σ B e a d D I=>by
 refine h H0 F0 H F σ e _ λH' F' g=>?_;cases b with
 | true=>exact iteT (i rfl H0 F0 H' F' σ B (e.mono g) (a.trans g.f) d D I)
 | false=>exact iteF (j rfl H0 F0 H' F' σ B (e.mono g) (a.trans g.f) d D I)
theorem exn{v:TS}(k:ExT K S S' v Γ P):ExT K S S' (tSeq Xb v) Γ P:=yZ (·=Γ) (yw rfl) λ_ z=>z ▸ k
theorem xo{c:TT}{t v:TS}{b:Bool}(a:EvT K S c Γ b)(d:b=false)(k:ExT K S S' v Γ P):ExT K S S' (tSeq (tIfS c t Xb) v) Γ P:=wQ a (λh=>by rw[d]at h;cases h) λ_=>exn k
theorem uP{c:TI}{g:TG}{tb u:TS}{ds:AG}(κ:Bool)(a:Nat→Ctx→Prop)(hi:EvI K S κ c Γ ds)(e:a 0 Γ)
  (f:∀i d Γ',ds[i]?=some d→a i Γ'→∃js,ExG K S κ g js d Γ' λb=>ExS K S tb b {nx:=a (i+1),rt:=P.rt,bk:=a ds.length,ct:=a (i+1),kr:=P.kr}) (hd:∀Γ',a ds.length Γ'→ExT K S S' u Γ' P):ExT K S S' (tSeq (tFor c g tb) u) Γ P:=yZ (a ds.length) (Wt κ a hi e f λ_ h=>h) hd
theorem exrs{te:TE}{v:TS}{d:AD}(κ:Bool)(h:EvE K S κ te Γ d)(a:P.rt d)(b:(S=S∧κ=P.kr)∨P.kr=false):ExT K S S' (tSeq (tRet te) v) Γ P:=yZ (λ_=>False) (zR κ h a b) λ_ z=>z.elim
theorem Xr{js:List (Option Nat)}{c:Ctx}{q:TI}{g:TG}{tt:TT}{te:TE}{is:AF}{ds:AG}(κ':Bool)(p:AD→Bool)(f:AD→AD)(hi:EvI K S κ' q Γ ds)(r:xF js Γ c)(e:(is.all λi=>js[i]?==some none)=true)
  (s:(js.filterMap id).Nodup) (w:ds.length≤sizeLine) (t:∀d∈ds,ExG K S κ' g is d c λΓ'=>EvT K S tt Γ' (p d)∧(p d=true→EvE K S κ te Γ' (f d))):EvO K S κ (xG js q g tt te) Γ ((ds.filter p).map f):=by
 refine zaI p f hi (λi hi=>?_) ?_ w (by rw[r.eq];exact t)
 ·have:=ζM.mp e i hi;simpa using this
 ·intro i j k b h;clear r e hi t;induction js generalizing i j with
  | nil=>simp at b
  | cons o js u =>
   cases o with
   | none =>
    cases i with
    | zero=>simp at b
    | succ i =>
     cases j with
     | zero=>simp at h
     | succ j=>rw[u (by simpa using s) i j (by simpa using b) (by simpa using h)]
   | some m =>
    have l:(m::js.filterMap id).Nodup:=by simpa using s
    have v:=(ξn.mp l).1;cases i with
    | zero =>
     cases j with
     | zero=>rfl
     | succ j =>
      have n:m=k:=by simpa using b
      subst n;have a:js[j]?=some (some m):=by simpa using h
      exact absurd (show m∈js.filterMap id from ζ4.mpr ⟨some m,ζk a,rfl⟩) v
    | succ i =>
     cases j with
     | zero =>
      have n:m=k:=by simpa using h
      subst n;have a:js[i]?=some (some m):=by simpa using b
      exact absurd (show m∈js.filterMap id from ζ4.mpr ⟨some m,ζk a,rfl⟩) v
     | succ j=>rw[u (List.nodup_cons.mp l).2 i j (by simpa using b) (by simpa using h)]
theorem UQ{js:List (Option Nat)}{a:Ctx}{c:TI}{g:TG}{te:TE}{is:AF}{ds:AG}(κ':Bool)(f:AD→AD)(hi:EvI K S κ' c Γ ds)(j:xF js Γ a)(b:(is.all λi=>js[i]?==some none)=true)
  (l:(js.filterMap id).Nodup) (m:ds.length≤sizeLine) (n:∀d∈ds,ExG K S κ' g is d a λΓ'=>EvE K S κ te Γ' (f d)):EvO K S κ (xG js c g tYes te) Γ (ds.map f):=by
 have h:=Xr (K:=K) (S:=S) (κ:=κ) (g:=g) (tt:=tYes) (te:=te) (is:=is) κ' (λ_=>true) f hi j b l m λd hd H0 F0 H F σ v e p Q q=>n d hd H0 F0 H F σ v e p Q λΓ' σ' H' F' k=>q Γ' σ' H' F' ⟨Wy,λ_=>k⟩
 rwa [List.filter_eq_self.mpr (λ_ _=>rfl)]at h
end
inductive y0:Nat→AG→Ctx→Prop
 | z:y0 0 [] []
 | no {n:Nat} {Γ:Ctx}:y0 n [] Γ→y0 (n+1) [] (none::Γ)
 | got {n:Nat} {d:AD} {ds:AG} {Γ:Ctx}:y0 n ds Γ→y0 (n+1) (d::ds) (some (.fz false d)::Γ)
theorem y0.eq{n:Nat}{ds:AG}{Γ:Ctx}(h:y0 n ds Γ):vN n ds=Γ:=by
 induction h with
 | z=>rfl
 | @no n Γ _ a =>
  rw[←a];unfold vN;simp[List.replicate_succ]
 | @got n d ds Γ _ a =>
  rw[←a];unfold vN;simp
theorem zbl{K:ζa}{κ:Bool}{t:TS}{N:AJ}{n:Nat}{H F:Hp}{vs:List V}{ds:AG}{d:AD}{Q:VK}{Γ:Ctx}(le:Same F H)(k:zV K F vs ds)(q:∀v H' F',Gr H F H' F'→Rp K κ .fresh H F' v d→Q v H')(b:N.length=n)(a:y0 n ds Γ)
  (h:ExS K .fresh t Γ {nx:=λ_=>d=.none,rt:=λx=>x=d,kr:=κ}):t {nx:=λ_ H'=>Q .non H',rt:=Q} (L2.yM N vs) H:=Qy (b ▸ a.eq) h le k q
section
variable {K:ζa}{S:Sx}{κ:Bool}{Γ:Ctx}
end
theorem asm{p:Prop}(h:p):p:=h
theorem atI0{b:Type}{a:b}{l:List b}:atI (a::l) 0=some a:=by
 unfold atI ixN;simp
theorem atI1{c:Type}{a b:c}{l:List c}:atI (a::b::l) 1=some b:=by
 unfold atI ixN;have h:(1:Int)<((a::b::l).length:Int):=by simp;omega
 rw[if_pos #[2],if_pos h];rfl
theorem zdu{K:ζa}{t c:Value}{b:Bool}(h:PySem.W.kitOne K t c=some b):PySem.W.kitOne K t c=some b:=h
end PD
namespace L2
open PySem PySem.Spec PyProof.Rows
section
variable {X:Cx}{K:ζa}
theorem zB{tg l:Expr}{tl:TE}(a:X.K=K)(b:PE X l tl):PI X tg l (Vc K tl):=by subst a;exact zbA b
theorem WV{a:Expr}{h:TA}{p c d b:Pos}(i:X.K=K)(j:X.calm=true)(k:Gl X "list")(l:X.mg "list" = none)(e:Gl X "reversed")(f:X.mg "reversed" = none)(m:PA X [a] h)(n:starEach (a::[]) X.env=(false,eval a X.env)::starEach [] X.env:=by rfl)
  (g:starEach (Expr.Call (.Name "reversed" c) [a] [] b::[]) X.env=(false,eval (.Call (.Name "reversed" c) [a] [] b) X.env)::starEach [] X.env:=by rfl) :
  PE X (.Call (.Name "list" p) [.Call (.Name "reversed" c) [a] [] b] [] d) (Z5 K h):=by subst i;exact VL j k l e f m n g
variable {o e:Expr}{es:List Expr}{to:TE}{t:TA}{name:Str}{apos cpos:Pos}{T id:String}{r:V→List V→Hp→VK→Prop}
theorem Uz(d:X.K=K)(e:PlainAttrs T)(slot:Slot T name id)(c:typeOf (.builtin id)=pure (.type "method_descriptor"))(f:MtR X id r)(g:PE X o to)
  (a:attributeBase o name X.env (eval o X.env)=eval o X.env:=by rfl) (b:(apos.endLine==cpos.line)=true:=by rfl):PE X (.Call (.Attribute o name apos) [] [] cpos) (tBM0 K T r to):=by subst d;exact zdf e slot c f g a b
theorem xA(g:X.K=K)(h:PlainAttrs T)(slot:Slot T name id)(f:typeOf (.builtin id)=pure (.type "method_descriptor"))(i:MtR X id r)(j:PE X o to)(k:PA X (e::es) t)
  (b:attributeBase o name X.env (eval o X.env)=eval o X.env:=by rfl)
  (d:((backTo cpos (starEach (e::es) X.env)).all (λx=>!x.1)&&(backToKw cpos (keywordEach [] X.env)).all (λx=>x.1.isSome)
   && decide ((e::es).length+([]:List Keyword).length+(if([]:List Keyword).isEmpty then 0 else 1)<30))=true:=by rfl)
  (c:(apos.endLine==cpos.line)=true:=by rfl) (l:starEach (e::es) X.env=(false,eval e X.env)::starEach es X.env:=by rfl) (a:(backTo cpos (starEach es X.env)).any (·.1)=false:=by rfl):PE X (.Call (.Attribute o name apos) (e::es) [] cpos) (tBM K T r to t):=by subst g;exact zd4 h slot f i j k b d c l a
end
end L2
namespace PD
open PySem L2
abbrev il(ns:AE):AD:=.list (ns.map .int)
abbrev lls(ws:AH):AD:=.list (ws.map il)
theorem yQ(ns:AE):∀d∈ns.map PyData.int,imm d=true:=λd hd=>by
 obtain⟨n,_,rfl⟩:=ζn.mp hd;rfl
section
variable {K:ζa}{S:Sx}{κ:Bool}{Γ:Ctx}
theorem zaK{t:TE}{ns:AE}(h:EvE K S false t Γ (.list (ns.map .int))):EvL K S κ t Γ (ns.map .int):=h.toL.imm (yQ ns)
end
theorem uj{a:Type}{g:a→AD}{ns:List a}{i:Nat}{d:AD}(h:(ns.map g)[i]?=some d):∃n,ns[i]?=some n∧d=g n:=by
 rw[ζj]at h;cases e:ns[i]? with
 | none=>rw[e]at h;cases h
 | some n=>rw[e]at h;exact⟨n,rfl,(ζD h).symm⟩
theorem yu{i j:Int}(a:-(2^64)<j)(b:j<2^64):IntMulOk i j:=.of_right (intBits_le_64 a b)
theorem uy{a:Type}{g:a→AD}{xs:List a}{i:Nat}{x:a}(h:xs[i]?=some x):atI (xs.map g) (i:Int)=some (g x):=ym (by rw[ζj,h];rfl)
theorem yL{n i:Nat}(h:i<n):ixN n (i:Int)=some i:=by
 unfold ixN;rw[if_pos ⋯,if_pos ⋯];simp
theorem w9{n i:Nat}{d:AD}(h:((List.range n).map λk:Nat=>PyData.int (k:Int))[i]?=some d):i<n∧d=.int i:=by
 rw[ζj]at h;by_cases hi:i<n
 ·rw[ξw hi]at h;exact⟨hi,(ζD h).symm⟩
 ·rw[List.getElem?_eq_none (by simp;omega)]at h;cases h
theorem wx(n:Nat):((List.range n).map λk:Nat=>PyData.int (k:Int)).length=n:=by rw[ζc,ζG]
end PD
namespace Sx2
open Wd
def pk(ss:AE)(ks:AF):AE:=ks.map λk=>ss.getD k 0
end Sx2
namespace PD
open PySem L2
section
variable {K:ζa}{S S':Sx}{κ:Bool}{Γ:Ctx}{P:Post}
end
theorem ZT{a:Type}{g:a→AD}(h:∀x,PyData.canLay0 (g x)=true):∀xs:List a,PyData.canLayAll0 (xs.map g)=true
 | []=>rfl
 | x::r=>by
  show(PyData.canLay0 (g x)&&PyData.canLayAll0 (r.map g))=true;rw[h,ZT h r];rfl
theorem uw{a:Type}{g:a→AD}{n:Nat}(h:∀x,PyData.depth (g x)≤n):∀xs:List a,PyData.depthAll (xs.map g)≤n
 | []=>ξa _
 | x::r=>by
  show max (PyData.depth (g x)) (PyData.depthAll (r.map g))≤n;have:=uw h r;have:=h x;omega
theorem w6{d:AD}(a:PyData.canLay0 d=true)(b:PyData.depth d≤50):SeqAt.shaped d=true:=by
 unfold SeqAt.shaped;rw[a];simp;omega
end PD
namespace L2
open PySem PySem.Spec PyProof.Rows
def srt(ns:AE):AE:=ns.mergeSort λa b=>decide (a≤b)
theorem ZL:∀{a b:AE},a.Perm b→a.Pairwise (·≤·)→b.Pairwise (·≤·)→a=b
 | [],b,p,_,_=>p.nil_eq
 | x::r,[],p,_,_=>absurd p.length_eq (by simp)
 | x::r,y::t,p,h1,h2=>by
  have f:=ξH.mp h1;have g:=ξH.mp h2;have c:x∈y::t:=p.mem_iff.mp ζi;have d:y∈x::r:=p.mem_iff.mpr ζi;have e:x=y:=by
   rcases ζq.mp c with e|c
   ·exact e
   ·rcases ζq.mp d with e|d
    ·exact e.symm
    ·have:=g.1 x c;have:=f.1 y d;omega
  subst e;rw[ZL p.cons_inv f.2 g.2]
theorem wZ(ns:AE):(srt ns).Perm ns:=List.mergeSort_perm ns _
theorem uS(ns:AE):(srt ns).Pairwise (·≤·):=by
 have:=List.pairwise_mergeSort (le:=λa b:Int=>decide (a≤b)) (λa b c d e=>by simp at *;omega) (λa b=>by simp;omega) ns;exact this.imp λh=>by simpa using h
theorem VD{a ns:AE}(p:a.Perm ns)(h:a.Pairwise (·≤·)):a=srt ns:=ZL (p.trans (wZ ns).symm) h (uS ns)
section
variable {X:Cx}{K:ζa}
theorem vh:∀{ns:AE} {us:AK},IntsAre us ns→Vals (ns.map V.int) us
 | _,_,.nil=>.nil
 | _,_,.cons _ t r=>.cons ⟨t,rfl⟩ (vh r)
def XX(K:ζa):List V→Hp→VK→Prop:=λxs H Q=>∃p ns,xs=[.ref p]∧SqL K H p (ns.map V.int)∧ns.length<64∧∀l,H l=none→Q (.ref l) (upd H l (.lst ((srt ns).map V.int)))
theorem Vo:yo X (.builtin "sorted") (XX X.K):=by
 intro pins s σ H xs us Q I r h;obtain⟨p,ns,rfl,hq,f,q⟩:=h;obtain⟨u,rfl,g⟩:=wa r;cases g;obtain⟨a,b,pl,d⟩:=I.list hq;have i:=b.length;rw[ζc]at i d;refine sorted_ints (vs:=a) pl.isList (xU b) ⋯ λout j k l m=>?_;have e:=VD l m;subst e;obtain⟨c,n⟩:=sortedAll_at s.heap a out;exact⟨.ref (s.heap.objs.size+1),_,I.laid (t':=s.toks) (λ_ _=>sortedAll_old) (Nat.le_succ _) (show yN X.prog X.w _ _ _ (.lst ((srt ns).map V.int))from⟨by rw[List.length_map,(wZ ns).length_eq];exact d,out.toList,c,vh k,by simpa using n⟩),rfl,q _ (I.hok.fresh (Nat.le_succ _))⟩
theorem Zf(a:X.K=K):yo X (.builtin "sorted") (XX K):=by subst a;exact Vo
def low(d:AD):Bool:=d.canLay0&&decide (d.depth≤50)
theorem Wj{d:AD}(h:low d=true):d.canLay0=true:=(Bool.and_eq_true_iff.mp h).1
def VJ(K:ζa):V→List V→Hp→VK→Prop:=λx vs H Q=>∃l,∃ns:AE,∃k,x=.ref l∧vs=[.int k]∧SqL K H l (ns.map V.int)∧k∈ns∧Q (.int (ns.idxOf k:Nat)) H
theorem Q7:MtM X "list.index" (VJ X.K):=by
 intro pins s σ H x vs v us Q I f g h;obtain⟨l,ns,k,rfl,rfl,hq,i,q⟩:=h;cases f;obtain⟨u,rfl,j⟩:=g.one;obtain⟨t,rfl⟩:=j;obtain⟨a,r,pl,o⟩:=I.list hq;have p:=r.length;have hi:=xU r;have w:ns.idxOf k<ns.length:=ζ9.mpr i;rw[ζc]at p o;have A:sizeLine<2^62:=by decide
 obtain⟨⟨c,dd,B,sl⟩,b,d,n,hd⟩:=pl.isList;simp only at d hd;subst d hd
 refine call_meets F.slot_list_index ⟨_,b,rfl⟩ F.entry_list_index (F.args_list_index_2 _ _) (SeqAt.list_indexAt l a.toArray n dd sl (.int k t) (isInt k) (ns.idxOf k) (by rw[ζE];omega) ⋯ ?_ λm e lt=>?_)
  ⟨b,λy z=>(eq_isInt k t hi y (by simpa using z)).at _ _,.int _,H,I.tok _,⟨_,rfl⟩,q⟩
 ·show isInt k a[ns.idxOf k]=true;rw[isInt_at k hi (ns.idxOf k) ⋯ w];simp
 ·show isInt k a[m]=false;rw[ζE]at e;rw[isInt_at k hi m e ⋯];exact ne_of_lt_idxOf lt ⋯
theorem Xk(a:X.K=K):MtM X "list.index" (VJ K):=by subst a;exact Q7
def ZS:V→List V→Hp→VK→Prop:=λx vs H Q=>∃l xs j y,x=.ref l∧vs=[.int j,y]∧H l=some (.lst xs)∧0≤j∧j≤(xs.length:Int)∧xs.length<sizeLine∧Q .non (upd H l (.lst (xs.take j.toNat++y::xs.drop j.toNat)))
theorem Xj:MtM X "list.insert" ZS:=by
 intro pins s σ H x vs v us Q I d f h;obtain⟨l,xs,j,y,rfl,rfl,c,w,A,B,q⟩:=h;cases d;cases f with
 | cons g b =>
  obtain⟨t,rfl⟩:=g;obtain⟨u,rfl,i⟩:=Vals.one b;obtain⟨z,a,n,r,C,e⟩:=I.lstM c;have D:sizeLine<2^62:=by decide
  have k:Builtin.List.listFitsIndex j=true:=fitsIndex_both ⋯ ⋯;have m:a.toArray.size≤sizeLine:=by rw[ζE];omega
  have o:¬(j<0):=by omega
  have p:min j.toNat a.length=j.toNat:=by omega
  refine call_meets F.slot_list_insert ⟨_,e,rfl⟩ F.entry_list_insert (F.args_list_insert_3 _ _ _) (AutoSeq1.list_insert_list_int_val_1 l a.toArray n j t u (by rw[k];decide) m) ⟨e,?_⟩;refine⟨.non,_,I.lset (its':=a.take j.toNat++u::a.drop j.toNat) c e ?_ ((r.take j.toNat).append (.cons i (r.drop j.toNat))) ?_,rfl,q⟩
  ·simp only[o,if_false,List.size_toArray,p];apply Array.toList_inj.mp;simp;exact ζO (by rw[ζ2];exact ζp _)
  ·rw[ζr,ζZ,ζL,ζ2];omega
theorem zbz{tg l:Expr}{tl:TE}(a:X.K=K)(b:PE X l tl):PI X tg l (iTup K tl):=by subst a;exact zdc b
end
end L2
namespace PD
open PySem L2
section
variable {K:ζa}{S S':Sx}{κ κ':Bool}{Γ Γ' Γ'':Ctx}{P:Post}
theorem vo{H0 F:Hp}(ns:AE):zq K κ S H0 F (ns.map V.int) (ns.map .int):=vG (yQ ns) (tm ns)
theorem Yy{c:TE}{ns:AE}(h:EvL K S false c Γ (ns.map .int))(b:ns.length<64):EvO K S κ (tCB (XX K) (zF c tNil)) Γ ((srt ns).map .int):=λH0 F0 H F σ e Q q =>
 h H0 F0 H F σ e _ λa vs i d g1 f g=>by
  cases yd (zI g);exact⟨a,ns,rfl,f,b,λp hp=>q p _ _ d (g1.trans (.newO g1.le hp _)) (g1.h.free hp) zm (g1.le.free hp) (vo _)⟩
theorem Vh{b tb:TE}{ns:AE}{k:Int}(d:EvL K S false b Γ (ns.map .int))(f:EvE K S false tb Γ (.int k))(g:k∈ns):EvE K S κ (tBM K "list" (VJ K) b (zF tb tNil)) Γ (.int (ns.idxOf k:Nat)):=λH0 F0 H F σ e Q q =>
 d H0 F0 H F σ e _ λa vs i j g1 c l=>⟨.inl ⟨rfl,_,c⟩,f H0 F0 i j σ (e.mono g1) _ λw m n g2 o=>by
  cases yr o;cases yd (zI l);exact⟨a,ns,k,rfl,rfl,g2.h.seq c,g,q _ m n (g1.trans g2) (.int _)⟩⟩
theorem zdK{t:TE}{ds:AG}(h:EvE K S κ t Γ (.tuple ds)):EvI K S κ (iTup K t) Γ ds:=λH0 F0 H F σ e R q =>
 h H0 F0 H F σ e _ λv g c g1 j=>by
  obtain⟨a,vs,rfl,k,f⟩:=VF j;have m:=zq.length f;have b:∀{F' H':Hp},Same c F'→Same F' H'→SqT K H' a vs:=λs1 s2=>Same.seqT (s1.trans s2) k;refine⟨a,rfl,⟨vs,b (.refl _) g1.le⟩,q _ g c g1 ⟨λi H' F' s1 s2 hi=>?_,λi H' F' x l s1 s2 _ hi y=>?_,λH' F' s1 s2=>?_⟩⟩
  ·exact⟨vs,vs[i]'⋯,b s1 s2,by simp⟩
  ·obtain⟨rfl,y⟩:=y;obtain⟨d,hd,hp⟩:=zq.get' f (y vs (b s1 s2));exact⟨d,F',hd,.refl s2,yg s1 hp⟩
  ·exact⟨vs,b s1 s2,⋯⟩
theorem TF{te ti:TE}{i:Nat}{m:Int}{ds:AG}{d:AD}(h:Γ[i]?=some (some (.ow κ ds)))(hi:EvE K S false ti Γ (.int m))(q:EvE K S κ te Γ d)(r:0≤m)(t:m≤ds.length)(u:ds.length<sizeLine)(k:P.nx (Γ.set i (some (.ow κ (ds.take m.toNat++d::ds.drop m.toNat))))):
  ExS K S (wg (tBM K "list" ZS (tVar i) (zF ti (zF te tNil)))) Γ P:=λH0 F0 H F σ B e b _ D I=>by
 obtain⟨E,c,a,vs,rfl,w,j⟩:=e.has i _ h;refine⟨_,c,.inl ⟨rfl,_,SqL.of w.h⟩,hi H0 F0 H F σ e _ λG x A g1 C=>q H0 F0 x A σ (e.mono g1) _ λv H' F' g2 p=>?_⟩
 cases yr C;have g:=g1.trans g2;have l:=zu g.f j;have o:=zq.length j;refine⟨a,vs,m,v,rfl,rfl,g.h _ _ w.h,r,by rw[o];exact t,by rw[o];exact u,?_⟩
 exact I.nx _ _ _ F' k (b.trans g.f) ((e.mono g).put (y:=.ow κ (ds.take m.toNat++d::ds.drop m.toNat)) h c (show Owns H' (.ref a) (.ow κ ds) a from rfl) ⟨a,_,rfl,⟨zm,(w.mono g).f,w.n,w.s⟩,zq.append (zq.take _ l) (.cons p (zq.drop _ l))⟩ λ_ z=>z)
theorem exin{te ti:TE}{i:Nat}{m:Int}{ds:AG}{d:AD}(h:GetC Γ i (.ow κ ds))(hi:EvE K S false ti Γ (.int m))(a:EvE K S κ te Γ d)(b:0≤m)(c:m≤ds.length)(f:ds.length<sizeLine)(e:SetC Γ i (some (.ow κ (ds.take m.toNat++d::ds.drop m.toNat))) Γ')(k:P.nx Γ'):
  ExS K S (wg (tBM K "list" ZS (tVar i) (zF ti (zF te tNil)))) Γ P:=TF h.eq hi a b c f (e.eq ▸ k)
theorem Qe{T:Addr→Prop}{F:Hp}{a:Addr}{xs:List V}(z:SqT K F a xs):SqT K (drop T F) a xs:=by
 rcases z with(z|⟨o,z⟩)|z
 ·exact .inl (.inl (yb.mpr ⟨z,λc=>nomatch c.2⟩))
 ·exact .inl (.inr ⟨o,yb.mpr ⟨z,λc=>nomatch c.2⟩⟩)
 ·exact .inr z
theorem U6{T:Addr→Prop}{F:Hp}{a:Addr}{u:Option (List V)}(z:SqU K F a u):SqU K (drop T F) a u:=z.mv (λ_ z=>Qe z) λz=>yb.mpr ⟨z,λc=>nomatch c.2⟩
theorem Zy{T:Addr→Prop}{F:Hp}{a:Addr}{xs:List V}(h:F a=some (.lst xs))(t:T a):drop T F a=none:=by
 cases q:drop T F a with
 | none=>rfl
 | some o =>
  obtain⟨b,c⟩:=yb.mp q;rw[h]at b;cases b;exact absurd ⟨t,rfl⟩ c
end
end PD
namespace L2
open PySem PySem.Spec PyProof.Rows
section
variable {X:Cx}{K:ζa}
def rSum(K:ζa):List V→Hp→VK→Prop:=λxs H Q=>∃p,∃ns:AE,xs=[.ref p]∧SqL K H p (ns.map V.int)∧Q (.int ns.sum) H
theorem zaY(c:X.calm=true):yo X (.builtin "sum") (rSum X.K):=by
 intro pins s σ H xs us Q I r h;obtain⟨p,ns,rfl,hq,q⟩:=h;obtain⟨u,rfl,d⟩:=wa r;cases d;obtain⟨f,g,pl,k⟩:=I.list hq;have hi:=xU g;obtain⟨ys,e⟩:=hi.allInts.items;have a:ns=ys.toList.map (·.1):=by rw[←hi.numsOf,←nums_intItems,←e]
 have b:=pl.isList;rw[e]at b;refine sum_intListG (I.ok.hd c) b λh' tk i j=>?_;refine⟨.int ns.sum,H,I.kept j,⟨i,?_⟩,q⟩
 rw[preSum_eq,List.take_of_length_le (by simp),←a]
theorem Xw(a:X.K=K)(b:X.calm=true):yo X (.builtin "sum") (rSum K):=by subst a;exact zaY b
theorem XF:∀{bs:List Bool} {us:AK},Vals (bs.map V.bl) us→us=bs.map Value.bool
 | [],_,.nil=>rfl
 | _::_,_,.cons r t=>by rw[XF t,show _=Value.bool _ from r];rfl
theorem XD:∀(bs:List Bool) (f:Nat→Bool),(∀i b,bs[i]?=some b→f i=b)→(List.range bs.length).all f=bs.all λb=>b
 | [],_,_=>rfl
 | b::r,f,h=>by
  have a:=XD r (λi=>f (i+1)) λi c d=>h (i+1) c (by simpa using d);rw[ζZ,List.range_succ_eq_map,List.all_cons,List.all_map,List.all_cons,h 0 b rfl,←a];rfl
def rAll(K:ζa):List V→Hp→VK→Prop:=λxs H Q=>∃p,∃bs:List Bool,xs=[.ref p]∧SqL K H p (bs.map V.bl)∧Q (.bl (bs.all λb=>b)) H
theorem za0(j:X.calm=true):yo X (.builtin "all") (rAll X.K):=by
 intro pins s σ H xs us Q I r h;obtain⟨p,bs,rfl,hq,q⟩:=h;obtain⟨u,rfl,k⟩:=wa r;cases k;obtain⟨l,m,pl,z⟩:=I.list hq;have e:=XF m;subst e;have f:=pl.isList;refine call_all_walk (wpAny_pyIter_list f ?_);have g:p≠s.heap.objs.size:=by
  obtain⟨o,n,_⟩:=f;exact ζt (ζl n)
 refine⟨s.heap.objs.size,_,_,_,_,_,λi=>bs.getD i false,rfl,Walks.list (A:=X.A.in1) (I.ok.hd j) _ p g (bs.map Value.bool).toArray,⟨⟨_,ζo _ rfl,rfl,rfl⟩,f.push _⟩,λi v s Q E t w=>?_,λh' tk x=>?_⟩
 ·have a:(bs.map Value.bool)[i]?=some v:=by simpa using t
  rw[ζj]at a;cases c:bs[i]? with
  | none=>rw[c]at a;cases a
  | some b =>
   rw[c]at a;cases a;have:bs.getD i false=b:=by rw[ζf,c];rfl
   have d:Q (bs.getD i false) s:=w;rw[this]at d;exact wpAny_truthy_bool d
 ·have e:(List.range (bs.map Value.bool).toArray.size).all (λi=>bs.getD i false)=bs.all λb=>b:=by
   rw[ζE,ζc];exact XD bs _ λi b y=>by rw[ζf,y];rfl
  rw[e];exact⟨.bl _,H,I.kept λb o c=>x b o (by simpa using Nat.ne_of_lt (Heap.lt_size c)) (Heap.get?_push_of_some _ c),rfl,q⟩
theorem xE(a:X.K=K)(b:X.calm=true):yo X (.builtin "all") (rAll K):=by subst a;exact za0 b
end
end L2
namespace PD
open PySem L2
section
variable {K:ζa}{S S':Sx}{κ κ':Bool}{Γ Γ' Γ'':Ctx}{P:Post}
theorem zaM{b:TE}{ns:AE}(h:EvL K S false b Γ (ns.map .int)):EvE K S κ (tCB (rSum K) (zF b tNil)) Γ (.int ns.sum):=λH0 F0 H F σ e Q q =>
 h H0 F0 H F σ e _ λa vs c d g1 f g=>by
  cases yd (zI g);exact⟨a,ns,rfl,f,q _ c d g1 (.int _)⟩
theorem vF{F:Hp}:∀{vs:List V} {bs:List Bool},zV K F vs (bs.map PyData.bool)→vs=bs.map V.bl
 | _,[],.nil=>rfl
 | _,_::_,.cons h t=>by rw[zem h,vF t];rfl
theorem Wx{c:TE}{bs:List Bool}(h:EvL K S false c Γ (bs.map .bool)):EvE K S κ (tCB (rAll K) (zF c tNil)) Γ (.bool (bs.all λb=>b)):=λH0 F0 H F σ e Q q =>
 h H0 F0 H F σ e _ λa vs d f g1 g i=>by
  cases vF (zI i);exact⟨a,bs,rfl,g,q _ d f g1 (.bl _)⟩
theorem ZW{a tb:TE}{i j:Int}(b:EvE K S false a Γ (.int i))(c:EvE K S false tb Γ (.int j)):EvE K S κ (tCB (λxs H Q=>∃i j,xs=[.int i,.int j]∧Q (.int (if j>i then j else i)) H) (zF a (zF tb tNil))) Γ (.int (max i j)):=λH0 F0 H F σ e Q q =>
 b H0 F0 H F σ e _ λv d f g1 g=>c H0 F0 d f σ (e.mono g1) _ λw h k g2 l=>by
  cases yr g;cases yr l;have e:(if j>i then j else i)=max i j:=by omega
  exact⟨i,j,rfl,q _ h k (g1.trans g2) (by rw[e];exact .int _)⟩
theorem zb9{a:TE}{b:Bool}(h:EvE K S false a Γ (.bool b)):EvE K S κ (tCB (λxs H Q=>(∃i,xs=[.int i]∧Q (.int i) H)∨∃k,xs=[.bl k]∧Q (.int (if k then 1 else 0)) H) (zF a tNil)) Γ (.int (if b then 1 else 0)):=λH0 F0 H F σ e Q q =>
 h H0 F0 H F σ e _ λv c d g1 f=>by
  cases Xf f;exact .inr ⟨b,rfl,q _ c d g1 (.int _)⟩
theorem WN{H0 F:Hp}:∀{vs:List V} {ds:AG},vs.length=ds.length→(∀(j:Nat) v d,vs[j]?=some v→ds[j]?=some d→Rp K κ S H0 F v d)→zq K κ S H0 F vs ds
 | [],[],_,_=>.nil
 | [],_::_,h,_=>by cases h
 | _::_,[],h,_=>by cases h
 | v::vs,d::ds,h,k=>.cons (k 0 v d rfl rfl) (WN (by simpa using h) λj a b c e=>k (j+1) a b (by simpa using c) (by simpa using e))
theorem Zp{a:Type}:∀{l:List a},l.Nodup→∀{i j:Nat} {x:a},l[i]?=some x→l[j]?=some x→i=j
 | [],_,i,j,x,h,_=>by simp at h
 | y::r,n,0,0,x,_,_=>rfl
 | y::r,n,0,j+1,x,h1,h2=>by
  have e:y=x:=by simpa using h1
  exact absurd (List.mem_of_getElem? (show r[j]?=some x by simpa using h2)) (e ▸ (List.nodup_cons.mp n).1)
 | y::r,n,i+1,0,x,h1,h2=>by
  have e:y=x:=by simpa using h2
  exact absurd (List.mem_of_getElem? (show r[i]?=some x by simpa using h1)) (e ▸ (List.nodup_cons.mp n).1)
 | y::r,n,i+1,j+1,x,h1,h2=>by rw[Zp (List.nodup_cons.mp n).2 (show r[i]?=some x by simpa using h1) (show r[j]?=some x by simpa using h2)]
theorem exo2{wi:TI}{i:Nat}{u:TS}{ds:AG}(hi:EvI K S κ' wi Γ ds)(hz:ds.length≤sizeLine)(es:SetC Γ i (some (.o2 none (List.replicate ds.length []))) Γ')(k:ExT K S S' u Γ' P):
  ExT K S S' (tSeq (tAsg (xG [none] wi (yt 0) tYes (tLst tNil)) (yt i)) u) Γ P:=λH0 F0 H F σ B e bb vv D I =>
 hi H0 F0 H F σ e _ λJ E Z g1 I1=>by
  intro L hL;have a0:∀{q l:Hp},Gr E Z q l→∀a,S.has H0 a→∃o,q a=some o:=λg2 a c=>let⟨o,z⟩:=(e.mono g1).sd a c;⟨o,g2.h _ _ z⟩
  refine⟨λn m ys q=>m=ds.length-n∧n≤ds.length∧∃l,Gr E Z q l∧q L=some (.lst ys)∧l L=none∧V.ref L∉ys∧ys.Nodup∧ys.length=n∧∀(j:Nat) x,ys[j]?=some x→∃c,x=.ref c∧E c=none∧q c=some (.lst [])∧l c=none,
   ⟨_,rfl,Nat.zero_le _,Z,.newO g1.le hL _,zm,g1.le.free hL,by simp,List.nodup_nil,rfl,by simp⟩,?_⟩
  rintro n m ys q ⟨rfl,hn,l,g2,hl,fl,n1,n2,n3,hy⟩;by_cases t:n<ds.length
  ·refine .inr ⟨I1.go n q l g2.f g2.le t,λzs G=>n+1≤ds.length∧∃l,Gr E Z G l∧G L=some (.lst zs)∧l L=none∧V.ref L∉zs∧zs.Nodup∧zs.length=n+1∧∀(j:Nat) x,zs[j]?=some x→∃c,x=.ref c∧E c=none∧G c=some (.lst [])∧l c=none,λzs G O=>⟨ds.length-(n+1),⋯,rfl,O⟩,λx G y=>?_⟩;obtain⟨d,F3,hd,g3,p3⟩:=I1.yld n q l x G g2.f g2.le (a0 g2) t y;have g:=g2.trans g3;have Q:=g3.h _ _ hl;have R:=g3.ap _ _ hl fl;refine⟨Sub.set rfl,?_⟩
   unfold tYes;dsimp only;refine iteT ⟨ξa _,λp hp=>?_⟩;have A:p≠L:=by rintro rfl;rw[Q]at hp;cases hp
   have T:F3 p=none:=g3.le.free hp;have U:E p=none:=g.h.free hp;have np:V.ref p∉ys:=λs=>by
    obtain⟨j,W⟩:=ζI.mp s;obtain⟨c,ec,_,M,_⟩:=hy j _ W;cases ec;have:=g3.h _ _ M;rw[hp]at this;cases this
   refine⟨by rw[zk A.symm];exact Q,⋯,t,F3,⟨λb u z=>?_,g.f,λb u z=>?_,g.ap⟩,zm,R,?_,?_,by rw[ζr,n3];rfl,λj x r=>?_⟩
   ·rw[zk (zt z hL),zk (zt z U)];exact g.h _ _ z
   ·rw[zk (by rintro rfl;rw[R]at z;cases z),zk (by rintro rfl;rw[T]at z;cases z)];exact g3.le _ _ z
   ·intro s;rcases ζu.mp s with s|s
    ·exact n1 s
    ·have:V.ref L=.ref p:=by simpa using s
     cases this;exact A rfl
   ·refine List.nodup_append.mpr ⟨n2,by simp,λa N b hb=>?_⟩;have:b=.ref p:=by simpa using hb
    rintro rfl;exact np (this ▸ N)
   ·by_cases W:j<ys.length
    ·rw[ξy W]at r;obtain⟨c,rfl,X,M,O⟩:=hy j x r;have a1:c≠L:=by rintro rfl;exact n1 (ζk r)
     have a2:c≠p:=by rintro rfl;exact np (ζk r)
     exact⟨c,rfl,X,by rw[zk a1,zk a2];exact g3.h _ _ M,g3.ap _ _ M O⟩
    ·rw[ξp ⋯]at r;have:j-ys.length=0:=by
      have:=(ζg.mp r).1;simp at this;omega
     rw[this]at r;cases(show some (V.ref p)=some x from r);exact⟨p,rfl,U,by rw[zk A,zm],T⟩
  ·have en:n=ds.length:=by omega
   subst en;have g:=g1.trans g2;have e2:=e.mono g;have C:H L=none:=g1.h.free hL;refine .inl ⟨I1.stop q l g2.f g2.le,?_⟩;obtain rfl:=es.eq;have hv:HasV K S H0 q l (.ref L) (.o2 none (List.replicate ds.length [])):=⟨L,ys,⟨rfl,λ_ z=>nomatch z⟩,⟨hl,fl,e.gr.h.free C,e.out C⟩,n1,n2,by rw[ζN];exact n3,λj x r=>by
    obtain⟨c,rfl,X,M,O⟩:=hy j x r;have Y:H c=none:=g1.h.free X;have W:=(ζg.mp r).1;exact⟨c,[],[],rfl,⟨M,O,e.gr.h.free Y,e.out Y⟩,by rw[ξj,if_pos ⋯],.nil⟩⟩
   refine k H0 F0 q l _ B (e2.set hv λa oa j y w W z hw o=>?_) (bb.trans g.f) vv D I;obtain⟨v,q1,q2⟩:=e.has j y z;rw[hw]at q1;cases q1;obtain⟨us,w1⟩:=q2.owns (o.back q2 λ_ _ z=>g.h _ _ z.h);have N:=w1.h;rcases oa with oa|⟨p,vs,ep,hp,s⟩
   ·cases oa;rw[C]at N;cases N
   ·cases ep;rw[hl]at hp;cases hp;obtain⟨j',a3⟩:=ζI.mp s;obtain⟨c,ec,X,_⟩:=hy j' _ a3;cases ec;rw[g1.h.free X]at N;cases N
theorem zaJ{r:Option Addr}{ti:TE}{i j:Nat}{m:Int}{dss:List AG}{ds:AG}(h:GetC Γ i (.o2 r dss))(hi:EvE K S false ti Γ (.int m))(k:ixN dss.length m=some j)(hd:dss[j]?=some ds):EvL K S true (tOp (rIxL K) (tVar i) ti) Γ ds:=λH0 F0 H F σ e Q q=>by
 obtain⟨y,l,a,vs,⟨rfl,n⟩,w,z,A,o,p⟩:=e.has i _ h.eq;refine⟨_,l,hi H0 F0 H F σ e _ λB s t g1 u=>?_⟩
 cases yr u;have C:=(ζg.mp hd).1;have g:vs[j]?=some (vs[j]'⋯):=ζe ⋯;obtain⟨b,us,v,ex,ow,c,x⟩:=p j _ g;rw[hd]at c;cases c;have d:atI vs m=some (.ref b):=by
  unfold atI;rw[o,k];show vs[j]?=_;rw[g,ex]
 exact⟨a,vs,m,_,rfl,rfl,SqL.of (g1.h _ _ w.h),d,q b us s t g1 (SqL.of (g1.h _ _ ow.h)) (zu g1.f x)⟩
theorem zax{r:Option Addr}{ti te:TE}{i j:Nat}{m:Int}{dss:List AG}{ds:AG}{d:AD}(h:GetC Γ i (.o2 r dss))(hi:EvE K S false ti Γ (.int m))(V:ixN dss.length m=some j)(hd:dss[j]?=some ds)(W:EvE K S true te Γ d)(X:ds.length<sizeLine)
  (Y:SetC Γ i (some (.o2 r (dss.set j (ds++[d])))) Γ') (k:P.nx Γ'):ExS K S (wg (tBM K "list" vt (tOp (rIxL K) (tVar i) ti) (zF te tNil))) Γ P:=λH0 F0 H F σ B e Z _ D I=>by
 obtain⟨v0,M,a,vs,⟨rfl,E⟩,w,N,O,Q,R⟩:=e.has i _ h.eq;refine⟨_,M,hi H0 F0 H F σ e _ λw' H1 F1 g1 p1=>?_⟩
 cases yr p1;have hj:=(ζg.mp hd).1;have q:vs[j]?=some (vs[j]'⋯):=ζe ⋯;obtain⟨b,us,u,ex,ow,z,T⟩:=R j _ q;rw[hd]at z;cases z;rw[ex]at q;have G:atI vs m=some (.ref b):=by
  unfold atI;rw[Q,V];exact q
 refine⟨a,vs,m,_,rfl,rfl,SqL.of (g1.h _ _ w.h),G,.inl ⟨rfl,_,SqL.of (g1.h _ _ ow.h)⟩,W H0 F0 H1 F1 σ (e.mono g1) _ λv H2 F2 g2 p2=>?_⟩
 have g:=g1.trans g2;have l:=ow.mono g;have C:=w.mono g;have A:b≠a:=by rintro rfl;exact N (ζk q)
 refine⟨b,us,v,rfl,rfl,l.h,by rw[zq.length T];exact X,?_⟩
 obtain rfl:=Y.eq;refine I.nx _ _ _ F2 k (Z.trans g.f) ((e.mono g).put (y:=.o2 r (dss.set j (ds++[d]))) h.eq M (show Owns H2 (.ref a) (.o2 r dss) b from .inr ⟨a,vs,rfl,C.h,ζk q⟩) ?_ ?_)
 ·refine⟨a,vs,⟨rfl,E⟩,C.other A.symm,N,O,by rw[ζA];exact Q,λU x o=>?_⟩
  by_cases t:U=j
  ·subst t;rw[q]at o;cases o;exact⟨b,us++[v],ds++[d],rfl,⟨zm,l.f,l.n,l.s⟩,by rw[ζh hj],zq.append (zu g.f T) (.cons p2 .nil)⟩
  ·obtain⟨c,ws,u,rfl,oc,hc,kc⟩:=R U x o;have J:c≠b:=by
    rintro rfl;exact t (Zp O o q)
   exact⟨c,ws,u,rfl,(oc.mono g).other J,by rw[ζm (Ne.symm t)];exact hc,zu g.f kc⟩
 ·rintro c (oc|⟨p,xs,ep,hp,L⟩)
  ·exact .inl oc
  ·cases ep;rw[zk A.symm,C.h]at hp;cases hp;exact .inr ⟨a,vs,rfl,C.h,L⟩
theorem HasV.frzG{H0 H F F':Hp}{v:V}{x:DV}(h:HasV K S H0 H F v x)(s:Same F F')(n:∀c,Owns H v x c→F' c=none):HasV K S H0 H F' v x:=by
 cases x with
 | fz κ d=>exact yg s h
 | tn d=>obtain⟨T,t,k⟩:=h;exact⟨T,t,yg s k⟩
 | ow κ ds=>obtain⟨b,us,g,f,i⟩:=h;exact⟨b,us,g,⟨f.h,n b g,f.n,f.s⟩,zu s i⟩
 | ox=>obtain⟨b,us,g,f⟩:=h;exact⟨b,us,g,⟨f.h,n b g,f.n,f.s⟩⟩
 | o2 r dss =>
  obtain⟨b,us,g,f,A,B,l,k⟩:=h;refine⟨b,us,g,⟨f.h,n b (.inl g.eq),f.n,f.s⟩,A,B,l,λj y m=>?_⟩
  obtain⟨c,ws,ds,q,o2,C,D⟩:=k j y m;exact⟨c,ws,ds,q,⟨o2.h,n c (.inr ⟨b,us,g.eq,f.h,by rw[←q];exact ζk m⟩),o2.n,o2.s⟩,C,zu s D⟩
 | fn a=>exact h
 | xn φ=>obtain⟨b,e,k⟩:=h;exact⟨b,e,s _ _ k⟩
 | oa b κ ds=>obtain⟨g,us,f,i⟩:=h;exact⟨g,us,⟨f.h,n b g,f.n,f.s⟩,zu s i⟩
 | xp φ=>obtain⟨E,s1,k⟩:=h;exact⟨E,s1.trans s,k⟩
 | od u=>obtain⟨b,g,f⟩:=h;exact⟨b,g,⟨f.h,n b g,f.n,f.s⟩⟩
 | og ad ψ =>
  obtain⟨ok,w,p⟩:=h;refine⟨ok,λb z=>?_,ok.ps S H0 H H F F' v (λ_ _=>rfl) s p⟩
  obtain⟨o,y⟩:=w b z;exact⟨o,⟨y.h,n b z,y.n,y.s⟩⟩
open Classical in
noncomputable def frzF(F H:Hp)(a:Addr)(vs:List V):Hp:=λc=>if c=a∨V.ref c∈vs then H c else F c
theorem DEnv.frz2{r:Option Addr}{i:Nat}{dss:List AG}{H0 F0 H F:Hp}{σ:St}(e:DEnv K S H0 F0 H F σ Γ)(h:GetC Γ i (.o2 r dss))(M:SetC Γ i (some (.fz true (.list (dss.map .list)))) Γ'):
  ∃(t:Hp) (A:Addr→Prop),DEnv K S H0 F0 H t σ Γ'∧Same F t∧(∀c,A c→F c=none∧∃vs,t c=some (.lst vs))∧∀c,¬A c→t c=F c:=by
 have h':=h.eq;obtain⟨v0,y,a,vs,⟨rfl,N⟩,w,n1,n2,O,B⟩:=e.has i _ h';have p:∀{c:Addr},(c=a∨V.ref c∈vs)→∃us,vM S H0 H F c us:=λ{c} g=>by
  rcases g with rfl|g
  ·exact⟨_,w⟩
  ·obtain⟨j,m⟩:=ζI.mp g;obtain⟨b,us,ds,P,ow,_⟩:=B j _ m;cases P;exact⟨us,ow⟩
 have l:∀{c:Addr},(c=a∨V.ref c∈vs)→frzF F H a vs c=H c:=λg=>if_pos g;have k:∀{c:Addr},¬(c=a∨V.ref c∈vs)→frzF F H a vs c=F c:=λg=>if_neg g;have s:Same F (frzF F H a vs):=λc o g=>by
  rw[k λz=>by obtain⟨us,ow⟩:=p z;rw[ow.f]at g;cases g];exact g
 have le:Same (frzF F H a vs) H:=λc o g=>by
  by_cases z:c=a∨V.ref c∈vs
  ·rw[l z]at g;exact g
  ·rw[k z]at g;exact e.le _ _ g
 have x:=(ζg.mp h').1;have own:∀{c:Addr},(c=a∨V.ref c∈vs)→Owns H (.ref a) (.o2 r dss) c:=λ{c} g=>by
  rcases g with rfl|g
  ·exact .inl rfl
  ·exact .inr ⟨a,vs,rfl,w.h,g⟩
 obtain rfl:=M.eq;have Q:HasV K S H0 H (frzF F H a vs) (.ref a) (.fz true (.list (dss.map .list))):=by
  refine .lst ⟨by rw[l (.inl rfl)];exact w.h,w.s⟩ (WN (by rw[ζc];exact O) λj v d C D=>?_);obtain⟨b,us,ds,rfl,ow,hd,R⟩:=B j v C;rw[ζj,hd]at D;cases D;exact .lst ⟨by rw[l (.inr (ζk C))];exact ow.h,ow.s⟩ (zu s R)
 have T:DEnv K S H0 F0 H (frzF F H a vs) σ (Γ.set i (some (.fz true (.list (dss.map .list))))):=by
  refine⟨⟨e.gr.h,e.gr.f.trans s,le,λc o g U=>?_⟩,e.l0,e.sd,e.s0,by simp[e.len],λj f z=>?_,λj E W X Y Z b g1 g2 g3 g4 G o2=>?_⟩
  ·rw[k λz=>by obtain⟨us,ow⟩:=p z;rw[ow.n]at g;cases g];exact e.gr.ap c o g U
  ·by_cases m:j=i
   ·subst m;rw[ζh x]at z;cases z;exact⟨_,y,Q⟩
   ·rw[ζm (Ne.symm m)]at z;obtain⟨u,I,J⟩:=e.has j f z;refine⟨u,I,J.frzG s λc oc=>?_⟩
    by_cases L:c=a∨V.ref c∈vs
    ·exact absurd (e.ne j i f _ u _ c z h' I y oc (own L)) m
    ·rw[k L];obtain⟨us,wo⟩:=J.owns oc;exact wo.f
  ·by_cases m:j=i
   ·subst m;rw[ζh x]at g1;cases g1;exact G.elim
   ·by_cases q:E=i
    ·subst q;rw[ζh x]at g2;cases g2;exact o2.elim
    ·rw[ζm (Ne.symm m)]at g1;rw[ζm (Ne.symm q)]at g2;exact e.ne j E W X Y Z b g1 g2 g3 g4 G o2
 refine⟨_,λc=>c=a∨V.ref c∈vs,T,s,λc g=>?_,λc g=>k g⟩
 obtain⟨us,ow⟩:=p g;exact⟨ow.f,us,by rw[l g];exact ow.h⟩
theorem zcQ{r:Option Addr}{t:TS}(i:Nat){dss:List AG}(h:GetC Γ i (.o2 r dss))(a:SetC Γ i (some (.fz true (.list (dss.map .list)))) Γ')(k:ExT K S S' t Γ' P):ExT K S S' t Γ P:=λH0 F0 H F σ B e b c D I=>by
 obtain⟨f,A,d,s,_⟩:=e.frz2 h a;exact k H0 F0 H _ σ B d (b.trans s) c D I
theorem Vb{H0 F:Hp}{T:Addr→Prop}{vs:List V}{ds:AG}(h:∀d∈ds,imm d=true)(k:zV K F vs ds):zq K κ S H0 (drop T F) vs ds:=
 vG h (zI (ww (κ:=true) (κ':=true) (S:=.spoil T) (S':=.fresh) (H0:=λ_=>none) (H0':=λ_=>none) (F:=F) (F':=drop T F) (λa xs z=>⟨yb.mpr ⟨z.1,λc=>z.2 (.inr c.1)⟩,λc=>z.2 (.inl c)⟩) (λ_ _ z=>U6 z) (vG h k)))
theorem thaw{H0 F0 H F:Hp}{σ:St}{i:Nat}{ds:AG}{b:Ctx}(e:DEnv K S H0 F0 H F σ Γ)(h:GetC Γ i (.ow κ ds))(l:SetC Γ i (some (.fz κ (.list ds))) b):
  ∃a d,DEnv K S H0 F0 H d σ b∧∀H' F',Gr H d H' F'→Gr H F H' (drop (λc=>c=a) F'):=by
 obtain⟨v,m,a,vs,rfl,w,p⟩:=e.has i _ h.eq;obtain⟨s,j⟩:=e.froz (y:=.fz κ (.list ds)) h.eq m rfl w (.lst (LN.new w.s) (zu (Same.new w.f _) p)) λ_ z=>z.elim;rw[l.eq]at j;refine⟨a,_,j,λH' F' g=>⟨g.h,λc o z=>yb.mpr ⟨g.f _ _ (s _ _ z),?_⟩,λc o z=>g.le _ _ (yb.mp z).1,λc o z n=>?_⟩⟩
 ·rintro⟨rfl,_⟩;rw[w.f]at z;cases z
 ·by_cases k:c=a
  ·subst k;exact Zy (g.f _ _ zm) rfl
  ·cases q:drop (λc=>c=a) F' c with
   | none=>rfl
   | some o' =>
    have:=(yb.mp q).1;rw[g.ap _ _ z (by rw[zk k];exact n)]at this;cases this
theorem yR{e:Type}{js:List (Option Nat)}{b:Ctx}{j:TI}{g:TG}{te:TE}{is:AF}{xs:List e}(κ':Bool)(u f:e→AD)(l:∀x∈xs,∀y∈xs,u x=u y→f x=f y)(hi:EvI K S κ' j Γ (xs.map u))(m:xF js Γ b)(c:(is.all λi=>js[i]?==some none)=true)
  (n:(js.filterMap id).Nodup) (o:xs.length≤sizeLine) (p:∀x∈xs,ExG K S κ' g is (u x) b λΓ'=>EvE K S κ te Γ' (f x)):EvO K S κ (xG js j g tYes te) Γ (xs.map f):=by
 classical
 let F:AD→AD:=λd=>if h:∃x,x∈xs∧u x=d then f h.choose else .none
 have k:∀x∈xs,F (u x)=f x:=λx a=>by
  have h:∃y,y∈xs∧u y=u x:=⟨x,a,rfl⟩
  show(if h:∃y,y∈xs∧u y=u x then f h.choose else .none)=_;rw[dif_pos h];exact l _ h.choose_spec.1 _ a h.choose_spec.2
 refine EvO.eq (UQ (κ:=κ) κ' F hi m c n (by rw[ζc];exact o) λd hd=>?_) ?_
 ·obtain⟨x,a,rfl⟩:=ζn.mp hd;rw[k x a];exact p x a
 ·rw[ζP];exact ξo λx a=>k x a
theorem zdt:sizeLine<2^62:=by decide
theorem ut{js:List (Option Nat)}{a:Ctx}{c:TA}{g:TG}{te:TE}{is:AF}{n:Nat}(f:Nat→AD)(hi:EvA K S false c Γ [.int n])(d:n≤sizeLine)(e:xF js Γ a)(b:(is.all λi=>js[i]?==some none)=true)
  (j:(js.filterMap id).Nodup) (l:∀k:Nat,k<n→ExG K S true g is (.int k) a λΓ'=>EvE K S κ te Γ' (f k)):EvO K S κ (xG js (zak c) g tYes te) Γ ((List.range n).map f):=
 yR true (λk:Nat=>.int (k:Int)) f (λx _ y _ h=>by cases Int.ofNat.inj (PyData.int.inj h);rfl) (xP (n:=(n:Int)) hi ⋯ (by have:=zdt;omega)) e b j (by rw[ζG];exact d) λk m=>l k (ζ1.mp m)
theorem VH{a:Type}{f:Nat→a}{n:Nat}:((List.range n).map f).length=n:=by rw[ζc,ζG]
theorem VI{a:Type}{f:Nat→a}{n k:Nat}(h:k<n):((List.range n).map f)[k]?=some (f k):=by
 rw[ζj,ξw h];rfl
theorem zc6{a:Type}{f:Nat→a}{n k:Nat}{x:a}(h:((List.range n).map f)[k]?=some x):k<n∧x=f k:=by
 have b:k<n:=by
  have:=(ζg.mp h).1
  rwa [VH]at this
 rw[VI b]at h;cases h;exact⟨b,rfl⟩
end
end PD
namespace L2
open PySem PySem.Spec PyProof.Rows
section
variable {P:Program}{w:World}{H H':Hp}{h h':Heap}
theorem HOk.keptT(x:HOk P w H h)(k:∀b o u,H b=some o→h.get? b=some u→h'.get? b=some u):HOk P w H h':=λa o e =>
 (x a o e).stay (λb u c q=>c.elim (λz=>k b o u (z ▸ e) q) λz=>k b _ u z q) (λ_ q=>q) λ_ _ q=>q
end
theorem yN.get{P:Program}{w:World}{H:Hp}{h:Heap}{a:Addr}{o:HO}(x:yN P w H h a o):∃ob,h.get? a=some ob:=by
 cases o with
 | lst xs=>obtain⟨_,_,_,_,e⟩:=x;exact⟨_,e⟩
 | tup xs=>obtain⟨_,_,_,_,e,_⟩:=x;exact⟨_,e⟩
 | dK kvs=>obtain⟨_,_,_,_,o,_,_,e,_⟩:=x;exact⟨_,e⟩
 | dT kvs=>obtain⟨_,_,_,_,o,_,_,e,_⟩:=x;exact⟨_,e⟩
 | set S n=>obtain⟨o,_,_,_,e,_⟩:=x;exact⟨_,e⟩
 | ins C dx fs=>obtain⟨_,_,_,e,_⟩:=x;exact⟨_,e⟩
 | own y=>exact x
 | xd fs=>obtain⟨_,⟨_,_,_,e,_⟩,_⟩:=x;exact⟨_,e⟩
 | rng lo hi=>obtain⟨_,_,_,e⟩:=x;exact⟨_,e⟩
 | frz ob u=>exact⟨_,x.1⟩
 | tbl ps=>obtain⟨_,e,_⟩:=x;exact⟨_,e⟩
 | met f y=>exact⟨_,x⟩
 | ext φ=>exact x.2.1
structure XE(P:Program)(w:World)(outer:List Env)(H:Hp)(s:Shared)(C a:Addr)(H':Hp)(B:Heap)(t:Value)(s':Shared):Prop where
 os:s'.os=s.os
 bare:AllBare s'.gens
 fl:Heap.FlyingW B outer a (.ref C) t s'.heap
 old:∀b o,s.heap.get? b=some o→H b=none→b∉frs outer→B.get? b=some o
 slot:∀b o,s.heap.get? b=some o→H b=none→b∈frs outer→∃sl,s'.heap.get? b=some {o with slots:=sl}
 free:∀b o,s.heap.get? b=some o→H b=none→H' b=none
 there:∀b o,s.heap.get? b=some o→b∉frs outer→∃o',B.get? b=some o'
 tups:∀b xs,H b=some (.tup xs)→H' b=some (.tup xs)
 frzs:∀b o u,H b=some (.frz o u)→H' b=some (.frz o u)
 tbls:∀b ps,H b=some (.tbl ps)→∃more,H' b=some (.tbl (ps++more))
 trk:∀b o,H' b=some o→∃ob,B.get? b=some ob
 hok:HOk P w H' s'.heap
section
variable {P:Program}{w:World}{outer:List Env}{H H':Hp}{s s':Shared}{C a:Addr}{B:Heap}{t:Value}
theorem XE.next{g:Heap}{s5:Shared}(F:XE P w outer H s C a H' B t s')(i:s5.heap=g)(os:s5.os=s'.os)(j:s5.gens=s'.gens)(x:Heap.FlyingW B outer a (.ref C) t g)(u:s'.heap.UpToSlots g):XE P w outer H s C a H' B t s5:=by
 subst i;refine⟨os.trans F.os,by rw[j];exact F.bare,x,F.old,λb o e n f=>?_,F.free,F.there,F.tups,F.frzs,F.tbls,F.trk,F.hok.keptT λb o v f e=>?_⟩
 ·obtain⟨sl,c⟩:=F.slot b o e n f;obtain⟨_,o',d,k⟩:=F.fl.2.2.1.mem f;rw[c]at d;cases d;obtain⟨h,l⟩:=u b _ c k;exact⟨h,l⟩
 ·obtain⟨ob,c⟩:=F.trk b o f;have d:=F.fl.1 b ob c;rw[e]at d;cases d;exact x.1 b v c
theorem XE.un(F:XE P w outer H s C a H' B t s'):Un (frs outer) [] H H' s.heap s'.heap where
 keep:=λb o e n c _=>F.fl.1 b o (F.old b o e n c)
 slot:=λb o e n c _=>F.slot b o e n c
 free:=λb o e n _=>F.free b o e n
 there:=λb o e _=>by
  by_cases c:b∈frs outer
  ·obtain⟨_,o',d,_⟩:=F.fl.2.2.1.mem c;exact⟨o',d⟩
  ·obtain⟨o',f⟩:=F.there b o e c;exact⟨o',F.fl.1 b o' f⟩
 tups:=F.tups
 frzs:=F.frzs
 tbls:=F.tbls
end
def CXr(P:Program)(w:World):CXT:=λouter H s E e s'=>∃a C H' B t,e=.ref a∧XE P w outer H s C a H' B t s'∧E (.ref C) none H'
def za5(X:Cx)(E:XK):Prop:=∀(C:Addr) (pins:AL) (σ:St) (H:Hp) (s:Shared) (a:Addr) (h':Heap) (args:AK),Inv X pins σ H s→Heap.MadeExcOf s.heap h' a (.ref C) args→E (.ref C) none H→X.xe (.ref a) {s with heap:=h'}
theorem Zl{P:Program}{w:World}{K:ζa}{mg:AN}{base:Heap}{N:AJ}{qual:Str}{scope:Scope}{f:Addr}{cd:Value}{A:Around}{outer:List Env}{s:Shared}{H:Hp}{E:XK}:
  za5 (cxOf (CXr P w) P w K mg base N qual scope f cd A outer s H E) E:=by
 intro C pins σ B s1 a O args I v D;let env:=envOfC qual scope s.heap.objs.size f cd;have i:(cxOf (CXr P w) P w K mg base N qual scope f cd A outer s H E).stack=env::outer:=rfl;have l:=I.stack;rw[i]at l;have free:=I.stkFree;rw[i]at free;have m:∀e∈env::outer,∀b,e.frame=some b→b∈frs (env::outer):=λe F b g=>ζ4.mpr ⟨e,F,g⟩;have c:∀b o,s1.heap.get? b=some o→b∉frs (env::outer)→(PySem.W.hideAll s1.heap (frs (env::outer))).get? b=some o:=λb o e n=>PySem.W.hideAll_get _ e n;have G:=PySem.W.funFrames_hide (as:=frs (env::outer)) l m;have d:frs (env::outer)=s.heap.objs.size::frs outer:=rfl;have j:∀b o,s.heap.get? b=some o→b≠s.heap.objs.size:=λb o e=>ζt (ζl e);refine wpAny_leaves_madeW (base:=PySem.W.hideAll s1.heap (frs (env::outer))) (h:=s1.heap) I.ok.frames rfl (λb o q=>PySem.W.of_hideAll _ q) G v λQ t x R S J=>⟨a,C,B,_,.ref t,rfl,⟨I.os,I.bare,x,λb o e n g=>?_,λb o e n g=>?_,λb o e n=>I.base.free b o e n (by intro z;cases z),λb o e g=>?_,I.base.tups,I.base.frzs,I.base.tbls,λb o e=>?_,?_⟩,D⟩
 ·refine c b o (I.base.keep b o e n g (by intro z;cases z)) ?_;rw[d];intro z;rcases ζq.mp z with z|z
  ·exact j b o e z
  ·exact g z
 ·obtain⟨sl,k⟩:=I.base.slot b o e n g (by intro z;cases z);have p:b∈frs (env::outer):=by rw[d];exact ζb _ g
  obtain⟨_,o',y,L⟩:=l.mem p;rw[k]at y;cases y;obtain⟨r,M⟩:=J b _ (v.keeps _ _ k) L;exact⟨r,M⟩
 ·obtain⟨o',k⟩:=I.base.there b o e (by intro z;cases z);refine⟨o',c b o' k ?_⟩
  rw[d];intro z;rcases ζq.mp z with z|z
  ·exact j b o e z
  ·exact g z
 ·obtain⟨ob,q⟩:=(I.hok b o e).get;refine⟨ob,c b ob q λz=>?_⟩
  have:=free b z;rw[e]at this;cases this
 ·refine I.hok.keptT λb o u e q=>?_;have z:=c b u q λz=>by
   have:=free b z;rw[e]at this;cases this
  exact x.1 b u z
abbrev bmV:AK:=[.type "ValueError", .type "Exception", .type "BaseException", .type "object"]
structure ECl(K:ζa)(mg:AN)(x:Str)(C:Addr):Prop where
 b:mg x=some (.ref C)
 q:PySem.W.excIn K C bmV "ValueError.__new__" = true
theorem ECl.own{K:ζa}{mg:AN}{x:Str}{C:Addr}{h:Heap}(e:ECl K mg x C)(X:K.In h):OwnCls x C bmV "ValueError.__new__" mg h:=by
 obtain⟨b,q⟩:=e;refine⟨b,?_⟩
 unfold PySem.W.excIn at q;split at q
 case h_2=>cases q
 case h_1 dd cd sl hlk =>
  split at q
  case h_2=>cases q
  case h_1 C' bm k0 k1 k2 k3 n k5 hm hs =>
   simp only[Bool.not_eq_true',beq_iff_eq,Bool.and_eq_true]at q;obtain⟨⟨⟨⟨⟨z1,z2⟩,z3⟩,z4⟩,z5⟩,z6⟩:=q;subst z1;subst z2;cases cd;dsimp only at hm z3 z5 z6;subst hm;subst z3;have esl:sl=#[k0,k1,k2,k3,some (.builtin "ValueError.__new__"),k5]:=Array.ext' hs;subst esl;exact⟨_,_,_,_,_,_,_,_,_,_,_,_,_,_,_,_,_,X _ _ hlk,.of_isNs (PySem.W.isNs_of_in X z5),PySem.W.nsMap_none_of_in X z5 z6,PySem.W.tail_of_in X z4⟩
section
variable {X:Cx}{E:XK}{x:Str}{C:Addr}{e0:Expr}{es:List Expr}{ta:TA}{np cpos pos:Pos}
def Qi(C:Addr)(E:XK)(ta:TA):TS:=λ_ σ H=>ta σ H λvs H1=>vs.length≤sizeLine∧E (.ref C) none H1
theorem Ye(j:za5 X E)(O:ECl X.K X.mg x C)(k:X.calm=true)(l:Gl X x)(m:PA X (e0::es) ta)(b:(x==("__debug__" : Str))=false:=by decide)
  (f:starEach (e0::es) X.env=(false,eval e0 X.env)::starEach es X.env:=by rfl) (c:(backTo cpos (starEach es X.env)).any (·.1)=false:=by rfl) :
  PS X (.Raise (some (.Call (.Name x np) (e0::es) [] cpos)) none pos) (Qi C E ta):=by
 intro pins s σ H D I h;have g:=O.own I.ok.mod.kin;obtain⟨tl,N,nm,n,bs,o,p,t,u,v,w,k0,k1,k2,k3,k5,mN,y,z,d,T⟩:=g.obj
 refine wpAny_Raise_call_subT (mN:=mN) (C:=C) (N:=N) (nm:=nm) (q:=n) (bs:=bs) (bm:=tl) (hdct:=o) (sn:=p) (sub:=t) (ab:=u) (col:=v) (dd:=w) (k0:=k0) (k1:=k1) (k2:=k2) (k3:=k3) (k5:=k5)
  ξQ (T.hasType PySem.F.excBase_ValueError.hasBase) (I.ok.hd k) ?_ d (wm I l g.bound ⟨rfl,?_⟩ b)
 ·rw[f];exact c
 ·have i:=m cpos pins s σ H _ I h;rw[f]at i ⊢;refine Calls.evalArgs_plain (thn i λus s2 ⟨vs,A,a,r,B,G⟩=>?_);exact⟨rfl,by rw[←r.length];exact B,a.bk _ _ y,z.keeps a.bk,T.keeps a.bk,λh' e J=>j C pins σ A s2 e h' us a J G⟩
end
end L2
namespace L2
open PySem PySem.Spec PyProof.Rows PySem.W PySem.Builtin PySem.Builtin.ObjectAttr PySem.Builtin.Getset_descriptor
section
variable {prog:Program}{w:World}{A:Around}{E:AM}{s:Shared}{K:Frag}{a C:Addr}{o:Obj}
theorem Zr{M:Model}{h:Heap}(b:h.get? a=some o)(c:o.cls=.ref C):Looks M h (typeOf (.ref a)) (.ref C):=c ▸ (Looks.ld b).andThen .now
theorem YJ{M:Model}{b:Value}{Q:Unit→Shared→Prop}(d:Looks M s.heap (isInstance (.ref a) (.type "BaseException")) true)(q:Q () s):wpAny M A (checkBuiltinCall "BaseException.__getattribute__" ⟨[.ref a,b],[]⟩) Q E s:=by
 have e:splitId "BaseException.__getattribute__" = some ("BaseException","__getattribute__"):=by decide +kernel
 have f:builtinKind "BaseException.__getattribute__" = some .slot:=by decide +kernel
 have c:=PySem.F.args_bexc_ga (.ref a) b;simp only[checkBuiltinCall,f,e];refine AA (d.at ?_);rw[if_neg #[2]];unfold argsOk at c;exact wpAny_of_eq c q
theorem V5{b:Value}{R:Result→Shared→Prop}(c:Looks (model prog w) s.heap (typeOf (.ref a)) (.ref C))(e:Looks (model prog w) s.heap (isSubtype (.ref C) (.type "object")) true)(q:R (.ok (.ret (.ref C))) s):
  codeAny (model prog w) A (.call (.builtin "getset_descriptor.__get__") ⟨[.builtin "object.__class__", .ref a,b],[]⟩) R s:=by
 obtain⟨f,g,d,t,os⟩:=s;refine codeAny_call_builtin KF.slot_gs.plain KF.entry_gs ?_;refine KF.slot_gs.check _ _ _ _ _ _ _ _ KF.type_class (KF.args_gs _ _ _) ?_;unfold Builtin.«getset_descriptor.__get__»;unfold descrGet;rw[dga_obj];refine AA (AB ?_);unfold descrGetter descrCheckInstance;unfold descrNameAndClass isInstance;simp only[KF.owner_class]
 repeat lk
 refine⟨Code.quiet_builtin _ (by decide +kernel),?_⟩
 refine codeAny_builtin KF.entry_class ?_;unfold Builtin.«object.__class__»;unfold shownTypeOf
 repeat lk
 exact q
theorem TC{Q:Option Value→Shared→Prop}(X:K.In s.heap)(e:s.heap.get? a=some o)(f:o.cls=.ref C)
  (g1:findIn K (.ref C) "__getattribute__" = some (some (.builtin "BaseException.__getattribute__"))) (g2:findIn K (.ref C) "__getattr__" = some none) (g3:findIn K (.ref C) "__class__" = some (some (.builtin "object.__class__")))
  (g4:specialIn K (.builtin "object.__class__") "__get__" = some (some (.builtin "getset_descriptor.__get__"))) (g5:takesIn K (.builtin "object.__class__")=some true) (g6:mroIn K C (.type "object")=some true) (g7:subIn K (.ref C) (.type "BaseException")=some true)
  (h:Q (some (.ref C)) {s with toks:=s.toks+1}):wpAny (model prog w) A (getAttr? (.ref a) "__class__") Q E s:=by
 obtain⟨c,g,d,t,os⟩:=s;have b:Looks (model prog w) c (typeOf (.ref a)) (.ref C):=Zr e f;have i:=looks_findIn (M:=model prog w) X g1;have j:=looks_findIn (M:=model prog w) X g2;have l:=looks_findIn (M:=model prog w) X g3;have m:=looks_specialIn (M:=model prog w) X g4;have n:=looks_takesIn (M:=model prog w) X g5;have k:Looks (model prog w) c (isInstance (.ref a) (.type "BaseException")) true:=b.andThen (looks_subIn X g7);unfold getAttr? getAttrBy? getAttrBy;refine AA (wpAny_mkText (AA (wpAny_attempt (wpAny_holding (AA (b.at (AA (i.at ?_))))))));dsimp only;rw[if_neg (by
  have:(Value.builtin "BaseException.__getattribute__" == Value.builtin "object.__getattribute__")=false:=by decide +kernel
  rw[this,ζR];decide)]
 unfold getAttrByItsOwn hookBefore;rw[if_pos (show onTheHeap (Value.ref C)=true from rfl)];refine AA (j.at ?_);refine AA (wpAny_attempt (wpAny_holding ?_));unfold callGetattribute boundAndCalled;rw[ξz,if_neg #[2]];refine AA (wpAny_of_eq (PySem.F.attr_ValueError.ga.bind (.ref a)) ?_);refine wpAny_call (codeAny_call_builtin PySem.F.attr_ValueError.ga.plain PySem.F.entry_bexc_ga (YJ k ?_));unfold Builtin.«object.__getattribute__»
 repeat lk
 show wpAny _ _ (run (Code.call (.builtin "getset_descriptor.__get__") ⟨[.builtin "object.__class__", .ref a,.ref C],[]⟩) none) _ _ _;refine wpAny_run (V5 b (looks_mroIn X g6) ?_);refine AB ?_;refine AB ?_;exact handed_on rfl (AB h)
end
end L2
namespace L2
open PySem PySem.Spec PyProof.Rows PySem.W
structure EIs(K:Frag)(C:Addr):Prop where
 g1:findIn K (.ref C) "__getattribute__" = some (some (.builtin "BaseException.__getattribute__"))
 g2:findIn K (.ref C) "__getattr__" = some none
 g3:findIn K (.ref C) "__class__" = some (some (.builtin "object.__class__"))
 g4:specialIn K (.builtin "object.__class__") "__get__" = some (some (.builtin "getset_descriptor.__get__"))
 g5:takesIn K (.builtin "object.__class__")=some true
 g6:mroIn K C (.type "object")=some true
 g7:subIn K (.ref C) (.type "BaseException")=some true
theorem tq{K:Frag}{C:Addr}{b:Value}{r:Bool}(h:mroIn K C b=some r):∃c d cd sl,K.lookup C=some ⟨c,d,.cls cd,sl⟩:=by
 unfold mroIn at h;obtain⟨cd,a,_⟩:=ξ1.mp h;unfold clsIn at a;split at a
 ·rename_i c d e sl q;exact⟨c,d,e,sl,q⟩
 ·cases a
def Yw(C a:Addr):Heap→Prop:=λh=>∃o,h.get? a=some o∧o.cls=.ref C
theorem W9{K:Frag}{C a:Addr}(e:EIs K C):KitX K (.ref a) (.ref C) (Yw C a) where
 ty:=λ_ _ _ ⟨_,b,f⟩=>Zr b f
 it:=λ_ _ X _=>by
  obtain⟨c,d,cd,sl,q⟩:=tq e.g6;intro l m o s' k z;unfold isType;unfold loadHead;exact AA (wpAny_loadPart (k _ _ (X _ _ q)) (AB z))
 ne:=λh p dd i n sl X g=>by
  obtain⟨c,d,cd,j,q⟩:=tq e.g6;refine ξ0.mpr λz=>?_;cases beq_iff_eq.mp z;have z:=(X _ _ q).symm.trans g;cases z
 ca:=λX ⟨_,b,f⟩ k=>TC X b f e.g1 e.g2 e.g3 e.g4 e.g5 e.g6 e.g7 k
def clsV:V→Option Value
 | .ref c=>some (.ref c)
 | .ty t=>some (.type t)
 | _=>none
section
variable {X:Cx}{K:Frag}
def QK(K:Frag):List V→Hp→VK→Prop:=λxs H Q=>∃a C c cv b,xs=[.ref a,c]∧H a=some (.ext (Yw C a))∧EIs K C∧clsV c=some cv∧kitOne K (.ref C) cv=some b∧Q (.bl b) H
theorem TW:yo X (.builtin "isinstance") (QK X.K):=by
 intro pins s σ H xs us Q I r h;obtain⟨a,C,c,g,b,rfl,i,e,d,j,q⟩:=h;obtain⟨u,v,rfl,k,f⟩:=r.two;cases(show u=Value.ref a from k);have l:v=g:=by
  cases c with
  | ref c=>cases d;exact f
  | ty t=>cases d;exact f
  | _=>cases d
 subst l;exact kia_one (W9 e) I.kIn (I.hok a _ i).1 j (λz=>nomatch z) λtk=>⟨.bl b,H,I.tok tk,rfl,q⟩
theorem tu(a:X.K=K):yo X (.builtin "isinstance") (QK K):=by subst a;exact TW
end
section
variable {M:Model}{A:Around}{E:AM}{s:Shared}{env:Env}
theorem zcO{n:Str}{a:Pos}{m:AN}{Q:Unit→Shared→Prop}(b:env.kindOf n=some .local)(d:s.heap.Ns env.locals m)(hp:(env.scope.kind==.class||(env.scope.kind==.module&&env.locals != env.globals))=false)
  (q:∀h' v,h'.Ns env.locals (λx=>if x=n then v else m x)→Heap.SameBut env.locals s.heap h'→Q () {s with heap:=h',toks:=s.toks+1}):wpAny M A (do bindName env n .none;unbindBehindTheSuite env n a) Q E s:=by
 refine AA (wpAny_bindName ?_);refine wpAny_storeName_local b d (λh f s1=>?_) hp;unfold unbindBehindTheSuite unbindName;refine wpAny_onRaise (AA (wpAny_point (AA ?_)));unfold deleteName;simp only[hp,b];rw[if_neg (show¬(false=true)by decide)];refine AA ?_;refine wpAny_nsDel_keeps f λg v c s2=>?_;simp only[Option.isSome_some,if_true,Bool.not_true,if_false,Bool.false_eq_true];refine AB (wpAny_point (q g v ?_ (s1.trans s2)));have e:(λx=>if x=n then v else if x=n then some Value.none else m x)=λx=>if x=n then v else m x:=by
  funext x;by_cases z:x=n
  ·rw[if_pos z,if_pos z]
  ·rw[if_neg z,if_neg z,if_neg z]
 rw[e]at c;exact c
end
section
variable {X:Cx}{pins:AL}{σ:St}{H:Hp}{s:Shared}
theorem Inv.track{a:Addr}{φ:Heap→Prop}{o:Obj}(I:Inv X pins σ H s)(i:s.heap.get? a=some o)(d:H a=none)(p:φ s.heap)(st:∀g h:Heap,φ g→(∀o,g.get? a=some o→h.get? a=some o)→φ h)
  (new:X.s₀.heap.get? a=none) (j:a≠X.env.locals) (k:∀x c,X.env.cells.lookup x=some c→c≠a) (hp:∀q∈X.pn++pins,q.1≠a):Inv X pins σ (upd H a (.ext φ)) s:=by
 have ne:∀b u,X.s₀.heap.get? b=some u→b≠a:=λb u e z=>by rw[z,new]at e;cases e
 refine⟨I.ok,I.os,I.bare,⟨I.base.keep,I.base.slot,λb u e n l=>?_,I.base.there,λb xs e=>?_,λb u v e=>?_,λb ps e=>?_⟩,I.loc,I.cell,?_,λx c e=>?_,λq hq=>?_,λb u e=>?_,I.len⟩
 ·rw[zk (ne b u e)];exact I.base.free b u e n l
 ·have:=I.base.tups b xs e;rw[zk (zt this d)];exact this
 ·have:=I.base.frzs b u v e;rw[zk (zt this d)];exact this
 ·obtain⟨m,f⟩:=I.base.tbls b ps e;exact⟨m,by rw[zk (zt f d)];exact f⟩
 ·rw[zk (Ne.symm j)];exact I.free
 ·rw[zk (k x c e)];exact I.freeC x c e
 ·obtain⟨f,r,t,w,y⟩:=I.pin q hq;exact⟨f,by rw[zk (hp q hq)];exact r,t,w,y⟩
 ·by_cases z:b=a
  ·subst z;rw[zm]at e;cases e;exact⟨p,⟨o,i⟩,st⟩
  ·rw[zk z]at e;exact(I.hok b u e).stay (λ_ _ _ q=>q) (λc q=>by rw[zk (zt q d)];exact q) λc xs q=>by rw[zk (zt q d)];exact q
theorem Inv.gone{i:Nat}{n:Str}{m:AN}{h':Heap}{v:Option Value}{tk:Nat}(I:Inv X pins σ H s)(hi:X.N[i]?=some n)(B:X.N.Nodup)(F:s.heap.Ns X.env.locals m)
  (loc:∀(i:Nat) (x:Str) (v:V),X.N[i]?=some x→σ[i]?=some (some v)→Vis X.env.scope x→∃u,RelV v u∧Look X.env s.heap m x u)
  (C:h'.Ns X.env.locals (λx=>if x=n then v else m x)) (d:Heap.SameBut X.env.locals s.heap h'):Inv X pins (σ.set i none) H {s with heap:=h',toks:=tk}:=by
 have f:∀b u,X.s₀.heap.get? b=some u→b≠X.env.locals:=λb u e=>ζt (ζC (ζl e) I.ok.above);refine⟨I.ok,I.os,I.bare,⟨λb o e n t g=>?_,λb o e n t g=>?_,I.base.free,λb o e g=>?_,I.base.tups,I.base.frzs,I.base.tbls⟩,⟨_,C,λj x w h a p=>?_⟩,λy c e=>?_,I.free,I.freeC,λq hq=>?_,?_,by rw[ζA];exact I.len⟩
 ·exact(d.2 b (f b o e)).trans (I.base.keep b o e n t g)
 ·obtain⟨sl,q⟩:=I.base.slot b o e n t g;exact⟨sl,(d.2 b (f b o e)).trans q⟩
 ·obtain⟨o',q⟩:=I.base.there b o e g;exact⟨o',(d.2 b (f b o e)).trans q⟩
 ·have A:j≠i:=by
   rintro rfl;rw[List.getElem?_set]at a;split at a
   ·split at a<;>cases a
   ·rename_i z;exact z rfl
  rw[ζm (Ne.symm A)]at a;obtain⟨u,r,l⟩:=loc j x w h a p;refine⟨u,r,?_⟩
  rcases l with⟨k,l⟩|⟨k,c,l,z⟩
  ·refine .inl ⟨k,?_⟩;have:x≠n:=λz=>A (Yp B h (z ▸ hi));show(if x=n then v else m x)=some u;rw[if_neg this];exact l
  ·exact .inr ⟨k,c,l,z.sameBut d (I.cne x c l)⟩
 ·obtain⟨w,z⟩:=I.cell y c e;exact⟨w,z.sameBut d (I.cne y c e)⟩
 ·obtain⟨h,a,p,D,E⟩:=I.pin q hq;exact⟨(d.2 q.1 p).trans h,a,p,D,E⟩
 ·refine I.hok.keptT λb o u e q=>(d.2 b ?_).trans q;rintro rfl;rw[I.free]at e;cases e
end
section
variable {M:Model}{A:Around}{E:AM}{s:Shared}{K:Frag}{a C D:Addr}
theorem ZM{o:Obj}{Q:Bool→Shared→Prop}(X:K.In s.heap)(f:s.heap.get? a=some o)(h:o.cls=.ref C)(i:mroIn K C (.ref D)=some true)(e:mroIn K D (.type "BaseException")=some true)(j:typeIn K (.ref D)=some (.type "type"))(q:Q true s):
  wpAny M A (excMatches (.ref a) (.ref D)) Q E s:=by
 obtain⟨b,g,d,t,os⟩:=s;have m:Looks M b (typeOf (.ref a)) (.ref C):=Zr f h;have n:=looks_mroIn (M:=M) X i;have p:=looks_mroIn (M:=M) X e;have r:=looks_typeIn (M:=M) X j;have u:Looks M b (isSubtype (.type "type") (.type "tuple")) false:=Looks.of_pure tc_notTuple;obtain⟨c,dd,cd,sl,l⟩:=tq e;have v:Looks M b (isType (.ref D)) true:=by
  intro w x y s' k z;unfold isType;unfold loadHead;exact AA (wpAny_loadPart (k _ _ (X _ _ l)) (AB z))
 unfold excMatches;unfold isInstance
 repeat lk
 exact q
end
abbrev Cx.inH(X:Cx)(a:Addr):Cx:={X with A:=X.A.mark (some (.ref a)),calm:=false,xe:=λ_ _=>False}
section
variable {X:Cx}{pins:AL}{σ:St}{H:Hp}{s:Shared}
theorem Cx.Ok.inH(ok:X.Ok)(a:Addr):(X.inH a).Ok:=
 ⟨ok.mod,ok.kind,ok.glob,ok.blt,ok.above,ok.inj,ok.has,ok.cab,(λz=>by cases z),ok.frames,ok.stk,ok.exf,ok.bs,ok.bsz,ok.noex,ok.exfs,ok.funs,ok.frf,ok.tb⟩
theorem Inv.inH(I:Inv X pins σ H s)(a:Addr):Inv (X.inH a) pins σ H s:=⟨I.ok.inH a,I.os,I.bare,I.base,I.loc,I.cell,I.free,I.freeC,I.pin,I.hok,I.len⟩
theorem Inv.outH{a:Addr}(ok:X.Ok)(I:Inv (X.inH a) pins σ H s):Inv X pins σ H s:=⟨ok,I.os,I.bare,I.base,I.loc,I.cell,I.free,I.freeC,I.pin,I.hok,I.len⟩
end
section
variable {X:Cx}{k:Nat}{ps:AJ}{sp:Sp}{x y n:Str}{p np cpos epos hpos tpos:Pos}{e:Expr}{es:List Expr}{ta:TA}{C D:Addr}{i:Nat}{b0:Stmt}{suite:List Stmt}{th:TS}
end
end L2
namespace L2
open PySem PySem.Spec PyProof.Rows
section
variable {P:Program}{w:World}{K:ζa}{mg:AN}{base:Heap}
theorem Fun.okX{x qual:Str}{st:Stmt}{f:Addr}{fd:FuncData}{N ps:AJ}{k:Nat}{sp:Sp}(F:Fun K x qual st f fd)(S:zJ N ps (zr st))(len:∀vs H Q E,sp vs H Q E→vs.length=ps.length)
  (c:∀(cdv:Value) (A:Around) (outer:List Env) (s:Shared) (H:Hp) (vs:List V) (Q:VK) (E:XK),Room k (A.deeper (envOfC qual (zr st) s.heap.objs.size f cdv))→sp vs H Q E→
   ∃t,PSs (cxOf (CXr P w) P w K mg base N qual (zr st) f cdv A outer s H E) (xk st) t∧t {nx:=λ_ H'=>Q .non H',rt:=Q} (yM N vs) H):FnOk P w K mg base (CXr P w) (k+1) f fd ps sp:=by
 obtain⟨oc,od,kV,doc,pm,an,cdv,ct,osl,rfl,d,a⟩:=F.ex;exact zaq d a S len λA outer s H vs Q E e b=>c cdv A outer s H vs Q E e b
theorem U1{x:Str}{st:Stmt}{f:Addr}{fd:FuncData}{ps:AJ}{k:Nat}{sp:Sp}(F:Fun K x x st f fd)(a:mg x=some (.ref f))(b:ud K fd ps [])(G:FnOk P w K mg base (CXr P w) k f fd ps sp):zE P w K mg base (CXr P w) x ps k sp:=⟨f,fd,G,a,F.kp,b⟩
end
end L2
namespace PD
open PySem L2
section
variable {K:ζa}{S S':Sx}{κ κ':Bool}{Γ Γ' Γ'':Ctx}{P:Post}{E:XK}{C:Addr}
def spX(K:ζa)(pre:AG→Prop)(C:Addr):Sp:=λvs H _ E=>∃F ds,Same F H∧zV K F vs ds∧pre ds∧∀H' F',Gr H F H' F'→E (.ref C) none H'
theorem Uk{pre:AG→Prop}{n:Nat}(h:∀ds,pre ds→ds.length=n){vs:List V}{H:Hp}{Q:VK}(s:spX K pre C vs H Q E):vs.length=n:=by
 obtain⟨F,ds,_,k,p,_⟩:=s;rw[zV.length k];exact h ds p
def ExX(K:ζa)(E:XK)(C:Addr)(t:TS)(Γ:Ctx):Prop:=∀(H0 F0 H F:Hp) (σ:St),DEnv K .fresh H0 F0 H F σ Γ→(∀H1 F1,Gr H0 F0 H1 F1→E (.ref C) none H1)→∀D:Ends,t D σ H
theorem Zs{a:TA}{ds:AG}(h:EvA K .fresh false a Γ ds)(b:ds.length≤sizeLine):ExX K E C (Qi C E a) Γ:=λH0 F0 H F σ e k _ =>
 h H0 F0 H F σ e _ λvs c d g p=>⟨by rw[zq.length p];exact b,k c d (e.gr.trans g)⟩
theorem Wn{c:TT}{t u v:TS}{b:Bool}(a:EvT K .fresh c Γ b)(d:b=true)(h:ExX K E C t Γ):ExX K E C (tSeq (tIfS c t u) v) Γ:=λH0 F0 H F σ e k _ =>
 a H0 F0 H F σ e _ λf i g=>by
  subst d;exact iteT (h H0 F0 f i σ (e.mono g) k _)
theorem zbW{t u:TS}(N:Ctx→Prop)(a:ExS K .fresh t Γ {nx:=N,rt:=λ_=>False})(b:∀Γ',N Γ'→ExX K E C u Γ'):ExX K E C (tSeq t u) Γ:=λH0 F0 H F σ e k D =>
 a H0 F0 H F σ F e (.refl _) (.inl rfl) _ ⟨λΓ' σ' H' F' n _ c=>b Γ' n H0 F0 H' F' σ' c k D,λ_ _ _ _ z=>z.elim,λ_ _ _ _ z=>z.elim,λ_ _ _ _ z=>z.elim⟩
theorem UN{c:TT}{t v:TS}{b:Bool}(a:EvT K .fresh c Γ b)(d:b=false)(h:ExX K E C v Γ):ExX K E C (tSeq (tIfS c t Xb) v) Γ:=zbW (·=Γ) (yW a (λz=>by rw[d]at z;cases z) λ_=>yw rfl) λ_ z=>z ▸ h
theorem zcA{t:TS}{N:AJ}{n:Nat}{H F:Hp}{vs:List V}{ds:AG}{D:Ends}(le:Same F H)(k:zV K F vs ds)(q:∀H' F',Gr H F H' F'→E (.ref C) none H')(b:N.length=n)(a:y0 n ds Γ)(h:ExX K E C t Γ):t D (L2.yM N vs) H:=by
 have e:=xj (N:=N) le k;rw[b,a.eq]at e;exact h H F H F _ e q D
theorem DEnv.lose{H0 F0 H F:Hp}{σ:St}{i:Nat}(e:DEnv K S H0 F0 H F σ Γ):DEnv K S H0 F0 H F (σ.set i none) (Γ.set i none):=by
 have bk:∀{j:Nat} {x:DV},(Γ.set i none)[j]?=some (some x)→j≠i∧Γ[j]?=some (some x):=λ{j x} h=>by
  by_cases b:j=i
  ·subst b;rw[List.getElem?_set]at h;split at h
   ·split at h<;>cases h
   ·rename_i z;exact absurd rfl z
  ·rw[ζm (Ne.symm b)]at h;exact⟨b,h⟩
 refine⟨e.gr,e.l0,e.sd,e.s0,by rw[ζA,ζA];exact e.len,λj x h=>?_,λj k x y v w a c d f g l o2=>?_⟩
 ·obtain⟨b,h⟩:=bk h;obtain⟨v,m,n⟩:=e.has j x h;exact⟨v,by rw[ζm (Ne.symm b)];exact m,n⟩
 ·obtain⟨b,c⟩:=bk c;obtain⟨o,d⟩:=bk d;rw[ζm (Ne.symm b)]at f;rw[ζm (Ne.symm o)]at g;exact e.ne j k x y v w a c d f g l o2
abbrev excO(C:Addr):Addr→HO:=λa=>.ext (Yw C a)
theorem VZ{i:Nat}{c:V}{d:Value}{b:Bool}(h:GetC Γ i (.xn (excO C)))(f:EIs K C)(g:clsV c=some d)(j:PySem.W.kitOne K (.ref C) d=some b):EvE K S κ (tCB (QK K) (zF (tVar i) (zF (tC c) tNil))) Γ (.bool b):=λH0 F0 H F σ e Q q=>by
 obtain⟨v,k,a,rfl,l⟩:=e.has i _ h.eq;exact⟨_,k,a,C,c,d,b,rfl,e.le _ _ l,f,g,j,q _ H F (.refl e.le) (.bl b)⟩
end
section
variable {K:ζa}{S S':Sx}{κ κ':Bool}{Γ Γ' Γ'':Ctx}{P:Post}{E:XK}
theorem DEnv.putN{H0 F0 H F:Hp}{σ:St}{i:Nat}{a b:Addr}{v:V}{vs:List V}{x y:DV}(e:DEnv K S H0 F0 H F σ Γ)(h:Γ[i]?=some (some x))(t:σ[i]?=some (some v))(D:Owns H v x a)
  (k:HasV K S H0 (upd H a (.lst vs)) F v y) (T:∀c,Owns (upd H a (.lst vs)) v y c→Owns H v x c∨c=b) (E:∀(j:Nat) (f:DV) (u:V),Γ[j]?=some (some f)→σ[j]?=some (some u)→¬Owns H u f b):DEnv K S H0 F0 (upd H a (.lst vs)) F σ (Γ.set i (some y)):=by
 obtain⟨v',G,U⟩:=e.has i x h;rw[t]at G;cases G;obtain⟨ws,w⟩:=U.owns D;have W:Same F (upd H a (.lst vs)):=λb u z=>by
  have:b≠a:=by rintro rfl;rw[w.f]at z;cases z
  rw[zk this];exact e.le _ _ z
 have I:=(ζg.mp h).1;have m:∀{j:Nat} {f:DV} {u:V},j≠i→Γ[j]?=some (some f)→σ[j]?=some (some u)→¬Owns H u f a:=λ{j f u} d z r o=>d (e.ne j i f x u v a z h r t o D);refine⟨⟨λb u z=>?_,e.gr.f,W,e.gr.ap⟩,e.l0,λb c=>?_,e.s0,by simp[e.len],λj f z=>?_,λj J x1 y1 L M c g1 g2 g3 g4 X o2=>?_⟩
 ·rw[zk (zt z w.n)];exact e.gr.h _ _ z
 ·obtain⟨o,q⟩:=e.sd b c;by_cases N:b=a
  ·subst N;exact⟨_,zm⟩
  ·exact⟨o,by rw[zk N];exact q⟩
 ·by_cases d:j=i
  ·subst d;rw[ζh I]at z;cases z;exact⟨_,t,k⟩
  ·rw[ζm (Ne.symm d)]at z;obtain⟨u,p,A⟩:=e.has j f z;exact⟨u,p,A.other (m d z p)⟩
 ·have bk:∀{j:Nat} {f:DV} {u:V},(Γ.set i (some y))[j]?=some (some f)→σ[j]?=some (some u)→Owns (upd H a (.lst vs)) u f c→(∃g,Γ[j]?=some (some g)∧Owns H u g c)∨(j=i∧c=b):=λ{j f u} z r o=>by
   by_cases d:j=i
   ·subst d;rw[ζh I]at z;cases z;rw[t]at r;cases r;rcases T c o with o|o
    ·exact .inl ⟨x,h,o⟩
    ·exact .inr ⟨rfl,o⟩
   ·rw[ζm (Ne.symm d)]at z;obtain⟨u',p,A⟩:=e.has j f z;rw[r]at p;cases p;exact .inl ⟨f,z,o.other A (m d z r)⟩
  rcases bk g1 g3 X with⟨O,P,s⟩|⟨Y,Z⟩
  ·rcases bk g2 g4 o2 with⟨B,C,l⟩|⟨Q,R⟩
   ·exact e.ne j J O B L M c P C g3 g4 s l
   ·subst R;exact absurd s (E j O L P g3)
  ·rcases bk g2 g4 o2 with⟨B,C,l⟩|⟨Q,R⟩
   ·subst Z;exact absurd l (E J B M C g4)
   ·rw[Y,Q]
theorem DEnv.newOwn{H0 F0 H F H' F':Hp}{σ:St}{b:Addr}(e:DEnv K S H0 F0 H F σ Γ)(g:Gr H F H' F')(d:H b=none)(j:Nat)(f:DV)(u:V)(z:Γ[j]?=some (some f))(r:σ[j]?=some (some u)):¬Owns H' u f b:=λo=>by
 obtain⟨i,a,c⟩:=e.has j f z;rw[r]at a;cases a;obtain⟨us,w⟩:=c.owns (o.back c λ_ _ z=>g.h _ _ z.h);have:=w.h;rw[d]at this;cases this
theorem zej{i:Nat}{u:TS}(b:SetC Γ i (some (.o2 none [])) Γ')(k:ExT K S S' u Γ' P):ExT K S S' (tSeq (tAsg (tLst tNil) (yt i)) u) Γ P:=λH0 F0 H F σ B e d f D I=>by
 refine⟨ξa _,λp hp=>?_⟩
 have g:Gr H F (upd H p (.lst [])) F:=.newO e.le hp _;have a:=(e.mono g).set (i:=i) (v:=.ref p) (x:=.o2 none []) ⟨p,[],⟨rfl,λ_ z=>nomatch z⟩,⟨zm,e.le.free hp,e.gr.h.free hp,e.out hp⟩,by simp,List.nodup_nil,rfl,λj x l=>by simp at l⟩ λc oc j y w s z m o=>by
  rcases oc with oc|⟨q,xs,n,hq,r⟩
  ·cases oc;exact e.newOwn g hp j y w z m o
  ·cases n;rw[zm]at hq;cases hq;cases r
 rw[b.eq]at a;exact k H0 F0 _ F _ B a d f D I
theorem TD{r:Option Addr}{te:TE}{i:Nat}{dss:List AG}{ds:AG}(h:GetC Γ i (.o2 r dss))(Q:EvO K S true te Γ ds)(R:dss.length<sizeLine)(T:SetC Γ i (some (.o2 r (dss++[ds]))) Γ')(k:P.nx Γ'):
  ExS K S (wg (tBM K "list" vt (tVar i) (zF te tNil))) Γ P:=λH0 F0 H F σ B e U _ D I=>by
 obtain⟨v0,L,a,vs,⟨rfl,v⟩,w,M,W,N,O⟩:=e.has i _ h.eq;refine⟨_,L,.inl ⟨rfl,_,SqL.of w.h⟩,Q H0 F0 H F σ e _ λb us X Y g m A Z kk=>?_⟩
 have o:=w.mono g;have q:b≠a:=by rintro rfl;have:=w.h;rw[m]at this;cases this
 have C:V.ref b∉vs:=λd=>by
  obtain⟨j,E⟩:=ζI.mp d;obtain⟨c,ws,t,ec,oc,_⟩:=O j _ E;cases ec;have:=oc.h;rw[m]at this;cases this
 refine⟨a,vs,.ref b,rfl,rfl,o.h,by rw[N];exact R,?_⟩
 obtain rfl:=T.eq;refine I.nx _ _ _ Y k (U.trans g.f) ((e.mono g).putN (b:=b) (y:=.o2 r (dss++[ds])) h.eq L (show Owns X (.ref a) (.o2 r dss) a from .inl rfl) ?_ ?_ λj f u z r'=>e.newOwn g m j f u z r')
 ·refine⟨a,vs++[.ref b],⟨rfl,v⟩,⟨zm,o.f,o.n,o.s⟩,?_,?_,by rw[ζr,ζr,N];rfl,λj x l=>?_⟩
  ·intro d;rcases ζu.mp d with d|d
   ·exact M d
   ·have:V.ref a=.ref b:=by simpa using d
    cases this;exact q rfl
  ·refine List.nodup_append.mpr ⟨W,by simp,λx l y hy=>?_⟩;have:y=.ref b:=by simpa using hy
   rintro rfl;exact C (this ▸ l)
  ·by_cases E:j<vs.length
   ·rw[ξy E]at l;obtain⟨c,ws,t,rfl,oc,hc,kc⟩:=O j x l;have G:c≠a:=by rintro rfl;exact M (ζk l)
    exact⟨c,ws,t,rfl,(oc.mono g).other G,by rw[ξy ⋯];exact hc,zu g.f kc⟩
   ·rw[ξp ⋯]at l;have J:j-vs.length=0:=by
     have:=(ζg.mp l).1;simp at this;omega
    rw[J]at l;cases(show some (V.ref b)=some x from l);exact⟨b,us,ds,rfl,⟨by rw[zk q];exact A,Z,e.gr.h.free m,e.out m⟩,by rw[ξp ⋯,show j-dss.length=0 by omega];rfl,kk⟩
 ·rintro c (oc|⟨p,xs,ep,hp,d⟩)
  ·exact .inl (.inl oc)
  ·cases ep;rw[zm]at hp;cases hp;rcases ζu.mp d with d|d
   ·exact .inl (.inr ⟨a,vs,rfl,o.h,d⟩)
   ·right;have:V.ref c=.ref b:=by simpa using d
    cases this;rfl
end
end PD
namespace L2
open PySem PySem.Spec PyProof.Rows
section
variable {X:Cx}
end
end L2
namespace PD
open PySem L2
section
variable {K:ζa}{S S':Sx}{κ κ':Bool}{Γ Γ' Γ'' Γ3:Ctx}{P:Post}
theorem eg3{i j m:Nat}{x y z:AD}{k:Ctx→Prop}(d:SetC Γ i (some (.fz κ x)) Γ')(f:SetC Γ' j (some (.fz κ y)) Γ'')(g:SetC Γ'' m (some (.fz κ z)) Γ3)(h:k Γ3):ExG K S κ (gTup K 3 (uO (yt i) (uO (yt j) (uO (yt m) gNil)))) [i,j,m] (.tuple [x,y,z]) Γ k:=λH0 F0 H F σ v e p Q q=>by
 obtain rfl:=d.eq;obtain rfl:=f.eq;obtain rfl:=g.eq;obtain⟨a,vs,rfl,l,b⟩:=VF p;cases b with
 | cons o b=>cases b with
  | cons r b=>cases b with
   | cons s b =>
    cases b;refine⟨a,_,rfl,Same.seqT e.le l,rfl,_,_,rfl,_,_,rfl,_,_,rfl,rfl,?_⟩
    refine q _ _ H F h (.refl e.le) (((e.setF o).setF r).setF s) (by simp) λn c=>?_;rw[List.getElem?_set_ne (by intro z;exact c (by simp[z])),List.getElem?_set_ne (by intro z;exact c (by simp[z])),List.getElem?_set_ne (by intro z;exact c (by simp[z]))]
theorem xV{c:Type}{js:List (Option Nat)}{b:Ctx}{j:TI}{g:TG}{tt:TT}{te:TE}{is:AF}{xs:List c}(κ':Bool)(u f:c→AD)(p:c→Bool)(k:∀x∈xs,∀y∈xs,u x=u y→f x=f y∧p x=p y)(hi:EvI K S κ' j Γ (xs.map u))(n:xF js Γ b)(e:(is.all λi=>js[i]?==some none)=true)
  (o:(js.filterMap id).Nodup) (q:xs.length≤sizeLine) (r:∀x∈xs,ExG K S κ' g is (u x) b λΓ'=>EvT K S tt Γ' (p x)∧(p x=true→EvE K S κ te Γ' (f x))):EvO K S κ (xG js j g tt te) Γ ((xs.filter p).map f):=by
 classical
 let F:AD→AD:=λd=>if h:∃x,x∈xs∧u x=d then f h.choose else .none
 let G:AD→Bool:=λd=>if h:∃x,x∈xs∧u x=d then p h.choose else false
 have ex:∀x∈xs,∃y,y∈xs∧u y=u x:=λx a=>⟨x,a,rfl⟩
 have l:∀x∈xs,F (u x)=f x:=λx a=>by
  show(if h:∃y,y∈xs∧u y=u x then f h.choose else .none)=_;rw[dif_pos (ex x a)];exact(k _ (ex x a).choose_spec.1 _ a (ex x a).choose_spec.2).1
 have m:∀x∈xs,G (u x)=p x:=λx a=>by
  show(if h:∃y,y∈xs∧u y=u x then p h.choose else false)=_;rw[dif_pos (ex x a)];exact(k _ (ex x a).choose_spec.1 _ a (ex x a).choose_spec.2).2
 refine EvO.eq (Xr (κ:=κ) κ' G F hi n e o (by rw[ζc];exact q) λd hd=>?_) ?_
 ·obtain⟨x,a,rfl⟩:=ζn.mp hd;rw[l x a,m x a];exact r x a
 ·rw[List.filter_map,ζP];have s:xs.filter (G∘u)=xs.filter p:=List.filter_congr λx a=>m x a;rw[s];exact ξo λx a=>l x (ζQ.mp a).1
end
end PD
namespace L2
open PySem PySem.Spec PyProof.Rows
section
variable {X:Cx}{K:ζa}
def dd(ns:AE):AE:=ns.foldl step_dedup []
theorem Za(ns:AE):firstMet (λi=>ns.getD i 0) ns.length=dd ns:=by
 unfold firstMet dd;congr 1;refine ξJ λi=>?_;rw[ζj];by_cases h:i<ns.length
 ·rw[ξw h,ζe h];show some (ns.getD i 0)=_;rw[ζf,ζe h];rfl
 ·rw[ζT (by rw[ζG];omega),ζT ⋯];rfl
def Ut(K:ζa):List V→Hp→VK→Prop:=λxs H Q=>∃p ns,xs=[.ref p]∧SqL K H p (ns.map V.int)∧ns.length<4000∧∀l,H l=none→Q (.ref l) (upd H l (.set (λk=>(dd ns).any (·==k)) (dd ns).length))
theorem U8{l:Addr}{a:Array Value}{ns:AE}{Q:AM}
  (q:HQ A s.heap) (hl:s.heap.IsList l a) (hi:PyProof.Rows.IntsAre a.toList ns) (J:a.size+1<scanBound)
  (h:∀(h':Heap) (tk:Nat),h'.SetOf (intKind prog w) s.heap.objs.size (λL=>(PyProof.Rows.firstMet (λi=>ns.getD i 0) a.size).any (·==L)) (PyProof.Rows.firstMet (λi=>ns.getD i 0) a.size).length→
   (∀b o,b<s.heap.objs.size→s.heap.get? b=some o→h'.get? b=some o)→Q (.ref s.heap.objs.size) {s with heap:=h',toks:=tk}) :
  wpAny (model prog w) A (call (.type "set") [.ref l]) Q E s:=by
 obtain⟨c,tl,Y⟩:=F.called_set.mro;have M:=F.called_set.made;have Z:=F.called_set.sub;refine wpAny_call (codeAny_of_tree ?_);show wpAny _ _ (callAny (.type "set") _) _ _ _;refine AB ⟨Code.quiet_builtin _ (by decide +kernel),codeAny_builtin F.entry_type_call ?_⟩;rw[Around.under_plain (weight_type_call_type "set" [.ref l] []) rfl];have h1:=F.called_set.notType;have h2:=F.called_set.canCreate;have a3:=F.typeCall_set_1 (.ref l)
 repeat (any_goals (first|assumption|wp_step))
 refine codeAny_mono (code_set_new_1 (.ref l) (E:=E) (Q₁:=λobj g=>∃led:Bool,obj=.ref s.heap.objs.size∧g={s with heap:=s.heap.push {cls:=.type "set", dict:=none,data:=.set #[] 0 (.fresh 0 0 led)}}) λled=>⟨led,rfl,rfl⟩) λr g N=>?_;cases r with
 | error e=>exact N
 | ok fl =>
  cases fl with
  | ret obj =>
   obtain⟨led,rfl,rfl⟩:=N;have hS:(s.heap.push {cls:=.type "set", dict:=none,data:=.set #[] 0 (.fresh 0 0 led)}).get? s.heap.objs.size=some {cls:=.type "set", dict:=none,data:=.set #[] 0 (.fresh 0 0 led)}:=ζo _ rfl;have hT:Shared.TypeIs {s with heap:=s.heap.push {cls:=.type "set", dict:=none,data:=.set #[] 0 (.fresh 0 0 led)}} (.ref s.heap.objs.size) "set" := ⟨_,hS,rfl⟩
   have a4:=F.called_set.init.lookup;have a5:=F.called_set.init.bind (.ref s.heap.objs.size)
   repeat (any_goals (first|assumption|wp_step))
   refine codeAny_mono (codeAny_call_builtin (R:=wants (λr j=>r=.none∧∃h' tk,j={s with heap:=h',toks:=tk}∧
     h'.SetOf (intKind prog w) s.heap.objs.size (λL=>(PyProof.Rows.firstMet (λi=>ns.getD i 0) a.size).any (·==L)) (PyProof.Rows.firstMet (λi=>ns.getD i 0) a.size).length∧
     (∀b o,b<s.heap.objs.size→s.heap.get? b=some o→h'.get? b=some o)) E) F.called_set.init.plain F.entry_set_init (check_set_init_1 hT ?_)) λp j d=>?_
   ·obtain⟨ol,u,x,nl,y⟩:=hl;obtain⟨a0,k,O,f⟩:=ol;simp only at x y;subst x;subst y;have B:(s.heap.push {cls:=.type "set", dict:=none,data:=.set #[] 0 (.fresh 0 0 led)}).get? l=some {cls:=.type "list", dict:=k,data:=.seq a nl,slots:=f}:=ζd _ u;have a1:=F.sub_list_set;have a2:=F.sub_list_frozenset;have a6:(Value.type "list" == Value.type "dict")=false:=by decide
    have C:(s.heap.push {cls:=.type "set", dict:=none,data:=.set #[] 0 (.fresh 0 0 led)}).IsList l a:=⟨_,B,rfl,nl,rfl⟩
    unfold Builtin.«set.__init__» noKeywords Builtin.Frozenset.updateFrom;generalize P:pyIter=PI
    wp_walk
    subst P;refine wpAny_pyIter_list C ?_;refine AA (wpAny_runValue ?_);have D:l<s.heap.objs.size:=ζl u;have G:l≠(s.heap.push {cls:=.type "set", dict:=none,data:=.set #[] 0 (.fresh 0 0 led)}).objs.size:=by
     rw[ζS];exact ζt (ξk D)
    have S:s.heap.objs.size∉[(s.heap.push {cls:=.type "set", dict:=none,data:=.set #[] 0 (.fresh 0 0 led)}).objs.size,l]++hbL A.in1.in1.in1:=by
     rw[Heap.size_push,List.mem_append];simp only[List.mem_cons,List.mem_singleton,List.not_mem_nil,or_false,not_or];exact⟨⟨ζt (ξ2 _),ζ6 D⟩,λz=>ξi _ (HQ.lt q _ z)⟩
    have H:∀(i:Nat) (v:Value),a[i]?=some v→∃t,v=.int ((λi=>ns.getD i 0) i) t:=λi v hv =>
     PyProof.Rows.IntsAre.int_at hi i v (by rw[ζ0];exact hv)
    refine PyProof.Rows.codeAny_set_update_loopS ((T7 (A:=A.in1.in1.in1) _ l G a).toS) s.heap.objs.size
     S (λi=>ns.getD i 0) H J (a.size-0) 0 _ ⋯ (ξa _)
     ⟨⟨_,ζo _ rfl,rfl,rfl⟩,C.push _,HQ.keep q λb o vs e _ _=>ζd _ (ζd _ e)⟩ ?hS0 ?hR
    case hS0 =>
     have I:((s.heap.push {cls:=.type "set", dict:=none,data:=.set #[] 0 (.fresh 0 0 led)}).push {cls:=.type "list_iterator", data:=.fields #[.ref l,.int 0 0]}).get? s.heap.objs.size
       = some {cls:=.type "set", dict:=none,data:=.set #[] 0 (.fresh 0 0 led)}:=ζd _ hS
     exact PyProof.Rows.SetOf_congr ((PyProof.Rows.setObjOf_fresh (knd:=intKind prog w) led).setOf I (by unfold scanBound;omega)) (λ_=>rfl) rfl
    case hR =>
     intro s' K m;obtain⟨h',g',d',T,U⟩:=s';have eg:g'=s.gens:=K.gens;have ed:d'=s.drawn:=K.drawn;have eo:U=s.os:=K.os;subst eg;subst ed;subst eo;show wpAny _ _ _ _ _ _;refine AB ?_;show wpAny _ _ (ret Value.none) _ _ _;refine AB ⟨rfl,h',T,rfl,m,λb o J e=>?_⟩;have V:b≠s.heap.objs.size:=ζt J;have W:b≠(s.heap.push {cls:=.type "set", dict:=none,data:=.set #[] 0 (.fresh 0 0 led)}).objs.size:=by
      rw[ζS];exact ζt (ξk J)
     exact K.heap b o (by simp only[List.mem_cons,List.mem_singleton,List.not_mem_nil,or_false,not_or];exact⟨V,W⟩) (Heap.get?_push_of_some _ (Heap.get?_push_of_some _ e))
   ·cases p with
    | error e=>exact d
    | ok n =>
     cases n with
     | ret r =>
      obtain⟨rfl,h',tk,rfl,m,X⟩:=d
      repeat (any_goals (first|assumption|wp_step))
      exact h _ _ m X
     | _=>exact d.elim
  | _=>exact N.elim
theorem V8(i:Gd X):yo X (.type "set") (Ut X.K):=by
 intro pins s σ H xs us Q I r h;obtain⟨p,ns,rfl,hq,m,q⟩:=h;obtain⟨u,rfl,j⟩:=wa r;cases j;obtain⟨a,d,pl,k⟩:=I.list hq;have f:=d.length;rw[ζc]at f k;refine U8 (ns:=ns) (I.hq i) pl.isList (by simpa using xU d) (by rw[List.size_toArray];unfold scanBound;omega) λh' tk g l=>?_;have c:a.toArray.size=ns.length:=by rw[ζE,f]
 rw[c,Za]at g;exact⟨.ref s.heap.objs.size,_,I.laid (t':=tk) (λb u e=>l b u (ζl e) e) (ζp _) (show yN X.prog X.w _ _ _ (.set _ _)from g),rfl,q _ (I.hok.fresh (ζp _))⟩
theorem Vp(a:X.K=K)(b:Gd X):yo X (.type "set") (Ut K):=by subst a;exact V8 b
theorem V7(a:X.K=K)(b:X.calm=true):yo X (.type "set") (Ut K):=Vp a (.inl b)
def zcD:List V→Hp→VK→Prop:=λxs H Q=>∃p S n,xs=[.ref p]∧H p=some (.set S n)∧Q (.int n) H
theorem TU:yo X (.builtin "len") zcD:=by
 intro pins s σ H xs us Q I r h;obtain⟨p,S,n,rfl,b,q⟩:=h;obtain⟨u,rfl,c⟩:=wa r;cases c;obtain⟨o,i,j,t,d,a,hd,_,_,e,f,g⟩:s.heap.SetOf (intKind X.prog X.w) p S n:=I.hok p _ b;exact PySem.call_len_set d a hd f (by unfold scanBound at e;omega) ⟨.int n,H,I.tok _,⟨_,by rw[g]⟩,q⟩
theorem WA(ns:AE)(k:Int):dd (ns++[k])=step_dedup (dd ns) k:=by
 unfold dd;rw[List.foldl_append];rfl
theorem V1(ns:AE):∀k,k∈dd ns↔k∈ns:=by
 suffices h:∀n,∀k,k∈dd (ns.take n)↔k∈ns.take n by simpa using h ns.length
 intro n;induction n with
 | zero=>intro k;rfl
 | succ n a =>
  intro k;by_cases b:n<ns.length
  ·have e:ns.take (n+1)=ns.take n++[ns[n]]:=by rw[List.take_succ,ζe b];rfl
   rw[e,WA];unfold step_dedup;split
   ·rename_i h;obtain⟨x,c,ex⟩:=ξh.mp h;have:=eq_of_beq ex;subst this;rw[a,ζu];refine⟨.inl,λz=>?_⟩
    rcases z with z|z
    ·exact z
    ·rw[ζs.mp z];exact(a _).mp c
   ·rw[ζu,ζu,a]
  ·rw[ζO ⋯];have:=a k;rw[ζO ⋯]at this;exact this
theorem V2(ns:AE):(dd ns).length≤ns.length:=by
 have:=length_foldl_step_dedup_le ns ([]:AE);simpa[dd]using this
end
end L2
namespace PD
open PySem L2
section
variable {K:ζa}{S S':Sx}{κ κ':Bool}{Γ Γ' Γ'':Ctx}{P:Post}
theorem TL{b:TE}{ns:AE}(h:EvL K S false b Γ (ns.map .int))(c:ns.length<4000):EvE K S κ (tCB zcD (zF (tCB (Ut K) (zF b tNil)) tNil)) Γ (.int (dd ns).length):=λH0 F0 H F σ e Q q =>
 h H0 F0 H F σ e _ λa vs i d g1 f g=>by
  cases yd (zI g);exact⟨a,ns,rfl,f,c,λp hp=>⟨p,_,_,rfl,zm,q _ _ d (g1.trans (.newO g1.le hp _)) (.int _)⟩⟩
def EvG(K:ζa)(S:Sx)(κ:Bool)(t:TE)(Γ:Ctx)(G:AD→Prop):Prop:=∀(H0 F0 H F:Hp) (σ:St),DEnv K S H0 F0 H F σ Γ→∀Q:VK,(∀d v H' F',G d→Gr H F H' F'→Rp K κ S H0 F' v d→Q v H')→t σ H Q
theorem EvE.g{t:TE}{d:AD}(h:EvE K S κ t Γ d):EvG K S κ t Γ (·=d):=λH0 F0 H F σ e Q q=>h H0 F0 H F σ e Q λv H' F' g p=>q d v H' F' rfl g p
def spW(K:ζa)(κ:Bool)(pre:AG→(AD→Prop)→Prop):Sp:=λvs H Q _=>∃F ds G,Same F H∧zV K F vs ds∧pre ds G∧∀d v H' F',G d→Gr H F H' F'→Rp K κ .fresh H F' v d→Q v H'
theorem xH{pre:AG→(AD→Prop)→Prop}{n:Nat}(h:∀ds G,pre ds G→ds.length=n){vs:List V}{H:Hp}{Q:VK}{E:XK}(s:spW K κ pre vs H Q E):vs.length=n:=by
 obtain⟨F,ds,d,_,k,p,_⟩:=s;rw[zV.length k];exact h ds d p
theorem Yz{pre:AG→(AD→Prop)→Prop}{E:XK}{t:TA}{ds:AG}{G:AD→Prop}(h:EvA K S false t Γ ds)(hp:pre ds G):EvG K S κ (y8 (spW K true pre) [] E t) Γ G:=λH0 F0 H F σ e Q q =>
 h H0 F0 H F σ e _ λvs b f g1 g=>⟨f,ds,G,g1.le,by rw[ζx];exact zI g,hp,λd v i j hd g2 k=>q d v i j hd (g1.trans g2) (tL (κ:=true) (λ_=>rfl) (wU (κ:=true) (κ':=true) (S':=S) (H0':=H0) (λa xs z=>⟨z.1,λc=>by
  obtain⟨u,l⟩:=(e.mono g1).sd a c;exact z.2 (by show b a≠none;rw[l];simp)⟩) (λ_ _ z=>z) k))⟩
theorem exg{te:TE}{u:TS}{i:Nat}{G:AD→Prop}{Γ':AD→Ctx}(κ:Bool)(h:EvG K S κ te Γ G)(c:∀d,SetC Γ i (some (.fz κ d)) (Γ' d))(k:∀d,G d→ExT K S S' u (Γ' d) P):ExT K S S' (tSeq (tAsg te (yt i)) u) Γ P:=
 yZ (λa=>∃d,G d∧a=Γ' d) (λH0 F0 H F σ B e b _ D I=>h H0 F0 H F σ e _ λd v H' F' hd g p=>I.nx _ _ H' F' ⟨d,hd,rfl⟩ (b.trans g.f) (by rw[←(c d).eq];exact(e.mono g).setF p)) λa ⟨d,hd,z⟩=>z ▸ k d hd
theorem Wq{te:TE}{G:AD→Prop}(κ:Bool)(h:EvG K S κ te Γ G)(a:∀d,G d→P.rt d)(c:(S=S∧κ=P.kr)∨P.kr=false):ExT K S S' (tRet te) Γ P:=λH0 F0 H F σ B e b _ D I=>h H0 F0 H F σ e _ λd v H' F' hd g p=>I.rt d v H' F' (a d hd) (e.gr.trans g) (WO c p)
def EvOG(K:ζa)(S:Sx)(κ:Bool)(t:TE)(Γ:Ctx)(G:AG→Prop):Prop:=∀(H0 F0 H F:Hp) (σ:St),DEnv K S H0 F0 H F σ Γ→∀Q:VK,(∀ds a vs H' F',G ds→Gr H F H' F'→H a=none→H' a=some (.lst vs)→F' a=none→zq K κ S H0 F' vs ds→Q (.ref a) H')→t σ H Q
theorem y9{t:TS}{N:AJ}{n:Nat}{H F:Hp}{vs:List V}{ds:AG}{G:AD→Prop}{Q:VK}{Γ:Ctx}(le:Same F H)(k:zV K F vs ds)(q:∀d v H' F',G d→Gr H F H' F'→Rp K κ .fresh H F' v d→Q v H')(b:N.length=n)(a:y0 n ds Γ)
  (h:ExS K .fresh t Γ {nx:=λ_=>False,rt:=G,kr:=κ}):t {nx:=λ_ H'=>Q .non H',rt:=Q} (L2.yM N vs) H:=by
 have e:=xj (N:=N) le k;rw[b,a.eq]at e;exact h H F H F _ F e (.refl _) (.inl rfl) _ ⟨λ_ _ _ _ z=>z.elim,λd v H' F' r g p=>q d v H' F' r g p,λ_ _ _ _ z=>z.elim,λ_ _ _ _ z=>z.elim⟩
end
end PD
namespace L2
open PySem
def Rise(xs:Array Nat):Prop:=xs.toList.Pairwise (·<·)
theorem Rise.lt{xs:Array Nat}(r:Rise xs){i j:Nat}(h:i<j)(a:j<xs.size):xs[i]'⋯<xs[j]:=by
 have:=List.pairwise_iff_getElem.mp r i j (by simp;omega) (by simpa using a) h;simpa using this
theorem YL(xs:Array Nat)(r:Rise xs)(j:Nat):∀(c lo hi:Nat),lo≤hi→hi≤xs.size→hi-lo≤c→
  (∀i (h:i<xs.size),i<lo→xs[i]<j)→(∀i (h:i<xs.size),hi≤i→j≤xs[i])→
  SetTable.below.go xs j c lo hi≤xs.size∧(∀i (h:i<xs.size),i<SetTable.below.go xs j c lo hi→xs[i]<j)∧∀i (h:i<xs.size),SetTable.below.go xs j c lo hi≤i→j≤xs[i]
 | 0,lo,hi,h1,h2,h3,a,b=>by
  have:lo=hi:=by omega
  subst this;exact⟨h2,a,b⟩
 | f+1,lo,hi,h1,h2,h3,a,b=>by
  unfold SetTable.below.go;by_cases k:lo<hi
  ·rw[if_pos k];dsimp only;have l:(lo+hi)/2<xs.size:=by omega
   have m:xs.getD ((lo+hi)/2) j=xs[(lo+hi)/2]:=by simp[l]
   rw[m];by_cases g:xs[(lo+hi)/2]<j
   ·rw[if_pos g];refine YL xs r j f _ _ ⋯ h2 ⋯ (λi d n=>?_) b;by_cases e:i=(lo+hi)/2
    ·subst e;exact g
    ·exact Nat.lt_trans (r.lt (show i<(lo+hi)/2 by omega) l) g
   ·rw[if_neg g];refine YL xs r j f _ _ ⋯ ⋯ ⋯ a λi d o=>?_;by_cases e:i=(lo+hi)/2
    ·subst e;omega
    ·have:=r.lt (show(lo+hi)/2<i by omega) d;omega
  ·rw[if_neg k];have:lo=hi:=by omega
   subst this;exact⟨h2,a,b⟩
theorem YK(xs:Array Nat)(r:Rise xs)(j:Nat):SetTable.below xs j≤xs.size∧(∀i (h:i<xs.size),i<SetTable.below xs j→xs[i]<j)∧∀i (h:i<xs.size),SetTable.below xs j≤i→j≤xs[i]:=
 YL xs r j _ _ _ (ξa _) (ζp _) ⋯ (λ_ _ h=>by omega) λi h z=>by omega
theorem Ud{xs:Array Nat}(r:Rise xs)(i:Nat)(h:i<xs.size):SetTable.below xs (xs[i]+1)=i+1:=by
 obtain⟨a,b,c⟩:=YK xs r (xs[i]+1);have d:¬SetTable.below xs (xs[i]+1)≤i:=λz=>by have:=c i h z;omega
 have e:¬i+1<SetTable.below xs (xs[i]+1):=λz=>by
  have:=b (i+1) ⋯ z;have:=r.lt (ξ2 i) (show i+1<xs.size by omega);simp only[Nat.succ_eq_add_one]at this;omega
 omega
theorem Uc{xs:Array Nat}(r:Rise xs):SetTable.below xs 0=0:=by
 obtain⟨a,b,c⟩:=YK xs r 0;by_cases h:SetTable.below xs 0=0
 ·exact h
 ·have:=b 0 ⋯ ⋯;omega
structure TOk(b:Bool)(t:SetTable):Prop where
 led:t.led=b
 rise:Rise t.place
 dum:t.dummies=#[]
theorem TOk.fresh{b:Bool}{f m:Nat}:TOk b (.fresh f m b):=⟨rfl,List.Pairwise.nil,rfl⟩
theorem TOk.plain{b c:Bool}{t:SetTable}(h:TOk b t):TOk b {t with plain:=c}:=⟨h.led,h.rise,h.dum⟩
theorem TOk.standIn{b:Bool}{t:SetTable}(h:TOk b t)(n:Nat):TOk b (t.standIn n):=⟨h.led,by
 show(Array.range n).toList.Pairwise (·<·);rw[Array.toList_range];exact ξ4,rfl⟩
theorem TOk.orStandIn{b:Bool}{t:SetTable}(h:TOk b t)(n:Nat):TOk b (t.orStandIn n):=by
 unfold SetTable.orStandIn;split
 ·exact h
 ·exact h.standIn n
theorem UL(j:Nat):SetTable.has #[] j=false:=rfl
theorem zbi{t:SetTable}{j:Nat}(h:t.slot j=.empty):t.place[SetTable.below t.place j]?≠some j:=by
 intro z;unfold SetTable.slot at h;simp[z]at h
theorem ZK{t:SetTable}{b:Bool}(c:TOk b t){g:Nat→Int}{h:Int}:∀(n:Nat) (p:SetTable.Probe) {j:Nat} {d:Option Nat},p.dummy=none→SetTable.probe.go t g h n p=some (.empty j d)→d=none∧t.slot j=.empty
 | 0,p,j,d,_,e=>by cases e
 | n+1,p,j,d,hp,e=>by
  unfold SetTable.probe.go at e;split at e
  ·rename_i a;injection e with e;injection e with e1 e2;subst e1;exact⟨e2 ▸ hp,a⟩
  ·rename_i a;exfalso;unfold SetTable.slot at a;rw[c.dum]at a;simp only[UL]at a;split at a<;>simp at a
  ·split at e
   ·cases e
   ·refine ZK c n _ ?_ e;unfold SetTable.advance;split
    ·exact hp
    ·exact hp
theorem zda{b:Bool}{t:SetTable}(h:TOk b t){j:Nat}(g:t.slot j=.empty):TOk b (t.put j).1:=by
 refine⟨h.led,?_,by show(if SetTable.has t.dummies j=true then _ else _)=_;rw[h.dum,UL];rfl⟩
 have l:=zbi g;obtain⟨a,b,c⟩:=YK t.place h.rise j;show(SetTable.insertAt t.place (SetTable.below t.place j) j).toList.Pairwise (·<·);generalize SetTable.below t.place j=p at *;rw[SetTable.toList_insertAt,List.pairwise_append];have f:t.place.toList.Pairwise (·<·):=h.rise;refine⟨f.sublist (List.take_sublist _ _),?_,?_⟩
 ·rw[ξH];refine⟨λx d=>?_,f.sublist (List.drop_sublist _ _)⟩
  obtain⟨i,hi,rfl⟩:=ξx.mp d;rw[ζ2,ζY]at hi;rw[List.getElem_drop,Array.getElem_toList];have:=c (p+i) ⋯ ⋯;by_cases z:i=0
  ·subst z;have o:t.place[p]≠j:=λq=>l (by rw[ξc ⋯,q]);simp only[Nat.add_zero]at this ⊢;omega
  ·have r:=h.rise.lt (show p<p+i by omega) (show p+i<t.place.size by omega);have s:=c p ⋯ (ζp _);omega
 ·intro x d y e;obtain⟨i,hi,rfl⟩:=ξx.mp d;rw[ζL,ζY]at hi;rw[List.getElem_take,Array.getElem_toList];have m:=b i ⋯ ⋯;rcases ζq.mp e with rfl|e
  ·exact m
  ·obtain⟨k,n,rfl⟩:=ξx.mp e;rw[ζ2,ζY]at n;rw[List.getElem_drop,Array.getElem_toList];have:=c (p+k) ⋯ ⋯;omega
theorem Tq{b:Bool}{t:SetTable}(h:TOk b t)(c:Array (Int×Value))(k:Int)(x:Value):TOk b (layNew t c k x).2.1:=by
 unfold layNew;split
 ·rename_i slot i e;unfold SetTable.freeSlot at e;split at e
  ·rename_i j d f;obtain⟨rfl,g⟩:=ZK h _ _ rfl f;injection e with e;injection e with a _;have a:j=slot:=a;subst a;exact(zda h g).orStandIn _
  ·cases e
 ·exact h.standIn _
theorem WP{b:Bool}{t:SetTable}(h:TOk b t)(d:Array (Int×Value))(n:Nat):TOk b (relayAll t d n).2.1:=by
 unfold relayAll;split
 ·rename_i k a e;dsimp only;split
  ·unfold SetTable.relaid SetTable.laid at e;simp only[Option.bind_eq_bind]at e;obtain⟨ow,_,e⟩:=ξ1.mp e;injection e with e;injection e with e1 e2;subst e1;refine⟨h.led,?_,rfl⟩
   show List.Pairwise (·<·) _;dsimp only;rw[ξX,List.pairwise_filterMap];refine ξ4.imp λ{i j} c x f y g=>?_;obtain⟨u,_,rfl⟩:=ξI.mp f;obtain⟨l,_,rfl⟩:=ξI.mp g;exact c
  ·exact h.standIn _
 ·exact h.standIn _
theorem vT{a:Type}(next:Nat→Nat)(xs:Array a):(pickOrder next xs).toList.Perm xs.toList:=by
 suffices h:∀(n k:Nat) (l:List a) (out:Array a),l.length=n→(pickOrder.go next n k l out).toList.Perm (out.toList++l)by
  have:=h xs.size 0 xs.toList #[] (by simp);simpa[pickOrder]using this
 intro n;induction n with
 | zero =>
  intro k l out c;have:l=[]:=List.length_eq_zero_iff.mp c;subst this;simp[pickOrder.go]
 | succ n d =>
  intro k l out c;unfold pickOrder.go;have b:next k%l.length<l.length:=Nat.mod_lt _ ⋯
  rw[ζe b];dsimp only;refine(d _ _ _ (by rw[List.length_eraseIdx_of_lt b];omega)).trans ?_;rw[Array.toList_push,ξZ];refine List.Perm.append_left _ ?_;have e:l=l.take (next k%l.length)++l[next k%l.length]::l.drop (next k%l.length+1):=by
   rw[←ξU b,ζ8]
  conv=>rhs;rw[e]
  rw[ξK,List.singleton_append];exact ξL.symm
end L2
namespace L2
open PySem PySem.Spec PyProof.Rows
def IsE(e:Int×Value):Prop:=∃k t,e=(hashInt k,.int k t)
def kOf(e:Int×Value):Int:=match e.2 with | .int k _=>k|_=>0
def SetI(b:Bool)(a:Addr)(l:AE)(h:Heap):Prop:=
 ∃o es ep t,h.get? a=some o∧o.ExactSet∧o.data=.set es ep t∧(∀e∈es.toList,IsE e)∧(es.toList.map kOf).Perm l∧es.size<scanBound∧t.fits es.size=true∧TOk b t
section
variable {prog:Program}{w:World}{A:Around}{E:AM}{s:Shared}{b:Bool}{a:Addr}{l:AE}
theorem SetI.at{h h':Heap}(x:SetI b a l h)(e:∀o,h.get? a=some o→h'.get? a=some o):SetI b a l h':=
 let⟨o,c,d,t,f,r⟩:=x
 ⟨o,c,d,t,e o f,r⟩
theorem IsE.elems{a:List (Int×Value)}(h:∀e∈a,IsE e):ElemsOf (intKind prog w) a:=λe b=>by
 obtain⟨k,t,rfl⟩:=h e b;exact⟨⟨k,intKind_is _ _ k t,rfl⟩,rfl⟩
theorem IsE.is{e:Int×Value}(h:IsE e)(k:Int):(intKind prog w).is k e.2=true↔kOf e=k:=by
 obtain⟨j,t,rfl⟩:=h;constructor
 ·intro z;exact((intKind prog w).inj _ _ _ z (intKind_is _ _ j t)).symm
 ·intro z;have z:j=k:=z;subst z;exact intKind_is _ _ j t
theorem IsE.ints:∀{a:List (Int×Value)},(∀e∈a,IsE e)→IntsAre (a.map (·.2)) (a.map kOf)
 | [],_=>.nil
 | e::a,h=>by
  obtain⟨k,t,rfl⟩:=h e (.head _);exact .cons k t (IsE.ints λx b=>h x (.tail _ b))
theorem VC{o:Obj}{d:Array (Int×Value)}{c:Nat}{t:SetTable}{h:Heap}(e:h.get? a=some o)(hd:o.data=.set d c t)(b:Array (Int×Value))(t':SetTable):
  (h.update a (Obj.putSet b t')).get? a=some {o with data:=.set b (c+1) t'}:=by
 have q:=ζJ (Obj.putSet b t') e (by rw[putSet_of _ _ hd];rfl)
 rwa [putSet_of _ _ hd]at q
theorem zcn{g:Bool→Sem Unit}(B:∀(c:Bool) (h:Shared) (R:Unit→Shared→Prop),R () h→wpAny (model prog w) A (g c) R E h)
  {o:Obj} {C:Array (Int×Value)} {D:Nat} {t:SetTable} (q:s.heap.get? a=some o) (j:o.ExactSet) (hd:o.data=.set C D t)
  {d:Array (Int×Value)} {f:SetTable} (r:∀e∈d.toList,IsE e) (hp:(d.toList.map kOf).Perm l) (n:d.size<scanBound) (F:f.fits d.size=true) (u:TOk b f) {G:Bool} {R:Option Bool→Shared→Prop}
  (k:∀h',Heap.SameBut a s.heap h'→SetI b a l h'→R (some true) {s with heap:=h'}) :
  wpAny (model prog w) A (do
   storeSet a d f
   if(!G&&f.tooFull)=true then do
    g (relayAll f d (SetTable.grown d.size)).2.2;storeSet a (relayAll f d (SetTable.grown d.size)).1 (relayAll f d (SetTable.grown d.size)).2.1;pure (some true)
   else pure (some true)) R E s:=by
 refine AA (wpAny_storeSet_of q hd ?_ (fits_of_scanBound n));have g1:=VC q hd d f;have v:=Heap.SameBut.update s.heap a (Obj.putSet d f);split
 ·have m:=relayAll_perm f d (SetTable.grown d.size);have hq:=relayAll_fits f d (SetTable.grown d.size);have p:=WP u d (SetTable.grown d.size);generalize relayAll f d (SetTable.grown d.size)=Z at m hq p ⊢;obtain⟨i,y,H⟩:=Z;dsimp only at m hq p ⊢;have z:i.size=d.size:=by have:=m.length_eq;simpa using this
  refine AA (B _ _ _ ?_);refine AA (wpAny_storeSet_of g1 rfl ?_ (fits_of_scanBound (by rw[z];exact n)));exact AB (k _ (v.trans (Heap.SameBut.update _ a _)) ⟨_,i,_,y,VC g1 rfl i y,j,rfl,λe x=>r e (m.mem_iff.mp x),(m.map kOf).trans hp,by rw[z];exact n,hq,p⟩)
 ·exact AB (k _ v ⟨_,d,_,f,g1,j,rfl,r,hp,n,F,u⟩)
theorem addI{k:Int}{tk:Tok}{Q:Bool→Shared→Prop}(W:SetI b a l s.heap)(hl:l.length+1<scanBound)
  (h:∀(r:Bool) h',Heap.SameBut a s.heap h'→SetI b a (step_dedup l k) h'→Q r {s with heap:=h'}) :
  wpAny (model prog w) A (setAddHashed a (.int k tk) (hashInt k)) Q E s:=by
 obtain⟨o,i,X,t,C,n,hd,D,hp,P,J,S⟩:=W;have F:ElemsOf (intKind prog w) i.toList:=IsE.elems D;have hn:i.size=l.length:=by have:=hp.length_eq;simpa using this
 have T:∀G,G∈l↔∃e∈i.toList,(intKind prog w).is G e.2=true:=λG=>by
  rw[←hp.mem_iff,ζn];exact⟨λ⟨e,x,y⟩=>⟨e,x,((D e x).is G).mpr y⟩,λ⟨e,x,y⟩=>⟨e,x,((D e x).is G).mp y⟩⟩
 unfold setAddHashed setAddHashedIn;refine wpAny_holding (AA (wpAny_setState_of C hd J ?_));dsimp only;rw[byScan_of (knd:=intKind prog w) (x:=.int k tk) rfl P F];simp only[↓reduceIte];unfold setAddByScan;refine AA (AA (wpAny_rule ?_));refine AA (wpAny_setScan_of (knd:=intKind prog w) (k:=k) (intKind_is _ _ k tk) C hd J F ?_);cases U:List.findIdx? (λe=>(intKind prog w).is k e.2) i.toList with
 | some j =>
  dsimp only;obtain⟨Y,K,_⟩:=List.findIdx?_eq_some_iff_getElem.mp U;have L:k∈l:=(T k).mpr ⟨i.toList[j],ξM Y,K⟩;have M:step_dedup l k=l:=by unfold step_dedup;rw[if_pos (List.any_eq_true.mpr ⟨k,L,by simp⟩)]
  have q:=h false s.heap (Heap.SameBut.refl a s.heap) (M.symm ▸ ⟨o,i,X,t,C,n,hd,D,hp,P,J,S⟩);exact AB (AB q)
 | none =>
  dsimp only;have L:k∉l:=λz=>by
   obtain⟨e,N,O⟩:=(T k).mp z;have q:=List.findIdx?_eq_none_iff.mp U e N;rw[O]at q;cases q
  have M:step_dedup l k=l++[k]:=by
   unfold step_dedup;refine if_neg λz=>?_;obtain⟨x,hx,ex⟩:=ξh.mp z;exact L (eq_of_beq ex ▸ hx)
  have p:∀(c:Bool) {g:Shared} {R:Unit→Shared→Prop},R () g→wpAny (model prog w) A (match c with|true=>rule "set.scan.the-table-gave-way" | false=>pure ()) R E g:=λc g R q=>by
   cases c
   ·exact AB q
   ·exact wpAny_rule q
  have d:=layNew_perm t i (hashInt k) (.int k tk);have f:=layNew_fits t i (hashInt k) (.int k tk);have hok:=Tq S i (hashInt k) (.int k tk);show wpAny _ _ (let(i,t,wasDummy,gave):=layNew t i (hashInt k) (.int k tk);_) _ _ _;generalize layNew t i (hashInt k) (.int k tk)=Z at d f hok ⊢;obtain⟨m,t1,wd,gv⟩:=Z;dsimp only at d f hok ⊢;rw[Array.toList_push]at d;have H:∀e∈m.toList,IsE e:=λe N=>by
   rcases ζu.mp (d.mem_iff.mp N)with z|z
   ·exact D e z
   ·rw[ζs.mp z];exact⟨k,tk,rfl⟩
  have B:(m.toList.map kOf).Perm (l++[k]):=by
   refine(d.map kOf).trans ?_;rw[ζF];exact hp.append_right _
  have I:m.size<scanBound:=by
   have q:=B.length_eq;rw[ζc,ζY,ζr]at q;have:m.size=l.length+1:=q;omega
  refine AA (p _ ?_);have V:∀h',Heap.SameBut a s.heap h'→SetI b a (l++[k]) h'→Q true {s with heap:=h'}:=λh' u v=>h true h' u (M.symm ▸ v);split
  ·refine AA ?_;rw[hashByValue_scannable 8 (x:=.int k tk) rfl];refine AB ?_;refine zcn ?_ C n hd H B I ?_ ?_ λh' u v=>AB (V h' u v)
   ·exact λc g R q=>p c q
   ·split
    ·exact f
    ·exact SetTable.fits_plain_off f
   ·split
    ·exact hok
    ·exact hok.plain
  ·refine AA (AB ?_);simp only[↓reduceIte];refine zcn ?_ C n hd H B I f hok λh' u v=>AB (V h' u v);exact λc g R q=>p c q
end
theorem yA:Slot "set_iterator" "__next__" "set_iterator.__next__" := .of (owner:= "set_iterator") (n:= "__next__")
 (by rw[typeLookup_type,builtinLookup_eq_fast];kernel_rfl) (by decide +kernel) (by decide +kernel)
 (by decide +kernel) (by first|exact .inl (by decide +kernel)|exact .inr (by decide +kernel))
 (by rw[isSubtype_type];kernel_rfl)
theorem vm:Slot "set_iterator" "__iter__" "set_iterator.__iter__" := .of (owner:= "set_iterator") (n:= "__iter__")
 (by rw[typeLookup_type,builtinLookup_eq_fast];kernel_rfl) (by decide +kernel) (by decide +kernel)
 (by decide +kernel) (by first|exact .inl (by decide +kernel)|exact .inr (by decide +kernel))
 (by rw[isSubtype_type];kernel_rfl)
theorem wN:entryFor table "set_iterator.__next__" = some Builtin.«set_iterator.__next__»:=entryFor_of_tree (by kernel_rfl)
theorem tH:entryFor table "set_iterator.__iter__" = some Builtin.«dict_keyiterator.__iter__»:=entryFor_alias (id':= "dict_keyiterator.__iter__") (by kernel_rfl) rfl (by decide +kernel) (by kernel_rfl)
theorem VE:entryFor table "set.__iter__" = some Builtin.«frozenset.__iter__»:=entryFor_alias (id':= "frozenset.__iter__") (by kernel_rfl) rfl (by decide +kernel) (by kernel_rfl)
theorem vn(a:Value):argsOk "set_iterator.__next__" ⟨[a],[]⟩:=by
 unfold argsOk
 kernel_rfl
theorem ZG(a:Value):argsOk "set_iterator.__iter__" ⟨[a],[]⟩:=by
 unfold argsOk
 kernel_rfl
def ItO(first:Value)(i:Nat)(a:Addr)(n ep:Nat):Obj:={cls:=.type "set_iterator", data:=.fields #[first,.int i 0,.ref a,.int n 0,.int ep 0]}
section
variable {prog:Program}{w:World}{A:Around}{E:AM}{s:Shared}{b:Bool}{a I:Addr}{l:AE}
theorem zch{n:Nat}{a:Source}{Q:Nat→Shared→Prop}(b:n≠0)(h:∀i,i<n→∀d,Q i {s with drawn:=d}):wpAny (model prog w) A (choose a n) Q E s:=
 λ_ _ _=>⟨b,h _ (Nat.mod_lt _ (Nat.pos_of_ne_zero b)) _⟩
theorem zcR{a:Type}:∀(n:Nat) (xs:List a) (s:Shared) {Q:List a→Shared→Prop},xs.length=n→(∀ys d,ys.Perm xs→Q ys {s with drawn:=d})→wpAny (model prog w) A (drawOrder n xs) Q E s
 | 0,xs,s,Q,hl,h=>by
  have:xs=[]:=List.length_eq_zero_iff.mp hl;subst this;unfold drawOrder;exact AB (h [] s.drawn .nil)
 | n+1,[],s,Q,hl,h=>by cases hl
 | n+1,x::xs,s,Q,hl,h=>by
  unfold drawOrder;refine AA (zch (by simp) λi hi d=>?_);rw[ζe hi];dsimp only;refine AA (zcR n _ _ (by rw[List.length_eraseIdx_of_lt hi];omega) λys b hp=>AB (h _ b ?_));have e:(x::xs)=(x::xs).take i++(x::xs)[i]::(x::xs).drop (i+1):=by
   rw[←ξU hi,ζ8]
  rw[ξK]at hp;refine(hp.cons _).trans ?_
  conv=>rhs;rw[e]
  exact ξL.symm
theorem zea{first x:Value}{slot i n b nx:Nat}{o:Obj}{d:Array (Int×Value)}{t:SetTable}{Q:Option Value→Shared→Prop}(c:s.heap.get? I=some (ItO (.int slot 0) i a n b))
  (f:s.heap.get? a=some o) (hd:o.data=.set d b t) (g:t.fits d.size=true) (h:d.size=n)
  (j:∀(A:Around) (E:AM) (R:Option (Value×Nat)→Shared→Prop),R (some (x,nx)) s→wpAny (model prog w) A (setNext a slot i b) R E s)
  (k:∀h',h'.get? I=some (ItO (.int nx 0) (i+1) a n b)→Heap.SameBut I s.heap h'→Q (some x) {s with heap:=h'}):wpAny (model prog w) A (pyNext (.ref I)) Q E s:=by
 have e:s.TypeIs (.ref I) "set_iterator" := ⟨_,c,rfl⟩
 unfold pyNext;refine AA (wpAny_attempt (wpAny_callSpecial?_slot (name:=Str.ofString "__next__") e yA (wpAny_call_entry yA e wN ?_ (vn _))));unfold Builtin.«set_iterator.__next__»;refine AA (AB ?_);refine AA (wpAny_fieldsOf c rfl ?_);refine AA (wpAny_setEntries_of f hd g ?_);rw[if_neg (by rw[h];simp)];dsimp only;refine AA (m:=setNext a _ _ _) ?_;rw[ζH,ζH,ζH];refine j _ _ _ ?_;dsimp only;have g1:(s.heap.update I (Obj.mapFields (·.setIfInBounds 0 (rawInt nx)))).get? I=some (ItO (.int nx 0) i a n b):=ζJ _ c rfl;refine AA (wpAny_setField c rfl (ξA _) ?_);have g2:((s.heap.update I (Obj.mapFields (·.setIfInBounds 0 (rawInt nx)))).update I (Obj.mapFields (·.setIfInBounds 1 (rawInt ((i:Int)+1))))).get? I=some (ItO (.int nx 0) (i+1) a n b):=ζJ _ g1 rfl;refine AA (wpAny_setField (s:={s with heap:=_}) g1 rfl (ξB (ξA _)) ?_);exact AB ⟨_,rfl,AB (k _ g2 ((Heap.SameBut.update ..).trans (Heap.SameBut.update ..)))⟩
theorem zcx{h:Heap}{Q:Option Value→Shared→Prop}(c:A.handled=none)(k:∀h',Heap.ExtBut I h h'→Q none {s with heap:=h'}):
  wpAny (model prog w) A.in1 (newExc (.type "StopIteration") [] >>= λe=>(raiseNew e:Sem Fin)) (λb s'=>∃r,b=.done (.ret r)∧False) (λe s'=>∃T,s'.TypeIs e T∧T = "StopIteration"∧Q none s') {s with heap:=h}:=by
 refine AA ?_;simp only[newExc,newTuple];refine AA (wpAny_newObj_type (hd:=by size_fits) (AA (m:=firstArgMember _ _) ?_));refine wpAny_of_eq (a:=Value.none) (by first|rfl|(simp only[firstArgMember];rfl)) (wpAny_newObj_type (hd:=by size_fits) ?_);simp only[raiseNew];have d:A.in1.handled=none:=c;apply AA;apply wpAny_handled;rw[d];exact AA (AB (wpAny_throw ⟨_,⟨_,ζo _ rfl,rfl⟩,rfl,k _ (((show Heap.ExtBut I h h from λ_ _ _ z=>z).push _).push _)⟩))
theorem endI{first:Value}{slot i n d:Nat}{o:Obj}{f:Array (Int×Value)}{t:SetTable}{Q:Option Value→Shared→Prop}(k:A.handled=none)(g:s.heap.get? I=some (ItO (.int slot 0) i a n d))
  (l:s.heap.get? a=some o) (hd:o.data=.set f d t) (p:t.fits f.size=true) (q:f.size=n)
  (r:∀(A:Around) (E:AM) (R:Option (Value×Nat)→Shared→Prop),R none s→wpAny (model prog w) A (setNext a slot i d) R E s)
  (v:∀h',Heap.ExtBut I s.heap h'→Q none {s with heap:=h'}):wpAny (model prog w) A (pyNext (.ref I)) Q E s:=by
 have h:s.TypeIs (.ref I) "set_iterator" := ⟨_,g,rfl⟩
 unfold pyNext;refine AA (wpAny_attempt (wpAny_callSpecial?_slot (name:=Str.ofString "__next__") h yA (wpAny_call_entry yA h wN ?_ (vn _))));unfold Builtin.«set_iterator.__next__»;refine AA (AB ?_);refine AA (wpAny_fieldsOf g rfl ?_);refine AA (wpAny_setEntries_of l hd p ?_);rw[if_neg (by rw[q];simp)];dsimp only;refine AA (m:=setNext a _ _ _) ?_;rw[ζH,ζH,ζH];refine r _ _ _ ?_;dsimp only;refine AA (wpAny_setField g rfl (ξB (ξB (ξA _))) ?_);refine wpAny_mono (zcx (I:=I) (s:=s) k λh' u=>v h' λc o' j z=>u c o' j ((Heap.SameBut.update ..).extBut c o' j z)) (λ_ _ z=>?_) λe s' z=>?_
 ·obtain⟨_,_,z⟩:=z;exact z.elim
 ·obtain⟨T,x,rfl,y⟩:=z;exact AA (wpAny_isInstance (T:= "StopIteration") (b:=true) x isSubtype_stop (AB y))
theorem zdA{i b:Nat}{o:Obj}{c:Array (Int×Value)}{t:SetTable}{R:Option (Value×Nat)→Shared→Prop}(d:w.params.followText "set-order" = true)
  (e:s.heap.get? a=some o) (hd:o.data=.set c b t) (f:t.fits c.size=true)
  (k:R (((pickOrder (w.params.setOrder a b) c).toList.map (·.2))[i]?.map λx=>(x,0)) s):wpAny (model prog w) A (setNext a 0 i b) R E s:=by
 unfold setNext;refine AA (wpAny_setState_of e hd f ?_);dsimp only;unfold setsByText;refine AA (AA (wpAny_askSetting (AB ?_)));rw[show(model prog w).w.params.followText "set-order" = true from d];simp only[↓reduceIte];rw[if_neg (by simp)];unfold setWalk;refine AA (AA (wpAny_setState_of e hd f ?_));dsimp only;unfold setsByText;refine AA (AA (wpAny_askSetting (AB ?_)));rw[show(model prog w).w.params.followText "set-order" = true from d];simp only[↓reduceIte];refine AA (wpAny_askSetting (AB (AB ?_)));rw[ζj,Option.map_map,ζ0]at k;exact k
def slP(t:SetTable):Nat→Nat
 | 0=>0
 | j+1=>t.place.getD j 0+1
theorem U7{t:SetTable}{c:Bool}(a:TOk c t){i:Nat}(hi:i≤t.place.size):SetTable.below t.place (slP t i)=i:=by
 cases i with
 | zero=>exact Uc a.rise
 | succ j =>
  have:t.place.getD j 0=t.place[j]:=by simp[show j<t.place.size by omega]
  show SetTable.below t.place (t.place.getD j 0+1)=_;rw[this];exact Ud a.rise j ⋯
theorem zbV{i d:Nat}{o:Obj}{b:Array (Int×Value)}{t:SetTable}{R:Option (Value×Nat)→Shared→Prop}(f:w.params.followText "set-order" = false)
  (g:s.heap.get? a=some o) (hd:o.data=.set b d t) (c:t.fits b.size=true) (e:TOk true t) (hp:(!t.plain&&decide (b.size>1))=false) (hi:i≤b.size)
  (k:R ((b.toList.map (·.2))[i]?.map λx=>(x,slP t (i+1))) s):wpAny (model prog w) A (setNext a (slP t i) i d) R E s:=by
 have j:t.place.size=b.size:=by
  simp only[SetTable.fits,Bool.and_eq_true,beq_iff_eq]at c;exact c.1
 unfold setNext;refine AA (wpAny_setState_of g hd c ?_);dsimp only;unfold setsByText;refine AA (AA (wpAny_askSetting (AB ?_)));rw[show(model prog w).w.params.followText "set-order" = false from f];simp only[Bool.false_eq_true,↓reduceIte];split
 ·rename_i z;exact absurd (hp.symm.trans z) #[2]
 refine AA (wpAny_of_eq (a:=()) ?_ ?_)
 ·show(if(!t.led&&!b.isEmpty)=true then _ else _)=_;rw[e.led];rfl
 rw[U7 e ⋯];refine AB ?_;rw[ζj,ζ0]at k;by_cases h:i<b.size
 ·rw[ξc h]at k ⊢;rw[ξc ⋯];have:slP t (i+1)=t.place[i]'⋯+1:=by
   show t.place.getD i 0+1=_;simp[show i<t.place.size by omega]
  rw[this]at k;exact k
 ·rw[Array.getElem?_eq_none ⋯]at k ⊢;exact k
theorem T8{f:Nat}{o:Obj}{b:Array (Int×Value)}{t:SetTable}{us:AK}{sl:Nat→Nat}(hd:o.data=.set b f t)(k:t.fits b.size=true)(p:us.length=b.size)(h:I≠a)
  (l:∀(i:Nat) (s:Shared) (A:Around) (E:AM) (R:Option (Value×Nat)→Shared→Prop),s.heap.get? a=some o→i≤b.size→R (us[i]?.map λx=>(x,sl (i+1))) s→wpAny (model prog w) A (setNext a (sl i) i f) R E s)
  (n:A.handled=none):WalksS prog w A I [I,a] [I] (λx y=>y=x) b.size (λi v=>us[i]?=some v) (λi s=>s.heap.get? I=some (ItO (.int (sl i) 0) i a b.size f)∧s.heap.get? a=some o) where
 sub:=λc d=>by rw[ζs.mp d];exact .head _
 grefl:=λ_=>rfl
 gtrans:=λ_ _ _ x y=>y.trans x
 frame:=λi s h' tk st _ m=>⟨m I (.head _) _ st.1,m a (.tail _ (.head _)) _ st.2⟩
 item:=λi s Q E hi st e=>by
  refine zea (first:=.none) (x:=us[i]'⋯) (nx:=sl (i+1)) st.1 st.2 hd k rfl (λA E R r=>l i s A E R st.2 ⋯ (by rw[ζe ⋯];exact r)) λh' g u=>?_;refine e _ _ (ζe ⋯) ⟨g,u.extBut a _ (Ne.symm h) st.2⟩ ⟨λc o' d z=>u.extBut c o' (λq=>d (by rw[q];exact .head _)) z,rfl,rfl,rfl,ζp _⟩
 done:=λs Q E st e=>by
  refine endI (first:=.none) n st.1 st.2 hd k rfl (λA E R r=>l b.size s A E R st.2 (ζp _) (by rw[ζT ⋯];exact r)) λh' u=>?_;exact e _ ⟨λc o' d z=>u c o' (λq=>d (by rw[q];exact .head _)) z,rfl,rfl,rfl,ζp _⟩
 self:=λi s Q E st e=>by
  have j:s.TypeIs (.ref I) "set_iterator" := ⟨_,st.1,rfl⟩
  refine wpAny_pyIter_slot j vm (wpAny_call_entry vm j tH ?_ (ZG _));show wpAny _ _ (ret (.ref I)) _ _ s;exact AB ⟨_,rfl, "set_iterator", _,j,yA.lookup,e⟩
end
section
variable {prog:Program}{w:World}{A:Around}{E:AM}{s:Shared}{b:Bool}{a I T:Addr}{l:AE}
theorem zeb{i n c p:Nat}{x:Value}{h o:Obj}{xs:Array Value}{m:Nat}{d:Array (Int×Value)}{t:SetTable}{Q:Option Value→Shared→Prop}(f:s.heap.get? I=some (ItO (.ref T) i a n c))
  (q:s.heap.get? T=some h) (r:h.data=.seq xs m) (hp:xs[i]?=some (.int p 0)) (j:(d.toList.map (·.2))[p]?=some x)
  (k:s.heap.get? a=some o) (hd:o.data=.set d c t) (l:t.fits d.size=true) (u:d.size=n)
  (v:∀h',h'.get? I=some (ItO (.ref T) (i+1) a n c)→Heap.SameBut I s.heap h'→Q (some x) {s with heap:=h'}):wpAny (model prog w) A (pyNext (.ref I)) Q E s:=by
 have b:s.TypeIs (.ref I) "set_iterator" := ⟨_,f,rfl⟩
 unfold pyNext;refine AA (wpAny_attempt (wpAny_callSpecial?_slot (name:=Str.ofString "__next__") b yA (wpAny_call_entry yA b wN ?_ (vn _))));unfold Builtin.«set_iterator.__next__»;refine AA (AB ?_);refine AA (wpAny_fieldsOf f rfl ?_);refine AA (wpAny_setEntries_of k hd l ?_);rw[if_neg (by rw[u];simp)];dsimp only;refine AA (wpAny_seqItems q r ?_);dsimp only;rw[ζH,hp];dsimp only;rw[ζH,ζH];refine AA ?_;unfold setNextDrawn;refine AA (wpAny_setState_of k hd l ?_);dsimp only;rw[if_neg (by simp)];rw[ζj,ζ0]at j;obtain⟨e,y,g⟩:=ξI.mp j;rw[y];obtain⟨B,z⟩:=e;have g:z=x:=g;subst g;refine AB ?_;have g2:(s.heap.update I (Obj.mapFields (·.setIfInBounds 1 (rawInt ((i:Int)+1))))).get? I=some (ItO (.ref T) (i+1) a n c):=ζJ _ f rfl;refine AA (wpAny_setField f rfl (ξB (ξA _)) ?_);exact AB ⟨_,rfl,AB (v _ g2 (Heap.SameBut.update ..))⟩
theorem endD{i n g:Nat}{k o:Obj}{xs:Array Value}{m:Nat}{h:Array (Int×Value)}{t:SetTable}{Q:Option Value→Shared→Prop}(l:A.handled=none)(f:s.heap.get? I=some (ItO (.ref T) i a n g))
  (p:s.heap.get? T=some k) (q:k.data=.seq xs m) (hp:xs[i]?=none)
  (r:s.heap.get? a=some o) (hd:o.data=.set h g t) (v:t.fits h.size=true) (x:h.size=n)
  (y:∀h',Heap.ExtBut I s.heap h'→Q none {s with heap:=h'}):wpAny (model prog w) A (pyNext (.ref I)) Q E s:=by
 have d:s.TypeIs (.ref I) "set_iterator" := ⟨_,f,rfl⟩
 unfold pyNext;refine AA (wpAny_attempt (wpAny_callSpecial?_slot (name:=Str.ofString "__next__") d yA (wpAny_call_entry yA d wN ?_ (vn _))));unfold Builtin.«set_iterator.__next__»;refine AA (AB ?_);refine AA (wpAny_fieldsOf f rfl ?_);refine AA (wpAny_setEntries_of r hd v ?_);rw[if_neg (by rw[x];simp)];dsimp only;refine AA (wpAny_seqItems p q ?_);dsimp only;rw[ζH,hp];dsimp only;have g1:(s.heap.update I (Obj.mapFields (·.setIfInBounds 0 (rawInt 0)))).get? I=some (ItO (.int 0 0) i a n g):=ζJ _ f rfl;refine AA (wpAny_setField f rfl (ξA _) ?_);refine AA (wpAny_setField (s:={s with heap:=_}) g1 rfl (ξB (ξB (ξA _))) ?_);refine wpAny_mono (zcx (I:=I) (s:=s) l λh' u=>y h' λc o' j z=>u c o' j ((Heap.SameBut.update ..).extBut c o' j ((Heap.SameBut.update ..).extBut c o' j z))) (λ_ _ z=>?_) λe s' z=>?_
 ·obtain⟨_,_,z⟩:=z;exact z.elim
 ·obtain⟨T,B,rfl,C⟩:=z;exact AA (wpAny_isInstance (T:= "StopIteration") (b:=true) B isSubtype_stop (AB C))
theorem zdS{K m:Nat}{o L:Obj}{d:Array (Int×Value)}{t:SetTable}{us:AK}{js:AF}(hd:o.data=.set d K t)(M:t.fits d.size=true)(C:I≠a)(D:I≠T)
  (N:L.data=.seq ((js.map λ(j:Nat)=>rawInt j).toArray) m) (F:js.length=d.size) (G:us=js.filterMap λj=>(d.toList.map (·.2))[j]?) (e:∀j∈js,j<d.size)
  (P:A.handled=none):WalksS prog w A I [I,a,T] [I] (λx y=>y=x) d.size (λi v=>us[i]?=some v) (λi s=>s.heap.get? I=some (ItO (.ref T) i a d.size K)∧s.heap.get? a=some o∧s.heap.get? T=some L) where
 sub:=λc f=>by rw[ζs.mp f];exact .head _
 grefl:=λ_=>rfl
 gtrans:=λ_ _ _ x y=>y.trans x
 frame:=λi s h' tk st _ l=>⟨l I (.head _) _ st.1,l a (.tail _ (.head _)) _ st.2.1,l T (.tail _ (.tail _ (.head _))) _ st.2.2⟩
 item:=λi s Q E hi st n=>by
  have H:i<js.length:=by omega
  have R:js[i]<d.size:=e _ (ξM H);have B:js[i]<(d.toList.map (·.2)).length:=by rw[ζc,ζY];exact R
  have S:us=js.map λj=>(d.toList.map (·.2)).getD j .none:=by
   rw[G];have:∀(js:AF),(∀j∈js,j<d.size)→(js.filterMap λj=>(d.toList.map (·.2))[j]?)=js.map λj=>(d.toList.map (·.2)).getD j .none:=by
    intro js;induction js with
    | nil=>intro _;rfl
    | cons j r U =>
     intro h;have O:j<(d.toList.map (·.2)).length:=by rw[ζc,ζY];exact h j (.head _)
     rw[List.filterMap_cons_some (b:=(d.toList.map (·.2))[j]) (ζe O),ξq,U λk l=>h k (.tail _ l),ζf,ζe O];rfl
   exact this js e
  have V:us[i]?=some ((d.toList.map (·.2))[js[i]]):=by
   rw[S,ζj,ζe H];show some ((d.toList.map (·.2)).getD js[i] .none)=_;rw[ζf,ζe B];rfl
  refine zeb (p:=js[i]) (x:=(d.toList.map (·.2))[js[i]]) st.1 st.2.2 N ?_ (ζe B) st.2.1 hd M rfl λh' g u=>?_
  ·simp[List.getElem?_map,List.getElem?_eq_getElem H,rawInt]
  ·exact n _ _ V ⟨g,u.extBut a _ (Ne.symm C) st.2.1,u.extBut T _ (Ne.symm D) st.2.2⟩ ⟨λc o' f z=>u.extBut c o' (λq=>f (by rw[q];exact .head _)) z,rfl,rfl,rfl,ζp _⟩
 done:=λs Q E st n=>by
  refine endD P st.1 st.2.2 N ?_ st.2.1 hd M rfl λh' u=>?_
  ·simp[F]
  ·exact n _ ⟨λc o' f z=>u c o' (λq=>f (by rw[q];exact .head _)) z,rfl,rfl,rfl,ζp _⟩
 self:=λi s Q E st n=>by
  have J:s.TypeIs (.ref I) "set_iterator" := ⟨_,st.1,rfl⟩
  refine wpAny_pyIter_slot J vm (wpAny_call_entry vm J tH ?_ (ZG _));show wpAny _ _ (ret (.ref I)) _ _ s;exact AB ⟨_,rfl, "set_iterator", _,J,yA.lookup,n⟩
theorem Xm{us vs:AK}(p:us.Perm vs):∀{ns:AE},IntsAre vs ns→∃d,IntsAre us d∧d.Perm ns:=by
 have c:∀{vs:AK} {ns:AE},IntsAre vs ns→(∀v∈vs,∃k t,v=.int k t)∧ns=vs.map λv=>kOf (0,v):=λ{vs ns} h=>by
  induction h with
  | nil=>exact⟨λ_ z=>(nomatch z),rfl⟩
  | cons n t _ b =>
   refine⟨λv a=>?_,?_⟩
   ·rcases ζq.mp a with rfl|a
    ·exact⟨n,t,rfl⟩
    ·exact b.1 v a
   ·rw[ξq,←b.2];rfl
 have back:∀us:AK,(∀v∈us,∃k t,v=.int k t)→IntsAre us (us.map λv=>kOf (0,v)):=λus=>by
  induction us with
  | nil=>exact λ_=>.nil
  | cons v r b =>
   intro h;obtain⟨k,t,rfl⟩:=h v (.head _);exact .cons k t (b λx e=>h x (.tail _ e))
 intro ns h;obtain⟨f,rfl⟩:=c h;exact⟨_,back us λv a=>f v (p.mem_iff.mp a),p.map _⟩
theorem zee{Q:AM}(D:w.params.followText "set-order" = b)(X:SetI (!b) a l s.heap)
  (k:∀(us:AK) (ns:AE) (I:Addr) (fp:List Addr) (St:Nat→Shared→Prop) (h':Heap) (d:Drawn),IntsAre us ns→ns.Perm l→us.length<scanBound→(∀c o,s.heap.get? c=some o→h'.get? c=some o)→s.heap.objs.size≤I→(∀c∈fp,c=a∨s.heap.objs.size≤c)→
   (∀A:Around,A.handled=none→WalksS prog w A I fp [I] (λx y=>y=x) us.length (λi v=>us[i]?=some v) St)→St 0 {s with heap:=h',drawn:=d}→Q (.ref I) {s with heap:=h',drawn:=d}) :
  wpAny (model prog w) A (pyIter (.ref a)) Q E s:=by
 obtain⟨o,e,C,t,m,K,hd,Y,hp,G,u,Z⟩:=X;have T:s.TypeIs (.ref a) "set" := ⟨o,m,K.1⟩
 have L:a<s.heap.objs.size:=ζl m;have B:IntsAre (e.toList.map (·.2)) (e.toList.map kOf):=IsE.ints Y;refine wpAny_pyIter_slot T F.slot_set_iter (wpAny_call_entry F.slot_set_iter T VE ?_ (F.args_set_iter_1 _));unfold Builtin.«frozenset.__iter__» Builtin.Frozenset.slot0;refine AA (AA (AB ?_));unfold Builtin.Frozenset.addrOf Builtin.Frozenset.sizeOf;refine AB ?_;refine AA (AA (wpAny_setEntries_of m hd u (AB ?_)));unfold setDrawn;refine AA (AA (wpAny_setState_of m hd u ?_));dsimp only;unfold setsByText;refine AA (AA (wpAny_askSetting (AB (AB ?_))))
 have g:∀(first:Value) (h:Heap) (d:Drawn) (U:h.get? a=some o),(∀v s',s'={s with heap:=h.push (ItO first 0 a e.size C),drawn:=d}→v=.ref h.objs.size→Q v s')→
   wpAny (model prog w) A.in1 (do
    let __do_lift←setEpoch a;let __do_lift←newFields "set_iterator" [first,rawInt 0,Value.ref a,rawInt ↑e.size,rawInt ↑__do_lift]
    ret __do_lift) (λg s'=>∃v,g=Fin.done (Flow.ret v)∧∃V r,s'.TypeIs v V∧typeLookup (Value.type V) (Str.ofString "__next__")=pure (some r)∧Q v s') E {s with heap:=h,drawn:=d}:=λfirst h d U q=>by
  refine AA (wpAny_setEpoch_of U hd u ?_);refine AA (wpAny_newObj_type (hd:=by size_fits) (AB ⟨_,rfl, "set_iterator", _,⟨_,ζo _ rfl,rfl⟩,yA.lookup,q _ _ rfl rfl⟩))
 cases b with
 | true =>
  rw[show(model prog w).w.params.followText "set-order" = true from D];simp only[Bool.not_true,Bool.false_and,Bool.false_eq_true,↓reduceIte];refine AA (AB (g (rawInt 0) s.heap s.drawn m ?_));rintro _ _ rfl rfl;have pm:=vT (w.params.setOrder a C) e;obtain⟨M,N,O⟩:=Xm (pm.map (·.2)) B;have n:((pickOrder (w.params.setOrder a C) e).toList.map (·.2)).length=e.size:=by rw[(pm.map _).length_eq,ζc,ζY]
  refine k _ M s.heap.objs.size [s.heap.objs.size,a] (λi s'=>s'.heap.get? s.heap.objs.size=some (ItO (.int ((λ_=>0) i:Nat) 0) i a e.size C)∧s'.heap.get? a=some o) _ s.drawn N (O.trans hp) (by rw[n];exact G)
   (λc o' z=>ζd _ z) (ζp _) (λc f=>?_) (λW h'=>by rw[n];exact T8 (sl:=λ_=>0) hd u n (ζ6 L) (λi s' P E' R z _ r=>zdA D z hd u r) h') ⟨ζo _ rfl,ζd _ m⟩
  rcases ζq.mp f with rfl|f
  ·exact .inr (ζp _)
  ·exact .inl (ζs.mp f)
 | false =>
  rw[show(model prog w).w.params.followText "set-order" = false from D];simp only[Bool.not_false,Bool.true_and];split
  ·rename_i p;refine AA (zcR e.size _ _ ζG λjs d H=>?_);refine AA (wpAny_newTuple ?_ (by rw[ζc,H.length_eq,ζG];exact fits_of_scanBound G));refine g _ _ d (ζd _ m) ?_;rintro _ _ rfl rfl;have S:∀j∈js,j<e.size:=λj z=>ζ1.mp (H.mem_iff.mp z);have pm:(js.filterMap λj=>(e.toList.map (·.2))[j]?).Perm (e.toList.map (·.2)):=by
    refine(H.filterMap _).trans ?_;have q:=filterMap_getElem?_range (e.toList.map (·.2)).toArray;simp only[List.size_toArray,List.length_map,Array.length_toList,List.getElem?_toArray]at q;rw[q]
   obtain⟨M,N,O⟩:=Xm pm B;have n:(js.filterMap λj=>(e.toList.map (·.2))[j]?).length=e.size:=by rw[pm.length_eq,ζc,ζY]
   have J:(s.heap.push {cls:=.type "tuple", data:=.seq (js.map λ(i:Nat)=>rawInt i).toArray}).objs.size=s.heap.objs.size+1:=ζS _ _
   refine k _ M _ [_,a,s.heap.objs.size] (λi s'=>s'.heap.get? _=some (ItO (.ref s.heap.objs.size) i a e.size C)∧s'.heap.get? a=some o∧s'.heap.get? s.heap.objs.size=some {cls:=.type "tuple", data:=.seq (js.map λ(i:Nat)=>rawInt i).toArray}) _ d N (O.trans hp) (by rw[n];exact G)
    (λc o' z=>ζd _ (ζd _ z)) (by rw[J];exact ξu _) (λc f=>?_) (λW h'=>by rw[n];exact zdS hd u (by rw[J];exact ζ6 (ξk L)) (by rw[J];exact Nat.succ_ne_self _) rfl (by rw[H.length_eq,ζG]) rfl S h')
    ⟨ζo _ rfl,ζd _ (ζd _ m),ζd _ (ζo _ rfl)⟩
   rcases ζq.mp f with rfl|f
   ·exact .inr (by rw[J];omega)
   ·rcases ζq.mp f with rfl|f
    ·exact .inl rfl
    ·exact .inr (by rw[ζs.mp f];exact ζp _)
  ·rename_i p;have p:(!t.plain&&decide (e.size>1))=false:=by
    cases q:(!t.plain&&decide (e.size>1))with
    | false=>rfl
    | true=>exact absurd q p
   refine AA (AB (g (rawInt 0) s.heap s.drawn m ?_));rintro _ _ rfl rfl;have n:(e.toList.map (·.2)).length=e.size:=by rw[ζc,ζY]
   refine k _ _ s.heap.objs.size [s.heap.objs.size,a] (λi s'=>s'.heap.get? s.heap.objs.size=some (ItO (.int (slP t i) 0) i a e.size C)∧s'.heap.get? a=some o) _ s.drawn B hp (by rw[n];exact G)
    (λc o' z=>ζd _ z) (ζp _) (λc f=>?_) (λW h'=>by rw[n];exact T8 (sl:=slP t) hd u n (ζ6 L) (λi s' P E' R z hi r=>zbV D z hd u Z p hi r) h') ⟨ζo _ rfl,ζd _ m⟩
   rcases ζq.mp f with rfl|f
   ·exact .inr (ζp _)
   ·exact .inl (ζs.mp f)
end
theorem XJ:typeLookup (.type "set") "__len__" = pure (some (.builtin "set.__len__")):=by
 rw[typeLookup_type,builtinLookup_eq_fast]
 kernel_rfl
section
variable {prog:Program}{w:World}{A:Around}{E:AM}{s:Shared}{b:Bool}{a I T:Addr}{l:AE}
theorem wiT{a:Type}{c:Prop}[Decidable c]{x y:Sem a}{Q:a→Shared→Prop}(b:c)(h:wpAny (model prog w) A x Q E s):wpAny (model prog w) A (if c then x else y) Q E s:=by
 rw[if_pos b];exact h
theorem zaX{Q:AK→Shared→Prop}(R:A.handled=none)(S:w.params.followText "set-order" = b)(M:SetI (!b) a l s.heap)
  (k:∀(us:AK) (ns:AE) (h':Heap) (d:Drawn) (tk:Nat),IntsAre us ns→ns.Perm l→(∀c o,s.heap.get? c=some o→h'.get? c=some o)→s.heap.objs.size≤h'.objs.size→Q us {s with heap:=h',drawn:=d,toks:=tk}) :
  wpAny (model prog w) A (collect (.ref a)) Q E s:=by
 obtain⟨oa,_,_,_,f,h,_⟩:=id M;have N:a<s.heap.objs.size:=ζl f;unfold collect;refine AA (wpAny_runValue (codeAny_builtin F.entry_proto_collect ?_));rw[Around.under_plainId F.plain_proto_collect _];show wpAny _ A.in1 (newList [] >>= λl=>again (.builtin "list.__iadd__" ⟨[l,.ref a],[]⟩)) _ _ s;refine AA (wpAny_newObj_type (AB ⟨plainId_quiet F.plain_list_iadd _,codeAny_builtin F.entry_list_iadd ?_⟩));rw[Around.under_plainId F.plain_list_iadd _];have T:(s.heap.push {cls:=.type "list", data:=.seq ([]:AK).toArray}).get? s.heap.objs.size=some {cls:=.type "list", data:=.seq ([]:AK).toArray}:=ζo _ rfl;have O:(s.heap.push {cls:=.type "list", data:=.seq ([]:AK).toArray}).objs.size=s.heap.objs.size+1:=ζS _ _;have C:SetI (!b) a l (s.heap.push {cls:=.type "list", data:=.seq ([]:AK).toArray}):=M.at λo z=>ζd _ z;have D:Shared.TypeIs {s with heap:=s.heap.push {cls:=.type "list", data:=.seq ([]:AK).toArray}} (.ref a) "set" := ⟨oa,ζd _ f,h.1⟩
 show wpAny _ A.in1 (Builtin.List.listExtendWith (.ref s.heap.objs.size) (.ref a) (.ref s.heap.objs.size)) _ _ _;unfold Builtin.List.listExtendWith;refine AA (wpAny_typeOf D ?_);have U:Builtin.List.listSameRef (.ref s.heap.objs.size) (.ref a)=false:=by simp[Builtin.List.listSameRef,Nat.ne_of_gt N]
 rw[if_neg (by rw[U];decide)];refine AA (zee S C λus ns I fp St j d hi hp V G H J W st=>?_);refine AA (wpAny_holding ?_);unfold Builtin.List.listLengthHint;have g:Shared.TypeIs {s with heap:=j,drawn:=d} (.ref a) "set" := ⟨oa,G _ _ (ζd _ f),h.1⟩
 refine AA (wpAny_specialOf g XJ ?_);dsimp only;rw[show splitId "set.__len__" = some ("set","__len__")from by decide +kernel];dsimp only;refine AA (wpAny_isInstance (b:=true) g (by rw[isSubtype_type];kernel_rfl) ?_);rw[if_neg #[2]];refine wiT (by decide +kernel) ?_;refine AA (wpAny_typeOf g (AB ?_));refine wiT (by decide +kernel) ?_;refine AA (wpAny_rule ?_);have m:s.heap.objs.size∉fp:=λz=>by
  rcases J _ z with q|q
  ·exact ζ6 N q
  ·have q:(s.heap.push {cls:=.type "list", data:=.seq ([]:AK).toArray}).objs.size≤s.heap.objs.size:=q;rw[O]at q;exact Nat.not_succ_le_self _ q
 have p:=G _ _ T;refine AA ?_;show wpAny _ A.in1 (updateSeq s.heap.objs.size (·.push .none) >>= λ_=>updateSeq s.heap.objs.size (·.pop)) _ _ _;refine AA (wpAny_updateSeq (s:={s with heap:=j,drawn:=d}) p rfl ?_);have r:=ζJ (Obj.mapSeq (·.push Value.none)) p rfl;refine wpAny_updateSeq (s:={s with heap:=_,drawn:=d}) r rfl ?_;have K:=ζJ (Obj.mapSeq (·.pop)) r rfl
 have t:∀c o,c≠s.heap.objs.size→j.get? c=some o→((j.update s.heap.objs.size (Obj.mapSeq (·.push Value.none))).update s.heap.objs.size (Obj.mapSeq (·.pop))).get? c=some o:=
  λc o n z=>(ζX _ _ (Ne.symm n)).trans ((ζX _ _ (Ne.symm n)).trans z)
 have X:A.in1.handled=none:=R;have P:=W A.in1 X
 refine AB ⟨plainId_quiet F.plain_extend_loop _,codeAny_extend_loopS P (fits_of_scanBound V) _ m _ us.length 0 _ _ _ rfl (ξa _)
  (P.frame 0 {s with heap:=j,drawn:=d} _ s.toks st (ζp _) λc Y o z=>t c o (λq=>m (q ▸ Y)) z) K (ItemsOf.nil _) λs' acc c' B u v=>?_⟩
 show wpAny _ A (load s.heap.objs.size >>= _) _ _ s';refine AA (wpAny_load u (AB ?_));have e:acc.toList=us:=by
  refine ξJ λi=>?_;rw[ζ0];by_cases x:i<acc.size
  ·rw[ξc x];exact(v.2 i _ (ξc x)).symm
  ·rw[Array.getElem?_eq_none ⋯,ζT (by have:=v.1;omega)]
 rw[e];obtain⟨Z,gx,dx,tx,ox⟩:=s';have eg:gx=s.gens:=B.gens;have ed:dx=d:=B.drawn;have eo:ox=s.os:=B.os;subst eg;subst ed;subst eo;refine k us ns Z dx tx hi hp (λc o z=>?_) (Nat.le_of_lt (ζl u));have L:c<s.heap.objs.size:=ζl z;refine B.heap c o (λq=>?_) (t c o (ζt L) (G _ _ (ζd _ z)));rcases ζq.mp q with q|q
 ·exact ζt L q
 ·have q:=ζs.mp q;subst q;have y:(s.heap.push {cls:=.type "list", data:=.seq ([]:AK).toArray}).objs.size≤c:=H;rw[O]at y;exact ξV.mpr (Nat.le_of_succ_le y) L
theorem zbh{Q:AM}(p:A.handled=none)(q:w.params.followText "set-order" = b)(r:SetI (!b) a l s.heap)(t:l.length<64)
  (k:∀(out:Array Value) (ns:AE) (c:Addr) (e:Nat) (h':Heap) (d:Drawn) (tk:Nat),IntsAre out.toList ns→ns.Perm l→ns.Pairwise (·≤·)→(∀c o,s.heap.get? c=some o→h'.get? c=some o)→s.heap.objs.size≤c→h'.get? c=some (seqObj "list" out e)→
   Q (.ref c) {s with heap:=h',drawn:=d,toks:=tk}):wpAny (model prog w) A (call (.builtin "sorted") [.ref a]) Q E s:=by
 refine Calls.call_function_entry kind_sorted plain_sorted entry_sorted (args_sorted1 _) ?_;unfold Builtin.«sorted»;refine AA (m:=checkCount "sorted" 1 1 _) (AB ?_);refine AA (zaX (A:=A.in1) p q r λus ns f d tk hi hp u le=>?_);have C:us.length=l.length:=by rw[IntsAre.length hi,hp.length_eq]
 refine AA (wpAny_newList ?_ (by have:=fits_of_scanBound (n:=us.length) (by unfold scanBound;omega);exact this));have g:(f.push (seqObj "list" us.toArray 0)).get? f.objs.size=some (seqObj "list" us.toArray 0):=ζo _ rfl;have h:(f.push (seqObj "list" us.toArray 0)).objs.size=f.objs.size+1:=ζS _ _;refine AA (wpAny_holding (wpAny_call_entry (s:={s with heap:=f.push (seqObj "list" us.toArray 0),drawn:=d,toks:=tk}) slot_list_sort ⟨_,g,rfl⟩ entry_list_sort (list_sort_tree g hi ⋯ λout i v x y=>⟨_,rfl,?_⟩) (args_list_sort _)));obtain⟨e,B⟩:=sortedHeap_at (out:=out) g;refine AB ⟨_,rfl,k out i f.objs.size e _ d tk v (x.trans hp) y (λc o z=>?_) le B⟩;have j:=u c o z;rw[sortedHeap_old (ζt (ζl j)) (by rw[h];exact ξk (ζl j))];exact ζd _ j
theorem za9{R:Result→Shared→Prop}{fp a:List Addr}{G:Array GenState→Array GenState→Prop}{n:Nat}{P:Nat→Value→Prop}{St:Nat→Shared→Prop}(W:WalksS prog w A.in1 I fp a G n P St)(S:Addr)(d:S∉fp)
  (val:Nat→Int) (e:∀i v,P i v→∃t,v=.int (val i) t) (M:n+1<scanBound) :
  ∀(k i:Nat) (s:Shared),n-i=k→i≤n→St i s→SetI b S (firstMet val i) s.heap→(∀s',Moved (S::a) G s s'→SetI b S (firstMet val n) s'.heap→R (.ok (.ret .none)) s')→
   codeAny (model prog w) A (.builtin "set.update.loop" ⟨[.ref S,.ref I],[]⟩) R s:=by
 have f:S∉a:=λh=>d (W.sub _ h);have sb:∀c∈a,c∈S::a:=λc=>ζb _;intro k;induction k with
 | zero =>
  intro i s J hi st y B;obtain rfl:i=n:=by omega
  refine codeAny_builtin F.entry_set_update_loop ?_;rw[Around.under_plainId F.plain_set_update_loop _];show wpAny _ A.in1 (pyNext (.ref I) >>= _) _ _ s;refine AA (W.done s _ _ st λs' g=>AB (B s' (g.mono sb) (y.at λo z=>g.heap S o f z)))
 | succ k K =>
  intro i s J hi st y B;have j:i<n:=by omega
  refine codeAny_builtin F.entry_set_update_loop ?_;rw[Around.under_plainId F.plain_set_update_loop _];show wpAny _ A.in1 (pyNext (.ref I) >>= _) _ _ s;refine AA (W.item i s _ _ j st λv s' L C g=>?_);obtain⟨t,rfl⟩:=e i v L;have D:SetI b S (firstMet val i) s'.heap:=y.at λo z=>g.heap S o f z;show wpAny _ A.in1 (holding [Value.int (val i) t] (setAdd S (.int (val i) t)) >>= _) _ _ s';refine AA (wpAny_holding ?_);unfold setAdd;refine wpAny_holding (AA ((intKind prog w).pyHash (k:=val i) (intKind_is _ _ _ _) ?_));have l:(firstMet val i).length+1<scanBound:=by have:=firstMet_length_le val i;omega
  refine addI (s:={s' with toks:=s'.toks+1}) D l λr h' u m=>?_;rw[←firstMet_succ]at m;refine AB ⟨plainId_quiet F.plain_set_update_loop _,K (i+1) _ ⋯ j (W.frame _ s' _ _ C (ξu _) λc E o z=>?_) m λH p x=>?_⟩
  ·rw[u.2 c λq:c=S=>d (by rw[←q];exact E)];exact z
  ·refine B H (Moved.trans W.gtrans ((g.mono sb).then_heap (ξu _) λc o E z=>?_) p) x;rw[u.2 c λq:c=S=>E (by rw[q];exact .head _)];exact z
theorem newI(x:Value){Q₁:AM}(c:w.params.followText "set-order" = b)
  (h:Q₁ (.ref s.heap.objs.size) {s with heap:=s.heap.push {cls:=.type "set", dict:=none,data:=.set #[] 0 (.fresh 0 0 (!b))}}) :
  codeAny (model prog w) A (.call (.builtin "set.__new__") ⟨[.type "set", x],[]⟩) (wants Q₁ E) s:=by
 refine codeAny_of_tree ?_;show wpAny _ A.in1 (do checkBuiltinCall "set.__new__" ⟨[.type "set", x],[]⟩;again (.builtin "set.__new__" ⟨[.type "set", x],[]⟩)) _ _ s;refine AA (wpAny_of_eq (F.newCall_set_1 x) (AB ⟨plainId_quiet F.plain_set_new _,codeAny_builtin F.entry_set_new ?_⟩));rw[Around.under_plainId F.plain_set_new _];unfold Builtin.«set.__new__» Builtin.Frozenset.newClass;have a:=sub_set_self;obtain⟨hp,g,d,tk,os⟩:=s;dsimp only
 wp_walk
 refine wpAny_askSetting (AB ?_);dsimp only;simp only[newObj];refine AA (wpAny_alloc (AB (AB ?_)));rw[show(model prog w).w.params.followText "set-order" = b from c];exact h
set_option maxHeartbeats 3200000 in
theorem zc1{L:Addr}{a:Array Value}{ns:AE}{Q:AM}(Z:A.handled=none)(hb:w.params.followText "set-order" = b)(hl:s.heap.IsList L a)(hi:IntsAre a.toList ns)(hz:a.size+1<scanBound)
  (k:∀(h':Heap) (tk:Nat),SetI (!b) s.heap.objs.size (firstMet (λi=>ns.getD i 0) a.size) h'→(∀c o,s.heap.get? c=some o→h'.get? c=some o)→Q (.ref s.heap.objs.size) {s with heap:=h',toks:=tk}) :
  wpAny (model prog w) A (call (.type "set") [.ref L]) Q E s:=by
 obtain⟨c,tl,V⟩:=F.called_set.mro;have K:=F.called_set.made;have W:=F.called_set.sub;refine wpAny_call (codeAny_of_tree ?_);show wpAny _ _ (callAny (.type "set") _) _ _ _;refine AB ⟨Code.quiet_builtin _ (by decide +kernel),codeAny_builtin F.entry_type_call ?_⟩;rw[Around.under_plain (weight_type_call_type "set" [.ref L] []) rfl];have h1:=F.called_set.notType;have h2:=F.called_set.canCreate;have a0:=F.typeCall_set_1 (.ref L)
 repeat (any_goals (first|assumption|wp_step))
 refine codeAny_mono (newI (.ref L) (E:=E) hb (Q₁:=λx g=>x=.ref s.heap.objs.size∧g={s with heap:=s.heap.push {cls:=.type "set", dict:=none,data:=.set #[] 0 (.fresh 0 0 (!b))}}) ⟨rfl,rfl⟩) λr g M=>?_;cases r with
 | error e=>exact M
 | ok fl =>
  cases fl with
  | ret obj =>
   obtain⟨rfl,rfl⟩:=M;generalize f:({cls:=.type "set", dict:=none,data:=.set #[] 0 (.fresh 0 0 (!b))}:Obj)=h;have X:(s.heap.push h).get? s.heap.objs.size=some h:=ζo _ (by rw[←f];rfl);have hS0:SetI (!b) s.heap.objs.size [] (s.heap.push h):=⟨h,#[],0,_,X,by rw[←f];exact⟨rfl,rfl,rfl⟩,by rw[←f],(λe z=>by simp at z),.nil,#[2],by rfl,TOk.fresh⟩
   have hT:Shared.TypeIs {s with heap:=s.heap.push h} (.ref s.heap.objs.size) "set" := ⟨_,X,by rw[←f]⟩
   have a1:=F.called_set.init.lookup;have a2:=F.called_set.init.bind (.ref s.heap.objs.size)
   repeat (any_goals (first|assumption|wp_step))
   refine codeAny_mono (codeAny_call_builtin (R:=wants (λr j=>r=.none∧∃h' tk,j={s with heap:=h',toks:=tk}∧SetI (!b) s.heap.objs.size (firstMet (λi=>ns.getD i 0) a.size) h'∧
     (∀c o,s.heap.get? c=some o→h'.get? c=some o)) E) F.called_set.init.plain F.entry_set_init (check_set_init_1 hT ?_)) λp j d=>?_
   ·obtain⟨ol,u,y,nl,B⟩:=hl;obtain⟨oc,od,a3,osl⟩:=ol;simp only at y B;subst y;subst B;have C:(s.heap.push h).get? L=some {cls:=.type "list", dict:=od,data:=.seq a nl,slots:=osl}:=ζd _ u;have e1:=F.sub_list_set;have e2:=F.sub_list_frozenset;have a4:(Value.type "list" == Value.type "dict")=false:=by decide
    have D:(s.heap.push h).IsList L a:=⟨_,C,rfl,nl,rfl⟩
    have l:(s.heap.push h).objs.size=s.heap.objs.size+1:=ζS _ _;subst f;unfold Builtin.«set.__init__» noKeywords Builtin.Frozenset.updateFrom;generalize N:pyIter=PI
    wp_walk
    subst N;refine wpAny_pyIter_list D ?_;refine AA (wpAny_runValue ?_);have G:L<s.heap.objs.size:=ζl u;have O:A.in1.in1.in1.handled=none:=Z;have H:L≠(s.heap.push {cls:=.type "set", dict:=none,data:=.set #[] 0 (.fresh 0 0 (!b))}).objs.size:=by rw[l];exact ζt (ξk G)
    have P:s.heap.objs.size∉[(s.heap.push {cls:=.type "set", dict:=none,data:=.set #[] 0 (.fresh 0 0 (!b))}).objs.size,L]:=by
     rw[l];intro z;rcases ζq.mp z with z|z
     ·exact ζt (ξ2 _) z
     ·exact ζ6 G (ζs.mp z)
    have I:∀(i:Nat) (v:Value),a[i]?=some v→∃t,v=.int ((λi=>ns.getD i 0) i) t:=λi v hv=>IntsAre.int_at hi i v (by rw[ζ0];exact hv);refine za9 (b:=!b) ((Walks.list O _ L H a).toS) s.heap.objs.size P (λi=>ns.getD i 0) I hz (a.size-0) 0 _ ⋯ (ξa _) ⟨⟨_,ζo _ rfl,rfl,rfl⟩,(D.push _)⟩ ?hS0 ?hR
    case hS0=>exact hS0.at λo z=>ζd _ z
    case hR =>
     intro s' J m;obtain⟨h',g',d',S,T⟩:=s';have eg:g'=s.gens:=J.gens;have ed:d'=s.drawn:=J.drawn;have eo:T=s.os:=J.os;subst eg;subst ed;subst eo;show wpAny _ _ _ _ _ _;refine AB ?_;show wpAny _ _ (ret Value.none) _ _ _;refine AB ⟨rfl,h',S,rfl,m,λc o z=>?_⟩;have Y:c<s.heap.objs.size:=ζl z;refine J.heap c o (λq=>?_) (ζd _ (ζd _ z));rcases ζq.mp q with q|q
     ·exact ζt Y q
     ·have q:=ζs.mp q;rw[l]at q;exact ζt (ξk Y) q
   ·cases p with
    | error e=>exact d
    | ok n =>
     cases n with
     | ret r =>
      obtain⟨rfl,h',tk,rfl,m,U⟩:=d
      repeat (any_goals (first|assumption|wp_step))
      exact k _ _ m U
     | _=>exact d.elim
  | _=>exact M.elim
end
section
variable {X:Cx}{K:ζa}{b:Bool}
def SetB(b:Bool)(a:Addr)(l:AE):HO:=.ext (SetI (!b) a l)
theorem Uq{P:Program}{w:World}{H:Hp}{h:Heap}{a:Addr}{l:AE}(x:SetI (!b) a l h):yN P w H h a (SetB b a l):=
 ⟨x,(let⟨o,_,_,_,c,_⟩:=x;⟨o,c⟩),λ_ _ d k=>d.at k⟩
def Uu(K:ζa)(b:Bool):List V→Hp→VK→Prop:=λxs H Q=>∃p ns,xs=[.ref p]∧SqL K H p (ns.map V.int)∧ns.length<4000∧∀l,H l=none→Q (.ref l) (upd H l (SetB b l (dd ns)))
theorem ZB(f:X.K=K)(g:X.calm=true)(i:X.w.params.followText "set-order" = b):yo X (.type "set") (Uu K b):=by
 subst f;intro pins s σ H xs us Q I r h;obtain⟨p,ns,rfl,hq,n,q⟩:=h;obtain⟨u,rfl,j⟩:=wa r;cases j;obtain⟨a,c,pl,k⟩:=I.list hq;have d:=c.length;rw[ζc]at d k;refine zc1 (ns:=ns) (I.ok.hd g) i pl.isList (by simpa using xU c) (by rw[List.size_toArray];unfold scanBound;omega) λh' tk e l=>?_;have m:a.toArray.size=ns.length:=by rw[ζE,d]
 rw[m,Za]at e;exact⟨.ref s.heap.objs.size,_,I.laid (t':=tk) l (ζp _) (Uq e),rfl,q _ (I.hok.fresh (ζp _))⟩
def WQ(b:Bool):List V→Hp→VK→Prop:=λxs H Q=>∃p l,xs=[.ref p]∧H p=some (SetB b p l)∧l.length<64∧∀c,H c=none→Q (.ref c) (upd H c (.lst ((srt l).map V.int)))
theorem WB(i:X.calm=true)(j:X.w.params.followText "set-order" = b):yo X (.builtin "sorted") (WQ b):=by
 intro pins s σ H xs us Q I r h;obtain⟨p,l,rfl,k,f,q⟩:=h;obtain⟨u,rfl,m⟩:=wa r;cases m;have n:SetI (!b) p l s.heap:=(I.hok p _ k).1;refine zbh (I.ok.hd i) j n f λout ns c e h' d tk o t v x a y=>?_;have A:=VD t v;subst A;have g:Inv X pins σ (upd H c (.lst ((srt l).map V.int))) {s with heap:=h',toks:=tk}:=I.laid (t':=tk) x a (show yN X.prog X.w _ _ _ (.lst ((srt l).map V.int))from⟨by rw[List.length_map,(wZ l).length_eq,sizeLine_eq];omega,out.toList,e,vh o,by simpa using y⟩);have B:=g.call (ch:=[]) (h':=h') (g':=s.gens) (d':=d) (t':=tk) Un.refl g.hok g.bare (λ_ z=>nomatch z);exact⟨.ref c,_,B,rfl,q _ (I.hok.fresh a)⟩
def zcE(b:Bool):List V→Hp→VK→Prop:=λxs H Q=>∃p l,xs=[.ref p]∧H p=some (SetB b p l)∧Q (.int l.length) H
theorem TV:yo X (.builtin "len") (zcE b):=by
 intro pins s σ H xs us Q I r h;obtain⟨p,l,rfl,c,q⟩:=h;obtain⟨u,rfl,d⟩:=wa r;cases d;obtain⟨o,f,k,t,g,a,hd,_,hp,i,j,_⟩:SetI (!b) p l s.heap:=(I.hok p _ c).1;have e:f.size=l.length:=by have:=hp.length_eq;simpa using this
 exact PySem.call_len_set g a hd j (by unfold scanBound at i;omega) ⟨.int l.length,H,I.tok _,⟨_,by rw[e]⟩,q⟩
end
end L2
namespace PD
open PySem L2
section
variable {K:ζa}{S S':Sx}{κ κ' b:Bool}{Γ Γ' Γ'':Ctx}{P:Post}
theorem Y5{f:TE}{ns:AE}(h:EvL K S false f Γ (ns.map .int))(g:ns.length<64):EvO K S κ (tCB (WQ b) (zF (tCB (Uu K b) (zF f tNil)) tNil)) Γ ((srt (dd ns)).map .int):=λH0 F0 H F σ e Q q =>
 h H0 F0 H F σ e _ λa vs l i g1 j k=>by
  cases yd (zI k);refine⟨a,ns,rfl,j,⋯,λp hp=>⟨p,dd ns,rfl,zm,Nat.lt_of_le_of_lt (V2 ns) g,λc d=>?_⟩⟩
  have g2:=g1.trans (.newO g1.le hp (SetB b p (dd ns)));exact q c _ _ i (g2.trans (.newO g2.le d _)) (g2.h.free d) zm (g2.le.free d) (vo _)
end
end PD
namespace L2
open PySem PySem.Spec PyProof.Rows
theorem QP(vs:AK):slicePick vs.toArray none none (some (-1))=vs.reverse.toArray:=by
 unfold slicePick;congr 1;have e:sliceBounds none none (some (-1)) vs.toArray.size=((vs.length:Int)-1,-1,-1):=by
  unfold sliceBounds;simp
 rw[e];show(sliceRange ((vs.length:Int)-1) (-1) (-1)).filterMap _=_;have f:sliceRange ((vs.length:Int)-1) (-1) (-1)=(List.range vs.length).map λk=>vs.length-1-k:=by
  unfold sliceRange;have g:(if(-1:Int)>0 then(if(vs.length:Int)-1 < -1 then(-1-((vs.length:Int)-1)+-1-1) / -1 else 0)else(if(vs.length:Int)-1>-1 then((vs.length:Int)-1 - -1 - -1-1)/(- -1)else 0)).toNat=vs.length:=by
   rw[if_neg #[2]];split
   ·have:((vs.length:Int)-1 - -1 - -1-1)/(- -1)=vs.length:=by
     rw[show(- -1:Int)=1 from rfl,Int.ediv_one];omega
    rw[this];rfl
   ·show(0:Nat)=_;omega
  dsimp only;rw[g];refine ξo λk a=>?_;have:=ζ1.mp a;omega
 rw[f];refine ξJ λi=>?_;have c:((List.range vs.length).map λk=>vs.length-1-k).filterMap (λj=>vs.toArray[j]?)=(List.range vs.length).map λk=>vs.getD (vs.length-1-k) .none:=by
  rw[List.filterMap_map];have:∀l:AF,(∀k∈l,k<vs.length)→l.filterMap ((λj=>vs.toArray[j]?)∘λk=>vs.length-1-k)=l.map λk=>vs.getD (vs.length-1-k) .none:=by
   intro l;induction l with
   | nil=>intro _;rfl
   | cons k r m =>
    intro h;have a:=h k (.head _);have d:vs.length-1-k<vs.length:=by omega
    rw[List.filterMap_cons_some (b:=vs[vs.length-1-k]) (by show vs.toArray[vs.length-1-k]?=_;simp[d]),List.map_cons,m λx n=>h x (.tail _ n),List.getD_eq_getElem?_getD,List.getElem?_eq_getElem d];rfl
  exact this _ λk a=>ζ1.mp a
 rw[c,ζj];by_cases hi:i<vs.length
 ·rw[ξw hi,List.getElem?_reverse hi];show some (vs.getD (vs.length-1-i) .none)=_;rw[ζf,ζe ⋯];rfl
 ·rw[ζT (by rw[ζG];omega),ζT (by rw[ξE];omega)];rfl
section
variable {X:Cx}{K:ζa}{e:Expr}{te:TE}{lo hi:Option Expr}{st:Expr}{tl th ts:TO}{p2 pos:Pos}
def zcr(K:ζa)(te:TE)(tl th ts:TO):TE:=λσ H Q=>te σ H λx H1=>tl σ H1 λl H2=>th σ H2 λu H3=>ts σ H3 λd H4 =>
 ∃a xs,x=.ref a∧l=none∧u=none∧d=some (-1)∧SqL K H4 a xs∧∀c,H4 c=none→Q (.ref c) (upd H4 c (.lst xs.reverse))
theorem T9{xs:List V}{us:AK}(h:Vals xs us):Vals xs.reverse us.reverse:=by
 induction h with
 | nil=>exact .nil
 | cons r _ a=>rw[ξl,ξl];exact a.append (.cons r .nil)
theorem zbD(n:X.K=K)(p:PE X e te)(t:PO X lo tl)(y:PO X hi th)(z:PO X (some st) ts):PE X (.Subscript e (.Slice lo hi (some st) p2) pos) (zcr K te tl th ts):=by
 subst n;intro pins s σ H Q I h;refine Subscript_ (thn (p pins s σ H _ I h) λv s1 ⟨x,B,C,D,E⟩=>?_);refine wpAny_Slice (thn (t pins s1 σ B _ C E) λg s2 ⟨l,F,G,pl,J⟩=>thn (y pins s2 σ F _ G J) λi L ⟨u,M,N,O,P⟩=>thn (z pins L σ M _ N P) λj c ⟨d,R,S,T,U⟩=>?_);obtain⟨a,xs,rfl,rfl,rfl,rfl,V,q⟩:=U;cases D;have f:Inv X pins σ R {c with heap:=c.heap.push {cls:=.type "slice", data:=.fields #[g,i,j]}}:=S.kept (t':=c.toks) λb ob q=>ζd _ q;obtain⟨W,r,k,Y⟩:=f.list V;have m:=r.length;show wpAny (model X.prog X.w) X.A (subscriptTail e (.Slice lo hi (some st) p2) (.ref a) (.ref c.heap.objs.size)) (EP X pins σ Q) X.xe {c with heap:=c.heap.push {cls:=.type "slice", data:=.fields #[g,i,j]}};refine tail_any (ops:=[.ref a,.ref c.heap.objs.size]) k.isList.typeIs slot_list_getitem.lookup (wpAny_getItem_list_slice k.isList (Heap.IsSliceOf.new ..) pl O T (by simp) ?_ (by rw[List.size_toArray]<;>omega)) (by with_unfolding_all rfl);rw[QP];refine⟨.ref _,_,f.laid (t':=c.toks) (o:=.lst xs.reverse) (λb ob q=>ζd _ q) (ζp _) ?_,rfl,q _ (f.hok.fresh (ζp _))⟩
 exact⟨by rw[ξE];exact Y,_,0,T9 r,ζo _ rfl⟩
end
end L2
namespace PD
open PySem L2
section
variable {K:ζa}{S S':Sx}{κ κ':Bool}{Γ Γ' Γ'':Ctx}{P:Post}
theorem zq.rev{H0 F:Hp}:∀{vs:List V} {ds:AG},zq K κ S H0 F vs ds→zq K κ S H0 F vs.reverse ds.reverse
 | [],_,h=>by cases h;exact .nil
 | v::vs,_,h=>by
  cases h with
  | cons r h=>rw[ξl,ξl];exact zq.append (zq.rev h) (.cons r .nil)
theorem zaF{t:TE}{tl b ts:TO}{ds:AG}(h:EvL K S κ t Γ ds)(c:EvP K S tl Γ none)(d:EvP K S b Γ none)(g:EvP K S ts Γ (some (-1))):EvO K S κ (zcr K t tl b ts) Γ ds.reverse:=λH0 F0 H F σ e Q q =>
 h H0 F0 H F σ e _ λa vs i j g1 k l=>c H0 F0 i j σ (e.mono g1) _ λm n g2=>d H0 F0 m n σ ((e.mono g1).mono g2) _ λo r g3=>g H0 F0 o r σ (((e.mono g1).mono g2).mono g3) _ λu s g4 =>
  ⟨a,vs,rfl,rfl,rfl,rfl,((g2.h.trans g3.h).trans g4.h).seq k,λp hp=>q p _ _ s ((((g1.trans g2).trans g3).trans g4).trans (.newO g4.le hp _)) ((((g1.trans g2).trans g3).trans g4).h.free hp) zm (g4.le.free hp) (zq.rev (zu ((g2.f.trans g3.f).trans g4.f) l))⟩
theorem zaL{h tb i:TE}{a b:AD}{G:AD→Prop}(j:EvE K S κ h Γ a)(k:EvE K S κ tb Γ b)(g:EvG K S κ i Γ G):EvG K S κ (tTup (zF h (zF tb (zF i tNil)))) Γ (λd=>∃c,G c∧d=.tuple [a,b,c]):=λH0 F0 H F σ e Q q =>
 j H0 F0 H F σ e _ λl m n g1 o=>k H0 F0 m n σ (e.mono g1) _ λr s t g2 u=>g H0 F0 s t σ ((e.mono g1).mono g2) _ λc v y w g g3 x =>
  ⟨by show 3≤sizeLine;decide,λp hp=>q _ _ _ (upd w p (.tup [l,r,v])) ⟨c,g,rfl⟩ (((g1.trans g2).trans g3).trans (.new g3.le hp _)) (.tup (SqT.of zm) (zu (Same.new (g3.le.free hp) _) (.cons (yg (g2.f.trans g3.f) o) (.cons (yg g3.f u) (.cons x .nil)))))⟩
end
end PD
namespace L2
open PySem
end L2
namespace L2
open PySem PySem.Spec PyProof.Rows
theorem XL:entryFor table "set.__and__" = some Builtin.«frozenset.__and__»:=entryFor_alias (id':= "frozenset.__and__") (by kernel_rfl) rfl (by decide +kernel) (by kernel_rfl)
def YM(b:Bool)(m:Nat)(a:Addr)(h:Heap):Prop:=∃o ep t,h.get? a=some o∧o.ExactSet∧o.data=.set #[] ep t∧TOk b t∧t.place=#[]∧(∃k,t.mask+1=2^k)∧m≤t.mask
theorem YM.fits{t:SetTable}{b:Bool}(h:TOk b t)(e:t.place=#[]):t.fits (#[]:Array (Int×Value)).size=true:=by
 unfold SetTable.fits SetTable.fill;rw[e,h.dum];simp
theorem YM.set{b:Bool}{m:Nat}{a:Addr}{h:Heap}(x:YM b m a h):SetI b a [] h:=by
 obtain⟨o,d,t,f,g,hd,c,hp,_⟩:=x;exact⟨o,#[],d,t,f,g,hd,(λe z=>by simp at z),.nil,#[2],YM.fits c hp,c⟩
section
variable {prog:Program}{w:World}{A:Around}{E:AM}{s:Shared}{b:Bool}{a r o:Addr}{l l1 l2:AE}{m:Nat}
end
section
variable {prog:Program}{w:World}{A:Around}{E:AM}{s:Shared}{bt:Bool}{a r o:Addr}{l l1 l2:AE}{m:Nat}
theorem zbN{Q:AM}(a:w.params.followText "set-order" = bt)
  (k:∀ob,YM (!bt) 7 s.heap.objs.size (s.heap.push ob)→Q (.ref s.heap.objs.size) {s with heap:=s.heap.push ob}):wpAny (model prog w) A (newSet (.type "set")) Q E s:=by
 unfold newSet setsByText;refine AA (AA (wpAny_askSetting (AB ?_)));rw[show(model prog w).w.params.followText "set-order" = bt from a];dsimp only;simp only[newObj];exact AA (wpAny_alloc (AB (k _ ⟨_,0,_,ζo _ rfl,⟨rfl,rfl,rfl⟩,rfl,TOk.fresh,rfl,⟨3,rfl⟩,ζp _⟩)))
theorem zc9{d:List Addr}{Q:Bool→Shared→Prop}(h:∀a∈d,∃b l,SetI b a l s.heap)(k:Q true s):wpAny (model prog w) A (setsQuiet d) Q E s:=by
 unfold setsQuiet;refine AA (wpAny_forIn_list _ (λc r s'=>r.1=none∧s'=s∧∀a∈c,∃b l,SetI b a l s.heap) _ ?_ ?_ _ _ ⟨rfl,rfl,h⟩)
 ·rintro x c ⟨n,u⟩ s' ⟨g,rfl,o⟩;obtain⟨b,l,ob,F,G,t,v,z,hd,B,hp,H,C,I⟩:=o x (.head _);refine AA (wpAny_setEntries_of v hd C ?_);refine AA (wpAny_forIn_array' _ (λc r f=>r.1=none∧f=s'∧∀e∈c,IsE e) _ ?_ ?_ _ _ ⟨rfl,rfl,B⟩)
  ·rintro e j ⟨p,D⟩ f ⟨i,rfl,q⟩;obtain⟨J,K,rfl⟩:=q e (.head _);exact AB ⟨rfl,rfl,λy m=>q y (.tail _ m)⟩
  ·rintro⟨p,D⟩ f ⟨i,rfl,_⟩;have i:p=none:=i;subst i;exact AB ⟨rfl,rfl,λy m=>o y (.tail _ m)⟩
 ·rintro⟨n,u⟩ s' ⟨g,rfl,_⟩;have g:n=none:=g;subst g;exact AB k
end
section
variable {prog:Program}{w:World}{A:Around}{E:AM}{s:Shared}{bt:Bool}{a r o p q:Addr}{l l1 l2:AE}{m:Nat}
theorem WE{h:Heap}{Q:Bool→Shared→Prop}{b:Bool}(c:SetI b a l s.heap)(k:Q true s):wpAny (model prog w) A (Builtin.Frozenset.isAnySet (.ref a)) Q E s:=by
 obtain⟨ob,_,_,_,d,e,_⟩:=c;unfold Builtin.Frozenset.isAnySet;refine AA (wpAny_isInstance (b:=true) ⟨ob,d,e.1⟩ sub_set_self (AB k))
end
section
variable {X:Cx}{K:ζa}{b:Bool}
theorem zcS(ns:AE):(dd ns).Nodup:=by
 suffices z:∀n,(dd (ns.take n)).Nodup by simpa using z ns.length
 intro n;induction n with
 | zero=>exact List.nodup_nil
 | succ n a =>
  by_cases b:n<ns.length
  ·have e:ns.take (n+1)=ns.take n++[ns[n]]:=by rw[List.take_succ,ζe b];rfl
   rw[e,WA];unfold step_dedup;split
   ·exact a
   ·rename_i h;rw[ξm];refine⟨a,by simp,λx c y d=>?_⟩
    rw[ζs.mp d];rintro rfl;exact h (List.any_eq_true.mpr ⟨_,c,by simp⟩)
  ·have f:ns.take (n+1)=ns.take n:=by rw[ζO ⋯,ζO ⋯]
   rw[f];exact a
end
end L2
namespace PD
open PySem L2
section
variable {K:ζa}{S S':Sx}{κ κ' b:Bool}{Γ Γ' Γ'':Ctx}{P:Post}
end
end PD
namespace L2
open PySem PySem.Spec PyProof.Rows
section
variable {P:Program}{w:World}{K:ζa}{mg:AN}{base:Heap}
theorem zd5{N:AJ}{qual:Str}{scope:Scope}{f:Addr}{cd:Value}{A:Around}{outer:List Env}{s:Shared}{H:Hp}{E:XK}:
  ZE (CXr P w) (cxOf (CXr P w) P w K mg base N qual scope f cd A outer s H E) E:=by
 intro pins σ L s1 e s' I h;obtain⟨a,C,H',B,t,rfl,F,r⟩:=h;let env:=envOfC qual scope s.heap.objs.size f cd;have k:(cxOf (CXr P w) P w K mg base N qual scope f cd A outer s H E).stack=env::outer:=rfl;rw[k]at F;have g:frs (env::outer)=s.heap.objs.size::frs outer:=rfl;have l:∀b o,s.heap.get? b=some o→b≠s.heap.objs.size:=λb o e=>ζt (ζl e);have out:∀b o,s.heap.get? b=some o→b∉frs outer→b∉frs (env::outer):=λb o e c z=>by
  rw[g]at z;rcases ζq.mp z with z|z
  ·exact l b o e z
  ·exact c z
 refine wpAny_leaves_onW (base:=B) I.ok.frames rfl F.fl λh' p v=>⟨a,C,H',B,t,rfl,⟨F.os.trans I.os,F.bare,p,λb o e n c=>?_,λb o e n c=>?_,λb o e n=>?_,λb o e c=>?_,λb xs e=>F.tups b xs (I.base.tups b xs e),λb o u e=>F.frzs b o u (I.base.frzs b o u e),λb ps e=>?_,F.trk,?_⟩,r⟩
 ·exact F.old b o (I.base.keep b o e n c (by intro z;cases z)) (I.base.free b o e n (by intro z;cases z)) (out b o e c)
 ·obtain⟨sl,d⟩:=I.base.slot b o e n c (by intro z;cases z);have j:b∈frs (env::outer):=by rw[g];exact ζb _ c
  obtain⟨x,i⟩:=F.slot b _ d (I.base.free b o e n (by intro z;cases z)) j;obtain⟨_,o',q,y⟩:=F.fl.2.2.1.mem j;rw[i]at q;cases q;obtain⟨m,D⟩:=v b _ i y;exact⟨m,D⟩
 ·obtain⟨sl,d⟩:=I.base.any e n (by intro z;cases z);exact F.free b _ d (I.base.free b o e n (by intro z;cases z))
 ·obtain⟨o',d⟩:=I.base.there b o e (by intro z;cases z);exact F.there b o' d (out b o e c)
 ·obtain⟨G,d⟩:=I.base.tbls b ps e;obtain⟨J,i⟩:=F.tbls b _ d;exact⟨G++J,by rw[i,ξT]⟩
 ·refine F.hok.keptT λb o u c e=>?_;obtain⟨ob,d⟩:=F.trk b o c;have i:=F.fl.1 b ob d;rw[e]at i;cases i;exact p.1 b u d
end
end L2
namespace PD
open PySem L2
section
variable {K:ζa}{S S':Sx}{κ κ':Bool}{Γ Γ' Γ'':Ctx}{P:Post}{E:XK}{C:Addr}
def EvX(K:ζa)(E:XK)(C:Addr)(t:TE)(Γ:Ctx):Prop:=∀(H0 F0 H F:Hp) (σ:St),DEnv K .fresh H0 F0 H F σ Γ→(∀H1 F1,Gr H0 F0 H1 F1→E (.ref C) none H1)→∀Q:VK,t σ H Q
theorem zaA{pre:AG→Prop}{a:TA}{ds:AG}(h:EvA K .fresh false a Γ ds)(hp:pre ds):EvX K E C (y8 (spX K pre C) [] E a) Γ:=λH0 F0 H F σ e k Q =>
 h H0 F0 H F σ e _ λvs g b g1 c=>⟨b,ds,g1.le,by rw[ζx];exact zI c,hp,λd f g2=>k d f (e.gr.trans (g1.trans g2))⟩
end
section
variable {K:ζa}{S S':Sx}{κ κ':Bool}{Γ Γ' Γ'':Ctx}{P:Post}
theorem cutT{a:Type}(g:a→AD)(xs:List a)(k:Nat):cutD (xs.map g) none (some (k:Int))=(xs.take k).map g:=by
 unfold cutD;rw[HT.XW];show((xs.map g).drop 0).take (min k (xs.map g).length-0)=_;rw[List.drop_zero,Nat.sub_zero,ζc,←List.map_take];congr 1;rcases Nat.le_total k xs.length with h|h
 ·rw[ξ6 h]
 ·rw[Nat.min_eq_right h,ζO (ζp _),ζO h]
theorem cutH{a:Type}(g:a→AD)(xs:List a)(k:Nat):cutD (xs.map g) (some (k:Int)) none=(xs.drop k).map g:=by
 unfold cutD;rw[HT.XW];show((xs.map g).drop (min k (xs.map g).length)).take ((xs.map g).length-min k (xs.map g).length)=_;rw[ζO (by rw[ζ2];exact ζp _),ζc,←List.map_drop];congr 1;rcases Nat.le_total k xs.length with h|h
 ·rw[ξ6 h]
 ·rw[Nat.min_eq_right h,List.drop_of_length_le (ζp _),List.drop_of_length_le h]
theorem Zx:∀(a b:AE),PyData.eqv (.list (a.map .int)) (.list (b.map .int))=decide (a=b)
 | [],[]=>rfl
 | [],_::_=>rfl
 | _::_,[]=>rfl
 | x::a,y::b=>by
  have c:=Zx a b;have e:PyData.eqv (.list ((x::a).map .int)) (.list ((y::b).map .int))=((x==y)&&PyData.eqv (.list (a.map .int)) (.list (b.map .int))):=by
   simp[PyData.eqv,PyData.eqvAll]
  rw[e,c];by_cases h:x=y
  ·subst h;simp
  ·have:(x==y)=false:=by simpa using h
   rw[this];simp[h]
end
section
variable {K:ζa}{S S':Sx}{κ κ':Bool}{Γ Γ' Γ'':Ctx}{P:Post}{xs ys zs:AG}
structure T3(K:ζa)(H0 H F:Hp)(p a b c:Addr)(us vs ws:List V)(xs ys zs:AG):Prop where
 hp:F p=some (.tup [.ref a,.ref b,.ref c])
 oa:vM .fresh H0 H F a us
 ob:vM .fresh H0 H F b vs
 oc:vM .fresh H0 H F c ws
 ab:a≠b
 ac:a≠c
 bc:b≠c
 ra:zq K true .fresh H0 F us xs
 rb:zq K true .fresh H0 F vs ys
 rc:zq K true .fresh H0 F ws zs
def spT3(K:ζa)(pre:AG→AG→AG→AG→Prop):Sp:=λvs H Q _=>∃F ds xs ys zs,Same F H∧zV K F vs ds∧pre ds xs ys zs∧∀p a b c us vs' ws H' F',Gr H F H' F'→T3 K H H' F' p a b c us vs' ws xs ys zs→Q (.ref p) H'
theorem Qr{pre:AG→AG→AG→AG→Prop}{n:Nat}(h:∀ds xs ys zs,pre ds xs ys zs→ds.length=n){vs:List V}{H:Hp}{Q:VK}{E:XK}(s:spT3 K pre vs H Q E):vs.length=n:=by
 obtain⟨F,ds,xs,ys,zs,_,k,p,_⟩:=s;rw[zV.length k];exact h _ _ _ _ p
def ExT3(K:ζa)(xs ys zs:AG)(t:TS)(Γ:Ctx):Prop:=∀(H0 F0 H F:Hp) (σ:St),DEnv K .fresh H0 F0 H F σ Γ→∀D:Ends,(∀p a b c us vs ws H' F',Gr H0 F0 H' F'→T3 K H0 H' F' p a b c us vs ws xs ys zs→D.rt (.ref p) H')→t D σ H
theorem Vd{t u:TS}(N:Ctx→Prop)(a:ExS K .fresh t Γ {nx:=N,rt:=λ_=>False})(b:∀Γ',N Γ'→ExT3 K xs ys zs u Γ'):ExT3 K xs ys zs (tSeq t u) Γ:=λH0 F0 H F σ e D q =>
 a H0 F0 H F σ F e (.refl _) (.inl rfl) _ ⟨λΓ' σ' H' F' n _ c=>b Γ' n H0 F0 H' F' σ' c D q,λ_ _ _ _ z=>z.elim,λ_ _ _ _ z=>z.elim,λ_ _ _ _ z=>z.elim⟩
theorem zat{m tb:TE}{i:Nat}(o:EvO K .fresh true m Γ xs)(r:EvO K .fresh true tb Γ ys)(s:GetC Γ i (.ow true zs)):ExT3 K xs ys zs (tRet (tTup (zF m (zF tb (zF (tVar i) tNil))))) Γ:=λH0 F0 H F σ e D q =>
 o H0 F0 H F σ e _ λa us t u g1 g l v ra=>r H0 F0 t u σ (e.mono g1) _ λb vs j k g2 d x y rb=>by
  obtain⟨C,A,c,ws,rfl,w,rc⟩:=e.has i _ s.eq;have B:=(w.mono g1).mono g2;have n:=(e.mono g1).mono g2;refine⟨_,A,by show 3≤sizeLine;decide,λp hp=>?_⟩
  have g3:Gr j k (upd j p (.tup [.ref a,.ref b,.ref c])) (upd k p (.tup [.ref a,.ref b,.ref c])):=.new n.le hp _;have oa:vM .fresh H0 j k a us:=⟨g2.h _ _ l,g2.ap _ _ l v,e.gr.h.free g,λz=>z (e.gr.h.free g)⟩
  have ob:vM .fresh H0 j k b vs:=⟨x,y,(e.mono g1).gr.h.free d,λz=>z ((e.mono g1).gr.h.free d)⟩
  refine q p a b c us vs ws _ _ (n.gr.trans g3) ⟨zm,oa.mono g3,ob.mono g3,B.mono g3,?_,?_,?_,zu (g2.f.trans g3.f) ra,zu g3.f rb,zu ((g1.f.trans g2.f).trans g3.f) rc⟩
  ·rintro rfl;rw[l]at d;cases d
  ·rintro rfl;rw[w.h]at g;cases g
  ·rintro rfl;rw[(w.mono g1).h]at d;cases d
theorem zc5{t:TS}{N:AJ}{n:Nat}{H F:Hp}{vs:List V}{ds:AG}{Q:VK}(le:Same F H)(k:zV K F vs ds)(q:∀p a b c us d ws H' F',Gr H F H' F'→T3 K H H' F' p a b c us d ws xs ys zs→Q (.ref p) H')(g:N.length=n)(f:y0 n ds Γ)
  (h:ExT3 K xs ys zs t Γ):t {nx:=λ_ H'=>Q .non H',rt:=Q} (L2.yM N vs) H:=by
 have e:=xj (N:=N) le k;rw[g,f.eq]at e;exact h H F H F _ e _ q
end
end PD
namespace L2
open PySem PySem.Spec PyProof.Rows
section
variable {prog:Program}{w:World}{A:Around}{E:AM}{s:Shared}{b bt:Bool}{a r o p q:Addr}{l l1 l2:AE}
theorem zeg{k:Int}{tk:Tok}{Q:Option Nat→Shared→Prop}(r:SetI b a l s.heap)(h:∀x:Option Nat,(x.isSome=true↔k∈l)→Q x s):wpAny (model prog w) A (setFind a (.int k tk) (hashInt k)) Q E s:=by
 obtain⟨ob,d,D,t,m,u,hd,f,hp,v,n,F⟩:=r;have c:ElemsOf (intKind prog w) d.toList:=IsE.elems f;have o:k∈l↔∃e∈d.toList,(intKind prog w).is k e.2=true:=by
  rw[←hp.mem_iff,ζn];exact⟨λ⟨e,x,y⟩=>⟨e,x,((f e x).is k).mpr y⟩,λ⟨e,x,y⟩=>⟨e,x,((f e x).is k).mp y⟩⟩
 unfold setFind setFindIn;refine AA (wpAny_setState_of m hd n ?_);dsimp only;rw[byScan_of (knd:=intKind prog w) (x:=.int k tk) rfl v c];simp only[↓reduceIte];refine AA (wpAny_rule ?_);refine AA (wpAny_setScan_of (knd:=intKind prog w) (k:=k) (intKind_is _ _ k tk) m hd n c ?_);cases p:List.findIdx? (λe=>(intKind prog w).is k e.2) d.toList with
 | none =>
  dsimp only;refine AB (h none ⟨λz=>(by cases z),λz=>?_⟩);obtain⟨e,B,g⟩:=o.mp z;have q:=List.findIdx?_eq_none_iff.mp p e B;rw[g]at q;cases q
 | some j =>
  dsimp only;obtain⟨C,i,_⟩:=List.findIdx?_eq_some_iff_getElem.mp p;exact AB (h (some (0+j)) ⟨λ_=>o.mpr ⟨d.toList[j],ξM C,i⟩,λ_=>rfl⟩)
theorem zdT{b:List Addr}{Q:Array (Int×Value)→Shared→Prop}(n:w.params.followText "set-order" = bt)(F:SetI (!bt) r l1 s.heap)(G:SetI (!bt) o l2 s.heap)(I:∀x∈b,∃c l,SetI c x l s.heap)
  (k:∀(ws:Array (Int×Value)) h',(∀e∈ws.toList,IsE e)→(ws.toList.map kOf).Perm l2→Heap.SameBut r s.heap h'→SetI (!bt) r l1 h'→Q ws {s with heap:=h'}):wpAny (model prog w) A (setWalkUnseen o b (some r)) Q E s:=by
 obtain⟨ob,d,O,t,p,J,hd,H,hp,P,q,K⟩:=id G;have u:∀ws:Array (Int×Value),ws.toList.Perm d.toList→Q ws s:=λws pm=>k ws s.heap (λe x=>H e (pm.mem_iff.mp x)) ((pm.map kOf).trans hp) (Heap.SameBut.refl _ _) F;unfold setWalkUnseen;refine AA (wpAny_setState_of p hd q ?_);dsimp only;unfold setsByText;refine AA (AA (wpAny_askSetting (AB ?_)));rw[show(model prog w).w.params.followText "set-order" = bt from n];cases bt with
 | true =>
  simp only[Bool.true_or,↓reduceIte];unfold setWalk;refine AA (wpAny_setState_of p hd q ?_);dsimp only;unfold setsByText;refine AA (AA (wpAny_askSetting (AB ?_)));rw[show(model prog w).w.params.followText "set-order" = true from n];simp only[↓reduceIte];exact AA (wpAny_askSetting (AB (u _ (vT _ _))))
 | false =>
  have led:t.led=true:=K.led;by_cases c:(false||(t.led&&t.plain)||decide (d.size≤1))=true
  ·rw[if_pos c];unfold setWalk;refine AA (wpAny_setState_of p hd q ?_);dsimp only;unfold setsByText;refine AA (AA (wpAny_askSetting (AB ?_)));rw[show(model prog w).w.params.followText "set-order" = false from n];simp only[Bool.false_eq_true,↓reduceIte];split
   ·rename_i z;have z:(!t.plain&&decide (d.size>1))=true:=z;rw[led]at c;simp at c z;have y:¬1<d.size:=by
     rcases c with c|c
     ·rw[c]at z;exact absurd z.1 #[2]
     ·omega
    exact absurd z.2 y
   ·refine AA (wpAny_of_eq (a:=()) ?_ ?_)
    ·show(if(!t.led&&decide (d.size>1))=true then _ else _)=_;rw[led];rfl
    ·exact AB (u d (.refl _))
  ·rw[if_neg c];refine AA (zc9 (λx v=>?_) ?_)
   ·rcases ζq.mp v with rfl|v
    ·exact⟨_,_,G⟩
    ·exact I x v
   rw[if_neg #[2]];refine AA (wpAny_rule ?_);obtain⟨L,B,M,N,f,i,g,C,D,j,m,h⟩:=id F;refine AA (wpAny_setState_of f g m ?_);dsimp only;split
   ·refine AA (wpAny_storeSet_of f g ?_ (fits_of_scanBound j));refine AB (k d _ H hp (Heap.SameBut.update ..) ⟨_,B,_,_,VC f g _ _,i,rfl,C,D,j,m,⟨?_,h.rise,h.dum⟩⟩);show(N.led&&t.led)=_;rw[h.led,led];rfl
   ·exact AB (u d (.refl _))
theorem zcz{Q:Nat→Shared→Prop}(c:SetI b a l s.heap)(k:Q l.length s):wpAny (model prog w) A (Builtin.Frozenset.sizeOf a) Q E s:=by
 obtain⟨ob,d,i,t,e,f,hd,j,hp,m,g,n⟩:=c;have h:d.size=l.length:=by have:=hp.length_eq;simpa using this
 unfold Builtin.Frozenset.sizeOf;refine AA (wpAny_setEntries_of e hd g (AB ?_));rw[h];exact k
theorem zcf{l:AE}{k:Int}(nd:l.Nodup):(step_dedup l k).Nodup∧(∀x,x∈step_dedup l k↔x∈l∨x=k)∧(step_dedup l k).length≤l.length+1:=by
 unfold step_dedup;split
 ·rename_i z;obtain⟨y,a,b⟩:=ξh.mp z;have b:=eq_of_beq b;subst b;exact⟨nd,λx=>⟨.inl,λz=>z.elim id λz=>z ▸ a⟩,⋯⟩
 ·rename_i z;refine⟨?_,λx=>by rw[ζu,ζs],by rw[ζr];exact ζp _⟩
  rw[ξm];refine⟨nd,by simp,λx c y a=>?_⟩
  rw[ζs.mp a];rintro rfl;exact z (List.any_eq_true.mpr ⟨_,c,by simp⟩)
theorem andI{Q:AM}(hb:w.params.followText "set-order" = bt)(R:SetI (!bt) p l1 s.heap)(S:SetI (!bt) q l2 s.heap)(T:p≠q)(hl:l1.length+l2.length<2000)
  (k:∀h' K,SetI (!bt) s.heap.objs.size K h'→(∀c ob,s.heap.get? c=some ob→h'.get? c=some ob)→(∀x,x∈K↔x∈l1∧x∈l2)→K.Nodup→K.length≤l1.length+l2.length→Q (.ref s.heap.objs.size) {s with heap:=h'}) :
  wpAny (model prog w) A (binaryOp .BitAnd (.ref p) (.ref q)) Q E s:=by
 obtain⟨op,_,_,_,n,C,_⟩:=id R;obtain⟨oq,_,_,_,D,U,_⟩:=id S;have hp:p<s.heap.objs.size:=ζl n;have hq:q<s.heap.objs.size:=ζl D;have hT:s.TypeIs (.ref p) "set" := ⟨op,n,C.1⟩
 refine wpAny_binaryOp_same hT ⟨oq,D,U.1⟩ F.fills_set_and F.slot_set_and (wpAny_call_entry F.slot_set_and hT XL ?_ (F.args_set_and_2 _ _));unfold Builtin.«frozenset.__and__»
 show wpAny _ _ (do
  if !(←Builtin.Frozenset.isAnySet (.ref p) <&&> Builtin.Frozenset.isAnySet (.ref q))then rule s!"frozenset.{"__and__"}.declined";return←ret .notImplemented
  ret (←Builtin.Frozenset.intersection s!"frozenset.{"__and__"}" p (.ref q))) _ _ _
 refine AA (AA (WE (h:=s.heap) R ?_));show wpAny _ _ (Builtin.Frozenset.isAnySet (Value.ref q)) _ _ _;refine WE (h:=s.heap) S ?_;simp only[Bool.not_true,Bool.false_eq_true,↓reduceIte];refine AA ?_;unfold Builtin.Frozenset.intersection;rw[if_neg (by simpa using Ne.symm T)];unfold Builtin.Frozenset.baseOf;refine AA (AA (wpAny_isInstance (b:=true) ⟨op,n,C.1⟩ sub_set_self (AB ?_)));simp only[↓reduceIte];refine AA (zbN hb λd f1=>?_);unfold Builtin.Frozenset.addrOf;refine AA (AB ?_);have V:∀c ob,s.heap.get? c=some ob→(s.heap.push d).get? c=some ob:=λc ob z=>ζd _ z;have o:SetI (!bt) p l1 (s.heap.push d):=R.at λ_ z=>V _ _ z;have i:SetI (!bt) q l2 (s.heap.push d):=S.at λ_ z=>V _ _ z;refine AA (wpAny_holding ?_);refine AA (WE (s:={s with heap:=s.heap.push d}) (h:=s.heap) i ?_);rw[if_pos rfl];refine AA (AB ?_);refine AA (zcz (s:={s with heap:=s.heap.push d}) i ?_);refine AA (zcz (s:={s with heap:=s.heap.push d}) o ?_);obtain⟨⟨ak,L⟩,ep,r,v,W,X,na,Y,G,a2⟩:∃pr:Addr×Addr,(if l2.length>l1.length then(q,p)else(p,q))=pr∧∃r v,SetI (!bt) pr.1 r (s.heap.push d)∧SetI (!bt) pr.2 v (s.heap.push d)∧s.heap.objs.size≠pr.1∧s.heap.objs.size≠pr.2∧(∀x,x∈r∧x∈v↔x∈l1∧x∈l2)∧v.length≤l1.length+l2.length:=by
  by_cases c:l2.length>l1.length
  ·exact⟨_,if_pos c,l2,l1,i,o,ζ6 hq,ζ6 hp,λx=>And.comm,⋯⟩
  ·exact⟨_,if_neg c,l1,l2,o,i,ζ6 hp,ζ6 hq,λx=>Iff.rfl,⋯⟩
 rw[ep];dsimp only at W X na Y ⊢;obtain⟨Z,a3,a0,t2,H,a4,I,a5,a6,a7,J,a8⟩:=id X;refine AA (wpAny_setEpoch_of (s:={s with heap:=s.heap.push d}) H I J ?_);refine AA (zdT (s:={s with heap:=s.heap.push d}) hb f1.set X (λx B=>?_) λws h2 wE wp u2 f2=>?_)
 ·rcases ζq.mp B with rfl|B
  ·exact⟨_,_,W⟩
  ·rw[ζs.mp B];exact⟨_,_,f1.set⟩
 refine AA (wpAny_forIn_array' _ (λa _ s'=>∃l h',s'={s with heap:=h'}∧Heap.SameBut s.heap.objs.size (s.heap.push d) h'∧SetI (!bt) s.heap.objs.size l h'∧(∀e∈a,IsE e)∧(∀x,(x∈l∨(x∈r∧x∈a.map kOf))↔x∈r∧x∈v)∧l.Nodup∧l.length+a.length≤v.length) _ ?_ ?_ _ _ ⟨[],h2,rfl,u2,f2,wE,λx=>by rw[wp.mem_iff];simp,List.nodup_nil,by have:=wp.length_eq;rw[List.length_map]at this;simpa using Nat.le_of_eq this⟩)
 ·rintro e a _ s' ⟨l,h',rfl,u,f,t,M,j,g⟩;obtain⟨N,tk,rfl⟩:=t e (.head _);rw[ζZ]at g;have a1:SetI (!bt) ak r h':=W.at λob z=>by rw[u.2 ak (Ne.symm na)];exact z
  have un:∀(m:Heap) (Q':Unit→Shared→Prop),Heap.SameBut s.heap.objs.size h' m→Q' () {s with heap:=m}→wpAny (model prog w) A.in1 (Builtin.Frozenset.unchanged s!"frozenset.{"__and__"}" L a0) Q' E {s with heap:=m}:=λm Q' O qq=>by
   unfold Builtin.Frozenset.unchanged;refine AA (wpAny_setEpoch_of (s:={s with heap:=m}) ?_ I J ?_)
   ·show m.get? L=some Z;rw[O.2 L (Ne.symm Y),u.2 L (Ne.symm Y)];exact H
   ·rw[if_neg (by simp)];exact AB qq
  refine AA (wpAny_holding (AA (zeg (s:={s with heap:=h'}) a1 λx B=>?_)));by_cases c:x.isSome=true
  ·rw[if_pos c];refine AA (addI (s:={s with heap:=h'}) f (by unfold scanBound;omega) λrr m O f3=>AB ?_);refine AA (un m _ O (AB ?_));obtain⟨d1,d2,d3⟩:=zcf (k:=N) j;refine⟨_,m,rfl,u.trans O,f3,λy hy=>t y (.tail _ hy),λy=>?_,d1,⋯⟩
   rw[←M y,d2 y,ξq];show _↔_∨(_∧y∈N::_);rw[ζq];have ka:=B.mp c;constructor
   ·rintro((z|rfl)|z)
    ·exact .inl z
    ·exact .inr ⟨ka,.inl rfl⟩
    ·exact .inr ⟨z.1,.inr z.2⟩
   ·rintro(z|⟨P,z|z⟩)
    ·exact .inl (.inl z)
    ·exact .inl (.inr z)
    ·exact .inr ⟨P,z⟩
  ·rw[if_neg c];refine AB (AA (un h' _ (Heap.SameBut.refl _ _) (AB ?_)));refine⟨l,h',rfl,u,f,λy hy=>t y (.tail _ hy),λy=>?_,j,⋯⟩
   rw[←M y,ξq];show _↔_∨(_∧y∈N::_);rw[ζq];have ka:N∉r:=λz=>c (B.mpr z);constructor
   ·rintro(z|z)
    ·exact .inl z
    ·exact .inr ⟨z.1,.inr z.2⟩
   ·rintro(z|⟨P,rfl|z⟩)
    ·exact .inl z
    ·exact absurd P ka
    ·exact .inr ⟨P,z⟩
 ·rintro _ s' ⟨l,h',rfl,u,f,_,M,j,g⟩;refine AB (AB ?_);exact AB ⟨_,rfl,by simp,k h' l f (λc ob z=>by rw[u.2 c (Nat.ne_of_lt (Heap.lt_size z))];exact V c ob z) (λx=>by rw[←G x,←M x];simp) j (by simp at g;omega)⟩
end
section
variable {X:Cx}{K:ζa}{b:Bool}
def zcF(b:Bool):R2:=λx y H Q=>∃p q l1 l2,x=.ref p∧y=.ref q∧p≠q∧H p=some (SetB b p l1)∧H q=some (SetB b q l2)∧l1.length+l2.length<2000∧
 ∀c l3,H c=none→(∀k,k∈l3↔k∈l1∧k∈l2)→l3.Nodup→l3.length≤l1.length+l2.length→Q (.ref c) (upd H c (SetB b c l3))
theorem zbJ(o:X.calm=true)(c:X.w.params.followText "set-order" = b):OpR X (binaryOp .BitAnd) (zcF b):=by
 intro pins s σ H x y v u Q I d e h;obtain⟨p,q,r,t,rfl,rfl,a,hp,hq,g,k⟩:=h;cases d;cases e;exact andI c (I.hok p _ hp).1 (I.hok q _ hq).1 a g λh' i f j l m n=>⟨.ref s.heap.objs.size,_,I.laid (t':=s.toks) j (ζp _) (Uq f),rfl,k _ i (I.hok.fresh (ζp _)) l m n⟩
end
end L2
namespace PD
open PySem L2
section
variable {K:ζa}{S S':Sx}{κ κ' b:Bool}{Γ Γ' Γ'':Ctx}{P:Post}
theorem TM{i j:TE}{ns ms:AE}(m:EvL K S false i Γ (ns.map .int))(n:EvL K S false j Γ (ms.map .int))(E:ns.length+ms.length<2000):
  EvE K S κ (tCB (zcE b) (zF (tOp (zcF b) (tCB (Uu K b) (zF i tNil)) (tCB (Uu K b) (zF j tNil))) tNil)) Γ (.int ((dd ns).filter λk=>decide (k∈ms)).length):=λH0 F0 H F σ e Q q =>
 m H0 F0 H F σ e _ λa vs G o g1 s u=>by
  cases yd (zI u);refine⟨a,ns,rfl,s,⋯,λp hp=>?_⟩
  have g2:=g1.trans (.newO g1.le hp (SetB b p (dd ns)));refine n H0 F0 _ o σ (e.mono g2) _ λc ws v w g3 x y=>?_;cases yd (zI y);refine⟨c,ms,rfl,x,⋯,λr l=>?_⟩
  have g4:=(g2.trans g3).trans (.newO g3.le l (SetB b r (dd ms)));have d:v p=some (SetB b p (dd ns)):=g3.h _ _ zm;have f:p≠r:=λz=>by rw[z,l]at d;cases d
  have I:=V2 ns;have J:=V2 ms;refine⟨p,r,dd ns,dd ms,rfl,rfl,f,by rw[zk f];exact d,zm,⋯,λt g A B C L=>?_⟩
  have g5:=g4.trans (.newO g4.le A (SetB b t g));have D:g.length=((dd ns).filter λk=>decide (k∈ms)).length:=by
   refine List.Perm.length_eq ?_;rw[List.perm_ext_iff_of_nodup C ((zcS ns).sublist List.filter_sublist)];intro k;rw[B k,ζQ,V1 ms k,decide_eq_true_eq]
  refine⟨t,g,rfl,zm,?_⟩
  rw[D];exact q _ _ w g5 (.int _)
theorem Q8(ns ms:AE):decide (((((dd ns).filter λk=>decide (k∈ms)).length:Nat):Int)>0)=ns.any λk=>decide (k∈ms):=by
 rw[ξP,decide_eq_true_eq,ξh];constructor
 ·intro h;obtain⟨k,a⟩:=List.exists_mem_of_length_pos (l:=(dd ns).filter λk=>decide (k∈ms)) ⋯;obtain⟨b,c⟩:=ζQ.mp a;exact⟨k,(V1 ns k).mp b,c⟩
 ·rintro⟨k,b,c⟩;have a:k∈(dd ns).filter λk=>decide (k∈ms):=ζQ.mpr ⟨(V1 ns k).mpr b,c⟩;have:=ξ5 a;omega
end
end PD
namespace L2
open PySem PySem.Spec PyProof.Rows
section
variable {X:Cx}{K:ζa}
theorem Vals.ofGet:∀(xs:List V) (us:AK),xs.length=us.length→(∀(i:Nat) x u,xs[i]?=some x→us[i]?=some u→RelV x u)→Vals xs us
 | [],[],_,_=>.nil
 | [],_::_,h,_=>by cases h
 | _::_,[],h,_=>by cases h
 | x::xs,u::us,h,k=>.cons (k 0 x u rfl rfl) (Vals.ofGet xs us (Nat.succ.inj h) λi y v a b=>k (i+1) y v a b)
def zcC:List V→Hp→VK→Prop:=λxs H Q=>∃n:Int,xs=[.int n]∧∀l,H l=none→Q (.ref l) (upd H l (.rng 0 n))
theorem Xx:yo X (.type "range") zcC:=by
 intro pins s σ H xs us Q I r h;obtain⟨n,rfl,q⟩:=h;obtain⟨u,rfl,a⟩:=wa r;obtain⟨t,rfl⟩:=a;exact call_range_1 ⟨.ref s.heap.objs.size,_,I.laid (t':=s.toks+1+1) (λb u e=>ζd _ e) (ζp _) (show yN X.prog X.w _ _ _ (.rng 0 n)from⟨_,_,_,ζo _ rfl⟩),rfl,q _ (I.hok.fresh (ζp _))⟩
def WS:List V→Hp→VK→Prop:=λxs H Q=>∃(p:Addr) (n:Nat),xs=[.ref p]∧H p=some (.rng 0 n)∧n≤1000000∧∀l,H l=none→Q (.ref l) (upd H l (.lst ((List.range n).map λi:Nat=>V.int (i:Int))))
theorem Zh(e:X.calm=true):yo X (.type "list") WS:=by
 intro pins s σ H xs us Q I r h;obtain⟨p,n,rfl,hp,y,q⟩:=h;obtain⟨u,rfl,f⟩:=wa r;cases f;obtain⟨t,u,v,g⟩:∃t u v,s.heap.get? p=some {cls:=.type "range", data:=.fields #[.int 0 t,.int n u,.int 1 v]}:=I.hok p _ hp;have j:Builtin.Range.rangeSize 0 n 1=(n:Int):=by
  unfold Builtin.Range.rangeSize;simp;omega
 refine call_list_range (n:=n) (I.ok.hd e) g ?_ ?_ ⋯ λh' tk a k l m b=>?_
 ·exact small_one ⋯ ⋯ ⋯ ⋯
 ·exact j
 ·have o:a.toList.length=n:=by rw[ζY];exact b.1
  refine⟨.ref s.heap.objs.size,_,I.laid (t':=tk) l (ζp _) (show yN X.prog X.w _ h' _ (.lst ((List.range n).map λi:Nat=>V.int (i:Int)))from⟨by rw[ζc,ζG,sizeLine_eq];omega,a.toList,k,Vals.ofGet _ _ (by rw[ζc,ζG,o]) λi x u c d=>?_,m⟩),rfl,q _ (I.hok.fresh (ζp _))⟩
  have hi:i<n:=by
   have:=(ζg.mp d).1;omega
  rw[ζj,ξw hi]at c;cases c;obtain⟨t',rfl⟩:=b.2 i u (by rw[←ζ0];exact d);exact⟨t',by rw[Int.mul_one,Int.zero_add]⟩
end
end L2
namespace PD
open PySem L2
section
variable {K:ζa}{S S':Sx}{κ κ':Bool}{Γ Γ' Γ'':Ctx}{P:Post}
theorem ZN{c:TE}{n:Nat}(h:EvE K S false c Γ (.int (n:Int)))(d:n≤1000000):EvO K S κ (tCB WS (zF (tCB zcC (zF c tNil)) tNil)) Γ ((List.range n).map λi:Nat=>.int (i:Int)):=λH0 F0 H F σ e Q q =>
 h H0 F0 H F σ e _ λv j a g1 f=>by
  cases yr f;refine⟨n,rfl,λp hp=>⟨p,n,rfl,zm,d,λl b=>?_⟩⟩
  have g2:=g1.trans (.newO g1.le hp (.rng 0 n));have g:zq K κ S H0 a ((List.range n).map λi:Nat=>V.int (i:Int)) ((List.range n).map λi:Nat=>.int (i:Int)):=by
   have:=vo (K:=K) (κ:=κ) (S:=S) (H0:=H0) (F:=a) ((List.range n).map λi:Nat=>(i:Int));rw[ζP,ζP]at this;exact this
  exact q l _ _ a (g2.trans (.newO g2.le b _)) (g2.h.free b) zm (g2.le.free b) g
theorem zaQ{b tb c:TE}{f g:Int→Int→Bool}{i j m:Int}(k:EvE K S false b Γ (.int i))(l:EvE K S false tb Γ (.int j))(n:f i j=true→EvE K S false c Γ (.int m)):
  EvE K S κ (VB (rI0 λi j=>.bl (f i j)) (rI0 λi j=>.bl (g i j)) b tb c) Γ (.bool (f i j&&g j m)):=λH0 F0 H F σ e Q q =>
 k H0 F0 H F σ e _ λv o p g1 r=>l H0 F0 o p σ (e.mono g1) _ λu d h g2 s=>by
  cases yr r;cases yr s;refine⟨i,j,rfl,rfl,f i j,rfl,?_⟩
  cases a:f i j with
  | true=>exact iteT (n a H0 F0 d h σ ((e.mono g1).mono g2) _ λw t x g3 y=>by
    cases yr y;exact⟨j,m,rfl,rfl,q _ t x ((g1.trans g2).trans g3) (by rw[a,Bool.true_and];exact .bl _)⟩)
  | false=>exact iteF (q _ d h (g1.trans g2) (by rw[a,ξz];exact .bl _))
end
end PD
namespace L2
open PySem PySem.Spec PyProof.Rows
section
variable {X:Cx}{K:ζa}
def rm(k:Int)(ns:AE):AE:=ns.take (ns.idxOf k)++ns.drop (ns.idxOf k+1)
def Uv:V→List V→Hp→VK→Prop:=λx vs H Q=>∃l,∃ns:AE,∃k,x=.ref l∧vs=[.int k]∧H l=some (.lst (ns.map V.int))∧k∈ns∧Q .non (upd H l (.lst ((rm k ns).map V.int)))
theorem Xi:MtM X "list.remove" Uv:=by
 intro pins s σ H x vs v us Q I f g h;obtain⟨l,ns,k,rfl,rfl,c,i,q⟩:=h;cases f;obtain⟨u,rfl,j⟩:=g.one;obtain⟨t,rfl⟩:=j;obtain⟨z,a,n,r,w,e⟩:=I.lstM c;have hi:=xU r;have o:ns.idxOf k<ns.length:=ζ9.mpr i;have b:=r.length;rw[ζc]at b z;refine call_meets F.slot_list_remove ⟨_,e,rfl⟩ F.entry_list_remove (F.args_list_remove_2 _ _) (MeetsSeq.list_remove l a.toArray n (.int k t) (isInt k) (λy p=>eq_isInt k t hi y (by simpa using p)) (ns.idxOf k) (by rw[List.size_toArray];omega) ?_ (λm d lt=>?_) (by rw[List.size_toArray];omega)) ⟨e,?_⟩
 ·show isInt k a[ns.idxOf k]=true;rw[isInt_at k hi (ns.idxOf k) ⋯ o];simp
 ·show isInt k a[m]=false;rw[ζE]at d;rw[isInt_at k hi m d ⋯];exact ne_of_lt_idxOf lt ⋯
 ·refine⟨.non,_,I.lset (its':=a.take (ns.idxOf k)++a.drop (ns.idxOf k+1)) c e ?_ (by unfold rm;rw[List.map_append,List.map_take,List.map_drop];exact(r.take _).append (r.drop _)) ?_,rfl,q⟩
  ·apply Array.toList_inj.mp;rw[List.eraseIdxIfInBounds_toArray,ξK]
  ·unfold rm;rw[ζc,ζr,ζL,ζ2];omega
end
end L2
namespace PD
open PySem L2
section
variable {K:ζa}{S S':Sx}{κ κ':Bool}{Γ Γ' Γ'':Ctx}{P:Post}
theorem exrm{te:TE}{i:Nat}{ns:AE}{k:Int}(h:GetC Γ i (.ow κ (ns.map .int)))(d:EvE K S false te Γ (.int k))(g:k∈ns)(j:SetC Γ i (some (.ow κ ((rm k ns).map .int))) Γ')(l:P.nx Γ'):
  ExS K S (wg (tBM K "list" Uv (tVar i) (zF te tNil))) Γ P:=λH0 F0 H F σ B e b _ D I=>by
 have h:=h.eq;obtain⟨r,c,a,vs,rfl,w,m⟩:=e.has i _ h;refine⟨_,c,.inl ⟨rfl,_,SqL.of w.h⟩,d H0 F0 H F σ e _ λt o p g1 q=>?_⟩
 cases yr q;cases yd (zI m);refine⟨a,ns,k,rfl,rfl,g1.h _ _ w.h,g,?_⟩
 have:=(e.mono g1).put (vs:=(rm k ns).map V.int) (y:=.ow κ ((rm k ns).map .int)) h c (show Owns o (.ref a) (.ow κ (ns.map .int)) a from rfl) ⟨a,_,rfl,⟨zm,(w.mono g1).f,w.n,w.s⟩,vo _⟩ λ_ z=>z;rw[j.eq]at this;exact I.nx _ _ _ p l (b.trans g1.f) this
end
end PD
namespace L2
open PySem PySem.Spec PyProof.Rows PySem.W
def ZX(X:Cx)(pins:AL)(σ:St)(E:XK):Value→Shared→Prop:=λe' s'=>∃H1 s1,Inv X pins σ H1 s1∧CXr X.prog X.w X.stack H1 s1 E e' s'
def PX(X:Cx)(e:Expr)(te:XK→TE):Prop:=∀(pins:AL) (s:Shared) (σ:St) (H:Hp) (Q:VK) (E:XK),Inv X pins σ H s→te E σ H Q→wpAny (model X.prog X.w) X.A (eval e X.env) (EP X pins σ Q) (ZX X pins σ E) s
section
variable {X:Cx}{k:Nat}{ps:AJ}{sp:Sp}{x:Str}{p cpos pos:Pos}{e:Expr}{es:List Expr}{ta:TA}{te:TE}
theorem FnOk.or{P:Program}{w:World}{K:ζa}{mg:AN}{base:Heap}{CX:CXT}{f:Addr}{fd:FuncData}{a:Sp}(F:FnOk P w K mg base CX k f fd ps sp)(G:FnOk P w K mg base CX k f fd ps a):
  FnOk P w K mg base CX k f fd ps λvs H Q E=>sp vs H Q E∨a vs H Q E:=
 ⟨λvs H Q E q=>q.elim (F.len vs H Q E) (G.len vs H Q E),λA outer s H args us vs Q E b c d e g=>g.elim (F.run A outer s H args us vs Q E b c d e) (G.run A outer s H args us vs Q E b c d e)⟩
end
section
variable {X:Cx}{k:Nat}{y n:Str}{np epos hpos tpos:Pos}{e:Expr}{te:XK→TE}{C D:Addr}{i:Nat}{b0:Stmt}{suite:List Stmt}{th:TS}
end
section
variable {X:Cx}{k k2:Nat}{ps:AJ}{sp sp2:Sp}{x:Str}{p cpos pos:Pos}{e:Expr}{es:List Expr}{ta:TA}
def spO(sp sp2:Sp):Sp:=λvs H Q E=>sp vs H Q E∨sp2 vs H Q E
theorem QN(y:zE X.prog X.w X.K X.mg X.base CX0 x ps k sp)(B:zE X.prog X.w X.K X.mg X.base (CXr X.prog X.w) x ps k2 sp2)(C:Room k X.A)(d:Room k2 X.A)(D:Gl X x)(G:PA X (e::es) ta)(g:∀e s,¬X.xe e s)
  (i:(x==("__debug__" : Str))=false:=by decide) (J:starEach (e::es) X.env=(false,eval e X.env)::starEach es X.env:=by rfl) (j:(backTo cpos (starEach es X.env)).any (·.1)=false:=by rfl) :
  PX X (.Call (.Name x p) (e::es) [] cpos) λE=>y8 (spO sp sp2) [] E ta:=by
 intro pins s σ H Q E I h;obtain⟨f,fd,F,v,L,M⟩:=y.ex;obtain⟨O,N,F',b,_,l⟩:=B.ex;rw[v]at b;cases b;refine wpAny_Call_Name_kw (wm I D v ?_ i);refine callWith_K (h₀:=X.base) I.ok.mod.kin L ?_ J j;refine wpAny_mono (G cpos pins s σ H _ I h) (λus s1 q=>?_) λm s' z=>absurd z (g m s');obtain⟨vs,n,a,r,q⟩:=q;refine⟨a.kIn,?_⟩
 rw[ζx]at q;rcases q with q|q
 ·have o:us.length=ps.length:=by rw[←r.length];exact F.len _ _ _ _ q
  have c:=M s1 us a.kIn (by rw[ζx];exact o);rw[ζx]at c;refine wpAny_call (codeAny_mono (F.run X.A X.stack s1 n ⟨us,[]⟩ us vs _ _ C a.env0 c r q) λt s' hq=>?_);cases t with
  | ok fl =>
   cases fl with
   | ret u=>exact a.after hq
   | next=>exact False.elim hq
   | brk=>exact False.elim hq
   | cont=>exact False.elim hq
  | error m=>exact False.elim hq
 ·have o:us.length=ps.length:=by rw[←r.length];exact F'.len _ _ _ _ q
  have c:=l s1 us a.kIn (by rw[ζx];exact o);rw[ζx]at c;refine wpAny_call (codeAny_mono (F'.run X.A X.stack s1 n ⟨us,[]⟩ us vs _ _ d a.env0 c r q) λt s' hq=>?_);cases t with
  | ok fl =>
   cases fl with
   | ret u=>exact a.after hq
   | next=>exact False.elim hq
   | brk=>exact False.elim hq
   | cont=>exact False.elim hq
  | error m=>exact⟨n,s1,a,hq⟩
end
section
variable {X:Cx}{K:ζa}
end
end L2
namespace PD
open PySem L2
section
variable {K:ζa}{S S':Sx}{κ κ':Bool}{Γ Γ' Γ'':Ctx}{P:Post}{E:XK}{C:Addr}
def EvY(K:ζa)(S:Sx)(E:XK)(C:Addr)(t:TE)(Γ:Ctx):Prop:=∀(H0 F0 H F:Hp) (σ:St),DEnv K S H0 F0 H F σ Γ→(∀H1 F1,Gr H F H1 F1→E (.ref C) none H1)→∀Q:VK,t σ H Q
theorem TH{pre:AG→AD→Prop}{a:AG→Prop}{b:TA}{ds:AG}(h:EvA K S false b Γ ds)(hp:a ds):EvY K S E C (y8 (spO (spD K true pre) (spX K a C)) [] E b) Γ:=λH0 F0 H F σ e k Q =>
 h H0 F0 H F σ e _ λvs i c g1 d=>.inr ⟨c,ds,g1.le,by rw[ζx];exact zI d,hp,λf g g2=>k f g (g1.trans g2)⟩
end
end PD
namespace L2
open PySem PySem.Spec PyProof.Rows PySem.W
section
variable {P:Program}{w:World}{K:ζa}{mg:AN}{base:Heap}{x:Str}{ys:AJ}{va:Str→V}{qual:Str}{scope:Scope}{f:Addr}{cd:Value}{cl:List (Str×Addr)}{A:Around}{outer:List Env}{s:Shared}{H:Hp}
end
section
variable {X:Cx}{pins:AL}{σ:St}{H:Hp}{s:Shared}
end
section
variable {X:Cx}{k:Nat}{ps:AJ}{sp:Sp}{g:Str}{p cpos lpos:Pos}{e:Expr}{te:TE}{params:Arguments}{body:Expr}{lsc:Scope}{q:Str}{c P:Addr}{clos:List (Str×Addr)}{caps:List (Str×Nat)}
end
section
variable {X:Cx}{k:Nat}{ps:AJ}{sp:Sp}{x:Str}{p pos:Pos}{e:Expr}{es:List Expr}{t:TA}
end
end L2
namespace PD
open PySem L2 PySem.W
section
variable {P:Program}{w:World}{K:ζa}{mg:AN}{base:Heap}{S S':Sx}{κ κ':Bool}{Γ Γ' Γ'':Ctx}
end
end PD
namespace L2
open PySem PySem.Spec PyProof.Rows PySem.W
section
variable {P:Program}{w:World}{K:ζa}{mg:AN}{base:Heap}
end
end L2
namespace Cm
open PySem L2
end Cm
namespace L2
open PySem
theorem zbg{K:ζa}{h:Heap}(e:(yT K).isEmpty=true):∀p∈yT K,h.get? p.1=some (PySem.W.tabObj #[]):=λp hp=>by
 rw[List.isEmpty_iff.mp e]at hp;cases hp
end L2
namespace PD
open PySem L2
end PD
namespace L2
open PySem PySem.Spec PyProof.Rows
section
variable {X:Cx}{K:ζa}
def rAny(K:ζa):List V→Hp→VK→Prop:=λxs H Q=>∃p,∃bs:List Bool,xs=[.ref p]∧SqL K H p (bs.map V.bl)∧Q (.bl (bs.any λb=>b)) H
theorem XC:∀(bs:List Bool) (f:Nat→Bool),(∀i b,bs[i]?=some b→f i=b)→(List.range bs.length).any f=bs.any λb=>b
 | [],_,_=>rfl
 | b::r,f,h=>by
  have a:=XC r (λi=>f (i+1)) λi c d=>h (i+1) c (by simpa using d);rw[ζZ,List.range_succ_eq_map,List.any_cons,List.any_map,List.any_cons,h 0 b rfl,←a];rfl
theorem zaZ(j:X.calm=true):yo X (.builtin "any") (rAny X.K):=by
 intro pins s σ H xs us Q I r h;obtain⟨p,bs,rfl,hq,q⟩:=h;obtain⟨u,rfl,k⟩:=wa r;cases k;obtain⟨l,m,pl,z⟩:=I.list hq;have e:=XF m;subst e;have f:=pl.isList;refine call_any_walk (wpAny_pyIter_list f ?_);have g:p≠s.heap.objs.size:=by
  obtain⟨o,n,_⟩:=f;exact ζt (ζl n)
 refine⟨s.heap.objs.size,_,_,_,_,_,λi=>bs.getD i false,rfl,Walks.list (A:=X.A.in1) (I.ok.hd j) _ p g (bs.map Value.bool).toArray,⟨⟨_,ζo _ rfl,rfl,rfl⟩,f.push _⟩,λi v s Q E t w=>?_,λh' tk x=>?_⟩
 ·have a:(bs.map Value.bool)[i]?=some v:=by simpa using t
  rw[ζj]at a;cases c:bs[i]? with
  | none=>rw[c]at a;cases a
  | some b =>
   rw[c]at a;cases a;have:bs.getD i false=b:=by rw[ζf,c];rfl
   have d:Q (bs.getD i false) s:=w;rw[this]at d;exact wpAny_truthy_bool d
 ·have e:(List.range (bs.map Value.bool).toArray.size).any (λi=>bs.getD i false)=bs.any λb=>b:=by
   rw[ζE,ζc];exact XC bs _ λi b y=>by rw[ζf,y];rfl
  rw[e];exact⟨.bl _,H,I.kept λb o c=>x b o (by simpa using Nat.ne_of_lt (Heap.lt_size c)) (Heap.get?_push_of_some _ c),rfl,q⟩
theorem T0(a:X.K=K)(b:X.calm=true):yo X (.builtin "any") (rAny K):=by subst a;exact zaZ b
end
end L2
namespace PD
open PySem L2
section
variable {K:ζa}{S S':Sx}{κ κ':Bool}{Γ Γ' Γ'':Ctx}{P:Post}{E:XK}
theorem zdI{c:TE}{bs:List Bool}(h:EvL K S false c Γ (bs.map .bool)):EvE K S κ (tCB (rAny K) (zF c tNil)) Γ (.bool (bs.any λb=>b)):=λH0 F0 H F σ e Q q =>
 h H0 F0 H F σ e _ λa vs d f g1 g i=>by
  cases vF (zI i);exact⟨a,bs,rfl,g,q _ d f g1 (.bl _)⟩
end
end PD
namespace L2
open PySem PySem.Spec PyProof.Rows PySem.Calls
section
variable {κ:Type}[DecidableEq κ]
end
section
variable {P:Program}{w:World}{H:Hp}{h:Heap}{a:Addr}
end
section
variable {X:Cx}{pins:AL}{σ:St}{H:Hp}{s:Shared}{a:Addr}{y v:V}{u r:Value}{o:Option V}{A:Around}{E:AM}
theorem Inv.big(I:Inv X pins σ H s):sysModules<s.heap.objs.size:=by
 have h:mainGlobals<s.heap.objs.size:=(I.mod.glob.keeps I.bk).lt;exact Nat.lt_trans #[2] h
end
section
variable {X:Cx}{pins:AL}{σ:St}{H:Hp}{s:Shared}{a:Addr}{kvs:List (Key×V)}{k:Key}{u:Value}{A:Around}{E:AM}
end
section
variable {X:Cx}{o i e value:Expr}{pos pos' tpos:Pos}{td ty tv:TE}
end
theorem zaU{P:Program}{w:World}{H:Hp}(h:Heap)(a:sysModules<h.objs.size):yN P w H (h.push {cls:=.type "dict", data:=.dict #[]}) h.objs.size (.dK []):=
 ⟨ξa _,beq_eq_false_iff_ne.mpr (Ne.symm (ζt a)),[],.nil,Heap.DictOf.new h⟩
def Qk:TE:=λ_ H Q=>∀p,H p=none→Q (.ref p) (upd H p (.dK []))
section
variable {X:Cx}{pos:Pos}
theorem QS:PE X (.Dict [] [] pos) Qk:=λpins s σ H Q I h =>
 wpAny_Dict_empty ⟨.ref s.heap.objs.size,_,I.laid (a:=s.heap.objs.size) (o:=.dK []) (t':=s.toks) (λ_ _ q=>ζd _ q) (ζp _) (zaU s.heap I.big),rfl,h _ (I.hok.fresh (ζp _))⟩
end
section
variable {X:Cx}{pins:AL}{σ:St}{H:Hp}{s:Shared}{a:Addr}{y d:V}{u r:Value}{o:Option V}{A:Around}{E:AM}
end
section
variable {X:Cx}{o e f:Expr}{apos cpos:Pos}{td ty tx:TE}
end
section
variable {X:Cx}{pins:AL}{σ:St}{H:Hp}{s:Shared}{a:Addr}{kvs:List (Key×V)}{A:Around}{E:AM}
end
section
variable {X:Cx}{pins:AL}{σ:St}{H:Hp}{s:Shared}{a:Addr}{y:V}{u:Value}{A:Around}{E:AM}
end
end L2
namespace L2
open PySem PySem.Spec PyProof.Rows
def Cx.blkC(X:Cx)(y:Str)(N:AJ)(scope:Scope)(cl:List (Str×Addr))(C:Addr)(s:Shared)(H:Hp)(fp:List Addr):Cx:=
 {X.blk N scope ((y,C+1)::cl) C s H fp with fn:=λz=>z==y}
structure uz(X:Cx)(y:Str)(N:AJ)(scope:Scope)(cl:List (Str×Addr))(js:List (Option Nat)):Prop where
 clos:closureFor scope X.env=pure cl
 lay:∀(n:Nat) (acc:List (Str×Addr)),cellsFrom n scope.names acc=(y,n)::acc
 own:∀z∈scope.names,z.2=.cell→z.1=y
 look:scope.names.lookup y=some .cell
 ny:¬∃c,cl.lookup y=some c
 kind:scope.kind=.function
 names:∀y∈scope.names,y.2=.local→scope.names.lookup y.1=some .local
 cells:∀p∈cl,X.env.cells.lookup p.1=some p.2
 has:∀y∈scope.names,y.2=.free→(cl.lookup y.1).isSome=true
 len:js.length=N.length
 cap:∀(i j:Nat),js[i]?=some (some j)→∃x,N[i]?=some x∧X.N[j]?=some x∧scope.names.lookup x=some .free∧(X.env.scope.names.lookup x=some .cell∨X.env.scope.names.lookup x=some .free)
theorem uF{env:Env}:∀{names:List (Str×NameKind)} {x:Str},
  ((names.map λ(n,k)=>if(k==NameKind.free&&env.scope.kind==.function&&env.kindOf n==some .cell)then(n,NameKind.cell)else(n,k)).lookup x=some .cell∨
   (names.map λ(n,k)=>if(k==NameKind.free&&env.scope.kind==.function&&env.kindOf n==some .cell)then(n,NameKind.cell)else(n,k)).lookup x=some .free)→∃y∈names,y.1=x∧(y.2=.free∨y.2=.cell)
 | [],_,h=>by simp at h
 | (n,k)::r,x,h=>by
  have d:=@uF env r x
  have h':List.lookup x ((if(k==NameKind.free&&env.scope.kind==.function&&env.kindOf n==some .cell)=true then(n,NameKind.cell)else(n,k))::(r.map λ(n,k)=>if(k==NameKind.free&&env.scope.kind==.function&&env.kindOf n==some .cell)then(n,NameKind.cell)else(n,k)))=some .cell∨
   List.lookup x ((if(k==NameKind.free&&env.scope.kind==.function&&env.kindOf n==some .cell)=true then(n,NameKind.cell)else(n,k))::(r.map λ(n,k)=>if(k==NameKind.free&&env.scope.kind==.function&&env.kindOf n==some .cell)then(n,NameKind.cell)else(n,k)))=some .free:=h
  cases b:x==n with
  | true =>
   have e:x=n:=by simpa using b
   subst e;by_cases a:(k==NameKind.free&&env.scope.kind==.function&&env.kindOf x==some .cell)=true
   ·have f:k=.free:=by
     cases k<;>first|rfl|(simp at a)
    exact⟨(x,k),ζi,rfl,.inl f⟩
   ·rw[if_neg a]at h';simp only[List.lookup_cons,b]at h';rcases h' with q|q
    ·cases q;exact⟨(x,.cell),ζi,rfl,.inr rfl⟩
    ·cases q;exact⟨(x,.free),ζi,rfl,.inl rfl⟩
  | false =>
   by_cases a:(k==NameKind.free&&env.scope.kind==.function&&env.kindOf n==some .cell)=true
   ·rw[if_pos a]at h';simp only[List.lookup_cons,b]at h';obtain⟨y,c,e⟩:=d h';exact⟨y,ζb _ c,e⟩
   ·rw[if_neg a]at h';simp only[List.lookup_cons,b]at h';obtain⟨y,c,e⟩:=d h';exact⟨y,ζb _ c,e⟩
theorem VN{M:Model}{A:Around}{E:AM}{s:Shared}{scope:Scope}{globals:Addr}{cl:List (Str×Addr)}{qual:Str}{env:Env}{y:Str}{Q:Env→Shared→Prop}(lay:∀(n:Nat) (acc:List (Str×Addr)),cellsFrom n scope.names acc=(y,n)::acc)
  (d:∀h',h'.Ns s.heap.objs.size (λ_=>none)→h'.IsCell (s.heap.objs.size+1) none→(∀b o,s.heap.get? b=some o→h'.get? b=some o)→
   Q (newEnv scope s.heap.objs.size globals ((y,s.heap.objs.size+1)::cl) qual none .none (some env) builtinsNs) {s with heap:=h'}) :
  wpAny M A (newFunctionEnv scope globals cl [] qual none .none (some env)) Q E s:=by
 simp only[newFunctionEnv,Option.isSome_some,if_true];refine AA (wpAny_alloc ?_);refine AA (wpAny_layCells _ (λc kind cells=>by cases a:kind==NameKind.cell<;>simp[a]) _ _ _ _ ?_);have sz:({s with heap:=s.heap.push {cls:=.type "dict", data:=.dict #[]}}:Shared).heap.objs.size=s.heap.objs.size+1:=ζS ..;have ok:=cellsFrom_ok scope.names (s.heap.push {cls:=.type "dict", data:=.dict #[]}) (s.heap.objs.size+1) [] ⟨λ_ _ f=>(nomatch f),List.Pairwise.nil⟩ (by rw[ζS];exact ζp _);rw[ζS,lay]at ok;rw[sz,lay,List.forIn_nil];refine AA (AB (AB (d _ ?_ ?_ ?_)))
 ·exact(Heap.Ns.new s.heap (.type "dict")).keeps (pushCells_keeps _ _)
 ·exact(ok.empty y _ ζi).1
 ·exact λb o e=>pushCells_keeps _ _ b o (ζd _ e)
section
variable {X:Cx}{y:Str}{N:AJ}{scope:Scope}{cl:List (Str×Addr)}{js:List (Option Nat)}{pins:AL}{σ:St}{H:Hp}{s:Shared}{fp:List Addr}
theorem xT{C:Addr}{x:Str}{c:Addr}(h:((y,C)::cl).lookup x=some c):(x=y∧c=C)∨(x≠y∧cl.lookup x=some c):=by
 rw[ξg]at h;cases a:x==y with
 | true=>rw[a]at h;cases h;exact .inl ⟨by simpa using a,rfl⟩
 | false=>rw[a]at h;exact .inr ⟨by simpa using a,h⟩
theorem UH{C:Addr}{x:Str}(h:x≠y):((y,C)::cl).lookup x=cl.lookup x:=by
 rw[ξg];have:(x==y)=false:=by simpa using h
 rw[this]
theorem Ub(K:uz X y N scope cl js)(I:Inv X pins σ H s)(M:∀b∈fp,FpOk X pins H b)(C:∀b∈fp,b<s.heap.objs.size){O:Heap}{W:AN}{tk:Nat}(Z:O.Ns s.heap.objs.size W)
  (P:O.IsCell (s.heap.objs.size+1) none) (D:∀b o,s.heap.get? b=some o→O.get? b=some o) :
  Inv (X.blkC y N scope cl s.heap.objs.size s H fp) [] (capt js σ) H {s with heap:=O,toks:=tk}:=by
 have E:∀b∈fp,b≠s.heap.objs.size:=λb h=>ζt (C b h);have t:∀x c,cl.lookup x=some c→c<s.heap.objs.size:=λx c e=>by
  obtain⟨v,q⟩:=I.cell x c (K.cells (x,c) (PySem.mem_of_lookup e));exact q.lt
 have Q:∀c,cl.lookup y≠some c:=λc e=>by
  exact K.ny ⟨c,e⟩
 have a:∀x c,cl.lookup x=some c→X.env.cells.lookup x=some c:=λx c e=>K.cells (x,c) (PySem.mem_of_lookup e)
 refine⟨⟨I.ok.mod,K.kind,I.ok.glob,I.ok.blt,ζp _,λx z c B A=>?_,λx hx=>?_,λx c z e=>?_,I.ok.hd,I.ok.frames,.inl rfl,λb h=>⟨E b h,λx c e=>?_⟩,
  I.bs,ζ7 I.ok.bsz I.sz,λb o e h=>?_,λb h z=>?_,I.stack,I.stkFree,I.ok.tb.un I.base⟩,rfl,I.bare,Un.kept D,⟨W,Z,λi x v B A e3=>?_⟩,λx c e=>?_,I.hok.fresh (ζp _),λx c e=>?_,λp hp=>(I.pin p (ζy _ (by rwa [ζx]at hp))).imp (D _ _) λ⟨a2,a3,a4,a5⟩=>⟨a2,ζt (ζl (I.pin p (ζy _ (by rwa [ζx]at hp))).1),λz=>(ζq.mp (I.stkSub _ z)).elim a3 a4,a5⟩,I.hok.kept D,?_⟩
 ·rcases xT B with⟨q1,q2⟩|⟨n1,R⟩<;>rcases xT A with⟨q3,q4⟩|⟨n2,S⟩
  ·exact q1.trans q3.symm
  ·rw[q2]at S;exact absurd (t z _ S) (ξV.mpr (ξu _))
  ·rw[q4]at R;exact absurd (t x _ R) (ξV.mpr (ξu _))
  ·exact I.ok.inj x z c (a x c R) (a z c S)
 ·obtain⟨z,Y,B,A|A⟩:=uF hx
  ·have q:=K.has z Y A;rw[B]at q;obtain⟨c,F⟩:=ξs.mp q;have ne:x≠y:=λe=>by
    have:=K.names;rw[e]at F;exact Q c F
   exact⟨c,by show((y,s.heap.objs.size+1)::cl).lookup x=some c;rw[UH ne];exact F⟩
  ·have e:=K.own z Y A;rw[B]at e;refine⟨s.heap.objs.size+1,?_⟩
   show((y,s.heap.objs.size+1)::cl).lookup x=_;rw[e,ξg,beq_self_eq_true]
 ·have z:(x==y)=true:=z;rcases xT e with⟨_,rfl⟩|⟨n,_⟩
  ·show s.heap.objs.size≤s.heap.objs.size+1;omega
  ·exact absurd (by simpa using z) n
 ·rcases xT e with⟨_,rfl⟩|⟨n,e⟩
  ·exact λz=>absurd (z ▸ C b h) (ξV.mpr (ξu _))
  ·exact(M b h).2.2.2.2.1 x c (a x c e)
 ·rcases(M b h).2.2.2.1 with z|z
  ·exact I.ok.noex b o e z
  ·exact absurd (ζC (ζl e) (ζ7 I.ok.bsz z)) (ξi _)
 ·rcases ζq.mp (I.stkSub b z)with q|q
  ·exact(M b h).2.1 q
  ·exact(M b h).2.2.1 q
 ·
  have hi:(capt js σ)[i]?=some (some v):=A;unfold capt at hi;rw[ζj]at hi;cases T:js[i]? with
  | none=>rw[T]at hi;cases hi
  | some o =>
   rw[T]at hi;cases o with
   | none=>cases hi
   | some j =>
    obtain⟨y,U,V,g,d⟩:=K.cap i j T;have G:N[i]?=some x:=B;rw[U]at G;cases G;have hj:σ[j]?=some (some v):=by
     cases q:σ[j]? with
     | none=>have f:(Option.join σ[j]?)=some v:=ζD hi;rw[q]at f;cases f
     | some w=>have f:(Option.join σ[j]?)=some v:=ζD hi;rw[q]at f;cases w with
      | none=>cases f
      | some w=>exact congrArg some f
    obtain⟨m,_,hl⟩:=I.loc;obtain⟨u,r,l⟩:=hl j x v V hj (.inr d);refine⟨u,r,.inr ⟨d.imp (λz=>vq I.ok.kind g z) (λz=>vp g z),?_⟩⟩
    rcases l with⟨k,_⟩|⟨_,c,ec,F⟩
    ·rcases d with d|d<;>exact absurd (k.symm.trans d) (by intro z;cases z)
    ·obtain⟨c',J⟩:=ξs.mp (K.has (x,.free) (PySem.mem_of_lookup g) rfl);have L:=a x c' J;rw[ec]at L;cases L;have ne:x≠y:=λe=>by
      rw[e,K.look]at g;cases g
     exact⟨c,by show((y,s.heap.objs.size+1)::cl).lookup x=some c;rw[UH ne];exact J,F.keeps D⟩
 ·rcases xT e with⟨_,rfl⟩|⟨_,e⟩
  ·exact⟨none,P⟩
  ·obtain⟨v,hv⟩:=I.cell x c (a x c e);exact⟨v,hv.keeps D⟩
 ·rcases xT e with⟨_,rfl⟩|⟨n,e⟩
  ·exact .inl (I.hok.fresh (ξu _))
  ·exact(I.freeC x c (a x c e)).imp id λz=>⟨(by show(x==y)=false;simpa using n),z.2⟩
 ·show(capt js σ).length=N.length;unfold capt;rw[ζc];exact K.len
theorem za1{σ':St}{H':Hp}{s':Shared}{h':Heap}(I:Inv X pins σ H s)(k:∀b∈fp,FpOk X pins H b)(J:Inv (X.blkC y N scope cl s.heap.objs.size s H fp) [] σ' H' s')(i:Heap.SameBut s.heap.objs.size s'.heap h'):
  Inv X pins σ H' {s' with heap:=h'}:=by
 have d:∀b o,s.heap.get? b=some o→b≠s.heap.objs.size:=λb o e=>ζt (ζl e);have u:=J.base;have f:Un (frs X.stack) fp H H' s.heap s'.heap:=u;refine I.call' (s':={s' with heap:=h'}) (ch:=fp) J.os ⟨λb o e n g h=>?_,λb o e n g h=>?_,f.free,λb o e h=>?_,f.tups,f.frzs,f.tbls⟩ (λb ob e=>?_) J.bare λb g=>?_
 ·exact(i.2 b (d b o e)).trans (f.keep b o e n g h)
 ·obtain⟨sl,q⟩:=f.slot b o e n g h;exact⟨sl,(i.2 b (d b o e)).trans q⟩
 ·obtain⟨o',q⟩:=f.there b o e h;exact⟨o',(i.2 b (d b o e)).trans q⟩
 ·have a:H' s.heap.objs.size=none:=J.free;refine(J.hok b ob e).stay (λc t j q=>(i.2 c ?_).trans q) (λ_ q=>q) λ_ _ q=>q;rintro rfl;rcases j with rfl|j
  ·rw[a]at e;cases e
  ·rw[a]at j;cases j
 ·obtain⟨f0,l,v,m,p,r⟩:=k b g;exact⟨m,l,p,r⟩
end
section
variable {X:Cx}{y:Str}{N:AJ}{scope:Scope}{cl:List (Str×Addr)}{js:List (Option Nat)}{pins:AL}{σ:St}{H:Hp}{s:Shared}
theorem V4{k tg f:Expr}{l:List Expr}{G:Pos}{J:It}{fp:List Addr}{it:Addr}{tn:Nat→Heap→Prop}{g:TG}{tt:TT}{te:TE}{Q:VK}{E:AM}{RR:Value→Addr→Result→Shared→Prop}
  (hc:X.calm=true) (K:uz X y N scope cl js) (I:Inv X pins σ H s) (T:Turn X.prog X.w X.K tg J fp it tn) (st:tn 0 s.heap) (hf:∀b∈fp,FpOk X pins H b)
  (hg:∀C s H fp,PG (X.blkC y N scope cl C s H fp) tg g) (ht:∀C s H fp,PIf (X.blkC y N scope cl C s H fp) l tt) (he:∀C s H fp,PE (X.blkC y N scope cl C s H fp) k te)
  (hq:zaW J g tt te (capt js σ) Q H)
  (a0:∀(D:Addr) (a s':Shared) (H':Hp) (σ':St),Inv X pins σ (upd H D (.lst [])) a→(∀b∈fp,FpOk X pins (upd H D (.lst [])) b)→Inv (X.blkC y N scope cl a.heap.objs.size a (upd H D (.lst [])) fp) [] σ' H' s'→Q (.ref D) H'→RR (.ref D) a.heap.objs.size (.ok .next) s') :
  wpAny (model X.prog X.w) X.A (newList []) (λacc a=>wpAny (model X.prog X.w) X.A (newFunctionEnv scope X.env.globals cl [] X.env.qual none .none (some X.env)) (λh s4 =>
   codeAny (model X.prog X.w) X.A (.compStart (.ListComp k [⟨tg,f,l,0⟩] scope G) 0 (.ref it) acc {h with scope:=relabel scope X.env}) (RR acc h.locals) s4) E a) E s:=by
 have fresh:H s.heap.objs.size=none:=I.fresh;have lt:∀b∈fp,b<s.heap.objs.size:=λb d=>by
  obtain⟨o,e,_⟩:=T.obj _ _ st b d;exact ζl e
 obtain⟨W,⟨m0,w0⟩,step⟩:=hq _ fresh;refine wpAny_newObj_type ?_;have U:=I.lnew (ys:=[]) (its:=[]) (t':=s.toks) .nil (ξa _);have m:∀b∈fp,FpOk X pins (upd H s.heap.objs.size (.lst [])) b:=λb d=>⟨by rw[zk (ζt (lt b d))];exact(hf b d).1,(hf b d).2⟩
 generalize e3:({s with heap:=s.heap.push {cls:=.type "list", data:=.seq ([]:AK).toArray},toks:=s.toks}:Shared)=a at U;have L:tn 0 a.heap:=by
  rw[←e3];exact T.keep _ _ _ st λb _ o e=>ζd _ e
 have q:∀b∈fp,b<a.heap.objs.size:=λb d=>by
  obtain⟨o,e,_⟩:=T.obj _ _ L b d;exact ζl e
 refine VN K.lay (λh4 n4 c4 old=>?_);have I4:=Ub K U m q (tk:=a.toks) n4 c4 old;have M:tn 0 h4:=T.keep _ _ _ L λb _ o e=>old b o e;have t:∀{H':Hp},(∀b∈fp,H' b=none)→∀b∈fp,FpOk (X.blkC y N scope cl a.heap.objs.size a (upd H s.heap.objs.size (.lst [])) fp) [] H' b:=λhn b d =>
  ⟨hn b d,ζt (q b d),λz=>(ζq.mp (U.stkSub b z)).elim (m b d).2.1 (m b d).2.2.1,.inl d,λx c e=>(xT e).elim (λz w=>absurd (z.2 ▸ w ▸ q b d) (ξV.mpr (ξu _))) λz=>(m b d).2.2.2.2.1 x c (K.cells (x,c) (PySem.mem_of_lookup z.2)),λp hp=>(m b d).2.2.2.2.2 p (ζy _ (by rwa [ζx]at hp))⟩
 have j:codeAny (model X.prog X.w) X.A (.compLoop (.ListComp k [⟨tg,f,l,0⟩] scope G) 0 (.ref it) (.ref s.heap.objs.size) (compEnvC scope ((y,a.heap.objs.size+1)::cl) a.heap.objs.size X.env)) (RR (.ref s.heap.objs.size) a.heap.objs.size)
   ({a with heap:=h4,toks:=a.toks}:Shared):=by
  refine Xu (λn s'=>∃i ys H',Inv (X.blkC y N scope cl a.heap.objs.size a (upd H s.heap.objs.size (.lst [])) fp) [] (capt js σ) H' s'∧tn i s'.heap∧(∀b∈fp,H' b=none)∧W i n ys H') (λ_ _=>False) (λ_ _ z=>z) ?_ m0
   ⟨0,[],_,I4,M,λb d=>(m b d).1,w0⟩
  rintro n s5 ⟨i,ys,Y,I5,O,P,w5⟩;rcases step i n ys Y w5 with⟨stop,qn⟩|⟨go,Nn,hN,a1⟩
  ·refine thn (T.done (X.blkC y N scope cl a.heap.objs.size a (upd H s.heap.objs.size (.lst [])) fp) rfl rfl rfl hc i [] s5 (capt js σ) Y _ I5 (t P) O stop) λr s6 ⟨Z,I6⟩=>⟨λ_=>?_,λv e=>?_⟩
   ·exact a0 _ a s6 Y _ U m I6 qn
   ·rw[Z]at e;cases e
  ·refine thn (T.item (X.blkC y N scope cl a.heap.objs.size a (upd H s.heap.objs.size (.lst [])) fp) rfl rfl rfl hc i [] s5 (capt js σ) Y _ I5 (t P) O go) λr s6 ⟨u,Z,h6⟩=>⟨λe=>?_,λv e=>?_⟩
   ·rw[Z]at e;cases e
   rw[Z]at e;cases e;refine thn h6 λ_ s7 ⟨x,H7,I7,r7,y7,B,a2⟩=>?_;have a3:=I7.pinned (t a2) (T.obj _ _ B)
   have back:∀{σ':St} {H':Hp} {s':Shared} {i' n':Nat} {zs:List V},Inv (X.blkC y N scope cl a.heap.objs.size a (upd H s.heap.objs.size (.lst [])) fp) ([]++Zn fp s7.heap) σ' H' s'→Sub (capt js σ) σ'→W (i+1) n' zs H'→
     ∃i ys H',Inv (X.blkC y N scope cl a.heap.objs.size a (upd H s.heap.objs.size (.lst [])) fp) [] (capt js σ) H' s'∧tn i s'.heap∧(∀b∈fp,H' b=none)∧W i n' ys H':=λ{σ' H' s' i' n' zs} I' sb R=>by
    refine⟨i+1,zs,H',(I'.unpinned).weak sb.1 sb.2,T.keep _ _ _ B λb d o e=>(I'.pin (b,o) (ζw _ (ζw _ (xS d e)))).1,λb d=>?_,R⟩
    obtain⟨o,e,_⟩:=T.obj _ _ B b d;exact(I'.pin (b,o) (ζw _ (ζw _ (xS d e)))).2.1
   refine thn (hg _ _ _ _ _ s7 (capt js σ) H7 x _ _ a3 r7 (a1 x H7 y7)) λ_ s8 ⟨F,H8,I8,S,q8⟩=>?_;refine thn (ht _ _ _ _ _ s8 F H8 _ I8 q8) λok s9 ⟨H9,I9,q9⟩=>⟨λe=>?_,λe=>?_⟩
   ·rw[e,if_neg ζv]at q9;obtain⟨m',hm,R⟩:=hN _ _ q9;exact⟨m',hm,back (i':=0) I9 S R⟩
   ·rw[e,if_pos rfl]at q9;refine thn (he _ _ _ _ _ s9 F H9 _ I9 q9) λxv sa ⟨v,Ha,Ia,ra,qa,za,nn⟩=>?_;obtain⟨m',hm,R⟩:=hN _ _ nn;refine thn (yP (X:=X.blkC y N scope cl a.heap.objs.size a (upd H s.heap.objs.size (.lst [])) fp) _ sa F Ha (.ref s.heap.objs.size) [v] (.ref s.heap.objs.size) [xv] (λy H'=>H'=upd Ha s.heap.objs.size (.lst (ys++[v]))) Ia rfl (.cons ra .nil) ⟨_,ys,v,rfl,rfl,qa,za,rfl⟩) λy sb ⟨z,Hb,Ib,_,eb⟩=>?_;rw[eb]at Ib;exact⟨m',hm,back (i':=0) Ib S R⟩
 exact codeAny_compStart_list j (T.self _ 0 _ _ _ M j)
theorem QT{b tg a:Expr}{c:List Expr}{f:Pos}{j:TI}{g:TG}{tt:TT}{te:TE}(l:X.calm=true)(K:uz X y N scope cl js)(hi:PI X tg a j)
  (n:∀C s H fp,PG (X.blkC y N scope cl C s H fp) tg g) (o:∀C s H fp,PIf (X.blkC y N scope cl C s H fp) c tt) (p:∀C s H fp,PE (X.blkC y N scope cl C s H fp) b te)
  (r:∀x,foldedSetIterable a X.env x=pure x:=by intro _;rfl):PE X (.ListComp b [⟨tg,a,c,0⟩] scope f) (xG js j g tt te):=by
 intro pins s σ H Q I h;rw[eval_ListComp];refine wpAny_comprehension_free (use:=none) rfl r K.clos K.kind K.names (thn (hi pins s σ H _ I h) λv s1 t=>thn t λu s2 z=>?_);obtain⟨it,fp,tn,J,O,e,B,T,i,E,hq⟩:=z;subst e;refine V4 (RR:=λacc C=>compPost (model X.prog X.w) X.A X.xe none (EP X pins σ Q) acc C) l K B T i E n o p hq ?_;intro D P s' H' σ' F G k q;obtain⟨m,L,_⟩:=k.loc;exact⟨m,L,λM d=>⟨.ref D,H',za1 F G k d,rfl,q⟩⟩
end
theorem uz.of{X:Cx}{y:Str}{N:AJ}{scope:Scope}{cl:List (Str×Addr)}{js:List (Option Nat)}(clos:closureFor scope X.env=pure cl)(lay:∀(n:Nat) (acc:List (Str×Addr)),cellsFrom n scope.names acc=(y,n)::acc)(own:(scope.names.all λz=>z.2 != .cell||z.1==y)=true)(look:scope.names.lookup y=some .cell)(ny:cl.lookup y=none)(kind:scope.kind=.function)
  (nm:(scope.names.all λy=>y.2 != .local||(scope.names.lookup y.1==some .local))=true) (cells:∀p∈cl,X.env.cells.lookup p.1=some p.2) (has:(scope.names.all λy=>y.2 != .free||(cl.lookup y.1).isSome)=true)
  (len:js.length=N.length) (cap:((js.zip N).all λp=>match p.1 with|none=>true|some j=>(X.N[j]?==some p.2)&&(scope.names.lookup p.2==some .free)&&(X.env.scope.names.lookup p.2==some .cell||X.env.scope.names.lookup p.2==some .free))=true):uz X y N scope cl js:=by
 rw[ζM]at own nm has cap;refine⟨clos,lay,λz a e=>?_,look,λ⟨c,e⟩=>(by rw[ny]at e;cases e),kind,λy b e=>?_,cells,λy b e=>?_,len,λi j e=>?_⟩
 ·have q:=own z a;rw[e]at q;simpa using q
 ·have q:=nm y b;rw[e]at q;simpa using q
 ·have q:=has y b;rw[e]at q;simpa using q
 ·have hi:i<js.length:=(ζg.mp e).1;have d:N[i]?=some (N[i]'⋯):=ζe ⋯;have a:(js.zip N)[i]?=some (some j,N[i]'⋯):=by
   rw[ξr];exact⟨e,d⟩
  have q:=cap _ (ζk a);simp only[Bool.and_eq_true,Bool.or_eq_true,beq_iff_eq]at q;exact⟨_,d,q.1.1,q.1.2,q.2⟩
theorem Y9:∀{ws:List V} {a:AK} {i:Nat} {u:Value},Vals ws a→a[i]?=some u→∃v,ws[i]?=some v∧RelV v u
 | _,_,_,_,.nil,h=>by cases h
 | _,_,0,_,.cons r _,h=>by cases h;exact⟨_,rfl,r⟩
 | _,_,i+1,_,.cons _ t,h=>Y9 (i:=i) t (by simpa using h)
section
variable {X:Cx}{K:ζa}
end
end L2
namespace PD
open PySem L2
section
variable {K:ζa}{S S':Sx}{κ κ':Bool}{Γ Γ' Γ'':Ctx}{P:Post}
end
section
variable {K:ζa}{S S':Sx}{κ κ':Bool}{Γ Γ' Γ'' Γ3:Ctx}{P:Post}
def EvC(K:ζa)(S:Sx)(t:TE)(Γ:Ctx)(d:AD):Prop:=∀(H0 F0 H F:Hp) (σ:St),DEnv K S H0 F0 H F σ Γ→∀Q:VK,(∀v H' F',Gr H F H' F'→Rp K true .fresh H F' v d→Q v H')→t σ H Q
theorem zce{pre:AG→AD→Prop}{E:XK}{t:TA}{ds:AG}{d:AD}(h:EvA K S false t Γ ds)(hp:pre ds d):EvC K S (y8 (spD K true pre) [] E t) Γ d:=λH0 F0 H F σ e Q q =>
 h H0 F0 H F σ e _ λvs b f g1 g=>⟨f,ds,d,g1.le,by rw[ζx];exact zI g,hp,λv i j g2 k=>q v i j (g1.trans g2) (wU (κ:=true) (κ':=true) (λa xs z=>⟨z.1,λc=>z.2 (by
  show b a≠none;cases w:H a with
  | none=>exact absurd w c
  | some o=>rw[g1.h _ _ w];simp)⟩) (λ_ _ z=>z) k)⟩
theorem zcd(i:Nat){b:Bool}{t:TE}{j:AG}{d:AD}{l:Ctx}(h:GetC Γ i (.ow b j))(u:SetC Γ i (some (.fz b (.list j))) l)(k:EvC K S t l d):EvC K S t Γ d:=λH0 F0 H F σ e Q q=>by
 obtain⟨G,A,a,vs,rfl,w,B⟩:=e.has i _ h.eq;obtain⟨s,m⟩:=e.froz (y:=.fz b (.list j)) h.eq A rfl w (.lst (LN.new w.s) (zu (Same.new w.f _) B)) λ_ z=>z.elim;rw[u.eq]at m;have g:∀H' F',Gr H (upd F a (.lst vs)) H' F'→Gr H F H' (drop (λc=>c=a) F'):=λH' F' g=>by
  refine⟨g.h,λc o z=>yb.mpr ⟨g.f _ _ (s _ _ z),?_⟩,λc o z=>g.le _ _ (yb.mp z).1,λc o z n=>?_⟩
  ·rintro⟨rfl,_⟩;rw[w.f]at z;cases z
  ·by_cases p:c=a
   ·subst p;exact Zy (g.f _ _ zm) rfl
   ·cases C:drop (λc=>c=a) F' c with
    | none=>rfl
    | some o' =>
     have:=(yb.mp C).1;rw[g.ap _ _ z (by rw[zk p];exact n)]at this;cases this
 refine k H0 F0 H _ σ m _ λv r D g2 E=>q v r _ (g r D g2) (wU (κ:=true) (κ':=true) (λx xs z=>⟨yb.mpr ⟨z.1,λc=>z.2 ?_⟩,z.2⟩) (λx xs z=>?_) E)
 ·show H x≠none;rw[c.1,w.h];simp
 ·refine z.mv (λxs z=>?_) λz=>yb.mpr ⟨z,λc=>nomatch c.2⟩;rcases z with(z|⟨o,z⟩)|z
  ·exact .inl (.inl (yb.mpr ⟨z,λc=>nomatch c.2⟩))
  ·exact .inl (.inr ⟨o,yb.mpr ⟨z,λc=>nomatch c.2⟩⟩)
  ·exact .inr z
theorem zay{te:TE}{u:TS}{d:AD}(h:EvE K S false te Γ d)(k:ExT K S S' u Γ P):ExT K S S' (tSeq (wg te) u) Γ P:=yZ (·=Γ) (UP h rfl) λ_ z=>z ▸ k
theorem EvC.toE{t:TE}{d:AD}(h:EvC K S t Γ d):EvE K S κ t Γ d:=λH0 F0 H F σ e Q q=>h H0 F0 H F σ e Q λv H' F' g p=>q v H' F' g (tL (κ:=true) (λ_=>rfl) (wU (κ:=true) (κ':=true) (S':=S) (H0':=H0) (λa xs z=>⟨z.1,λc=>by
  obtain⟨u,b⟩:=e.sd a c;exact z.2 (by show H a≠none;rw[b];simp)⟩) (λ_ _ z=>z) p))
end
mutual
inductive Tr(H:Hp):V→AD→List Addr→Prop
 | non:Tr H .non .none []
 | bl (b:Bool):Tr H (.bl b) (.bool b) []
 | int (i:Int):Tr H (.int i) (.int i) []
 | str (x:Str):Tr H (.str x) (.str x) []
 | lst {a:Addr} {xs:List V} {ds:AG} {as:List Addr}:H a=some (.lst xs)→yS H xs ds as→a∉as→Tr H (.ref a) (.list ds) (a::as)
inductive yS(H:Hp):List V→AG→List Addr→Prop
 | nil:yS H [] [] []
 | cons {v:V} {vs:List V} {d:AD} {ds:AG} {as bs:List Addr}:Tr H v d as→yS H vs ds bs→(∀a∈as,a∉bs)→yS H (v::vs) (d::ds) (as++bs)
end
mutual
theorem ZR{H H':Hp}:∀{v:V} {d:AD} {as:List Addr},(∀a∈as,H' a=H a)→Tr H v d as→Tr H' v d as
 | _,_,_,_,.non=>.non
 | _,_,_,_,.bl b=>.bl b
 | _,_,_,_,.int i=>.int i
 | _,_,_,_,.str x=>.str x
 | _,_,_,h,.lst e k n=>.lst (by rw[h _ ζi];exact e) (vi (λa m=>h a (ζb _ m)) k) n
theorem vi{H H':Hp}:∀{vs:List V} {ds:AG} {as:List Addr},(∀a∈as,H' a=H a)→yS H vs ds as→yS H' vs ds as
 | _,_,_,_,.nil=>.nil
 | _,_,_,h,.cons p q r=>.cons (ZR (λa m=>h a (ζy _ m)) p) (vi (λa m=>h a (ζw _ m)) q) r
end
inductive Rc(H:Hp):V→Addr→Prop
 | here (a:Addr):Rc H (.ref a) a
 | on {p a:Addr} {xs:List V} {x:V}:H p=some (.lst xs)→x∈xs→Rc H x a→Rc H (.ref p) a
mutual
theorem uE{H:Hp}{b:Addr}:∀{v:V} {d:AD} {as:List Addr},Tr H v d as→(Rc H v b↔b∈as)
 | _,_,_,.non=>⟨λz=>(nomatch z),λz=>(nomatch z)⟩
 | _,_,_,.bl b=>⟨λz=>(nomatch z),λz=>(nomatch z)⟩
 | _,_,_,.int i=>⟨λz=>(nomatch z),λz=>(nomatch z)⟩
 | _,_,_,.str x=>⟨λz=>(nomatch z),λz=>(nomatch z)⟩
 | _,_,_,.lst e k n=>⟨λz=>by
   cases z with
   | here=>exact ζi
   | on c a r =>
    rw[e]at c;cases c;exact ζb _ ((tE k).mp ⟨_,a,r⟩),λz=>by
   rcases ζq.mp z with rfl|z
   ·exact .here _
   ·obtain⟨x,a,r⟩:=(tE k).mpr z;exact .on e a r⟩
theorem tE{H:Hp}{b:Addr}:∀{vs:List V} {ds:AG} {as:List Addr},yS H vs ds as→((∃x,x∈vs∧Rc H x b)↔b∈as)
 | _,_,_,.nil=>⟨λ⟨_,z,_⟩=>(nomatch z),λz=>(nomatch z)⟩
 | _,_,_,.cons p q r=>⟨λ⟨x,a,z⟩=>by
   rcases ζq.mp a with rfl|a
   ·exact ζy _ ((uE p).mp z)
   ·exact ζw _ ((tE q).mp ⟨x,a,z⟩),λz=>by
   rcases ζu.mp z with z|z
   ·exact⟨_,ζi,(uE p).mpr z⟩
   ·obtain⟨x,a,w⟩:=(tE q).mpr z;exact⟨x,ζb _ a,w⟩⟩
end
theorem zd1{H H':Hp}{v:V}{a:Addr}(z:Rc H v a):(∀a,Rc H v a→H' a=H a)→Rc H' v a:=by
 induction z with
 | here a=>exact λ_=>.here a
 | on e b r d=>exact λc=>.on (by rw[c _ (.here _)];exact e) b (d λa z=>c a (.on e b z))
theorem zd2{H H':Hp}{v:V}{a:Addr}(z:Rc H' v a):(∀a,Rc H v a→H' a=H a)→Rc H v a:=by
 induction z with
 | here a=>exact λ_=>.here a
 | on e b r d =>
  intro c;rw[c _ (.here _)]at e;exact .on e b (d λa z=>c a (.on e b z))
def psT(φ:V→Prop)(d:AD):Sx→Hp→Hp→Hp→V→Prop:=λ_ _ H _ v=>φ v∧∃as,Tr H v d as
theorem gokT(φ:V→Prop)(d:AD):GOk Rc (psT φ d):=
 ⟨λ_ _ _ c _=>⟨λz=>zd2 z c,λz=>zd1 z c⟩,λ_ _ _ _ _ _ _ c _ ⟨f,as,t⟩=>⟨f,as,ZR (λa m=>c a ((uE t).mpr m)) t⟩⟩
abbrev trP(φ:V→Prop)(d:AD):DV:=.og Rc (psT φ d)
def anyV:V→Prop:=λ_=>True
abbrev trD(d:AD):DV:=trP anyV d
section
variable {K:ζa}{S S':Sx}{κ κ':Bool}{Γ Γ' Γ'':Ctx}{P:Post}{E:XK}
variable {φ:V→Prop}
theorem hasP{H0 H F:Hp}{v:V}{d:AD}{as:List Addr}(f:φ v)(t:Tr H v d as)(o:∀a∈as,∃u,OwnO S H0 H F a u):HasV K S H0 H F v (trP φ d):=⟨gokT φ d,λa z=>o a ((uE t).mp z),f,as,t⟩
theorem hasT{H0 H F:Hp}{v:V}{d:AD}{as:List Addr}(t:Tr H v d as)(o:∀a∈as,∃u,OwnO S H0 H F a u):HasV K S H0 H F v (trD d):=hasP trivial t o
theorem ofT{H0 H F:Hp}{v:V}{d:AD}(h:HasV K S H0 H F v (trP φ d)):∃as,Tr H v d as∧∀a∈as,∃u,OwnO S H0 H F a u:=by
 obtain⟨_,o,f,as,t⟩:=h;exact⟨as,t,λa m=>o a ((uE t).mpr m)⟩
mutual
theorem zcl{H0 H F:Hp}:∀{v:V} {d:AD} {as:List Addr},(∀a∈as,F a=H a∧¬S.has H0 a)→Tr H v d as→Rp K true S H0 F v d
 | _,_,_,_,.non=>.non
 | _,_,_,_,.bl b=>.bl b
 | _,_,_,_,.int i=>.int i
 | _,_,_,_,.str x=>.str x
 | _,_,_,h,.lst e k _=>.lst ⟨by rw[(h _ ζi).1];exact e,(h _ ζi).2⟩ (WG (λa m=>h a (ζb _ m)) k)
theorem WG{H0 H F:Hp}:∀{vs:List V} {ds:AG} {as:List Addr},(∀a∈as,F a=H a∧¬S.has H0 a)→yS H vs ds as→zq K true S H0 F vs ds
 | _,_,_,_,.nil=>.nil
 | _,_,_,h,.cons p q _=>.cons (zcl (λa m=>h a (ζy _ m)) p) (WG (λa m=>h a (ζw _ m)) q)
end
theorem yS.length{H:Hp}:∀{vs:List V} {ds:AG} {as:List Addr},yS H vs ds as→vs.length=ds.length
 | _,_,_,.nil=>rfl
 | _,_,_,.cons _ k _=>congrArg (·+1) (yS.length k)
theorem zbe{H H0 F:Hp}{v:V}{d:AD}(h:Rp K κ S H0 F v d)(a:atom d=true):Tr H v d []:=by
 cases h with
 | non=>exact .non
 | bl b=>exact .bl b
 | int i=>exact .int i
 | str x=>exact .str x
 | lst _ _=>exact nomatch a
 | tup _ _=>exact nomatch a
 | dct _=>exact nomatch a
theorem ZF{H H0 F:Hp}:∀{vs:List V} {ds:AG},zq K κ S H0 F vs ds→(∀d∈ds,atom d=true)→yS H vs ds []
 | _,_,.nil,_=>.nil
 | _,_,.cons p q,h=>.cons (as:=[]) (zbe p (h _ ζi)) (ZF q λd m=>h d (ζb _ m)) λ_ z=>nomatch z
theorem yS.snoc{H:Hp}{v:V}{d:AD}{bs:List Addr}(t:Tr H v d bs):∀{vs:List V} {ds:AG} {as:List Addr},yS H vs ds as→(∀a∈as,a∉bs)→yS H (vs++[v]) (ds++[d]) (as++bs)
 | _,_,_,.nil,_=>by
  have:=yS.cons t (.nil) (λ_ _ z=>nomatch z);rw[ζx]at this;exact this
 | _,_,_,.cons (as:=as) (bs:=cs) p q r,h=>by
  rw[ξZ];exact .cons p (q.snoc t λa m=>h a (ζw _ m)) λa m z=>by
   rcases ζu.mp z with z|z
   ·exact r a m z
   ·exact h a (ζy _ m) z
theorem zbd{H F H' F':Hp}{v:V}{d:AD}{as:List Addr}(g:Gr H F H' F')(o:∀a∈as,∃u,H a=some u)(t:Tr H v d as):Tr H' v d as:=ZR (λa m=>by obtain⟨u,z⟩:=o a m;rw[z];exact g.h _ _ z) t
def EvTr(K:ζa)(S:Sx)(t:TE)(Γ:Ctx)(d:AD):Prop:=∀(H0 F0 H F:Hp) (σ:St),DEnv K S H0 F0 H F σ Γ→∀Q:VK,(∀v as H' F',Gr H F H' F'→Tr H' v d as→(∀a∈as,H a=none∧F' a=none)→Q v H')→t σ H Q
theorem EvTr.eq{t:TE}{a b:AD}(h:EvTr K S t Γ a)(e:a=b):EvTr K S t Γ b:=e ▸ h
theorem zaB{t:TE}{ds:AG}(h:EvO K S κ t Γ ds)(hd:∀d∈ds,atom d=true):EvTr K S t Γ (.list ds):=λH0 F0 H F σ e Q q =>
 h H0 F0 H F σ e Q λa vs H' F' g n p f k=>q (.ref a) [a] H' F' g (.lst p (ZF k hd) (by simp)) λb m=>by rw[List.mem_singleton.mp m];exact⟨n,f⟩
noncomputable def frzT(as:List Addr)(F H:Hp):Hp:=open Classical in λc=>if c∈as then H c else F c
theorem vB{as:List Addr}{F H:Hp}{c:Addr}(h:c∈as):frzT as F H c=H c:=if_pos h
theorem yC{as:List Addr}{F H:Hp}{c:Addr}(h:c∉as):frzT as F H c=F c:=if_neg h
theorem Vy{H0 F0 H F H' F':Hp}{σ:St}{v:V}{d:AD}{as:List Addr}(e:DEnv K S H0 F0 H F σ Γ)(t:Tr H' v d as)(n:∀a∈as,H a=none∧F' a=none)(a:Addr)(m:a∈as):∃u,OwnO S H0 H' F' a u:=by
 have:∃u,H' a=some u:=by
  obtain z:=(uE t).mpr m;clear n m
  suffices h:∀{v:V} {d:AD} {as:List Addr},Tr H' v d as→a∈as→∃u,H' a=some u from h t ((uE t).mp z)
  exact λt m=>tr_there t m
 obtain⟨u,b⟩:=this;exact⟨u,b,(n a m).2,e.gr.h.free (n a m).1,e.out (n a m).1⟩
where
 tr_there {H:Hp} {a:Addr}:∀{v:V} {d:AD} {as:List Addr},Tr H v d as→a∈as→∃u,H a=some u
 | _,_,_,.non,m=>nomatch m
 | _,_,_,.bl _,m=>nomatch m
 | _,_,_,.int _,m=>nomatch m
 | _,_,_,.str _,m=>nomatch m
 | _,_,_,.lst e k _,m=>by
  rcases ζq.mp m with rfl|m
  ·exact⟨_,e⟩
  ·exact trAll_there k m
 trAll_there {H:Hp} {a:Addr}:∀{vs:List V} {ds:AG} {as:List Addr},yS H vs ds as→a∈as→∃u,H a=some u
 | _,_,_,.nil,m=>nomatch m
 | _,_,_,.cons p q _,m=>by
  rcases ζu.mp m with m|m
  ·exact tr_there p m
  ·exact trAll_there q m
theorem exr{te:TE}{u:TS}{i:Nat}{d:AD}(h:EvTr K S te Γ d)(a:SetC Γ i (some (trD d)) Γ')(k:ExT K S S' u Γ' P):ExT K S S' (tSeq (tAsg te (yt i)) u) Γ P:=λH0 F0 H F σ B e b l D I =>
 h H0 F0 H F σ e _ λv as H' F' g t n=>k H0 F0 H' F' _ B (by
  rw[←a.eq];exact(e.mono g).set (x:=trD d) (hasT t (Vy e t n)) λc oc j y w p z m o=>e.newOwn g (n c ((uE t).mp oc)).1 j y w z m o) (b.trans g.f) l D I
theorem zaC{js:List (Option Nat)}{wi:TI}{g:TG}{te:TE}{is:AF}{ds:AG}(κ':Bool)(f:AD→AD)(hi:EvI K S κ' wi Γ ds)(V:∀i∈is,js[i]?=some none)(hj:∀i j k:Nat,js[i]?=some (some k)→js[j]?=some (some k)→i=j)
  (hz:ds.length≤sizeLine) (hb:∀d∈ds,ExG K S κ' g is d (uR js Γ) λΓ'=>EvTr K S te Γ' (f d)):EvTr K S (xG js wi g tYes te) Γ (.list (ds.map f)):=λH0 F0 H F σ e Q q =>
 hi H0 F0 H F σ e _ λJ t M g1 W=>by
  intro D N;have X:∀{n l:Hp},Gr t M n l→∀a,S.has H0 a→∃o,n a=some o:=λg2 a c=>let⟨o,z⟩:=(e.mono g1).sd a c;⟨o,g2.h _ _ z⟩;refine⟨λi m ys n=>m=ds.length-i∧i≤ds.length∧∃l as,Gr t M n l∧n D=some (.lst ys)∧l D=none∧yS n ys ((ds.take i).map f) as∧D∉as∧∀a∈as,t a=none∧l a=none,⟨_,rfl,Nat.zero_le _,M,[],.newO g1.le N _,zm,g1.le.free N,.nil,by simp,λ_ z=>nomatch z⟩,?_⟩
  rintro i m ys n ⟨rfl,hi,l,as,g2,O,fl,w,nD,P⟩;by_cases p:i<ds.length
  ·refine .inr ⟨W.go i n l g2.f g2.le p,λzs r=>i+1≤ds.length∧∃l as,Gr t M r l∧r D=some (.lst zs)∧l D=none∧yS r zs ((ds.take (i+1)).map f) as∧D∉as∧∀a∈as,t a=none∧l a=none,λzs r h3=>⟨ds.length-(i+1),⋯,rfl,h3⟩,λx r y=>?_⟩;obtain⟨d,F3,hd,g3,p3⟩:=W.yld i n l x r g2.f g2.le (X g2) p y;have E3:=((e.mono g1).mono (g2.trans g3)).capt hj;refine hb d (ζk hd) H0 F0 r F3 _ x E3 p3 _ λΓ' σ' H4 F4 he g4 E4 A B=>?_;have tk:ds.take (i+1)=ds.take i++[d]:=by rw[ξW,hd];rfl
   refine⟨⟨A.symm,λj v R=>?_⟩,?_⟩
   ·by_cases C:j∈is
    ·have:=V j C;unfold L2.capt at R;rw[ζj,this]at R;cases R
    ·rw[B j C];exact R
   refine Wy (K:=K) (S:=S) H0 F0 H4 F4 σ' E4 _ λH5 F5 g5=>iteT ((he H0 F0 H5 F5 σ' (E4.mono g5) _ λv bs H6 F6 Y t6 E=>?_));have g6:=g5.trans Y;have T:∀a∈bs,H4 a=none∧F6 a=none:=λa m=>⟨g5.h.free (E a m).1,(E a m).2⟩
   have G:=(g3.trans g4).trans g6;have Z:=G.h _ _ O;have I:=G.ap _ _ O fl;have U:=g2.trans G;have there:∀a∈as,∃u,n a=some u:=λa m=>Vy.trAll_there w m;have a0:∀a∈as,a∉bs:=λa m z=>by
    obtain⟨u,s⟩:=there a m;have:=(g3.trans g4).h _ _ s;rw[(T a z).1]at this;cases this
   have L:D∉bs:=λz=>by
    have:=(g3.trans g4).h _ _ O;rw[(T D z).1]at this;cases this
   refine⟨Z,?_,p,F6,as++bs,⟨λb u z=>?_,U.f,λb u z=>?_,U.ap⟩,zm,I,?_,?_,?_⟩
   ·have h1:=w.length;rw[ζc,ζL]at h1;omega
   ·rw[zk (zt z N)];exact U.h _ _ z
   ·rw[zk (by rintro rfl;rw[I]at z;cases z)];exact U.le _ _ z
   ·rw[tk,ζF];refine(vi (λa m=>?_) w).snoc (ZR (λa m=>zk (show a≠D from λz=>L (z ▸ m))) t6) a0;obtain⟨u,s⟩:=there a m;rw[zk (show a≠D from λz=>nD (z ▸ m)),s];exact G.h _ _ s
   ·intro z;rcases ζu.mp z with z|z
    ·exact nD z
    ·exact L z
   ·intro a m;rcases ζu.mp m with m|m
    ·obtain⟨u,s⟩:=there a m;exact⟨(P a m).1,G.ap _ _ s (P a m).2⟩
    ·exact⟨((g2.trans g3).trans g4).h.free (T a m).1,(T a m).2⟩
  ·have ei:i=ds.length:=by omega
   subst ei;rw[ξD]at w;refine .inl ⟨W.stop n l g2.f g2.le,q (.ref D) (D::as) n l (g1.trans g2) (.lst O w nD) λa m=>?_⟩;rcases ζq.mp m with rfl|m
   ·exact⟨g1.h.free N,fl⟩
   ·exact⟨g1.h.free (P a m).1,(P a m).2⟩
end
end PD
namespace L2
open PySem PySem.Spec PyProof.Rows
def mnL(ns:AE):Int:=ns.getD (argBest (λi j=>decide (ns.getD i 0<ns.getD j 0)) (ns.length-1)) 0
theorem ZO(a:Nat→Nat→Bool):∀k,argBest a k≤k
 | 0=>ζp _
 | k+1=>by
  have:=ZO a k;unfold argBest;split<;>omega
theorem W7(f:Nat→Int):∀k i,i≤k→f (argBest (λi j=>decide (f i<f j)) k)≤f i
 | 0,i,h=>by rw[show i=0 by omega];exact Int.le_refl _
 | k+1,i,h=>by
  have a:=W7 f k;unfold argBest;by_cases c:f (k+1)<f (argBest (λi j=>decide (f i<f j)) k)
  ·rw[if_pos (decide_eq_true c)];by_cases e:i=k+1
   ·rw[e];exact Int.le_refl _
   ·have:=a i ⋯;omega
  ·rw[if_neg (by simpa using c)];by_cases e:i=k+1
   ·rw[e];omega
   ·exact a i ⋯
theorem wy{ns:AE}{i:Nat}(h:i<ns.length):ns.getD i 0∈ns:=by
 rw[ζf,ζe h];exact ξM _
theorem Wf{ns:AE}(h:ns≠[]):mnL ns∈ns:=by
 have l:=ζK.mpr h;have:=ZO (λi j=>decide (ns.getD i 0<ns.getD j 0)) (ns.length-1);exact wy ⋯
theorem VO{ns:AE}{x:Int}(h:x∈ns):mnL ns≤x:=by
 obtain⟨i,hi,rfl⟩:=ξx.mp h;have:=W7 (λi=>ns.getD i 0) (ns.length-1) i ⋯;rw[ζf (l:=ns) (i:=i),ζe hi]at this;exact this
section
variable {X:Cx}{K:ζa}
def XY(K:ζa)(f:AE→Int):List V→Hp→VK→Prop:=λxs H Q=>∃p,∃ns:AE,xs=[.ref p]∧SqL K H p (ns.map V.int)∧ns≠[]∧Q (.int (f ns)) H
theorem Ua(k:Gd X):yo X (.builtin "min") (XY X.K mnL):=by
 intro pins s σ H xs us Q I r h;obtain⟨p,ns,rfl,hq,w,q⟩:=h;obtain⟨u,rfl,x⟩:=wa r;cases x;obtain⟨a,l,pl,E⟩:=I.list hq;have f:=pl.isList;have hi:=l.length;rw[ζc]at hi;refine call_min_walk (wpAny_pyIter_list f ?_);have g:p≠s.heap.objs.size:=by
  obtain⟨o,j,_⟩:=f;exact ζt (ζl j)
 have val:∀(i:Nat) (v:Value),a.toArray[i]?=some v→∃t,v=.int (ns.getD i 0) t:=λi v z=>by
  obtain⟨y,d,B⟩:=Y9 (u:=v) l (by simpa using z);rw[ζj]at d;cases e:ns[i]? with
  | none=>rw[e]at d;cases d
  | some n =>
   rw[e]at d;cases d;obtain⟨t,rfl⟩:=B;exact⟨t,by rw[ζf,e];rfl⟩
 have l0:=ζK.mpr w;refine⟨s.heap.objs.size,_,_,_,_,_,_,rfl,T7 (A:=X.A.in1) _ p g a.toArray,⟨⟨_,ζo _ rfl,rfl,rfl⟩,f.push _,HQ.keep (I.hq k) λb o vs e _ _=>ζd _ e⟩,?_,?_,CmpOf.ints_lt (λi=>ns.getD i 0) val,λv h' tk C D=>?_⟩
 ·intro b c;rw[ζS];rcases ζu.mp c with c|c
  ·simp at c;rcases c with rfl|rfl
   ·exact ξ2 _
   ·obtain⟨o,j,_⟩:=f;exact ξk (ζl j)
  ·exact ξk (HQ.lt (I.hq k) b c)
 ·simp;omega
 ·obtain⟨t,rfl⟩:=val _ v C;refine⟨.int _,H,I.kept λb o m=>D b o (by simpa using Nat.ne_of_lt (Heap.lt_size m)) (Heap.get?_push_of_some _ m),⟨t,rfl⟩,?_⟩
  have e:a.toArray.size-1=ns.length-1:=by simp;omega
  rw[e];exact q
theorem Vq(a:X.K=K)(b:Gd X):yo X (.builtin "min") (XY K mnL):=by subst a;exact Ua b
theorem V9(a:X.K=K)(b:X.calm=true):yo X (.builtin "min") (XY K mnL):=Vq a (.inl b)
end
end L2
namespace PD
open PySem L2
section
variable {K:ζa}{S S':Sx}{κ κ':Bool}{Γ Γ' Γ'':Ctx}{P:Post}
theorem zaR{f:AE→Int}{b:TE}{ns:AE}(h:EvL K S false b Γ (ns.map .int))(c:ns≠[]):EvE K S κ (tCB (XY K f) (zF b tNil)) Γ (.int (f ns)):=λH0 F0 H F σ e Q q =>
 h H0 F0 H F σ e _ λa vs d g g1 i j=>by
  cases yd (zI j);exact⟨a,ns,rfl,i,c,q _ d g g1 (.int _)⟩
theorem zb6{js:List (Option Nat)}{c:Ctx}{p:TI}{g:TG}{te:TE}{is:AF}{ds:AG}(κ':Bool)(f:AD→AD)(hi:EvI K S κ' p Γ ds)(q:xF js Γ c)(e:(is.all λi=>js[i]?==some none)=true)
  (r:(js.filterMap id).Nodup) (v:ds.length≤sizeLine) (s:∀d∈ds,ExG K S κ' g is d c λΓ'=>EvTr K S te Γ' (f d)):EvTr K S (xG js p g tYes te) Γ (.list (ds.map f)):=by
 refine zaC κ' f hi (λi hi=>?_) ?_ v (by rw[q.eq];exact s)
 ·have:=ζM.mp e i hi;simpa using this
 ·intro i j k b h;clear q e hi s;induction js generalizing i j with
  | nil=>simp at b
  | cons o js t =>
   cases o with
   | none =>
    cases i with
    | zero=>simp at b
    | succ i =>
     cases j with
     | zero=>simp at h
     | succ j=>rw[t (by simpa using r) i j (by simpa using b) (by simpa using h)]
   | some m =>
    have l:(m::js.filterMap id).Nodup:=by simpa using r
    have u:=(ξn.mp l).1;cases i with
    | zero =>
     cases j with
     | zero=>rfl
     | succ j =>
      have n:m=k:=by simpa using b
      subst n;have a:js[j]?=some (some m):=by simpa using h
      exact absurd (show m∈js.filterMap id from ζ4.mpr ⟨some m,ζk a,rfl⟩) u
    | succ i =>
     cases j with
     | zero =>
      have n:m=k:=by simpa using h
      subst n;have a:js[i]?=some (some m):=by simpa using b
      exact absurd (show m∈js.filterMap id from ζ4.mpr ⟨some m,ζk a,rfl⟩) u
     | succ j=>rw[t (List.nodup_cons.mp l).2 i j (by simpa using b) (by simpa using h)]
theorem yX{e:Type}{js:List (Option Nat)}{b:Ctx}{j:TI}{g:TG}{te:TE}{is:AF}{xs:List e}(κ':Bool)(u f:e→AD)(l:∀x∈xs,∀y∈xs,u x=u y→f x=f y)(hi:EvI K S κ' j Γ (xs.map u))(m:xF js Γ b)(c:(is.all λi=>js[i]?==some none)=true)
  (n:(js.filterMap id).Nodup) (o:xs.length≤sizeLine) (p:∀x∈xs,ExG K S κ' g is (u x) b λΓ'=>EvTr K S te Γ' (f x)):EvTr K S (xG js j g tYes te) Γ (.list (xs.map f)):=by
 classical
 let F:AD→AD:=λd=>if h:∃x,x∈xs∧u x=d then f h.choose else .none
 have k:∀x∈xs,F (u x)=f x:=λx a=>by
  have h:∃y,y∈xs∧u y=u x:=⟨x,a,rfl⟩
  show(if h:∃y,y∈xs∧u y=u x then f h.choose else .none)=_;rw[dif_pos h];exact l _ h.choose_spec.1 _ a h.choose_spec.2
 refine EvTr.eq (zb6 κ' F hi m c n (by rw[ζc];exact o) λd hd=>?_) ?_
 ·obtain⟨x,a,rfl⟩:=ζn.mp hd;rw[k x a];exact p x a
 ·rw[ζP];exact congrArg PyData.list (ξo λx a=>k x a)
end
section
variable {K:ζa}{S S':Sx}{κ κ':Bool}{Γ Γ' Γ'':Ctx}{P:Post}{E:XK}
theorem DEnv.shr{H0 F0 H F:Hp}{σ:St}{i:Nat}{v:V}{x y:DV}(e:DEnv K S H0 F0 H F σ Γ)(h:Γ[i]?=some (some x))(m:σ[i]?=some (some v))(k:HasV K S H0 H F v y)(p:∀c,Owns H v y c→Owns H v x c):DEnv K S H0 F0 H F σ (Γ.set i (some y)):=by
 have n:=(ζg.mp h).1;refine⟨e.gr,e.l0,e.sd,e.s0,by simp[e.len],λj f z=>?_,λj q E G s t b g1 g2 g3 g4 w o2=>?_⟩
 ·by_cases a:j=i
  ·subst a;rw[ζh n]at z;cases z;exact⟨v,m,k⟩
  ·rw[ζm (Ne.symm a)]at z;exact e.has j f z
 ·have bk:∀{j:Nat} {f:DV} {u:V},(Γ.set i (some y))[j]?=some (some f)→σ[j]?=some (some u)→Owns H u f b→∃g,Γ[j]?=some (some g)∧Owns H u g b:=λ{j f u} z r o=>by
   by_cases a:j=i
   ·subst a;rw[ζh n]at z;cases z;rw[m]at r;cases r;exact⟨x,h,p b o⟩
   ·rw[ζm (Ne.symm a)]at z;exact⟨f,z,o⟩
  obtain⟨A,B,d⟩:=bk g1 g3 w;obtain⟨C,D,l⟩:=bk g2 g4 o2;exact e.ne j q A C s t b B D g3 g4 d l
end
end PD
namespace L2
open PySem PySem.Spec PyProof.Rows
abbrev At3(h:Heap)(T:Addr)(a b c:Value):Prop:=h.get? T=some {cls:=.type "tuple", data:=.seq #[a,b,c]}
section
variable {prog:Program}{w:World}{A:Around}{E:AM}{s:Shared}
theorem put3{T:Addr}{a b c x:Value}{k:Nat}{Q:Unit→Shared→Prop}(e:At3 s.heap T a b c)
  (go:∀d,d.get? T=some {cls:=.type "tuple", data:=.seq ((#[a,b,c]:Array Value).setIfInBounds k x)}→Heap.SameBut T s.heap d→Q () {s with heap:=d}) :
  wpAny (model prog w) A (updateSeq T (·.setIfInBounds k x)) Q E s:=by
 refine wpAny_updateSeq e rfl (go _ ?_ (Heap.SameBut.update ..));rw[ζJ _ e rfl];simp[Obj.mapSeq]
structure Z3(h:Heap)(n a b c:Addr)(f0:Value)(i:Nat)(x y z:Value):Prop where
 zo:IsZip h (n+5) (n+3) (n+4) f0
 ti:At3 h (n+3) (.ref n) (.ref (n+1)) (.ref (n+2))
 to:At3 h (n+4) x y z
 i1:h.IsListIter n a i
 i2:h.IsListIter (n+1) b i
 i3:h.IsListIter (n+2) c i
abbrev zf(n:Addr):List Addr:=[n+5,n+3,n+4,n,n+1,n+2]
theorem za7{n a b c:Addr}{i:Nat}{xs ys zs:Array Value}{x y z u v t:Value}{Q:AM}(Z:Z3 s.heap n a b c .none i u v t)
  (na:∀d∈zf n,a≠d) (U:∀d∈zf n,b≠d) (S:∀d∈zf n,c≠d) (la:s.heap.IsList a xs) (lb:s.heap.IsList b ys) (lc:s.heap.IsList c zs)
  (hx:xs[i]?=some x) (hy:ys[i]?=some y) (hz:zs[i]?=some z)
  (go:∀p,IsZip p (n+5) (n+3) (n+4) (rawInt s.heap.objs.size)→At3 p (n+4) x y z→p.IsListIter n a (i+1)→p.IsListIter (n+1) b (i+1)→p.IsListIter (n+2) c (i+1)→At3 p s.heap.objs.size x y z→
   (∀d o,d≠n+5→d≠n+4→d≠n→d≠n+1→d≠n+2→s.heap.get? d=some o→p.get? d=some o)→Q (.ref s.heap.objs.size) {s with heap:=p}) :
  wpAny (model prog w) A (Builtin.«zip.__next__» ⟨[.ref (n+5)],[]⟩) (λr s2=>∃k,r=.done (.ret k)∧Q k s2) E s:=by
 obtain⟨zo,ti,to,j1,j2,j3⟩:=Z;have B:(n:Addr)≠n+5:=ad ⋯;have C:(n+1:Addr)≠n+5:=ad ⋯;have D:(n+2:Addr)≠n+5:=ad ⋯;have f:(n+4:Addr)≠n+5:=ad ⋯;have g:(n:Addr)≠n+4:=ad ⋯;have h:(n+1:Addr)≠n+4:=ad ⋯;have j:(n+2:Addr)≠n+4:=ad ⋯;have K:(n:Addr)≠n+1:=ad ⋯;have L:(n:Addr)≠n+2:=ad ⋯;have M:(n+1:Addr)≠n+2:=ad ⋯;have a5:=na (n+5) (by simp);have b5:=U (n+5) (by simp);have b4:=U (n+4) (by simp);have b0:=U n (by simp);have c5:=S (n+5) (by simp);have c4:=S (n+4) (by simp);have c0:=S n (by simp);have c1:=S (n+1) (by simp);show wpAny _ _ (field (.ref (n+5)) 2 >>= _) _ _ _;refine AA (wpAny_field zo rfl (x:=.bool false) rfl ?_);show wpAny _ _ (field (.ref (n+5)) 3 >>= _) _ _ _;refine AA (wpAny_field zo rfl (x:=.ref (n+3)) rfl (AA (wpAny_seqItems ti rfl ?_)));show wpAny _ _ (Builtin.SmallTypes.ownedTupleIsFree (.ref (n+5)) >>= _) _ _ _;refine AA ?_;unfold Builtin.SmallTypes.ownedTupleIsFree;refine AA (wpAny_field zo rfl (x:=.none) rfl (AB ?_));simp only[if_true];refine AA (wpAny_rule (AA (wpAny_field zo rfl (x:=.ref (n+4)) rfl (AA (wpAny_setField_rec zo (by simp) λg1 V s1=>?_)))));replace V:IsZip g1 (n+5) (n+3) (n+4) .ellipsis:=V;refine AA ?_;simp only[List.zipIdx_cons,List.zipIdx_nil,List.forIn_cons,List.forIn_nil];refine AA (AA (wpAny_onRaise ?_));show wpAny _ _ (Builtin.SmallTypes.nextOf (.ref n) >>= _) _ _ _;refine AA (wpAny_nextOf_list_item (j1.extBut s1.extBut B) (la.extBut s1.extBut a5) hx λg2 k1 s2=>AB ?_);have t2:At3 g2 (n+4) u v t:=s2.extBut _ _ g.symm (s1.extBut _ _ f to);refine AA (wpAny_seqItems t2 rfl (AA (put3 t2 λg3 W q=>?_)));replace W:At3 g3 (n+4) x v t:=W;refine AA (wpAny_letGo (AB ?_));refine AA (AA (wpAny_onRaise ?_));show wpAny _ _ (Builtin.SmallTypes.nextOf (.ref (n+1)) >>= _) _ _ _;have X:=((j2.extBut s1.extBut C).extBut s2.extBut K.symm).extBut q.extBut h;have m2:=((lb.extBut s1.extBut b5).extBut s2.extBut b0).extBut q.extBut b4;refine AA (wpAny_nextOf_list_item X m2 hy λg4 X F=>AB ?_);have t4:At3 g4 (n+4) x v t:=F.extBut _ _ h.symm W;refine AA (wpAny_seqItems t4 rfl (AA (put3 t4 λg5 Y G=>?_)));replace Y:At3 g5 (n+4) x y t:=Y;refine AA (wpAny_letGo (AB ?_));refine AA (AA (wpAny_onRaise ?_));show wpAny _ _ (Builtin.SmallTypes.nextOf (.ref (n+2)) >>= _) _ _ _;have k3:=((((j3.extBut s1.extBut D).extBut s2.extBut L.symm).extBut q.extBut j).extBut F.extBut M.symm).extBut G.extBut j;have m3:=((((lc.extBut s1.extBut c5).extBut s2.extBut c0).extBut q.extBut c4).extBut F.extBut c1).extBut G.extBut c4;refine AA (wpAny_nextOf_list_item k3 m3 hz λg6 k3 I=>AB ?_);have t6:At3 g6 (n+4) x y t:=I.extBut _ _ j.symm Y;refine AA (wpAny_seqItems t6 rfl (AA (put3 t6 λg7 T J=>?_)));replace T:At3 g7 (n+4) x y z:=T;refine AA (wpAny_letGo (AB (AB ?_)));refine AA (wpAny_seqItems T rfl (AA (wpAny_newTuple ?_)));have sz:g7.objs.size=s.heap.objs.size:=by rw[J.1,I.1,G.1,F.1,q.1,s2.1,s1.1]
 have z7:IsZip g7 (n+5) (n+3) (n+4) .ellipsis:=J.extBut _ _ f.symm (I.extBut _ _ D.symm (G.extBut _ _ f.symm (F.extBut _ _ C.symm (q.extBut _ _ f.symm (s2.extBut _ _ B.symm V)))));have kp:∀d o,d≠n+5→d≠n+4→d≠n→d≠n+1→d≠n+2→s.heap.get? d=some o→g7.get? d=some o:=λd o H N d0 d1 d2 e =>
  J.extBut _ _ N (I.extBut _ _ d2 (G.extBut _ _ N (F.extBut _ _ d1 (q.extBut _ _ N (s2.extBut _ _ d0 (s1.extBut _ _ H e))))))
 have q1:g7.IsListIter n a (i+1):=((((k1.extBut q.extBut g).extBut F.extBut K).extBut G.extBut g).extBut I.extBut L).extBut J.extBut g;have q2:g7.IsListIter (n+1) b (i+1):=((X.extBut G.extBut h).extBut I.extBut M).extBut J.extBut h;have q3:g7.IsListIter (n+2) c (i+1):=k3.extBut J.extBut j;have O:n+5<g7.objs.size:=ζl z7;show wpAny _ _ (Builtin.SmallTypes.ownedTupleHandOut (.ref (n+5)) (.ref g7.objs.size) >>= _) _ _ _;refine AA ?_;unfold Builtin.SmallTypes.ownedTupleHandOut;have z8:IsZip (g7.push {cls:=.type "tuple", data:=.seq #[x,y,z]}) (n+5) (n+3) (n+4) .ellipsis:=ζd _ z7;refine AA (wpAny_setField_rec z8 (by simp) λg9 z9 s9=>?_);replace z9:IsZip g9 (n+5) (n+3) (n+4) (rawInt g7.objs.size):=z9;refine wpAny_setField_rec z9 (by simp) λl m P=>?_;replace m:IsZip l (n+5) (n+3) (n+4) (rawInt g7.objs.size):=m;have R:∀d o,d≠n+5→g7.get? d=some o→l.get? d=some o:=λd o H e=>P.extBut _ _ H (s9.extBut _ _ H (ζd _ e));have tn:At3 l g7.objs.size x y z:=P.extBut _ _ (ζ6 O) (s9.extBut _ _ (ζ6 O) (ζo _ rfl));rw[sz]at m tn;refine AB ⟨_,rfl,?_⟩;show Q (.ref g7.objs.size) _;rw[sz];exact go l m (R _ _ f T) (q1.at λo e=>R _ o B e) (q2.at λo e=>R _ o C e) (q3.at λo e=>R _ o D e) tn λd o H N d0 d1 d2 e=>R d o H (kp d o H N d0 d1 d2 e)
theorem zcV{n a b c:Addr}{i:Nat}{xs:Array Value}{u v t:Value}{Q:Fin→Shared→Prop}(q:A.handled=none)(Z:Z3 s.heap n a b c .none i u v t)
  (r:∀d∈zf n,a≠d) (y:s.heap.IsList a xs) (z:xs[i]?=none)
  (out:∀h e,(∀d o,d≠n+5→d≠n→s.heap.get? d=some o→h.get? d=some o)→(∃o,h.get? e=some o∧o.cls=.type "StopIteration")→E (.ref e) {s with heap:=h}) :
  wpAny (model prog w) A (Builtin.«zip.__next__» ⟨[.ref (n+5)],[]⟩) Q E s:=by
 obtain⟨zo,ti,to,B,I,J⟩:=Z;have g:(n:Addr)≠n+5:=ad ⋯;have C:=r (n+5) (by simp);show wpAny _ _ (field (.ref (n+5)) 2 >>= _) _ _ _;refine AA (wpAny_field zo rfl (x:=.bool false) rfl ?_);show wpAny _ _ (field (.ref (n+5)) 3 >>= _) _ _ _;refine AA (wpAny_field zo rfl (x:=.ref (n+3)) rfl (AA (wpAny_seqItems ti rfl ?_)));show wpAny _ _ (Builtin.SmallTypes.ownedTupleIsFree (.ref (n+5)) >>= _) _ _ _;refine AA ?_;unfold Builtin.SmallTypes.ownedTupleIsFree;refine AA (wpAny_field zo rfl (x:=.none) rfl (AB ?_));simp only[if_true];refine AA (wpAny_rule (AA (wpAny_field zo rfl (x:=.ref (n+4)) rfl (AA (wpAny_setField_rec zo (by simp) λg1 j s1=>?_)))));replace j:IsZip g1 (n+5) (n+3) (n+4) .ellipsis:=j;refine AA ?_;simp only[List.zipIdx_cons,List.zipIdx_nil,List.forIn_cons,List.forIn_nil];refine AA (AA (wpAny_onRaise ?_));show wpAny _ _ (Builtin.SmallTypes.nextOf (.ref n) >>= _) _ _ _;refine AA (wpAny_nextOf_list_end q (B.extBut s1.extBut g) (y.extBut s1.extBut C) z λg2 e s2 D=>?_);obtain⟨F,f,k⟩:=D;have l:IsZip g2 (n+5) (n+3) (n+4) .ellipsis:=s2 _ _ g.symm j;have G:e≠n+5:=λx=>by subst x;rw[l]at f;cases f;simp at k
 exact wpAny_setField_rec l (by simp) λg3 _ m=>out g3 e (λd o p H x=>m.extBut _ _ p (s2 _ _ H (s1.extBut _ _ p x))) ⟨F,m.extBut _ _ G f,k⟩
theorem zec{n a b c:Addr}{i:Nat}{xs ys zs:Array Value}{x y z u v t:Value}{Q:Option Value→Shared→Prop}(Z:Z3 s.heap n a b c .none i u v t)
  (f:∀d∈zf n,a≠d) (g:∀d∈zf n,b≠d) (h:∀d∈zf n,c≠d) (j:s.heap.IsList a xs) (k:s.heap.IsList b ys) (l:s.heap.IsList c zs)
  (m:xs[i]?=some x) (p:ys[i]?=some y) (q:zs[i]?=some z)
  (go:∀e,IsZip e (n+5) (n+3) (n+4) (rawInt s.heap.objs.size)→At3 e (n+4) x y z→e.IsListIter n a (i+1)→e.IsListIter (n+1) b (i+1)→e.IsListIter (n+2) c (i+1)→At3 e s.heap.objs.size x y z→
   (∀d o,d≠n+5→d≠n+4→d≠n→d≠n+1→d≠n+2→s.heap.get? d=some o→e.get? d=some o)→Q (some (.ref s.heap.objs.size)) {s with heap:=e}) :
  wpAny (model prog w) A (pyNext (.ref (n+5))) Q E s:=by
 have ty:s.TypeIs (.ref (n+5)) "zip" := ⟨_,Z.zo,rfl⟩
 unfold pyNext;refine AA (wpAny_attempt (wpAny_callSpecial?_slot (name:=Str.ofString "__next__") ty F.slot_zip_next (wpAny_call_entry F.slot_zip_next ty F.entry_zip_next ?_ (F.args_zip_next_1 _))));refine za7 Z f g h j k l m p q λe r B C D G H I=>AB (go e r B C D G H I)
theorem zdW{n a b c:Addr}{i:Nat}{xs:Array Value}{u v t:Value}{Q:Option Value→Shared→Prop}(g:A.handled=none)(Z:Z3 s.heap n a b c .none i u v t)
  (h:∀d∈zf n,a≠d) (j:s.heap.IsList a xs) (k:xs[i]?=none)
  (out:∀f,(∀d o,d≠n+5→d≠n→s.heap.get? d=some o→f.get? d=some o)→Q none {s with heap:=f}) :
  wpAny (model prog w) A (pyNext (.ref (n+5))) Q E s:=by
 have ty:s.TypeIs (.ref (n+5)) "zip" := ⟨_,Z.zo,rfl⟩
 unfold pyNext;refine AA (wpAny_attempt (wpAny_callSpecial?_slot (name:=Str.ofString "__next__") ty F.slot_zip_next (wpAny_call_entry F.slot_zip_next ty F.entry_zip_next ?_ (F.args_zip_next_1 _))));refine zcV g Z h j k λf e kp l=>?_;obtain⟨o,m,p⟩:=l;exact AA (wpAny_isInstance (T:= "StopIteration") (b:=true) ⟨o,m,p⟩ isSubtype_stop (AB (out _ kp)))
abbrev zA1(h:Heap)(a:Addr):Heap:=h.push {cls:=.type "list_iterator", data:=.fields #[.ref a,.int 0 0]}
abbrev zA2(h:Heap)(a b:Addr):Heap:=zA1 (zA1 h a) b
abbrev zA3(h:Heap)(a b c:Addr):Heap:=zA1 (zA2 h a b) c
abbrev zA4(h:Heap)(a b c:Addr):Heap:=(zA3 h a b c).push {cls:=.type "tuple", data:=.seq #[.ref h.objs.size,.ref (zA1 h a).objs.size,.ref (zA2 h a b).objs.size]}
abbrev zA5(h:Heap)(a b c:Addr):Heap:=(zA4 h a b c).push {cls:=.type "tuple", data:=.seq #[.none,.none,.none]}
abbrev zA6(h:Heap)(a b c:Addr):Heap:=(zA5 h a b c).push {cls:=.type "zip", data:=.fields #[.none,.bool false,.bool false,.ref (zA3 h a b c).objs.size,.ref (zA4 h a b c).objs.size]}
theorem new3(a b c:Addr)(xs ys zs:Array Value):
  Meets (Builtin.«zip.__new__» ⟨[.type "zip", .ref a,.ref b,.ref c],[]⟩) (λ_ R s=>s.heap.IsList a xs∧s.heap.IsList b ys∧s.heap.IsList c zs∧
   R (.ok (.ret (.ref (zA5 s.heap a b c).objs.size))) {s with heap:=zA6 s.heap a b c}):=
 .of_wp λprog w A R s h=>by
  obtain⟨hp,g,d,tk,os⟩:=s;obtain⟨f,i,j,h⟩:=h;have e:=sub_zip;have k:Heap.IsList (Shared.heap ⟨hp,g,d,tk,os⟩) a xs:=f;have l:Heap.IsList (Shared.heap ⟨zA1 hp a,g,d,tk,os⟩) b ys:=i.push _;have m:Heap.IsList (Shared.heap ⟨zA2 hp a b,g,d,tk,os⟩) c zs:=(j.push _).push _
  wp_walk using wpAny_pyIter_list k,wpAny_pyIter_list l,wpAny_pyIter_list m
  exact⟨_,rfl,h⟩
theorem Z1(a b c:Value):checkTypeCall "zip" ⟨[a,b,c],[]⟩=pure ():=by kernel_rfl
theorem Y2(a b c:Value):checkBuiltinCall "zip.__new__" ⟨[.type "zip", a,b,c],[]⟩=pure ():=by kernel_rfl
theorem Vt(a b c d:Value):argsOk "object.__init__" ⟨[a,b,c,d],[]⟩:=by
 unfold argsOk;rw[signature?_of (id:= "object.__init__") (n:=['_','_','t','i','n','i','_','_']) (o:=['t','c','e','j','b','o'])
  (by kernel_rfl) F.owner_object]
 kernel_rfl
theorem TR{a b c:Addr}{xs ys zs:Array Value}{Q:AM}(n:s.heap.IsList a xs)(p:s.heap.IsList b ys)(q:s.heap.IsList c zs)
  (go:∀g,Z3 g s.heap.objs.size a b c .none 0 .none .none .none→(∀d o,s.heap.get? d=some o→g.get? d=some o)→Q (.ref (s.heap.objs.size+5)) {s with heap:=g}) :
  wpAny (model prog w) A (call (.type "zip") [.ref a,.ref b,.ref c]) Q E s:=by
 refine callType_new F.called_zip #[2] (Z1 _ _ _) (Y2 _ _ _) (λobj=>Vt obj _ _ _) F.entry_zip_new (new3 a b c xs ys zs) ⟨n,p,q,?_⟩;have h:(zA1 s.heap a).objs.size=s.heap.objs.size+1:=ζS ..;have i:(zA2 s.heap a b).objs.size=s.heap.objs.size+2:=by rw[ζS,h]
 have j:(zA3 s.heap a b c).objs.size=s.heap.objs.size+3:=by rw[ζS,i]
 have k:(zA4 s.heap a b c).objs.size=s.heap.objs.size+4:=by rw[ζS,j]
 have m:(zA5 s.heap a b c).objs.size=s.heap.objs.size+5:=by rw[ζS,k]
 have r:(zA1 s.heap a).get? s.heap.objs.size=some _:=ζo _ rfl;have t:(zA2 s.heap a b).get? (zA1 s.heap a).objs.size=some _:=ζo _ rfl;have u:(zA3 s.heap a b c).get? (zA2 s.heap a b).objs.size=some _:=ζo _ rfl;have v:(zA4 s.heap a b c).get? (zA3 s.heap a b c).objs.size=some _:=ζo _ rfl;have x:(zA5 s.heap a b c).get? (zA4 s.heap a b c).objs.size=some _:=ζo _ rfl;have l:(zA6 s.heap a b c).get? (zA5 s.heap a b c).objs.size=some _:=ζo _ rfl;have f:∀d o,(zA3 s.heap a b c).get? d=some o→(zA6 s.heap a b c).get? d=some o:=λd o e=>ζd _ (ζd _ (ζd _ e));have g1:=f _ _ (ζd _ (ζd _ r));have g2:=f _ _ (ζd _ t);have g3:=f _ _ u;have g4:(zA6 s.heap a b c).get? (zA3 s.heap a b c).objs.size=some _:=ζd _ (ζd _ v);have g5:(zA6 s.heap a b c).get? (zA4 s.heap a b c).objs.size=some _:=ζd _ x;show _∧_;rw[j,k,m]at l;rw[h,i,j]at g4;rw[k]at g5;rw[h]at g2;rw[i]at g3;rw[m];exact⟨⟨_,l,rfl⟩,go _ ⟨l,g4,g5,⟨_,g1,rfl,rfl⟩,⟨_,g2,rfl,rfl⟩,⟨_,g3,rfl,rfl⟩⟩ λd o e=>f _ _ (ζd _ (ζd _ (ζd _ e)))⟩
end
def It3(K:ζa)(a b c:Addr):It:=
 ⟨λi H=>∃xs x ys y zs z,SqL K H a xs∧xs[i]?=some x∧SqL K H b ys∧ys[i]?=some y∧SqL K H c zs∧zs[i]?=some z,
  λi H x H'=>∃T u v t,H T=none∧x=.ref T∧H'=upd H T (.tup [u,v,t])∧(∀xs,SqL K H a xs→xs[i]?=some u)∧(∀ys,SqL K H b ys→ys[i]?=some v)∧∀zs,SqL K H c zs→zs[i]?=some t,
  λi H=>∃xs,SqL K H a xs∧xs.length≤i⟩
theorem UF{X:Cx}{n:Addr}{pins:AL}{s:Shared}{σ:St}{H:Hp}(I:Inv X pins σ H s)(a:∀b∈zf n,FpOk X pins H b){c:Addr}{zs:List V}(hq:SqL X.K H c zs):∀d∈zf n,c≠d:=λd hd e=>by
 subst e;have f:=(a c hd).1;rcases hq with(q|⟨o,q⟩)|⟨o,h,m,q,_⟩
 ·rw[f]at q;cases q
 ·rw[f]at q;cases q
 ·have g:X.base.get? c=some o:=I.ok.mod.kin c o q;rcases(a c hd).2.2.2.1 with z|z
  ·exact I.ok.noex c o g z
  ·exact absurd (ζC (ζl g) (ζ7 I.ok.bsz z)) (ξi _)
theorem Z0{n c:Addr}{R:Addr→Prop}(a:c∈zf n)(b:R (n+5))(d:R (n+3))(e:R (n+4))(f:R n)(g:R (n+1))(h:R (n+2)):R c:=by
 simp only[List.mem_cons,List.not_mem_nil,or_false]at a;rcases a with rfl|rfl|rfl|rfl|rfl|rfl<;>assumption
theorem U5{P:Program}{w:World}{K:ζa}{es:List Expr}{k:Nat}{m:Pos}(a b c n:Addr):
  Turn P w K (.Tuple es k m) (It3 K a b c) (zf n) (n+5) (λi h=>∃x y z,Z3 h n a b c .none i x y z) where
 mem:=by simp
 obj:=λi h st d hd=>by
  obtain⟨x,y,z,zo,ti,to,⟨o1,B,_,d1⟩,⟨o2,C,_,d2⟩,⟨o3,D,_,d3⟩⟩:=st;refine Z0 (R:=λd=>∃o,h.get? d=some o∧∀v,o.data≠.cell v) hd ?_ ?_ ?_ ?_ ?_ ?_
  ·exact⟨_,zo,λv z=>by have y:Data.fields _=Data.cell v:=z;cases y⟩
  ·exact⟨_,ti,λv z=>by have y:Data.seq _ _=Data.cell v:=z;cases y⟩
  ·exact⟨_,to,λv z=>by have y:Data.seq _ _=Data.cell v:=z;cases y⟩
  ·exact⟨_,B,λv z=>by rw[d1]at z;cases z⟩
  ·exact⟨_,C,λv z=>by rw[d2]at z;cases z⟩
  ·exact⟨_,D,λv z=>by rw[d3]at z;cases z⟩
 keep:=λi h h' st k=>by
  obtain⟨x,y,z,zo,ti,to,j1,j2,j3⟩:=st;exact⟨x,y,z,k _ (by simp) _ zo,k _ (by simp) _ ti,k _ (by simp) _ to,j1.at λo e=>k _ (by simp) o e,j2.at λo e=>k _ (by simp) o e,j3.at λo e=>k _ (by simp) o e⟩
 item:=by
  intro X F G J hc i pins s σ H E I g st L;subst F G J;obtain⟨u0,v0,t0,Z⟩:=st;obtain⟨xs,x,ys,y,zs,z,f,hx,j,hy,l,hz⟩:=L;obtain⟨p,M,N,zx⟩:=I.list f;obtain⟨a2,ry,py,zy⟩:=I.list j;obtain⟨a3,rz,pz,zz⟩:=I.list l;obtain⟨u,hu,ru⟩:=M.get hx;obtain⟨v,hv,rv⟩:=ry.get hy;obtain⟨t,ht,rt⟩:=rz.get hz;refine zec Z (UF I g f) (UF I g j) (UF I g l) N.isList py.isList pz.isList (x:=u) (y:=v) (z:=t) (by simpa using hu) (by simpa using hv) (by simpa using ht) λh' z' o' O Q S t' kp=>?_;refine⟨_,rfl,wpAny_letOwnedTupleGo_zip z' λT U sb=>?_⟩
  have V:∀d o,d∉zf n→s.heap.get? d=some o→T.get? d=some o:=λd o hd e =>
   (sb.2 d (λz=>hd (by simp[z]))).trans (kp d o (λz=>hd (by simp[z])) (λz=>hd (by simp[z])) (λz=>hd (by simp[z])) (λz=>hd (by simp[z])) (λz=>hd (by simp[z])) e)
  have q:∀d∈zf n,d<s.heap.objs.size:=λd hd=>by
   obtain⟨_,B,_⟩:=Z.i1;obtain⟨_,C,_⟩:=Z.i2;obtain⟨_,D,_⟩:=Z.i3;exact Z0 (R:=λd=>d<s.heap.objs.size) hd (ζl Z.zo) (ζl Z.ti) (ζl Z.to) (ζl B) (ζl C) (ζl D)
  have tz:s.heap.objs.size≠n+5:=Nat.ne_of_gt (q _ (by simp));have W:(n:Addr)≠n+5:=ad ⋯;have Y:(n+1:Addr)≠n+5:=ad ⋯;have a0:(n+2:Addr)≠n+5:=ad ⋯;have r:(n+3:Addr)≠n+5:=ad ⋯;have a1:(n+4:Addr)≠n+5:=ad ⋯;refine⟨.ref s.heap.objs.size,upd H s.heap.objs.size (.tup [x,y,z]),I.turnNew (t':=s.toks) g V (ζp _) ?_,rfl,⟨_,x,y,z,I.hok.fresh (ζp _),rfl,rfl,λzs hq=>by rw[I.list_inj hq f];exact hx,λzs hq=>by rw[I.list_inj hq j];exact hy,λzs hq=>by rw[I.list_inj hq l];exact hz⟩,?_,λd hd=>?_⟩
  ·exact⟨by show 3≤sizeLine;decide,[u,v,t],.cons ru (.cons rv (.cons rt .nil)),⟨_,(sb.2 _ tz).trans t',rfl,_,rfl⟩⟩
  ·exact⟨_,_,_,U,(sb.2 _ r).trans (kp _ _ r (ad ⋯) (ad ⋯) (ad ⋯) (ad ⋯) Z.ti),(sb.2 _ a1).trans o',O.at λo e=>(sb.2 _ W).trans e,Q.at λo e=>(sb.2 _ Y).trans e,S.at λo e=>(sb.2 _ a0).trans e⟩
  ·rw[zk (ζt (q d hd))];exact(g d hd).1
 done:=by
  intro X F G J hc i pins s σ H E I g st L;subst F G J;obtain⟨u0,v0,t0,Z⟩:=st;obtain⟨xs,f,hl⟩:=L;obtain⟨p,M,N,zx⟩:=I.list f;have l1:=M.length;have A:p.toArray[i]?=none:=by simp;omega
  exact zdW (I.ok.hd hc) Z (UF I g f) N.isList A λh' kp=>⟨rfl,I.turnAll (t':=s.toks) g λd o hd e=>kp d o (λz=>hd (by simp[z])) (λz=>hd (by simp[z])) e⟩
 self:=λ_ _ _ _ _ ⟨_,_,_,st⟩ h=>wpAny_pyIter_zip st.zo h
section
variable {X:Cx}
def zcN(K:ζa)(ta:TA):TI:=λσ H R=>ta σ H λvs H1=>∃a b c,vs=[.ref a,.ref b,.ref c]∧(∃xs,SqL K H1 a xs)∧(∃ys,SqL K H1 b ys)∧(∃zs,SqL K H1 c zs)∧R (It3 K a b c) H1
theorem zby{K:ζa}{a b c:Expr}{l:TA}{p d:Pos}{r:List Expr}{k:Nat}{g:Pos}(t:X.K=K)(v:Gl X "zip")(w:X.mg "zip" = none)(x:PA X [a,b,c] l)(y:starEach (a::[b,c]) X.env=(false,eval a X.env)::starEach [b,c] X.env:=by rfl)
  (j:(backTo d (starEach [b,c] X.env)).any (·.1)=false:=by rfl):PI X (.Tuple r k g) (.Call (.Name "zip" p) [a,b,c] [] d) (zcN K l):=by
 subst t;intro pins s σ H R I h;refine wpAny_Call_Name_kw (u8 I v w (u:=.type "zip") (by decide +kernel) ?_ #[2] #[2]);refine PyProof.Rows.callWith_type1 (thn (x d pins s σ H _ I h) λus s1 ⟨vs,z,f,e,A⟩=>?_) y j;obtain⟨m,n,o,rfl,⟨xs,B⟩,⟨ys,C⟩,⟨zs,D⟩,q⟩:=A;cases e with
 | cons E e =>
  cases e with
  | cons F e =>
   cases e with
   | cons rt e =>
    cases e;cases(show _=Value.ref m from E);cases(show _=Value.ref n from F);cases(show _=Value.ref o from rt);obtain⟨G,Q,J,S⟩:=f.list B;obtain⟨L,T,M,U⟩:=f.list C;obtain⟨N,V,O,W⟩:=f.list D;refine TR J.isList M.isList O.isList λh' Z kp=>?_;refine wpAny_pyIter_zip Z.zo ?_;refine⟨s1.heap.objs.size+5,_,_,_,z,rfl,f.kept (t':=s1.toks) kp,U5 m n o s1.heap.objs.size,⟨_,_,_,Z⟩,λc P=>?_,q⟩
    have i:s1.heap.objs.size≤c:=Z0 (R:=λc=>s1.heap.objs.size≤c) P (ξC _ _) (ξC _ _) (ξC _ _) (ζp _) (ξC _ _) (ξC _ _);exact f.fpOk i (f.hok.fresh i)
end
end L2
namespace PD
open PySem L2
section
variable {K:ζa}{S:Sx}{κ:Bool}{Γ:Ctx}
def zip3(xs ys zs:AG):AG:=List.zipWith (λx (p:AD×AD)=>.tuple [x,p.1,p.2]) xs (List.zip ys zs)
theorem WF{xs ys zs:AG}{i:Nat}{x y z:AD}(a:xs[i]?=some x)(b:ys[i]?=some y)(c:zs[i]?=some z):(zip3 xs ys zs)[i]?=some (.tuple [x,y,z]):=by
 unfold zip3;rw[List.getElem?_zipWith,a,(ξr (z:=(y,z))).mpr ⟨b,c⟩]
theorem tD{xs ys zs:AG}(a:ys.length=xs.length)(b:zs.length=xs.length):(zip3 xs ys zs).length=xs.length:=by
 unfold zip3;rw[List.length_zipWith,List.length_zip];omega
theorem zcb{t:TA}{xs ys zs:AG}(s:ys.length=xs.length)(w:zs.length=xs.length)(h:EvA K S κ t Γ [.list xs,.list ys,.list zs]):EvI K S κ (zcN K t) Γ (zip3 xs ys zs):=λH0 F0 H F σ e R q =>
 h H0 F0 H F σ e _ λvs D l g1 j=>by
  cases j with
  | cons p j =>
   cases j with
   | cons E j =>
    cases j with
    | cons n j =>
     cases j;obtain⟨a,us,rfl,G,z⟩:=uV p;obtain⟨b,ws,rfl,I,A⟩:=uV E;obtain⟨c,ts,rfl,J,B⟩:=uV n;have W:=zq.length z;have X:=zq.length A;have Y:=zq.length B;have m:∀{F' H':Hp},Same l F'→Same F' H'→SqL K H' a us:=λs1 s2=>(s1.trans s2).seq G.sq;have o:∀{F' H':Hp},Same l F'→Same F' H'→SqL K H' b ws:=λs1 s2=>(s1.trans s2).seq I.sq;have r:∀{F' H':Hp},Same l F'→Same F' H'→SqL K H' c ts:=λs1 s2=>(s1.trans s2).seq J.sq;refine⟨a,b,c,rfl,⟨us,m (.refl _) g1.le⟩,⟨ws,o (.refl _) g1.le⟩,⟨ts,r (.refl _) g1.le⟩,q _ D l g1 ⟨λi H' F' s1 s2 hi=>?_,λi H' F' x L s1 s2 sd hi y=>?_,λH' F' s1 s2=>?_⟩⟩
     ·rw[tD s w]at hi;exact⟨us,us[i]'⋯,ws,ws[i]'⋯,ts,ts[i]'⋯,m s1 s2,by simp,o s1 s2,by simp,r s1 s2,by simp⟩
     ·obtain⟨T,u,v,t,C,rfl,rfl,M,N,O⟩:=y;obtain⟨d,hd,hp⟩:=zq.get' z (M us (m s1 s2));obtain⟨f,P,hq⟩:=zq.get' A (N ws (o s1 s2));obtain⟨g,Q,U⟩:=zq.get' B (O ts (r s1 s2));have V:Same F' (upd F' T (.tup [u,v,t])):=Same.new (s2.free C) _;have k:=s1.trans V;exact⟨.tuple [d,f,g],_,WF hd P Q,.new s2 C _,.tup (SqT.of zm) (.cons (yg k hp) (.cons (yg k hq) (.cons (yg k U) .nil)))⟩
     ·refine⟨us,m s1 s2,?_⟩
      rw[tD s w];omega
end
section
variable {K:ζa}{S S':Sx}{κ κ':Bool}{Γ Γ' Γ'':Ctx}{P:Post}
theorem TN{pre:AG→AG→AG→AG→Prop}{E:XK}{u:TA}{ds xs ys zs:AG}(h:EvA K S false u Γ ds)(hp:pre ds xs ys zs):EvE K S true (y8 (spT3 K pre) [] E u) Γ (.tuple [.list xs,.list ys,.list zs]):=λH0 F0 H F σ e Q q =>
 h H0 F0 H F σ e _ λvs m v g1 J=>⟨v,ds,xs,ys,zs,g1.le,by rw[ζx];exact zI J,hp,λp a b c us d ws y k g2 t=>by
  have l:=e.mono g1;have i:Same k (upd (upd (upd k a (.lst us)) b (.lst d)) c (.lst ws)):=((Same.new t.oa.f _).trans (Same.new (by rw[zk t.ab.symm];exact t.ob.f) _)).trans (Same.new (by rw[zk t.bc.symm,zk t.ac.symm];exact t.oc.f) _);generalize j:upd (upd (upd k a (.lst us)) b (.lst d)) c (.lst ws)=g at i;have A:g a=some (.lst us):=by rw[←j,zk t.ac,zk t.ab,zm]
  have B:g b=some (.lst d):=by rw[←j,zk t.bc,zm]
  have C:g c=some (.lst ws):=by rw[←j,zm]
  have g3:Gr m v y g:=⟨g2.h,g2.f.trans i,λx o z=>by
   by_cases D:x=c
   ·subst D;rw[C]at z;cases z;exact t.oc.h
   ·by_cases G:x=b
    ·subst G;rw[B]at z;cases z;exact t.ob.h
    ·by_cases I:x=a
     ·subst I;rw[A]at z;cases z;exact t.oa.h
     ·rw[←j,zk D,zk G,zk I]at z;exact g2.le _ _ z,λx o z n=>by
   rw[←j,zk (zt z t.oc.n),zk (zt z t.ob.n),zk (zt z t.oa.n)];exact g2.ap _ _ z n⟩
  have s:∀{us:List V} {xs:AG},zq K true .fresh m k us xs→zq K true S H0 g us xs:=λr=>ww (κ:=true) (κ':=true) (S:=.fresh) (H0:=m) (S':=S) (H0':=H0) (λq vs z=>⟨i _ _ z.1,l.out (Classical.byContradiction λw=>z.2 w)⟩) (λ_ _ z=>Same.seqU i z) r;exact q _ y g (g1.trans g3) (.tup (SqT.of (i _ _ t.hp)) (.cons (.lst ⟨A,l.out t.oa.n⟩ (s t.ra)) (.cons (.lst ⟨B,l.out t.ob.n⟩ (s t.rb)) (.cons (.lst ⟨C,l.out t.oc.n⟩ (s t.rc)) .nil))))⟩
section
variable {T:Addr→Prop}{H H':Hp}{a0 a1 a2 c:Addr}{vs2 us us' ws:List V}{n:Nat}{x:V}
variable {K:ζa}
end
end
section
variable {K:ζa}{S S':Sx}{κ κ':Bool}{Γ Γ' Γ'':Ctx}{P:Post}
theorem zaE(i:Nat){j:Bool}{t:TE}{xs l:AG}{m:Ctx}(h:GetC Γ i (.ow j l))(s:SetC Γ i (some (.fz j (.list l))) m)(k:EvO K S κ t m xs)(r:∀d∈xs,imm d=true):EvO K S κ t Γ xs:=λH0 F0 H F σ e Q q=>by
 obtain⟨a,u,v,g⟩:=thaw e h s;refine k H0 F0 H u σ v Q λb vs H' F' w n p f x=>q b vs H' _ (g H' F' w) n p ?_ (Vb r (zI x));cases z:drop (λc=>c=a) F' b with
 | none=>rfl
 | some o=>rw[(yb.mp z).1]at f;cases f
end
end PD
namespace L2
open PySem PySem.Spec PyProof.Rows
section
variable {prog:Program}{w:World}{A:Around}{R:Result→Shared→Prop}{I:Addr}{fp wr:List Addr}{G:Array GenState→Array GenState→Prop}{n:Nat}{P:Nat→Value→Prop}{St:Nat→Shared→Prop}
end
section
variable {prog:Program}{w:World}{A:Around}{E:AM}{s:Shared}
end
section
variable {X:Cx}{K:ζa}
theorem zbq{y n:Str}{i c d:Pos}{a b:List Stmt}{j:Stmt}{tb:TS}(k:PSs X a tb)(g:∀e s,¬X.xe e s):PS X (.Try a [.ExceptHandler (some (.Name y i)) (some n) (j::b) c] [] [] d) tb:=by
 intro pins s σ H l I h;refine wpAny_Try_except ?_;refine wpAny_mono (k pins s σ H l I h) (λf s1 q=>?_) λm s' z=>absurd z (g m s');cases f with
 | next=>exact wpAny_execs_nil q
 | _=>exact q
end
end L2
namespace PD
open PySem L2
section
variable {K:ζa}{S S':Sx}{κ κ':Bool}{Γ Γ' Γ'':Ctx}{P:Post}
end
section
variable {K:ζa}{S S':Sx}{κ κ':Bool}{Γ Γ' Γ'':Ctx}{P:Post}{E:XK}
theorem EvOG.toG{t:TE}{G:AG→Prop}(h:EvOG K S κ t Γ G):EvG K S κ t Γ λd=>∃c,G c∧d=.list c:=λH0 F0 H F σ e Q q=>h H0 F0 H F σ e Q λds a vs H' F' hd g n p f k=>by
 have s:Same F' (upd F' a (.lst vs)):=Same.new f _;refine q _ (.ref a) H' (upd F' a (.lst vs)) ⟨ds,hd,rfl⟩ ⟨g.h,g.f.trans s,λb u z=>?_,λb u z y=>?_⟩ (.lst (LN.new (e.out n)) (zu s k))
 ·by_cases i:b=a
  ·subst i;rw[zm]at z;rw[←z];exact p
  ·rw[zk i]at z;exact g.le _ _ z
 ·rw[zk (zt z n)];exact g.ap _ _ z y
end
end PD
namespace L2
open PySem PySem.Spec PyProof.Rows PySem.Calls
section
variable {X:Cx}{K:ζa}
def zcB(K:ζa):List V→Hp→VK→Prop:=λxs H Q=>∃p ys,xs=[.ref p]∧((SqL K H p ys∧∀l,H l=none→Q (.ref l) (upd H l (.tup ys)))∨(SqT K H p ys∧Q (.ref p) H))
theorem ub(a:X.K=K):yo X (.type "tuple") (zcB K):=by subst a;exact Y6
end
end L2
namespace PD
open PySem L2
section
variable {K:ζa}{S S':Sx}{κ κ':Bool}{Γ Γ' Γ'':Ctx}{P:Post}{E:XK}
end
end PD
namespace L2
open PySem PySem.Spec PyProof.Rows PySem.W
section
variable {X:Cx}{k k2:Nat}{ps:AJ}{sp sp2:Sp}{x:Str}{p cpos:Pos}{e:Expr}{es:List Expr}{ta:TA}{E:XK}
end
def eH(C:Addr)(i:Nat)(th:TS)(D:Ends)(σ:St):XK:=λc _ H2=>c=.ref C∧
 ∀a,H2 a=none→th {nx:=λσ3 H3=>D.nx (σ3.set i none) H3,rt:=D.rt,bk:=λσ3 H3=>D.bk (σ3.set i none) H3,ct:=λσ3 H3=>D.ct (σ3.set i none) H3} (σ.set i (some (.ref a))) (upd H2 a (.ext (Yw C a)))
section
variable {X:Cx}{k:Nat}{y n:Str}{np epos hpos tpos:Pos}{e tg:Expr}{te:XK→TE}{g:TG}{C D:Addr}{i:Nat}{b0:Stmt}{bs suite:List Stmt}{th:TS}
theorem zbc{pins:AL}{s:Shared}{σ:St}{H:Hp}{O:Ends}(I:Inv X pins σ H s)(V:wpAny (model X.prog X.w) X.A (execs bs X.env) (SP X pins O) (ZX X pins σ (eH C i th O σ)) s)(G:X.stack=X.env::X.outer)(Y:X.env.frame=some X.env.locals)(Z:X.ex=[])
  (hy:X.mg y=some (.ref D)) (a0:Gl X y) (m1:mroIn X.K C (.ref D)=some true) (m2:mroIn X.K D (.type "BaseException")=some true) (m3:typeIn X.K (.ref D)=some (.type "type"))
  (hN:X.N.Nodup) (hi:X.N[i]?=some n) (f:X.env.scope.names.lookup n=some .local) (a1:∀a,PSs (X.inH a) (b0::suite) th) (a2:(y==("__debug__" : Str))=false:=by decide) :
  wpAny (model X.prog X.w) X.A (exec (.Try bs [.ExceptHandler (some (.Name y np)) (some n) (b0::suite) hpos] [] [] tpos) X.env) (SP X pins O) X.xe s:=by
 refine wpAny_Try_except ?_;refine wpAny_mono V (λfl s1 z=>?_) λe' s' z=>?_
 ·cases fl with
  | next=>exact wpAny_execs_nil z
  | brk=>exact z
  | cont=>exact z
  | ret u=>exact z
 obtain⟨H1,s1,L,a,C',W,B,t,rfl,FL,hc,hh⟩:=z;cases hc;have P:=FL.fl;rw[G]at P;refine wpAny_looks_onW (G ▸ I.ok.frames) Y P λh4 Q u4=>?_;refine wpAny_landsW Q λh5 r u5=>?_;rw[←G]at r;have g:=FL.next (s5:={s' with heap:=h5}) rfl rfl rfl r (u4.trans u5);have I5:Inv X pins σ W {s' with heap:=h5}:=L.call' g.os g.un g.hok g.bare (ch:=[]) (λ_ z=>nomatch z);refine wpAny_handleBy_cons (codeAny_handlers_test (wm (X:=X.inH a) (I5.inH a) a0 hy ?_ a2)) (by intro z;cases z);obtain⟨o5,e5,c5⟩:=r.there;refine ZM I5.kIn e5 c5 m1 m2 m3 (codeAny_handlers_suite_as ?_);refine lands_againW r λh6 h u6=>?_;have e:=g.next (s5:={s' with heap:=h6}) rfl rfl rfl h u6;have R:Inv X pins σ W {s' with heap:=h6}:=L.call' e.os e.un e.hok e.bare (ch:=[]) (λ_ z=>nomatch z);obtain⟨o6,e6,c6⟩:=h.there;have nB:B.get? a=none:=h.2.1;have nH:W a=none:=by
  cases z:W a with
  | none=>rfl
  | some u =>
   obtain⟨ob,z'⟩:=e.trk a u z;rw[nB]at z';cases z'
 obtain⟨oe,ws,we,_,wd,_⟩:=h.first;have d:s1.heap.get? a=none:=by
  cases z:s1.heap.get? a with
  | none=>rfl
  | some u =>
   by_cases V:a∈frs X.stack
   ·obtain⟨_,o',l,z2⟩:=h.2.2.1.mem V;rw[we]at l;cases l;exact absurd wd (z2 ws)
   ·obtain⟨o',l⟩:=e.there a u z V;rw[nB]at l;cases l
 have S:X.s₀.heap.get? a=none:=by
  cases z:X.s₀.heap.get? a with
  | none=>rfl
  | some u =>
   obtain⟨o',l⟩:=L.base.there a u z (by rw[Z];intro z;cases z);rw[d]at l;cases l
 have a3:a≠X.env.locals:=λz=>by
  obtain⟨m,⟨o,_,_,F,_⟩,_⟩:=id L.loc;rw[←z,d]at F;cases F
 have a4:∀x c,X.env.cells.lookup x=some c→c≠a:=λx c ec z=>by
  obtain⟨v,o,F,_⟩:=L.cell x c ec;rw[z,d]at F;cases F
 have a5:∀q∈X.pn++pins,q.1≠a:=λq hq z=>by
  have F:=(L.pin q hq).1;rw[z,d]at F;cases F
 have a6:=R.track (φ:=Yw C a) e6 nH ⟨o6,e6,c6⟩ (λh1 h2 ⟨o,l,z2⟩ k=>⟨o,k o l,z2⟩) S a3 a4 a5;refine tF (X:=X.inH a) (v:=.ref a) (a6.inH a) hN hi (.inl f) rfl (λs7 I7=>?_) (.inr f);refine wpAny_mono (a1 a pins s7 _ _ _ I7 (hh a nH)) (λfl s8 q=>?_) λ_ _ z=>z.elim;have T:(X.env.scope.kind==.class||(X.env.scope.kind==.module&&X.env.locals != X.env.globals))=false:=by rw[I.ok.kind];rfl
 have E:∀b j,Inv X pins b j s8→(∀M,Inv X pins (b.set i none) j M→SP X pins O fl M)→wpAny (model X.prog X.w) X.A (do bindName X.env n Value.none;unbindBehindTheSuite X.env n hpos) (λ_ U=>SP X pins O fl U) X.xe s8:=λb j p k=>by
  obtain⟨m,hm,hl⟩:=id p.loc;exact zcO f hm T λh' v n1 s1=>k _ (p.gone hi hN hm hl n1 s1)
 cases fl with
 | next=>obtain⟨b,j,p,z⟩:=q;exact E b j (p.outH R.ok) λM J=>⟨_,_,J,z⟩
 | brk=>obtain⟨b,j,p,z⟩:=q;exact E b j (p.outH R.ok) λM J=>⟨_,_,J,z⟩
 | cont=>obtain⟨b,j,p,z⟩:=q;exact E b j (p.outH R.ok) λM J=>⟨_,_,J,z⟩
 | ret u=>obtain⟨v,b,j,p,rv,z⟩:=q;exact E b j (p.outH R.ok) λM J=>⟨v,_,_,J,rv,z⟩
def zcq(te:XK→TE)(g:TG)(C:Addr)(i:Nat)(th:TS):TS:=λD σ H=>te (eH C i th D σ) σ H λv H'=>g v σ H' D.nx
theorem zbs(o:PX X e te)(p:PG X tg g)(c:X.stack=X.env::X.outer)(d:X.env.frame=some X.env.locals)(f:X.ex=[])(j:∀e s,¬X.xe e s)
  (r:X.mg y=some (.ref D)) (k:Gl X y) (t:mroIn X.K C (.ref D)=some true) (u:mroIn X.K D (.type "BaseException")=some true) (w:typeIn X.K (.ref D)=some (.type "type"))
  (A:X.N.Nodup) (hi:X.N[i]?=some n) (b:X.env.scope.names.lookup n=some .local) (l:∀a,PSs (X.inH a) (b0::suite) th)
  (m:(y==("__debug__" : Str))=false:=by decide) (B:swapsWithSole [tg] e epos.line X.env=pure false:=by rfl) (E:swappedStores [tg] e X.env=pure none:=by rfl)
  (F:(assignEach [tg] X.env).map (·.2)=[assign tg X.env]:=by rfl) :
  PS X (.Try [.Assign [tg] e epos] [.ExceptHandler (some (.Name y np)) (some n) (b0::suite) hpos] [] [] tpos) (zcq te g C i th):=by
 intro pins s σ H P I h;refine zbc I ?_ c d f r k t u w A hi b l m;refine wpAny_execs_cons (wpAny_Assign_stores (wpAny_mono (o pins s σ H _ _ I h) (λv s1 ⟨x,G,J,L,M⟩=>?_) λ_ _ z=>z) B E);rw[F];refine wpAny_mono (p pins s1 σ G x v _ J L M) (λ_ s2 q=>?_) λO s' z=>absurd z (j O s');exact wpAny_execs_nil q
end
end L2
namespace PD
open PySem L2
section
variable {K:ζa}{S S':Sx}{κ κ':Bool}{Γ Γ' Γ'':Ctx}{P:Post}{E:XK}{C:Addr}
theorem zau{te:XK→TE}{i j:Nat}{p:TS}(h:∀E,EvY K S E C (te E) Γ)(t:SetC Γ i (some (.xn (excO C))) Γ')
  (k:ExS K S p Γ' {nx:=λc=>P.nx (c.set i none),rt:=P.rt,bk:=λc=>P.bk (c.set i none),ct:=λc=>P.ct (c.set i none),kr:=P.kr}):ExS K S (zcq te (yt j) C i p) Γ P:=λH0 F0 H F σ B e u _ D I =>
 h _ H0 F0 H F σ e (λq r g2=>⟨rfl,λa w=>by
  have g3:Gr q r (upd q a (.ext (Yw C a))) (upd r a (.ext (Yw C a))):=.new g2.le w _;have g:=g2.trans g3;have s:=(e.mono g).set (i:=i) (v:=.ref a) (x:=.xn (excO C)) ⟨a,rfl,zm⟩ λ_ z=>z.elim;rw[t.eq]at s;exact k H0 F0 _ _ _ B s (u.trans g.f) (.inl rfl) _ ⟨λc d l m n b o=>I.nx _ _ l m n b o.lose,I.rt,λc d l m n b o=>I.bk _ _ l m n b o.lose,λc d l m n b o=>I.ct _ _ l m n b o.lose⟩⟩) _
theorem zaz{i j:Nat}{o:Addr→HO}(h:GetC Γ j (.xn o))(b:SetC Γ i (some (.xn o)) Γ')(k:P.nx Γ'):ExS K S (tAsg (tVar j) (yt i)) Γ P:=λH0 F0 H F σ B e c _ D I=>by
 obtain⟨v,d,f⟩:=e.has j _ h.eq;refine⟨v,d,?_⟩
 have a:=e.set (i:=i) (v:=v) (x:=.xn o) f λ_ z=>z.elim;rw[b.eq]at a;exact I.nx _ _ H F k c a
end
end PD
namespace L2
open PySem
theorem Xt(o:Obj)(f:Array Value→Array Value):(o.mapFields f).dict=o.dict:=by
 obtain⟨_,_,z,_⟩:=o;cases z<;>rfl
def TrD(h B:Heap)(e:Addr)(cls fl:Value)(dx:Option Addr):Prop:=
 ∃oe vs T oT ts,h.get? e=some oe∧(oe.cls=cls∧oe.dict=dx∧vs[2]?=some .none)∧oe.data=.fields vs∧vs[1]?=some (.ref T)∧B.get? T=none∧T≠e∧h.get? T=some oT∧oT.data=.fields ts∧ts[3]?=some fl
structure FlyD(B:Heap)(l:List Env)(e:Addr)(cls fl:Value)(dx:Option Addr)(h:Heap):Prop where
 st:B.StaysIn h
 no:B.get? e=none
 fr:h.FunFrames B l
 tr:TrD h B e cls fl dx
theorem FlyD.there{B h:Heap}{l:List Env}{e:Addr}{cls fl:Value}{dx:Option Addr}(x:FlyD B l e cls fl dx h):∃ob vs,h.get? e=some ob∧ob.cls=cls∧ob.dict=dx∧ob.data=.fields vs∧vs[2]?=some .none:=
 let⟨b,vs,_,_,_,c,a,hd,_⟩:=x.tr;⟨b,vs,c,a.1,a.2.1,hd,a.2.2⟩
theorem FlyD.less{B h:Heap}{n:Env}{l:List Env}{e:Addr}{cls fl:Value}{dx:Option Addr}(x:FlyD B (n::l) e cls fl dx h):FlyD B l e cls fl dx h:=
 let⟨a,b,⟨_,_,c⟩,d⟩:=x;⟨a,b,c,d⟩
section
variable {M:Model}{A:Around}{E:AM}{s:Shared}{B:Heap}{env:Env}{out:List Env}{L e:Addr}{cls fl:Value}{dx:Option Addr}{Q:Unit→Shared→Prop}
theorem zaT{d:Obj}{vs:Array Value}{hd:Value}{more:Bool}(fr:A.frames=some (env::out))(g:s.heap.FunFrames B (env::out))(x:env.frame=some L)(j:s.heap.get? e=some d)(st:B.StaysIn s.heap)(no:B.get? e=none)
  (h:d.data=.fields vs) (sz:1<vs.size) (cl:d.cls=cls∧d.dict=dx∧vs[2]?=some .none) (k:∀h',FlyD B (env::out) e cls (rawInt L) dx h'→s.heap.UpToSlots h'→Q () {s with heap:=h'}) :
  wpAny M A (do let a←frameOf env;let p←entryPlaceOf L more;let b←EntryCells.newEntry hd a .none (rawInt L) .none p;setField (.ref e) 1 b) Q E s:=by
 have ne:e∉(env::out).filterMap (·.frame):=λz=>by
  obtain⟨_,o,l,f⟩:=g.mem z;rw[j]at l;cases l;exact f vs h
 refine AA (wpAny_frameOf_fun fr g x λc s1=>?_);refine AA (wpAny_entryPlaceOf λp hp=>?_);unfold EntryCells.newEntry newFields;refine AA (wpAny_newObj_type ?_ (hp.sizeOk5 _ _ _ _ _));generalize y:({cls:=.type "traceback", dict:=none,data:=.fields ([hd,.ref L,.none,rawInt L,.none]++(if p.isEmpty then List.replicate 6 Value.none else p)).toArray}:Obj)=i;have m:c.get? e=some d:=(s1.2.1 e ne).trans j;have n:B.StaysIn c:=λb o q=>(s1.2.1 b λz=>by rw[(g.mem z).1]at q;cases q).trans (st b o q);have r:=ζd i m;refine wpAny_setField r h sz (k _ ?_ ?_)
 all_goals
  have t:c.objs.size≠e:=ζ6 (ζl m);have u:=Obj.data_mapFields h (·.setIfInBounds 1 (Value.ref c.objs.size));have C:=ζJ (Obj.mapFields (·.setIfInBounds 1 (Value.ref c.objs.size))) r (Obj.isFreed_of_fields u);have dT:i.data=.fields ([hd,.ref L,.none,rawInt L,.none]++(if p.isEmpty then List.replicate 6 Value.none else p)).toArray:=by rw[←y]
  have D:=(ζX (c.push i) (Obj.mapFields (·.setIfInBounds 1 (Value.ref c.objs.size))) (Ne.symm t)).trans (ζo c (Obj.isFreed_of_fields dT));have kp:∀b o,b≠e→c.get? b=some o→((c.push i).update e (Obj.mapFields (·.setIfInBounds 1 (Value.ref c.objs.size)))).get? b=some o:=λb o q z=>by
   rw[ζX _ _ (Ne.symm q)];exact ζd _ z
  have v:∀b o,s.heap.get? b=some o→(∀vs,o.data≠.fields vs)→b≠e:=λb o q z w=>by
   rw[w,j]at q;cases q;exact z vs h
 ·refine⟨λb o q=>kp b o (λz=>by rw[z,no]at q;cases q) (n b o q),no,g.of_keeps λb o q z=>?_,?_⟩
  ·obtain⟨sl,f⟩:=s1.2.2 b o q;exact⟨_,kp b _ (v b o q z) f,rfl⟩
  ·exact⟨_,_,c.objs.size,_,_,C,⟨(Obj.cls_mapFields _ _).trans cl.1,(Xt _ _).trans cl.2.1,by rw[Array.getElem?_setIfInBounds_ne #[2]];exact cl.2.2⟩,u,by simp[sz],n.fresh,t,D,dT,by first|(simp;done)|(rcases hp with rfl|⟨_,_,_,_,_,_,_,rfl⟩<;>simp)⟩
 ·intro b o q z;obtain⟨sl,f⟩:=s1.2.2 b o q;exact⟨sl,kp b _ (v b o q z) f⟩
theorem zdr{a:Obj}{vs:Array Value}(fr:A.frames=some (env::out))(g:s.heap.FunFrames B (env::out))(b:env.frame=some L)(c:s.heap.get? e=some a)(st:B.StaysIn s.heap)(no:B.get? e=none)
  (d:a.data=.fields vs) (f:vs[1]?=some .none) (cl:a.cls=cls∧a.dict=dx∧vs[2]?=some .none) (k:∀h',FlyD B (env::out) e cls (rawInt L) dx h'→s.heap.UpToSlots h'→Q () {s with heap:=h'}):wpAny M A (noteFrame (.ref e) env) Q E s:=by
 unfold noteFrame;simp only[b];refine AA (wpAny_field c d f ?_);rw[if_neg #[2]];exact zaT fr g b c st no d (ξb.mp f).1 cl k
theorem recD{c:Obj}{ts:Array Value}{u:Value}(x:B.StaysIn s.heap∧s.heap.FunFrames B out)(T:Addr)(e:s.heap.get? T=some c)(dT:c.data=.fields ts)(f:B.get? T=none):
  let h':=s.heap.update T (Obj.mapFields (·.setIfInBounds 3 u));(B.StaysIn h'∧h'.FunFrames B out)∧s.heap.UpToSlots h'∧∀b,b≠T→h'.get? b=s.heap.get? b:=by
 have a:∀b,b≠T→(s.heap.update T (Obj.mapFields (·.setIfInBounds 3 u))).get? b=s.heap.get? b:=λb z=>ζX _ _ (Ne.symm z);have d:∀b o,s.heap.get? b=some o→(∀vs,o.data≠.fields vs)→b≠T:=λb o q z w=>by
  rw[w,e]at q;cases q;exact z ts dT
 exact⟨⟨λb o q=>(a b λz=>by rw[z,f]at q;cases q).trans (x.1 b o q),x.2.of_keeps λb o q z=>⟨o,(a b (d b o q z)).trans q,rfl⟩⟩,λb o q z=>⟨o.slots,(a b (d b o q z)).trans q⟩,a⟩
theorem Q1(fr:A.frames=some (env::out))(c:env.frame=some L)(x:FlyD B (env::out) e cls .none dx s.heap)(k:∀h',FlyD B (env::out) e cls (rawInt L) dx h'→s.heap.UpToSlots h'→Q () {s with heap:=h'}):
  wpAny M A (noteFrame (.ref e) env) Q E s:=by
 obtain⟨st,no,j,q,vs,T,r,ts,d,cl,g,h,l,a,b,dT,i⟩:=x;unfold noteFrame;simp only[c];refine AA (wpAny_field d g h ?_);rw[if_pos (show(Value.ref T != Value.none)=true from by simp)];refine AA (wpAny_field b dT i ?_);rw[if_neg (show¬((Value.none==rawInt L)=true)from by simp[rawInt])];refine AA (wpAny_setField b dT (ξb.mp i).1 ?_);obtain⟨⟨m,n⟩,o,p⟩:=recD (u:=.none) ⟨st,j⟩ T b dT l;exact zaT (s:={s with heap:=_}) fr n c ((p e (Ne.symm a)).trans d) m no g (ξb.mp h).1 cl λh' f u=>k h' f (o.trans u)
theorem ZU(x:FlyD B out e cls fl dx s.heap)(k:∀h',FlyD B out e cls .none dx h'→s.heap.UpToSlots h'→Q () {s with heap:=h'}):wpAny M A (setFlight (.ref e) none) Q E s:=by
 obtain⟨st,no,j,l,vs,T,r,ts,c,cl,d,g,h,a,b,dT,m⟩:=x;have i:3<ts.size:=(ξb.mp m).1;unfold setFlight;refine AA (wpAny_field c d g ?_);rw[if_pos (show(Value.ref T != Value.none)=true from by simp)];obtain⟨⟨n,o⟩,p,q⟩:=recD (u:=(none:Option Addr).elim Value.none λf=>rawInt f) ⟨st,j⟩ T b dT h;refine wpAny_setField b dT i (k _ ⟨n,no,o,?_⟩ p);exact⟨l,vs,T,_,_,(q e (Ne.symm a)).trans c,cl,d,g,h,a,Heap.get?_update_self _ b (Obj.isFreed_of_fields (Obj.data_mapFields dT _)),Obj.data_mapFields dT _,by simp[i]⟩
theorem zbR{a:Obj}{vs:Array Value}(fr:A.frames=some (env::out))(b:s.heap.FunFrames B (env::out))(c:env.frame=some L)(d:s.heap.get? e=some a)(st:B.StaysIn s.heap)(no:B.get? e=none)
  (f:a.data=.fields vs) (g:vs[1]?=some .none) (cl:a.cls=cls∧a.dict=dx∧vs[2]?=some .none) (k:∀h',FlyD B out e cls .none dx h'→s.heap.UpToSlots h'→Q () {s with heap:=h'}):wpAny M A (leaving env (.ref e)) Q E s:=by
 unfold leaving;exact AA (zdr fr b c d st no f g cl λh i j=>ZU (s:={s with heap:=h}) i λl m n=>k l m.less (j.trans n))
theorem zbQ(fr:A.frames=some (env::out))(a:env.frame=some L)(x:FlyD B (env::out) e cls .none dx s.heap)(k:∀h',FlyD B out e cls .none dx h'→s.heap.UpToSlots h'→Q () {s with heap:=h'}):
  wpAny M A (leaving env (.ref e)) Q E s:=by
 unfold leaving;exact AA (Q1 fr a x λb c d=>ZU (s:={s with heap:=b}) c λf g h=>k f g.less (d.trans h))
end
end L2
namespace L2
open PySem PySem.Spec PyProof.Rows PySem.W PySem.Builtin PySem.Builtin.ObjectAttr
def WX:AK→Bool
 | .ref _::r=>WX r
 | l=>l==bmV
theorem QH(self:Value)(l:AK)(e:WX l=true):refuseLoop self "__setattr__" l=pure ():=by
 induction l with
 | nil=>exact absurd e #[2]
 | cons v r a =>
  cases v with
  | ref c=>rw[refuseLoop_ref];exact a e
  | _=>rw[beq_iff_eq.mp e];exact PySem.F.store_ValueError.passes self
theorem Th(l:AK)(e:WX l=true):l.contains (.type "object")=true∧l.isEmpty=false:=by
 induction l with
 | nil=>exact absurd e #[2]
 | cons v r a =>
  cases v with
  | ref c=>exact⟨by rw[List.contains_cons,(a e).1,Bool.or_true],rfl⟩
  | _=>exact⟨by rw[beq_iff_eq.mp e];decide +kernel,rfl⟩
structure ESet(K:Frag)(C:Addr)(f:Str):Prop where
 sa:findIn K (.ref C) "__setattr__" = some (some (.builtin "object.__setattr__"))
 ov:(clsIn K C).any (λcd=>WX cd.mro)=true
 no:findIn K (.ref C) f=some none
 hd:hasDictIn K C=true
section
variable {prog:Program}{w:World}{A:Around}{E:AM}{s:Shared}{K:Frag}{x C:Addr}{ox:Obj}{f:Str}{v:Value}
theorem zbZ{Q:Unit→Shared→Prop}(X:K.In s.heap)(J:InstAt s.heap x ox C none)(F:ESet K C f)(j:ox.dict=none)
  (h:∀h' tk,h'.get? x=some {ox with dict:=some s.heap.objs.size}→h'.Ns1 s.heap.objs.size (λy=>if y=f then some v else none)→(∀b o,b≠x→s.heap.get? b=some o→h'.get? b=some o)→Q () {s with heap:=h',toks:=tk}) :
  wpAny (model prog w) A (setAttr (.ref x) f v) Q E s:=by
 have l:=PySem.F.store_object;obtain⟨cd,O,P⟩:=any_some F.ov;obtain⟨S,o2⟩:=Th _ P;refine set_plain X J F.sa ?_;obtain⟨c,g,d,t,os⟩:=s;have r:Looks (model prog w) c (isInstance (.ref x) (.type "object")) true:=J.type.andThen (looks_mroIn X (by unfold mroIn;rw[O,Option.bind_some,if_neg (by rw[o2];decide),S]));refine codeAny_call_builtin l.slot.plain l.entry (@check_slot (model prog w) _ _ ⟨c,g,d,t+1,os⟩ "object.__setattr__" "object" "__setattr__" (.ref x) [.str f t,v] [] _ l.kind l.split r (l.args (.ref x) (.str f t) v) ?_);have T:Looks (model prog w) c (mroOf (.ref C)) cd.mro:=(looks_clsIn X O).andThen .now;rw[osa_eq,refuse_eq];refine AA (AA (J.type.at (AA (T.at ?_))));rw[QH _ _ P];have U:Looks (model prog w) c (storeTaker? none) none:=.now;refine AB (AA (J.type.at (AA ((looks_findIn X F.no).at (AA (U.at ?_))))));obtain⟨V,u,B⟩:=any_some F.hd;obtain⟨q,m,D,_⟩:=J;obtain⟨oc,od,i,osl⟩:=ox;dsimp only at m j;subst m j;refine AA (AB (AA (AA (wpAny_loadPart q (AA (Looks.at (looks_clsIn X u) ?_))))));rw[B];have n:(c.push {cls:=.type "dict", data:=.dict #[]}).get? x=some ⟨.ref C,none,i,osl⟩:=ζd _ q;have p:x≠c.objs.size:=ζt (ζl q);rw[if_neg #[2]];dsimp only;rw[if_neg (by simp[typeHasDict])]
 have go:∀(k:Sem (Option Addr)),k=(do
   let d←alloc {cls:=Value.type "dict", data:=Data.dict #[]}
   update x λo=>{cls:=o.cls,dict:=some d,data:=o.data,slots:=o.slots}
   dictMade (.ref C) x d)→wpAny (model prog w) A.in1 k (λa s'=>a=some c.objs.size∧s'=(⟨(c.push {cls:=.type "dict", data:=.dict #[]}).update x λo=>{cls:=o.cls,dict:=some c.objs.size,data:=o.data,slots:=o.slots},g,d,t+1,os⟩:Shared)) (λ_ _=>False) ⟨c,g,d,t+1,os⟩:=by
  rintro _ rfl;exact AA (wpAny_alloc' (AA (wpAny_update' n (AB ⟨rfl,rfl⟩))))
 have fr:c.objs.size≠x:=Ne.symm p
 have G:((c.push {cls:=.type "dict", data:=.dict #[]}).update x λo=>{cls:=o.cls,dict:=some c.objs.size,data:=o.data,slots:=o.slots}).get? c.objs.size=some {cls:=.type "dict", data:=.dict #[]}:=
  (Heap.get?_update_ne _ _ _ _ fr).trans (Heap.get?_push_at rfl rfl)
 have H:((c.push {cls:=.type "dict", data:=.dict #[]}).update x λo=>{cls:=o.cls,dict:=some c.objs.size,data:=o.data,slots:=o.slots}).Ns c.objs.size (λ_=>none):=
  ⟨_,#[],_,G,rfl,λe W=>absurd W (by simp),λ_=>rfl⟩
 have fz:({cls:=.ref C,dict:=some c.objs.size,data:=i,slots:=osl}:Obj).isFreed=false:=by
  have I:=(Heap.get?_some_iff.mp q).2;cases i<;>first|rfl|exact I
 refine wpAny_mono (go _ ?_) (λa s' ⟨Y,Z⟩=>?_) λ_ _ z=>z.elim
 ·cases i<;>first|rfl|exact absurd D ζv
 subst Y Z;show wpAny _ _ (storeInDict c.objs.size (.str f t) f v) _ _ _;unfold storeInDict newKeyGuard;refine AA (AB (AA (wpAny_nsSet1 (Heap.Ns1.of_empty H) λh' R s'=>?_)));obtain⟨oD,a0,a1,L,M,N⟩:=R.count (Within.cons f v Within.nil);refine AA (wpAny_lookBehind L (by rw[M];exact pastItsLine_dict (ζ7 N (by rw[ζZ,List.length_nil,sizeLine_eq];omega))) ?_);refine AB (h h' _ ?_ R λb ob hb e=>?_)
 ·exact(s'.2 x p).trans (ζJ _ n fz)
 ·exact(s'.2 b (ζt (ζl e))).trans ((Heap.get?_update_ne _ _ _ _ hb).trans (ζd _ e))
theorem zb0{od:Obj}{a:Bool}{Q:AM}(X:K.In s.heap)(J:InstAt s.heap x ox C (some od))(e:EIs K C)(F:ESet K C f)(c:lookIn f od=some (some v))(i:handedIn v=true)(h:Q v {s with toks:=s.toks+1}):
  wpAny (model prog w) A (getAttr (.ref x) f a) Q E s:=by
 have j:findObj K C (some od) f=some (.value v):=findObj_own F.hd F.no rfl c;obtain⟨H,g,d,t,os⟩:=s;have b:Looks (model prog w) H (typeOf (.ref x)) (.ref C):=J.type;have k:=looks_findIn (M:=model prog w) X e.g1;have l:=looks_findIn (M:=model prog w) X e.g2;have m:Looks (model prog w) H (isInstance (.ref x) (.type "BaseException")) true:=b.andThen (looks_subIn X e.g7);have n:=looks_find (M:=model prog w) X J j;unfold getAttr getAttrBy;refine AA (wpAny_mkText (wpAny_holding (AA (b.at (AA (k.at ?_))))));dsimp only;rw[if_neg (by
  have z:(Value.builtin "BaseException.__getattribute__" == Value.builtin "object.__getattribute__")=false:=by decide +kernel
  rw[z,ζR];decide)]
 unfold getAttrByItsOwn hookBefore;rw[if_pos (show onTheHeap (Value.ref C)=true from rfl)];refine AA (l.at (AA (wpAny_attempt (wpAny_holding ?_))));unfold callGetattribute boundAndCalled;rw[show(a&&onTheHeap (Value.builtin "BaseException.__getattribute__"))=false from ζR _,if_neg #[2]];refine AA (wpAny_of_eq (PySem.F.attr_ValueError.ga.bind (.ref x)) ?_);refine wpAny_call (codeAny_call_builtin PySem.F.attr_ValueError.ga.plain PySem.F.entry_bexc_ga (YJ m ?_));unfold Builtin.«object.__getattribute__»;refine AA (AB (AA (AB (AA (b.at (AA (n.at ?_)))))));refine AB ?_;exact handed_on i h
end
end L2
namespace L2
open PySem PySem.Spec PyProof.Rows PySem.W
section
variable {prog:Program}{w:World}{A:Around}{E:AM}{h:Heap}{g:Array GenState}{d:Drawn}{t:Nat}{os:OsState}
variable {nm q:Str}{C N:Addr}{bs bm bmB:AK}{hdct:Bool}{sn:AJ}{sub:AK}{ab:Bool}{col:Option Bool}{dd:Option Addr}{k0 k1 k2 k3 k5:Option Value}{B nid iid:String}
theorem zbf(F:ExcBaseFacts B nid iid bmB)(T:OwnTail h bmB bm){mN:AN}{xs:AK}{fI:Addr}{oI:Obj}{Q:Fin→Shared→Prop}
  (c:h.get? C=some (excClassObj nm q C N bs bm hdct sn sub ab col dd k0 k1 k2 k3 k5 nid)) (k:h.Ns N mN) (hi:mN "__init__" = some (.ref fI)) (l:h.get? fI=some oI) (m:oI.cls=.type "function") (n:xs.length≤sizeLine)
  (hq:∀h' e,Heap.MadeExcOf h h' e (.ref C) xs→wpAny (model prog w) A (call (.ref fI) (.ref e::xs)) (λr s'=>r=.none∧Q (.done (.ret (.ref e))) s') E ⟨h',g,d,t,os⟩) :
  wpAny (model prog w) A (Builtin.«type.__call__» ⟨.ref C::xs,[]⟩) Q E ⟨h,g,d,t,os⟩:=by
 repeat (first|with_reducible refine wpAny_loadPart_at c ?_|with_reducible refine wpAny_madeBy_exc c ?_|wp_step)
 refine codeAny_call_builtin_code (Code.quiet_builtin _ F.quiet) (wpAny_check_new_subT F T c ?_);refine codeAny_exc_new_subT F T c ?_ n;show wpAny _ _ _ _ _ _;generalize i:({cls:=.type "tuple", data:=.seq xs.toArray}:Obj)=f;generalize o2:({cls:=.ref C,data:=.fields #[.ref h.objs.size,.none,.none,.none,.bool false,.none]}:Obj)=a;have kp:∀b o,h.get? b=some o→((h.push f).push a).get? b=some o:=λb o z=>ζd _ (ζd _ z);have j:((h.push f).push a).get? (h.objs.size+1)=some a:=by
  have z:=ζo (h.push f) (o:=a) (by rw[←o2];rfl)
  rwa [ζS]at z
 have p:((h.push f).push a).get? h.objs.size=some f:=ζd _ (ζo h (by rw[←i];rfl));have s:a.cls=.ref C:=by rw[←o2]
 have u:(Value.ref C::bm).contains (.ref C)=true:=by simp
 unfold isInstance
 repeat (first|(with_reducible refine wpAny_loadPart_at j ?_;rw[s])|(with_reducible refine wpAny_isSubtype_exc (kp _ _ c) ?_;rw[u])|wp_step)
 show wpAny _ _ (typeLookup (.ref C) _) _ _ _;refine wpAny_typeLookup_tail (kp _ _ c) (k.keeps kp) (T.keeps kp) F.mroIs F.init.lookup ?_;rw[hi];refine wpAny_holding (AA ?_);unfold bindSpecial;refine AA (wpAny_typeOf (T:= "function") ⟨_,kp _ _ l,m⟩ ?_);rw[if_pos #[2]];have v:Heap.MadeExcOf h ((h.push f).push a) (h.objs.size+1) (.ref C) xs:=⟨kp,ξS (ξu _),h.objs.size,by rw[j,←o2],ξS (ζp _),by rw[p,←i]⟩
 refine AB (AA (wpAny_mono (hq _ _ v) (λr s' ⟨x,y⟩=>?_) λ_ _ z=>z));subst x
 wp_walk
 exact y
theorem TZ(F:ExcBaseFacts B nid iid bmB)(T:OwnTail h bmB bm){mN:AN}{xs:AK}{fI:Addr}{oI:Obj}{Q:AM}
  (a:h.get? C=some (excClassObj nm q C N bs bm hdct sn sub ab col dd k0 k1 k2 k3 k5 nid)) (b:h.Ns N mN) (hi:mN "__init__" = some (.ref fI)) (c:h.get? fI=some oI) (f:oI.cls=.type "function") (i:xs.length≤sizeLine)
  (hq:∀h' e,Heap.MadeExcOf h h' e (.ref C) xs→wpAny (model prog w) (A.under (.builtin "type.__call__" ⟨.ref C::xs,[]⟩)) (call (.ref fI) (.ref e::xs)) (λr s'=>r=.none∧Q (.ref e) s') E ⟨h',g,d,t,os⟩) :
  wpAny (model prog w) A (call (.ref C) xs) Q E ⟨h,g,d,t,os⟩:=by
 have k:=tc_lookup;have l:=tc_bind (.ref C);have m:(⟨h,g,d,t,os⟩:Shared).TypeIs (.ref C) "type" := ⟨_,a,rfl⟩
 refine wpAny_call (codeAny_of_tree ?_);show wpAny _ _ (callAny (.ref C) _) _ _ _
 repeat (any_goals (first|assumption|with_reducible refine wpAny_loadPart_at a ?_|wp_step))
 refine⟨rfl,codeAny_call_builtin_at (Code.quiet_builtin _ (by decide +kernel)) entry_typeCall (wpAny_check_type_call_sub a ?_)⟩
 exact zbf F T a b hi c f i λh' e j=>hq h' e j
end
section
variable {M:Model}{A:Around}{E:AM}{env:Env}{K:Frag}{C:Addr}
theorem zbp{s:Shared}{x:Sem Value}{Q:Flow→Shared→Prop}(l:subIn K (.ref C) (.type "BaseException")=some true)(m:typeIn K (.ref C)=some (.type "type"))(n:A.handled=none)
  (h:wpAny M A x (λv a=>∃e o vs,v=.ref e∧K.In a.heap∧a.heap.get? e=some o∧o.cls=.ref C∧o.data=.fields vs∧vs[1]?=some .none∧E (.ref e) a) E s):wpAny M A (raiseStmt env (some x) none) Q E s:=by
 unfold raiseStmt;refine AA (wpAny_mono h (λv a b=>?_) λ_ _ x=>x);obtain⟨e,o,vs,rfl,X,c,f,hd,p,q⟩:=b;obtain⟨hp,g,d,tk,os⟩:=a;have i:Looks M hp (typeOf (.ref e)) (.ref C):=f ▸ (Looks.ld c).andThen .now;have r:Looks M hp (isSubtype (.ref C) (.type "BaseException")) true:=looks_subIn X l;have t:Looks M hp (typeOf (.ref C)) (.type "type"):=looks_typeIn X m;have u:Looks M hp (isInstance (.ref e) (.type "BaseException")) true:=i.andThen r;obtain⟨oc,od,w,osl⟩:=o;dsimp only at f hd;subst f hd;have j:Looks M hp (isType (.ref e)) false:=by
  intro y B D s' k z;unfold isType loadHead;exact AA (wpAny_loadPart (k _ _ c) (AB z))
 have F:Looks M hp (isExcClass (.ref e)) false:=j.andThen .now;have G:Looks M hp (raisedInstance (.ref e)) (.ref e):=i.andThen (t.andThen .now);have H:Looks M hp (setFlight (.ref e) none) ():=by
  intro y B D s' k z;unfold setFlight;refine AA (wpAny_field (k _ _ c) rfl p ?_);rw[if_neg #[2]];exact AB z
 refine AA (AB (AA (wpAny_holding ?_)));unfold excFromValue;refine AA (F.at ?_);rw[if_neg #[2]];refine AA (u.at ?_);rw[if_pos rfl];refine AB ?_;refine AA (j.at ?_);rw[if_neg #[2]];refine AA (G.at (AA (H.at ?_)));exact wpAny_raiseNew_none n q
end
section
variable {prog:Program}{w:World}{A:Around}{E:AM}{h:Heap}{g:Array GenState}{d:Drawn}{t:Nat}{os:OsState}
variable {nm q:Str}{C N e:Addr}{bs bm:AK}{hdct:Bool}{sn:AJ}{sub:AK}{ab:Bool}{col:Option Bool}{dd:Option Addr}{k0 k1 k2 k3 k5:Option Value}{nid:String}{o:Obj}{vs:Array Value}{u:Value}
theorem T2{Q:AM}(T:OwnTail h bmV bm)(i:h.get? C=some (excClassObj nm q C N bs bm hdct sn sub ab col dd k0 k1 k2 k3 k5 "ValueError.__new__"))(a:h.get? e=some o)(j:o.cls=.ref C)(hd:o.data=.fields vs){l:Addr}(c:vs[0]?=some (.ref l))
  (k:∀h' z,h'.get? e=some (o.mapFields (·.setIfInBounds 0 (.ref z)))→(∀b p,b≠e→h.get? b=some p→h'.get? b=some p)→Q .none ⟨h',g,d,t,os⟩) :
  wpAny (model prog w) A (call (.builtin "ValueError.__init__") [.ref e,u]) Q E ⟨h,g,d,t,os⟩:=by
 have F:=ξQ;refine wpAny_call (codeAny_call_builtin F.init.plain F.initEntry (wpAny_check_init_subT F T i a j ?_));have f:=ζd {cls:=.type "tuple", data:=.seq #[u]} a;have fz:(o.mapFields (·.setIfInBounds 0 (.ref h.objs.size))).isFreed=false:=Obj.isFreed_of_fields (Obj.data_mapFields hd _);unfold Builtin.«BaseException.__init__»
 wp_walk
 rw[hd];refine AB ?_;rw[c];refine AB (AA (wpAny_setField f hd (ξb.mp c).1 ?_))
 wp_walk
 refine k _ h.objs.size (ζJ _ f fz) λb p m z=>?_;rw[ζX _ _ (Ne.symm m)];exact ζd _ z
end
def excR(C a:Addr):Heap→Prop:=λh=>∃o vs t0,h.get? a=some o∧o.cls=.ref C∧o.dict=none∧o.data=.fields vs∧vs[0]?=some (.ref t0)∧vs[1]?=some .none∧vs[2]?=some .none
def excX(C a dx:Addr):Heap→Prop:=λh=>∃o vs,h.get? a=some o∧o.cls=.ref C∧o.dict=some dx∧o.data=.fields vs∧vs[1]?=some .none∧vs[2]?=some .none
def excD(C a dx:Addr):Heap→Prop:=λh=>∃o vs,h.get? a=some o∧o.cls=.ref C∧o.dict=some dx∧o.data=.fields vs∧vs[2]?=some .none
theorem zd9{K:Frag}{h:Heap}{N:Addr}{mg:AN}{n:Str}{v:Value}(X:K.In h)(G:h.Ns N mg)(e:nsIn K N n=some (some v)):mg n=some v:=by
 obtain⟨ob,xs,xp,a,hd,_,b⟩:=G;unfold nsIn at e;split at e
 ·rename_i c d f i sl q;have z:=X _ _ q;rw[a]at z;cases z;cases hd;split at e
  ·rename_i j g;rw[←b];unfold nsFind findBy;rw[←Array.find?_toList,g];exact ζD e
  ·split at e<;>cases e
 ·cases e
def Wr(K:Frag)(C fI:Addr):Bool:=match K.lookup C with
 | some ⟨.type "type", _,.cls cd,sl⟩=>(match cd.mro,sl.toList with
  | .ref C'::bm,[_,_,_,_,some (.builtin n),_]=>C'==C&&n == "ValueError.__new__" && !cd.hasDel&&tailIn K bmV bm&&nsOkIn K cd.ns&&nsIn K cd.ns "__init__" == some (some (.ref fI))
  | _,_=>false)
 | _=>false
theorem Yx{K:Frag}{C fI:Addr}{h:Heap}(X:K.In h)(q:Wr K C fI=true):∃bm N nm q bs hdct sn sub ab col dd k0 k1 k2 k3 k5 mN,h.get? C=some (excClassObj nm q C N bs bm hdct sn sub ab col dd k0 k1 k2 k3 k5 "ValueError.__new__")∧h.Ns N mN∧mN "__init__" = some (.ref fI)∧OwnTail h bmV bm:=by
 unfold Wr at q;split at q
 case h_2=>cases q
 case h_1 dd cd sl hlk =>
  split at q
  case h_2=>cases q
  case h_1 C' bm k0 k1 k2 k3 n k5 hm hs =>
   simp only[Bool.not_eq_true',beq_iff_eq,Bool.and_eq_true]at q;obtain⟨⟨⟨⟨⟨z1,z2⟩,z3⟩,z4⟩,z5⟩,z6⟩:=q;subst z1;subst z2;cases cd;dsimp only at hm z3 z5 z6;subst hm;subst z3;have esl:sl=#[k0,k1,k2,k3,some (.builtin "ValueError.__new__"),k5]:=Array.ext' hs;subst esl;have NS:h.Ns _ _:=.of_isNs (isNs_of_in X z5);exact⟨_,_,_,_,_,_,_,_,_,_,_,_,_,_,_,_,_,X _ _ hlk,NS,zd9 X NS z6,tail_of_in X z4⟩
structure RCl(K:Frag)(C fI:Addr):Prop where
 q:Wr K C fI=true
 e:EIs K C
 s:ESet K C "ring"
 t:typeIn K (.ref C)=some (.type "type")
structure BIn(K:Frag)(B:Addr):Prop where
 r:readsIn K B (.type "type")=true
 f:findCls K (.ref B) (.type "type") "__init__" = some (.val (.builtin "ValueError.__init__"))
 g:specialIn K (.ref B) "__getattribute__" = some (some (.builtin "type.__getattribute__"))
section
variable {X:Cx}{pins:AL}{σ:St}{H:Hp}{s:Shared}
theorem Inv.trackO{a:Addr}{o:HO}{ob:Obj}(I:Inv X pins σ H s)(t:s.heap.get? a=some ob)(d:H a=none)(new:yN X.prog X.w (upd H a o) s.heap a o)
  (g:X.s₀.heap.get? a=none) (h:a≠X.env.locals) (i:∀x c,X.env.cells.lookup x=some c→c≠a) (hp:∀q∈X.pn++pins,q.1≠a):Inv X pins σ (upd H a o) s:=by
 have ne:∀b u,X.s₀.heap.get? b=some u→b≠a:=λb u e z=>by rw[z,g]at e;cases e
 refine⟨I.ok,I.os,I.bare,⟨I.base.keep,I.base.slot,λb u e n j=>?_,I.base.there,λb xs e=>?_,λb u v e=>?_,λb ps e=>?_⟩,I.loc,I.cell,?_,λx c e=>?_,λq hq=>?_,λb u e=>?_,I.len⟩
 ·rw[zk (ne b u e)];exact I.base.free b u e n j
 ·have:=I.base.tups b xs e;rw[zk (zt this d)];exact this
 ·have:=I.base.frzs b u v e;rw[zk (zt this d)];exact this
 ·obtain⟨m,f⟩:=I.base.tbls b ps e;exact⟨m,by rw[zk (zt f d)];exact f⟩
 ·rw[zk (Ne.symm h)];exact I.free
 ·rw[zk (i x c e)];exact I.freeC x c e
 ·obtain⟨f,k,l,p,r⟩:=I.pin q hq;exact⟨f,by rw[zk (hp q hq)];exact k,l,p,r⟩
 ·by_cases z:b=a
  ·subst z;rw[zm]at e;cases e;exact new
  ·rw[zk z]at e;exact(I.hok b u e).stay (λ_ _ _ q=>q) (λc q=>by rw[zk (zt q d)];exact q) λc xs q=>by rw[zk (zt q d)];exact q
theorem Inv.beyond{a:Addr}(I:Inv X pins σ H s)(g:X.ex=[])(d:s.heap.get? a=none):X.s₀.heap.get? a=none∧a≠X.env.locals∧(∀x c,X.env.cells.lookup x=some c→c≠a)∧∀q∈X.pn++pins,q.1≠a:=by
 refine⟨?_,λz=>?_,λx c e z=>?_,λq hq z=>?_⟩
 ·cases z:X.s₀.heap.get? a with
  | none=>rfl
  | some u =>
   obtain⟨o',f⟩:=I.base.there a u z (by rw[g];intro z;cases z);rw[d]at f;cases f
 ·obtain⟨m,⟨o,_,_,b,_⟩,_⟩:=id I.loc;rw[←z,d]at b;cases b
 ·obtain⟨v,o,b,_⟩:=I.cell x c e;rw[z,d]at b;cases b
 ·have b:=(I.pin q hq).1;rw[z,d]at b;cases b
end
section
variable {X:Cx}{C fI B:Addr}{y:Str}{e:Expr}{es:List Expr}{ta:TA}{np apos cpos epos:Pos}
def zcv(C:Addr)(ta:TA):TS:=λD σ H=>ta σ H λvs H1=>∃a x,vs=[.ref a,.str x]∧H1 a=some (.ext (excR C a))∧D.nx σ H1
theorem zbv{pl:Sem Bool}(O:RCl X.K C fI)(c:BIn X.K B)(L:X.mg y=some (.ref B))(i:Gl X y)(M:PA X (e::es) ta)(j:(y==("__debug__" : Str))=false:=by decide)
  (P:eval (.Call (.Attribute (.Name y np) "__init__" apos) (e::es) [] cpos) X.env=(do
   let ov←eval (.Name y np) X.env
   standAt apos.atName
   let(f,first)←holding [ov] (getMethod ov "__init__" pl)
   callWith cpos f first (backTo cpos (starEach (e::es) X.env)) (backToKw cpos (keywordEach [] X.env))):=by rfl)
  (Q:swapsWith (.Call (.Attribute (.Name y np) "__init__" apos) (e::es) [] cpos) none epos.line X.env=pure false:=by rfl) (R:starEach (e::es) X.env=(false,eval e X.env)::starEach es X.env:=by rfl) (l:(backTo cpos (starEach es X.env)).any (·.1)=false:=by rfl) :
  PS X (.Expr (.Call (.Attribute (.Name y np) "__init__" apos) (e::es) [] cpos) epos) (zcv C ta):=by
 intro pins s σ H D I h;refine wpAny_Expr_any ?_ I.quiet Q;refine methodCall_KW (wm I i L (method_cls I.kIn c.g (cls_value I.kIn c.r c.f rfl ?_)) j) P;refine PyProof.Rows.callWith_builtin1 (thn (M cpos pins _ σ H _ (I.tok _) h) λus s1 ⟨vs,m,n,r,q⟩=>?_) R l;obtain⟨a,x,rfl,p,k⟩:=q;obtain⟨u,v,rfl,S,rv⟩:=r.two;cases(show u=Value.ref a from S);obtain⟨o,vs,A,U,E,V,F,W,w⟩:=(n.hok a _ p).1;obtain⟨bm,N,nm,qn,bs,u1,u2,u3,u4,u5,u6,k0,k1,k2,k3,k5,mN,Y,_,_,T⟩:=Yx n.kIn O.q;obtain⟨hp,g,d,t,os⟩:=s1;refine T2 T Y U E F W λh' z g1 g2=>?_;have sz:1<vs.size:=(ξb.mp w.1).1;have ex:excR C a h':=⟨_,_,z,g1,(Obj.cls_mapFields _ _).trans E,(Xt _ _).trans V,Obj.data_mapFields F _,by rw[Array.getElem?_setIfInBounds,if_pos rfl,if_pos ⋯],by rw[Array.getElem?_setIfInBounds_ne #[2]];exact w.1,by rw[Array.getElem?_setIfInBounds_ne #[2]];exact w.2⟩
 have G:=n.write (x:=a) (e:=a) (o:=.ext (excR C a)) (t':=t) (h':=h') (by rw[p];trivial) (.inl rfl) g2 ⟨_,g1⟩ ⟨ex,⟨_,g1⟩,λh1 h2 ⟨o,vs,A,Z,q2⟩ kk=>⟨o,vs,A,kk o Z,q2⟩⟩;have eH:upd m a (.ext (excR C a))=m:=by
  funext b;by_cases J:b=a
  ·subst J;rw[zm,p]
  ·rw[zk J]
 rw[eH]at G;exact⟨σ,m,G,k⟩
def zcs(C:Addr)(f:Str)(ta tv:TE):TS:=λD σ H=>tv σ H λy H1=>ta σ H1 λx H2=>∃a,x=.ref a∧H2 a=some (.ext (excR C a))∧∀dx,H2 dx=none→D.nx σ (upd (upd H2 a (.ext (excX C a dx))) dx (.xd [(f,y)]))
theorem zbt{o b:Expr}{f:Str}{d c:Pos}{n p:TE}(F:ESet X.K C f)(w:X.ex=[])(A:PE X o n)(B:PE X b p)(E:swapsWith b (some (.Attribute o f c)) d.line X.env=pure false:=by rfl):
  PS X (.Assign [.Attribute o f c] b d) (zcs C f n p):=by
 intro pins s σ H D I h;refine plainObj_wpAny_Assign_Attribute (thn (B pins s σ H _ I h) λu s1 ⟨y,G,L,M,q⟩=>thn (A pins s1 σ G _ L q) λov s2 ⟨x,N,g,O,a,ex,j,k⟩=>?_) E;subst ex;cases(show ov=Value.ref a from O);obtain⟨ob,vs,t0,P,r,t,v,v0,Q⟩:=(g.hok a _ j).1;have J:InstAt s2.heap a ob C none:=⟨P,r,by unfold notCls;rw[v],by rw[t];trivial⟩
 refine zbZ g.kIn J F t λh' tk g1 g2 g3=>?_;have fr:s2.heap.get? s2.heap.objs.size=none:=ξS (ζp _);have i:N s2.heap.objs.size=none:=g.hok.fresh (ζp _);have l:s2.heap.objs.size≠a:=λz=>by rw[z,j]at i;cases i
 obtain⟨R,S,T,U⟩:=g.beyond w fr;have ex:excX C a s2.heap.objs.size h':=⟨_,vs,g1,r,rfl,v,Q⟩
 have V:=g.write (x:=a) (e:=a) (o:=.ext (excX C a s2.heap.objs.size)) (t':=tk) (h':=h') (by rw[j];trivial) (.inl rfl) g3 ⟨_,g1⟩ ⟨ex,⟨_,g1⟩,λh1 h2 ⟨o,vs,W,k⟩ Y=>⟨o,vs,Y o W,k⟩⟩;obtain⟨od,es,ep,Z,_⟩:=id g2;have I4:=V.trackO (a:=s2.heap.objs.size) (o:=.xd [(f,y)]) (ob:=od) Z (by rw[zk l];exact i) ⟨_,g2,λz=>?_⟩ R S T U
 ·exact⟨σ,_,I4,k _ i⟩
 ·by_cases m:z=f
  ·subst m;rw[if_pos rfl,List.lookup_cons_self];exact M
  ·have:(z==f)=false:=beq_eq_false_iff_ne.mpr m;rw[if_neg m,ξg,this];trivial
end
def untr(H:Hp)(a:Addr):Hp:=λb=>if b=a then none else H b
theorem wM{H:Hp}{a b:Addr}(h:b≠a):untr H a b=H b:=if_neg h
theorem zba{H:Hp}{a:Addr}:untr H a a=none:=if_pos rfl
theorem Xa{H:Hp}{a b:Addr}{o:HO}(h:untr H a b=some o):b≠a∧H b=some o:=by
 unfold untr at h;split at h
 ·cases h
 ·exact⟨by assumption,h⟩
section
variable {P:Program}{w:World}{H:Hp}{h:Heap}{a:Addr}{φ:Heap→Prop}
theorem HOk.cut(x:HOk P w H h)(e:H a=some (.ext φ)):HOk P w (untr H a) h:=λb o q=>by
 obtain⟨d,q⟩:=Xa q;exact(x b o q).stay (λ_ _ _ z=>z) (λc z=>by rw[wM (Xh z e (λy=>nomatch y))];exact z) (λc xs z=>by rw[wM (Xh z e (λy=>nomatch y))];exact z) λc ob u z _=>by rw[wM (Xh z e (λy=>nomatch y))];exact z
end
structure tw(P:Program)(w:World)(outer:List Env)(H:Hp)(s:Shared)(C a dx:Addr)(H':Hp)(B:Heap)(s':Shared):Prop where
 os:s'.os=s.os
 bare:AllBare s'.gens
 fl:FlyD B outer a (.ref C) .none (some dx) s'.heap
 old:∀b o,s.heap.get? b=some o→H b=none→b∉frs outer→B.get? b=some o
 slot:∀b o,s.heap.get? b=some o→H b=none→b∈frs outer→∃sl,s'.heap.get? b=some {o with slots:=sl}
 free:∀b o,s.heap.get? b=some o→H b=none→H' b=none
 there:∀b o,s.heap.get? b=some o→b∉frs outer→∃o',B.get? b=some o'
 tups:∀b xs,H b=some (.tup xs)→H' b=some (.tup xs)
 frzs:∀b o u,H b=some (.frz o u)→H' b=some (.frz o u)
 tbls:∀b ps,H b=some (.tbl ps)→∃more,H' b=some (.tbl (ps++more))
 trk:∀b o,H' b=some o→∃ob,B.get? b=some ob
 hok:HOk P w H' s'.heap
section
variable {P:Program}{w:World}{outer:List Env}{H H':Hp}{s s':Shared}{C a dx:Addr}{B:Heap}
theorem tw.next{g:Heap}{s5:Shared}(F:tw P w outer H s C a dx H' B s')(i:s5.heap=g)(os:s5.os=s'.os)(j:s5.gens=s'.gens)(x:FlyD B outer a (.ref C) .none (some dx) g)(u:s'.heap.UpToSlots g):tw P w outer H s C a dx H' B s5:=by
 subst i;refine⟨os.trans F.os,by rw[j];exact F.bare,x,F.old,λb o e n f=>?_,F.free,F.there,F.tups,F.frzs,F.tbls,F.trk,F.hok.keptT λb o v f e=>?_⟩
 ·obtain⟨sl,c⟩:=F.slot b o e n f;obtain⟨_,o',d,k⟩:=F.fl.fr.mem f;rw[c]at d;cases d;obtain⟨h,l⟩:=u b _ c k;exact⟨h,l⟩
 ·obtain⟨ob,c⟩:=F.trk b o f;have d:=F.fl.st b ob c;rw[e]at d;cases d;exact x.st b v c
theorem tw.un(F:tw P w outer H s C a dx H' B s'):Un (frs outer) [] H H' s.heap s'.heap where
 keep:=λb o e n c _=>F.fl.st b o (F.old b o e n c)
 slot:=λb o e n c _=>F.slot b o e n c
 free:=λb o e n _=>F.free b o e n
 there:=λb o e _=>by
  by_cases c:b∈frs outer
  ·obtain⟨_,o',d,_⟩:=F.fl.fr.mem c;exact⟨o',d⟩
  ·obtain⟨o',f⟩:=F.there b o e c;exact⟨o',F.fl.st b o' f⟩
 tups:=F.tups
 frzs:=F.frzs
 tbls:=F.tbls
end
def CXd(P:Program)(w:World):CXT:=λouter H s E e s'=>∃a C dx H' B,e=.ref a∧tw P w outer H s C a dx H' B s'∧E (.ref C) (some dx) H'
def za6(X:Cx)(E:XK):Prop:=∀(C dx:Addr) (pins:AL) (σ:St) (H:Hp) (s:Shared) (a:Addr),Inv X pins σ H s→H a=some (.ext (excX C a dx))→X.s₀.heap.get? a=none→E (.ref C) (some dx) (untr H a)→X.xe (.ref a) s
theorem Td{P:Program}{w:World}{K:Frag}{mg:AN}{base:Heap}{N:AJ}{qual:Str}{scope:Scope}{f:Addr}{cd:Value}{A:Around}{outer:List Env}{s:Shared}{H:Hp}{E:XK}:
  za6 (cxOf (CXd P w) P w K mg base N qual scope f cd A outer s H E) E:=by
 intro C dx pins σ x s1 a I j L M;let env:=envOfC qual scope s.heap.objs.size f cd;have k:(cxOf (CXd P w) P w K mg base N qual scope f cd A outer s H E).stack=env::outer:=rfl;have l:=I.stack;rw[k]at l;have free:=I.stkFree;rw[k]at free;have p:∀e∈env::outer,∀b,e.frame=some b→b∈a::frs (env::outer):=λe O b d=>ζb _ (ζ4.mpr ⟨e,O,d⟩);have c:∀b o,s1.heap.get? b=some o→b≠a→b∉frs (env::outer)→(hideAll s1.heap (a::frs (env::outer))).get? b=some o:=λb o e Q n=>hideAll_get _ e λz=>(ζq.mp z).elim Q n;have R:=funFrames_hide (as:=a::frs (env::outer)) l p;have g:frs (env::outer)=s.heap.objs.size::frs outer:=rfl;have r:∀b o,s.heap.get? b=some o→b≠s.heap.objs.size:=λb o e=>ζt (ζl e);have h:∀b o,s.heap.get? b=some o→b≠a:=λb o e z=>by rw[z]at e;exact absurd (e.symm.trans (show s.heap.get? a=none from L)) (λy=>nomatch y)
 have out:∀b o,s.heap.get? b=some o→b∉frs outer→b∉frs (env::outer):=λb o e d z=>by
  rw[g]at z;rcases ζq.mp z with z|z
  ·exact r b o e z
  ·exact d z
 obtain⟨oa,vs,i,S,T,U,D⟩:=(I.hok a _ j).1;have tk:∀b o,untr x a b=some o→∃ob,(hideAll s1.heap (a::frs (env::outer))).get? b=some ob:=λb o e=>by
  obtain⟨d,e⟩:=Xa e;obtain⟨ob,q⟩:=(I.hok b o e).get;refine⟨ob,c b ob q d λz=>?_⟩
  have:=free b z;rw[e]at this;cases this
 refine zbR (B:=hideAll s1.heap (a::frs (env::outer))) I.ok.frames R rfl i (λb o q=>of_hideAll _ q) (hideAll_none _ ζi) U D.1 ⟨S,T,D.2⟩ λY F V=>⟨a,C,dx,untr x a,_,rfl,⟨I.os,I.bare,F,λb o e n d=>?_,λb o e n d=>?_,λb o e n=>?_,λb o e d=>?_,λb xs e=>?_,λb o u e=>?_,λb ps e=>?_,tk,?_⟩,M⟩
 ·exact c b o (I.base.keep b o e n d (by intro z;cases z)) (h b o e) (out b o e d)
 ·obtain⟨sl,i⟩:=I.base.slot b o e n d (by intro z;cases z);have t:b∈frs (env::outer):=by rw[g];exact ζb _ d
  obtain⟨_,o',G,W⟩:=l.mem t;rw[i]at G;cases G;obtain⟨v,X⟩:=V b _ i W;exact⟨v,X⟩
 ·rw[wM (h b o e)];exact I.base.free b o e n (by intro z;cases z)
 ·obtain⟨o',i⟩:=I.base.there b o e (by intro z;cases z);exact⟨o',c b o' i (h b o e) (out b o e d)⟩
 ·have z:=I.base.tups b xs e;rw[wM (Xh z j (λy=>nomatch y))];exact z
 ·have z:=I.base.frzs b o u e;rw[wM (Xh z j (λy=>nomatch y))];exact z
 ·obtain⟨m,z⟩:=I.base.tbls b ps e;exact⟨m,by rw[wM (Xh z j (λy=>nomatch y))];exact z⟩
 ·refine(I.hok.cut j).keptT λb o u e q=>?_;obtain⟨ob,z⟩:=tk b o e;have J:=of_hideAll _ z;rw[q]at J;cases J;exact F.st b u z
def Few(ns:AE):Prop:=ns.length≤63∧∀n∈ns,0≤n∧n<64
theorem zas{ns:AE}(h:Few ns):(PyData.list (ns.map PyData.int)).showable=true∧(PyData.list (ns.map PyData.int)).hasDict=false∧(PyData.list (ns.map PyData.int)).leavesShort 8=true∧(PyData.list (ns.map PyData.int)).bulk=ns.length∧(PyData.list (ns.map PyData.int)).depth≤1:=by
 obtain⟨_,h⟩:=h;have d:∀n:Nat,n<64→(decide ((n:Int).natAbs.log2<1920)&&decide ((PyData.shown (.int (n:Int))).length≤8))=true:=by decide +kernel
 have e:∀n:Int,0≤n∧n<64→(PyData.int n).showable=true∧(PyData.int n).leavesShort 8=true:=λn j=>by
  obtain⟨m,rfl⟩:∃m:Nat,n=m:=⟨n.toNat,⋯⟩
  have z:=d m ⋯;rw[ζ3]at z;exact⟨by simpa[PyData.showable]using z.1,by simpa[PyData.leavesShort]using z.2⟩
 have f:∀l:AE,(∀n∈l,0≤n∧n<64)→PyData.showableAll (l.map PyData.int)=true∧PyData.hasDictAll (l.map PyData.int)=false∧PyData.leavesShortAll 8 (l.map PyData.int)=true∧PyData.bulkAll (l.map PyData.int)=l.length∧PyData.depthAll (l.map PyData.int)=0:=by
  intro l;induction l with
  | nil=>intro _;exact⟨rfl,rfl,rfl,rfl,rfl⟩
  | cons n l g =>
   intro c;obtain⟨i1,i2,i3,a,b⟩:=g λx i=>c x (ζb _ i);obtain⟨s1,s2⟩:=e n (c n ζi);refine⟨?_,?_,?_,?_,?_⟩
   ·simp only[List.map_cons,PyData.showableAll,s1,i1,Bool.and_self]
   ·simp only[List.map_cons,PyData.hasDictAll,PyData.hasDict,i2,Bool.or_self]
   ·simp only[List.map_cons,PyData.leavesShortAll,s2,i3,Bool.and_self]
   ·simp only[List.map_cons,PyData.bulkAll,PyData.bulk,a,List.length_cons];omega
   ·simp only[List.map_cons,PyData.depthAll,PyData.depth,b,Nat.max_self]
 obtain⟨i1,i2,i3,a,b⟩:=f ns h;exact⟨by simpa only[PyData.showable]using i1,by simpa only[PyData.hasDict]using i2,by simpa only[PyData.leavesShort]using i3,by simpa only[PyData.bulk]using a,by simp only[PyData.depth,b];omega⟩
theorem Xo{h:Heap}:∀{ns:AE} {a:AK},Vals (ns.map V.int) a→ReadsAll h a (ns.map PyData.int) []
 | [],_,r=>by cases r;exact .nil
 | n::ns,_,r=>by
  cases r with
  | cons b c =>
   obtain⟨t,rfl⟩:=b;exact .cons (as:=[]) (bs:=[]) (.int n t) (Xo c)
theorem Wl(a b:Str):(a++b).length=a.length+b.length:=by
 show(a.cps++b.cps).size=_;exact Array.size_append
section
variable {X:Cx}{e:Expr}{te:TE}{c:Str}{kk:Nat}{p1 p2 pos:Pos}{k:Nat}
def tFs(K:Frag)(te:TE):TE:=λσ H Q=>te σ H λx H1=>∃a ns,x=.ref a∧SqL K H1 a (ns.map .int)∧Few ns∧∀y,Q (.str y) H1
theorem zbE(g:Room k X.A)(v:PE X e te)(R:c.length≤1000):PE X (.JoinedStr [.Constant (.str c) kk p1,.FormattedValue e 114 none p2] pos) (tFs X.K te):=by
 intro pins s σ H Q I h;refine wpAny_JoinedStr ?_;refine Calls.Constant_str ⟨c,_,rfl,?_,?_⟩
 ·rw[Wl];show 0+c.length≤sizeLine;rw[sizeLine_eq];omega
 refine wpAny_FormattedValue_repr (thn (v pins _ σ H _ (I.tok _) h) λu s1 ⟨x,C,i,r,a,ns,ex,hq,f,q⟩=>?_);subst ex;cases(show u=Value.ref a from r);obtain⟨D,E,⟨o,n,F,G,_,J⟩,_⟩:=i.list hq;obtain⟨L,M,j,l,S⟩:=zas f;have N:Reads s1.heap (.ref a) (.list (ns.map .int)) [a]:=.list F G J (Xo E);have un:=g.units;have sz:(PyData.list (ns.map PyData.int)).shown.length≤sizeLine:=PyData.shown_fits_bulk (B:=8) #[2] #[2] j (by rw[l];have:=f.1;omega);refine pyReprObj_of_reads N L (λz=>by rw[M]at z;cases z) g.gd ⋯ (λ_ _ z=>z) (λh' T tk kp=>?_) sz;have O:=PyData.shown_le_bulk 8 #[2] _ j;rw[l]at O;have m:(Str.empty++c++(PyData.list (ns.map PyData.int)).shown).length≤sizeLine:=by
  rw[Wl,Wl];show 0+c.length+_≤sizeLine;have:=f.1;rw[sizeLine_eq];omega
 have d:∀t p,∃y P,Value.str (PyData.list (ns.map PyData.int)).shown t=Value.str y P∧(Str.empty++c++y).length≤sizeLine∧Joins (model X.prog X.w) X.A X.xe (evalEach [] X.env) (Str.empty++c++y)
   (λout b=>out.length≤sizeLine∧EP X pins σ Q (Value.str out b.toks) {b with toks:=b.toks+1}) {s1 with heap:=h',toks:=p}:=λt p =>
  ⟨_,t,rfl,m,m,.str _,C,i.kept kp,⟨_,rfl⟩,q _⟩
 exact wpAny_formatField_str (d _ _) (d _ _) sz
end
def spRi(K:Frag)(C:Addr):Sp:=λvs H Q _=>∃a r ns,vs=[.ref a,.ref r]∧H a=some (.ext (excR C a))∧SqL K H r (ns.map .int)∧Few ns∧
 ∀L dx,H L=none→H dx=none→L≠dx→Q .non (upd (upd (upd H L (.lst (ns.map .int))) a (.ext (excX C a dx))) dx (.xd [("ring", .ref L)]))
theorem Qs{K:Frag}{C:Addr}{vs:List V}{H:Hp}{Q:VK}{E:XK}(h:spRi K C vs H Q E):vs.length=2:=by
 obtain⟨_,_,_,rfl,_⟩:=h;rfl
theorem zbn{K:Frag}{C:Addr}{vs:List V}{H:Hp}{Q:VK}{E:XK}(h:spRi K C vs H Q E):
  tSeq (zcv C (zF (tVar 0) (zF (tFs K (tVar 1)) tNil))) (tSeq (zcs C "ring" (tVar 0) (tCB (λxs H Q=>∃p ys,xs=[.ref p]∧(SqL K H p ys∨SqT K H p ys)∧∀l,H l=none→Q (.ref l) (upd H l (.lst ys))) (zF (tVar 1) tNil))) Xb)
   {nx:=λ_ H'=>Q .non H',rt:=Q} (yM (["self","ring"]:AJ) vs) H:=by
 obtain⟨a,r,ns,rfl,b,hq,d,k⟩:=h;refine⟨.ref a,rfl,.ref r,rfl,r,ns,rfl,hq,d,λy=>⟨a,y,rfl,b,?_⟩⟩
 refine⟨.ref r,rfl,r,_,rfl,.inl hq,λL c=>⟨.ref a,rfl,a,rfl,?_,λdx hd=>?_⟩⟩
 ·rw[zk (zt b c)];exact b
 ·have nd:dx≠L:=λz=>by rw[z,zm]at hd;cases hd
  exact k L dx c (by rw[zk nd]at hd;exact hd) (Ne.symm nd)
section
variable {X:Cx}{E:XK}{x:Str}{C fI:Addr}{fd:FuncData}{k:Nat}{e0:Expr}{es:List Expr}{ta:TA}{np cpos pos:Pos}
def Ug(K:Frag)(C:Addr)(E:XK)(ta:TA):TS:=λ_ σ H=>ta σ H λvs H1=>∃r ns,vs=[.ref r]∧SqL K H1 r (ns.map .int)∧Few ns∧
 ∀L dx,H1 L=none→H1 dx=none→L≠dx→E (.ref C) (some dx) (upd (upd H1 L (.lst (ns.map .int))) dx (.xd [("ring", .ref L)]))
theorem Te(hX:za6 X E)(O:RCl X.K C fI)(kp:keepIn X.K (.ref C)=true)(F:FnOk X.prog X.w X.K X.mg X.base CX0 k fI fd ["self","ring"] (spRi X.K C))(f:ud X.K fd ["self","ring"] [])(hf:∃oI,X.K.lookup fI=some oI∧oI.cls=.type "function")
  (hr:Room (k+1) X.A) (hx:X.ex=[]) (hy:X.mg x=some (.ref C)) (hc:X.calm=true) (hg:Gl X x) (ha:PA X (e0::es) ta) (M:(x==("__debug__" : Str))=false:=by decide)
  (he:starEach (e0::es) X.env=(false,eval e0 X.env)::starEach es X.env:=by rfl) (P:(backTo cpos (starEach es X.env)).any (·.1)=false:=by rfl) :
  PS X (.Raise (some (.Call (.Name x np) (e0::es) [] cpos)) none pos) (Ug X.K C E ta):=by
 intro pins s σ H D I h;rw[arm_exec_Raise];simp only[evalOpt,Option.map];refine AA (wpAny_standAt (zbp O.e.g7 O.t (I.ok.hd hc) ?_));refine AA (wpAny_mono ?_ (λv s1 z=>AA (wpAny_standAt (AB z))) λ_ _ z=>z);refine wpAny_Call_Name_kw (wm I hg hy ?_ M);refine callWith_K (h₀:=X.base) I.ok.mod.kin kp (thn (ha cpos pins s σ H _ I h) λus s1 ⟨vs,c,i,r,q⟩=>⟨i.kIn,?_⟩) he P;obtain⟨Q,ns,rfl,hq,fw,R⟩:=q;obtain⟨bm,N,nm,qn,bs,u1,u2,u3,u4,u5,u6,k0,k1,k2,k3,k5,mN,hC,hN,hi,T⟩:=Yx i.kIn O.q;obtain⟨oI,lk,fc⟩:=hf;have lu:us.length=1:=r.length.symm;have fo:=i.kIn _ _ lk;obtain⟨hp,g,d,t,os⟩:=s1;refine TZ ξQ T hC hN hi fo fc (by rw[List.nil_append,lu,sizeLine_eq];decide) λh' e y=>?_;obtain⟨S,o1,_,_⟩:=y.there;obtain⟨b1,b2,b3,b4⟩:=i.beyond hx y.new;have B:c e=none:=by
  cases z:c e with
  | none=>rfl
  | some o =>
   obtain⟨ob,z'⟩:=(i.hok e o z).get;rw[y.new]at z';cases z'
 have I2:Inv X pins σ c ⟨h',g,d,t,os⟩:=i.kept (t':=t) y.keeps;have U:=I2.track (a:=e) (φ:=excR C e) o1 B ⟨_,_,S,o1,rfl,rfl,rfl,rfl,rfl,rfl⟩ (λh1 G ⟨o,vs,S,V,W⟩ R=>⟨o,vs,S,R o V,W⟩) b1 b2 b3 b4;have Y:SqL X.K (upd c e (.ext (excR C e))) Q (ns.map .int):=by
  rcases hq with z|z
  ·refine .inl ?_;rcases z with z|⟨o,z⟩
   ·exact .inl (by rw[zk (zt z B)];exact z)
   ·exact .inr ⟨o,by rw[zk (zt z B)];exact z⟩
  ·exact .inr z
 have bt:=f ⟨h',g,d,t,os⟩ (Value.ref e::us) U.kIn (by rw[ζx,ζZ,lu];rfl);rw[ζx]at bt
 refine wpAny_call (codeAny_mono (F.run _ X.stack _ _ ⟨Value.ref e::us,[]⟩ (Value.ref e::us) [.ref e,.ref Q] (λv m=>v=.non∧∃L dx,c L=none∧c dx=none∧L≠dx∧L≠e∧dx≠e∧m=upd (upd (upd (upd c e (.ext (excR C e))) L (.lst (ns.map .int))) e (.ext (excX C e dx))) dx (.xd [("ring", .ref L)])) E0
  (hr.make C us []) (U.env0.make C us []) bt (.cons rfl r) ⟨e,Q,ns,rfl,zm,Y,fw,λL dx j l Z=>?_⟩) λrs s' n=>?_)
 ·have J:L≠e:=λz=>by rw[z,zm]at j;cases j
  have p:dx≠e:=λz=>by rw[z,zm]at l;cases l
  rw[zk J]at j;rw[zk p]at l;exact⟨rfl,L,dx,j,l,Z,J,p,rfl⟩
 cases rs with
 | error e'=>exact False.elim n
 | ok fl =>
  cases fl with
  | next=>exact False.elim n
  | brk=>exact False.elim n
  | cont=>exact False.elim n
  | ret u =>
   obtain⟨v,m,I4,rv,ev,L,dx,j,l,Z,J,p,eH⟩:=U.after n;subst ev;have ea:m e=some (.ext (excX C e dx)):=by rw[eH,zk (Ne.symm p),zm]
   obtain⟨o,vs,V,W,q3,q4,q5⟩:=(I4.hok e _ ea).1;refine⟨rv,e,o,vs,rfl,I4.kIn,V,W,q4,q5.1,hX C dx pins σ m s' e I4 ea b1 ?_⟩
   have eC:untr m e=upd (upd c L (.lst (ns.map .int))) dx (.xd [("ring", .ref L)]):=by
    funext b;by_cases f:b=e
    ·rw[f,zba,zk (Ne.symm p),zk (Ne.symm J),B]
    ·rw[wM f,eH];by_cases G:b=dx
     ·rw[G,zm,zm]
     ·rw[zk G,zk G,zk f];by_cases h3:b=L
      ·rw[h3,zm,zm]
      ·rw[zk h3,zk h3,zk f]
   rw[eC];exact R L dx j l Z
end
def ZXd(X:Cx)(pins:AL)(σ:St)(E:XK):Value→Shared→Prop:=λe' s'=>∃H1 s1,Inv X pins σ H1 s1∧CXd X.prog X.w X.stack H1 s1 E e' s'
def PXd(X:Cx)(e:Expr)(te:XK→TE):Prop:=∀(pins:AL) (s:Shared) (σ:St) (H:Hp) (Q:VK) (E:XK),Inv X pins σ H s→te E σ H Q→wpAny (model X.prog X.w) X.A (eval e X.env) (EP X pins σ Q) (ZXd X pins σ E) s
def eHd(C:Addr)(i:Nat)(th:Addr→TS)(D:Ends)(σ:St):XK:=λc o H2=>c=.ref C∧∃dx,o=some dx∧
 ∀a,H2 a=none→th a {nx:=λσ3 H3=>D.nx (σ3.set i none) H3,rt:=D.rt,bk:=λσ3 H3=>D.bk (σ3.set i none) H3,ct:=λσ3 H3=>D.ct (σ3.set i none) H3} (σ.set i (some (.ref a))) (upd H2 a (.ext (excD C a dx)))
section
variable {X:Cx}{k:Nat}{y n:Str}{np epos hpos tpos:Pos}{e tg:Expr}{te:XK→TE}{g:TG}{C D:Addr}{i:Nat}{b0:Stmt}{bs suite:List Stmt}{th:Addr→TS}
theorem Qf{pins:AL}{s:Shared}{σ:St}{H:Hp}{O:Ends}(I:Inv X pins σ H s)(W:wpAny (model X.prog X.w) X.A (execs bs X.env) (SP X pins O) (ZXd X pins σ (eHd C i th O σ)) s)(G:X.stack=X.env::X.outer)(Z:X.env.frame=some X.env.locals)(a0:X.ex=[])
  (hy:X.mg y=some (.ref D)) (a1:Gl X y) (m1:mroIn X.K C (.ref D)=some true) (m2:mroIn X.K D (.type "BaseException")=some true) (m3:typeIn X.K (.ref D)=some (.type "type"))
  (hN:X.N.Nodup) (hi:X.N[i]?=some n) (f:X.env.scope.names.lookup n=some .local) (a2:∀a,X.s₀.heap.get? a=none→a≠X.env.locals→(∀x c,X.env.cells.lookup x=some c→c≠a)→PSs (X.inH a) (b0::suite) (th a)) (a3:(y==("__debug__" : Str))=false:=by decide) :
  wpAny (model X.prog X.w) X.A (exec (.Try bs [.ExceptHandler (some (.Name y np)) (some n) (b0::suite) hpos] [] [] tpos) X.env) (SP X pins O) X.xe s:=by
 refine wpAny_Try_except ?_;refine wpAny_mono W (λfl s1 z=>?_) λe' s' z=>?_
 ·cases fl with
  | next=>exact wpAny_execs_nil z
  | brk=>exact z
  | cont=>exact z
  | ret u=>exact z
 obtain⟨H1,s1,L,a,C',dx,Y,B,rfl,FL,hc,a6,ed,hh⟩:=z;cases hc;cases ed;have P:=FL.fl;rw[G]at P;refine Q1 (G ▸ I.ok.frames) Z P λh4 Q u4=>?_;refine ZU (s:={s' with heap:=h4}) Q λh5 p u5=>?_;rw[←G]at p;have g:=FL.next (s5:={s' with heap:=h5}) rfl rfl rfl p (u4.trans u5);have I5:Inv X pins σ Y {s' with heap:=h5}:=L.call' g.os g.un g.hok g.bare (ch:=[]) (λ_ z=>nomatch z);refine wpAny_handleBy_cons (codeAny_handlers_test (wm (X:=X.inH a) (I5.inH a) a1 hy ?_ a3)) (by intro z;cases z);obtain⟨o5,_,e5,c5,_⟩:=p.there;refine ZM I5.kIn e5 c5 m1 m2 m3 (codeAny_handlers_suite_as ?_);refine ZU (s:={s' with heap:=h5}) p λh6 r u6=>?_;have e:=g.next (s5:={s' with heap:=h6}) rfl rfl rfl r u6;have R:Inv X pins σ Y {s' with heap:=h6}:=L.call' e.os e.un e.hok e.bare (ch:=[]) (λ_ z=>nomatch z);obtain⟨o6,ws,e6,c6,d6,wd,w2⟩:=r.there;have nB:B.get? a=none:=r.no;have nH:Y a=none:=by
  cases z:Y a with
  | none=>rfl
  | some u =>
   obtain⟨ob,z'⟩:=e.trk a u z;rw[nB]at z';cases z'
 have we:=e6;have d:s1.heap.get? a=none:=by
  cases z:s1.heap.get? a with
  | none=>rfl
  | some u =>
   by_cases W:a∈frs X.stack
   ·obtain⟨_,o',j,z2⟩:=r.fr.mem W;rw[we]at j;cases j;exact absurd wd (z2 ws)
   ·obtain⟨o',j⟩:=e.there a u z W;rw[nB]at j;cases j
 have E:X.s₀.heap.get? a=none:=by
  cases z:X.s₀.heap.get? a with
  | none=>rfl
  | some u =>
   obtain⟨o',j⟩:=L.base.there a u z (by rw[a0];intro z;cases z);rw[d]at j;cases j
 have S:a≠X.env.locals:=λz=>by
  obtain⟨m,⟨o,_,_,F,_⟩,_⟩:=id L.loc;rw[←z,d]at F;cases F
 have T:∀x c,X.env.cells.lookup x=some c→c≠a:=λx c ec z=>by
  obtain⟨v,o,F,_⟩:=L.cell x c ec;rw[z,d]at F;cases F
 have a4:∀q∈X.pn++pins,q.1≠a:=λq hq z=>by
  have F:=(L.pin q hq).1;rw[z,d]at F;cases F
 have a5:=R.track (φ:=excD C a dx) e6 nH ⟨o6,ws,e6,c6,d6,wd,w2⟩ (λh1 h2 ⟨o,ws,j,z2⟩ k=>⟨o,ws,k o j,z2⟩) E S T a4;refine tF (X:=X.inH a) (v:=.ref a) (a5.inH a) hN hi (.inl f) rfl (λs7 I7=>?_) (.inr f);refine wpAny_mono (a2 a E S T pins s7 _ _ _ I7 (hh a nH)) (λfl s8 q=>?_) λ_ _ z=>z.elim;have U:(X.env.scope.kind==.class||(X.env.scope.kind==.module&&X.env.locals != X.env.globals))=false:=by rw[I.ok.kind];rfl
 have t:∀b h,Inv X pins b h s8→(∀M,Inv X pins (b.set i none) h M→SP X pins O fl M)→wpAny (model X.prog X.w) X.A (do bindName X.env n Value.none;unbindBehindTheSuite X.env n hpos) (λ_ V=>SP X pins O fl V) X.xe s8:=λb h l k=>by
  obtain⟨m,hm,hl⟩:=id l.loc;exact zcO f hm U λh' v n1 s1=>k _ (l.gone hi hN hm hl n1 s1)
 cases fl with
 | next=>obtain⟨b,h,l,z⟩:=q;exact t b h (l.outH R.ok) λM J=>⟨_,_,J,z⟩
 | brk=>obtain⟨b,h,l,z⟩:=q;exact t b h (l.outH R.ok) λM J=>⟨_,_,J,z⟩
 | cont=>obtain⟨b,h,l,z⟩:=q;exact t b h (l.outH R.ok) λM J=>⟨_,_,J,z⟩
 | ret u=>obtain⟨v,b,h,l,rv,z⟩:=q;exact t b h (l.outH R.ok) λM J=>⟨v,_,_,J,rv,z⟩
def zcp(te:XK→TE)(g:TG)(C:Addr)(i:Nat)(th:Addr→TS):TS:=λD σ H=>te (eHd C i th D σ) σ H λv H'=>g v σ H' D.nx
theorem zbr(p:PXd X e te)(r:PG X tg g)(d:X.stack=X.env::X.outer)(f:X.env.frame=some X.env.locals)(j:X.ex=[])(k:∀e s,¬X.xe e s)
  (t:X.mg y=some (.ref D)) (l:Gl X y) (u:mroIn X.K C (.ref D)=some true) (w:mroIn X.K D (.type "BaseException")=some true) (A:typeIn X.K (.ref D)=some (.type "type"))
  (B:X.N.Nodup) (hi:X.N[i]?=some n) (b:X.env.scope.names.lookup n=some .local) (m:∀a,X.s₀.heap.get? a=none→a≠X.env.locals→(∀x c,X.env.cells.lookup x=some c→c≠a)→PSs (X.inH a) (b0::suite) (th a))
  (o:(y==("__debug__" : Str))=false:=by decide) (E:swapsWithSole [tg] e epos.line X.env=pure false:=by rfl) (F:swappedStores [tg] e X.env=pure none:=by rfl)
  (G:(assignEach [tg] X.env).map (·.2)=[assign tg X.env]:=by rfl) :
  PS X (.Try [.Assign [tg] e epos] [.ExceptHandler (some (.Name y np)) (some n) (b0::suite) hpos] [] [] tpos) (zcp te g C i th):=by
 intro pins s σ H Q I h;refine Qf I ?_ d f j t l u w A B hi b m o;refine wpAny_execs_cons (wpAny_Assign_stores (wpAny_mono (p pins s σ H _ _ I h) (λv s1 ⟨x,J,L,M,O⟩=>?_) λ_ _ z=>z) E F);rw[G];refine wpAny_mono (r pins s1 σ J x v _ L M O) (λ_ s2 q=>?_) λP s' z=>absurd z (k P s');exact wpAny_execs_nil q
theorem QM{ps:AJ}{sp:Sp}{x:Str}{p a:Pos}{b:List Expr}{j:TA}(o:zE X.prog X.w X.K X.mg X.base (CXd X.prog X.w) x ps k sp)(t:Room k X.A)(v:Gl X x)(y:PA X (e::b) j)(d:∀e s,¬X.xe e s)
  (g:(x==("__debug__" : Str))=false:=by decide) (B:starEach (e::b) X.env=(false,eval e X.env)::starEach b X.env:=by rfl) (i:(backTo a (starEach b X.env)).any (·.1)=false:=by rfl) :
  PXd X (.Call (.Name x p) (e::b) [] a) λE=>y8 sp [] E j:=by
 intro pins s σ H Q E I h;obtain⟨f,fd,F,C,D,G⟩:=o.ex;refine wpAny_Call_Name_kw (wm I v C ?_ g);refine callWith_K (h₀:=X.base) I.ok.mod.kin D ?_ B i;refine wpAny_mono (y a pins s σ H _ I h) (λus s1 q=>?_) λl s' z=>absurd z (d l s');obtain⟨vs,m,c,r,q⟩:=q;refine⟨c.kIn,?_⟩
 rw[ζx]at q;have J:us.length=ps.length:=by rw[←r.length];exact F.len _ _ _ _ q
 have n:=G s1 us c.kIn (by rw[ζx];exact J);rw[ζx]at n;refine wpAny_call (codeAny_mono (F.run X.A X.stack s1 m ⟨us,[]⟩ us vs _ _ t c.env0 n r q) λL s' hq=>?_);cases L with
 | ok fl =>
  cases fl with
  | ret u=>exact c.after hq
  | next=>exact False.elim hq
  | brk=>exact False.elim hq
  | cont=>exact False.elim hq
 | error l=>exact⟨m,s1,c,hq⟩
def tAtX(K:Frag)(f:Str)(te:TE):TE:=λσ H Q=>te σ H λx H1=>∃a C dx v,x=.ref a∧EIs K C∧ESet K C f∧H1 a=some (.ext (excD C a dx))∧H1 dx=some (.xd [(f,v)])∧(∃b,v=.ref b)∧Q v H1
theorem zdg{te:TE}{f:Str}{d:Pos}(j:PE X e te)(k:attributeBase e f X.env (eval e X.env)=eval e X.env:=by rfl):PE X (.Attribute e f d) (tAtX X.K f te):=by
 intro pins s σ H Q I h;refine zcj k (thn (j pins s σ H _ I h) λu s1 ⟨x,l,c,m,a,C,dx,v,ex,n,p,r,t,⟨b,w⟩,q⟩=>?_);subst ex w;cases(show u=Value.ref a from m);obtain⟨o,vs,y,o2,A,B,_⟩:=(c.hok a _ r).1;obtain⟨g,D,E⟩:=c.hok dx _ t;obtain⟨od,F,G⟩:=Tn D;have J:InstAt s1.heap a o C (some od):=⟨y,o2,by unfold notCls;rw[B],by rw[A];exact F⟩
 have z:=E f;rw[List.lookup_cons_self]at z;have mv:g f=some (.ref b):=by
  cases i:g f with
  | none=>rw[i]at z;exact z.elim
  | some L=>rw[i]at z;exact congrArg some z
 exact zb0 c.kIn J n p (by rw[G,mv]) rfl ⟨.ref b,l,c.tok _,rfl,q⟩
def QJ(K:Frag):List V→Hp→VK→Prop:=λxs H Q=>∃a C dx c cv b,xs=[.ref a,c]∧H a=some (.ext (excD C a dx))∧EIs K C∧clsV c=some cv∧kitOne K (.ref C) cv=some b∧Q (.bl b) H
theorem YI:yo X (.builtin "isinstance") (QJ X.K):=by
 intro pins s σ H xs us Q I r h;obtain⟨a,C,dx,c,g,b,rfl,i,e,d,j,q⟩:=h;obtain⟨u,v,rfl,k,f⟩:=r.two;cases(show u=Value.ref a from k);have l:v=g:=by
  cases c with
  | ref c=>cases d;exact f
  | ty t=>cases d;exact f
  | _=>cases d
 subst l;obtain⟨o,vs,m,o2,_⟩:=(I.hok a _ i).1;exact kia_one (W9 e) I.kIn ⟨o,m,o2⟩ j (λz=>nomatch z) λtk=>⟨.bl b,H,I.tok tk,rfl,q⟩
end
end L2
namespace L2
open PySem PySem.Spec PyProof.Rows
section
variable {P:Program}{w:World}{K:ζa}{mg:AN}{base:Heap}
theorem Fun.okXd{x qual:Str}{st:Stmt}{f:Addr}{fd:FuncData}{N ps:AJ}{k:Nat}{sp:Sp}(F:Fun K x qual st f fd)(S:zJ N ps (zr st))(len:∀vs H Q E,sp vs H Q E→vs.length=ps.length)
  (c:∀(cdv:Value) (A:Around) (outer:List Env) (s:Shared) (H:Hp) (vs:List V) (Q:VK) (E:XK),Room k (A.deeper (envOfC qual (zr st) s.heap.objs.size f cdv))→sp vs H Q E→
   ∃t,PSs (cxOf (CXd P w) P w K mg base N qual (zr st) f cdv A outer s H E) (xk st) t∧t {nx:=λ_ H'=>Q .non H',rt:=Q} (yM N vs) H):FnOk P w K mg base (CXd P w) (k+1) f fd ps sp:=by
 obtain⟨oc,od,kV,doc,pm,an,cdv,ct,osl,rfl,d,a⟩:=F.ex;exact zaq d a S len λA outer s H vs Q E e b=>c cdv A outer s H vs Q E e b
theorem YH{x:Str}{st:Stmt}{f:Addr}{fd:FuncData}{ps:AJ}{k:Nat}{sp:Sp}(F:Fun K x x st f fd)(a:mg x=some (.ref f))(b:ud K fd ps [])(G:FnOk P w K mg base (CXd P w) k f fd ps sp):zE P w K mg base (CXd P w) x ps k sp:=⟨f,fd,G,a,F.kp,b⟩
end
end L2
namespace PD
open PySem L2
section
variable {K:ζa}{S S':Sx}{κ κ':Bool}{Γ Γ' Γ'':Ctx}{P:Post}{E:XK}{C:Addr}{ns:AE}
def rgP(K:ζa)(C:Addr)(ns:AE):Hp→V→Prop:=λF v=>∃a dx L,v=.ref a∧F a=some (.ext (excD C a dx))∧F dx=some (.xd [("ring", .ref L)])∧Dp K F (.ref L) (.list (ns.map .int))
theorem rgP.mono{F F':Hp}{v:V}(h:rgP K C ns F v)(s:Same F F'):rgP K C ns F' v:=by
 obtain⟨a,dx,L,rfl,b,c,d⟩:=h;exact⟨a,dx,L,rfl,s _ _ b,s _ _ c,wq s d⟩
def RgD(K:ζa)(ns:AE)(F:Hp)(dx:Addr):Prop:=∃L,F dx=some (.xd [("ring", .ref L)])∧Dp K F (.ref L) (.list (ns.map .int))
def spRg(K:ζa)(pre:AG→AE→Prop)(C:Addr):Sp:=λvs H _ E=>∃F ds ns,Same F H∧zV K F vs ds∧pre ds ns∧∀H' F' dx,Gr H F H' F'→RgD K ns F' dx→E (.ref C) (some dx) H'
theorem Z8{pre:AG→AE→Prop}{n:Nat}(h:∀ds ns,pre ds ns→ds.length=n){vs:List V}{H:Hp}{Q:VK}(s:spRg K pre C vs H Q E):vs.length=n:=by
 obtain⟨F,ds,ns,_,k,p,_⟩:=s;rw[zV.length k];exact h ds ns p
def ExR(K:ζa)(E:XK)(C:Addr)(ns:AE)(t:TS)(Γ:Ctx):Prop:=∀(H0 F0 H F:Hp) (σ:St),DEnv K .fresh H0 F0 H F σ Γ→(∀H1 F1 dx,Gr H0 F0 H1 F1→RgD K ns F1 dx→E (.ref C) (some dx) H1)→∀D:Ends,t D σ H
theorem TB{b:TA}(h:EvA K .fresh false b Γ [.list (ns.map .int)])(d:Few ns):ExR K E C ns (Ug K C E b) Γ:=λH0 F0 H F σ e k _ =>
 h H0 F0 H F σ e _ λvs f q g p=>by
  cases p with
  | cons i j =>
   cases j;obtain⟨r,xs,rfl,l,m⟩:=uV i;cases yd (zI m);refine⟨r,ns,rfl,g.le.seq l.sq,d,λL dx n o c=>?_⟩
   have a:upd f L (.lst (ns.map .int)) dx=none:=by rw[zk (Ne.symm c)];exact o
   have g1:=Gr.new g.le n (.lst (ns.map V.int));have g2:=Gr.new g1.le a (.xd [("ring", .ref L)]);refine k _ _ dx (e.gr.trans (g.trans (g1.trans g2))) ⟨L,zm,.lst (SqL.of ?_) (tm ns)⟩;rw[zk c,zm]
theorem uk{t u:TS}(N:Ctx→Prop)(a:ExS K .fresh t Γ {nx:=N,rt:=λ_=>False})(b:∀Γ',N Γ'→ExR K E C ns u Γ'):ExR K E C ns (tSeq t u) Γ:=λH0 F0 H F σ e k D =>
 a H0 F0 H F σ F e (.refl _) (.inl rfl) _ ⟨λΓ' σ' H' F' n _ c=>b Γ' n H0 F0 H' F' σ' c k D,λ_ _ _ _ z=>z.elim,λ_ _ _ _ z=>z.elim,λ_ _ _ _ z=>z.elim⟩
theorem um{t u:TS}(h:ExR K E C ns t Γ):ExR K E C ns (tSeq t u) Γ:=λH0 F0 H F σ e k _=>h H0 F0 H F σ e k _
theorem zdC{c:TT}{t u:TS}{b:Bool}(a:EvT K .fresh c Γ b)(d:b=true)(h:ExR K E C ns t Γ):ExR K E C ns (tIfS c t u) Γ:=λH0 F0 H F σ e k _ =>
 a H0 F0 H F σ e _ λf i g=>by
  subst d;exact iteT (h H0 F0 f i σ (e.mono g) k _)
theorem Tz{c:TT}{tb:TS}(j:Nat→Ctx→Prop)(w:Nat)(y:j w Γ)
  (A:∀m Γ',j m Γ'→∃b,EvT K .fresh c Γ' b∧b=true∧(ExS K .fresh tb Γ' {nx:=λf=>∃d,d<m∧j d f,rt:=λ_=>False,ct:=λf=>∃d,d<m∧j d f}∨ExR K E C ns tb Γ')):ExR K E C ns (VA c tb) Γ:=λH0 F0 H F σ e k D=>by
 refine⟨λm g q=>∃h r,j m h∧DEnv K .fresh H0 F0 q r g h,⟨w,Γ,F,y,e⟩,?_⟩
 rintro m g q ⟨h,r,B,s⟩;obtain⟨b,G,I,o⟩:=A m h B;refine G H0 F0 q r g s _ λx t g3=>?_;subst I;refine iteT ?_;rcases o with o|o
 ·exact⟨λi u=>∃d,d<m∧∃a p,j d a∧DEnv K .fresh H0 F0 u p i a,λ_ _ z=>z,o H0 F0 x t g t (s.mono g3) (.refl _) (.inl rfl) _ ⟨λa i u p ⟨d,l,n⟩ _ v=>⟨d,l,a,p,n,v⟩,λ_ _ _ _ z=>z.elim,λ_ _ _ _ z=>z.elim,λa i u p ⟨d,l,n⟩ _ v=>⟨d,l,a,p,n,v⟩⟩⟩
 ·exact⟨λ_ _=>False,λ_ _ z=>z.elim,o H0 F0 x t g (s.mono g3) k _⟩
theorem Qx{t:TS}{N:AJ}{n:Nat}{H F:Hp}{vs:List V}{ds:AG}{D:Ends}(le:Same F H)(k:zV K F vs ds)(q:∀H' F' dx,Gr H F H' F'→RgD K ns F' dx→E (.ref C) (some dx) H')(b:N.length=n)(a:y0 n ds Γ)(h:ExR K E C ns t Γ):t D (L2.yM N vs) H:=by
 have e:=xj (N:=N) le k;rw[b,a.eq]at e;exact h H F H F _ e q D
theorem zb2{pre:AG→AE→Prop}{p:TA}{ds:AG}{i j:Nat}{q:TS}(h:EvA K S false p Γ ds)(hp:pre ds ns)(u:SetC Γ i (some (.xp (rgP K C ns))) Γ')
  (k:ExS K S q Γ' {nx:=λc=>P.nx (c.set i none),rt:=P.rt,bk:=λc=>P.bk (c.set i none),ct:=λc=>P.ct (c.set i none),kr:=P.kr}):ExS K S (zcp (λE=>y8 (spRg K pre C) [] E p) (yt j) C i λ_=>q) Γ P:=λH0 F0 H F σ B e w _ D I =>
 h H0 F0 H F σ e _ λvs N y g1 A=>⟨y,ds,ns,g1.le,by rw[ζx];exact zI A,hp,λr s dx g2 ⟨L,G,J⟩=>⟨rfl,dx,rfl,λa M=>by
  have g3:Gr r s (upd r a (.ext (excD C a dx))) (upd s a (.ext (excD C a dx))):=.new g2.le M _;have g:=(g1.trans g2).trans g3;have t:=(e.mono g).set (i:=i) (v:=.ref a) (x:=.xp (rgP K C ns)) ⟨_,.refl _,a,dx,L,rfl,zm,g3.f _ _ G,wq g3.f J⟩ λ_ z=>z.elim;rw[u.eq]at t;exact k H0 F0 _ _ _ B t (w.trans g.f) (.inl rfl) _ ⟨λc d l m n b o=>I.nx _ _ l m n b o.lose,I.rt,λc d l m n b o=>I.bk _ _ l m n b o.lose,λc d l m n b o=>I.ct _ _ l m n b o.lose⟩⟩⟩
def TwR(K:ζa)(C:Addr)(ns:AE)(F:Hp)(v:V):Prop:=∃p u,v=.ref p∧F p=some (.tup [.non,u])∧rgP K C ns F u
def spAR(K:ζa)(pre:AG→AE→Prop)(C:Addr):Sp:=λvs H Q _=>∃F ds ns,Same F H∧zV K F vs ds∧pre ds ns∧∀v H' F',Gr H F H' F'→TwR K C ns F' v→Q v H'
theorem Qv{pre:AG→AE→Prop}{n:Nat}(h:∀ds ns,pre ds ns→ds.length=n){vs:List V}{H:Hp}{Q:VK}(s:spAR K pre C vs H Q E):vs.length=n:=by
 obtain⟨F,ds,ns,_,k,p,_⟩:=s;rw[zV.length k];exact h ds ns p
def ExU(K:ζa)(C:Addr)(ns:AE)(t:TS)(Γ:Ctx):Prop:=∀(H0 F0 H F:Hp) (σ:St) (D:Ends),DEnv K .fresh H0 F0 H F σ Γ→(∀v H' F',Gr H0 F0 H' F'→TwR K C ns F' v→D.rt v H')→t D σ H
theorem Wp{t u:TS}(N:Ctx→Prop)(a:ExS K .fresh t Γ {nx:=N,rt:=λ_=>False})(b:∀Γ',N Γ'→ExU K C ns u Γ'):ExU K C ns (tSeq t u) Γ:=λH0 F0 H F σ D e k =>
 a H0 F0 H F σ F e (.refl _) (.inl rfl) _ ⟨λΓ' σ' H' F' n _ c=>b Γ' n H0 F0 H' F' σ' D c k,λ_ _ _ _ z=>z.elim,λ_ _ _ _ z=>z.elim,λ_ _ _ _ z=>z.elim⟩
theorem zbY{i j:Nat}{κ:Bool}(a:GetC Γ i (.fz κ .none))(b:GetC Γ j (.xp (rgP K C ns))):ExU K C ns (tRet (tTup (zF (tVar i) (zF (tVar j) tNil)))) Γ:=λH0 F0 H F σ D e k=>by
 obtain⟨v,c,d⟩:=e.has i _ a.eq;obtain⟨u,h,m,s1,l⟩:=e.has j _ b.eq;cases d;refine⟨_,c,u,h,by show 2≤sizeLine;rw[sizeLine_eq];decide,λp hp=>?_⟩
 have g:=Gr.new e.le hp (.tup [.non,u]);exact k _ _ _ (e.gr.trans g) ⟨p,u,rfl,zm,l.mono (s1.trans g.f)⟩
theorem zdZ{t:TS}{N:AJ}{n:Nat}{H F:Hp}{vs:List V}{ds:AG}{Q:VK}(le:Same F H)(k:zV K F vs ds)(q:∀v H' F',Gr H F H' F'→TwR K C ns F' v→Q v H')(b:N.length=n)(a:y0 n ds Γ)(h:ExU K C ns t Γ):t {nx:=λ_ H'=>Q .non H',rt:=Q} (L2.yM N vs) H:=by
 have e:=xj (N:=N) le k;rw[b,a.eq]at e;exact h H F H F _ _ e q
theorem Vl{pre:AG→AD→Prop}{b:Sp}{t:TA}{ds:AG}{d:AD}(h:EvA K S false t Γ ds)(hp:pre ds d):EvC K S (y8 (spO (spD K true pre) b) [] E t) Γ d:=λH0 F0 H F σ e Q q =>
 h H0 F0 H F σ e _ λvs f g g1 i=>.inl ⟨g,ds,d,g1.le,by rw[ζx];exact zI i,hp,λv j k g2 l=>q v j k (g1.trans g2) (wU (κ:=true) (κ':=true) (λa xs z=>⟨z.1,λc=>z.2 (by
  show f a≠none;cases w:H a with
  | none=>exact absurd w c
  | some o=>rw[g1.h _ _ w];simp)⟩) (λ_ _ z=>z) l)⟩
theorem UU{i:Nat}{c:V}{d:Value}{b:Bool}(h:GetC Γ i (.xp (rgP K C ns)))(f:EIs K C)(g:clsV c=some d)(j:PySem.W.kitOne K (.ref C) d=some b):EvE K S κ (tCB (QJ K) (zF (tVar i) (zF (tC c) tNil))) Γ (.bool b):=λH0 F0 H F σ e Q q=>by
 obtain⟨u,k,m,s1,a,dx,L,rfl,l,n,o⟩:=e.has i _ h.eq;exact⟨_,k,a,C,dx,c,d,b,rfl,e.le _ _ (s1 _ _ l),f,g,j,q _ H F (.refl e.le) (.bl b)⟩
theorem zaN{i:Nat}(h:GetC Γ i (.xp (rgP K C ns)))(b:EIs K C)(c:ESet K C "ring"):EvE K S false (tAtX K "ring" (tVar i)) Γ (.list (ns.map .int)):=λH0 F0 H F σ e Q q=>by
 obtain⟨u,d,k,s1,a,dx,L,rfl,f,g,j⟩:=e.has i _ h.eq;exact⟨_,d,a,C,dx,.ref L,rfl,b,c,e.le _ _ (s1 _ _ f),e.le _ _ (s1 _ _ g),⟨L,rfl⟩,q _ H F (.refl e.le) (v9 (wq s1 j))⟩
theorem zei{i j:Nat}{ψ:Hp→V→Prop}(h:GetC Γ j (.xp ψ))(c:SetC Γ i (some (.xp ψ)) Γ')(k:P.nx Γ'):ExS K S (tAsg (tVar j) (yt i)) Γ P:=λH0 F0 H F σ B e b _ D I=>by
 obtain⟨v,d,f,s1,g⟩:=e.has j _ h.eq;have a:=e.set (i:=i) (v:=v) (x:=.xp ψ) ⟨f,s1,g⟩ λ_ z=>z.elim;rw[c.eq]at a;exact⟨v,d,I.nx _ _ H F k b a⟩
end
section
variable {K:ζa}{S S':Sx}{κ κ':Bool}{Γ Γ' Γ'':Ctx}{Po:Post}{E:XK}{P:Program}{w:World}
theorem UR{te:TE}{ds:AG}(h:EvL K S κ te Γ ds):EvE K S κ (tCB (zcB K) (zF te tNil)) Γ (.tuple ds):=λH0 F0 H F σ e Q q =>
 h H0 F0 H F σ e _ λa vs b c g1 d g=>⟨a,vs,rfl,.inl ⟨d,λl i=>by
  have g2:Gr b c (upd b l (.tup vs)) (upd c l (.tup vs)):=.new g1.le i _;exact q _ _ _ (g1.trans g2) (.tup (.inl (.inl zm)) (zu g2.f g))⟩⟩
end
end PD
namespace L2
open PySem PySem.Spec PyProof.Rows PySem.W
section
variable {P:Program}{w:World}{K:ζa}{mg:AN}{base:Heap}
theorem Tw{N:AJ}{qual:Str}{scope:Scope}{f:Addr}{cd:Value}{A:Around}{outer:List Env}{s:Shared}{H:Hp}{E:XK}{pins:AL}{σ:St}{l H':Hp}{s1 s':Shared}{a C dx:Addr}{B:Heap}(I:Inv (cxOf (CXd P w) P w K mg base N qual scope f cd A outer s H E) pins σ l s1)
  (F:tw P w (envOfC qual scope s.heap.objs.size f cd::outer) l s1 C a dx H' B s') (q:E (.ref C) (some dx) H') {h':Heap} (m:FlyD B outer a (.ref C) .none (some dx) h') (r:s'.heap.UpToSlots h'):CXd P w outer H s E (.ref a) {s' with heap:=h'}:=by
 let env:=envOfC qual scope s.heap.objs.size f cd;have g:frs (env::outer)=s.heap.objs.size::frs outer:=rfl;have j:∀b o,s.heap.get? b=some o→b≠s.heap.objs.size:=λb o e=>ζt (ζl e);have out:∀b o,s.heap.get? b=some o→b∉frs outer→b∉frs (env::outer):=λb o e c z=>by
  rw[g]at z;rcases ζq.mp z with z|z
  ·exact j b o e z
  ·exact c z
 refine⟨a,C,dx,H',B,rfl,⟨F.os.trans I.os,F.bare,m,λb o e n c=>?_,λb o e n c=>?_,λb o e n=>?_,λb o e c=>?_,λb xs e=>F.tups b xs (I.base.tups b xs e),λb o u e=>F.frzs b o u (I.base.frzs b o u e),λb ps e=>?_,F.trk,?_⟩,q⟩
 ·exact F.old b o (I.base.keep b o e n c (by intro z;cases z)) (I.base.free b o e n (by intro z;cases z)) (out b o e c)
 ·obtain⟨sl,d⟩:=I.base.slot b o e n c (by intro z;cases z);have i:b∈frs (env::outer):=by rw[g];exact ζb _ c
  obtain⟨t,h⟩:=F.slot b _ d (I.base.free b o e n (by intro z;cases z)) i;obtain⟨_,o',p,v⟩:=F.fl.fr.mem i;rw[h]at p;cases p;obtain⟨k,x⟩:=r b _ h v;exact⟨k,x⟩
 ·obtain⟨sl,d⟩:=I.base.any e n (by intro z;cases z);exact F.free b _ d (I.base.free b o e n (by intro z;cases z))
 ·obtain⟨o',d⟩:=I.base.there b o e (by intro z;cases z);exact F.there b o' d (out b o e c)
 ·obtain⟨y,d⟩:=I.base.tbls b ps e;obtain⟨D,h⟩:=F.tbls b _ d;exact⟨y++D,by rw[h,ξT]⟩
 ·refine F.hok.keptT λb o u c e=>?_;obtain⟨ob,d⟩:=F.trk b o c;have h:=F.fl.st b ob d;rw[e]at h;cases h;exact m.st b u d
theorem QV{N:AJ}{qual:Str}{scope:Scope}{f:Addr}{cd:Value}{A:Around}{outer:List Env}{s:Shared}{H:Hp}{E:XK}:
  ZE (CXd P w) (cxOf (CXd P w) P w K mg base N qual scope f cd A outer s H E) E:=by
 intro pins σ g s1 e s' I h;obtain⟨a,C,dx,H',B,rfl,F,b⟩:=h;exact zbQ (B:=B) I.ok.frames rfl F.fl λh' c d=>Tw I F b c d
end
section
variable {M:Model}{A:Around}{E:AM}{s:Shared}{B:Heap}{env:Env}{out:List Env}{L e:Addr}{cls fl:Value}{dx:Option Addr}{Q:Unit→Shared→Prop}
end
section
variable {P:Program}{w:World}{K:ζa}{mg:AN}{base:Heap}
end
end L2
namespace PD
open PySem L2
section
variable {K:ζa}{S S':Sx}{κ κ':Bool}{Γ Γ' Γ'':Ctx}{P:Post}{E:XK}{C:Addr}{ns:AE}
def EvRg(K:ζa)(E:XK)(C:Addr)(ns:AE)(t:TE)(Γ:Ctx):Prop:=∀(H0 F0 H F:Hp) (σ:St),DEnv K .fresh H0 F0 H F σ Γ→(∀H1 F1 dx,Gr H0 F0 H1 F1→RgD K ns F1 dx→E (.ref C) (some dx) H1)→∀Q:VK,t σ H Q
theorem Vj{pre:AG→AE→Prop}{a:TA}{ds:AG}(h:EvA K .fresh false a Γ ds)(hp:pre ds ns):EvRg K E C ns (y8 (spRg K pre C) [] E a) Γ:=λH0 F0 H F σ e k Q =>
 h H0 F0 H F σ e _ λvs g b g1 c=>⟨b,ds,ns,g1.le,by rw[ζx];exact zI c,hp,λd f dx g2 r=>k d f dx (e.gr.trans (g1.trans g2)) r⟩
theorem Vf{te:TE}(h:EvRg K E C ns te Γ):ExR K E C ns (wg te) Γ:=λH0 F0 H F σ e k _=>h H0 F0 H F σ e k _
end
end PD
namespace L2
open PySem PySem.Spec PyProof.Rows PySem.W
section
variable {P:Program}{w:World}{K:Frag}{mg:AN}{base:Heap}
end
section
variable {X:Cx}{k:Nat}{ps:AJ}{sp:Sp}{x:Str}{p pos:Pos}{e:Expr}{es:List Expr}{t:TA}{a:Addr}
end
end L2
namespace PD
open PySem L2
section
variable {K:ζa}{S S':Sx}{κ κ':Bool}{Γ Γ' Γ'' Γ3:Ctx}{P:Post}{E:XK}
theorem zaw{r:Option Addr}{ti tj te:TE}{i j l:Nat}{m n:Int}{dss:List AG}{ds:AG}{d:AD}(h:GetC Γ i (.o2 r dss))(X:EvE K S true te Γ d)(hi:EvE K S false ti Γ (.int m))(Y:ixN dss.length m=some j)(hd:dss[j]?=some ds)(Z:EvE K S false tj Γ (.int n))(hn:ixN ds.length n=some l)
  (es:SetC Γ i (some (.o2 r (dss.set j (ds.set l d)))) Γ') (k:P.nx Γ'):ExS K S (tAsg te (gSub (tOp (rIxL K) (tVar i) ti) tj WR)) Γ P:=λH0 F0 H F σ B e bb _ D I=>by
 refine X H0 F0 H F σ e _ λv H3 F3 g3 p3=>?_;have E:=e.mono g3;obtain⟨v0,O,a,vs,⟨rfl,J⟩,w,Q,R,T,U⟩:=E.has i _ h.eq;refine⟨_,O,hi H0 F0 H3 F3 σ E _ λw' H1 F1 g1 p1=>?_⟩
 cases yr p1;have hj:=(ζg.mp hd).1;have t:vs[j]?=some (vs[j]'⋯):=ζe ⋯;obtain⟨b,us,z,ex,ow,A,V⟩:=U j _ t;rw[hd]at A;cases A;rw[ex]at t;have L:atI vs m=some (.ref b):=by
  unfold atI;rw[T,Y];exact t
 refine⟨a,vs,m,_,rfl,rfl,SqL.of (g1.h _ _ w.h),L,Z H0 F0 H1 F1 σ (E.mono g1) _ λa0 H2 F2 g2 p2=>?_⟩
 cases yr p2;have g:=g1.trans g2;have o:=ow.mono g;have G:=w.mono g;have C:b≠a:=by rintro rfl;exact Q (ζk t)
 refine⟨b,us,n,l,rfl,rfl,o.h,by rw[zq.length V];exact hn,?_⟩
 obtain rfl:=es.eq;refine I.nx _ _ _ F2 k (bb.trans (g3.trans g).f) ((E.mono g).put (y:=.o2 r (dss.set j (ds.set l d))) h.eq O (show Owns H2 (.ref a) (.o2 r dss) b from .inr ⟨a,vs,rfl,G.h,ζk t⟩) ?_ ?_)
 ·refine⟨a,vs,⟨rfl,J⟩,G.other C.symm,Q,R,by rw[ζA];exact T,λW x q=>?_⟩
  by_cases u:W=j
  ·subst u;rw[t]at q;cases q;exact⟨b,us.set l v,ds.set l d,rfl,⟨zm,o.f,o.n,o.s⟩,by rw[ζh hj],zq.set (yg g.f p3) _ (zu g.f V)⟩
  ·obtain⟨c,ws,z,rfl,oc,hc,kc⟩:=U W x q;have M:c≠b:=by
    rintro rfl;exact u (Zp R q t)
   exact⟨c,ws,z,rfl,(oc.mono g).other M,by rw[ζm (Ne.symm u)];exact hc,zu g.f kc⟩
 ·rintro c (oc|⟨p,xs,ep,hp,N⟩)
  ·exact .inl oc
  ·cases ep;rw[zk C.symm,G.h]at hp;cases hp;exact .inr ⟨a,vs,rfl,G.h,N⟩
end
end PD
namespace L2
open PySem PySem.Spec PyProof.Rows
section
variable {X:Cx}{K:ζa}
def numV:V→Option Int
 | .int i=>some i
 | .bl b=>some (if b then 1 else 0)
 | _=>none
theorem zef(b:Bool)(i:Int)(t:Tok):Gives (Builtin.«int.__ge__» ⟨[.bool b,.int i t],[]⟩) (.val (Value.bool (decide ((if b=true then(1:Int)else 0)≥i)))):=.of_wp λM A E s Q h=>by
 obtain⟨a,c,d,e,f⟩:=s
 wp_walk
 exact⟨_,rfl,h⟩
theorem zed(b:Bool)(i:Int)(t:Tok):Gives (Builtin.«int.__lt__» ⟨[.bool b,.int i t],[]⟩) (.val (Value.bool (decide ((if b=true then(1:Int)else 0)<i)))):=.of_wp λM A E s Q h=>by
 obtain⟨a,c,d,e,f⟩:=s
 wp_walk
 exact⟨_,rfl,h⟩
def rLeN:R2:=λx y H Q=>∃i j,x=.int i∧numV y=some j∧Q (.bl (decide (i≤j))) H
def rLtN:R2:=λx y H Q=>∃i j,numV x=some i∧y=.int j∧Q (.bl (decide (i<j))) H
theorem u7{y:V}{j:Int}(h:numV y=some j):y=.int j∨∃b,y=.bl b∧j=if b=true then 1 else 0:=by
 cases y with
 | int i=>cases h;exact .inl rfl
 | bl b=>cases h;exact .inr ⟨b,rfl,rfl⟩
 | _=>cases h
theorem zdm:OpR X (compareOp .LtE) rLeN:=by
 intro pins s σ H x y v u Q I c a h;obtain⟨i,j,rfl,d,q⟩:=h;obtain⟨t,rfl⟩:=c;rcases u7 d with rfl|⟨b,rfl,rfl⟩
 ·obtain⟨e,rfl⟩:=a;exact le_int ⟨.bl _,H,I,rfl,q⟩
 ·cases(show u=Value.bool b from a)
  exact PySem.SeqAt.rc_sub_first_or (op:=.LtE) (typeIs_int s i t) rfl #[2] F.sub_bool_int F.slot_bool_ge_refl
   (call_gives F.slot_bool_ge_refl rfl F.entry_int_ge (F.args_int_ge_2 _ _) (zef b i t) ⟨nofun,.bl _,H,I,rfl,q⟩) (.inl rfl)
theorem zdl:OpR X (compareOp .Lt) rLtN:=by
 intro pins s σ H x y v u Q I a c h;obtain⟨i,j,d,rfl,q⟩:=h;obtain⟨t,rfl⟩:=c;rcases u7 d with rfl|⟨b,rfl,rfl⟩
 ·obtain⟨e,rfl⟩:=a;exact lt_int ⟨.bl _,H,I,rfl,q⟩
 ·cases(show v=Value.bool b from a)
  exact PySem.SeqAt.rc_left_or (op:=.Lt) rfl (typeIs_int s j t) #[2] F.sub_int_bool F.slot_bool_lt
   (call_gives F.slot_bool_lt rfl F.entry_int_lt (F.args_int_lt_2 _ _) (zed b j t) ⟨nofun,.bl _,H,I,rfl,q⟩) (.inl rfl)
section
variable {prog:Program}{w:World}{A:Around}{E:AM}{s:Shared}
theorem Qo{b:Bool}{M:Model}{Q:Option Int→Shared→Prop}(h:Q (some (if b=true then 1 else 0)) s):wpAny M A (Builtin.List.listSubscript? (.bool b)) Q E s:=by
 unfold Builtin.List.listSubscript?;refine AA (wpAny_specialOf (T:= "bool") rfl F.slot_bool_index.lookup ?_);show wpAny M A (asIndex (.bool b) >>= _) Q E s;refine AA (wpAny_of_eq (a:=if b=true then(1:Int)else 0) (by cases b<;>rfl) ?_);rw[if_neg (by cases b<;>decide)];exact AB h
theorem zan{l:Addr}{a:Array Value}{b:Bool}{x:Value}{Q:AM}(c:s.heap.IsList l a)(d:a[if b=true then 1 else 0]?=some x)(h:Q x s):wpAny (model prog w) A (getItem (.ref l) (.bool b)) Q E s:=by
 obtain⟨o,e,f,ne,hd⟩:=id c;unfold getItem
 try with_reducible refine wpAny_holding ?_
 first
  | refine AA (AB ?_)
  | skip
 refine AA (wpAny_sequenceKey c.typeIs #[2] ?_);refine AA (wpAny_callSpecial?_slot (name:=Str.ofString "__getitem__") c.typeIs slot_list_getitem (wpAny_call_entry slot_list_getitem c.typeIs entry_list_getitem ?_ (args_list_getitem _ _)));show wpAny _ _ (Builtin.List.listSubscript? (.bool b) >>= _) _ _ s;refine AA (Qo ?_);cases b with
 | true =>
  show wpAny _ _ ((seqItemAt l 1 >>= λr=>pure (r.map (1,·))) >>= _) _ _ s;refine AA (AA (wpAny_seqItemAt e hd (AB ?_)));rw[show a[1]?=some x from d]
  first
   | exact AA (AB (AB ⟨x,rfl,AB h⟩))
   | exact AB ⟨x,rfl,AB h⟩
 | false =>
  show wpAny _ _ ((seqItemAt l 0 >>= λr=>pure (r.map (0,·))) >>= _) _ _ s;refine AA (AA (wpAny_seqItemAt e hd (AB ?_)));rw[show a[0]?=some x from d]
  first
   | exact AA (AB (AB ⟨x,rfl,AB h⟩))
   | exact AB ⟨x,rfl,AB h⟩
end
def rIxN(K:ζa):R2:=λx y H Q=>∃p xs i v,x=.ref p∧numV y=some i∧SqL K H p xs∧atI xs i=some v∧Q v H
theorem zah:IxR X (rIxN X.K):=by
 intro a c pins s σ H x y v u Q I e f h g;obtain⟨p,xs,i,z,rfl,m,hq,k,q⟩:=h;rcases u7 m with rfl|⟨b,rfl,rfl⟩
 ·exact UJ a c pins s σ H _ _ v u Q I e f ⟨p,xs,i,z,rfl,rfl,hq,k,q⟩ g
 ·cases e;cases(show u=Value.bool b from f);obtain⟨n,r,pl,C⟩:=I.list hq;obtain⟨j,l,o,D,E,t⟩:=WD k;obtain⟨w,A,d⟩:=r.get o;have B:j=if b=true then 1 else 0:=by
   rw[seqIndex_of (by cases b<;>decide) t]at l;have:=ζD l;cases b<;>simpa using this.symm
  exact subscriptTail_builtinR pl.isList.typeIs slot_list_getitem.lookup (zan (Q:=λr s'=>r=w∧EP X pins σ Q r s') pl.isList (by rw[←B];simpa using A) ⟨rfl,z,H,I,d,q⟩) g
theorem Ts(a:X.K=K):IxR X (rIxN K):=by subst a;exact zah
end
end L2
namespace PD
open PySem L2
section
variable {K:ζa}{S S':Sx}{κ κ':Bool}{Γ Γ' Γ'':Ctx}{P:Post}
def numD:AD→Option Int
 | .int i=>some i
 | .bool b=>some (if b then 1 else 0)
 | _=>none
theorem VG{H0 F:Hp}{v:V}{d:AD}{i:Int}(h:Rp K κ S H0 F v d)(n:numD d=some i):numV v=some i:=by
 cases h with
 | int j=>exact n
 | bl b=>exact n
 | _=>cases n
theorem Xs{a tb b:TE}{d:AD}{i j m:Int}(k:EvE K S false a Γ (.int i))(l:EvE K S false tb Γ d)(hd:numD d=some j)(n:EvE K S false b Γ (.int m)):
  EvE K S κ (VB rLeN rLtN a tb b) Γ (.bool (decide (i≤j)&&decide (j<m))):=λH0 F0 H F σ e Q q =>
 k H0 F0 H F σ e _ λv o p g1 r=>l H0 F0 o p σ (e.mono g1) _ λu c f g2 g=>by
  cases yr r;refine⟨i,j,rfl,VG g hd,decide (i≤j),rfl,?_⟩
  cases h:decide (i≤j)with
  | true=>exact iteT (n H0 F0 c f σ ((e.mono g1).mono g2) _ λw s t g3 x=>by
    cases yr x;exact⟨j,m,VG g hd,rfl,q _ s t ((g1.trans g2).trans g3) (by rw[h,Bool.true_and];exact .bl _)⟩)
  | false=>exact iteF (q _ c f (g1.trans g2) (by rw[h,ξz];exact .bl _))
end
inductive KnV(L:List (V×AD)):V→AD→Prop
 | mem {v:V} {d:AD}:(v,d)∈L→KnV L v d
 | int (i:Int):KnV L (.int i) (.int i)
inductive KnA(L:List (V×AD)):List V→AG→Prop
 | nil:KnA L [] []
 | cons {v:V} {d:AD} {vs:List V} {ds:AG}:KnV L v d→KnA L vs ds→KnA L (v::vs) (d::ds)
def psC(K:ζa)(v0:V)(A:List Addr)(W:List (List V))(L:List (V×AD)):Sx→Hp→Hp→Hp→V→Prop:=λS H0 H F v =>
 v=v0∧A.Nodup∧A.length=W.length∧(∀(i:Nat) a vs,A[i]?=some a→W[i]?=some vs→H a=some (.lst vs))∧∀p∈L,Rp K false S H0 F p.1 p.2
def adC(A:List Addr):Hp→V→Addr→Prop:=λ_ _ a=>a∈A
section
variable {K:ζa}{S S':Sx}{κ κ':Bool}{Γ Γ' Γ'':Ctx}{P:Post}{v0:V}{A:List Addr}{W:List (List V)}{L:List (V×AD)}
theorem gokC(d:V)(A:List Addr)(W:List (List V))(L:List (V×AD)):GOk (adC A) (psC K d A W L):=by
 refine⟨λ_ _ _ _ _=>Iff.rfl,?_⟩
 rintro S H0 H H' F F' v c s ⟨e,n,l,h,k⟩;exact⟨e,n,l,λi a vs b f=>by rw[c a (ζk b)];exact h i a vs b f,λp hp=>yg s (k p hp)⟩
abbrev clD(K:ζa)(v0:V)(A:List Addr)(W:List (List V))(L:List (V×AD)):DV:=.og (adC A) (psC K v0 A W L)
theorem KnV.rp{H0 F:Hp}(h:∀p∈L,Rp K false S H0 F p.1 p.2){v:V}{d:AD}(k:KnV L v d):Rp K false S H0 F v d:=by
 cases k with
 | mem m=>exact h _ m
 | int i=>exact .int i
theorem KnA.rp{H0 F:Hp}(h:∀p∈L,Rp K false S H0 F p.1 p.2){vs:List V}{ds:AG}(k:KnA L vs ds):zq K false S H0 F vs ds:=by
 induction k with
 | nil=>exact .nil
 | cons a _ b=>exact .cons (a.rp h) b
theorem KnV.more{L':List (V×AD)}(s:∀p∈L,p∈L'){v:V}{d:AD}(k:KnV L v d):KnV L' v d:=by
 cases k with
 | mem m=>exact .mem (s _ m)
 | int i=>exact .int i
theorem KnA.more{L':List (V×AD)}(s:∀p∈L,p∈L'){vs:List V}{ds:AG}(k:KnA L vs ds):KnA L' vs ds:=by
 induction k with
 | nil=>exact .nil
 | cons a _ b=>exact .cons (a.more s) b
theorem KnA.length{vs:List V}{ds:AG}(k:KnA L vs ds):vs.length=ds.length:=by
 induction k with
 | nil=>rfl
 | cons a _ b=>simp[b]
theorem KnA.set{v:V}{d:AD}(h:KnV L v d){vs:List V}{ds:AG}(k:KnA L vs ds):∀j:Nat,KnA L (vs.set j v) (ds.set j d):=by
 induction k with
 | nil=>exact λ_=>.nil
 | cons a q b =>
  intro j;cases j with
  | zero=>exact .cons h q
  | succ j=>exact .cons a (b j)
theorem KnA.app{vs ws:List V}{ds b:AG}(k:KnA L vs ds)(q:KnA L ws b):KnA L (vs++ws) (ds++b):=by
 induction k with
 | nil=>exact q
 | cons a _ c=>exact .cons a c
theorem KnA.take{vs:List V}{ds:AG}(k:KnA L vs ds):∀n:Nat,KnA L (vs.take n) (ds.take n):=by
 induction k with
 | nil=>exact λn=>by simp;exact .nil
 | cons a q b =>
  intro n;cases n with
  | zero=>exact .nil
  | succ n=>exact .cons a (b n)
theorem KnA.drop{vs:List V}{ds:AG}(k:KnA L vs ds):∀n:Nat,KnA L (vs.drop n) (ds.drop n):=by
 induction k with
 | nil=>exact λn=>by simp;exact .nil
 | cons a q b =>
  intro n;cases n with
  | zero=>exact .cons a q
  | succ n=>exact b n
theorem KnA.get{vs:List V}{ds:AG}(k:KnA L vs ds):∀{j:Nat} {d:AD},ds[j]?=some d→∃v,vs[j]?=some v∧KnV L v d:=by
 induction k with
 | nil=>intro j d z;simp at z
 | cons a q b =>
  intro j d z;cases j with
  | zero=>simp at z;subst z;exact⟨_,rfl,a⟩
  | succ j =>
   obtain⟨v,c,e⟩:=b (j:=j) (by simpa using z);exact⟨v,by simpa using c,e⟩
theorem KnA.dropLast{vs:List V}{ds:AG}(k:KnA L vs ds):KnA L vs.dropLast ds.dropLast:=by
 rw[List.dropLast_eq_take,List.dropLast_eq_take,k.length];exact k.take _
def vg(K:ζa)(S:Sx)(t:TE)(Γ:Ctx)(w:V):Prop:=∀(H0 F0 H F:Hp) (σ:St),DEnv K S H0 F0 H F σ Γ→∀Q:VK,(∀H' F',Gr H F H' F'→Q w H')→t σ H Q
theorem yc{x:Nat}(h:GetC Γ x (clD K v0 A W L)):vg K S (tVar x) Γ v0:=λH0 F0 H F σ e Q q=>by
 obtain⟨v,a,_,_,rfl,_⟩:=e.has x _ h.eq;exact⟨_,a,q H F (.refl e.le)⟩
theorem yf{r:Nat}{a:Addr}(h:GetC Γ r (.fn a)):vg K S (tVar r) Γ (.ref a):=λH0 F0 H F σ e Q q=>by
 obtain⟨v,b,rfl⟩:=e.has r _ h.eq;exact⟨_,b,q H F (.refl e.le)⟩
theorem wu{x i:Nat}{a:Addr}{vs:List V}{H0 F0 H F:Hp}{σ:St}(e:DEnv K S H0 F0 H F σ Γ)(h:GetC Γ x (clD K v0 A W L))(b:A[i]?=some a)(d:W[i]?=some vs):H a=some (.lst vs)∧∀p∈L,Rp K false S H0 F p.1 p.2:=by
 obtain⟨v,_,_,_,_,_,_,c,k⟩:=e.has x _ h.eq;exact⟨c i a vs b d,k⟩
theorem zQ{x i:Nat}{a:Addr}{vs:List V}{t ti:TE}{m:Int}{w:V}(h:GetC Γ x (clD K v0 A W L))(b:A[i]?=some a)(c:W[i]?=some vs)(d:vg K S t Γ (.ref a))(hi:EvE K S false ti Γ (.int m))(f:atI vs m=some w):vg K S (tOp (rIxL K) t ti) Γ w:=λH0 F0 H F σ e Q q =>
 d H0 F0 H F σ e _ λg j g1=>hi H0 F0 g j σ (e.mono g1) _ λv k l g2 n=>by
  cases yr n;exact⟨a,vs,m,w,rfl,rfl,SqL.of (wu ((e.mono g1).mono g2) h b c).1,f,q k l (g1.trans g2)⟩
theorem wf{x:Nat}{t:TE}{w:V}{d:AD}(h:GetC Γ x (clD K v0 A W L))(a:vg K S t Γ w)(b:KnV L w d):EvE K S false t Γ d:=λH0 F0 H F σ e Q q =>
 a H0 F0 H F σ e _ λc f g1=>by
  obtain⟨_,_,_,_,_,_,_,_,k⟩:=(e.mono g1).has x _ h.eq;exact q _ c f g1 (b.rp k)
theorem zdF{x i:Nat}{a:Addr}{vs:List V}{ds:AG}{t:TE}(h:GetC Γ x (clD K v0 A W L))(b:A[i]?=some a)(d:W[i]?=some vs)(f:vg K S t Γ (.ref a))(g:KnA L vs ds):EvL K S false t Γ ds:=λH0 F0 H F σ e Q q =>
 f H0 F0 H F σ e _ λj l g1=>by
  obtain⟨c,k⟩:=wu (e.mono g1) h b d;exact q a vs j l g1 (SqL.of c) (g.rp k)
theorem wK{x i:Nat}{a:Addr}{vs:List V}{t:TE}(h:GetC Γ x (clD K v0 A W L))(b:A[i]?=some a)(d:W[i]?=some vs)(f:vg K S t Γ (.ref a)):EvE K S κ (tCB (λxs H Q=>∃p ys,xs=[.ref p]∧(SqL K H p ys∨SqT K H p ys)∧Q (.int ys.length) H) (zF t tNil)) Γ (.int vs.length):=λH0 F0 H F σ e Q q =>
 f H0 F0 H F σ e _ λg j g1=>by
  obtain⟨c,k⟩:=wu (e.mono g1) h b d;exact⟨a,vs,rfl,.inl (SqL.of c),q _ g j g1 (.int _)⟩
theorem Zt{t:TE}{u:TS}{r:Nat}{a:Addr}(b:vg K S t Γ (.ref a))(c:SetC Γ r (some (.fn a)) Γ')(k:ExT K S S' u Γ' P):ExT K S S' (tSeq (tAsg t (yt r)) u) Γ P:=λH0 F0 H F σ B e d g D I =>
 b H0 F0 H F σ e _ λh i g1=>k H0 F0 h i _ B (by
  rw[←c.eq];exact(e.mono g1).set (x:=.fn a) rfl λ_ z=>z.elim) (d.trans g1.f) g D I
theorem zb5{t:TE}{r:Nat}{a:Addr}(b:vg K S t Γ (.ref a))(c:SetC Γ r (some (.fn a)) Γ')(k:P.nx Γ'):ExS K S (tAsg t (yt r)) Γ P:=λH0 F0 H F σ B e d h D I =>
 b H0 F0 H F σ e _ λi g g1=>I.nx _ _ _ g k (d.trans g1.f) (by
  rw[←c.eq];exact(e.mono g1).set (x:=.fn a) rfl λ_ z=>z.elim)
theorem DEnv.cell{x i:Nat}{a:Addr}{vs vs':List V}{L':List (V×AD)}{H0 F0 H F:Hp}{σ:St}(e:DEnv K S H0 F0 H F σ Γ)(h:GetC Γ x (clD K v0 A W L))(q:A[i]?=some a)(r:W[i]?=some vs)(t:∀p∈L',Rp K false S H0 F p.1 p.2):DEnv K S H0 F0 (upd H a (.lst vs')) F σ (Γ.set x (some (clD K v0 A (W.set i vs') L'))):=by
 obtain⟨v,w,g,B,C,n,l,c,k⟩:=e.has x _ h.eq;refine e.putO (y:=clD K v0 A (W.set i vs') L') h.eq w (show adC A H v a from ζk q) ⟨gokC ..,λb m=>?_,C,n,by rw[ζA];exact l,λj b ws m d=>?_,t⟩ λc z=>z
 ·obtain⟨u,o⟩:=B b m;by_cases z:b=a
  ·subst z;exact⟨_,zm,o.f,o.n,o.s⟩
  ·exact⟨u,by rw[zk z];exact o.h,o.f,o.n,o.s⟩
 ·by_cases z:j=i
  ·subst z;rw[q]at m;cases m;rw[ζh (ζg.mp r).1]at d;cases d;exact zm
  ·rw[ζm (Ne.symm z)]at d;rw[zk λy=>z (by
    subst y;have D:=ζg.mp m;have E:=ζg.mp q;exact(List.getElem_inj n).mp (D.2.trans E.2.symm))]
   exact c j b ws m d
theorem We{H0 F F':Hp}{v:V}{d:AD}(s:Same F F')(k:∀p∈L,Rp K false S H0 F p.1 p.2)(p:Rp K false S H0 F' v d):∀q∈(v,d)::L,Rp K false S H0 F' q.1 q.2:=λq hq=>by
 rcases ζq.mp hq with rfl|hq
 ·exact p
 ·exact yg s (k q hq)
theorem xi{x i j:Nat}{a:Addr}{vs:List V}{t ti te:TE}{m:Int}{G:AD→Prop}{b:V→AD→Ctx}(h:GetC Γ x (clD K v0 A W L))(g:A[i]?=some a)(l:W[i]?=some vs)(p:EvG K S false te Γ G)(q:vg K S t Γ (.ref a))(hi:EvE K S false ti Γ (.int m))(r:ixN vs.length m=some j)
  (s:∀w d,SetC Γ x (some (clD K v0 A (W.set i (vs.set j w)) ((w,d)::L))) (b w d)) (k:∀w d,G d→P.nx (b w d)):ExS K S (tAsg te (gSub t ti WR)) Γ P:=λH0 F0 H F σ B e u Q D I =>
 p H0 F0 H F σ e _ λd w y z hd g1 C=>q H0 F0 y z σ (e.mono g1) _ λE J g2=>hi H0 F0 E J σ ((e.mono g1).mono g2) _ λv R M g3 N=>by
  cases yr N;have n:=((e.mono g1).mono g2).mono g3;obtain⟨c,O⟩:=wu n h g l;refine⟨a,vs,m,j,rfl,rfl,c,r,?_⟩
  have o:=n.cell (vs':=vs.set j w) (L':=(w,d)::L) h g l (We (.refl _) O (yg (g2.f.trans g3.f) C));rw[(s w d).eq]at o;exact I.nx _ _ _ M (k w d hd) (u.trans ((g1.f.trans g2.f).trans g3.f)) o
theorem uo{x i:Nat}{a:Addr}{vs:List V}{t te:TE}{d:AD}{b:V→Ctx}(h:GetC Γ x (clD K v0 A W L))(g:A[i]?=some a)(j:W[i]?=some vs)(n:vg K S t Γ (.ref a))(o:EvE K S false te Γ d)(p:vs.length<sizeLine)
  (q:∀w,SetC Γ x (some (clD K v0 A (W.set i (vs++[w])) ((w,d)::L))) (b w)) (k:∀w,P.nx (b w)):ExS K S (wg (tBM K "list" vt t (zF te tNil))) Γ P:=λH0 F0 H F σ B e r C D I =>
 n H0 F0 H F σ e _ λs u g1=>by
  refine⟨.inl ⟨rfl,_,SqL.of (wu (e.mono g1) h g j).1⟩,o H0 F0 s u σ (e.mono g1) _ λw E v g2 y=>?_⟩
  have l:=(e.mono g1).mono g2;obtain⟨c,z⟩:=wu l h g j;refine⟨a,vs,w,rfl,rfl,c,p,?_⟩
  have m:=l.cell (vs':=vs++[w]) (L':=(w,d)::L) h g j (We (.refl _) z y);rw[(q w).eq]at m;exact I.nx _ _ _ v (k w) (r.trans (g1.f.trans g2.f)) m
theorem zb4{x i:Nat}{a:Addr}{vs:List V}{t ti te:TE}{m:Int}{d:AD}{b:V→Ctx}(h:GetC Γ x (clD K v0 A W L))(g:A[i]?=some a)(j:W[i]?=some vs)(o:vg K S t Γ (.ref a))(hi:EvE K S false ti Γ (.int m))(p:EvE K S false te Γ d)(q:0≤m)(r:m≤vs.length)(s:vs.length<sizeLine)
  (u:∀w,SetC Γ x (some (clD K v0 A (W.set i (vs.take m.toNat++w::vs.drop m.toNat)) ((w,d)::L))) (b w)) (k:∀w,P.nx (b w)):ExS K S (wg (tBM K "list" ZS t (zF ti (zF te tNil)))) Γ P:=λH0 F0 H F σ B e y Q D I =>
 o H0 F0 H F σ e _ λz C g1=>by
  refine⟨.inl ⟨rfl,_,SqL.of (wu (e.mono g1) h g j).1⟩,hi H0 F0 z C σ (e.mono g1) _ λv E G g2 J=>p H0 F0 E G σ ((e.mono g1).mono g2) _ λw R M g3 N=>?_⟩
  cases yr J;have l:=((e.mono g1).mono g2).mono g3;obtain⟨c,O⟩:=wu l h g j;refine⟨a,vs,m,w,rfl,rfl,c,q,r,s,?_⟩
  have n:=l.cell (vs':=vs.take m.toNat++w::vs.drop m.toNat) (L':=(w,d)::L) h g j (We (.refl _) O N);rw[(u w).eq]at n;exact I.nx _ _ _ M (k w) (y.trans ((g1.f.trans g2.f).trans g3.f)) n
theorem Zb{x i:Nat}{a:Addr}{vs:List V}{t:TE}(h:GetC Γ x (clD K v0 A W L))(b:A[i]?=some a)(d:W[i]?=some vs)(l:vg K S t Γ (.ref a))(m:vs≠[])
  (n:SetC Γ x (some (clD K v0 A (W.set i vs.dropLast) L)) Γ') (k:P.nx Γ'):ExS K S (wg (tBM0 K "list" rPop t)) Γ P:=λH0 F0 H F σ B e o s D I =>
 l H0 F0 H F σ e _ λu p g1=>by
  have g:=e.mono g1;obtain⟨c,q⟩:=wu g h b d;have r:vs.length-1<vs.length:=by have:=ζK.mpr m;omega
  refine⟨.inl ⟨rfl,_,SqL.of c⟩,a,vs,vs[vs.length-1],rfl,rfl,c,ζe r,?_⟩
  have j:=g.cell (vs':=vs.dropLast) (L':=L) h b d q;rw[n.eq]at j;exact I.nx _ _ _ p k (o.trans g1.f) j
theorem xD{u:TS}{x:Nat}{d:AD}{G:V→List Addr→List (List V)→List (V×AD)→Prop}{q:V→List Addr→List (List V)→List (V×AD)→Ctx}(h:GetC Γ x (trD d))
  (o:∀H v as,Tr H v d as→∃A W L,∃Z:List Addr,G v A W L∧A.Nodup∧A.length=W.length∧(∀(i:Nat) a vs,A[i]?=some a→W[i]?=some vs→H a=some (.lst vs))∧(∀p∈L,∃bs,Tr H p.1 p.2 bs∧∀b∈bs,b∈Z)∧(∀a∈A,a∈as∧a∉Z)∧∀z∈Z,z∈as)
  (s:∀v A W L,SetC Γ x (some (clD K v A W L)) (q v A W L)) (k:∀v A W L,G v A W L→ExT K S S' u (q v A W L) P):ExT K S S' u Γ P:=λH0 F0 H F σ B e bb vv D I=>by
 obtain⟨v,C,hv⟩:=e.has x _ h.eq;obtain⟨as,t,y⟩:=ofT hv;obtain⟨A,W,L,Z,hG,nd,ln,cs,ls,E,zs⟩:=o H v as t;have J:Same F (frzT Z F H):=λc o z=>by
  rw[yC λm=>by obtain⟨u,w⟩:=y c (zs c m);rw[w.f]at z;cases z];exact z
 have le:Same (frzT Z F H) H:=λc o z=>by
  by_cases m:c∈Z
  ·rw[vB m]at z;exact z
  ·rw[yC m]at z;exact e.le _ _ z
 have Q:=(ζg.mp h.eq).1;have R:DEnv K S H0 F0 H (frzT Z F H) σ (Γ.set x (some (clD K v A W L))):=by
  refine⟨⟨e.gr.h,e.gr.f.trans J,le,λc o M hn=>?_⟩,e.l0,e.sd,e.s0,by simp[e.len],λj f z=>?_,λj k' x1 y1 v1 w1 b g1 g2 g3 g4 o1 o2=>?_⟩
  ·rw[yC λm=>by obtain⟨u,w⟩:=y c (zs c m);rw[w.n]at M;cases M];exact e.gr.ap c o M hn
  ·by_cases l:j=x
   ·subst l;rw[ζh Q]at z;cases z;refine⟨_,C,gokC ..,λa T=>?_,rfl,nd,ln,cs,λp hp=>?_⟩
    ·obtain⟨u,w⟩:=y a (E a T).1;exact⟨u,w.h,by rw[yC (E a T).2];exact w.f,w.n,w.s⟩
    ·obtain⟨bs,tp,sb⟩:=ls p hp;exact v9 (xC (zcl (S:=S) (H0:=H0) (λa m=>⟨vB (sb a m),by obtain⟨u,w⟩:=y a (zs a (sb a m));exact w.s⟩) tp))
   ·rw[ζm (Ne.symm l)]at z;obtain⟨u,U,X⟩:=e.has j f z;refine⟨u,U,X.frzG J λc oc=>?_⟩
    by_cases Y:c∈Z
    ·exact absurd (e.ne j x f _ u _ c z h.eq U C oc ((uE t).mpr (zs c Y))) l
    ·rw[yC Y];obtain⟨us,wo⟩:=X.owns oc;exact wo.f
  ·have bk:∀{j:Nat} {f:DV} {u:V},(Γ.set x (some (clD K v A W L)))[j]?=some (some f)→σ[j]?=some (some u)→Owns H u f b→∃g,Γ[j]?=some (some g)∧Owns H u g b:=λ{j f u} z r o=>by
    by_cases l:j=x
    ·subst l;rw[ζh Q]at z;cases z;rw[C]at r;cases r;exact⟨_,h.eq,(uE t).mpr (E b o).1⟩
    ·rw[ζm (Ne.symm l)]at z;exact⟨f,z,o⟩
   obtain⟨f1,z1,N⟩:=bk g1 g3 o1;obtain⟨f2,z2,O⟩:=bk g2 g4 o2;exact e.ne j k' f1 f2 v1 w1 b z1 z2 g3 g4 N O
 rw[(s v A W L).eq]at R;exact k v A W L hG H0 F0 H _ σ B R (bb.trans J) vv D I
mutual
inductive Kc(A:List Addr)(W:List (List V))(L:List (V×AD)):V→AD→Prop
 | kn {v:V} {d:AD}:KnV L v d→Kc A W L v d
 | cell {a:Addr} {vs:List V} {ds:AG} (i:Nat):A[i]?=some a→W[i]?=some vs→KcA A W L vs ds→Kc A W L (.ref a) (.list ds)
inductive KcA(A:List Addr)(W:List (List V))(L:List (V×AD)):List V→AG→Prop
 | nil:KcA A W L [] []
 | cons {v:V} {d:AD} {vs:List V} {ds:AG}:Kc A W L v d→KcA A W L vs ds→KcA A W L (v::vs) (d::ds)
end
theorem KnA.kc{vs:List V}{ds:AG}(k:KnA L vs ds):KcA A W L vs ds:=by
 induction k with
 | nil=>exact .nil
 | cons a _ b=>exact .cons (.kn a) b
theorem VU{vs:List V}{ds:AG}(l:vs.length=ds.length)(h:∀(j:Nat) v d,vs[j]?=some v→ds[j]?=some d→Kc A W L v d):KcA A W L vs ds:=by
 induction vs generalizing ds with
 | nil =>
  cases ds with
  | nil=>exact .nil
  | cons _ _=>cases l
 | cons v r a =>
  cases ds with
  | nil=>cases l
  | cons d ds=>exact .cons (h 0 v d rfl rfl) (a (by simpa using l) λj v d b c=>h (j+1) v d (by simpa using b) (by simpa using c))
mutual
theorem zae{H0 F:Hp}(c:∀(i:Nat) a vs,A[i]?=some a→W[i]?=some vs→F a=some (.lst vs))(k:∀p∈L,Rp K false S H0 F p.1 p.2):∀{v:V} {d:AD},Kc A W L v d→Rp K false S H0 F v d
 | _,_,.kn h=>h.rp k
 | _,_,.cell i ha hw q=>.lst (show LN K false S H0 F _ _ from SqL.of (c i _ _ ha hw)) (zaf c k q)
theorem zaf{H0 F:Hp}(c:∀(i:Nat) a vs,A[i]?=some a→W[i]?=some vs→F a=some (.lst vs))(k:∀p∈L,Rp K false S H0 F p.1 p.2):∀{vs:List V} {ds:AG},KcA A W L vs ds→zq K false S H0 F vs ds
 | _,_,.nil=>.nil
 | _,_,.cons h q=>.cons (zae c k h) (zaf c k q)
end
theorem zcm{x:Nat}{d:AD}{H0 F0 H F:Hp}{σ:St}{q:Ctx}(e:DEnv K S H0 F0 H F σ Γ)(h:GetC Γ x (clD K v0 A W L))(hd:Kc A W L v0 d)(N:SetC Γ x (some (.fz false d)) q):
  ∃t:Hp,DEnv K S H0 F0 H t σ q∧Same F t∧(∀H' F',Gr H t H' F'→Gr H F H' (drop (λc=>c∈A) F'))∧∀w y,Kc A W L w y→Rp K false S H0 t w y:=by
 obtain⟨v,C,gg,B,rfl,nd,ln,cs,O⟩:=e.has x _ h.eq;have s:Same F (frzT A F H):=λc o z=>by
  rw[yC λm=>by obtain⟨u,w⟩:=B c m;rw[w.f]at z;cases z];exact z
 have le:Same (frzT A F H) H:=λc o z=>by
  by_cases m:c∈A
  ·rw[vB m]at z;exact z
  ·rw[yC m]at z;exact e.le _ _ z
 have D:=(ζg.mp h.eq).1;obtain rfl:=N.eq;have hq:∀w y,Kc A W L w y→Rp K false S H0 (frzT A F H) w y:=λw y z=>zae (λi a vs E P=>by rw[vB (ζk E)];exact cs i a vs E P) (λp hp=>yg s (O p hp)) z;have Q:=hq v d hd;refine⟨frzT A F H,⟨⟨e.gr.h,e.gr.f.trans s,le,λc o k R=>?_⟩,e.l0,e.sd,e.s0,by simp[e.len],λj f z=>?_,λj T U X Y Z b g1 g2 g3 g4 G o2=>?_⟩,s,λH' F' g=>⟨g.h,λc o z=>yb.mpr ⟨g.f _ _ (s _ _ z),?_⟩,λc o z=>g.le _ _ (yb.mp z).1,λc o z n=>?_⟩,hq⟩
 ·rw[yC λm=>by obtain⟨u,w⟩:=B c m;rw[w.n]at k;cases k];exact e.gr.ap c o k R
 ·by_cases l:j=x
  ·subst l;rw[ζh D]at z;cases z;exact⟨_,C,Q⟩
  ·rw[ζm (Ne.symm l)]at z;obtain⟨u,I,J⟩:=e.has j f z;refine⟨u,I,J.frzG s λc oc=>?_⟩
   by_cases M:c∈A
   ·exact absurd (e.ne j x f _ u _ c z h.eq I C oc M) l
   ·rw[yC M];obtain⟨us,wo⟩:=J.owns oc;exact wo.f
 ·have bk:∀{j:Nat} {f:DV} {u:V},(Γ.set x (some (.fz false d)))[j]?=some (some f)→σ[j]?=some (some u)→Owns H u f b→Γ[j]?=some (some f):=λ{j f u} z r o=>by
   by_cases l:j=x
   ·subst l;rw[ζh D]at z;cases z;exact o.elim
   ·rw[ζm (Ne.symm l)]at z;exact z
  exact e.ne j T U X Y Z b (bk g1 g3 G) (bk g2 g4 o2) g3 g4 G o2
 ·rintro⟨k,_⟩;obtain⟨u,w⟩:=B c k;rw[w.f]at z;cases z
 ·by_cases k:c∈A
  ·obtain⟨i,hi⟩:=List.getElem?_of_mem k;have il:=(ζg.mp hi).1;have hl:=cs i c (W[i]'⋯) hi (ζe ⋯);exact Zy (g.f _ _ (by rw[vB k];exact hl)) k
  ·cases q':drop (λc=>c∈A) F' c with
   | none=>rfl
   | some o' =>
    have:=(yb.mp q').1;rw[g.ap _ _ z (by rw[yC k];exact n)]at this;cases this
theorem vC{t:TS}(x:Nat){d:AD}(h:GetC Γ x (clD K v0 A W L))(hd:Kc A W L v0 d)(a:SetC Γ x (some (.fz false d)) Γ')(k:ExT K S S' t Γ' P):ExT K S S' t Γ P:=λH0 F0 H F σ B e b c D I=>by
 obtain⟨f,g,s,_,_⟩:=zcm e h hd a;exact k H0 F0 H f σ B g (b.trans s) c D I
theorem TK(x r:Nat){t:TE}{a:Addr}{y z:AD}{ds:AG}{i j:Ctx}(h:GetC Γ x (clD K v0 A W L))(hd:Kc A W L v0 y)(v:SetC Γ x (some (.fz false y)) i)(m:GetC i r (.fn a))(B:Kc A W L (.ref a) z)(l:SetC i r (some (.fz false z)) j)(k:EvO K S κ t j ds)(hi:∀d∈ds,imm d=true):EvO K S κ t Γ ds:=λH0 F0 H F σ e Q q=>by
 obtain⟨C,s,_,g,hq⟩:=zcm e h hd v;obtain⟨w,D,rfl⟩:=s.has r _ m.eq;have u:=s.shr (y:=.fz false z) m.eq D (hq _ _ B) λ_ z=>z.elim;rw[l.eq]at u;refine k H0 F0 H C σ u Q λb vs H' F' E n p f G=>q b vs H' _ (g H' F' E) n p ?_ (Vb hi (zI G));cases z:drop (λc=>c∈A) F' b with
 | none=>rfl
 | some o=>rw[(yb.mp z).1]at f;cases f
end
section
variable {H:Hp}{L:List (V×AD)}
theorem yH:∀{vs:List V} {ds:AG} {as:List Addr},yS H vs ds as→∀p∈vs.zip ds,∃bs,Tr H p.1 p.2 bs∧∀b∈bs,b∈as
 | _,_,_,.nil,_,m=>nomatch m
 | _,_,_,.cons t k _,p,m=>by
  rcases ζq.mp m with rfl|m
  ·exact⟨_,t,λb a=>ζy _ a⟩
  ·obtain⟨bs,c,d⟩:=yH k p m;exact⟨bs,c,λb a=>ζw _ (d b a)⟩
theorem wJ:∀{vs:List V} {ds:AG},vs.length=ds.length→(∀p∈vs.zip ds,p∈L)→KnA L vs ds
 | [],[],_,_=>.nil
 | [],_::_,h,_=>by cases h
 | _::_,[],h,_=>by cases h
 | v::vs,d::ds,h,s=>.cons (.mem (s _ List.mem_cons_self)) (wJ (by simpa using h) λp hp=>s p (List.mem_cons_of_mem _ hp))
theorem zad:∀{vs:List V} {ds:AG},vs.length=ds.length→(∀(j:Nat) v d,vs[j]?=some v→ds[j]?=some d→KnV L v d)→KnA L vs ds
 | [],[],_,_=>.nil
 | [],_::_,h,_=>by cases h
 | _::_,[],h,_=>by cases h
 | v::vs,d::ds,h,k=>.cons (k 0 v d rfl rfl) (zad (by simpa using h) λj w e a b=>k (j+1) w e (by simpa using a) (by simpa using b))
structure KnB(L:List (V×AD))(j:Nat)(b:Addr)(vs:List V)(ds:AG):Prop where
 l:vs.length=ds.length
 at_:vs[j]?=some (.ref b)
 o:∀i,i≠j→∀w e,vs[i]?=some w→ds[i]?=some e→KnV L w e
theorem KnB.more{L':List (V×AD)}{j:Nat}{b:Addr}{vs:List V}{ds:AG}(s:∀p∈L,p∈L')(k:KnB L j b vs ds):KnB L' j b vs ds:=⟨k.l,k.at_,λi h w e a c=>(k.o i h w e a c).more s⟩
theorem KnB.kc{A:List Addr}{W:List (List V)}{j:Nat}{b:Addr}{vs:List V}{ds:AG}{y:AD}(k:KnB L j b vs ds)(h:Kc A W L (.ref b) y):KcA A W L vs (ds.set j y):=VU (by rw[ζA];exact k.l) λi v d c a=>by
 by_cases e:i=j
 ·subst e;rw[k.at_]at c;cases c;rw[ζh (by rw[←k.l];exact(ζg.mp k.at_).1)]at a;cases a;exact h
 ·rw[ζm (Ne.symm e)]at a;exact .kn (k.o i e v d c a)
theorem Z4:∀{vs:List V} {ds:AG} {as:List Addr} {j:Nat} {d:AD},yS H vs ds as→ds[j]?=some d→∃x bs,∃cs:List Addr,vs[j]?=some x∧Tr H x d bs∧(∀a∈bs,a∈as)∧(∀a∈cs,a∈as)∧(∀a∈bs,a∉cs)∧∀i,i≠j→∀w e,vs[i]?=some w→ds[i]?=some e→∃b,Tr H w e b∧∀a∈b,a∈cs
 | _,_,_,_,_,.nil,h=>by simp at h
 | _,_,_,0,_,.cons (as:=as) (bs:=bs) p q r,h=>by
  simp at h;subst h;refine⟨_,as,bs,rfl,p,λa m=>ζy _ m,λa m=>ζw _ m,r,λi hi w e c f=>?_⟩
  obtain⟨i,rfl⟩:∃k,i=k+1:=⟨i-1,⋯⟩
  refine yH q (w,e) ?_;rw[ζI];exact⟨i,List.getElem?_zip_eq_some.mpr ⟨by simpa using c,by simpa using f⟩⟩
 | _,_,_,j+1,_,.cons (as:=as) (bs:=bs) p q r,h=>by
  obtain⟨x,xs,cs,g,t,s1,s2,l,o⟩:=Z4 (j:=j) q (by simpa using h);refine⟨x,xs,as++cs,by simpa using g,t,λa m=>List.mem_append_right _ (s1 a m),λa m=>?_,λa m z=>?_,λi hi w e c f=>?_⟩
  ·rcases ζu.mp m with m|m
   ·exact ζy _ m
   ·exact ζw _ (s2 a m)
  ·rcases ζu.mp z with z|z
   ·exact r a z (s1 a m)
   ·exact l a m z
  ·cases i with
   | zero =>
    simp at c f;subst c f;exact⟨as,p,λa m=>ζy _ m⟩
   | succ i =>
    obtain⟨b,n,s'⟩:=o i ⋯ w e (by simpa using c) (by simpa using f);exact⟨b,n,λa m=>ζw _ (s' a m)⟩
theorem vj{vs:List V}{ds g:AG}{as:List Addr}{j:Nat}(t:yS H vs ds as)(h:ds[j]?=some (.list g)):∃b us bs,∃cs:List Addr,∃k:List (V×AD),H b=some (.lst us)∧yS H us g bs∧b∉bs∧(∀a∈b::bs,a∈as)∧(∀a∈cs,a∈as)∧(∀a∈b::bs,a∉cs)∧KnB k j b vs ds∧∀p∈k,∃c,Tr H p.1 p.2 c∧∀a∈c,a∈cs:=by
 obtain⟨x,bs,cs,l,m,s1,s2,n,o⟩:=Z4 t h;cases m with
 | lst q r s =>
  refine⟨_,_,_,cs,(vs.zip ds).eraseIdx j,q,r,s,s1,s2,n,⟨t.length,l,λi hi w e d f=>.mem ?_⟩,λp hp=>?_⟩
  ·rw[List.mem_eraseIdx_iff_getElem?];exact⟨i,hi,ξr.mpr ⟨d,f⟩⟩
  ·obtain⟨i,hi,hp⟩:=List.mem_eraseIdx_iff_getElem?.mp hp;obtain⟨d,f⟩:=ξr.mp hp;exact o i hi _ _ d f
def Op1(d1 d2 d3:AG)(v:V)(A:List Addr)(W:List (List V))(L:List (V×AD)):Prop:=∃a0 a1 a2 a3 vs1 vs2 vs3,v=.ref a0∧A=[a0,a1,a2,a3]∧W=[[.ref a1,.ref a2,.ref a3],vs1,vs2,vs3]∧KnA L vs1 d1∧KnA L vs2 d2∧KnA L vs3 d3
theorem Z2{v:V}{d1 l m:AG}{as:List Addr}(t:Tr H v (.list [.list d1,.list l,.list m]) as):∃k d b c g h i j e f,v=.ref k∧H k=some (.lst [.ref d,.ref b,.ref c])∧H d=some (.lst g)∧H b=some (.lst h)∧H c=some (.lst i)∧yS H g d1 j∧yS H h l e∧yS H i m f∧as=k::(d::j++(b::e++(c::f++[])))∧k∉d::j++(b::e++(c::f++[]))∧d∉j∧b∉e∧c∉f∧(∀a∈d::j,a∉b::e++(c::f++[]))∧∀a∈b::e,a∉c::f++[]:=by
 cases t with
 | lst n o p =>
  cases o with
  | cons q r s =>
   cases r with
   | cons u w x =>
    cases w with
    | cons y z K =>
     cases z;cases q with
     | lst A B C =>
      cases u with
      | lst D E F =>
       cases y with
       | lst G I J=>exact⟨_,_,_,_,_,_,_,_,_,_,rfl,n,A,D,G,B,E,I,rfl,p,C,F,J,s,x⟩
def Op0(ds:AG)(v:V)(A:List Addr)(W:List (List V))(L:List (V×AD)):Prop:=∃a vs,v=.ref a∧A=[a]∧W=[vs]∧KnA L vs ds
theorem zdh{ds:AG}(H:Hp)(v:V)(as:List Addr)(t:Tr H v (.list ds) as):∃A W L,∃Z:List Addr,Op0 ds v A W L∧A.Nodup∧A.length=W.length∧(∀(i:Nat) a vs,A[i]?=some a→W[i]?=some vs→H a=some (.lst vs))∧(∀p∈L,∃bs,Tr H p.1 p.2 bs∧∀b∈bs,b∈Z)∧(∀a∈A,a∈as∧a∉Z)∧∀z∈Z,z∈as:=by
 cases t with
 | @lst a xs _ bs e k n =>
  refine⟨[a],[xs],xs.zip ds,bs,⟨a,xs,rfl,rfl,rfl,wJ k.length λp hp=>hp⟩,by simp,rfl,?_,yH k,λb c=>?_,λz d=>List.mem_cons_of_mem _ d⟩
  ·intro i b vs c f
   match i,c,f with
   | 0,rfl,rfl=>exact e
  ·rw[ζs.mp c];exact⟨ζi,n⟩
theorem QX{d1 j k:AG}(H:Hp)(v:V)(as:List Addr)(t:Tr H v (.list [.list d1,.list j,.list k]) as):∃A W L,∃Z:List Addr,Op1 d1 j k v A W L∧A.Nodup∧A.length=W.length∧(∀(i:Nat) a vs,A[i]?=some a→W[i]?=some vs→H a=some (.lst vs))∧(∀p∈L,∃bs,Tr H p.1 p.2 bs∧∀b∈bs,b∈Z)∧(∀a∈A,a∈as∧a∉Z)∧∀z∈Z,z∈as:=by
 obtain⟨o,l,m,n,c,d,e,y,B,C,rfl,D,E,F,G,q,r,s,rfl,u,M,N,O,w,x⟩:=Z2 t;refine⟨[o,l,m,n],[[.ref l,.ref m,.ref n],c,d,e],c.zip d1++(d.zip j++e.zip k),y++(B++C),⟨o,l,m,n,c,d,e,rfl,rfl,rfl,wJ q.length λp hp=>by simp[hp],wJ r.length λp hp=>by simp[hp],wJ s.length λp hp=>by simp[hp]⟩,?_,rfl,?_,λp hp=>?_,?_,?_⟩
 ·simp at u w x ⊢;grind
 ·intro i a vs I J
  match i,I,J with
  | 0,rfl,rfl=>exact D
  | 1,rfl,rfl=>exact E
  | 2,rfl,rfl=>exact F
  | 3,rfl,rfl=>exact G
 ·rcases ζu.mp hp with hp|hp
  ·obtain⟨bs,f,g⟩:=yH q p hp;exact⟨bs,f,λb h=>by simp[g b h]⟩
  ·rcases ζu.mp hp with hp|hp
   ·obtain⟨bs,f,g⟩:=yH r p hp;exact⟨bs,f,λb h=>by simp[g b h]⟩
   ·obtain⟨bs,f,g⟩:=yH s p hp;exact⟨bs,f,λb h=>by simp[g b h]⟩
 ·simp at u w x ⊢;grind
 ·intro z K;simp at K ⊢;grind
def Op2(j:Nat)(d1 d2 d3 d4:AG)(v:V)(A:List Addr)(W:List (List V))(L:List (V×AD)):Prop:=∃a0 a1 a2 a3 a4 vs1 vs2 vs3 vs4,v=.ref a0∧A=[a0,a1,a2,a3,a4]∧W=[[.ref a1,.ref a2,.ref a3],vs1,vs2,vs3,vs4]∧KnA L vs1 d1∧KnA L vs2 d2∧KnB L j a4 vs3 d3∧KnA L vs4 d4
theorem QW{j:Nat}{d1 n o q:AG}(F:o[j]?=some (.list q))(H:Hp)(v:V)(as:List Addr)(t:Tr H v (.list [.list d1,.list n,.list o]) as):∃A W L,∃Z:List Addr,Op2 j d1 n o q v A W L∧A.Nodup∧A.length=W.length∧(∀(i:Nat) a vs,A[i]?=some a→W[i]?=some vs→H a=some (.lst vs))∧(∀p∈L,∃bs,Tr H p.1 p.2 bs∧∀b∈bs,b∈Z)∧(∀a∈A,a∈as∧a∉Z)∧∀z∈Z,z∈as:=by
 obtain⟨G,r,s,u,c,d,m,S,T,b3,rfl,I,J,K,M,w,x,N,rfl,y,n1,n2,n3,B,C⟩:=Z2 t;obtain⟨O,e,U,X,Y,P,D,n4,E,f,g,Q,R⟩:=vj N F;refine⟨[G,r,s,u,O],[[.ref r,.ref s,.ref u],c,d,m,e],c.zip d1++(d.zip n++(Y++e.zip q)),S++(T++(X++U)),⟨G,r,s,u,O,c,d,m,e,rfl,rfl,rfl,wJ w.length λp hp=>by simp[hp],wJ x.length λp hp=>by simp[hp],Q.more λp hp=>by simp[hp],wJ D.length λp hp=>by simp[hp]⟩,?_,rfl,?_,λp hp=>?_,?_,?_⟩
 ·clear Q R w x N D I J K M P t F;simp at y B C E f g ⊢
  and_intros<;>grind
 ·intro i a vs ha hw
  match i,ha,hw with
  | 0,rfl,rfl=>exact I
  | 1,rfl,rfl=>exact J
  | 2,rfl,rfl=>exact K
  | 3,rfl,rfl=>exact M
  | 4,rfl,rfl=>exact P
 ·simp only[List.mem_append]at hp;rcases hp with hp|hp|hp|hp
  ·obtain⟨bs,h,k⟩:=yH w p hp;exact⟨bs,h,λb l=>by simp[k b l]⟩
  ·obtain⟨bs,h,k⟩:=yH x p hp;exact⟨bs,h,λb l=>by simp[k b l]⟩
  ·obtain⟨bs,h,k⟩:=R p hp;exact⟨bs,h,λb l=>by simp[k b l]⟩
  ·obtain⟨bs,h,k⟩:=yH D p hp;exact⟨bs,h,λb l=>by simp[k b l]⟩
 ·simp at y B C E f g ⊢;grind
 ·intro z hz;simp at y B C E f g hz ⊢;grind
def Op3(j l:Nat)(d1 d2 db d3 d4 d5:AG)(v:V)(A:List Addr)(W:List (List V))(L:List (V×AD)):Prop:=∃a0 a1 a2 b a3 a4 a5 vs1 vs2 vsb vs3 vs4 vs5,v=.ref a0∧A=[a0,a1,a2,b,a3,a4,a5]∧W=[[.ref a1,.ref a2,.ref a3],vs1,vs2,vsb,vs3,vs4,vs5]∧KnA L vs1 d1∧KnB L j b vs2 d2∧KnA L vsb db∧KnB L j a4 vs3 d3∧KnB L l a5 vs4 d4∧KnA L vs5 d5
theorem VM{j l:Nat}{d1 w x y B C:AG}(c:w[j]?=some (.list x))(Q:y[j]?=some (.list B))(R:B[l]?=some (.list C))(H:Hp)(v:V)(as:List Addr)(t:Tr H v (.list [.list d1,.list w,.list y]) as):∃A W L,∃Z:List Addr,Op3 j l d1 w x y B C v A W L∧A.Nodup∧A.length=W.length∧(∀(i:Nat) a vs,A[i]?=some a→W[i]?=some vs→H a=some (.lst vs))∧(∀p∈L,∃bs,Tr H p.1 p.2 bs∧∀b∈bs,b∈Z)∧(∀a∈A,a∈as∧a∉Z)∧∀z∈Z,z∈as:=by
 obtain⟨S,D,E,F,f,r,s,b1,b2,b3,rfl,T,U,X,Y,G,q2,q3,rfl,I,n1,n2,n3,J,K⟩:=Z2 t;obtain⟨b,g,bb,cb,Lb,eb,M,nb,sb,sc,h,kb,lb⟩:=vj q2 c;obtain⟨a4,u,b4,c4,L4,e4,q4,n4,N,k,m,k4,l4⟩:=vj q3 Q;obtain⟨a5,n,b5,c5,L5,e5,O,n5,P,o,q,k5,l5⟩:=vj q4 R;refine⟨[S,D,E,b,F,a4,a5],[[.ref D,.ref E,.ref F],f,r,g,s,u,n],f.zip d1++(Lb++(g.zip x++(L4++(L5++n.zip C)))),b1++(cb++(bb++(c4++(c5++b5)))),⟨S,D,E,b,F,a4,a5,f,r,g,s,u,n,rfl,rfl,rfl,wJ G.length λp hp=>by simp[hp],kb.more λp hp=>by simp[hp],wJ M.length λp hp=>by simp[hp],k4.more λp hp=>by simp[hp],k5.more λp hp=>by simp[hp],wJ O.length λp hp=>by simp[hp]⟩,?_,rfl,?_,λp hp=>?_,?_,?_⟩
 ·clear kb k4 k5 lb l4 l5 G q2 q3 M q4 O T U X Y eb e4 e5 t c Q R;simp at I J K sb sc h N k m P o q ⊢
  and_intros<;>grind
 ·intro i a vs ha hw
  match i,ha,hw with
  | 0,rfl,rfl=>exact T
  | 1,rfl,rfl=>exact U
  | 2,rfl,rfl=>exact X
  | 3,rfl,rfl=>exact eb
  | 4,rfl,rfl=>exact Y
  | 5,rfl,rfl=>exact e4
  | 6,rfl,rfl=>exact e5
 ·simp only[List.mem_append]at hp;rcases hp with hp|hp|hp|hp|hp|hp
  ·obtain⟨bs,d,c⟩:=yH G p hp;exact⟨bs,d,λb e=>by simp[c b e]⟩
  ·obtain⟨bs,d,c⟩:=lb p hp;exact⟨bs,d,λb e=>by simp[c b e]⟩
  ·obtain⟨bs,d,c⟩:=yH M p hp;exact⟨bs,d,λb e=>by simp[c b e]⟩
  ·obtain⟨bs,d,c⟩:=l4 p hp;exact⟨bs,d,λb e=>by simp[c b e]⟩
  ·obtain⟨bs,d,c⟩:=l5 p hp;exact⟨bs,d,λb e=>by simp[c b e]⟩
  ·obtain⟨bs,d,c⟩:=yH O p hp;exact⟨bs,d,λb e=>by simp[c b e]⟩
 ·simp at I J K sb sc h N k m P o q ⊢;grind
 ·intro z hz;simp at I J K sb sc h N k m P o q hz ⊢;grind
end
section
variable {K:ζa}{S S':Sx}{Γ Γ':Ctx}{P:Post}{v0:V}{A A1 A2:List Addr}{W W1 W2:List (List V)}{L L':List (V×AD)}
theorem Ty{u:TS}(x:Nat)(h:GetC Γ x (clD K v0 A W L))(J:∀(i:Nat) a vs,A1[i]?=some a→W1[i]?=some vs→∃k:Nat,A[k]?=some a∧W[k]?=some vs)(C:∀(i:Nat) a vs,A2[i]?=some a→W2[i]?=some vs→∃k:Nat,A[k]?=some a∧W[k]?=some vs)
  (M:A1.length=W1.length) (N:A2.length=W2.length) (n1:A.Nodup→A1.Nodup∧∀a∈A1,a∉A2) (hl:∀p∈L',Kc A2 W2 L p.1 p.2) (es:SetC Γ x (some (clD K v0 A1 W1 L')) Γ') (k:ExT K S S' u Γ' P):ExT K S S' u Γ P:=λH0 F0 H F σ B e bb vv D I=>by
 obtain⟨v,Y,gg,O,rfl,nd,ln,cs,ks⟩:=e.has x _ h.eq;have d:∀{E:List Addr} {G:List (List V)},E.length=G.length→(∀(i:Nat) a vs,E[i]?=some a→G[i]?=some vs→∃k:Nat,A[k]?=some a∧W[k]?=some vs)→∀a∈E,a∈A:=λ{E G} ll hh a m=>by
  obtain⟨i,hi⟩:=List.getElem?_of_mem m;have il:=(ζg.mp hi).1;obtain⟨k,y,_⟩:=hh i a (G[i]'⋯) hi (ζe ⋯);exact ζk y
 obtain⟨Q,ap⟩:=n1 nd;have s:Same F (frzT A2 F H):=λc o z=>by
  rw[yC λm=>by obtain⟨u,w⟩:=O c (d N C c m);rw[w.f]at z;cases z];exact z
 have le:Same (frzT A2 F H) H:=λc o z=>by
  by_cases m:c∈A2
  ·rw[vB m]at z;exact z
  ·rw[yC m]at z;exact e.le _ _ z
 have Z:=(ζg.mp h.eq).1;have e2:DEnv K S H0 F0 H (frzT A2 F H) σ (Γ.set x (some (clD K v A1 W1 L'))):=by
  refine⟨⟨e.gr.h,e.gr.f.trans s,le,λc o R hn=>?_⟩,e.l0,e.sd,e.s0,by simp[e.len],λj f z=>?_,λj k' x1 y1 v1 w1 b g1 g2 g3 g4 o1 o2=>?_⟩
  ·rw[yC λm=>by obtain⟨u,w⟩:=O c (d N C c m);rw[w.n]at R;cases R];exact e.gr.ap c o R hn
  ·by_cases t:j=x
   ·subst t;rw[ζh Z]at z;cases z;refine⟨_,Y,gokC ..,λa l=>?_,rfl,Q,M,λi a vs l T=>?_,λp hp=>?_⟩
    ·obtain⟨u,w⟩:=O a (d M J a l);exact⟨u,w.h,by rw[yC (ap a l)];exact w.f,w.n,w.s⟩
    ·obtain⟨k,y,q⟩:=J i a vs l T;exact cs k a vs y q
    ·exact zae (λi a vs l T=>by
      obtain⟨k,y,q⟩:=C i a vs l T;rw[vB (ζk l)];exact cs k a vs y q) (λp hp=>yg s (ks p hp)) (hl p hp)
   ·rw[ζm (Ne.symm t)]at z;obtain⟨u,r1,r2⟩:=e.has j f z;refine⟨u,r1,r2.frzG s λc oc=>?_⟩
    by_cases zc:c∈A2
    ·exact absurd (e.ne j x f _ u _ c z h.eq r1 Y oc (d N C c zc)) t
    ·rw[yC zc];obtain⟨us,wo⟩:=r2.owns oc;exact wo.f
  ·have bk:∀{j:Nat} {f:DV} {u:V},(Γ.set x (some (clD K v A1 W1 L')))[j]?=some (some f)→σ[j]?=some (some u)→Owns H u f b→∃g,Γ[j]?=some (some g)∧Owns H u g b:=λ{j f u} z r o=>by
    by_cases t:j=x
    ·subst t;rw[ζh Z]at z;cases z;exact⟨_,h.eq,d M J b o⟩
    ·rw[ζm (Ne.symm t)]at z;exact⟨f,z,o⟩
   obtain⟨f1,z1,U⟩:=bk g1 g3 o1;obtain⟨f2,z2,X⟩:=bk g2 g4 o2;exact e.ne j k' f1 f2 v1 w1 b z1 z2 g3 g4 U X
 rw[es.eq]at e2;exact k H0 F0 H _ σ B e2 (bb.trans s) vv D I
end
section
variable {K:ζa}{S S':Sx}{κ κ':Bool}{Γ Γ' Γ'':Ctx}{P:Post}{E:XK}
def FaL(Gf:AD→AD→Prop)(ds es:AG):Prop:=es.length=ds.length∧∀(j:Nat) d e,ds[j]?=some d→es[j]?=some e→Gf d e
theorem TJ{js:List (Option Nat)}{wi:TI}{g:TG}{te:TE}{is:AF}{ds:AG}(M:AD→AD→Prop)(hi:EvI K S κ' wi Γ ds)(T:∀i∈is,js[i]?=some none)(hj:∀i j k:Nat,js[i]?=some (some k)→js[j]?=some (some k)→i=j)
  (hz:ds.length≤sizeLine) (hb:∀d∈ds,ExG K S κ' g is d (uR js Γ) λΓ'=>EvG K S κ te Γ' (M d)):EvOG K S κ (xG js wi g tYes te) Γ (FaL M ds):=λH0 F0 H F σ e Q q =>
 hi H0 F0 H F σ e _ λJ U N g1 V=>by
  intro D O;have W:∀{n l:Hp},Gr U N n l→∀a,S.has H0 a→∃o,n a=some o:=λg2 a c=>let⟨o,z⟩:=(e.mono g1).sd a c;⟨o,g2.h _ _ z⟩;refine⟨λi m ys n=>m=ds.length-i∧i≤ds.length∧∃l p,Gr U N n l∧n D=some (.lst ys)∧l D=none∧FaL M (ds.take i) p∧zq K κ S H0 l ys p,⟨_,rfl,Nat.zero_le _,N,[],.newO g1.le O _,zm,g1.le.free O,⟨rfl,λj d e h=>by simp at h⟩,.nil⟩,?_⟩
  rintro i m ys n ⟨rfl,hi,l,p,g2,X,fl,A,Y⟩;by_cases s:i<ds.length
  ·refine .inr ⟨V.go i n l g2.f g2.le s,λzs w=>i+1≤ds.length∧∃l p,Gr U N w l∧w D=some (.lst zs)∧l D=none∧FaL M (ds.take (i+1)) p∧zq K κ S H0 l zs p,λzs w h3=>⟨ds.length-(i+1),⋯,rfl,h3⟩,λx w y=>?_⟩;obtain⟨d,F3,hd,g3,p3⟩:=V.yld i n l x w g2.f g2.le (W g2) s y;have B:=g3.h _ _ X;have Z:=g3.ap _ _ X fl;have E3:=((e.mono g1).mono (g2.trans g3)).capt hj;refine hb d (ζk hd) H0 F0 w F3 _ x E3 p3 _ λΓ' σ' H4 F4 he g4 E4 C E=>?_;have t:=g4.h _ _ B;have a0:=g4.ap _ _ B Z;have tk:ds.take (i+1)=ds.take i++[d]:=by rw[ξW,hd];rfl
   refine⟨⟨C.symm,λj v P=>?_⟩,Wy H0 F0 H4 F4 σ' E4 _ λH5 F5 g5=>iteT (he H0 F0 H5 F5 σ' (E4.mono g5) _ λe0 v H6 F6 ge g6 p6=>?_)⟩
   ·by_cases G:j∈is
    ·have:=T j G;unfold L2.capt at P;rw[ζj,this]at P;cases P
    ·rw[E j G];exact P
   have a1:=g6.h _ _ (g5.h _ _ t);have I:=g6.ap _ _ (g5.h _ _ t) (g5.ap _ _ t a0);have gg:=(g3.trans g4).trans (g5.trans g6);have R:=g2.trans gg;have el:p.length=i:=by rw[A.1,ζL];omega
   refine⟨a1,?_,s,F6,p++[e0],⟨λb u z=>?_,R.f,λb u z=>?_,R.ap⟩,zm,I,⟨?_,λj d' e' r L=>?_⟩,zq.append (zu gg.f Y) (.cons p6 .nil)⟩
   ·have r:=zq.length Y;omega
   ·rw[zk (zt z O)];exact R.h _ _ z
   ·rw[zk (by rintro rfl;rw[I]at z;cases z)];exact R.le _ _ z
   ·rw[tk,ζr,ζr,A.1];rfl
   ·rw[tk]at r;have tl:(ds.take i).length=i:=by rw[ζL];omega
    by_cases ji:j<i
    ·rw[ξy ⋯]at r L;exact A.2 j d' e' r L
    ·rw[ξp ⋯]at r L;have j0:j=i:=by
      have:=(ζg.mp r).1;simp at this;omega
     subst j0;rw[tl,Nat.sub_self]at r;rw[el,Nat.sub_self]at L;cases r;cases L;exact ge
  ·have ei:i=ds.length:=by omega
   subst ei;rw[ξD]at A;exact .inl ⟨V.stop n l g2.f g2.le,q p D ys n l A (g1.trans g2) (g1.h.free O) X fl Y⟩
theorem YF:∀(js:List (Option Nat)),(js.filterMap id).Nodup→∀{i j k:Nat},js[i]?=some (some k)→js[j]?=some (some k)→i=j
 | [],_,_,_,_,h1,_=>by simp at h1
 | none::js,hj,0,_,_,h1,_=>by simp at h1
 | none::js,hj,_+1,0,_,_,h2=>by simp at h2
 | none::js,hj,i+1,j+1,k,h1,h2=>congrArg (·+1) (YF js (by simpa using hj) (by simpa using h1) (by simpa using h2))
 | some m::js,hj,i,j,k,h1,h2=>by
  have a:(m::js.filterMap id).Nodup:=by simpa using hj
  have out:∀{n:Nat},js[n]?≠some (some m):=λ{n} h=>(ξn.mp a).1 (ζ4.mpr ⟨_,ζk h,rfl⟩);cases i with
  | zero =>
   cases j with
   | zero=>rfl
   | succ j=>simp at h1;subst h1;exact absurd (by simpa using h2) (out (n:=j))
  | succ i =>
   cases j with
   | zero=>simp at h2;subst h2;exact absurd (by simpa using h1) (out (n:=i))
   | succ j=>exact congrArg (·+1) (YF js (List.nodup_cons.mp a).2 (by simpa using h1) (by simpa using h2))
theorem zaD{js:List (Option Nat)}{a:Ctx}{e:TI}{g:TG}{te:TE}{is:AF}{ds:AG}(κ':Bool)(b:AD→AD→Prop)(hi:EvI K S κ' e Γ ds)(f:xF js Γ a)(c:(is.all λi=>js[i]?==some none)=true)
  (h:(js.filterMap id).Nodup) (l:ds.length≤sizeLine) (m:∀d∈ds,ExG K S κ' g is d a λΓ'=>EvG K S κ te Γ' (b d)):EvOG K S κ (xG js e g tYes te) Γ (FaL b ds):=by
 refine TJ b hi (λi hi=>?_) ?_ l (by rw[f.eq];exact m)
 ·have:=ζM.mp c i hi;simpa using this
 ·intro i j k n o;exact YF js h n o
theorem zdH{b ti:TE}{ds:AG}{d y:AD}{i:Int}(k:EvL K S κ b Γ ds)(hi:EvE K S false ti Γ y)(l:numD y=some i)(h:atI ds i=some d):EvE K S κ (tOp (rIxN K) b ti) Γ d:=λH0 F0 H F σ e Q q =>
 k H0 F0 H F σ e _ λa vs m c g1 n g=>hi H0 F0 m c σ (e.mono g1) _ λw o p g2 r=>by
  obtain⟨v,s,t⟩:∃v,atI vs i=some v∧Rp K κ S H0 c v d:=by
   unfold atI at h ⊢;rw[zq.length g];cases z:ixN ds.length i with
   | none=>rw[z]at h;cases h
   | some j =>
    rw[z]at h;obtain⟨v,u,x⟩:=zq.get g (show ds[j]?=some d from h);exact⟨v,u,x⟩
  exact⟨a,vs,i,v,rfl,VG r l,g2.h.seq n,s,q v o p (g1.trans g2) (yg g2.f t)⟩
theorem zaG{b tb:TE}{xs:AG}{k:Int}(d:EvE K S true b Γ (.list xs))(g:EvE K S false tb Γ (.int k))(i:-(2^63)≤k)(j:k<2^63)(l:xs.length*k.toNat≤sizeLine):EvO K S true (tOp rRep b tb) Γ (List.replicate k.toNat xs).flatten:=λH0 F0 H F σ e Q q =>
 d H0 F0 H F σ e _ λv m n g1 o=>g H0 F0 m n σ (e.mono g1) _ λw u r g2 s=>by
  cases yr s;obtain⟨a,vs,rfl,t,c⟩:=uV o;exact⟨a,k,vs,rfl,rfl,g2.h _ _ (g1.le _ _ t.1),i,j,by rw[zq.length c];exact l,λp hp=>q p _ _ r ((g1.trans g2).trans (.newO g2.le hp _)) ((g1.trans g2).h.free hp) zm (g2.le.free hp) (zq.rep (zu g2.f c) _)⟩
def EvTs(K:ζa)(S:Sx)(t:TA)(Γ:Ctx)(ds:AG):Prop:=∀(H0 F0 H F:Hp) (σ:St),DEnv K S H0 F0 H F σ Γ→∀Q:List V→Hp→Prop,(∀vs as H' F',Gr H F H' F'→yS H' vs ds as→(∀a∈as,H a=none∧F' a=none∧∃u,H' a=some u)→Q vs H')→t σ H Q
theorem ZZ:EvTs K S tNil Γ []:=λH0 F0 H F σ e Q q=>q [] [] H F (.refl e.le) .nil λ_ z=>nomatch z
theorem yY{t:TE}{u:TA}{d:AD}{ds:AG}(h:EvTr K S t Γ d)(k:EvTs K S u Γ ds):EvTs K S (zF t u) Γ (d::ds):=λH0 F0 H F σ e Q q =>
 h H0 F0 H F σ e _ λv as f j g1 g i=>k H0 F0 f j σ (e.mono g1) _ λvs bs l n g2 p c=>by
  have ex:∀a∈as,∃o,f a=some o:=λa m=>Vy.tr_there g m;refine q (v::vs) (as++bs) l n (g1.trans g2) (.cons (zbd g2 ex g) p λa m z=>?_) λa m=>?_
  ·obtain⟨o,b⟩:=ex a m;rw[(c a z).1]at b;cases b
  ·rcases ζu.mp m with m|m
   ·obtain⟨o,b⟩:=ex a m;exact⟨(i a m).1,g2.ap _ _ b (i a m).2,o,g2.h _ _ b⟩
   ·exact⟨g1.h.free (c a m).1,(c a m).2.1,(c a m).2.2⟩
theorem ZV{t:TA}{ds:AG}(h:EvTs K S t Γ ds)(g:ds.length≤sizeLine):EvTr K S (tLst t) Γ (.list ds):=λH0 F0 H F σ e Q q =>
 h H0 F0 H F σ e _ λvs as j i g1 c b=>by
  refine⟨by rw[c.length];exact g,λp hp=>?_⟩
  have d:p∉as:=λm=>by
   obtain⟨u,f⟩:=(b p m).2.2;rw[hp]at f;cases f
  refine q (.ref p) (p::as) _ i (g1.trans (.newO g1.le hp _)) (.lst zm (vi (λa m=>zk λz=>d (z ▸ m)) c) d) λa m=>?_;rcases ζq.mp m with rfl|m
  ·exact⟨g1.h.free hp,g1.le.free hp⟩
  ·exact⟨(b a m).1,(b a m).2.1⟩
theorem ZY:EvE K S κ Qk Γ (.dict []):=λ_ _ H F _ e _ q a b=>q _ _ _ (.new e.le b _) (.dct zm)
end
section
variable {K:ζa}{S S':Sx}{κ κ':Bool}{Γ Γ' Γ'':Ctx}{P:Post}{E:XK}{o:Addr→HO}
def TwX(o:Addr→HO)(F:Hp)(v:V):Prop:=∃p a,v=.ref p∧F p=some (.tup [.non,.ref a])∧F a=some (o a)
def spAX(K:ζa)(pre:AG→Prop)(o:Addr→HO):Sp:=λvs H Q _=>∃F ds,Same F H∧zV K F vs ds∧pre ds∧∀v H' F',Gr H F H' F'→TwX o F' v→Q v H'
theorem Qu{pre:AG→Prop}{n:Nat}(h:∀ds,pre ds→ds.length=n){vs:List V}{H:Hp}{Q:VK}(s:spAX K pre o vs H Q E):vs.length=n:=by
 obtain⟨F,ds,_,k,p,_⟩:=s;rw[zV.length k];exact h ds p
def ExV(K:ζa)(o:Addr→HO)(t:TS)(Γ:Ctx):Prop:=∀(H0 F0 H F:Hp) (σ:St) (D:Ends),DEnv K .fresh H0 F0 H F σ Γ→(∀v H' F',Gr H0 F0 H' F'→TwX o F' v→D.rt v H')→t D σ H
theorem Wo{t u:TS}(N:Ctx→Prop)(a:ExS K .fresh t Γ {nx:=N,rt:=λ_=>False})(b:∀Γ',N Γ'→ExV K o u Γ'):ExV K o (tSeq t u) Γ:=λH0 F0 H F σ D e k =>
 a H0 F0 H F σ F e (.refl _) (.inl rfl) _ ⟨λΓ' σ' H' F' n _ c=>b Γ' n H0 F0 H' F' σ' D c k,λ_ _ _ _ z=>z.elim,λ_ _ _ _ z=>z.elim,λ_ _ _ _ z=>z.elim⟩
theorem zbX{i j:Nat}{κ:Bool}(b:GetC Γ i (.fz κ .none))(c:GetC Γ j (.xn o)):ExV K o (tRet (tTup (zF (tVar i) (zF (tVar j) tNil)))) Γ:=λH0 F0 H F σ D e k=>by
 obtain⟨v,d,h⟩:=e.has i _ b.eq;obtain⟨u,l,a,rfl,m⟩:=e.has j _ c.eq;cases h;refine⟨_,d,.ref a,l,by show 2≤sizeLine;rw[sizeLine_eq];decide,λp hp=>?_⟩
 have g:=Gr.new e.le hp (.tup [.non,.ref a]);exact k _ _ _ (e.gr.trans g) ⟨p,a,rfl,zm,g.f _ _ m⟩
theorem zdY{t:TS}{N:AJ}{n:Nat}{H F:Hp}{vs:List V}{ds:AG}{Q:VK}(le:Same F H)(k:zV K F vs ds)(q:∀v H' F',Gr H F H' F'→TwX o F' v→Q v H')(b:N.length=n)(a:y0 n ds Γ)(h:ExV K o t Γ):t {nx:=λ_ H'=>Q .non H',rt:=Q} (L2.yM N vs) H:=by
 have e:=xj (N:=N) le k;rw[b,a.eq]at e;exact h H F H F _ _ e q
theorem zdD{sp h:Sp}{pre:AG→Prop}{l:TA}{ds:AG}{i j:Nat}{u:TS}{b c:Ctx}(q:EvA K S false l Γ ds)(hp:pre ds)(s1:SetC Γ i (some (.fz true .none)) b)(s2:SetC b j (some (.xn o)) c)(k:ExT K S S' u c P):
  ExT K S S' (tSeq (tAsg (y8 (spO sp (spO h (spAX K pre o))) [] E l) (gTup K 2 (uO (yt i) (uO (yt j) gNil)))) u) Γ P:=λH0 F0 H F σ B e r s D I =>
 q H0 F0 H F σ e _ λvs L t g1 w=>.inr (.inr ⟨t,ds,g1.le,by rw[ζx];exact zI w,hp,λv y A g2 ⟨p,a,C,G,J⟩=>by
  subst C;have g:=g1.trans g2;refine⟨p,_,rfl,SqT.of (g2.le _ _ G),rfl,_,_,rfl,_,_,rfl,rfl,?_⟩
  have m:=(e.mono g).setF (i:=i) (κ:=true) (v:=.non) (d:=.none) .non;rw[s1.eq]at m;have n:=m.set (i:=j) (v:=.ref a) (x:=.xn o) ⟨a,rfl,J⟩ λ_ z=>z.elim;rw[s2.eq]at n;exact k H0 F0 y A _ B n (r.trans g.f) s D I⟩)
theorem zb1{C:Addr}{ns:AE}{sp c:Sp}{pre:AG→AE→Prop}{h:TA}{ds:AG}{i j:Nat}{u:TS}{a b:Ctx}(o:EvA K S false h Γ ds)(hp:pre ds ns)(s1:SetC Γ i (some (.fz true .none)) a)(s2:SetC a j (some (.xp (rgP K C ns))) b)(k:ExT K S S' u b P):
  ExT K S S' (tSeq (tAsg (y8 (spO sp (spO (spAR K pre C) c)) [] E h) (gTup K 2 (uO (yt i) (uO (yt j) gNil)))) u) Γ P:=λH0 F0 H F σ B e q r D I =>
 o H0 F0 H F σ e _ λvs J s g1 t=>.inr (.inl ⟨s,ds,ns,g1.le,by rw[ζx];exact zI t,hp,λv w l g2 ⟨p,x,y,A,G⟩=>by
  subst y;have g:=g1.trans g2;refine⟨p,_,rfl,SqT.of (g2.le _ _ A),rfl,_,_,rfl,_,_,rfl,rfl,?_⟩
  have m:=(e.mono g).setF (i:=i) (κ:=true) (v:=.non) (d:=.none) .non;rw[s1.eq]at m;have n:=m.set (i:=j) (v:=x) (x:=.xp (rgP K C ns)) ⟨l,.refl _,G⟩ λ_ z=>z.elim;rw[s2.eq]at n;exact k H0 F0 w l _ B n (q.trans g.f) r D I⟩)
theorem zdE{pre:AG→AD→Prop}{h:Sp}{l:TA}{ds:AG}{d1:AD}{i j:Nat}{u:TS}{a b:Ctx}(o:EvA K S false l Γ ds)(hp:pre ds (.tuple [d1,.none]))(s1:SetC Γ i (some (.fz false d1)) a)(s2:SetC a j (some (.fz true .none)) b)(k:ExT K S S' u b P):
  ExT K S S' (tSeq (tAsg (y8 (spO (spD K true pre) h) [] E l) (gTup K 2 (uO (yt i) (uO (yt j) gNil)))) u) Γ P:=λH0 F0 H F σ B e q r D I =>
 o H0 F0 H F σ e _ λvs G s g1 t=>.inl ⟨s,ds,_,g1.le,by rw[ζx];exact zI t,hp,λv w x g2 y=>by
  obtain⟨p,us,rfl,z,c⟩:=zdM (xC y);cases c with
  | cons A c =>
   cases c with
   | cons C c =>
    cases c;cases zdN C;have g:=g1.trans g2;refine⟨p,_,rfl,Same.seqT g2.le z,rfl,_,_,rfl,_,_,rfl,rfl,?_⟩
    have m:=(e.mono g).setF (i:=i) (κ:=false) (d:=d1) (v9 A);rw[s1.eq]at m;have n:=m.setF (i:=j) (κ:=true) (v:=.non) (d:=.none) .non;rw[s2.eq]at n;exact k H0 F0 w x _ B n (q.trans g.f) r D I⟩
end
section
variable {K:ζa}{S S':Sx}{κ κ':Bool}{Γ Γ' Γ'':Ctx}{P:Post}{E:XK}{C:Addr}{ns:AE}
def spK3(K:ζa)(pre:AD→AE→AD→Prop)(C:Addr):Sp:=λvs H Q _=>∃F v0 d0 u ns d,vs=[v0,.non,u]∧Same F H∧Dp K F v0 d0∧rgP K C ns F u∧pre d0 ns d∧∀v H' F',Gr H F H' F'→Rp K false .fresh H F' v d→Q v H'
theorem Qt{pre:AD→AE→AD→Prop}{vs:List V}{H:Hp}{Q:VK}(s:spK3 K pre C vs H Q E):vs.length=3:=by
 obtain⟨F,a,b,u,ns,d,rfl,_⟩:=s;rfl
theorem zc3{t:TS}{N:AJ}{n:Nat}{H F:Hp}{a u:V}{d0 d:AD}{Q:VK}{Γ Γ':Ctx}(le:Same F H)(k:Dp K F a d0)(j:rgP K C ns F u)(q:∀v H' F',Gr H F H' F'→Rp K false .fresh H F' v d→Q v H')(l:N.length=n)(A:3≤n)(b:y0 n [d0,.none] Γ)(o:SetC Γ 2 (some (.xp (rgP K C ns))) Γ')
  (h:ExS K .fresh t Γ' {nx:=λ_=>d=.none,rt:=λx=>x=d,kr:=false}):t {nx:=λ_ H'=>Q .non H',rt:=Q} (L2.yM N [a,.non,u]) H:=by
 have f:=xj (N:=N) le (zV.cons k (.cons .non .nil));rw[l,b.eq]at f;have c:=f.set (i:=2) (v:=u) (x:=.xp (rgP K C ns)) ⟨F,.refl _,j⟩ λ_ z=>z.elim;rw[o.eq]at c;have s:(L2.yM N [a,.non]).set 2 (some u)=L2.yM N [a,.non,u]:=by
  unfold L2.yM;obtain⟨m,w⟩:∃m,N.length-2=m+1:=⟨N.length-3,⋯⟩
  have e:N.length-3=m:=by omega
  show([some a,some .non]++List.replicate (N.length-2) none).set 2 (some u)=[some a,some .non,some u]++List.replicate (N.length-3) none;rw[w,e,ζ5];rfl
 rw[s]at c;exact h H F H F _ F c (.refl _) (.inl rfl) _ ⟨λΓ' σ' H' F' n _ y=>q _ _ _ y.gr (n ▸ .non),λx v H' F' r g p=>q v H' F' g (r ▸ p),λ_ _ _ _ z=>z.elim,λ_ _ _ _ z=>z.elim⟩
theorem TQ{pre:AD→AE→AD→Prop}{b:TE}{i j:Nat}{a:Bool}{d0 d:AD}(h:EvE K S false b Γ d0)(hi:GetC Γ i (.fz a .none))(c:GetC Γ j (.xp (rgP K C ns)))(hp:pre d0 ns d)(hd:imm d=true):EvE K S κ (y8 (spK3 K pre C) [] E (zF b (zF (tVar i) (zF (tVar j) tNil)))) Γ d:=λH0 F0 H F σ e Q q =>
 h H0 F0 H F σ e _ λf t g g1 k=>by
  obtain⟨w,l,m⟩:=(e.mono g1).has i _ hi.eq;cases m;obtain⟨u,n,x,s1,o⟩:=(e.mono g1).has j _ c.eq;exact⟨_,l,u,n,g,f,d0,u,ns,d,rfl,g1.le,xC k,o.mono s1,hp,λv p r g3 s=>q v p r (g1.trans g3) (Wz hd (xC s))⟩
end
end PD
open PySem L2 PD
local macro_rules | `(tactic| walk_at"comp_ok")=>`(tactic| (refine vH.of (by with_unfolding_all rfl) (by decide +kernel) rfl (by decide +kernel) ?_ (by with_unfolding_all rfl) rfl (by with_unfolding_all rfl);(repeat (with_unfolding_all refine List.forall_mem_cons.mpr ⟨by with_unfolding_all rfl,?_⟩));exact List.forall_mem_nil _))
local macro_rules | `(tactic| walk_at"comp_okC")=>`(tactic| (refine uz.of (by with_unfolding_all rfl) (λ_ _=>by with_unfolding_all rfl) (by decide +kernel) rfl rfl rfl (by decide +kernel) ?_ (by with_unfolding_all rfl) rfl (by with_unfolding_all rfl);(repeat (with_unfolding_all refine List.forall_mem_cons.mpr ⟨by with_unfolding_all rfl,?_⟩));exact List.forall_mem_nil _))
local macro_rules | `(tactic| walk_at"comp_lam")=>`(tactic| exact vH.lam (by assumption) (by decide +kernel) rfl (by decide +kernel) (by decide +kernel) rfl (by with_unfolding_all rfl))
local macro_rules | `(tactic| walk_at"gc")=>`(tactic| ((repeat ((with_reducible apply GetC.succ))) ;(with_reducible exact GetC.zero)))
local macro_rules | `(tactic| walk_at"sc")=>`(tactic| ((repeat ((with_reducible apply SetC.succ))) ;(with_reducible exact SetC.zero)))
local macro_rules | `(tactic| walk_at"st")=>`(tactic| ((repeat (first|(with_reducible apply y0.got)|((with_reducible apply y0.no)))) ;(with_reducible exact y0.z)))
local macro_rules | `(tactic| walk_at"cc")=>`(tactic| ((repeat (first|(with_reducible apply xF.no)|((with_reducible apply xF.got) ;focus walk_at"gc")));(with_reducible exact xF.nil)))
local macro_rules | `(tactic| walk_at"mk")=>`(tactic| ((repeat (first|((with_reducible apply MarkC.got);focus (first|exact MkD.fz|exact MkD.ow|exact MkD.im rfl|exact MkD.ox))|(with_reducible apply MarkC.no)));(with_reducible exact MarkC.nil)))
local macro_rules | `(tactic| walk_at"sp")=>`(tactic| ((repeat (first|((with_reducible apply SpC.got);focus (first|exact SpD.fz|exact SpD.ow|exact SpD.im rfl|exact SpD.ox|exact SpD.tn))|(with_reducible apply SpC.no)));(with_reducible exact SpC.nil)))
local macro_rules | `(tactic| walk_at"sd")=>`(tactic| first|((with_reducible apply asm) ;assumption)|decide|omega|skip)
local macro_rules | `(tactic| walk_at"ln")=>`(tactic| (simp only[List.length_cons,List.length_nil];decide))
local macro_rules | `(tactic| walk_at"ev")=>`(tactic| first
 | (with_reducible exact YD)
 | (with_reducible exact YB)
 | (with_reducible exact zel)
 | (with_reducible exact YA)
 | (with_reducible exact Wy)
 | (with_reducible exact zL)
 | (with_reducible exact uv)
 | ((with_reducible apply asm) ;(with_reducible assumption))
 | ((with_reducible apply evv) ;walk_at"gc";decide)
 | ((with_reducible apply evi) ;walk_at"gc";rfl)
 | ((with_reducible apply evtn) ;walk_at"gc";done)
 | ((with_reducible apply evw) ;walk_at"gc";decide)
 | ((with_reducible apply tf)<;>walk_at"ev")
 | ((with_reducible apply zdG)<;>walk_at"ev")
 | ((with_reducible apply UT)<;>walk_at"ev")
 | ((with_reducible apply ev_le)<;>walk_at"ev")
 | ((with_reducible apply uQ)<;>walk_at"ev")
 | ((with_reducible apply zaP)<;>walk_at"ev")
 | ((with_reducible apply wY)<;>walk_at"ev")
 | ((with_reducible apply y6)<;>walk_at"ev")
 | ((with_reducible apply ev_fdivB)<;>walk_at"ev")
 | ((with_reducible apply yE)<;>walk_at"ev")
 | ((with_reducible apply Zu)<;>walk_at"ev")
 | ((with_reducible apply YC)<;>walk_at"ev")
 | ((with_reducible refine' ev_isN (EvE.toD (κ:=false) ?_))<;>walk_at"ev")
 | ((with_reducible refine' Wu (EvE.toD (κ:=false) ?_))<;>walk_at"ev")
 | ((with_reducible apply zM)<;>walk_at"ev")
 | ((with_reducible apply z0)<;>walk_at"ev")
 | ((with_reducible apply u9)<;>walk_at"ev" <;> done)
 | ((with_reducible apply zaO)<;>walk_at"ev" <;> done)
 | ((with_reducible apply ev_eqB)<;>walk_at"ev" <;> done)
 | ((with_reducible apply ev_neB)<;>walk_at"ev" <;> done)
 | ((with_reducible apply ev_eqS)<;>walk_at"ev" <;> done)
 | ((with_reducible apply ev_neS)<;>walk_at"ev" <;> done)
 | ((with_reducible apply yV)<;>(try (with_reducible intro _))<;>walk_at"ev")
 | ((with_reducible apply ev_or)<;>(try (with_reducible intro _))<;>walk_at"ev")
 | ((with_reducible apply Wv)<;>walk_at"ev")
 | ((with_reducible apply zW)<;>walk_at"ev")
 | ((with_reducible apply et_B)<;>walk_at"ev")
 | ((with_reducible apply xt)<;>(try (with_reducible intro _))<;>walk_at"ev")
 | ((with_reducible apply xO)<;>(try (with_reducible intro _))<;>walk_at"ev")
 | ((with_reducible apply yk)<;>walk_at"ev")
 | ((with_reducible apply zi)<;>walk_at"ev")
 | ((with_reducible apply v7)<;>walk_at"ev")
 | ((with_reducible apply EvO.toE) ;((with_reducible apply zT))<;>walk_at"ev")
 | ((with_reducible apply zT)<;>walk_at"ev")
 | ((with_reducible apply yj)<;>walk_at"ev" <;> done)
 | ((with_reducible apply ev_lenT)<;>walk_at"ev")
 | ((with_reducible apply EvO.toE) ;((with_reducible apply yD))<;>walk_at"ev")
 | ((with_reducible apply yD)<;>walk_at"ev")
 | ((with_reducible apply ev_abs)<;>walk_at"ev")
 | ((with_reducible apply Zc)<;>walk_at"ev")
 | ((with_reducible apply EvO.toE) ;((with_reducible apply wz))<;>walk_at"ev")
 | ((with_reducible apply wz)<;>walk_at"ev")
 | ((with_reducible apply EvO.toE) ;((with_reducible apply uu))<;>walk_at"ev")
 | ((with_reducible apply uu)<;>walk_at"ev")
 | ((with_reducible apply EvO.toE) ;((with_reducible apply evo_rep))<;>walk_at"ev")
 | ((with_reducible apply evo_rep)<;>walk_at"ev")
 | ((with_reducible apply EvO.toE) ;((with_reducible apply v6))<;>walk_at"ev")
 | ((with_reducible apply v6)<;>walk_at"ev")
 | ((with_reducible refine' yG (EvE.toD (κ:=false) ?_) ?_)<;>walk_at"ev")
 | ((with_reducible apply zD)<;>walk_at"ev")
 | ((with_reducible apply YE)<;>walk_at"ev")
 | ((with_reducible apply zaK) ;walk_at"ev";done)
 | ((with_reducible apply evl_opts) ;walk_at"ev";done)
 | ((with_reducible apply EvE.toL) ;walk_at"ev";done)
 | ((with_reducible apply EvO.toL) ;walk_at"ev";done)
 | (with_reducible apply isE)
 | (with_reducible apply isL)
 | (with_reducible apply isT)
 | (with_reducible apply isA)
 | (with_reducible apply isO)
 | (with_reducible apply isD)
 | (with_reducible apply isI)
 | (with_reducible exact atI0)
 | (with_reducible exact atI1)
 | ((with_reducible apply asm) ;(with_reducible assumption))
 | ((with_reducible apply zdu) ;with_unfolding_all rfl)
 | (simp only[List.length_cons,List.length_nil];decide)
 | decide
 | omega
 | skip)
local macro_rules | `(tactic| walk_at"go")=>`(tactic| repeat (first
 | ((with_reducible apply exo (te:=tLst tNil) true) ;(focus (walk_at"ev";done));(focus walk_at"sc"))
 | ((with_reducible apply exs true) ;(focus (walk_at"ev";done));(focus walk_at"sc"))
 | ((with_reducible apply exs false) ;(focus (walk_at"ev";done));(focus walk_at"sc"))
 | ((with_reducible apply exa) ;(focus walk_at"gc");(focus (walk_at"ev";done));(focus walk_at"sc");(focus (walk_at"sd";done)))
 | (with_reducible apply exn)))
local macro_rules | `(tactic| walk_at"run")=>`(tactic| (apply zbl;assumption;assumption;assumption;assumption;focus walk_at"st"))
local macro_rules | `(tactic| walk_at"ot")=>`(tactic| first|exact oneT_of (Nat.le_refl 1)|exact oneT_of (Nat.zero_le 1))
local macro_rules | `(tactic| walk_at"sv")=>`(tactic| ((repeat (first|(with_reducible apply StartV.got)|((with_reducible apply StartV.no)))) ;(with_reducible exact StartV.z)))
local macro_rules | `(tactic| walk_at"runv")=>`(tactic| (apply run_defV;assumption;assumption;assumption;assumption;focus walk_at"sv"))
namespace L2
open PySem PySem.Spec PyProof.Rows
theorem pF{X:Cx}{x:Str}{ps:AJ}{k m:Nat}{sp:Sp}{e:Expr}{a:List Expr}{t:TA}{p b:Pos}(C:zE X.prog X.w X.K X.mg X.base CX0 x ps k sp)(f:Room m X.A)(g:PA X (e::a) t)(h:k≤m:=by decide)(i:Gl X x:=by rfl)(c:(x==("__debug__" : Str))=false:=by decide)(j:starEach (e::a) X.env=(false,eval e X.env)::starEach a X.env:=by rfl)(d:(backTo b (starEach a X.env)).any (·.1)=false:=by rfl):PE X (.Call (.Name x p) (e::a) [] b) (y8 sp [] E0 t):=Uy C (f.mono h) i zd6 g c j d
theorem pB{X:Cx}{id:String}{r:List V→Hp→VK→Prop}{x:Str}{e:Expr}{a:List Expr}{t:TA}{p b:Pos}(f:yo X (.builtin id) r)(g:X.mg x=none)(h:PA X (e::a) t)(i:Gl X x:=by rfl)(j:bootBuiltins x=some (.builtin id):=by decide +kernel)(k:x ≠ "__name__" := by decide)(c:(x==("__debug__" : Str))=false:=by decide)(l:starEach (e::a) X.env=(false,eval e X.env)::starEach a X.env:=by rfl)(d:(backTo b (starEach a X.env)).any (·.1)=false:=by rfl):PE X (.Call (.Name x p) (e::a) [] b) (tCB r t):=QU f i g j h k c l d
theorem pY{X:Cx}{T:String}{r:List V→Hp→VK→Prop}{x:Str}{e:Expr}{a:List Expr}{t:TA}{p b:Pos}(f:yo X (.type T) r)(g:X.mg x=none)(h:PA X (e::a) t)(i:Gl X x:=by rfl)(j:bootBuiltins x=some (.type T):=by decide +kernel)(k:x ≠ "__name__" := by decide)(c:(x==("__debug__" : Str))=false:=by decide)(l:starEach (e::a) X.env=(false,eval e X.env)::starEach a X.env:=by rfl)(d:(backTo b (starEach a X.env)).any (·.1)=false:=by rfl):PE X (.Call (.Name x p) (e::a) [] b) (tCB r t):=Tg f i g j h k c l d
theorem pS{X:Cx}{i:Nat}{x:Str}{e:Expr}{te:TE}{b a:Pos}(c:X.N.Nodup)(d:PE X e te)(hi:X.N[i]?=some x:=by rfl)(f:Loc X.env.scope x:=by first|exact .inl rfl|exact .inr rfl)(g:swapsWith e (some (.Name x a)) b.line X.env=pure false:=by rfl)(h:X.fn x=true∨X.env.scope.names.lookup x=some .local:=by first|exact .inl rfl|exact .inr rfl|assumption):PS X (.Assign [.Name x a] e b) (tAsg te (yt i)):=zdb c hi f d g h
theorem pN{X:Cx}{i:Nat}{x:Str}{a:Pos}(b:X.N.Nodup)(hi:X.N[i]?=some x:=by rfl)(c:Loc X.env.scope x:=by first|exact .inl rfl|exact .inr rfl)(d:X.fn x=true∨X.env.scope.names.lookup x=some .local:=by first|exact .inl rfl|exact .inr rfl|assumption):PG X (.Name x a) (yt i):=zbC b hi c d
theorem pX{X:Cx}{r:R2}{a b:Expr}{d tb:TE}{c:Pos}(e:IxR X r)(f:PE X a d)(g:PE X b tb)(h:U4 b:=by exact λ_ _=>rfl):PE X (.Subscript a b c) (tOp r d tb):=zd3 e f g h
end L2
namespace K16
open PySem L2 PD Cm
def top(i:Nat):Stmt:=PySem.Challenge.pw_causebook_k16_refused_books.main.body.getD i (.Pass ⟨0,0,0,0⟩)
def meth(i:Nat):Stmt:=match top i with | .ClassDef _ _ _ b _ _ _ _ _ _ _=>b.getD 0 (.Pass ⟨0,0,0,0⟩)|z=>z
structure Bs(mg:AN):Prop where
 len:mg "len" = none
 set:mg "set" = none
 list:mg "list" = none
 range:mg "range" = none
 reversed:mg "reversed" = none
 min:mg "min" = none
 isinstance:mg "isinstance" = none
 int:mg "int" = none
 bool:mg "bool" = none
 all:mg "all" = none
 sorted:mg "sorted" = none
 zip:mg "zip" = none
 sum:mg "sum" = none
 max:mg "max" = none
 any:mg "any" = none
 tuple:mg "tuple" = none
 ValueError:mg "ValueError" = none
structure Cs(K:ζa)(mg:AN)(cA cB cC:Addr)(τa τb τc τd:Tok)(f_Ring:Addr)(g_Ring:FuncData):Prop where
 n_MOST_THINGS:mg "MOST_THINGS" = some (.int 12 τa)
 n_MOST_CAUSES:mg "MOST_CAUSES" = some (.int 5 τb)
 n_LEAST_SIZE:mg "LEAST_SIZE" = some (.int 2 τc)
 n_GREATEST_SIZE:mg "GREATEST_SIZE" = some (.int 4 τd)
 n_BookError:mg "BookError" = some (.ref cA)
 n_NoBook:mg "NoBook" = some (.ref cB)
 n_Ring:mg "Ring" = some (.ref cC)
 e_NoBook:ECl K mg "NoBook" cB
 i_Ring:EIs K cC
 i_NoBook:EIs K cB
 m_Ring_BookError:PySem.W.mroIn K cC (.ref cA)=some true
 m_NoBook_BookError:PySem.W.mroIn K cB (.ref cA)=some true
 b_BookError:PySem.W.mroIn K cA (.type "BaseException")=some true
 t_BookError:PySem.W.typeIn K (.ref cA)=some (.type "type")
 k_Ring_Ring:PySem.W.kitOne K (.ref cC) (.ref cC)=some true
 k_Ring_ValueError:PySem.W.kitOne K (.ref cC) (.type "ValueError")=some true
 k_Ring_NoBook:PySem.W.kitOne K (.ref cC) (.ref cB)=some false
 k_NoBook_NoBook:PySem.W.kitOne K (.ref cB) (.ref cB)=some true
 k_NoBook_ValueError:PySem.W.kitOne K (.ref cB) (.type "ValueError")=some true
 k_NoBook_Ring:PySem.W.kitOne K (.ref cB) (.ref cC)=some false
 r_Ring:RCl K cC f_Ring
 p_Ring:PySem.W.keepIn K (.ref cC)=true
 u_BookError:BIn K cA
 F_Ring:Fun K "__init__" "Ring.__init__" (meth 3) f_Ring g_Ring
 d_Ring:ud K g_Ring ["self","ring"] []
 o_Ring:∃oI,K.lookup f_Ring=some oI∧oI.cls=.type "function"
section
variable {P:Program}{w:World}{K:ζa}{mg:AN}{base:Heap}{f:Addr}{fd:FuncData}{cA cB cC:Addr}{τa τb τc τd:Tok}{f_Ring:Addr}{g_Ring:FuncData}
seal PE PA PS PSs PT PG PIG
open Wd Sx2
theorem zU:200000<sizeLine:=by decide
abbrev nl(ks:AF):AD:=.list (ks.map λk:Nat=>.int (k:Int))
theorem Q5(a:AF):∀d∈a.map (λk:Nat=>PyData.int (k:Int)),imm d=true:=λd hd=>by
 obtain⟨n,_,rfl⟩:=ζn.mp hd;rfl
def Yh(ds:AG)(d:AD):Prop:=∃(vs:AG) (ks:AF),ds=[.list vs,nl ks]∧(∀d∈vs,imm d=true)∧(∀k∈ks,k<vs.length)∧ks.length≤63∧d=.list (ks.map λk=>vs.getD k .none)
def pkF(vs:AG):AD→AD
 | .int k=>vs.getD k.toNat .none
 | _=>.none
theorem zbx(ss:AE)(a:AF)(h:∀k∈a,k<ss.length):(a.map λk=>(ss.map PyData.int).getD k .none)=(pk ss a).map .int:=by
 unfold Sx2.pk;rw[ζP];refine ξo λk b=>?_;have:=h k b;rw[ζf,ζj,ζe this];show PyData.int _=PyData.int (ss.getD k 0);rw[ζf,ζe this];rfl
theorem Ta:zJ ["values","things"] ["values","things"] (zr (top 30)):={}
theorem okD{P:Program}{w:World}{K:ζa}{mg:AN}{base:Heap}{x qual:Str}{st:Stmt}{f:Addr}{fd:FuncData}{N ps:AJ}{k:Nat}{κ:Bool}{pre:AG→AD→Prop}(F:Fun K x qual st f fd)(S:zJ N ps (zr st))(L:∀ds d,pre ds d→ds.length=ps.length)(b:∀(cdv:Value) (A:Around) (outer:List Env) (s:Shared) (H:Hp) (vs:List V) (Q:VK) (E:XK),Room k (A.deeper (PyProof.Rows.envOfC qual (zr st) s.heap.objs.size f cdv))→∀(a:Hp) (ds:AG) (d:AD),Same a H→zV K a vs ds→pre ds d→(∀v H' F',Gr H a H' F'→Rp K κ .fresh H F' v d→Q v H')→∃t,PSs (cxOf CX0 P w K mg base N qual (zr st) f cdv A outer s H E).nox (xk st) t∧t {nx:=λ_ H'=>Q .non H',rt:=Q} (yM N vs) H):FnOk P w K mg base CX0 (k+1) f fd ps (spD K κ pre):=F.ok S (λvs H Q E h=>Um L h) λcdv A outer s H vs Q E c h=>by
 obtain⟨a,ds,d,le,dp,p,q⟩:=h;exact b cdv A outer s H vs Q E c a ds d le dp p q
theorem Tj(F:Fun K "picked" "picked" (top 30) f fd)(B:Bs mg)(Z:Cs K mg cA cB cC τa τb τc τd f_Ring g_Ring): FnOk P w K mg base CX0 1 f fd ["values","things"] (spD K true Yh):=by
 have sc:=Ta;refine okD F sc (λ_ _⟨_,_,e,_⟩=>by rw[e];rfl) λcdv A outer s H vs Q E l m ds d le dp p q=>?_;refine⟨_,(zh (zH (zZ rfl (N:=["k","values"]) (js:=[none,some 0]) (by walk_at"comp_ok") (zB (K:=K) rfl (pv 1)) (λ_ _ _ _=>(pN (i:=0) (show υN ["k","values"]by decide +kernel))) (λ_ _ _ _=>zP) (λ_ _ _ _=>(pX (zj (K:=K) rfl) (pv 1) (pv 0)))))),?_⟩
 have o:=sc.n 2;obtain⟨a,r,rfl,b,j,t,rfl⟩:=p;walk_at"run";refine zR true (EvO.toE (EvO.eq (UQ (is:=[0]) false (pkF a) (zO ∅) (by walk_at"cc") rfl #[2] ?_ ?_) ?_)) rfl (.inl ⟨rfl,rfl⟩)
 ·rw[ζc];have:=zU;omega
 ·intro d hd;obtain⟨k,c,rfl⟩:=ζn.mp hd;have g:=j k c;refine egn #[0] ?_;have h:atI a (k:Int)=some (pkF a (.int k)):=ym (by
   show _=some (a.getD (Int.toNat (k:Int)) .none);rw[ζH,ζf,ζe g];rfl)
  exact zM ((EvE.toL (κ:=false) ∅).imm b) ∅ h
 ·rw[ζP];rfl
theorem wR{ns:AE}{k:Nat}(h:k<ns.length):atI (ns.map PyData.int) (k:Int)=some (.int (ns.getD k 0)):=by
 rw[ζf,ζe h];exact uy (ζe h)
abbrev nls(cs:AI):AD:=.list (cs.map nl)
abbrev tbl(ts:List AH):AD:=.list (ts.map lls)
abbrev zX(ss:AE)(cs:AI)(ts:List AH):AD:=.tuple [il ss,nls cs,tbl ts]
structure ZP(s:Int)(r:AE):Prop where
 l:(r.length:Int)=s
 w:∀x∈r,0≤x∧x<10^60
 p:1≤r.sum
 b:r.sum<10^62
structure BkOk(ss:AE)(cs:AI)(ts:List AH):Prop where
 s:∀s∈ss,2≤s∧s≤4
 n:ss.length≤12
 cl:cs.length=ss.length
 tl:ts.length=ss.length
 ck:∀(k:Nat) own,cs[k]?=some own→(∀c∈own,c<ss.length)∧own.length≤5
 tk:∀(k:Nat) own t,cs[k]?=some own→ts[k]?=some t→(t.length:Int)=prod (pk ss own)
 rk:∀(k:Nat) t,ts[k]?=some t→∀r∈t,ZP (ss.getD k 0) r
theorem atI2{d:Type}{a b c:d}{l:List d}:atI (a::b::c::l) 2=some c:=ym (j:=2) rfl
theorem zA{a:Type}{l:List a}{k:Nat}{d:a}(h:k<l.length):l[k]?=some (l.getD k d):=by
 rw[ζf,ζe h];rfl
theorem zbw(ss:AE)(a:AF)(k:Nat):pk ss (a++[k])=pk ss a++[ss.getD k 0]:=by
 unfold Sx2.pk;rw[ζF];rfl
theorem yJ{ss:AE}(h:∀s∈ss,2≤s∧s≤4){k:Nat}(a:k<ss.length):2≤ss.getD k 0∧ss.getD k 0≤4:=by
 rw[ζf,ζe a];exact h _ (ξM a)
theorem uf:∀(xs:AE) (n:Nat),(∀x∈xs,1≤x∧x≤4)→xs.length≤n→prod xs≤4^n∧1≤prod xs
 | [],n,_,_=>by
  show(1:Int)≤4^n∧(1:Int)≤1;exact⟨by have:=Int.pow_pos (n:=4) (m:=n) #[2];omega,#[2]⟩
 | x::r,0,_,h=>by cases h
 | x::r,n+1,hx,h=>by
  have a:=uf r n (λy c=>hx y (List.mem_cons_of_mem _ c)) (by simpa using h);have b:=hx x ζi;show x*prod r≤4^(n+1)∧1≤x*prod r;rw[Int.pow_succ,Int.mul_comm ((4:Int)^n) 4];refine⟨Int.mul_le_mul b.2 a.1 ⋯ #[2],?_⟩
  have:=Int.mul_le_mul b.1 a.2 #[2] ⋯;omega
theorem BkOk.pr{ss:AE}{cs:AI}{ts:List AH}(h:BkOk ss cs ts){k:Nat}{own:AF}(a:cs[k]?=some own):prod (pk ss own)≤1024:=by
 have c:=h.ck k own a;have:=uf (pk ss own) 5 (λx b=>by
  obtain⟨j,d,rfl⟩:=ζn.mp b;have:=yJ h.s (k:=j) (c.1 j d);omega) (by unfold Sx2.pk;rw[List.length_map];exact c.2)
 exact this.1
theorem BkOk.tlen{ss:AE}{cs:AI}{ts:List AH}(h:BkOk ss cs ts){t:AH}(f:t∈ts):t.length≤1024:=by
 obtain⟨k,a⟩:=ζI.mp f;have b:=(ζg.mp a).1;rw[h.tl,←h.cl]at b;have c:=zA (d:=([]:AF)) b;have e:=h.tk k _ _ c a;have:=h.pr c;omega
def nD(cs:AF):AG:=cs.map λk:Nat=>.int (k:Int)
def zl(ks:AF):AE:=ks.map λk:Nat=>(k:Int)
theorem vW(a:AF):nl a=il (zl a):=by
 unfold zl;show PyData.list _=.list _;rw[ζP];rfl
theorem BkOk.pr1{ss:AE}{cs:AI}{ts:List AH}(h:BkOk ss cs ts){k:Nat}{own:AF}(a:cs[k]?=some own):1≤prod (pk ss own):=by
 have c:=h.ck k own a;have:=uf (pk ss own) 5 (λx b=>by
  obtain⟨j,d,rfl⟩:=ζn.mp b;have:=yJ h.s (k:=j) (c.1 j d);omega) (by unfold Sx2.pk;rw[List.length_map];exact c.2)
 exact this.2
theorem zcT{ns:AE}(h:ns.Nodup):dd ns=ns:=by
 suffices z:∀n,dd (ns.take n)=ns.take n by simpa using z ns.length
 intro n;induction n with
 | zero=>rfl
 | succ n a =>
  by_cases c:n<ns.length
  ·have e:ns.take (n+1)=ns.take n++[ns[n]]:=by rw[List.take_succ,ζe c];rfl
   rw[e,WA,a];unfold PyProof.Rows.step_dedup;refine if_neg λz=>?_;obtain⟨x,d,ex⟩:=ξh.mp z;have ex:=eq_of_beq ex;subst ex;have b:=h.sublist (List.take_sublist (n+1) ns);rw[e,ξm]at b;exact b.2.2 _ d _ (ζs.mpr rfl) rfl
  ·have f:ns.take (n+1)=ns.take n:=by rw[ζO ⋯,ζO ⋯]
   rw[f];exact a
theorem QC{r:AF}(h:r.Pairwise (·<·)):(srt (dd (zl r))).map PyData.int=r.map λk:Nat=>PyData.int (k:Int):=by
 have c:(zl r).Pairwise (·<·):=by
  unfold zl;rw[ξX];exact h.imp λ{a b} z=>by omega
 have d:dd (zl r)=zl r:=zcT (by rw[List.nodup_iff_pairwise_ne];exact c.imp λ{a b} z=>by omega);have e:zl r=srt (zl r):=VD (.refl _) (c.imp λ{a b} z=>by omega);rw[d,←e];unfold zl;rw[ζP];rfl
theorem vk(cs:AI):SeqAt.shaped (nls cs)=true:=w6 (ZT (g:=nl) (λk=>ZT (g:=λk:Nat=>PyData.int (k:Int)) (λ_=>rfl) k) cs) (by
 have:=uw (g:=nl) (n:=1) (λk=>by
  have:=uw (g:=λk:Nat=>PyData.int (k:Int)) (n:=0) (λ_=>ζp _) k;show PyData.depthAll _+1≤1;omega) cs
 show PyData.depthAll _+1≤50;omega)
theorem QB{k:Int}{ns:AE}{x:Int}(h:x∈rm k ns):x∈ns:=by
 rcases ζu.mp h with h|h
 ·exact List.mem_of_mem_take h
 ·exact List.mem_of_mem_drop h
theorem Yb{k:Int}{ns:AE}(h:k∈ns):(rm k ns).length+1=ns.length:=by
 have:=ζ9.mpr h;unfold rm;rw[ζr,ζL,ζ2];omega
theorem Ur{k:Int}{ns:AE}(h:k∈ns):ns.Perm (k::rm k ns):=by
 have a:=ζ9.mpr h;have e:ns=ns.take (ns.idxOf k)++k::ns.drop (ns.idxOf k+1):=by
  have z:=ζ8 (ns.idxOf k) ns;rw[ξU a,List.getElem_idxOf a]at z;exact z.symm
 unfold rm;exact(List.Perm.of_eq e).trans ξL
theorem QA{k:Int}{ns:AE}:(rm k ns).Sublist ns:=by
 have z:=ζ8 (ns.idxOf k) ns;have s:(ns.drop (ns.idxOf k+1)).Sublist (ns.drop (ns.idxOf k)):=by
  rw[←List.drop_drop];exact List.drop_sublist _ _
 have:=List.Sublist.append (List.Sublist.refl (ns.take (ns.idxOf k))) s;rw[z]at this;exact this
def rdP(cs:AI)(ns:AE)(x:Int):Bool:=!((zl (cs.getD x.toNat [])).any λc=>decide (c∈ns))
theorem zc8{cs:AI}{ns:AE}{x:Int}(h:rdP cs ns x=false):∃c,c∈zl (cs.getD x.toNat [])∧c∈ns:=by
 unfold rdP at h;rw[Bool.not_eq_false',ξh]at h;obtain⟨c,a,b⟩:=h;exact⟨c,a,of_decide_eq_true b⟩
def grd(cs:AI):Nat→AE→Option AE
 | 0,_=>some []
 | m+1,L=>match L.filter (rdP cs L)with
  | []=>none
  | x::_=>(grd cs m (rm x L)).map (x::·)
def stF(cs:AI):Nat→AE→AE
 | 0,L=>L
 | m+1,L=>match L.filter (rdP cs L)with
  | []=>L
  | x::_=>stF cs m (rm x L)
theorem t8{cs:AI}{m:Nat}{L r:AE}{x:Int}(h:L.filter (rdP cs L)=x::r):grd cs (m+1) L=(grd cs m (rm x L)).map (x::·):=by
 conv=>lhs;unfold grd
 rw[h]
theorem UM{cs:AI}{m:Nat}{L:AE}(h:L.filter (rdP cs L)=[]):grd cs (m+1) L=none:=by
 unfold grd;rw[h]
theorem WI{cs:AI}{m:Nat}{L r:AE}{x:Int}(h:L.filter (rdP cs L)=x::r):stF cs (m+1) L=stF cs m (rm x L):=by
 conv=>lhs;unfold stF
 rw[h]
theorem XH{cs:AI}{m:Nat}{L:AE}(h:L.filter (rdP cs L)=[]):stF cs (m+1) L=L:=by
 conv=>lhs;unfold stF
 rw[h]
theorem zcK{L:AE}(a:L.Pairwise (·<·)):L.Nodup:=a.imp λh e=>by rw[e]at h;exact absurd h (Int.lt_irrefl _)
structure Stk(cs:AI)(L S:AE):Prop where
 ne:S≠[]
 sb:S.Sublist L
 h:∀k∈S,∃c,c∈zl (cs.getD k.toNat [])∧c∈S
theorem ui{cs:AI}:∀(m:Nat) {L:AE},L.length=m→grd cs m L=none→Stk cs L (stF cs m L)
 | 0,L,hl,h=>by cases h
 | m+1,L,hl,h=>by
  cases e:L.filter (rdP cs L)with
  | nil =>
   rw[XH e];refine⟨λz=>(by rw[z]at hl;cases hl),List.Sublist.refl _,λk a=>zc8 ?_⟩
   cases c:rdP cs L k with
   | false=>rfl
   | true =>
    have:k∈L.filter (rdP cs L):=ζQ.mpr ⟨a,c⟩;rw[e]at this;cases this
  | cons x r =>
   rw[t8 e]at h;have b:x∈L:=(ζQ.mp (by rw[e];exact ζi)).1;have i:=Yb b;obtain⟨d,f,g⟩:=ui m (L:=rm x L) ⋯ (ξ3.mp h);rw[WI e];exact⟨d,f.trans QA,g⟩
def wtF(cs:AI)(S:AE)(k:Int):AE:=(zl (cs.getD k.toNat [])).filter λc=>decide (c∈S)
def lstD(tr:AE):Int:=tr.getD (tr.length-1) 0
def trF(cs:AI)(S:AE):Nat→AE→AE
 | 0,tr=>tr
 | m+1,tr=>if(wtF cs S (lstD tr)).getD 0 0∈tr then tr.drop (tr.idxOf ((wtF cs S (lstD tr)).getD 0 0))else trF cs S m (tr++[(wtF cs S (lstD tr)).getD 0 0])
def lsF(r:AE):AE:=r.drop (r.idxOf (mnL r))++r.take (r.idxOf (mnL r))
def Yc(cs:AI)(S:AE):AE:=lsF (trF cs S 14 [S.getD 0 0]).reverse
def Ch(cs:AI):AE→Prop
 | a::b::l=>a∈zl (cs.getD b.toNat [])∧Ch cs (b::l)
 | _=>True
theorem Ch.tail{cs:AI}{a:Int}{l:AE}(h:Ch cs (a::l)):Ch cs l:=by
 cases l with
 | nil=>trivial
 | cons b l=>exact h.2
theorem Ch.app{cs:AI}:∀{u v:AE},Ch cs u→Ch cs v→(∀x y,u.getLast?=some x→v.head?=some y→x∈zl (cs.getD y.toNat []))→Ch cs (u++v)
 | [],_,_,hv,_=>hv
 | [a],v,_,hv,hc=>by
  cases v with
  | nil=>trivial
  | cons b v=>exact⟨hc a b rfl rfl,hv⟩
 | a::b::u,v,hu,hv,hc=>⟨hu.1,Ch.app (u:=b::u) hu.2 hv λx y c d=>hc x y (by rw[List.getLast?_cons_cons];exact c) d⟩
theorem Ch.left{cs:AI}:∀{u v:AE},Ch cs (u++v)→Ch cs u
 | [],_,_=>trivial
 | [a],_,_=>trivial
 | a::b::u,v,h=>⟨h.1,Ch.left (u:=b::u) h.2⟩
theorem Ch.right{cs:AI}:∀{u v:AE},Ch cs (u++v)→Ch cs v
 | [],_,h=>h
 | a::u,v,h=>Ch.right (u:=u) (Ch.tail h)
theorem Ch.mid{cs:AI}:∀{u v:AE} {x y:Int},Ch cs (u++v)→u.getLast?=some x→v.head?=some y→x∈zl (cs.getD y.toNat [])
 | [],_,_,_,_,hx,_=>by cases hx
 | [a],v,x,y,h,hx,hy=>by
  cases hx;cases v with
  | nil=>cases hy
  | cons b v=>cases hy;exact h.1
 | a::b::u,v,x,y,h,hx,hy=>Ch.mid (u:=b::u) h.2 (by rw[List.getLast?_cons_cons]at hx;exact hx) hy
structure Cy(cs:AI)(S r:AE):Prop where
 ne:r≠[]
 nd:r.Nodup
 sb:∀x∈r,x∈S
 ch:Ch cs r
 cl:∀x y,r.getLast?=some x→r.head?=some y→x∈zl (cs.getD y.toNat [])
theorem Yu{u:AE}(a:u≠[])(w:AE):(w++u).getLast?=u.getLast?:=by
 rw[List.getLast?_append];cases h:u.getLast? with
 | none=>exact absurd (List.getLast?_eq_none_iff.mp h) a
 | some _=>rfl
theorem Yv{u:AE}(a:u≠[])(w:AE):(u++w).head?=u.head?:=by
 cases u with
 | nil=>exact absurd rfl a
 | cons _ _=>rfl
theorem Cy.turn{cs:AI}{S u v:AE}(h:Cy cs S (u++v)):Cy cs S (v++u):=by
 by_cases b:u=[]
 ·subst b;simpa using h
 by_cases d:v=[]
 ·subst d;simpa using h
 have g:∀w:AE,(w++u).getLast?=u.getLast?:=Yu b;have i:∀w:AE,(w++v).getLast?=v.getLast?:=Yu d;have e:∀w:AE,(u++w).head?=u.head?:=Yv b;have f:∀w:AE,(v++w).head?=v.head?:=Yv d;refine⟨λz=>b (List.append_eq_nil_iff.mp z).2,(List.perm_append_comm.nodup_iff).mp h.nd,λx a=>h.sb x (ζu.mpr (ζu.mp a).symm),Ch.app (Ch.right h.ch) (Ch.left h.ch) λx y a c=>?_,λx y a c=>?_⟩
 ·exact h.cl x y (by rw[i];exact a) (by rw[e];exact c)
 ·rw[g]at a;rw[f]at c;exact Ch.mid h.ch a c
theorem Zq:∀{l S:AE},l.Nodup→(∀x∈l,x∈S)→l.length≤S.length
 | [],_,_,_=>ξa _
 | x::l,S,nd,sb=>by
  obtain⟨c,d⟩:=ξn.mp nd;have b:=sb x ζi;have:=Yb b;have e:=Zq (l:=l) (S:=rm x S) d λy a=>by
   rcases ζq.mp ((Ur b).mem_iff.mp (sb y (ζb _ a)))with z|z
   ·rw[z]at a;exact absurd a c
   ·exact z
  rw[ζZ];omega
theorem Wg{tr:AE}(h:tr≠[]):tr.getLast?=some (lstD tr):=by
 have:=ζK.mpr h;unfold lstD;rw[List.getLast?_eq_getElem?,ζf,ζe ⋯];rfl
theorem Qg{cs:AI}{L S:AE}(st:Stk cs L S)(n:S.length≤12):∀(m:Nat) {tr:AE},tr≠[]→tr.Nodup→(∀x∈tr,x∈S)→Ch cs tr.reverse→13≤tr.length+m→Cy cs S (trF cs S m tr).reverse
 | 0,tr,ne,nd,sb,_,hl=>by
  have:=Zq nd sb;omega
 | m+1,tr,ne,nd,sb,ch,hl=>by
  have i:=Wg ne;have o:lstD tr∈tr:=List.mem_of_getLast? i;have p:wtF cs S (lstD tr)≠[]:=λz=>by
   obtain⟨c,q,r⟩:=st.h _ (sb _ o);have:c∈wtF cs S (lstD tr):=ζQ.mpr ⟨q,decide_eq_true r⟩;rw[z]at this;cases this
  have j:(wtF cs S (lstD tr)).getD 0 0∈wtF cs S (lstD tr):=wy (ζK.mpr p);generalize s:(wtF cs S (lstD tr)).getD 0 0=x at j;have k:x∈zl (cs.getD (lstD tr).toNat []):=(ζQ.mp j).1;have t:x∈S:=of_decide_eq_true (ζQ.mp j).2;have v:tr.reverse.head?=some (lstD tr):=by rw[List.head?_reverse];exact i
  unfold trF;rw[s];by_cases h:x∈tr
  ·rw[if_pos h];have il:=ζ9.mpr h;have l:tr.drop (tr.idxOf x)≠[]:=λz=>by have:=congrArg List.length z;rw[List.length_drop]at this;simp at this;omega
   have sp:=ζ8 (tr.idxOf x) tr;have hd:(tr.drop (tr.idxOf x)).head?=some x:=by rw[List.head?_drop,ζe il,List.getElem_idxOf il]
   refine⟨λz=>l (List.reverse_eq_nil_iff.mp z),((List.reverse_perm _).nodup_iff).mpr (nd.sublist (List.drop_sublist _ _)),λy f=>sb y (List.mem_of_mem_drop (List.mem_reverse.mp f)),?_,λa b g d=>?_⟩
   ·rw[←sp,List.reverse_append]at ch;exact Ch.left ch
   ·rw[List.getLast?_reverse,hd]at g;cases g;rw[List.head?_reverse]at d;have e:tr.getLast?=(tr.drop (tr.idxOf x)).getLast?:=by
     conv=>lhs;rw[←sp]
     exact Yu l _
    rw[←e,i]at d;cases d;exact k
  ·rw[if_neg h];refine Qg st n m (by simp) ?_ ?_ ?_ (by rw[List.length_append];show 13≤tr.length+1+m;omega)
   ·rw[ξm];exact⟨nd,by simp,λa g b d=>by rw[List.mem_singleton.mp d];exact λz=>h (z ▸ g)⟩
   ·intro y f;rcases ζu.mp f with f|f
    ·exact sb y f
    ·rw[ζs.mp f];exact t
   ·rw[List.reverse_append];refine Ch.app (u:=[x]) trivial ch λa b g d=>?_;cases g;rw[v]at d;cases d;exact k
structure ZD(cs:AI)(S r:AE):Prop extends Cy cs S r where
 hd:r.head?=some (mnL r)
theorem zds{cs:AI}{S r:AE}(h:Cy cs S r):ZD cs S (lsF r):=by
 have a:=Wf h.ne;have il:=ζ9.mpr a;have sp:=ζ8 (r.idxOf (mnL r)) r;have c:Cy cs S (lsF r):=by
  rw[←sp]at h;exact h.turn
 have hd:(lsF r).head?=some (mnL r):=by
  unfold lsF;rw[Yv (λz=>by have:=congrArg List.length z;rw[List.length_drop]at this;simp at this;omega),List.head?_drop,List.getElem?_eq_getElem il,List.getElem_idxOf il]
 have pm:(lsF r).Perm r:=by
  unfold lsF;refine List.perm_append_comm.trans (List.Perm.of_eq sp)
 have e:mnL (lsF r)=mnL r:=Int.le_antisymm (VO (pm.mem_iff.mpr a)) (VO (pm.mem_iff.mp (Wf c.ne)));exact⟨c,by rw[hd,e]⟩
theorem Us{cs:AI}{L S:AE}(st:Stk cs L S)(a:S.length≤12):ZD cs S (Yc cs S):=by
 have l:=ζK.mpr st.ne;exact zds (Qg st a 14 (by simp) (by simp) (λx b=>by rw[List.mem_singleton.mp b];exact wy l) trivial (by simp))
theorem Ch.at{cs:AI}:∀{r:AE} {i:Nat},Ch cs r→i+1<r.length→r.getD i 0∈zl (cs.getD (r.getD (i+1) 0).toNat [])
 | a::b::l,0,h,_=>h.1
 | a::b::l,i+1,h,hi=>Ch.at (r:=b::l) (i:=i) h.2 (by simpa using hi)
 | [a],i,_,hi=>by simp at hi
 | [],i,_,hi=>by simp at hi
theorem X4(Z:Cs K mg cA cB cC τa τb τc τd f_Ring g_Ring)(B:Bs mg):FnOk P w K mg base CX0 1 f_Ring g_Ring ["self","ring"] (spRi K cC):=by
 refine Z.F_Ring.ok (N:=["self","ring"]) ⟨rfl,rfl,rfl,by decide +kernel,rfl,by decide +kernel,by decide +kernel⟩ (λvs H Q E h=>Qs h) (λcdv A outer s H vs Q E a h=>?_);refine⟨_,zg (zbv Z.r_Ring Z.u_BookError Z.n_BookError rfl (zb (pv 0) (zb (zbE a (pv 1) #[2]) zd))) (zg (zbt Z.r_Ring.s rfl (pv 0) (pY Zg B.list (zb (pv 1) zd))) zC),?_⟩
 exact zbn h
def tP(ds:AG)(d:AD):Prop:=∃a b:AE,ds=[il a,il b]∧a.length+b.length<2000∧d=.bool (a.any λk=>decide (k∈b))
theorem zbk:zJ ["some","others"] ["some","others"] (zr (top 5)):={}
theorem zbK(F:Fun K "meet" "meet" (top 5) f fd)(B:Bs mg)(Z:Cs K mg cA cB cC τa τb τc τd f_Ring g_Ring): FnOk P w K mg base CX0 1 f fd ["some","others"] (spD K true tP):=by
 have sc:=zbk;refine okD F sc (λ_ _⟨_,_,e,_⟩=>by rw[e];rfl) λcdv A outer s H vs Q E g h ds d le dp p q=>?_;refine⟨_,(zh (zH (x6 uN (pB (TV (b:=w.params.followText "set-order")) B.len (zb (zp (zbJ rfl rfl) (pY (ZB (K:=K) rfl rfl rfl) B.set (zb (pv 0) zd)) (pY (ZB (K:=K) rfl rfl rfl) B.set (zb (pv 1) zd))) zd)) ze (zG _)))),?_⟩
 have i:=sc.n 2;obtain⟨a,b,rfl,c,rfl⟩:=p;walk_at"run";refine zR true (EvE.eq (uQ (TM (ns:=a) (ms:=b) (EvE.toL (κ:=false) ∅) (EvE.toL (κ:=false) ∅) c) ∅) ?_) rfl (.inl ⟨rfl,rfl⟩);rw[Q8]
structure ShR(n:Nat)(cs:AI):Prop where
 l:cs.length=n
 e:∀r∈cs,(∀x∈r,x<n)∧r.length≤5∧r.Pairwise (·<·)
theorem ShR.at{n:Nat}{cs:AI}(h:ShR n cs){k:Nat}(a:k<n):cs[k]?=some (cs.getD k [])∧(∀x∈cs.getD k [],x<n)∧(cs.getD k []).length≤5∧(cs.getD k []).Pairwise (·<·):=by
 have z:cs[k]?=some (cs.getD k []):=zA (by rw[h.l];exact a);exact⟨z,h.e _ (ζk z)⟩
theorem ShR.ix{n:Nat}{cs:AI}(h:ShR n cs){k:Int}(a:0≤k∧k<n):atI (cs.map nl) k=some (il (zl (cs.getD k.toNat []))):=by
 have g:=(h.at (k:=k.toNat) ⋯).1;have z:=uy (g:=nl) g;rw[Int.toNat_of_nonneg a.1,vW]at z;exact z
def wF(ds:AG)(d:AD):Prop:=∃r:AE,ds=[il r]∧r≠[]∧r.length≤100∧d=il (lsF r)
theorem tJ:zJ ["ring","place"] ["ring"] (zr (top 8)):={}
theorem tX(F:Fun K "from_the_least" "from_the_least" (top 8) f fd)(B:Bs mg)(Z:Cs K mg cA cB cC τa τb τc τd f_Ring g_Ring): FnOk P w K mg base CX0 1 f fd ["ring"] (spD K true wF):=by
 have sc:=tJ;refine okD F sc (λ_ _⟨_,e,_⟩=>by rw[e];rfl) λcdv A outer s H vs Q E b c ds d le dp p q=>?_
 refine⟨_,(zg (pS (i:=1) sc.nd (xA (K:=K) rfl ζB PySem.F.slot_list_index PySem.F.type_list_index (Xk (K:=K) rfl) (pv 0) (zb (pB (V9 (K:=K) rfl rfl) B.min (zb (pv 0) zd)) zd)))
   (zh (zH (zp (tV (K:=K) rfl) (tU (tG (K:=K) rfl) (pv 0) (tT (pv 1)) ug) (tU (tG (K:=K) rfl) (pv 0) ug (tT (pv 1))))))),?_⟩
 have g:=sc.n 2;obtain⟨r,rfl,ne,j,rfl⟩:=p;have big:=zU;have a:=Wf ne;walk_at"run";refine exs true (d:=.int (r.idxOf (mnL r):Nat)) (Vh (EvE.toL (κ:=false) ∅) (zaR (ns:=r) (EvE.toL (κ:=false) ∅) ne) a) #[0] ?_;have l:∀{Γ:PD.Ctx} {i:Nat},GetC Γ i (.fz false (il r))→EvL K .fresh true (tVar i) Γ (r.map .int):=λh=>EvL.imm (κ:=false) (EvE.toL (evv h #[2])) (yQ r);refine zR true (EvO.toE (EvO.eq (uu (EvO.toL (wz (l #[1]) (Zc ∅) uv)) (EvO.toL (wz (l #[1]) uv (Zc ∅))) ?_) ?_)) rfl (.inl ⟨rfl,rfl⟩)
 ·rw[cutH PyData.int,cutT PyData.int,ζc,ζc,ζ2,ζL];omega
 ·rw[cutH PyData.int,cutT PyData.int,←ζF];rfl
structure StS(n:Nat)(cs:AI)(S:AE):Prop where
 ok:ShR n cs
 n12:n≤12
 st:∃L,Stk cs L S
 r:∀x∈S,0≤x∧x<n
 nd:S.Nodup
 l:S.length≤12
def vP(ds:AG)(d:AD):Prop:=∃(n:Nat) (cs:AI) (S:AE),ds=[nls cs,il S]∧StS n cs S∧d=il (Yc cs S)
theorem YO:zJ ["causes","left","trail","waited_for","round_trip"] ["causes","left"] (zr (top 7)):={}
theorem YV(F:Fun K "ring_among" "ring_among" (top 7) f fd)(B:Bs mg)(Z:Cs K mg cA cB cC τa τb τc τd f_Ring g_Ring)(g:zE P w K mg base CX0 "from_the_least" ["ring"] 1 (spD K true wF)):FnOk P w K mg base CX0 2 f fd ["causes","left"] (spD K true vP):=by
 have sc:=YO;refine okD F sc (λ_ _⟨_,_,_,e,_⟩=>by rw[e];rfl) λcdv A outer s H vs Q E R Fh ds d le dp p q=>?_
 refine⟨_,(zg (pS (i:=2) sc.nd (ya (zb (pX (zj (K:=K) rfl) (pv 1) ze) zd)))
   (zh (Yd AC (ye xN) (zg (yp (i:=3) rfl sc.nd rfl rfl (N:=["c","left"]) (js:=[none,some 1]) (by walk_at"comp_ok") (zB (K:=K) rfl (pX (zj (K:=K) rfl) (pv 0) (pX (zj (K:=K) rfl) (pv 2) (uL wS ze)))) (λ_ _ _ _=>(pN (i:=0) (show υN ["c","left"]by decide +kernel))) (λ_ _ _ _=>(vy (zv (vz (K:=K) rfl) (pv 0) (pv 1) (rfl)))) (λ_ _ _ _=>(pv 0)))
   (zg (zY (zv (vz (K:=K) rfl) (pX (zj (K:=K) rfl) (pv 3) ze) (pv 2) (rfl)) (zg (pS (i:=4) sc.nd (tU (tG (K:=K) rfl) (pv 2) (tT (xA (K:=K) rfl ζB PySem.F.slot_list_index PySem.F.type_list_index (Xk (K:=K) rfl) (pv 2) (zb (pX (zj (K:=K) rfl) (pv 3) ze) zd))) ug))
   (zh (zH (pF g R (zb (WV (K:=K) rfl rfl rfl B.list rfl B.reversed (zb (pv 4) zd)) zd))))) zC)
   (zh (yv (xA (K:=K) rfl ζB ζW ζV yP (pv 2) (zb (pX (zj (K:=K) rfl) (pv 3) ze) zd))))))))),?_⟩
 have hN:=sc.n 5;obtain⟨n,cs,S,rfl,ss,rfl⟩:=p;have big:=zU;obtain⟨L,st⟩:=ss.st;have n12:=ss.n12;have sl:=ss.l;have s0:=ζK.mpr st.ne;walk_at"run";refine exo true (zT (ds:=[.int (S.getD 0 0)]) (by walk_at"ev";exact wR (ns:=S) (k:=0) s0) (by show 1≤sizeLine;omega)) #[0] ?_;refine Ve (λm Γ=>∃(tr:AE) (v C:Option DV),Γ=[some (.fz false (nls cs)),some (.fz false (il S)),some (.ow true (tr.map .int)),v,C]∧tr≠[]∧tr.Nodup∧(∀x∈tr,x∈S)∧13≤tr.length+m∧trF cs S m tr=trF cs S 14 [S.getD 0 0]) 14 ⟨[S.getD 0 0],none,none,rfl,by simp,by simp,λx D=>by rw[List.mem_singleton.mp D];exact wy s0,by simp,rfl⟩ ?_;rintro m Γ' ⟨tr,v,C,rfl,ne,nd,sb,hl,G⟩;have tl:=Zq nd sb;obtain⟨m,rfl⟩:∃k,m=k+1:=⟨m-1,⋯⟩
 refine⟨true,∅, λ_=>?_,λz=>by cases z⟩
 have I:=Wg ne;have J:lstD tr∈tr:=List.mem_of_getLast? I;have T:=ss.r _ (sb _ J);have U:atI (tr.map PyData.int) (-1)=some (.int (lstD tr)):=by
  obtain⟨a,u⟩:∃a,tr=a++[lstD tr]:=by
   obtain⟨a,u⟩:=List.getLast?_eq_some_iff.mp I;exact⟨a,u⟩
  conv=>lhs;rw[u,ζF]
  exact Vs _ _
 have j:=(ss.ok.at (k:=(lstD tr).toNat) ⋯).2.2.1;have wl:(zl (cs.getD (lstD tr).toNat [])).length≤5:=by unfold zl;rw[List.length_map];exact j
 have V:wtF cs S (lstD tr)≠[]:=λz=>by
  obtain⟨c,W,X⟩:=st.h _ (sb _ J);have:c∈wtF cs S (lstD tr):=ζQ.mpr ⟨W,decide_eq_true X⟩;rw[z]at this;cases this
 have M:=ζK.mpr V;refine exs true (d:=il (wtF cs S (lstD tr))) (EvO.toE (xV (κ:=true) (is:=[0]) (xs:=zl (cs.getD (lstD tr).toNat [])) false PyData.int PyData.int (λc=>decide (c∈S)) (λx _ y _ h=>by cases h;exact⟨rfl,rfl⟩) (zO (zM (ds:=cs.map nl) (EvE.toL (κ:=false) ∅) (zM (ds:=tr.map .int) ∅ ∅ U) (ss.ok.ix T))) (by walk_at"cc") rfl #[2] ⋯ ?_)) #[0] ?_
 ·intro c hc;exact egn #[0] ⟨zW (Zv (neg:=false) ∅ (EvE.toL (κ:=false) ∅)),λ_=>by walk_at"ev"⟩
 have O:(wtF cs S (lstD tr)).getD 0 0∈wtF cs S (lstD tr):=wy M;have t:atI ((wtF cs S (lstD tr)).map PyData.int) 0=some (.int ((wtF cs S (lstD tr)).getD 0 0)):=wR (ns:=wtF cs S (lstD tr)) (k:=0) M;have ex:trF cs S (m+1) tr=if(wtF cs S (lstD tr)).getD 0 0∈tr then tr.drop (tr.idxOf ((wtF cs S (lstD tr)).getD 0 0))else trF cs S m (tr++[(wtF cs S (lstD tr)).getD 0 0]):=rfl
 generalize D:(wtF cs S (lstD tr)).getD 0 0=x at O t ex;have Y:x∈S:=of_decide_eq_true (ζQ.mp O).2;refine wQ (b:=decide (x∈tr)) (zW (Zv (neg:=false) (zM ∅ ∅ t) ∅)) (λc=>?_) (λc=>?_)
 ·have c:=of_decide_eq_true c;rw[if_pos c]at ex;have a1:=ζ9.mpr c;refine exs true (d:=il (tr.drop (tr.idxOf x))) (EvO.toE (EvO.eq (wz ∅ (Zc (Vh ∅ (zM ∅ ∅ t) c)) uv) (cutH PyData.int tr _))) #[0] ?_;refine exrs true (zD (ds:=[il (tr.drop (tr.idxOf x)).reverse]) (zi (EvO.toE (EvO.eq (v6 (EvE.toL (κ:=false) ∅)) (by rw[←List.map_reverse]))) zL) ⟨_,rfl,λz=>?_,by rw[ξE,ζ2];omega,?_⟩) rfl (.inl ⟨rfl,rfl⟩)
  ·have:=congrArg List.length z;rw[ξE,ζ2]at this;simp at this;omega
  ·show il (Yc cs S)=_;unfold Yc;rw[←G,ex]
 ·have c:=of_decide_eq_false c;rw[if_neg c]at ex;refine exn ?_;refine exa1 (d:=.int x) #[1] (zM ∅ ∅ t) #[0] (by rw[ζc];omega) ?_;refine⟨m,⋯,tr++[x],_,_,by rw[List.map_append];rfl,by simp,?_,λy o=>?_,by rw[List.length_append];show 13≤tr.length+1+m;omega,by rw[←G,ex]⟩
  ·rw[ξm];exact⟨nd,by simp,λa ha b hb=>by rw[List.mem_singleton.mp hb];exact λz=>c (z ▸ ha)⟩
  ·rcases ζu.mp o with o|o
   ·exact sb y o
   ·rw[ζs.mp o];exact Y
def rgI(n:Nat):AE:=zl (List.range n)
theorem wj{n:Nat}:(rgI n).length=n:=by unfold rgI zl;rw[List.length_map,List.length_range]
theorem ue{n:Nat}{x:Int}:x∈rgI n↔0≤x∧x<n:=by
 unfold rgI zl;rw[ζn];constructor
 ·rintro⟨i,hi,rfl⟩;have:=ζ1.mp hi;omega
 ·rintro⟨a,b⟩;exact⟨x.toNat,ζ1.mpr ⋯,⋯⟩
theorem QE{n:Nat}:(rgI n).Pairwise (·<·):=by
 unfold rgI zl;rw[ξX];exact ξ4.imp λh=>by omega
def OrdS(n:Nat)(cs:AI):Prop:=ShR n cs∧n≤12
def tN(ds:AG)(d:AD):Prop:=∃(n:Nat) (cs:AI) (f:AE),ds=[nls cs]∧OrdS n cs∧grd cs n (rgI n)=some f∧d=il f
theorem Vg{n:Nat}{cs:AI}{ns:AE}{fd:AG}{b3:Option DV}(ok:ShR n cs)(n12:n≤12)(e:ns.length≤12)(a:∀x∈ns,0≤x∧x<n):
  EvE K .fresh true (xG [none,some 2,some 0] (Vc K (tVar 2)) (yt 0) (tNot (tB (y8 (spD K true tP) [] E0 (zF (tOp (rIxL K) (tVar 2) (tVar 0)) (zF (tVar 1) tNil))))) (tVar 0)) [some (.fz false (nls cs)),some (.ow true fd),some (.ow true (ns.map .int)),b3] (il (ns.filter (rdP cs ns))):=by
 have big:=zU;refine EvO.toE (zaE 2 #[1] #[0] (xV (κ:=true) (is:=[0]) (xs:=ns) false PyData.int PyData.int (rdP cs ns) (λx _ y _ h=>by cases h;exact⟨rfl,rfl⟩) (zO ∅) (by walk_at"cc") rfl #[2] ⋯ ?_) (yQ _));intro k b;have kn:=a k b;have rk:=(ok.at (k:=k.toNat) ⋯).2.2.1;refine egn #[0] ⟨yk (et_B (zD (ds:=[il (zl (cs.getD k.toNat [])),il ns]) (d:=.bool ((zl (cs.getD k.toNat [])).any λc=>decide (c∈ns))) (zi (zM (EvE.toL (κ:=false) ∅) ∅ (ok.ix kn)) ∅) ⟨_,_,rfl,by unfold zl;rw[List.length_map];omega,rfl⟩)),λ_=>by walk_at"ev"⟩
theorem ZH:zJ ["causes","found","left","ready"] ["causes"] (zr (top 6)):={}
theorem WY(F:Fun K "order_of" "order_of" (top 6) f fd)(B:Bs mg)(Z:Cs K mg cA cB cC τa τb τc τd f_Ring g_Ring)(a:zE P w K mg base CX0 "meet" ["some","others"] 1 (spD K true tP)):FnOk P w K mg base CX0 3 f fd ["causes"] (spD K true tN):=by
 have sc:=ZH;refine okD F sc (λ_ _⟨_,_,_,e,_⟩=>by rw[e];rfl) λcdv A outer s H vs Q E I M ds d le dp p q=>?_
 refine⟨_,(zg (pS (i:=1) sc.nd (ya zd))
   (zg (pS (i:=2) sc.nd (pY (Zh rfl) B.list (zb (pY Xx B.range (zb (pB (zn (K:=K) rfl) B.len (zb (pv 0) zd)) zd)) zd)))
   (zg (Yd AC (zv uN (pB (zn (K:=K) rfl) B.len (zb (pv 2) zd)) ze (zG _)) (zg (yp (i:=3) rfl sc.nd rfl rfl (N:=["k","left","causes"]) (js:=[none,some 2,some 0]) (by walk_at"comp_ok") (zB (K:=K) rfl (pv 2)) (λ_ _ _ _=>(pN (i:=0) (show υN ["k","left","causes"]by decide +kernel))) (λ_ _ _ _=>(vy (yx (ye (pF a I (zb (pX (zj (K:=K) rfl) (pv 2) (pv 0)) (zb (pv 1) zd))))))) (λ_ _ _ _=>(pv 0)))
   (zg (zY (zv xu (pB (zn (K:=K) rfl) B.len (zb (pv 3) zd)) ze (zG _)) (zh wB) zC)
   (zg (yv (xA (K:=K) rfl ζB ζW ζV yP (pv 1) (zb (pX (zj (K:=K) rfl) (pv 3) ze) zd)))
   (zh (yv (xA (K:=K) rfl ζB PySem.F.slot_list_remove PySem.F.type_list_remove Xi (pv 2) (zb (pX (zj (K:=K) rfl) (pv 3) ze) zd))))))))
   (zh (zH (pv 1)))))),?_⟩
 have O:=sc.n 4;obtain⟨n,cs,f,rfl,⟨ok,n12⟩,g,rfl⟩:=p;have big:=zU;have cl:=ok.l;walk_at"run";refine exo true (ds:=[]) (zT (ds:=[]) zL #[2]) #[0] ?_;refine exo true (ZN (n:=n) (EvE.eq (yj (ds:=cs.map nl) ∅) (by rw[ζc,cl])) ⋯) #[0] ?_;refine yZ (λΓ=>∃(z h:Option DV),Γ=[some (.fz false (nls cs)),some (.ow true (f.map .int)),z,h]) (Ve (λm Γ=>∃(fd ns j:AE) (h:Option DV),Γ=[some (.fz false (nls cs)),some (.ow true (fd.map .int)),some (.ow true (ns.map .int)),h]∧ns.length=m∧fd.length+ns.length=n∧(∀x∈ns,0≤x∧x<n)∧grd cs m ns=some j∧fd++j=f) n ⟨[],rgI n,f,none,by unfold rgI zl;rw[List.map_map];rfl,wj,by rw[wj];exact Nat.zero_add n,λx J=>ue.mp J,g,rfl⟩ ?_) ?_
 ·rintro m Γ' ⟨fd,ns,j,h,rfl,R,fl,C,g,o⟩;refine⟨decide ((0:Int)<((ns.map PyData.int).length:Nat)),zW (uQ (yj (ds:=ns.map PyData.int) ∅) ∅),λc=>?_,λc=>?_⟩
  ·have c:=of_decide_eq_true c;rw[ζc]at c;obtain⟨m,rfl⟩:∃k,m=k+1:=⟨m-1,⋯⟩
   refine exs true (Vg ok n12 ⋯ C) #[0] ?_;cases t:ns.filter (rdP cs ns)with
   | nil=>rw[UM t]at g;cases g
   | cons x r =>
    rw[t8 t]at g;obtain⟨u,v,rfl⟩:=ξI.mp g;have D:x∈ns:=(ζQ.mp (by rw[t];exact ζi)).1;refine xo (b:=decide ((((x::r).map PyData.int).length:Int)=0)) (zW (u9 (yj (ds:=(x::r).map PyData.int) ∅) ∅)) (decide_eq_false (by rw[ζc,ζZ];omega)) ?_;have G:atI ((x::r).map PyData.int) 0=some (.int x):=atI0;refine exa (d:=.int x) #[1] (zM ∅ ∅ G) #[0] (by rw[ζc];omega) ?_;refine exrm (ns:=ns) (k:=x) #[1] (zM ∅ ∅ G) D #[0] ?_;have S:=Yb D;refine⟨m,⋯,fd++[x],rm x ns,u,_,by rw[ζF];rfl,⋯,by rw[ζr];show fd.length+1+_=n;omega,λy L=>C y (QB L),v,by rw[ξZ];exact o⟩
  ·have c:=of_decide_eq_false c;rw[ζc]at c;obtain rfl:m=0:=by omega
   obtain rfl:j=[]:=(ζD g).symm;rw[ζx]at o;exact⟨_,_,by rw[o]⟩
 ·rintro Γ' ⟨z,h,rfl⟩;refine exfz 1 #[1] #[0] ?_;exact zR true ∅ rfl (.inl ⟨rfl,rfl⟩)
def ZI(n:Nat)(cs:AI):AE:=Yc cs (stF cs n (rgI n))
def vw(ds:AG)(rs:AE):Prop:=∃(n:Nat) (cs:AI),ds=[nls cs]∧OrdS n cs∧grd cs n (rgI n)=none∧rs=ZI n cs
theorem Y3(ds:AG)(c:AE)(h:vw ds c):ds.length=1:=by obtain⟨a,b,rfl,_⟩:=h;rfl
theorem QD{n:Nat}{cs:AI}{S:AE}(ss:StS n cs S):Few (Yc cs S):=by
 obtain⟨L,st⟩:=ss.st;have k:=Us st ss.l;have l:=Zq k.nd k.sb;have:=ss.l;have:=ss.n12;exact⟨⋯,λx a=>by have:=ss.r x (k.sb x a);omega⟩
theorem X3(F:Fun K "order_of" "order_of" (top 6) f fd)(B:Bs mg)(Z:Cs K mg cA cB cC τa τb τc τd f_Ring g_Ring)(c:zE P w K mg base CX0 "meet" ["some","others"] 1 (spD K true tP))(a:zE P w K mg base CX0 "ring_among" ["causes","left"] 2 (spD K true vP)):FnOk P w K mg base (CXd P w) 3 f fd ["causes"] (spRg K vw cC):=by
 have sc:=ZH;refine F.okXd sc (λvs H Q E h=>Z8 Y3 h) (λcdv A outer s H vs Q E u h=>?_);obtain⟨L,ds,M,le,dp,p,q⟩:=h
 refine⟨_,(zg (pS (i:=1) sc.nd (ya zd))
   (zg (pS (i:=2) sc.nd (pY (Zh rfl) B.list (zb (pY Xx B.range (zb (pB (zn (K:=K) rfl) B.len (zb (pv 0) zd)) zd)) zd)))
   (zg (Yd PassesOwn.leaving (zv uN (pB (zn (K:=K) rfl) B.len (zb (pv 2) zd)) ze (zG _)) (zg (yp (i:=3) rfl sc.nd rfl rfl (N:=["k","left","causes"]) (js:=[none,some 2,some 0]) (by walk_at"comp_ok") (zB (K:=K) rfl (pv 2)) (λ_ _ _ _=>(pN (i:=0) (show υN ["k","left","causes"]by decide +kernel))) (λ_ _ _ _=>(vy (yx (ye (pF c u (zb (pX (zj (K:=K) rfl) (pv 2) (pv 0)) (zb (pv 1) zd))))))) (λ_ _ _ _=>(pv 0)))
   (zg (zY (zv xu (pB (zn (K:=K) rfl) B.len (zb (pv 3) zd)) ze (zG _)) (zh (Te Td Z.r_Ring Z.p_Ring (X4 Z B) Z.d_Ring Z.o_Ring (u.mono #[2]) rfl Z.n_Ring rfl rfl (zb (pF a u (zb (pv 0) (zb (pv 2) zd))) zd))) zC)
   (zg (yv (xA (K:=K) rfl ζB ζW ζV yP (pv 1) (zb (pX (zj (K:=K) rfl) (pv 3) ze) zd)))
   (zh (yv (xA (K:=K) rfl ζB PySem.F.slot_list_remove PySem.F.type_list_remove Xi (pv 2) (zb (pX (zj (K:=K) rfl) (pv 3) ze) zd))))))))
   (zg (zH (pv 1))
   zC)))),?_⟩
 have D:=sc.n 4;obtain⟨n,cs,rfl,⟨ok,n12⟩,o,rfl⟩:=p;have big:=zU;have cl:=ok.l;refine Qx le dp q D (by walk_at"st") ?_;refine uk (·=[some (.fz false (nls cs)),some (.ow true ([]:AG)),none,none]) (exo1 true (ds:=[]) (zT (ds:=[]) zL #[2]) #[0] rfl) ?_;rintro _ rfl;refine uk (·=[some (.fz false (nls cs)),some (.ow true ([]:AG)),some (.ow true ((rgI n).map .int)),none]) (exo1 true (ZN (n:=n) (EvE.eq (yj (ds:=cs.map nl) ∅) (by rw[List.length_map,cl])) ⋯) #[0] (by unfold rgI zl;rw[List.map_map];rfl)) ?_;rintro _ rfl;refine um (Tz (λm Γ=>∃(fd ns:AE) (b3:Option DV),Γ=[some (.fz false (nls cs)),some (.ow true (fd.map .int)),some (.ow true (ns.map .int)),b3]∧ns.length=m∧fd.length+ns.length=n∧(∀x∈ns,0≤x∧x<n)∧ns.Nodup∧grd cs m ns=none∧stF cs m ns=stF cs n (rgI n)) n ⟨[],rgI n,none,rfl,wj,by rw[wj];exact Nat.zero_add n,λx G=>ue.mp G,zcK QE,o,rfl⟩ ?_);rintro m Γ' ⟨fd,ns,b3,rfl,I,fl,v,hd,o,t⟩;obtain⟨m,rfl⟩:∃k,m=k+1:=by
  cases m with
  | zero=>cases o
  | succ k=>exact⟨k,rfl⟩
 refine⟨decide ((0:Int)<((ns.map PyData.int).length:Nat)),zW (uQ (yj (ds:=ns.map PyData.int) ∅) ∅),decide_eq_true (by rw[ζc];omega),?_⟩
 have g:=Vg (K:=K) (fd:=fd.map .int) (b3:=b3) ok n12 ⋯ v;cases j:ns.filter (rdP cs ns)with
 | nil =>
  rw[XH j]at t;rw[j]at g;have st:=ui (m+1) I o;rw[XH j]at st;have ss:StS n cs ns:=⟨ok,n12,⟨ns,st⟩,v,hd,⋯⟩
  have e:ZI n cs=Yc cs ns:=by unfold ZI;rw[←t]
  refine .inr (uk (·=[some (.fz false (nls cs)),some (.ow true (fd.map .int)),some (.ow true (ns.map .int)),some (.fz true (il []))]) (exs1 true g #[0] rfl) ?_);rintro _ rfl;refine um (zdC (b:=decide (((([]:AE).map PyData.int).length:Int)=0)) (zW (u9 (yj (ds:=([]:AE).map PyData.int) ∅) ∅)) rfl ?_);rw[e];refine TB (zi (EvC.toE (zcd 2 #[1] #[0] (zce (ds:=[nls cs,il ns]) ∅ ⟨n,cs,ns,rfl,ss,rfl⟩))) zL) (QD ss)
 | cons x r =>
  rw[t8 j]at o;rw[WI j]at t;rw[j]at g;have z:x∈ns:=(ζQ.mp (by rw[j];exact ζi)).1;refine .inl ?_;refine exs true g #[0] ?_;refine xo (b:=decide ((((x::r).map PyData.int).length:Int)=0)) (zW (u9 (yj (ds:=(x::r).map PyData.int) ∅) ∅)) (decide_eq_false (by rw[ζc,ζZ];omega)) ?_;have C:atI ((x::r).map PyData.int) 0=some (.int x):=atI0;refine exa (d:=.int x) #[1] (zM ∅ ∅ C) #[0] (by rw[ζc];omega) ?_;refine exrm (ns:=ns) (k:=x) #[1] (zM ∅ ∅ C) z #[0] ?_;have O:=Yb z;refine⟨m,⋯,fd++[x],rm x ns,_,by rw[ζF];rfl,⋯,by rw[ζr];show fd.length+1+_=n;omega,λy J=>v y (QB J),hd.sublist QA,ξ3.mp o,t⟩
def tS(ds:AG)(d:AD):Prop:=∃ss:AE,ds=[il ss]∧(∀s∈ss,1≤s∧s≤4)∧ss.length≤5∧d=.int (prod ss)
theorem WM:zJ ["sizes","found","size"] ["sizes"] (zr (top 12)):={}
theorem W4(F:Fun K "count_of" "count_of" (top 12) f fd)(B:Bs mg)(Z:Cs K mg cA cB cC τa τb τc τd f_Ring g_Ring): FnOk P w K mg base CX0 1 f fd ["sizes"] (spD K true tS):=by
 have sc:=WM;refine okD F sc (λ_ _⟨_,e,_⟩=>by rw[e];rfl) λcdv A outer s H vs Q E j k ds d le dp p q=>?_
 refine⟨_,(zg (pS (i:=1) sc.nd ze)
   (zg (xR AC rfl (zB (K:=K) rfl (pv 0)) (pN (i:=2) sc.nd) (zh (pS (i:=1) sc.nd (zp y4 (pv 1) (pv 2)))))
   (zh (zH (pv 1))))),?_⟩
 have l:=sc.n 3;obtain⟨ss,rfl,c,m,rfl⟩:=p;have big:=zU;walk_at"run";refine exs true (d:=.int 1) ∅ #[0] ?_;refine uP (ds:=ss.map .int) false (λi Γ=>∃b,Γ=[some (.fz false (il ss)),some (.fz true (.int (prod (ss.take i)))),b]) (zO ∅) ⟨none,rfl⟩ ?_ ?_
 ·rintro i d Γ' hd ⟨b,rfl⟩;obtain⟨x,a,rfl⟩:=uj hd;refine⟨_,egn #[0] ?_⟩
  have o:=c x (ζk a);have hi:=(ζg.mp a).1;have pl:=uf (ss.take i) 5 (λy g=>c y (List.mem_of_mem_take g)) (by rw[ζL];omega);have h:IntMulOk (prod (ss.take i)) x:=yu ⋯ ⋯;refine exs1 true (d:=.int (prod (ss.take i)*x)) (wY ∅ ∅ h) #[0] ?_;refine⟨some (.fz false (.int x)),?_⟩
  rw[take_succ a,Xg]
 ·rintro Γ' ⟨b,rfl⟩;rw[ζc,ξD];exact zR true ∅ rfl (.inl ⟨rfl,rfl⟩)
def T6:AD→Bool
 | .int _=>true
 | _=>false
def ftB(a b:Int):AD→Bool
 | .int i=>decide (a≤i)&&decide (i≤b)
 | _=>false
def isL:AD→Bool
 | .list _=>true
 | _=>false
def itL:AD→AG
 | .list xs=>xs
 | _=>[]
def nvD:AD→Int
 | .int i=>i
 | _=>0
def loB(n:Int)(x:AD):Bool:=isL x&&decide (((itL x).length:Int)=n)
def szB(x:AD):Bool:=isL x&&(decide ((itL x).length≤12)&&(itL x).all (ftB 2 4))
def ocB(n:Int)(x:AD):Bool:=isL x&&(decide ((itL x).length≤5)&&((itL x).all (ftB 0 (n-1))&&decide ((itL x).map nvD=srt (dd ((itL x).map nvD)))))
def csB(n:Int)(x:AD):Bool:=loB n x&&(itL x).all (ocB n)
def wtB:AD→Bool
 | .int i=>decide (0≤i)
 | _=>false
def rwB(s:Int)(x:AD):Bool:=loB s x&&((itL x).all wtB&&decide (0<((itL x).map nvD).sum))
def tbB(m s:Int)(x:AD):Bool:=loB m x&&(itL x).all (rwB s)
def sm1(x:AD):Prop:=(itL x).length≤5000
def sm2(x:AD):Prop:=(itL x).length≤5000∧∀y∈itL x,sm1 y
def sm3(x:AD):Prop:=(itL x).length≤5000∧∀y∈itL x,sm2 y
theorem wX{x:AD}(h:isL x=true):x=.list (itL x):=by
 cases x with
 | list xs=>rfl
 | _=>cases h
theorem UD{p:AD→Bool}(hp:∀x,p x=true→∃i,x=.int i){xs:AG}(h:xs.all p=true):xs=(xs.map nvD).map PyData.int:=by
 rw[ζM]at h;rw[ζP]
 conv=>lhs;rw[←List.map_id xs]
 refine ξo λx a=>?_;obtain⟨i,rfl⟩:=hp x (h x a);rfl
theorem zdB{a b:Int}:∀x,ftB a b x=true→∃i,x=.int i:=λx h=>by
 cases x with
 | int i=>exact⟨i,rfl⟩
 | _=>cases h
theorem zcW:∀x,wtB x=true→∃i,x=.int i:=λx h=>by
 cases x with
 | int i=>exact⟨i,rfl⟩
 | _=>cases h
theorem zaH{js:List (Option Nat)}{Γ a:PD.Ctx}{c:TI}{g:TG}{te:TE}{is:AF}{xs:AG}(κ κ':Bool)(f:AD→AD)(hi:EvI K .fresh κ' c Γ xs)(d:xF js Γ a)(b:(is.all λi=>js[i]?==some none)=true)
  (e:(js.filterMap id).Nodup) (j:xs.length≤sizeLine) (k:∀x∈xs,ExG K .fresh κ' g is x a λΓ'=>EvE K .fresh κ te Γ' (f x)):EvO K .fresh κ (xG js c g tYes te) Γ (xs.map f):=
 yR κ' (λx=>x) f (λx _ y _ h=>congrArg f h) (by rw[ξF];exact hi) d b e j k
theorem vf{js:List (Option Nat)}{Γ a:PD.Ctx}{c:TI}{g:TG}{te:TE}{is:AF}{xs:AG}{κ:Bool}(κ':Bool)(f:AD→Bool)(hi:EvI K .fresh κ' c Γ xs)(d:xF js Γ a)(b:(is.all λi=>js[i]?==some none)=true)
  (e:(js.filterMap id).Nodup) (h:xs.length≤sizeLine) (j:∀x∈xs,ExG K .fresh κ' g is x a λΓ'=>EvE K .fresh false te Γ' (.bool (f x))):EvE K .fresh κ (tCB (rAll K) (zF (xG js c g tYes te) tNil)) Γ (.bool (xs.all f)):=
 EvE.eq (Wx (bs:=xs.map f) (EvO.toL (EvO.eq (zaH false κ' (λx=>.bool (f x)) hi d b e h j) (by rw[ζP];rfl)))) (by rw[List.all_map];rfl)
def vx(ds:AG)(d:AD):Prop:=∃x,ds=[x]∧d=.bool (T6 x)
theorem WK:zJ ["thing"] ["thing"] (zr (top 10)):={}
theorem W0(F:Fun K "is_whole" "is_whole" (top 10) f fd)(B:Bs mg)(Z:Cs K mg cA cB cC τa τb τc τd f_Ring g_Ring): FnOk P w K mg base CX0 1 f fd ["thing"] (spD K true vx):=by
 have sc:=WK;refine okD F sc (λ_ _⟨_,e,_⟩=>by rw[e];rfl) λcdv A outer s H vs Q E a c ds d le dp p q=>?_;refine⟨_,(zh (zH (wI (pB (yi (K:=K) rfl) B.isinstance (zb (pv 0) (zb (yO (v:=.ty "int") rfl B.int (by decide +kernel) rfl) zd))) (wW (QR (pB (yi (K:=K) rfl) B.isinstance (zb (pv 0) (zb (yO (v:=.ty "bool") rfl B.bool (by decide +kernel) rfl) zd)))))))),?_⟩
 have g:=sc.n 1;obtain⟨x,rfl,rfl⟩:=p;walk_at"run";cases x with
 | int i=>exact zR (d:=.bool (true&&!false)) true (yV (yG (EvE.toD (κ:=false) ∅) (by with_unfolding_all rfl)) λ_=>Wv (yG (EvE.toD (κ:=false) ∅) (by with_unfolding_all rfl))) rfl (.inl ⟨rfl,rfl⟩)
 | bool b=>exact zR (d:=.bool (true&&!true)) true (yV (yG (EvE.toD (κ:=false) ∅) (by with_unfolding_all rfl)) λ_=>Wv (yG (EvE.toD (κ:=false) ∅) (by with_unfolding_all rfl))) rfl (.inl ⟨rfl,rfl⟩)
 | _=>exact zR (d:=.bool (false&&true)) true (yV (yG (EvE.toD (κ:=false) ∅) (by with_unfolding_all rfl)) λh=>nomatch h) rfl (.inl ⟨rfl,rfl⟩)
def vR(ds:AG)(d:AD):Prop:=∃(x:AD) (m:Int),ds=[x,.int m]∧d=.bool (loB m x)
theorem YR:zJ ["thing","length"] ["thing","length"] (zr (top 20)):={}
theorem YX(F:Fun K "is_list_of" "is_list_of" (top 20) f fd)(B:Bs mg)(Z:Cs K mg cA cB cC τa τb τc τd f_Ring g_Ring): FnOk P w K mg base CX0 1 f fd ["thing","length"] (spD K true vR):=by
 have sc:=YR;refine okD F sc (λ_ _⟨_,_,e,_⟩=>by rw[e];rfl) λcdv A outer s H vs Q E a b ds d le dp p q=>?_;refine⟨_,(zh (zH (wI (pB (yi (K:=K) rfl) B.isinstance (zb (pv 0) (zb (yO (v:=.ty "list") rfl B.list (by decide +kernel) rfl) zd))) (wW (x6 xu (pB (zn (K:=K) rfl) B.len (zb (pv 0) zd)) (pv 1) (zG _)))))),?_⟩
 have c:=sc.n 2;obtain⟨x,m,rfl,rfl⟩:=p;walk_at"run";cases x with
 | list xs=>exact zR (d:=.bool (true&&decide ((xs.length:Int)=m))) true (yV ∅ λ_=>u9 (yj ∅) ∅) rfl (.inl ⟨rfl,rfl⟩)
 | _=>exact zR (d:=.bool (false&&true)) true (yV (yG (EvE.toD (κ:=false) ∅) (by with_unfolding_all rfl)) λh=>nomatch h) rfl (.inl ⟨rfl,rfl⟩)
def wD(ds:AG)(d:AD):Prop:=∃(x:AD) (a b:Int),ds=[x,.int a,.int b]∧d=.bool (ftB a b x)
theorem YS:zJ ["thing","least","greatest"] ["thing","least","greatest"] (zr (top 21)):={}
theorem YY(F:Fun K "is_from_to" "is_from_to" (top 21) f fd)(B:Bs mg)(Z:Cs K mg cA cB cC τa τb τc τd f_Ring g_Ring)(c:zE P w K mg base CX0 "is_whole" ["thing"] 1 (spD K true vx)):FnOk P w K mg base CX0 2 f fd ["thing","least","greatest"] (spD K true wD):=by
 have sc:=YS;refine okD F sc (λ_ _⟨_,_,_,e,_⟩=>by rw[e];rfl) λcdv A outer s H vs Q E g j ds d le dp p q=>?_;refine⟨_,(zh (zH (wI (pF c g (zb (pv 0) zd)) (wW (WW zcH zcH (pv 1) (pv 0) (pv 2)))))),?_⟩
 have k:=sc.n 3;obtain⟨x,a,b,rfl,rfl⟩:=p;walk_at"run";cases x with
 | int i=>exact zR (d:=.bool (true&&(decide (a≤i)&&decide (i≤b)))) true (yV (zD ∅ ⟨_,rfl,rfl⟩) λ_=>zaQ ∅ ∅ λ_=>by walk_at"ev") rfl (.inl ⟨rfl,rfl⟩)
 | _=>exact zR (d:=.bool (false&&true)) true (yV (zD ∅ ⟨_,rfl,rfl⟩) λh=>nomatch h) rfl (.inl ⟨rfl,rfl⟩)
def xZ(ds:AG)(d:AD):Prop:=∃x,ds=[x]∧sm1 x∧d=.bool (szB x)
theorem XV:zJ ["sizes"] ["sizes"] (zr (top 22)):={}
theorem Wc(F:Fun K "are_sizes" "are_sizes" (top 22) f fd)(B:Bs mg)(Z:Cs K mg cA cB cC τa τb τc τd f_Ring g_Ring)(a:zE P w K mg base CX0 "is_from_to" ["thing","least","greatest"] 2 (spD K true wD)):FnOk P w K mg base CX0 3 f fd ["sizes"] (spD K true xZ):=by
 have sc:=XV;refine okD F sc (λ_ _⟨_,e,_⟩=>by rw[e];rfl) λcdv A outer s H vs Q E j k ds d le dp p q=>?_
 refine⟨_,(zg (zY (PW.pt (ve (yx (ye (pB (yi (K:=K) rfl) B.isinstance (zb (pv 0) (zb (yO (v:=.ty "list") rfl B.list (by decide +kernel) rfl) zd))))) (uW (zv uN (pB (zn (K:=K) rfl) B.len (zb (pv 0) zd)) (wP (v:=.int 12) rfl Z.n_MOST_THINGS ⟨_,rfl⟩) (zG _))))) (zh (zH xN)) zC)
   (zh (zH (pB (xE (K:=K) rfl rfl) B.all (zb (zZ rfl (N:=["size"]) (js:=[none]) (by walk_at"comp_ok") (zB (K:=K) rfl (pv 0)) (λ_ _ _ _=>(pN (i:=0) (show υN ["size"]by decide +kernel))) (λ_ _ _ _=>zP) (λ_ _ _ _=>(pF a j (zb (pv 0) (zb (wP (v:=.int 2) rfl Z.n_LEAST_SIZE ⟨_,rfl⟩) (zb (wP (v:=.int 4) rfl Z.n_GREATEST_SIZE ⟨_,rfl⟩) zd)))))) zd))))),?_⟩
 have l:=sc.n 1;obtain⟨x,rfl,sm,rfl⟩:=p;have big:=zU;walk_at"run";cases x with
 | list xs =>
  have m:xs.length≤5000:=sm;by_cases g:xs.length≤12
  ·refine xo (b:=!true||decide ((12:Int)<(xs.length:Nat))) (xO ∅ λ_=>zW (uQ (yj (ds:=xs) ∅) ∅)) (by rw[decide_eq_false ⋯];rfl) ?_;refine zR true (vf false (ftB 2 4) (is:=[0]) (zO ∅) (by walk_at"cc") rfl #[2] ⋯ ?_) (by show PyData.bool (xs.all (ftB 2 4))=.bool (true&&(decide (xs.length≤12)&&xs.all (ftB 2 4)));rw[decide_eq_true g];rfl) (.inl ⟨rfl,rfl⟩);intro s h;exact egn #[0] (zD (ds:=[s,.int 2,.int 4]) ∅ ⟨s,2,4,rfl,rfl⟩)
  ·refine wQ (b:=!true||decide ((12:Int)<(xs.length:Nat))) (xO ∅ λ_=>zW (uQ (yj (ds:=xs) ∅) ∅)) (λ_=>?_) (λc=>?_)
   ·exact zR (d:=.bool false) true ∅ (by show PyData.bool false=.bool (true&&(decide (xs.length≤12)&&xs.all (ftB 2 4)));rw[decide_eq_false g];rfl) (.inl ⟨rfl,rfl⟩)
   ·rw[decide_eq_true ⋯]at c;cases c
 | _ =>
  refine wQ (b:=!false||true) (xO (yk (et_B (yG (EvE.toD (κ:=false) ∅) (by with_unfolding_all rfl)))) λh=>nomatch h) (λ_=>?_) (λc=>nomatch c);exact zR (d:=.bool false) true ∅ rfl (.inl ⟨rfl,rfl⟩)
def wG(ds:AG)(d:AD):Prop:=∃(x:AD) (n:Int),ds=[x,.int n]∧sm1 x∧d=.bool (ocB n x)
theorem yI(ns:AE):SeqAt.shaped (il ns)=true:=w6 (ZT (g:=PyData.int) (λ_=>rfl) ns) (by
 have:=uw (g:=PyData.int) (n:=0) (λ_=>ζp _) ns;show PyData.depthAll _+1≤50;omega)
theorem tK:zJ ["own","number"] ["own","number"] (zr (top 24)):={}
theorem tY(F:Fun K "are_own_causes" "are_own_causes" (top 24) f fd)(B:Bs mg)(Z:Cs K mg cA cB cC τa τb τc τd f_Ring g_Ring)(a:zE P w K mg base CX0 "is_from_to" ["thing","least","greatest"] 2 (spD K true wD)):FnOk P w K mg base CX0 3 f fd ["own","number"] (spD K true wG):=by
 have sc:=tK;refine okD F sc (λ_ _⟨_,_,e,_⟩=>by rw[e];rfl) λcdv A outer s H vs Q E j k ds d le dp p q=>?_
 refine⟨_,(zg (zY (PW.pt (ve (yx (ye (pB (yi (K:=K) rfl) B.isinstance (zb (pv 0) (zb (yO (v:=.ty "list") rfl B.list (by decide +kernel) rfl) zd))))) (uW (zv uN (pB (zn (K:=K) rfl) B.len (zb (pv 0) zd)) (wP (v:=.int 5) rfl Z.n_MOST_CAUSES ⟨_,rfl⟩) (zG _))))) (zh (zH xN)) zC)
   (zh (zH (wI (pB (xE (K:=K) rfl rfl) B.all (zb (zZ rfl (N:=["c","number"]) (js:=[none,some 1]) (by walk_at"comp_ok") (zB (K:=K) rfl (pv 0)) (λ_ _ _ _=>(pN (i:=0) (show υN ["c","number"]by decide +kernel))) (λ_ _ _ _=>zP) (λ_ _ _ _=>(pF a j (zb (pv 0) (zb ze (zb (zp Yj (pv 1) ze) zd)))))) zd)) (wW (x6 (vA (K:=K) rfl j.units) (pv 0) (pB (WB rfl rfl) B.sorted (zb (pY (ZB (K:=K) rfl rfl rfl) B.set (zb (pv 0) zd)) zd)) (zG _))))))),?_⟩
 have l:=sc.n 2;obtain⟨x,n,rfl,sm,rfl⟩:=p;have big:=zU;walk_at"run";cases x with
 | list xs =>
  have m:xs.length≤5000:=sm;have ob:ocB n (.list xs)=(decide (xs.length≤5)&&(xs.all (ftB 0 (n-1))&&decide (xs.map nvD=srt (dd (xs.map nvD))))):=rfl;by_cases g:xs.length≤5
  ·refine xo (b:=!true||decide ((5:Int)<(xs.length:Nat))) (xO ∅ λ_=>zW (uQ (yj (ds:=xs) ∅) ∅)) (by rw[decide_eq_false ⋯];rfl) ?_;refine zR true (yV (b:=decide (xs.map nvD=srt (dd (xs.map nvD)))) (vf false (ftB 0 (n-1)) (is:=[0]) (zO ∅) (by walk_at"cc") rfl #[2] ⋯ ?_) λc=>?_) (by rw[ob,decide_eq_true g];rfl) (.inl ⟨rfl,rfl⟩)
   ·intro s h;exact egn #[0] (zD (ds:=[s,.int 0,.int (n-1)]) ∅ ⟨s,0,n-1,rfl,rfl⟩)
   ·have e:=UD zdB c;generalize hq:xs.map nvD=ns at e;have nl:ns.length≤5:=by rw[←hq,ζc];exact g
    refine EvE.eq (v8 (neg:=false) (d:=il ns) (f:=il (srt (dd ns))) (EvE.toD (κ:=false) (EvE.eq (κ:=false) ∅ (congrArg PyData.list e))) (EvE.toD (κ:=false) (EvO.toE (Y5 (ns:=ns) (EvE.toL (EvE.eq (κ:=false) ∅ (congrArg PyData.list e))) ⋯))) (yI _) (yI _)) ?_;rw[if_neg #[2],Zx]
  ·refine wQ (b:=!true||decide ((5:Int)<(xs.length:Nat))) (xO ∅ λ_=>zW (uQ (yj (ds:=xs) ∅) ∅)) (λ_=>?_) (λc=>?_)
   ·exact zR (d:=.bool false) true ∅ (by rw[ob,decide_eq_false g];rfl) (.inl ⟨rfl,rfl⟩)
   ·rw[decide_eq_true ⋯]at c;cases c
 | _ =>
  refine wQ (b:=!false||true) (xO (yk (et_B (yG (EvE.toD (κ:=false) ∅) (by with_unfolding_all rfl)))) λh=>nomatch h) (λ_=>?_) (λc=>nomatch c);exact zR (d:=.bool false) true ∅ rfl (.inl ⟨rfl,rfl⟩)
theorem Yr{n:Int}{x:AD}(h:loB n x=true):x=.list (itL x)∧((itL x).length:Int)=n:=by
 unfold loB at h;rw[ζ3]at h;exact⟨wX h.1,of_decide_eq_true h.2⟩
def xM(ds:AG)(d:AD):Prop:=∃(x:AD) (n:Int),ds=[x,.int n]∧sm2 x∧d=.bool (csB n x)
theorem YU:zJ ["causes","number"] ["causes","number"] (zr (top 23)):={}
abbrev wv(P:Program)(w:World)(K:ζa)(mg:AN)(base:Heap):=zE P w K mg base CX0 "is_list_of" ["thing","length"] 1 (spD K true vR)
theorem Y1(F:Fun K "are_causes" "are_causes" (top 23) f fd)(B:Bs mg)(Z:Cs K mg cA cB cC τa τb τc τd f_Ring g_Ring)(j:wv P w K mg base)(g:zE P w K mg base CX0 "are_own_causes" ["own","number"] 3 (spD K true wG)):FnOk P w K mg base CX0 4 f fd ["causes","number"] (spD K true xM):=by
 have sc:=YU;refine okD F sc (λ_ _⟨_,_,e,_⟩=>by rw[e];rfl) λcdv A outer s H vs Q E k l ds d le dp p q=>?_;refine⟨_,(zh (zH (wI (pF j k (zb (pv 0) (zb (pv 1) zd))) (wW (pB (xE (K:=K) rfl rfl) B.all (zb (zZ rfl (N:=["own","number"]) (js:=[none,some 1]) (by walk_at"comp_ok") (zB (K:=K) rfl (pv 0)) (λ_ _ _ _=>(pN (i:=0) (show υN ["own","number"]by decide +kernel))) (λ_ _ _ _=>zP) (λ_ _ _ _=>(pF g k (zb (pv 0) (zb (pv 1) zd))))) zd)))))),?_⟩
 have m:=sc.n 2;obtain⟨x,n,rfl,sm,rfl⟩:=p;have big:=zU;walk_at"run";refine zR true (yV (a:=loB n x) (b:=(itL x).all (ocB n)) (zD (ds:=[x,.int n]) ∅ ⟨x,n,rfl,rfl⟩) λc=>?_) rfl (.inl ⟨rfl,rfl⟩);have e:=(Yr c).1;have sl:=sm.1;refine vf false (ocB n) (is:=[0]) (zO (EvE.eq (κ:=false) ∅ e)) (by walk_at"cc") rfl #[2] ⋯ ?_;intro r h;exact egn #[0] (zD (ds:=[r,.int n]) ∅ ⟨r,n,rfl,sm.2 r h,rfl⟩)
def uK(ds:AG)(d:AD):Prop:=∃x:AD,ds=[x]∧d=.bool (wtB x)
theorem XT:zJ ["weight"] ["weight"] (zr (top 28)):={}
theorem Wb(F:Fun K "is_weight" "is_weight" (top 28) f fd)(B:Bs mg)(Z:Cs K mg cA cB cC τa τb τc τd f_Ring g_Ring)(a:zE P w K mg base CX0 "is_whole" ["thing"] 1 (spD K true vx)):FnOk P w K mg base CX0 2 f fd ["weight"] (spD K true uK):=by
 have sc:=XT;refine okD F sc (λ_ _⟨_,e,_⟩=>by rw[e];rfl) λcdv A outer s H vs Q E b c ds d le dp p q=>?_;refine⟨_,(zh (zH (wI (pF a b (zb (pv 0) zd)) (wW (x6 zcI (pv 0) ze (zG _)))))),?_⟩
 have g:=sc.n 1;obtain⟨x,rfl,rfl⟩:=p;walk_at"run";cases x with
 | int i=>exact zR (d:=.bool (true&&decide ((0:Int)≤i))) true (yV (zD ∅ ⟨_,rfl,rfl⟩) λ_=>zaP ∅ ∅) rfl (.inl ⟨rfl,rfl⟩)
 | _=>exact zR (d:=.bool (false&&true)) true (yV (zD ∅ ⟨_,rfl,rfl⟩) λh=>nomatch h) rfl (.inl ⟨rfl,rfl⟩)
def Yi(ds:AG)(d:AD):Prop:=∃(x:AD) (s:Int),ds=[x,.int s]∧sm1 x∧d=.bool (rwB s x)
theorem Tb:zJ ["row","size"] ["row","size"] (zr (top 27)):={}
theorem Tk(F:Fun K "is_row" "is_row" (top 27) f fd)(B:Bs mg)(Z:Cs K mg cA cB cC τa τb τc τd f_Ring g_Ring)(g:wv P w K mg base)(h:zE P w K mg base CX0 "is_weight" ["weight"] 2 (spD K true uK)):FnOk P w K mg base CX0 3 f fd ["row","size"] (spD K true Yi):=by
 have sc:=Tb;refine okD F sc (λ_ _⟨_,_,e,_⟩=>by rw[e];rfl) λcdv A outer s H vs Q E j l ds d le dp p q=>?_;refine⟨_,(zh (zH (wI (pF g j (zb (pv 0) (zb (pv 1) zd))) (wI (pB (xE (K:=K) rfl rfl) B.all (zb (zZ rfl (N:=["weight"]) (js:=[none]) (by walk_at"comp_ok") (zB (K:=K) rfl (pv 0)) (λ_ _ _ _=>(pN (i:=0) (show υN ["weight"]by decide +kernel))) (λ_ _ _ _=>zP) (λ_ _ _ _=>(pF h j (zb (pv 0) zd)))) zd)) (wW (x6 uN (pB (Xw (K:=K) rfl rfl) B.sum (zb (pv 0) zd)) ze (zG _))))))),?_⟩
 have m:=sc.n 2;obtain⟨x,s,rfl,sm,rfl⟩:=p;have big:=zU;walk_at"run";refine zR true (yV (a:=loB s x) (b:=(itL x).all wtB&&decide (0<((itL x).map nvD).sum)) (zD (ds:=[x,.int s]) ∅ ⟨x,s,rfl,rfl⟩) λc=>yV (a:=(itL x).all wtB) (b:=decide (0<((itL x).map nvD).sum)) ?_ λk=>?_) rfl (.inl ⟨rfl,rfl⟩)
 ·have e:=(Yr c).1;have sl:(itL x).length≤5000:=sm;refine vf false wtB (is:=[0]) (zO (EvE.eq (κ:=false) ∅ e)) (by walk_at"cc") rfl #[2] ⋯ ?_;intro y _;exact egn #[0] (zD (ds:=[y]) ∅ ⟨y,rfl,rfl⟩)
 ·have e:=(Yr c).1;rw[UD zcW k]at e;exact uQ (zaM (ns:=(itL x).map nvD) (EvE.toL (EvE.eq (κ:=false) ∅ e))) ∅
def tR(ds:AG)(d:AD):Prop:=∃(x:AD) (m s:Int),ds=[x,.int m,.int s]∧sm2 x∧d=.bool (tbB m s x)
theorem WL:zJ ["table","rows","size"] ["table","rows","size"] (zr (top 26)):={}
theorem W3(F:Fun K "is_table" "is_table" (top 26) f fd)(B:Bs mg)(Z:Cs K mg cA cB cC τa τb τc τd f_Ring g_Ring)(g:wv P w K mg base)(j:zE P w K mg base CX0 "is_row" ["row","size"] 3 (spD K true Yi)):FnOk P w K mg base CX0 4 f fd ["table","rows","size"] (spD K true tR):=by
 have sc:=WL;refine okD F sc (λ_ _⟨_,_,_,e,_⟩=>by rw[e];rfl) λcdv A outer s H vs Q E k l ds d le dp p q=>?_;refine⟨_,(zh (zH (wI (pF g k (zb (pv 0) (zb (pv 1) zd))) (wW (pB (xE (K:=K) rfl rfl) B.all (zb (zZ rfl (N:=["row","size"]) (js:=[none,some 2]) (by walk_at"comp_ok") (zB (K:=K) rfl (pv 0)) (λ_ _ _ _=>(pN (i:=0) (show υN ["row","size"]by decide +kernel))) (λ_ _ _ _=>zP) (λ_ _ _ _=>(pF j k (zb (pv 0) (zb (pv 1) zd))))) zd)))))),?_⟩
 have o:=sc.n 3;obtain⟨x,m,s,rfl,sm,rfl⟩:=p;have big:=zU;walk_at"run";refine zR true (yV (a:=loB m x) (b:=(itL x).all (rwB s)) (zD (ds:=[x,.int m]) ∅ ⟨x,m,rfl,rfl⟩) λc=>?_) rfl (.inl ⟨rfl,rfl⟩);have e:=(Yr c).1;have sl:=sm.1;refine vf false (rwB s) (is:=[0]) (zO (EvE.eq (κ:=false) ∅ e)) (by walk_at"cc") rfl #[2] ⋯ ?_;intro r h;exact egn #[0] (zD (ds:=[r,.int s]) ∅ ⟨r,s,rfl,sm.2 r h,rfl⟩)
structure ScO(ss:AE)(cs:AI):Prop where
 s:∀s∈ss,2≤s∧s≤4
 n:ss.length≤12
 cl:cs.length=ss.length
 ck:∀(k:Nat) own,cs[k]?=some own→(∀c∈own,c<ss.length)∧own.length≤5
def tkB(ss:AE)(cs:AI)(ts:AG)(i:Nat):Bool:=tbB (prod (pk ss (cs.getD i []))) (ss.getD i 0) (ts.getD i .none)
def tsB(ss:AE)(cs:AI)(x:AD):Bool:=loB ss.length x&&(List.range ss.length).all (tkB ss cs (itL x))
def xL(ds:AG)(d:AD):Prop:=∃(ss:AE) (cs:AI) (x:AD),ds=[il ss,nls cs,x]∧ScO ss cs∧sm3 x∧d=.bool (tsB ss cs x)
theorem YT:zJ ["sizes","causes","tables","size","own","table"] ["sizes","causes","tables"] (zr (top 25)):={}
theorem Y0(F:Fun K "are_tables" "are_tables" (top 25) f fd)(B:Bs mg)(Z:Cs K mg cA cB cC τa τb τc τd f_Ring g_Ring)(a:wv P w K mg base)(g:zE P w K mg base CX0 "is_table" ["table","rows","size"] 4 (spD K true tR))(m:zE P w K mg base CX0 "count_of" ["sizes"] 1 (spD K true tS))(o:zE P w K mg base CX0 "picked" ["values","things"] 1 (spD K true Yh)):FnOk P w K mg base CX0 5 f fd ["sizes","causes","tables"] (spD K true xL):=by
 have sc:=YT;refine okD F sc (λ_ _⟨_,_,_,e,_⟩=>by rw[e];rfl) λcdv A outer s H vs Q E t R ds d le dp p q=>?_
 refine⟨_,(zg (zY (yx (ye (pF a t (zb (pv 2) (zb (pB (zn (K:=K) rfl) B.len (zb (pv 0) zd)) zd))))) (zh (zH xN)) zC)
   (zg (xR AC rfl (zby (K:=K) rfl rfl B.zip (zb (pv 0) (zb (pv 1) (zb (pv 2) zd)))) (X1 (K:=K) (n:=3) rfl rfl (wH (pN (i:=3) sc.nd) (wH (pN (i:=4) sc.nd) (wH (pN (i:=5) sc.nd) X0)))) (zh (zY (yx (ye (pF g t (zb (pv 5) (zb (pF m t (zb (pF o t (zb (pv 0) (zb (pv 4) zd))) zd)) (zb (pv 3) zd)))))) (zh (zH xN)) zC)))
   (zh (zH xN)))),?_⟩
 have S:=sc.n 6;obtain⟨ss,cs,x,rfl,ok,sm,rfl⟩:=p;have big:=zU;have n12:=ok.n;have cl:=ok.cl;have J:PyData.int (((ss.map PyData.int).length:Nat):Int)=.int (ss.length:Int):=by rw[ζc]
 walk_at"run";refine wQ (b:=!loB ss.length x) (yk (et_B (zD (ds:=[x,.int (ss.length:Int)]) (zi ∅ (zi (EvE.eq (yj (ds:=ss.map PyData.int) ∅) J) zL)) ⟨x,_,rfl,rfl⟩))) (λc=>?_) (λc=>?_)
 ·refine zR (d:=.bool false) true ∅ ?_ (.inl ⟨rfl,rfl⟩);unfold tsB;rw[show loB ss.length x=false by simpa using c];rfl
 have c:loB ss.length x=true:=by simpa using c
 obtain⟨e,L⟩:=Yr c;have tl:(itL x).length=ss.length:=by omega
 have tb:tsB ss cs x=(List.range ss.length).all (tkB ss cs (itL x)):=by unfold tsB;rw[c];rfl
 generalize M:itL x=ts at tl tb sm e;unfold sm3 at sm;rw[M]at sm;subst e;refine exn ?_;refine uP (ds:=zip3 (ss.map .int) (cs.map nl) ts) false (λi Γ=>(∃v y C,Γ=[some (.fz false (il ss)),some (.fz false (nls cs)),some (.fz false (.list ts)),v,y,C])∧∀j,j<i→tkB ss cs ts j=true) (zcb (by rw[ζc,ζc];exact cl) (by rw[ζc];exact tl) ∅) ⟨⟨none,none,none,rfl⟩,λ_ h=>absurd h ⋯⟩ ?_ ?_
 ·rintro i d Γ' hd ⟨⟨v,y,C,rfl⟩,u⟩;have r:=(ζg.mp hd).1;rw[tD (by rw[ζc,ζc];exact cl) (by rw[ζc];exact tl),ζc]at r;have g1:(ss.map PyData.int)[i]?=some (.int (ss.getD i 0)):=by rw[ζj,zA (d:=0) r];rfl
  have G:=zA (d:=([]:AF)) (l:=cs) (k:=i) ⋯;have g2:(cs.map nl)[i]?=some (nl (cs.getD i [])):=by rw[ζj,G];rfl
  have g3:=zA (d:=PyData.none) (l:=ts) (k:=i) ⋯;rw[WF g1 g2 g3]at hd;obtain rfl:=(ζD hd).symm;have ck:=ok.ck i _ G;have D:=zbx ss (cs.getD i []) ck.1;refine⟨_,eg3 #[0] #[0] #[0] ?_⟩
  refine yW (b:=!tkB ss cs ts i) (yk (et_B (zD (ds:=[ts.getD i .none,.int (prod (pk ss (cs.getD i []))),.int (ss.getD i 0)]) (zi ∅ (zi (zD (ds:=[il (pk ss (cs.getD i []))]) (zi (zD (ds:=[.list (ss.map .int),nl (cs.getD i [])]) ∅ ⟨ss.map .int,cs.getD i [],rfl,yQ ss,by rw[List.length_map];exact ck.1,⋯,by rw[D]⟩) zL) ⟨pk ss (cs.getD i []),rfl,λs N=>?_,by unfold Sx2.pk;rw[List.length_map];exact ck.2,rfl⟩) ∅)) ⟨ts.getD i .none,_,_,rfl,sm.2 _ (List.mem_of_getElem? g3),rfl⟩))) (λc=>?_) (λc=>?_)
  ·obtain⟨j,I,rfl⟩:=ζn.mp N;have:=yJ ok.s (k:=j) (ck.1 j I);omega
  ·refine zR (d:=.bool false) true ∅ ?_ (.inl ⟨rfl,rfl⟩);rw[tb];refine congrArg PyData.bool (Eq.symm ?_);rw[ξ0];intro z;rw[ζM]at z;rw[z i (ζ1.mpr r)]at c;cases c
  ·refine yw ⟨⟨_,_,_,rfl⟩,λj I=>?_⟩;by_cases O:j=i
   ·rw[O];simpa using c
   ·exact u j ⋯
 ·rintro Γ' ⟨⟨v,y,C,rfl⟩,u⟩;rw[tD (by rw[ζc,ζc];exact cl) (by rw[ζc];exact tl),ζc]at u;refine zR (d:=.bool true) true ∅ ?_ (.inl ⟨rfl,rfl⟩);rw[tb];exact congrArg PyData.bool (Eq.symm (ζM.mpr λi hi=>u i (ζ1.mp hi)))
def uX(ds xs ys zs:AG):Prop:=∃(ss:AE) (cs:AI) (ts:List AH),ds=[zX ss cs ts]∧BkOk ss cs ts∧xs=ss.map .int∧ys=cs.map nl∧zs=ts.map lls
theorem VT(ds xs ys zs:AG)(h:uX ds xs ys zs):ds.length=1:=by obtain⟨a,b,c,rfl,_⟩:=h;rfl
theorem Tc:zJ ["book","tables","table"] ["book"] (zr (top 29)):={}
theorem Tl(F:Fun K "copied" "copied" (top 29) f fd)(B:Bs mg)(Z:Cs K mg cA cB cC τa τb τc τd f_Ring g_Ring): FnOk P w K mg base CX0 1 f fd ["book"] (spT3 K uX):=by
 have sc:=Tc;refine F.ok sc (λvs H Q E h=>Qr VT h) (λcdv A outer s H vs Q E a h=>?_);obtain⟨e,ds,xs,ys,zs,le,dp,p,q⟩:=h
 refine⟨_,(zg (pS (i:=1) sc.nd (ya zd))
   (zg (xR AC rfl (zB (K:=K) rfl (pX (zN (K:=K) rfl) (pv 0) ze)) (pN (i:=2) sc.nd) (zh (yv (xA (K:=K) rfl ζB ζW ζV yP (pv 1) (zb (zZ rfl (N:=["row"]) (js:=[none]) (by walk_at"comp_ok") (zB (K:=K) rfl (pv 2)) (λ_ _ _ _=>(pN (i:=0) (show υN ["row"]by decide +kernel))) (λ_ _ _ _=>zP) (λ_ _ _ _=>(pY (zw (K:=K) rfl) B.list (zb (pv 0) zd)))) zd)))))
   (zh (zH (xy (zb (pY (zw (K:=K) rfl) B.list (zb (pX (zN (K:=K) rfl) (pv 0) ze) zd)) (zb (zZ rfl (N:=["own"]) (js:=[none]) (by walk_at"comp_ok") (zB (K:=K) rfl (pX (zN (K:=K) rfl) (pv 0) ze)) (λ_ _ _ _=>(pN (i:=0) (show υN ["own"]by decide +kernel))) (λ_ _ _ _=>zP) (λ_ _ _ _=>(pY (zw (K:=K) rfl) B.list (zb (pv 0) zd)))) (zb (pv 1) zd)))))))),?_⟩
 have c:=sc.n 3;obtain⟨ss,cs,ts,rfl,ok,rfl,rfl,rfl⟩:=p;have big:=zU;have n12:=ok.n;have cl:=ok.cl;have tl:=ok.tl;refine zc5 le dp q c (by walk_at"st") ?_;refine Vd (·=[some (.fz false (zX ss cs ts)),some (.ow true []),none]) (Ws (zT (ds:=[]) zL #[2]) rfl) ?_;rintro Γ' rfl;refine Vd (λΓ=>∃x,Γ=[some (.fz false (zX ss cs ts)),some (.ow true (ts.map lls)),x]) (Wt (ds:=ts.map lls) false (λi Γ=>∃x,Γ=[some (.fz false (zX ss cs ts)),some (.ow true ((ts.take i).map lls)),x]) (zO (z0 ∅ ∅ atI2)) ⟨none,by rw[List.take_zero];rfl⟩ ?_ ?_) ?_
 ·rintro i d Γ' hd ⟨x,rfl⟩;obtain⟨t,b,rfl⟩:=uj hd;have:=ok.tlen (ζk b);refine⟨_,egn #[0] ?_⟩
  refine exa1 (d:=lls t) #[1] (EvO.toE (yR (is:=[0]) (xs:=t) false il il (λ_ _ _ _ h=>h) (zO ∅) (by walk_at"cc") rfl #[2] ⋯ ?_)) #[0] (by rw[ζc,ζL];omega) ?_
  ·intro r a;refine egn #[0] ?_;exact EvO.toE (yD (EvL.imm (κ:=false) (EvE.toL ∅) (yQ _)))
  ·refine⟨some (.fz false (lls t)),?_⟩
   rw[take_succ b,ζF];rfl
 ·rintro Γ' ⟨x,rfl⟩;rw[ζc,ξD];exact⟨x,rfl⟩
 ·rintro Γ' ⟨x,rfl⟩;refine zat (yD (EvL.imm (κ:=false) (EvE.toL (z0 ∅ ∅ atI0)) (yQ ss))) (yR (is:=[0]) (xs:=cs) false nl nl (λ_ _ _ _ h=>h) (zO (z0 ∅ ∅ atI1)) (by walk_at"cc") rfl #[2] ⋯ ?_) #[1];intro r a;refine egn #[0] ?_;exact EvO.toE (yD (EvL.imm (κ:=false) (EvE.toL ∅) (Q5 _)))
theorem uc{a:Type}{g:a→AD}{p:AD→Bool}{l:List a}(h:∀x∈l,p (g x)=true):(l.map g).all p=true:=by
 rw[ζM];intro y b;obtain⟨x,c,rfl⟩:=ζn.mp b;exact h x c
theorem zcP{a b i:Int}(c:a≤i)(d:i≤b):ftB a b (.int i)=true:=by
 show(decide (a≤i)&&decide (i≤b))=true;rw[decide_eq_true c,decide_eq_true d];rfl
theorem WH{ss:AE}(a:∀s∈ss,2≤s∧s≤4)(b:ss.length≤12):szB (il ss)=true:=by
 show(true&&(decide ((ss.map PyData.int).length≤12)&&(ss.map PyData.int).all (ftB 2 4)))=true;rw[decide_eq_true (by rw[ζc];exact b),uc λs h=>zcP (a s h).1 (a s h).2];rfl
theorem UE(ns:AE):(ns.map PyData.int).map nvD=ns:=by
 rw[ζP];exact ξF ns
theorem zcJ(r:AF):(r.map λk:Nat=>PyData.int (k:Int)).map nvD=zl r:=by
 rw[ζP];rfl
theorem zbm{r:AF}(h:r.Pairwise (·<·)):srt (dd (zl r))=zl r:=by
 have:=congrArg (List.map nvD) (QC h);rw[UE,zcJ]at this;exact this
theorem zd8{n:Nat}{r:AF}(a:r.length≤5)(b:∀c∈r,c<n)(d:r.Pairwise (·<·)):ocB n (nl r)=true:=by
 show(true&&(decide ((r.map λk:Nat=>PyData.int (k:Int)).length≤5)&&((r.map λk:Nat=>PyData.int (k:Int)).all (ftB 0 ((n:Int)-1))&&decide ((r.map λk:Nat=>PyData.int (k:Int)).map nvD=srt (dd ((r.map λk:Nat=>PyData.int (k:Int)).map nvD))))))=true;rw[decide_eq_true (by rw[ζc];exact a),uc λc h=>zcP ⋯ (by have:=b c h;omega),zcJ,zbm d,decide_eq_true rfl];rfl
theorem V3{n:Nat}{cs:AI}(b:cs.length=n)(h:∀r∈cs,(∀x∈r,x<n)∧r.length≤5∧r.Pairwise (·<·)):csB n (nls cs)=true:=by
 show((true&&decide (((cs.map nl).length:Int)=n))&&((cs.map nl).all (ocB n)))=true;rw[decide_eq_true (by rw[ζc,b]),uc λr a=>zd8 (h r a).2.1 (h r a).1 (h r a).2.2];rfl
theorem zdX{s:Int}{r:AE}(h:ZP s r):rwB s (il r)=true:=by
 show((true&&decide (((r.map PyData.int).length:Int)=s))&&(((r.map PyData.int).all wtB&&decide (0<((r.map PyData.int).map nvD).sum))))=true;have:=h.p;rw[decide_eq_true (by rw[ζc];exact h.l),uc (g:=PyData.int) (p:=wtB) λx a=>show decide (0≤x)=true from decide_eq_true (h.w x a).1,UE,decide_eq_true ⋯];rfl
theorem zcY{m s:Int}{t:AH}(a:(t.length:Int)=m)(h:∀r∈t,ZP s r):tbB m s (lls t)=true:=by
 show((true&&decide (((t.map il).length:Int)=m))&&((t.map il).all (rwB s)))=true;rw[decide_eq_true (by rw[ζc];exact a),uc λr b=>zdX (h r b)];rfl
theorem BkOk.sc{ss:AE}{cs:AI}{ts:List AH}(h:BkOk ss cs ts):ScO ss cs:=⟨h.s,h.n,h.cl,h.ck⟩
theorem BkOk.ts{ss:AE}{cs:AI}{ts:List AH}(h:BkOk ss cs ts):tsB ss cs (tbl ts)=true:=by
 show((true&&decide (((ts.map lls).length:Int)=ss.length))&&((List.range ss.length).all (tkB ss cs (ts.map lls))))=true;rw[decide_eq_true (by rw[ζc,h.tl]),ζM.mpr]
 ·rfl
 intro i hi;have hi:=ζ1.mp hi;have cl:=h.cl;have tl:=h.tl;have b:=zA (d:=([]:AF)) (l:=cs) (k:=i) ⋯;have a:=zA (d:=([]:AH)) (l:=ts) (k:=i) ⋯;unfold tkB;have:(ts.map lls).getD i .none=lls (ts.getD i []):=by rw[ζf,ζj,a];rfl
 rw[this];exact zcY (h.tk i _ _ b a) (h.rk i _ a)
theorem uT{ns:AE}(h:ns.length≤5000):sm1 (il ns):=by show(ns.map PyData.int).length≤5000;rw[ζc];exact h
theorem zc0{ns:AF}(h:ns.length≤5000):sm1 (nl ns):=by show(ns.map λk:Nat=>PyData.int (k:Int)).length≤5000;rw[ζc];exact h
theorem Uo{cs:AI}(h:cs.length≤5000)(a:∀r∈cs,r.length≤5000):sm2 (nls cs):=by
 refine⟨by show(cs.map nl).length≤5000;rw[ζc];exact h,λy b=>?_⟩
 obtain⟨r,c,rfl⟩:=ζn.mp (show y∈cs.map nl from b);exact zc0 (a r c)
theorem Up{t:AH}(h:t.length≤5000)(a:∀r∈t,r.length≤5000):sm2 (lls t):=by
 refine⟨by show(t.map il).length≤5000;rw[ζc];exact h,λy b=>?_⟩
 obtain⟨r,c,rfl⟩:=ζn.mp (show y∈t.map il from b);exact uT (a r c)
theorem BkOk.sm{ss:AE}{cs:AI}{ts:List AH}(h:BkOk ss cs ts):sm1 (il ss)∧sm2 (nls cs)∧sm3 (tbl ts):=by
 have n12:=h.n;have cl:=h.cl;have tl:=h.tl;refine⟨uT ⋯,Uo ⋯ λr a=>?_,by show(ts.map lls).length≤5000;rw[ζc];omega,λy g=>?_⟩
 ·obtain⟨k,b,e⟩:=ξv a;have:=(h.ck k r (by rw[ζe b,e])).2;omega
 ·obtain⟨t,i,rfl⟩:=ζn.mp (show y∈ts.map lls from g);obtain⟨k,b,e⟩:=ξv i;have c:ts[k]?=some t:=by rw[ζe b,e]
  have f:=zA (d:=([]:AF)) (l:=cs) (k:=k) ⋯;have tk:=h.tk k _ _ f c;have pr:=h.pr f;refine Up ⋯ λr a=>?_;have:=(h.rk k _ c r a).l;have:=yJ h.s (k:=k) ⋯;omega
structure BkP(ss:AE)(cs:AI)(ts:List AH):Prop where
 b:BkOk ss cs ts
 u:∀r∈cs,r.Pairwise (·<·)
theorem BkP.rows{ss:AE}{cs:AI}{ts:List AH}(h:BkP ss cs ts):∀r∈cs,(∀x∈r,x<ss.length)∧r.length≤5∧r.Pairwise (·<·):=λr a=>by
 obtain⟨k,c,e⟩:=ξv a;have:=h.b.ck k r (by rw[ζe c,e]);exact⟨this.1,this.2,h.u r a⟩
theorem BkP.ord{ss:AE}{cs:AI}{ts:List AH}(h:BkP ss cs ts):OrdS ss.length cs:=⟨⟨h.b.cl,h.rows⟩,h.b.n⟩
def vS(ds:AG)(d:AD):Prop:=∃(ss:AE) (cs:AI) (ts:List AH) (f:AE),ds=[il ss,nls cs,tbl ts]∧BkP ss cs ts∧grd cs ss.length (rgI ss.length)=some f∧d=.none
theorem vD(ss:AE):PyData.int (((ss.map PyData.int).length:Nat):Int)=.int (ss.length:Int):=by rw[ζc]
theorem wT:zJ ["sizes","causes","tables"] ["sizes","causes","tables"] (zr (top 19)):={}
theorem YZ(F:Fun K "check_book" "check_book" (top 19) f fd)(B:Bs mg)(Z:Cs K mg cA cB cC τa τb τc τd f_Ring g_Ring)(g:zE P w K mg base CX0 "are_sizes" ["sizes"] 3 (spD K true xZ))(a:zE P w K mg base CX0 "are_causes" ["causes","number"] 4 (spD K true xM))(c:zE P w K mg base CX0 "are_tables" ["sizes","causes","tables"] 5 (spD K true xL))(h:zE P w K mg base CX0 "order_of" ["causes"] 3 (spD K true tN)):FnOk P w K mg base CX0 6 f fd ["sizes","causes","tables"] (spD K true vS):=by
 have sc:=wT;refine okD F sc (λ_ _⟨_,_,_,_,e,_⟩=>by rw[e];rfl) λcdv A outer s H vs Q E i o ds d le dp p q=>?_
 refine⟨_,(zg (zY (yx (ye (pF g i (zb (pv 0) zd)))) (zh wB) zC)
   (zg (zY (yx (ye (pF a i (zb (pv 1) (zb (pB (zn (K:=K) rfl) B.len (zb (pv 0) zd)) zd))))) (zh wB) zC)
   (zg (zY (yx (ye (pF c i (zb (pv 0) (zb (pv 1) (zb (pv 2) zd)))))) (zh wB) zC)
   (zh (yv (pF h i (zb (pv 1) zd))))))),?_⟩
 have r:=sc.n 3;obtain⟨ss,cs,ts,f,rfl,ok,j,rfl⟩:=p;obtain⟨k,l,m⟩:=ok.b.sm;walk_at"run";refine xo (b:=!szB (il ss)) (yk (et_B (zD (ds:=[il ss]) ∅ ⟨_,rfl,k,rfl⟩))) (by rw[WH ok.b.s ok.b.n];rfl) ?_;refine xo (b:=!csB ss.length (nls cs)) (yk (et_B (zD (ds:=[nls cs,.int (ss.length:Int)]) (zi ∅ (zi (EvE.eq (yj (ds:=ss.map PyData.int) ∅) (vD ss)) zL)) ⟨_,_,rfl,l,rfl⟩))) (by rw[V3 ok.b.cl ok.rows];rfl) ?_;refine xo (b:=!tsB ss cs (tbl ts)) (yk (et_B (zD (ds:=[il ss,nls cs,tbl ts]) ∅ ⟨ss,cs,_,rfl,ok.b.sc,m,rfl⟩))) (by rw[ok.b.ts];rfl) ?_;exact UP (κ:=true) (d:=il f) (zD (ds:=[nls cs]) ∅ ⟨ss.length,cs,f,rfl,ok.ord,j,rfl⟩) rfl
def xK(ds:AG)(rs:AE):Prop:=∃(ss:AE) (cs:AI) (ts:List AH),ds=[il ss,nls cs,tbl ts]∧BkP ss cs ts∧grd cs ss.length (rgI ss.length)=none∧rs=ZI ss.length cs
theorem vL(ds:AG)(d:AE)(h:xK ds d):ds.length=3:=by obtain⟨a,b,c,rfl,_⟩:=h;rfl
theorem Ym(F:Fun K "check_book" "check_book" (top 19) f fd)(B:Bs mg)(Z:Cs K mg cA cB cC τa τb τc τd f_Ring g_Ring)(d:zE P w K mg base CX0 "are_sizes" ["sizes"] 3 (spD K true xZ))(a:zE P w K mg base CX0 "are_causes" ["causes","number"] 4 (spD K true xM))(c:zE P w K mg base CX0 "are_tables" ["sizes","causes","tables"] 5 (spD K true xL))(e:zE P w K mg base (CXd P w) "order_of" ["causes"] 3 (spRg K vw cC)):FnOk P w K mg base (CXd P w) 6 f fd ["sizes","causes","tables"] (spRg K xK cC):=by
 have sc:=wT;refine F.okXd sc (λvs H Q E h=>Z8 vL h) (λcdv A outer s H vs Q E g h=>?_);obtain⟨o,ds,r,le,dp,p,q⟩:=h
 refine⟨_,(zg (zY (yx (ye (pF d g (zb (pv 0) zd)))) (zh wB) zC)
   (zg (zY (yx (ye (pF a g (zb (pv 1) (zb (pB (zn (K:=K) rfl) B.len (zb (pv 0) zd)) zd))))) (zh wB) zC)
   (zg (zY (yx (ye (pF c g (zb (pv 0) (zb (pv 1) (zb (pv 2) zd)))))) (zh wB) zC)
   (zg (yv (Uy e (g.mono #[2]) rfl QV (zb (pv 1) zd)))
   zC)))),?_⟩
 have i:=sc.n 3;obtain⟨ss,cs,ts,rfl,ok,j,rfl⟩:=p;obtain⟨k,l,m⟩:=ok.b.sm;refine Qx le dp q i (by walk_at"st") ?_;refine uk (·=[some (.fz false (il ss)),some (.fz false (nls cs)),some (.fz false (tbl ts))]) (yW (b:=!szB (il ss)) (yk (et_B (zD (ds:=[il ss]) ∅ ⟨_,rfl,k,rfl⟩))) (λh=>by rw[WH ok.b.s ok.b.n]at h;cases h) λ_=>yw rfl) ?_;rintro _ rfl;refine uk (·=[some (.fz false (il ss)),some (.fz false (nls cs)),some (.fz false (tbl ts))]) (yW (b:=!csB ss.length (nls cs)) (yk (et_B (zD (ds:=[nls cs,.int (ss.length:Int)]) (zi ∅ (zi (EvE.eq (yj (ds:=ss.map PyData.int) ∅) (vD ss)) zL)) ⟨_,_,rfl,l,rfl⟩))) (λh=>by rw[V3 ok.b.cl ok.rows]at h;cases h) λ_=>yw rfl) ?_;rintro _ rfl;refine uk (·=[some (.fz false (il ss)),some (.fz false (nls cs)),some (.fz false (tbl ts))]) (yW (b:=!tsB ss cs (tbl ts)) (yk (et_B (zD (ds:=[il ss,nls cs,tbl ts]) ∅ ⟨ss,cs,_,rfl,ok.b.sc,m,rfl⟩))) (λh=>by rw[ok.b.ts]at h;cases h) λ_=>yw rfl) ?_;rintro _ rfl;exact um (Vf (Vj ∅ ⟨ss.length,cs,rfl,ok.ord,j,rfl⟩))
def BadB(x0 x1 x2:AD):Prop:=sm1 x0∧(szB x0=false∨∃ss:AE,x0=il ss∧szB x0=true∧sm2 x1∧(csB ss.length x1=false∨∃cs:AI,x1=nls cs∧ScO ss cs∧csB ss.length x1=true∧sm3 x2∧tsB ss cs x2=false))
def xJ(ds:AG):Prop:=∃x0 x1 x2,ds=[x0,x1,x2]∧BadB x0 x1 x2
theorem vK(ds:AG)(h:xJ ds):ds.length=3:=by obtain⟨a,b,c,rfl,_⟩:=h;rfl
theorem Yl(F:Fun K "check_book" "check_book" (top 19) f fd)(B:Bs mg)(Z:Cs K mg cA cB cC τa τb τc τd f_Ring g_Ring)(d:zE P w K mg base CX0 "are_sizes" ["sizes"] 3 (spD K true xZ))(a:zE P w K mg base CX0 "are_causes" ["causes","number"] 4 (spD K true xM))(c:zE P w K mg base CX0 "are_tables" ["sizes","causes","tables"] 5 (spD K true xL)):FnOk P w K mg base (CXr P w) 6 f fd ["sizes","causes","tables"] (spX K xJ cB):=by
 have sc:=wT;refine F.okX sc (λvs H Q E h=>Uk vK h) (λcdv A outer s H vs Q E g h=>?_);obtain⟨z,ds,le,dp,p,q⟩:=h
 refine⟨_,(zg (zY (yx (ye (pF d g (zb (pv 0) zd)))) (zh (Ye Zl Z.e_NoBook rfl rfl (zb uY zd))) zC)
   (zg (zY (yx (ye (pF a g (zb (pv 1) (zb (pB (zn (K:=K) rfl) B.len (zb (pv 0) zd)) zd))))) (zh (Ye Zl Z.e_NoBook rfl rfl (zb uY zd))) zC)
   (zg (zY (yx (ye (pF c g (zb (pv 0) (zb (pv 1) (zb (pv 2) zd)))))) (zh (Ye Zl Z.e_NoBook rfl rfl (zb uY zd))) zC)
   Zm))),?_⟩
 have o:=sc.n 3;obtain⟨i,j,k,rfl,l,e⟩:=p;refine zcA le dp q o (by walk_at"st") ?_;rcases e with r|⟨ss,rfl,t,m,e⟩
 ·exact Wn (b:=!szB i) (yk (et_B (zD (ds:=[i]) ∅ ⟨_,rfl,l,rfl⟩))) (by rw[r];rfl) (Zs ∅ #[2])
 refine UN (b:=!szB (il ss)) (yk (et_B (zD (ds:=[il ss]) ∅ ⟨_,rfl,l,rfl⟩))) (by rw[t];rfl) ?_;rcases e with u|⟨cs,rfl,v,g1,x,y⟩
 ·exact Wn (b:=!csB ss.length j) (yk (et_B (zD (ds:=[j,.int (ss.length:Int)]) (zi ∅ (zi (EvE.eq (yj (ds:=ss.map PyData.int) ∅) (vD ss)) zL)) ⟨_,_,rfl,m,rfl⟩))) (by rw[u];rfl) (Zs ∅ #[2])
 refine UN (b:=!csB ss.length (nls cs)) (yk (et_B (zD (ds:=[nls cs,.int (ss.length:Int)]) (zi ∅ (zi (EvE.eq (yj (ds:=ss.map PyData.int) ∅) (vD ss)) zL)) ⟨_,_,rfl,m,rfl⟩))) (by rw[g1];rfl) ?_;exact Wn (b:=!tsB ss cs k) (yk (et_B (zD (ds:=[il ss,nls cs,k]) ∅ ⟨ss,cs,_,rfl,v,x,rfl⟩))) (by rw[y];rfl) (Zs ∅ #[2])
def WU(ds:AG)(d:AD):Prop:=∃(ss:AE) (cs:AI) (ts:List AH) (f:AE),ds=[il ss,nls cs,tbl ts]∧BkP ss cs ts∧grd cs ss.length (rgI ss.length)=some f∧d=zX ss cs ts
theorem XU:zJ ["sizes","causes","tables"] ["sizes","causes","tables"] (zr (top 18)):={}
theorem zbL(F:Fun K "book" "book" (top 18) f fd)(B:Bs mg)(Z:Cs K mg cA cB cC τa τb τc τd f_Ring g_Ring)(a:zE P w K mg base CX0 "check_book" ["sizes","causes","tables"] 6 (spD K true vS))(c:zE P w K mg base CX0 "copied" ["book"] 1 (spT3 K uX)):FnOk P w K mg base CX0 7 f fd ["sizes","causes","tables"] (spD K true WU):=by
 have sc:=XU;refine okD F sc (λ_ _⟨_,_,_,_,e,_⟩=>by rw[e];rfl) λcdv A outer s H vs Q E g i ds d le dp p q=>?_
 refine⟨_,(zg (yv (pF a g (zb (pv 0) (zb (pv 1) (zb (pv 2) zd)))))
   (zh (zH (pF c g (zb (xy (zb (pv 0) (zb (pv 1) (zb (pv 2) zd)))) zd))))),?_⟩
 have j:=sc.n 3;obtain⟨ss,cs,ts,f,rfl,ok,h,rfl⟩:=p;walk_at"run";refine zay (d:=.none) (zD (ds:=[il ss,nls cs,tbl ts]) ∅ ⟨ss,cs,ts,f,rfl,ok,h,rfl⟩) ?_;exact zR true (TN (ds:=[zX ss cs ts]) ∅ ⟨ss,cs,ts,rfl,ok.b,rfl,rfl,rfl⟩) rfl (.inl ⟨rfl,rfl⟩)
def Yg(ds:AG)(rs:AE):Prop:=xK ds rs
theorem Tp(ds:AG)(a:AE)(h:Yg ds a):ds.length=3:=vL ds a h
theorem QZ(F:Fun K "book" "book" (top 18) f fd)(B:Bs mg)(Z:Cs K mg cA cB cC τa τb τc τd f_Ring g_Ring)(a:zE P w K mg base (CXd P w) "check_book" ["sizes","causes","tables"] 6 (spRg K xK cC)):FnOk P w K mg base (CXd P w) 7 f fd ["sizes","causes","tables"] (spRg K Yg cC):=by
 have sc:=XU;refine F.okXd sc (λvs H Q E h=>Z8 Tp h) (λcdv A outer s H vs Q E b h=>?_);obtain⟨e,ds,g,le,dp,p,q⟩:=h
 refine⟨_,(zg (yv (Uy a (b.mono #[2]) rfl QV (zb (pv 0) (zb (pv 1) (zb (pv 2) zd)))))
   Zm),?_⟩
 have c:=sc.n 3;obtain⟨ss,cs,ts,rfl,ok,d,rfl⟩:=p;refine Qx le dp q c (by walk_at"st") ?_;exact um (Vf (Vj (ds:=[il ss,nls cs,tbl ts]) ∅ ⟨ss,cs,ts,rfl,ok,d,rfl⟩))
def Yf(ds:AG):Prop:=xJ ds
theorem To(ds:AG)(h:Yf ds):ds.length=3:=vK ds h
theorem Tx{C:Addr}{E:XK}{Γ:PD.Ctx}{te:TE}{u:TS}(h:EvX K E C te Γ):ExX K E C (tSeq (wg te) u) Γ:=λH0 F0 H F σ e k _=>h H0 F0 H F σ e k _
theorem QY(F:Fun K "book" "book" (top 18) f fd)(B:Bs mg)(Z:Cs K mg cA cB cC τa τb τc τd f_Ring g_Ring)(a:zE P w K mg base (CXr P w) "check_book" ["sizes","causes","tables"] 6 (spX K xJ cB)):FnOk P w K mg base (CXr P w) 7 f fd ["sizes","causes","tables"] (spX K Yf cB):=by
 have sc:=XU;refine F.okX sc (λvs H Q E h=>Uk To h) (λcdv A outer s H vs Q E g h=>?_);obtain⟨j,ds,le,dp,p,q⟩:=h
 refine⟨_,(zg (yv (Uy a (g.mono #[2]) rfl zd5 (zb (pv 0) (zb (pv 1) (zb (pv 2) zd)))))
   Zm),?_⟩
 have i:=sc.n 3;obtain⟨c,d,e,rfl,b⟩:=p;refine zcA le dp q i (by walk_at"st") ?_;exact Tx (zaA (ds:=[c,d,e]) ∅ ⟨c,d,e,rfl,b⟩)
open Wd Sx2
theorem Ue(a:AF):(srt (zl a))=zl ((srt (zl a)).map Int.toNat):=by
 unfold zl;rw[ζP];refine((ξo λx b=>?_).trans (List.map_id _)).symm;obtain⟨k,_,rfl⟩:=ζn.mp ((wZ _).mem_iff.mp b);rfl
def srtN(cs:AF):AF:=(srt (zl cs)).map Int.toNat
theorem xB(cs:AF):(srtN cs).Perm cs:=by
 have pr:(zl (srtN cs)).Perm (zl cs):=by
  unfold srtN;rw[←Ue];exact wZ _
 have:=pr.map Int.toNat;unfold zl at this;rw[ζP,ζP]at this;have e:(Int.toNat∘λk:Nat=>(k:Int))=id:=by funext k;rfl
 rw[e,List.map_id,List.map_id]at this;exact this
theorem Xd{cs:AF}(h:cs.Nodup):(srtN cs).Pairwise (·<·):=by
 have c:(srtN cs).Nodup:=(xB cs).nodup_iff.mpr h;have d:(srtN cs).Pairwise (·≤·):=by
  have:=uS (zl cs);unfold srtN;rw[ξX];refine this.imp λ{a b} e=>?_;omega
 rw[List.nodup_iff_pairwise_ne]at c;exact(c.and d).imp λ{a b} z=>by omega
theorem zcg{a:Type}(g:a→AD)(xs:List a)(k:Nat):cutD (xs.map g) none (some (k:Int))=(xs.take k).map g:=by
 unfold cutD;rw[HT.XW];show((xs.map g).drop 0).take (min k (xs.map g).length-0)=_;rw[List.drop_zero,Nat.sub_zero,ζc,←List.map_take];congr 1;rcases Nat.le_total k xs.length with h|h
 ·rw[ξ6 h]
 ·rw[Nat.min_eq_right h,ζO (ζp _),ζO h]
def unN:AD→AF
 | .list ds=>ds.map λd=>match d with | .int i=>i.toNat|_=>0
 | _=>[]
theorem Qb(cs:AF):unN (nl cs)=cs:=by
 show(cs.map λk:Nat=>PyData.int (k:Int)).map _=cs;rw[ζP];exact ξF _
def kD(ks:AF):AG:=ks.map λk:Nat=>.int (k:Int)
theorem zag(a:AF):(kD a).length=a.length:=ζc ..
theorem Qq(a:AF):(srt (zl a)).map PyData.int=kD (srtN a):=by
 have:=Ue a;have e:(srt (zl a)).map PyData.int=(zl (srtN a)).map PyData.int:=congrArg (List.map PyData.int) this;rw[e];show(List.map _ (srtN a)).map PyData.int=_;rw[ζP];rfl
theorem wc(u:Int){n:Nat}(h:0<n):∃m:Nat,u%(n:Int)=(m:Int)∧m<n:=⟨(u%(n:Int)).toNat,by
 have a:=ξd u (show(n:Int)≠0 by omega);have b:=ξf u (show(0:Int)<n by omega);omega⟩
theorem Qm:∀(xs:AE),(∀x∈xs,0≤x)→0≤xs.sum
 | [],_=>by simp
 | x::r,h=>by
  rw[List.sum_cons];have:=Qm r λy a=>h y (ζb _ a);have:=h x ζi;omega
theorem Qn:∀(xs:AE),(∀x∈xs,0≤x∧x<10^60)→xs.sum≤(xs.length:Int)*10^60
 | [],_=>by simp
 | x::r,h=>by
  rw[List.sum_cons,ζZ,ξO,Int.add_mul];have:=Qn r λy a=>h y (ζb _ a);have:=h x ζi;show _≤_+1*(10:Int)^60;omega
theorem Uj:∀{xs:AE},(∀x∈xs,0≤x)→(∃x∈xs,1≤x)→1≤xs.sum
 | [],_,h=>by obtain⟨_,z,_⟩:=h;cases z
 | x::r,h,e=>by
  rw[List.sum_cons];have c:=Qm r λy a=>h y (ζb _ a);have d:=h x ζi;obtain⟨y,a,b⟩:=e;rcases ζq.mp a with rfl|a
  ·omega
  ·have:=Uj (λy a=>h y (ζb _ a)) ⟨y,a,b⟩;omega
theorem Qz{s:Nat}{ws:AE}(d:s≤4)(b:ws.length=s)(a:∀w∈ws,0≤w∧w<10^60)(hp:∃w∈ws,1≤w):ZP (s:Int) ws:=by
 refine⟨by rw[b],a,Uj (λw c=>(a w c).1) hp,?_⟩
 have:=Qn ws a;have e:(ws.length:Int)*10^60≤4*10^60:=Int.mul_le_mul_of_nonneg_right ⋯ #[2];have f:(4:Int)*10^60<10^62:=by decide
 omega
theorem Wh{x:Str}(h:∀c∈x.cps.toList,c≤127):low (.str x)=true:=by
 have:PyData.strOk x=true:=by
  show(x.cps.all λc=>decide (c<1114112))=true;rw[←Array.all_toList,ζM];intro c a;have:=h c a;exact decide_eq_true ⋯
 simp[low,PyData.canLay0,PyData.depth,this]
def vJ(ds:AG)(d:AD):Prop:=∃(ns:AE) (k:Nat),ds=[il ns,.int k]∧d=.int (ns.getD k 0)
theorem Ya:zJ ["_law_script","_law_k"] ["_law_script","_law_k"] (zr (top 32)):={}
theorem Yo(F:Fun K "_law_cell_at" "_law_cell_at" (top 32) f fd)(B:Bs mg)(Z:Cs K mg cA cB cC τa τb τc τd f_Ring g_Ring): FnOk P w K mg base CX0 1 f fd ["_law_script","_law_k"] (spD K true vJ):=by
 have sc:=Ya;refine okD F sc (λ_ _⟨_,_,e,_⟩=>by rw[e];rfl) λcdv A outer s H vs Q E a c ds d le dp p q=>?_
 refine⟨_,(zg (zY (zv vU (pv 1) (pB (zn (K:=K) rfl) B.len (zb (pv 0) zd)) (zG _)) (zh (zH (pX (zj (K:=K) rfl) (pv 0) (pv 1)))) zC)
   (zh (zH ze))),?_⟩
 have g:=sc.n 2;obtain⟨ns,k,rfl,rfl⟩:=p;walk_at"run";refine wQ (b:=decide ((k:Int)<ns.length)) (EvT.eq ∅ (by rw[ζc])) (λh=>?_) (λh=>?_)
 ·have h':(k:Int)<ns.length:=by simpa using h
  exact exrs true (zM ∅ ∅ (wR ⋯)) rfl (.inl ⟨rfl,rfl⟩)
 ·have h':¬(k:Int)<ns.length:=by simpa using h
  refine exn ?_;refine zR true ∅ ?_ (.inl ⟨rfl,rfl⟩);rw[ζf,ζT ⋯];rfl
structure OrdN(n:Nat)(ord:AF):Prop where
 l:ord.length=n
 e:∀x∈ord,x<n
 nd:ord.Nodup
theorem OrdN.at{n:Nat}{ord:AF}(h:OrdN n ord){k:Nat}(a:k<n):atI (ord.map λk:Nat=>PyData.int (k:Int)) (k:Int)=some (.int (ord.getD k 0:Nat))∧ord.getD k 0<n:=by
 have z:ord[k]?=some (ord.getD k 0):=zA (by rw[h.l];exact a);exact⟨uy z,h.e _ (ζk z)⟩
theorem OrdN.ne{n:Nat}{ord:AF}(h:OrdN n ord){i j:Nat}(hi:i<n)(c:j<n)(a:i≠j):ord.getD i 0≠ord.getD j 0:=by
 have d:ord[i]?=some (ord.getD i 0):=zA (by rw[h.l];exact hi);have b:ord[j]?=some (ord.getD j 0):=zA (by rw[h.l];exact c);intro e;rw[←e]at b;obtain⟨k,f⟩:=ζg.mp d;obtain⟨m,g⟩:=ζg.mp b;exact a ((List.getElem_inj h.nd).mp (f.trans g.symm))
theorem OrdN.fresh{n:Nat}{ord:AF}(h:OrdN n ord){j:Nat}(a:j<n):ord.getD j 0∉ord.take j:=λz=>by
 obtain⟨m,b,e⟩:=ξx.mp z;rw[ζL]at b;rw[List.getElem_take]at e;refine h.ne (i:=m) ⋯ a ⋯ ?_;rw[←e,ζf,ζe ⋯];rfl
def Zj(kin:AI)(o x:Nat):AI:=kin.set o (kin.getD o []++[x])
theorem zck(kin:AI){o x:Nat}:(kin.map kD).set o (kD (kin.getD o [])++[.int (x:Int)])=(Zj kin o x).map kD:=by
 unfold Zj;rw[ξR];congr 1;unfold kD;rw[ζF];rfl
theorem Vu(kin:AI){o x p:Nat}(h:p≠o):(Zj kin o x).getD p []=kin.getD p []:=by
 unfold Zj;rw[ζf,ζf (i:=p),ζm (Ne.symm h)]
theorem za4(kin:AI){o x:Nat}(h:o<kin.length):(Zj kin o x).getD o []=kin.getD o []++[x]:=by
 unfold Zj;rw[ζf,ζh h];rfl
structure CN(n:Nat)(css:AI):Prop where
 l:css.length=n
 e:∀r∈css,(∀x∈r,x<n)∧r.length≤5∧r.Nodup
theorem CN.at{n:Nat}{css:AI}(h:CN n css){o:Nat}(a:o<n):(css.map kD)[o]?=some (kD (css.getD o []))∧ixN (css.map kD).length (o:Int)=some o∧(css.getD o []).length≤5∧(css.getD o []).Nodup∧∀x∈css.getD o [],x<n:=by
 have z:css[o]?=some (css.getD o []):=zA (by rw[h.l];exact a);have g:=h.e _ (ζk z);exact⟨by rw[ζj,z];rfl,yL (by rw[ζc,h.l];exact a),g.2.1,g.2.2,g.1⟩
theorem CN.add{n:Nat}{css:AI}(h:CN n css){o x:Nat}(f:o<n)(i:x<n)(j:(css.getD o []).length<5)(k:x∉css.getD o []):CN n (Zj css o x):=by
 have g:=h.at f;unfold Zj;refine⟨by rw[ζA];exact h.l,λr c=>?_⟩
 rcases ζz c with c|c
 ·exact h.e r c
 ·rw[c];refine⟨λy d=>?_,by rw[ζr];exact j,?_⟩
  ·rcases ζu.mp d with d|d
   ·exact g.2.2.2.2 y d
   ·rw[ζs.mp d];exact i
  ·rw[ξm];refine⟨g.2.2.2.1,by simp,λa m b p=>?_⟩
   rw[ζs.mp p];rintro rfl;exact k m
theorem CN.sort{n:Nat}{css:AI}(h:CN n css):ShR n (css.map srtN):=by
 refine⟨by rw[ζc];exact h.l,λr a=>?_⟩
 obtain⟨q,hq,rfl⟩:=ζn.mp a;have:=h.e q hq;exact⟨λx b=>this.1 x ((xB q).mem_iff.mp b),by rw[(xB q).length_eq];exact this.2.1,Xd this.2.2⟩
theorem CN.nil(n:Nat):CN n (List.replicate n []):=⟨ζN ..,λr a=>by
 have:r=[]:=ξG a;subst this;exact⟨(λc b=>by cases b),ξa _,List.nodup_nil⟩⟩
theorem zd0(n:Nat):List.replicate n ([]:AG)=(List.replicate n ([]:AF)).map kD:=by
 rw[ξe];rfl
theorem zap(n o:Nat):(List.replicate n ([]:AF)).getD o []=[]:=by
 rw[ζf,ξj];split<;>rfl
theorem zao(css:AI)(k:Nat):(css.map srtN).getD k []=srtN (css.getD k []):=by
 rw[ζf,ζf,ζj];cases css[k]? with
 | none=>exact(xB []).eq_nil.symm
 | some r=>rfl
def ShO(n:Nat)(cs:AI):Prop:=ShR n cs∧∃ord,OrdN n ord∧∀m,m<n→∀y∈cs.getD (ord.getD m 0) [],y∈ord.take m
def uI(ds:AG)(G:AD→Prop):Prop:=∃(ns:AE) (n:Nat) (mo:Int),ds=[il ns,.int n,.int mo]∧n≤12∧G=λd=>∃cs,ShO n cs∧d=nls cs
theorem XQ:zJ ["_law_script","_law_many","_law_most","_law_order","_law_k","_law_causes","_law_at","_law_number","_law_c","_law_room"] ["_law_script","_law_many","_law_most"] (zr (top 33)):={}
abbrev wL(P:Program)(w:World)(K:ζa)(mg:AN)(base:Heap):=zE P w K mg base CX0 "_law_cell_at" ["_law_script","_law_k"] 1 (spD K true vJ)
theorem X8(F:Fun K "_law_shape" "_law_shape" (top 33) f fd)(B:Bs mg)(Z:Cs K mg cA cB cC τa τb τc τd f_Ring g_Ring)(a:wL P w K mg base):FnOk P w K mg base CX0 2 f fd ["_law_script","_law_many","_law_most"] (spW K true uI):=by
 have sc:=XQ;refine F.ok sc (λvs H Q E h=>xH (λ_ _⟨_,_,_,e,_⟩=>by rw[e];rfl) h) (λcdv A outer s H vs Q E Y h=>?_);obtain⟨Fh,ds,G,le,dp,p,q⟩:=h
 refine⟨_,(zg (pS (i:=3) sc.nd (ya zd))
   (zg (xR AC rfl (yn rfl B.range (zb (pv 1) zd)) (pN (i:=4) sc.nd) (zh (yv (xA (K:=K) rfl ζB PySem.F.slot_list_insert PySem.F.type_list_insert Xj (pv 3) (zb (zp zK (pF a Y (zb (pv 0) (zb (zp yU ze (zp y4 ze (pv 4))) zd))) (zp yU (pv 4) ze)) (zb (pv 4) zd))))))
   (zg (yp (i:=5) rfl sc.nd rfl rfl (N:=["_law_k"]) (js:=[none]) (by walk_at"comp_ok") (yn rfl B.range (zb (pv 1) zd)) (λ_ _ _ _=>(pN (i:=0) (show υN ["_law_k"]by decide +kernel))) (λ_ _ _ _=>zP) (λ_ _ _ _=>(ya zd)))
   (zg (xR AC rfl (yn rfl B.range (zb (pv 1) zd)) (pN (i:=6) sc.nd) (zg (pS (i:=7) sc.nd (zp zK (zp yU (zp y4 (pF a Y (zb (pv 0) (zb (zp yU ze (zp y4 ze (pX (zj (K:=K) rfl) (pv 3) (pv 6)))) zd))) ze) (zp y4 ze (zp yU (pv 6) ze))) ze))
   (zh (xR AC rfl (zB (K:=K) rfl (tU (tG (K:=K) rfl) (pv 3) ug (tT (pv 6)))) (pN (i:=8) sc.nd) (zg (pS (i:=7) sc.nd (zp zK (zp yU (zp y4 (pv 7) ze) ze) ze))
   (zg (pS (i:=9) sc.nd (zp yU ze (zp y4 ze (pY TY B.int (zb (x6 xu (pX (zj (K:=K) rfl) (pv 3) (pv 6)) (pv 2) (zG _)) zd)))))
   (zh (zY (PW.pt (wA (zv xu (zp zK (zp zS (pv 7) ze) ze) ze (zG _)) (xI (zv vU (pB (zn (K:=K) rfl) B.len (zb (pX (zj (K:=K) rfl) (pv 5) (pX (zj (K:=K) rfl) (pv 3) (pv 6))) zd)) (pv 9) (zG _))))) (zh (yv (xA (K:=K) rfl ζB ζW ζV yP (pX (zj (K:=K) rfl) (pv 5) (pX (zj (K:=K) rfl) (pv 3) (pv 6))) (zb (pv 8) zd)))) zC))))))))
   (zh (zH (zZ rfl (N:=["_law_row"]) (js:=[none]) (by walk_at"comp_ok") (zB (K:=K) rfl (pv 5)) (λ_ _ _ _=>(pN (i:=0) (show υN ["_law_row"]by decide +kernel))) (λ_ _ _ _=>zP) (λ_ _ _ _=>(pB (Zf (K:=K) rfl) B.sorted (zb (pv 0) zd)))))))))),?_⟩
 have hN:=sc.n 10;obtain⟨ns,n,mo,rfl,hn,rfl⟩:=p;have big:=zU;refine y9 le dp q hN (by walk_at"st") ?_;refine exo true (zT (ds:=[]) zL #[2]) #[0] ?_;refine uP (ds:=(List.range n).map λi:Nat=>.int (i:Int)) true (λi Γ=>∃(ord:AF) (x:Option DV),OrdN i ord∧Γ=[some (.fz false (il ns)),some (.fz false (.int n)),some (.fz false (.int mo)),some (.ow true (ord.map λk:Nat=>.int (k:Int))),x,none,none,none,none,none]) (xP (n:=(n:Int)) ∅ ⋯ ⋯) ⟨[],none,⟨rfl,(λx I=>by cases I),List.nodup_nil⟩,rfl⟩ ?_ ?_
 ·rintro i d Γ' hd ⟨ord,x,ok,rfl⟩;obtain⟨hi,rfl⟩:=w9 hd;have ol:=ok.l;refine⟨_,egn #[0] ?_⟩
  generalize hv:ns.getD (3+2*i) 0%((i:Int)+1)=v;have v0:0≤v:=by rw[←hv];exact ξd _ ⋯
  have v1:v<(i:Int)+1:=by rw[←hv];exact ξf _ ⋯
  have m0:IntMulOk 2 (i:Int):=yu ⋯ ⋯;refine exin (m:=v) (d:=.int i) #[1] (EvE.eq (yE (j:=(i:Int)+1) (zD ∅ ⟨ns,3+2*i,by rw[ξO,ξ7];rfl,rfl⟩) ∅ ⋯) (congrArg PyData.int hv)) ∅ v0 (by rw[ζc];omega) (by rw[ζc];omega) #[0] ?_;have a0:i∉ord:=λz=>by have:=ok.e i z;omega
  have pm:(ord.take v.toNat++i::ord.drop v.toNat).Perm (i::ord):=by
   refine ξL.trans ?_;rw[ζ8]
  refine⟨ord.take v.toNat++i::ord.drop v.toNat,some (.fz true (.int i)),⟨by rw[pm.length_eq,ζZ,ol],λy T=>?_,pm.nodup_iff.mpr (ξn.mpr ⟨a0,ok.nd⟩)⟩,?_⟩
  ·rcases ζq.mp (pm.mem_iff.mp T)with h|h
   ·omega
   ·have:=ok.e y h;omega
  ·rw[ζF,ξq,List.map_take,List.map_drop]
 rintro Γ' ⟨ord,x,t,rfl⟩;rw[wx]at t;refine exfz 3 #[1] #[0] ?_;rw[show PyData.list (ord.map λk:Nat=>.int (k:Int))=nl ord from rfl];refine exo2 (ds:=(List.range n).map λi:Nat=>.int (i:Int)) (κ':=true) (xP (n:=(n:Int)) ∅ ⋯ ⋯) (by rw[wx];omega) #[0] ?_;rw[wx,zd0];refine uP (ds:=(List.range n).map λi:Nat=>.int (i:Int)) true (λi Γ=>∃(css:AI) (x1 x2 L M:Option DV),CN n css∧(∀m,i≤m→m<n→css.getD (ord.getD m 0) []=[])∧(∀m,m<i→m<n→∀y∈css.getD (ord.getD m 0) [],y∈ord.take m)∧Γ=[some (.fz false (il ns)),some (.fz false (.int n)),some (.fz false (.int mo)),some (.fz true (nl ord)),x,some (.o2 none (css.map kD)),x1,x2,L,M]) (xP (n:=(n:Int)) ∅ ⋯ ⋯) ⟨_,none,none,none,none,.nil n,λm _ _=>zap n _,λm h=>absurd h ⋯,rfl⟩ ?_ ?_
 ·rintro i d Γ' hd ⟨css,x1,x2,L,M,co,R,J,rfl⟩;obtain⟨hi,rfl⟩:=w9 hd;refine⟨_,egn #[0] ?_⟩
  have O:=t.at hi;have oE:∀{κ:Bool} {S:PD.Ctx},GetC S 3 (.fz true (nl ord))→GetC S 6 (.fz true (.int i))→EvE K .fresh κ (tOp (rIxL K) (tVar 3) (tVar 6)) S (.int (ord.getD i 0:Nat)):=λg1 g2=>EvE.imm (κ:=false) (zM (EvE.toL (evv g1 #[2])) (evv g2 #[2]) O.1) rfl;have m2:IntMulOk (ns.getD (3+2*ord.getD i 0) 0) 48271:=yu #[2] #[2];have m3:IntMulOk 15485863 ((i:Int)+1):=yu ⋯ ⋯;generalize u:(ns.getD (3+2*ord.getD i 0) 0*48271+15485863*((i:Int)+1))%2147483647=o;refine exs true (d:=.int o) (EvE.eq (yE (tf (wY (zD (zi ∅ (zi (tf ∅ (wY ∅ (oE #[1] #[1]) (yu (by have:=O.2;omega) (by have:=O.2;omega)))) zL)) ⟨ns,3+2*ord.getD i 0,by rw[ξO,ξ7];rfl,rfl⟩) ∅ m2) (wY ∅ ∅ m3)) ∅ #[2]) (congrArg PyData.int u)) #[0] ?_;have V:cutD (ord.map λk:Nat=>PyData.int (k:Int)) none (some (i:Int))=(ord.take i).map λk:Nat=>PyData.int (k:Int):=zcg _ ord i;clear u m2;obtain⟨rm,a1,a3⟩:∃rm:Int,2+2*(if decide (((ord.getD i 0:Nat):Int)=mo)=true then(1:Int)else 0)=rm∧rm≤4:=⟨_,rfl,by split<;>omega⟩
  refine Wt (ds:=(ord.take i).map λk:Nat=>.int (k:Int)) true (λj Γ=>∃(css:AI) (o:Int) (L M:Option DV),CN n css∧(∀m,i<m→m<n→css.getD (ord.getD m 0) []=[])∧(∀m,m<i→m<n→∀y∈css.getD (ord.getD m 0) [],y∈ord.take m)∧(∀x∈css.getD (ord.getD i 0) [],x∈ord.take j)∧Γ=[some (.fz false (il ns)),some (.fz false (.int n)),some (.fz false (.int mo)),some (.fz true (nl ord)),x,some (.o2 none (css.map kD)),some (.fz true (.int i)),some (.fz true (.int o)),L,M]) (zO (EvO.toE (EvO.eq (wz (EvE.toL ∅) ∅ ∅) V))) ⟨css,o,L,M,co,λm U D=>R m ⋯ D,J,by rw[R i (ζp _) hi];exact λx h=>(nomatch h),rfl⟩ ?_ ?_
  ·clear co R J css o L M;rintro j d Γ' hd ⟨css,o,L,M,co,R,J,cs,rfl⟩;obtain⟨c,W,rfl⟩:=uj hd;have X:j<i:=by have:=(ζg.mp W).1;rw[ζL]at this;omega
   have ec:c=ord.getD j 0:=by
    rw[ξY X]at W;rw[ζf,W];rfl
   have a2:c<n:=by rw[ec];exact(t.at (show j<n by omega)).2
   have C:=co.at O.2;refine⟨_,egn #[0] ?_⟩
   have m4:IntMulOk o 48271:=yu #[2] #[2];generalize u:(o*48271+11)%2147483647=g;refine exs true (d:=.int g) (EvE.eq ∅ (congrArg PyData.int u)) #[0] ?_;have a4:CDiv g 64:=⟨#[2],#[2]⟩
   refine exs true (d:=.int rm) (EvE.eq (tf ∅ (wY ∅ (zb9 (u9 (oE #[1] #[1]) ∅)) (yu (by split<;>decide) (by split<;>decide)))) (congrArg PyData.int a1)) #[0] ?_;have ll:PyData.int (((kD (css.getD (ord.getD i 0) [])).length:Nat):Int)=.int ((css.getD (ord.getD i 0) []).length:Int):=by rw[zag]
   have fr:c∉css.getD (ord.getD i 0) []:=λz=>t.fresh (show j<n by omega) (ec ▸ cs c z);have st:ord.take (j+1)=ord.take j++[c]:=by
    rw[ξY X]at W;exact take_succ W
   refine yW (b:=decide (g/64%2=1)&&decide (((css.getD (ord.getD i 0) []).length:Int)<rm)) (xt ∅ λ_=>zW (UT (EvE.eq (yj (EvL.weak (zaJ #[1] (oE #[1] #[1]) C.2.1 C.1) λh=>nomatch h)) ll) ∅)) (λh=>?_) (λh=>?_)
   ·have h':(css.getD (ord.getD i 0) []).length<5:=by
     have:g/64%2=1∧((css.getD (ord.getD i 0) []).length:Int)<rm:=by simpa using h
     omega
    refine zax (d:=.int c) #[1] (oE #[1] #[1]) C.2.1 C.1 ∅ (by rw[zag];omega) #[0] ?_;refine⟨Zj css (ord.getD i 0) c,g,_,_,co.add O.2 a2 h' fr,λm U D=>?_,λm U D=>?_,λx I=>?_,by rw[zck]⟩
    ·rw[Vu _ (t.ne D hi ⋯)];exact R m U D
    ·rw[Vu _ (t.ne D hi ⋯)];exact J m U D
    ·rw[za4 _ (by rw[co.l];exact O.2)]at I;rw[st];rcases ζu.mp I with I|I
     ·exact ζy _ (cs x I)
     ·exact ζw _ I
   ·exact yw ⟨css,g,_,_,co,R,J,λx I=>by rw[st];exact ζy _ (cs x I),rfl⟩
  ·rintro Γ' ⟨css,o,L,M,co,R,J,cs,rfl⟩;refine⟨css,_,_,_,_,co,λm U D=>R m ⋯ D,λm U D=>?_,rfl⟩
   by_cases mi:m=i
   ·subst mi;intro y T;have:=cs y T
    rwa [ζc,ζL,t.l,ξ6 ⋯]at this
   ·exact J m ⋯ D
 ·rintro Γ' ⟨css,x1,x2,L,M,co,R,J,rfl⟩;rw[wx]at J;have e5:(css.map kD).map PyData.list=css.map nl:=by rw[ζP];rfl
  refine zcQ 5 #[1] #[0] ?_;rw[e5];refine zR true (EvO.toE (yR (κ:=true) (is:=[0]) (xs:=css) true nl (λr=>nl (srtN r)) (λx _ y _ h=>by rw[show x=y from by rw[←Qb x,h,Qb]]) (zO ∅) (by walk_at"cc") rfl #[2] (by rw[co.l];omega) ?_)) ⟨css.map srtN,⟨co.sort,ord,t,λm hm y T=>J m hm hm y ?_⟩,by rw[nls,ζP];rfl⟩ (.inl ⟨rfl,rfl⟩)
  ·intro r Y;have k5:=(co.e r Y).2.1;exact egn #[0] (EvE.eq (EvO.toE (Yy (ns:=zl r) (EvE.toL (EvE.eq (κ:=false) ∅ (vW r))) (by unfold zl;rw[List.length_map];omega))) (congrArg PyData.list (Qq _)))
  ·rw[zao]at T;exact(xB _).mem_iff.mp T
def uH(ds:AG)(G:AD→Prop):Prop:=∃(x:Int) (ss:AE) (r:AF) (s:Nat),ds=[.int x,il ss,nl r,.int s]∧(∀s∈ss,2≤s∧s≤4)∧(∀c∈r,c<ss.length)∧r.length≤5∧2≤s∧s≤4∧G=λd=>∃t:AH,(t.length:Int)=prod (pk ss r)∧(∀w∈t,ZP (s:Int) w)∧d=lls t
abbrev iD(r:AE):AG:=r.map .int
theorem Ux{ss:AE}(a:∀s∈ss,2≤s∧s≤4){r:AF}(b:∀c∈r,c<ss.length):∀s∈pk ss r,1≤s∧s≤4:=λs h=>by
 obtain⟨c,d,rfl⟩:=ζn.mp h;have:=yJ a (k:=c) (b c d);omega
def vwF(num:Int)(v:Nat):Int:=max 0 (num/(8+(v:Int))%11-2)
theorem zdU(a:Int)(v:Nat):0≤vwF a v∧vwF a v<10^60:=by
 unfold vwF;have:=ξf (a/(8+(v:Int))) (show(0:Int)<11 by decide);have e:(9:Int)<10^60:=by decide
 omega
theorem Va(n:Nat):ixN (n+1) (-1)=some n:=by
 unfold ixN;rw[if_neg ⋯];split
 ·congr 1;omega
 ·omega
theorem Z6:∀{ws:AE},(∀w∈ws,w=0)→ws.sum=0
 | [],_=>rfl
 | w::r,h=>by rw[List.sum_cons,h w ζi,Z6 λx a=>h x (ζb _ a)];rfl
theorem XO:zJ ["_law_cell","_law_sizes","_law_row","_law_size","_law_count","_law_c","_law_number","_law_found","_law_at"] ["_law_cell","_law_sizes","_law_row","_law_size"] (zr (top 34)):={}
theorem X7(F:Fun K "_law_table" "_law_table" (top 34) f fd)(B:Bs mg)(Z:Cs K mg cA cB cC τa τb τc τd f_Ring g_Ring): FnOk P w K mg base CX0 1 f fd ["_law_cell","_law_sizes","_law_row","_law_size"] (spW K true uH):=by
 have sc:=XO;refine F.ok sc (λvs H Q E h=>xH (λ_ _⟨_,_,_,_,e,_⟩=>by rw[e];rfl) h) (λcdv A outer s H vs Q E I h=>?_);obtain⟨Fh,ds,G,le,dp,p,q⟩:=h
 refine⟨_,(zg (pS (i:=4) sc.nd ze)
   (zg (xR AC rfl (zB (K:=K) rfl (pv 2)) (pN (i:=5) sc.nd) (zh (pS (i:=4) sc.nd (zp y4 (pv 4) (pX (zj (K:=K) rfl) (pv 1) (pv 5))))))
   (zg (pS (i:=6) sc.nd (zp zK (pv 0) ze))
   (zg (pS (i:=7) sc.nd (ya zd))
   (zg (xR AC rfl (yn rfl B.range (zb (pv 4) zd)) (pN (i:=8) sc.nd) (zg (pS (i:=6) sc.nd (zp zK (zp yU (zp yU (zp y4 (pv 6) ze) ze) (pv 8)) ze))
   (zg (yv (xA (K:=K) rfl ζB ζW ζV yP (pv 7) (zb (zZ rfl (N:=["_law_value","_law_number"]) (js:=[none,some 6]) (by walk_at"comp_ok") (yn rfl B.range (zb (pv 3) zd)) (λ_ _ _ _=>(pN (i:=0) (show υN ["_law_value","_law_number"]by decide +kernel))) (λ_ _ _ _=>zP) (λ_ _ _ _=>(pB (ux rfl) B.max (zb ze (zb (zp Yj (zp zK (zp zS (pv 1) (zp yU ze (pv 0))) ze) ze) zd))))) zd)))
   (zh (zY (zv xu (pB (Xw (K:=K) rfl rfl) B.sum (zb (pX (zj (K:=K) rfl) (pv 7) (uL wS ze)) zd)) ze (zG _)) (zh (xf (zp yU ze (zp zK (pv 6) (zp Yk ze ze))) (xx (pX (zj (K:=K) rfl) (pv 7) (uL wS ze)) (zp zK (pv 6) (pv 3)) yB))) zC)))))
   (zh (zH (pv 7)))))))),?_⟩
 have Y:=sc.n 9;obtain⟨x,ss,r,s,rfl,O,I,rl,s2,S,rfl⟩:=p;have big:=zU;refine y9 le dp q Y (by walk_at"st") ?_;refine exs true (d:=.int 1) ∅ #[0] ?_;refine uP (ds:=r.map λk:Nat=>.int (k:Int)) false (λi Γ=>∃b,Γ=[some (.fz false (.int x)),some (.fz false (il ss)),some (.fz false (nl r)),some (.fz false (.int s)),some (.fz true (.int (prod (pk ss (r.take i))))),b,none,none,none]) (zO ∅) ⟨none,rfl⟩ ?_ ?_
 ·rintro i d Γ' hd ⟨b,rfl⟩;obtain⟨c,T,rfl⟩:=uj hd;have cl:=I c (ζk T);have gs:=yJ O (k:=c) cl;have pl:=uf (pk ss (r.take i)) 5 (Ux O λy hy=>I y (List.mem_of_mem_take hy)) (by unfold Sx2.pk;rw[List.length_map,List.length_take];omega);have U:IntMulOk (prod (pk ss (r.take i))) (ss.getD c 0):=yu ⋯ ⋯;refine⟨_,egn #[0] ?_⟩
  refine exs1 true (d:=.int (prod (pk ss (r.take i))*ss.getD c 0)) (wY ∅ (zM ∅ ∅ (wR (ns:=ss) (k:=c) cl)) U) #[0] ⟨some (.fz false (.int (c:Int))),?_⟩;rw[take_succ T,zbw,Xg]
 rintro Γ' ⟨b,rfl⟩;rw[ζc,ξD];have pl:=uf (pk ss r) 5 (Ux O I) (by unfold Sx2.pk;rw[List.length_map];exact rl);obtain⟨m,hm⟩:∃m:Nat,prod (pk ss r)=(m:Int):=⟨(prod (pk ss r)).toNat,⋯⟩
 have U:m≤1024:=by omega
 rw[hm];obtain⟨J,z⟩:∃J,x%2147483647=J:=⟨_,rfl⟩
 refine exs true (d:=.int J) (EvE.eq ∅ (congrArg PyData.int z)) #[0] ?_;clear z pl;refine zej #[0] ?_;refine uP (ds:=(List.range m).map λi:Nat=>.int (i:Int)) true (λj Γ=>∃(t:AH) (u:Int) (C R:Option DV),t.length=j∧(∀w∈t,ZP (s:Int) w)∧Γ=[some (.fz false (.int x)),some (.fz false (il ss)),some (.fz false (nl r)),some (.fz false (.int s)),some (.fz true (.int (m:Int))),C,some (.fz true (.int u)),some (.o2 none (t.map iD)),R]) (xP (n:=(m:Int)) ∅ ⋯ ⋯) ⟨[],J,_,none,rfl,λ_ h=>(nomatch h),rfl⟩ ?_ ?_
 ·rintro j d Γ' hd ⟨t,u,C,R,tl,tb,rfl⟩;obtain⟨hj,rfl⟩:=w9 hd;refine⟨_,egn #[0] ?_⟩
  have m2:IntMulOk u 69621:=yu #[2] #[2];generalize D:(u*69621+1+(j:Int))%2147483647=g;refine exs true (d:=.int g) (EvE.eq ∅ (congrArg PyData.int D)) #[0] ?_;refine yZ (·=[some (.fz false (.int x)),some (.fz false (il ss)),some (.fz false (nl r)),some (.fz false (.int s)),some (.fz true (.int (m:Int))),C,some (.fz true (.int g)),some (.o2 none (t.map iD++[iD ((List.range s).map (vwF g))])),some (.fz true (.int (j:Int)))]) (TD (ds:=iD ((List.range s).map (vwF g))) #[1] (EvO.eq (yR (κ:=true) (is:=[0]) (xs:=List.range s) true (λi:Nat=>.int (i:Int)) (λv:Nat=>.int (vwF g v)) (λa _ b _ h=>by rw[show a=b by injection h with h;omega]) (xP (n:=(s:Int)) ∅ ⋯ ⋯) (by walk_at"cc") rfl #[2] (by rw[List.length_range];omega) ?_) (by unfold iD;rw[List.map_map];rfl)) (by rw[List.length_map];omega) #[0] rfl) ?_
  ·intro v hv;have vs:=ζ1.mp hv;have cd:CDiv g (8+(v:Int)):=⟨⋯,⋯⟩
   exact egn #[0] (EvE.eq (ZW ∅ ∅) rfl)
  rintro _ rfl;have L:((List.range s).map (vwF g)).length=s:=by rw[ζc,ζG]
  have M:∀w∈(List.range s).map (vwF g),0≤w∧w<10^60:=λw o=>by
   obtain⟨v,_,rfl⟩:=ζn.mp o;exact zdU g v
  generalize (List.range s).map (vwF g)=ws at L M;have V:(t.map iD++[iD ws])[t.length]?=some (iD ws):=by rw[ξp (by rw[ζc];omega),ζc,Nat.sub_self];rfl
  have W:ixN (t.map iD++[iD ws]).length (-1)=some t.length:=by
   rw[ζr,ζc];exact Va t.length
  obtain⟨i,hi,is⟩:=wc g (show 0<s by omega);refine yW (b:=decide (ws.sum=0)) (zW (u9 (zaM (ns:=ws) (EvL.weak (zaJ #[1] ∅ W V) λh=>nomatch h)) ∅)) (λc=>?_) (λc=>?_)
  ·have X:(10:Int)^6=1000000:=by decide
   refine zaw (l:=i) (d:=.int (1+g%10^6)) #[1] (tf ∅ (yE ∅ (EvE.eq (Zu ∅ ∅ ⟨#[2],#[2],#[2]⟩) rfl) #[2])) ∅ W V (EvE.eq (yE ∅ ∅ ⋯) (congrArg PyData.int hi)) (by rw[ζc,L];exact yL is) #[0] ?_;have n1:=ξd g (show(1000000:Int)≠0 by decide);have n2:=ξf g (show(0:Int)<1000000 by decide);refine⟨t++[ws.set i (1+g%10^6)],g,C,some (.fz true (.int (j:Int))),by rw[ζr,tl];rfl,λw o=>?_,?_⟩
   ·rcases ζu.mp o with o|o
    ·exact tb w o
    ·rw[ζs.mp o];refine Qz S (by rw[ζA];exact L) (λw o=>?_) ⟨1+g%10^6,ζI.mpr ⟨i,by rw[ζh ⋯]⟩,by rw[X];omega⟩;rcases ζz o with o|o
     ·exact M w o
     ·rw[o,X];have:(1000001:Int)<10^60:=by decide
      omega
   ·have e7:(t.map iD++[iD ws]).set t.length ((iD ws).set i (.int (1+g%10^6)))=(t++[ws.set i (1+g%10^6)]).map iD:=by
     rw[ζF,List.set_append_right _ _ (by rw[ζc];omega),ζc,Nat.sub_self];show _=t.map iD++[(ws.set i (1+g%10^6)).map PyData.int];rw[ξR];rfl
    rw[e7]
  ·have c:=of_decide_eq_false c;refine yw ⟨t++[ws],g,_,_,by rw[ζr,tl];rfl,λw o=>?_,by rw[ζF];rfl⟩;rcases ζu.mp o with o|o
   ·exact tb w o
   ·rw[ζs.mp o];refine Qz S L M ?_;apply Classical.byContradiction;intro no;refine c (Z6 λw o=>?_);have:=(M w o).1;have n2:¬(1≤w):=λh=>no ⟨w,o,h⟩;omega
 ·rintro Γ' ⟨t,u,C,R,tl,tb,rfl⟩;rw[wx]at tl;refine zcQ 7 #[1] #[0] ?_;exact zR true ∅ ⟨t,by rw[tl],tb,by rw[ζP];rfl⟩ (.inl ⟨rfl,rfl⟩)
theorem zca{κ:Bool}{Γ:PD.Ctx}{t:TE}{G a:AD→Prop}(h:EvG K .fresh κ t Γ G)(i:∀d,G d→a d):EvG K .fresh κ t Γ a:=λH0 F0 H F σ e Q q=>h H0 F0 H F σ e Q λd v H' F' hd=>q d v H' F' (i d hd)
theorem yz{pre:AG→(AD→Prop)→Prop}{E:XK}{Γ:PD.Ctx}{t:TA}{ds:AG}{G:AD→Prop}(h:EvA K .fresh false t Γ ds)(hp:pre ds G):EvG K .fresh false (y8 (spW K false pre) [] E t) Γ G:=λH0 F0 H F σ e Q q =>
 h H0 F0 H F σ e _ λvs i a g1 b=>⟨a,ds,G,g1.le,by rw[ζx];exact zI b,hp,λd v c f hd g2 g=>q d v c f hd (g1.trans g2) (v9 (xC g))⟩
def uG(ds:AG)(G:AD→Prop):Prop:=∃(ns:AE) (n:Nat) (ss:AE) (cs:AI),ds=[il ns,.int n,il ss,nls cs]∧n≤12∧ss.length=n∧(∀s∈ss,2≤s∧s≤4)∧ShR n cs∧G=λd=>∃ts,BkP ss cs ts∧d=zX ss cs ts
def TbK(ss:AE)(cs:AI)(k:Nat)(t:AH):Prop:=(t.length:Int)=prod (pk ss (cs.getD k []))∧∀w∈t,ZP (ss.getD k 0) w
def GfK(ss:AE)(cs:AI)(d e:AD):Prop:=∃k:Nat,d=.int (k:Int)∧∃t,TbK ss cs k t∧e=lls t
theorem zeh{ss:AE}{cs:AI}{n:Nat}{b:AG}(h:FaL (GfK ss cs) ((List.range n).map λi:Nat=>.int (i:Int)) b):∃ts:List AH,ts.length=n∧b=ts.map lls∧∀k t,ts[k]?=some t→TbK ss cs k t:=by
 classical
 obtain⟨e,f⟩:=h;rw[ζc,ζG]at e;have ex:∀k,k<n→∃t,TbK ss cs k t∧b[k]?=some (lls t):=λk a=>by
  obtain⟨g,c,t,j,l⟩:=f k (.int (k:Int)) (b[k]'⋯) (by rw[ζj,ξw a];rfl) (ζe ⋯);have:k=g:=by injection c with c;omega
  subst this;exact⟨t,j,by rw[ζe ⋯,l]⟩
 let T:Nat→AH:=λk=>if h:k<n then(ex k h).choose else[]
 have d:∀k,k<n→TbK ss cs k (T k)∧b[k]?=some (lls (T k)):=λk a=>by
  show TbK ss cs k (if h:k<n then(ex k h).choose else[])∧b[k]?=some (lls (if h:k<n then(ex k h).choose else[]));rw[dif_pos a];exact(ex k a).choose_spec
 refine⟨(List.range n).map T,VH,ξJ λk=>?_,λk t h=>?_⟩
 ·by_cases a:k<n
  ·rw[(d k a).2,ζj,VI a];rfl
  ·rw[ζT ⋯,ζT (by rw[ζc,VH];omega)]
 ·obtain⟨a,rfl⟩:=zc6 h;exact(d k a).1
theorem zdP{ss:AE}{cs:AI}{ts:List AH}(n12:ss.length≤12)(c:∀s∈ss,2≤s∧s≤4)(a:ShR ss.length cs)(tl:ts.length=ss.length)(b:∀k t,ts[k]?=some t→TbK ss cs k t):BkP ss cs ts:=by
 refine⟨⟨c,n12,a.l,tl,λk own h=>?_,λk own t d f=>?_,λk t h=>(b k t h).2⟩,λr g=>(a.e r g).2.2⟩
 ·have:=a.e own (ζk h);exact⟨this.1,this.2.1⟩
 ·have:=(b k t f).1
  rwa [ζf,d]at this
theorem XN:zJ ["_law_script","_law_many","_law_sizes","_law_causes","_law_cells"] ["_law_script","_law_many","_law_sizes","_law_causes"] (zr (top 35)):={}
theorem X6(F:Fun K "_law_three" "_law_three" (top 35) f fd)(B:Bs mg)(Z:Cs K mg cA cB cC τa τb τc τd f_Ring g_Ring)(j:wL P w K mg base)(l:zE P w K mg base CX0 "_law_table" ["_law_cell","_law_sizes","_law_row","_law_size"] 1 (spW K true uH)):FnOk P w K mg base CX0 2 f fd ["_law_script","_law_many","_law_sizes","_law_causes"] (spW K false uG):=by
 have sc:=XN;refine F.ok sc (λvs H Q E h=>xH (λ_ _⟨_,_,_,_,e,_⟩=>by rw[e];rfl) h) (λcdv A outer s H vs Q E u h=>?_);obtain⟨L,ds,G,le,dp,p,q⟩:=h
 refine⟨_,(zg (pS (i:=4) sc.nd (zZ rfl (N:=["_law_k","_law_script"]) (js:=[none,some 0]) (by walk_at"comp_ok") (yn rfl B.range (zb (pv 1) zd)) (λ_ _ _ _=>(pN (i:=0) (show υN ["_law_k","_law_script"]by decide +kernel))) (λ_ _ _ _=>zP) (λ_ _ _ _=>(zp zS (pF j u (zb (pv 1) (zb (zp yU ze (zp y4 ze (pv 0))) zd))) ze))))
   (zh (zH (xy (zb (pY (zw (K:=K) rfl) B.list (zb (pv 2) zd)) (zb (pv 3) (zb (zZ rfl (N:=["_law_k","_law_sizes","_law_cells","_law_causes"]) (js:=[none,some 2,some 4,some 3]) (by walk_at"comp_ok") (yn rfl B.range (zb (pv 1) zd)) (λ_ _ _ _=>(pN (i:=0) (show υN ["_law_k","_law_sizes","_law_cells","_law_causes"]by decide +kernel))) (λ_ _ _ _=>zP) (λ_ _ _ _=>(pF l u (zb (pX (zj (K:=K) rfl) (pv 2) (pv 0)) (zb (pv 1) (zb (pX (zj (K:=K) rfl) (pv 3) (pv 0)) (zb (pX (zj (K:=K) rfl) (pv 1) (pv 0)) zd))))))) zd))))))),?_⟩
 have x:=sc.n 5;obtain⟨ns,n,ss,cs,rfl,n12,sl,o,v,rfl⟩:=p;have big:=zU;refine y9 le dp q x (by walk_at"st") ?_;refine exs true (d:=il ((List.range n).map λk:Nat=>ns.getD (4+2*k) 0/3)) (EvO.toE (EvO.eq (ut (λk:Nat=>.int (ns.getD (4+2*k) 0/3)) (is:=[0]) ∅ ⋯ (by walk_at"cc") rfl #[2] ?_) (by rw[ζP];rfl))) #[0] ?_
 ·intro k m;have M:IntMulOk 2 (k:Int):=yu ⋯ ⋯;exact egn #[0] (y6 (zD ∅ ⟨ns,4+2*k,by rw[ξO,ξ7];rfl,rfl⟩) ∅ ⟨#[2],#[2]⟩)
 refine Wq false (zaL (a:=il ss) (b:=nls cs) (EvO.toE (yD (EvE.toL ∅))) ∅ (EvOG.toG (zaD true (GfK ss cs) (is:=[0]) (ds:=(List.range n).map λi:Nat=>.int (i:Int)) (xP (n:=(n:Int)) ∅ ⋯ ⋯) (by walk_at"cc") rfl #[2] (by rw[wx];omega) ?_))) ?_ (.inr rfl)
 ·intro d hd;obtain⟨k,m,rfl⟩:=ζn.mp hd;have m:=ζ1.mp m;have O:=yJ o (k:=k) ⋯;have rk:=v.at (k:=k) m;obtain⟨s,r⟩:∃s:Nat,ss.getD k 0=(s:Int):=⟨(ss.getD k 0).toNat,⋯⟩
  refine egn #[0] ?_;have y:atI (cs.map nl) (k:Int)=some (nl (cs.getD k [])):=uy (g:=nl) rk.1;have z:atI ((((List.range n).map λk:Nat=>ns.getD (4+2*k) 0/3)).map PyData.int) (k:Int)=some (.int (ns.getD (4+2*k) 0/3)):=uy (g:=PyData.int) (VI (f:=λk:Nat=>ns.getD (4+2*k) 0/3) m);refine zca (Yz (ds:=[.int (ns.getD (4+2*k) 0/3),il ss,nl (cs.getD k []),.int (s:Int)]) (zi (zM (EvE.toL ∅) ∅ z) (zi ∅ (zi (zM (EvE.toL ∅) ∅ y) (zi (EvE.eq (zM (EvE.toL ∅) ∅ (wR (ns:=ss) (k:=k) ⋯)) (congrArg PyData.int r)) zL)))) ⟨_,ss,cs.getD k [],s,rfl,o,by rw[sl];exact rk.2.1,rk.2.2.1,⋯,⋯,rfl⟩) ?_;rintro d ⟨t,C,D,rfl⟩;exact⟨k,rfl,t,⟨C,by rw[r];exact D⟩,rfl⟩
 ·rintro d ⟨c,⟨r,I,rfl⟩,rfl⟩;obtain⟨ts,tl,rfl,J⟩:=zeh I;exact⟨ts,zdP ⋯ o (by rw[sl];exact v) ⋯ J,rfl⟩
theorem zcU{x:Nat}{r:AF}:((x:Int)∈zl r)=(x∈r):=by
 unfold zl;rw[ζn];refine propext ⟨?_,λh=>⟨x,h,rfl⟩⟩;rintro⟨y,a,e⟩
 rwa [show x=y by omega]
theorem T4{x:Nat}{r:AF}:decide ((x:Int)∈zl r)=decide (x∈r):=decide_eq_decide.mpr (iff_of_eq zcU)
def Rnd(n:Nat)(cs:AI):Prop:=∃U:AF,U≠[]∧(∀y∈U,y<n)∧∀y∈U,∃c∈cs.getD y [],c∈U
structure Bck(n k:Nat)(cs:AI)(b:AF):Prop where
 m:k∈b
 e:∀y∈b,y<n
 nd:b.Nodup
 h:∀y∈b,y=k∨∃c∈cs.getD y [],c∈b
theorem nd_n{n:Nat}{b:AF}(h:b.Nodup)(e:∀y∈b,y<n):b.length≤n:=by
 have:=Zq (l:=zl b) (S:=rgI n) (by unfold zl;rw[List.nodup_iff_pairwise_ne,List.pairwise_map];exact(List.nodup_iff_pairwise_ne.mp h).imp λz c=>z ⋯) λx a=>by
  obtain⟨y,d,rfl⟩:=ζn.mp a;have:=e y d;exact ue.mpr ⟨⋯,⋯⟩
 rw[wj]at this;unfold zl at this
 rwa [ζc]at this
def nxB(n:Nat)(cs:AI)(b:AF):AF:=(List.range n).filter λe=>!decide (e∈b)&&b.any λc=>decide (c∈cs.getD e [])
theorem Bck.next{n k:Nat}{cs:AI}{b:AF}(h:Bck n k cs b):Bck n k cs (b++nxB n cs b):=by
 have i:∀{y:Nat},y∈nxB n cs b→y<n∧y∉b∧∃c∈b,c∈cs.getD y []:=λ{y} d=>by
  obtain⟨l,j⟩:=ζQ.mp d;rw[ζ3]at j;obtain⟨c,f,g⟩:=ξh.mp j.2;exact⟨List.mem_range.mp l,by simpa using j.1,c,f,of_decide_eq_true g⟩
 refine⟨ζy _ h.m,λy d=>?_,?_,λy d=>?_⟩
 ·rcases ζu.mp d with d|d
  ·exact h.e y d
  ·exact(i d).1
 ·rw[ξm];exact⟨h.nd,List.nodup_range.filter _,λa o c p z=>(i p).2.1 (z ▸ o)⟩
 ·rcases ζu.mp d with d|d
  ·rcases h.h y d with z|⟨c,f,g⟩
   ·exact .inl z
   ·exact .inr ⟨c,f,ζy _ g⟩
  ·obtain⟨_,_,c,f,g⟩:=i d;exact .inr ⟨c,g,ζy _ f⟩
theorem Bck.ring{n k c:Nat}{cs:AI}{b:AF}(h:Bck n k cs b)(a:cs.length=n)(d:c∈b):Rnd n (cs.set k (srtN (cs.getD k []++[c]))):=by
 have f:k<cs.length:=by rw[a];exact h.e k h.m
 refine⟨b,λz=>(by have:=h.m;rw[z]at this;cases this),h.e,λy g=>?_⟩
 by_cases e:y=k
 ·subst e;refine⟨c,?_,d⟩
  rw[ζf,ζh f];exact(xB _).mem_iff.mpr (List.mem_append_right _ (by simp))
 ·rw[ζf,ζm (Ne.symm e),←ζf];exact(h.h y g).resolve_left e
theorem ShR.set{n:Nat}{cs:AI}(h:ShR n cs)(k:Nat){r:AF}(a:∀x∈r,x<n)(b:r.length≤5)(c:r.Pairwise (·<·)):ShR n (cs.set k r):=⟨by rw[ζA];exact h.l,λq hq=>by
 rcases ζz hq with hq|hq
 ·exact h.e q hq
 ·rw[hq];exact⟨a,b,c⟩⟩
def vQ(ds:AG)(G:AD→Prop):Prop:=∃(n:Nat) (cs:AI) (m:Int),ds=[nls cs,.int m]∧0<n∧n≤12∧ShR n cs∧G=λd=>∃cs',ShR n cs'∧(cs'=cs∨Rnd n cs')∧d=nls cs'
theorem YQ:zJ ["_law_causes","_law_number","_law_found","_law_k","_law_back","_law_turn","_law_c"] ["_law_causes","_law_number"] (zr (top 36)):={}
theorem YW(F:Fun K "_law_ringed" "_law_ringed" (top 36) f fd)(B:Bs mg)(Z:Cs K mg cA cB cC τa τb τc τd f_Ring g_Ring): FnOk P w K mg base CX0 1 f fd ["_law_causes","_law_number"] (spW K true vQ):=by
 have sc:=YQ;refine F.ok sc (λvs H Q E h=>xH (λ_ _⟨_,_,_,e,_⟩=>by rw[e];rfl) h) (λcdv A outer s H vs Q E T h=>?_);obtain⟨Fh,ds,G,le,dp,p,q⟩:=h
 refine⟨_,(zg (yp (i:=2) rfl sc.nd rfl rfl (N:=["_law_row"]) (js:=[none]) (by walk_at"comp_ok") (zB (K:=K) rfl (pv 0)) (λ_ _ _ _=>(pN (i:=0) (show υN ["_law_row"]by decide +kernel))) (λ_ _ _ _=>zP) (λ_ _ _ _=>(pY (zw (K:=K) rfl) B.list (zb (pv 0) zd))))
   (zg (pS (i:=3) sc.nd (zp zK (pv 1) (pB (zn (K:=K) rfl) B.len (zb (pv 0) zd))))
   (zg (pS (i:=4) sc.nd (ya (zb (pv 3) zd)))
   (zg (xR AC rfl (yn rfl B.range (zb (pB (zn (K:=K) rfl) B.len (zb (pv 0) zd)) zd)) (pN (i:=5) sc.nd) (zh (pS (i:=4) sc.nd (zp (tV (K:=K) rfl) (pv 4) (QT (y:= "_law_e") rfl (N:=["_law_e","_law_back","_law_causes"]) (js:=[none,some 4,some 0]) (by walk_at"comp_okC") (yn rfl B.range (zb (pB (zn (K:=K) rfl) B.len (zb (pv 0) zd)) zd)) (λ_ _ _ _=>(pN (i:=0) (show υN ["_law_e","_law_back","_law_causes"]by decide +kernel))) (λ_ _ _ _=>(vy (PW.pt (wA (zv (uM (K:=K) rfl) (pv 0) (pv 1) (rfl)) (xI (ye (pB (T0 (K:=K) rfl rfl) B.any (zb (zZ rfl (N:=["_law_c","_law_causes","_law_e"]) (js:=[none,some 2,some 0]) (by walk_at"comp_ok") (zB (K:=K) rfl (pv 1)) (λ_ _ _ _=>(pN (i:=0) (show υN ["_law_c","_law_causes","_law_e"]by decide +kernel))) (λ_ _ _ _=>zP) (λ_ _ _ _=>(x6 (vz (K:=K) rfl) (pv 0) (pX (zj (K:=K) rfl) (pv 1) (pv 2)) (rfl)))) zd)))))))) (λ_ _ _ _=>(pv 0)))))))
   (zg (pS (i:=6) sc.nd (pX (zj (K:=K) rfl) (pv 4) (zp zK (zp zS (pv 1) ze) (pB (zn (K:=K) rfl) B.len (zb (pv 4) zd)))))
   (zg (zY (PW.pt (wA (zv (uM (K:=K) rfl) (pv 6) (pX (zj (K:=K) rfl) (pv 2) (pv 3)) (rfl)) (xI (zv vU (pB (zn (K:=K) rfl) B.len (zb (pX (zj (K:=K) rfl) (pv 2) (pv 3)) zd)) ze (zG _))))) (zh (xf (pB (Zf (K:=K) rfl) B.sorted (zb (zp (tV (K:=K) rfl) (pX (zj (K:=K) rfl) (pv 2) (pv 3)) (ya (zb (pv 6) zd))) zd)) (xx (pv 2) (pv 3) yB))) zC)
   (zh (zH (pv 2))))))))),?_⟩
 have U:=sc.n 7;obtain⟨n,cs,m,rfl,n0,n12,ok,rfl⟩:=p;have big:=zU;have cl:=ok.l;have C:∀{Γ:PD.Ctx} {κ:Bool},GetC Γ 0 (.fz false (nls cs))→EvE K .fresh κ (tCB (λxs H Q=>∃p ys,xs=[.ref p]∧(SqL K H p ys∨SqT K H p ys)∧Q (.int ys.length) H) (zF (tVar 0) tNil)) Γ (.int (n:Int)):=λh=>EvE.eq (yj (ds:=cs.map nl) (EvE.toL (evv h #[2]))) (by rw[ζc,cl]);refine y9 le dp q U (by walk_at"st") ?_;refine exo true (ds:=cs.map nl) (yR (κ:=true) (is:=[0]) (xs:=cs) false nl nl (λx _ y _ h=>h) (zO ∅) (by walk_at"cc") rfl #[2] ⋯ ?_) #[0] ?_
 ·intro r T;exact egn #[0] (EvO.toE (yD (EvL.imm (κ:=false) (EvE.toL ∅) (by have:=yQ (zl r);rwa [show(zl r).map PyData.int=r.map λk:Nat=>PyData.int (k:Int)by unfold zl;rw[List.map_map];rfl]at this))))
 obtain⟨k,V⟩:∃k:Nat,m%(n:Int)=(k:Int):=⟨(m%(n:Int)).toNat,by have:=ξd m (show(n:Int)≠0 by omega);omega⟩
 have kn:k<n:=by have:=ξf m (show(0:Int)<n by omega);omega
 refine exs true (d:=.int k) (EvE.eq (yE ∅ (C #[1]) ⋯) (congrArg PyData.int V)) #[0] ?_;refine exs true (d:=nl [k]) (EvO.toE (zT (ds:=[.int (k:Int)]) ∅ (by show 1≤sizeLine;omega))) #[0] ?_;refine uP (ds:=(List.range n).map λi:Nat=>.int (i:Int)) true (λj Γ=>∃(b:AF) (v:Option DV),Bck n k cs b∧Γ=[some (.fz false (nls cs)),some (.fz false (.int m)),some (.ow true (cs.map nl)),some (.fz true (.int k)),some (.fz true (nl b)),v,none]) (xP (n:=(n:Int)) (zi (C #[1]) zL) ⋯ ⋯) ⟨[k],none,⟨by simp,λy D=>by rw[List.mem_singleton.mp D];exact kn,by simp,λy D=>.inl (List.mem_singleton.mp D)⟩,rfl⟩ ?_ ?_
 ·rintro j d Γ' hd ⟨b,v,bk,rfl⟩;obtain⟨hj,rfl⟩:=w9 hd;have bl:=nd_n bk.nd bk.e;have xl:(nxB n cs b).length≤n:=by
   have:=List.length_filter_le (λe=>!decide (e∈b)&&b.any λc=>decide (c∈cs.getD e [])) (List.range n)
   rwa [ζG]at this
  refine⟨_,egn #[0] ?_⟩
  refine exs1 true (d:=nl (b++nxB n cs b)) (EvE.eq (EvO.toE (uu (xs:=b.map λk:Nat=>PyData.int (k:Int)) (ys:=(nxB n cs b).map λk:Nat=>PyData.int (k:Int)) (EvL.imm (κ:=false) (EvE.toL ∅) (Q5 b)) (EvO.toL (xV (κ:=true) (is:=[0]) (xs:=List.range n) true (λi:Nat=>.int (i:Int)) (λi:Nat=>.int (i:Int)) (λe=>!decide (e∈b)&&b.any λc=>decide (c∈cs.getD e [])) (λx _ y _ h=>by rw[show x=y by injection h with h;omega];exact⟨rfl,rfl⟩) (xP (n:=(n:Int)) (zi (C #[1]) zL) ⋯ ⋯) (by walk_at"cc") rfl #[2] (by rw[ζG];omega) ?_)) (by rw[ζc,ζc];omega))) (by rw[←ζF])) #[0] ⟨_,_,bk.next,rfl⟩;intro e M;have M:=ζ1.mp M;have O:=ok.ix (k:=(e:Int)) ⋯;rw[ζH]at O;refine egn #[0] ⟨?_,λ_=>by walk_at"ev"⟩;refine xt (EvT.eq (zW (Zv (neg:=true) (ns:=zl b) ∅ (EvE.toL (EvE.eq (κ:=false) ∅ (vW b))))) ?_) λ_=>?_
  ·show(!decide ((e:Int)∈zl b))=!decide (e∈b);rw[T4]
  ·refine EvT.eq (et_B (zdI (bs:=b.map λc:Nat=>decide ((c:Int)∈zl (cs.getD e []))) (EvO.toL (EvO.eq (yR (κ:=false) (is:=[0]) (xs:=b) true (λi:Nat=>.int (i:Int)) (λc:Nat=>.bool (decide ((c:Int)∈zl (cs.getD e [])))) (λx _ y _ h=>by rw[show x=y by injection h with h;omega]) (zO ∅) (by walk_at"cc") rfl #[2] ⋯ ?_) (by rw[ζP];rfl))))) ?_
   ·intro c hc;exact egn #[0] (Zv (neg:=false) ∅ (EvE.toL (κ:=false) (zM (EvE.toL ∅) ∅ O)))
   ·rw[List.any_map];refine congrArg (List.any b) (funext λc=>?_);show decide ((c:Int)∈zl (cs.getD e []))=_;rw[T4]
 rintro Γ' ⟨b,v,bk,rfl⟩;have bl:=nd_n bk.nd bk.e;have W:0<b.length:=ξ5 bk.m;obtain⟨i,hi,X⟩:=wc (m/8) W;have I:=zA (d:=0) (l:=b) X;generalize Y:b.getD i 0=c at I;have R:c∈b:=ζk I;have cn:=bk.e c R;have d8:CDiv m 8:=⟨#[2],#[2]⟩
 refine exs true (d:=.int (c:Int)) (zM (EvE.toL ∅) (EvE.eq (yE (y6 ∅ ∅ d8) (EvE.eq (yj (ds:=b.map λk:Nat=>PyData.int (k:Int)) ∅) (by rw[ζc])) ⋯) (congrArg PyData.int hi)) (uy (g:=λk:Nat=>PyData.int (k:Int)) I)) #[0] ?_;obtain⟨a1,a2,a3,a4⟩:=ok.at kn;have ak:atI (cs.map nl) (k:Int)=some (il (zl (cs.getD k []))):=by
  have z:=ok.ix (k:=(k:Int)) ⋯
  rwa [ζH]at z
 have S:(zl (cs.getD k [])).length≤5:=by unfold zl;rw[List.length_map];exact a3
 have J:∀{Γ:PD.Ctx} {κ:Bool},GetC Γ 2 (.ow true (cs.map nl))→GetC Γ 3 (.fz true (.int (k:Int)))→EvL K .fresh κ (tOp (rIxL K) (tVar 2) (tVar 3)) Γ ((zl (cs.getD k [])).map .int):=λu t=>EvL.imm (κ:=true) (EvE.toL (zM (evw u #[2]) (evv t #[2]) ak)) (yQ _);refine exif (b:=(!decide ((c:Int)∈zl (cs.getD k [])))&&decide ((((zl (cs.getD k [])).map PyData.int).length:Int)<5)) (λΓ=>∃(o:AI),ShR n o∧(o=cs∨Rnd n o)∧Γ=[some (.fz false (nls cs)),some (.fz false (.int m)),some (.ow true (o.map nl)),some (.fz true (.int k)),some (.fz true (nl b)),v,some (.fz true (.int (c:Int)))]) (xt (zW (Zv (neg:=true) ∅ (J #[1] #[1]))) λ_=>zW (UT (yj (J (κ:=false) #[1] #[1])) ∅)) (λh=>?_) (λ_=>yw ⟨cs,ok,.inl rfl,rfl⟩) ?_
 ·obtain⟨u,t⟩:=(ζ3 _ _).mp h;have u:(c:Int)∉zl (cs.getD k []):=by simpa using u
  have t:=of_decide_eq_true t;rw[ζc]at t;have l5:(cs.getD k []).length<5:=by unfold zl at t;rw[List.length_map]at t;omega
  have nm:c∉cs.getD k []:=λz=>u (ζn.mpr ⟨c,z,rfl⟩);have nd:(cs.getD k []++[c]).Nodup:=by
   rw[ξm];exact⟨a4.imp λh=>by omega,by simp,λa ha b hb=>by rw[List.mem_singleton.mp hb];exact λz=>nm (z ▸ ha)⟩
  have ez:(zl (cs.getD k [])).map PyData.int++[.int (c:Int)]=(zl (cs.getD k []++[c])).map PyData.int:=by
   unfold zl;rw[ζF,ζF];rfl
  refine exi1 (d:=nl (srtN (cs.getD k []++[c]))) (m:=(k:Int)) (j:=k) #[1] (EvE.eq (EvO.toE (Yy (ns:=zl (cs.getD k []++[c])) (EvO.toL (EvO.eq (uu (κ:=false) (J #[1] #[1]) (EvO.toL (zT (ds:=[.int (c:Int)]) ∅ (by show 1≤sizeLine;omega))) (by rw[List.length_map];show _+1≤sizeLine;omega)) ez)) (by unfold zl;rw[List.length_map,List.length_append];show _+1<64;omega))) (congrArg PyData.list (Qq _))) ∅ (yL (by rw[List.length_map,ok.l];exact kn)) #[0] ?_;exact⟨cs.set k (srtN (cs.getD k []++[c])),ok.set _ (λx hx=>by
   rcases ζu.mp ((xB _).mem_iff.mp hx)with z|z
   ·exact a2 x z
   ·rw[ζs.mp z];exact cn) (by rw[(xB _).length_eq,ζr];show _+1≤5;omega) (Xd nd),.inr (bk.ring cl R),by rw[ξR]⟩
 ·rintro Γ' ⟨o,L,h,rfl⟩;exact exro (κ:=true) #[1] ⟨o,L,h,rfl⟩ (.inl ⟨rfl,rfl⟩)
def uJ(ds:AG)(G:AD→Prop):Prop:=∃(xs:AG) (k:Int),ds=[.list xs,.int k]∧G=λd=>isL d=false
theorem mod4(k:Int):k%4=0∨k%4=1∨k%4=2∨k%4=3:=by omega
theorem XR:zJ ["_law_one","_law_kind"] ["_law_one","_law_kind"] (zr (top 37)):={}
theorem X9(F:Fun K "_law_other" "_law_other" (top 37) f fd)(B:Bs mg)(Z:Cs K mg cA cB cC τa τb τc τd f_Ring g_Ring): FnOk P w K mg base CX0 1 f fd ["_law_one","_law_kind"] (spW K false uJ):=by
 have sc:=XR;refine F.ok sc (λvs H Q E h=>xH (λ_ _⟨_,_,e,_⟩=>by rw[e];rfl) h) (λcdv A outer s H vs Q E c h=>?_);obtain⟨g,ds,G,le,dp,p,q⟩:=h
 refine⟨_,(zg (zY (zv xu (zp zK (pv 1) ze) ze (zG _)) (zh (zH (pY (ub (K:=K) rfl) B.tuple (zb (pv 0) zd)))) zC)
   (zh (zH (pX (zj (K:=K) rfl) (ya (zb xz (zb uY (zb ze (zb QS zd))))) (zp zK (zp zS (pv 1) ze) ze))))),?_⟩
 have a:=sc.n 2;obtain⟨xs,k,rfl,rfl⟩:=p;have big:=zU;have j:CDiv k 3:=⟨#[2],#[2]⟩
 refine y9 le dp q a (by walk_at"st") ?_;refine wQ (b:=decide (k%3=0)) ∅ (λ_=>?_) (λ_=>?_)
 ·exact exrs false (d:=.tuple xs) (UR (EvE.toL ∅)) rfl (.inr rfl)
 refine exn ?_;rcases mod4 (k/3)with h|h|h|h
 ·exact zR (d:=.none) false (zM (ds:=[PyData.none,.str "12", .int 5,.dict []]) (i:=0) (EvO.toL (zT (zi YB (zi YA (zi YD (zi ZY zL)))) (by show 4≤sizeLine;omega))) (EvE.eq ∅ (congrArg PyData.int h)) rfl) rfl (.inr rfl)
 ·exact zR (d:=.str "12") false (zM (ds:=[PyData.none,.str "12", .int 5,.dict []]) (i:=1) (EvO.toL (zT (zi YB (zi YA (zi YD (zi ZY zL)))) (by show 4≤sizeLine;omega))) (EvE.eq ∅ (congrArg PyData.int h)) rfl) rfl (.inr rfl)
 ·exact zR (d:=.int 5) false (zM (ds:=[PyData.none,.str "12", .int 5,.dict []]) (i:=2) (EvO.toL (zT (zi YB (zi YA (zi YD (zi ZY zL)))) (by show 4≤sizeLine;omega))) (EvE.eq ∅ (congrArg PyData.int h)) rfl) rfl (.inr rfl)
 ·exact zR (d:=.dict []) false (zM (ds:=[PyData.none,.str "12", .int 5,.dict []]) (i:=3) (EvO.toL (zT (zi YB (zi YA (zi YD (zi ZY zL)))) (by show 4≤sizeLine;omega))) (EvE.eq ∅ (congrArg PyData.int h)) rfl) rfl (.inr rfl)
theorem zaj{d:AD}(h:isL d=false):itL d=[]:=by
 cases d with
 | list xs=>cases h
 | _=>rfl
def okA(d:AD):Prop:=PyData.canLay0 d=true∧PyData.depth d≤5
def NnO(x0 x1 x2:AD):Prop:=(∀y∈itL x0,okA y)∧(∀r∈itL x1,∀y∈itL r,okA y)∧∀t∈itL x2,∀r∈itL t,∀y∈itL r,okA y
def WrO(d:AD):Prop:=∃x0 x1 x2,d=.tuple [x0,x1,x2]∧(sm1 x1∧sm2 x2)∧BadB x0 x1 x2∧NnO x0 x1 x2
theorem yq(i:Int):okA (.int i):=⟨rfl,by show 0≤5;omega⟩
theorem ZC{p:AD→Bool}{xs:AG}{x:AD}(m:x∈xs)(h:p x=false):xs.all p=false:=by
 rw[ξ0];intro z;rw[ζM]at z;rw[z x m]at h;cases h
section
variable {ss:AE}{cs:AI}{ts:List AH}
theorem BkP.nn(ok:BkP ss cs ts):NnO (il ss) (nls cs) (tbl ts):=by
 refine⟨λy a=>?_,λr b y a=>?_,λt c r b y a=>?_⟩
 ·obtain⟨i,_,rfl⟩:=ζn.mp (show y∈ss.map PyData.int from a);exact yq i
 ·obtain⟨r,_,rfl⟩:=ζn.mp (show r∈cs.map nl from b);obtain⟨i,_,rfl⟩:=ζn.mp (show y∈r.map λk:Nat=>PyData.int (k:Int)from a);exact yq i
 ·obtain⟨t,_,rfl⟩:=ζn.mp (show t∈ts.map lls from c);obtain⟨r,_,rfl⟩:=ζn.mp (show r∈t.map il from b);obtain⟨i,_,rfl⟩:=ζn.mp (show y∈r.map PyData.int from a);exact yq i
theorem zcy{x:AD}(h:sm3 x):sm2 x:=⟨h.1,λy a=>(h.2 y a).1⟩
theorem BkP.s1(ok:BkP ss cs ts):sm1 (nls cs):=ok.b.sm.2.1.1
theorem BkP.s2(ok:BkP ss cs ts):sm2 (tbl ts):=zcy ok.b.sm.2.2
theorem bad0{a b c:AD}(m:sm1 a)(h:szB a=false):BadB a b c:=⟨m,.inl h⟩
theorem BkP.bad1(ok:BkP ss cs ts){a c:AD}(m:sm2 a)(h:csB ss.length a=false):BadB (il ss) a c:=⟨ok.b.sm.1,.inr ⟨ss,rfl,WH ok.b.s ok.b.n,m,.inl h⟩⟩
theorem BkP.bad2(ok:BkP ss cs ts){a:AD}(m:sm3 a)(h:tsB ss cs a=false):BadB (il ss) (nls cs) a:=⟨ok.b.sm.1,.inr ⟨ss,rfl,WH ok.b.s ok.b.n,ok.b.sm.2.1,.inr ⟨cs,rfl,ok.b.sc,V3 ok.b.cl ok.rows,m,h⟩⟩⟩
theorem BkP.badRow(ok:BkP ss cs ts){j:Nat}{y c:AD}(f:j<ss.length)(m:sm1 y)(h:ocB ss.length y=false):BadB (il ss) (.list ((cs.map nl).set j y)) c:=by
 have cl:=ok.b.cl;obtain⟨d,e⟩:=ok.b.sm.2.1;refine ok.bad1 ⟨by show((cs.map nl).set j y).length≤5000;rw[ζA];exact d,λz a=>?_⟩ ?_
 ·rcases ζz (show z∈(cs.map nl).set j y from a)with a|a
  ·exact e z a
  ·rw[a];exact m
 ·unfold csB;rw[show(itL (PyData.list ((cs.map nl).set j y))).all (ocB ss.length)=false from ZC (x:=y) (show y∈(cs.map nl).set j y from ζI.mpr ⟨j,by rw[ζh (by rw[ζc];omega)]⟩) h,ζR]
theorem BkP.badTab(ok:BkP ss cs ts){j:Nat}{y:AD}(c:j<ss.length)(m:sm2 y)(h:tbB (prod (pk ss (cs.getD j []))) (ss.getD j 0) y=false):BadB (il ss) (nls cs) (.list ((ts.map lls).set j y)):=by
 have tl:=ok.b.tl;obtain⟨d,e⟩:=ok.b.sm.2.2;refine ok.bad2 ⟨by show((ts.map lls).set j y).length≤5000;rw[ζA];exact d,λz a=>?_⟩ ?_
 ·rcases ζz (show z∈(ts.map lls).set j y from a)with a|a
  ·exact e z a
  ·rw[a];exact m
 ·unfold tsB;have:(List.range ss.length).all (tkB ss cs (itL (.list ((ts.map lls).set j y))))=false:=by
   rw[ξ0];intro z;rw[ζM]at z;have z:=z j (ζ1.mpr c);unfold tkB at z;rw[show(itL (.list ((ts.map lls).set j y))).getD j .none=y by show((ts.map lls).set j y).getD j .none=y;rw[ζf,ζh (by rw[ζc];omega)];rfl,h]at z;cases z
  rw[this,ζR]
theorem BkP.badW(ok:BkP ss cs ts){j l:Nat}{y:AD}(c:j<ss.length)(e:l<(ts.getD j []).length)(m:sm1 y)(h:rwB (ss.getD j 0) y=false):BadB (il ss) (nls cs) (.list ((ts.map lls).set j (.list (((ts.getD j []).map il).set l y)))):=by
 have tl:=ok.b.tl;have f:=zA (d:=([]:AH)) (l:=ts) (k:=j) ⋯;obtain⟨g,i⟩:=ok.b.sm.2.2.2 _ (ζn.mpr ⟨_,ζk f,rfl⟩);refine ok.badTab c ⟨by show(((ts.getD j []).map il).set l y).length≤5000;rw[ζA];exact g,λz a=>?_⟩ ?_
 ·rcases ζz (show z∈((ts.getD j []).map il).set l y from a)with a|a
  ·exact i z a
  ·rw[a];exact m
 ·unfold tbB;rw[show(itL (PyData.list (((ts.getD j []).map il).set l y))).all (rwB (ss.getD j 0))=false from ZC (x:=y) (show y∈((ts.getD j []).map il).set l y from ζI.mpr ⟨l,by rw[ζh (by rw[ζc];exact e)]⟩) h,ζR]
theorem BkP.wr_row(ok:BkP ss cs ts){j:Nat}{y b:AD}(c:j<ss.length)(m:sm1 y)(h:ocB ss.length y=false)(d:∀z∈itL y,okA z)(e:∀t∈itL b,∀r∈itL t,∀z∈itL r,okA z)(f:sm2 b):WrO (.tuple [il ss,.list ((cs.map nl).set j y),b]):=
 ⟨_,_,_,rfl,⟨by show((cs.map nl).set j y).length≤5000;rw[ζA];exact ok.s1,f⟩,ok.badRow c m h,ok.nn.1,λr a=>by
  rcases ζz (show r∈(cs.map nl).set j y from a)with a|a
  ·exact ok.nn.2.1 r a
  ·rw[a];exact d,e⟩
theorem BkP.s2t(ok:BkP ss cs ts){j:Nat}{y:AD}(m:sm1 y):sm2 (.list ((ts.map lls).set j y)):=⟨by show((ts.map lls).set j y).length≤5000;rw[ζA];exact ok.s2.1,λz a=>by
 rcases ζz (show z∈(ts.map lls).set j y from a)with a|a
 ·exact ok.s2.2 z a
 ·rw[a];exact m⟩
theorem BkP.nn_tab(ok:BkP ss cs ts){j:Nat}{y:AD}(b:∀r∈itL y,∀z∈itL r,okA z):∀t∈itL (.list ((ts.map lls).set j y)),∀r∈itL t,∀z∈itL r,okA z:=λt a=>by
 rcases ζz (show t∈(ts.map lls).set j y from a)with a|a
 ·exact ok.nn.2.2 t a
 ·rw[a];exact b
theorem BkP.wr_tab(ok:BkP ss cs ts){j:Nat}{y:AD}(a:j<ss.length)(m:sm2 y)(h:tbB (prod (pk ss (cs.getD j []))) (ss.getD j 0) y=false)(b:∀r∈itL y,∀z∈itL r,okA z):WrO (.tuple [il ss,nls cs,.list ((ts.map lls).set j y)]):=⟨_,_,_,rfl,⟨ok.s1,ok.s2t m.1⟩,ok.badTab a m h,ok.nn.1,ok.nn.2.1,ok.nn_tab b⟩
theorem BkP.wr_w(ok:BkP ss cs ts){j l:Nat}{y:AD}(c:j<ss.length)(e:l<(ts.getD j []).length)(m:sm1 y)(h:rwB (ss.getD j 0) y=false)(f:∀z∈itL y,okA z):WrO (.tuple [il ss,nls cs,.list ((ts.map lls).set j (.list (((ts.getD j []).map il).set l y)))]):=⟨_,_,_,rfl,⟨ok.s1,ok.s2t (by
 have tl:=ok.b.tl;have g:=zA (d:=([]:AH)) (l:=ts) (k:=j) ⋯;have:=ok.s2.2 _ (ζn.mpr ⟨_,ζk g,rfl⟩);show(((ts.getD j []).map il).set l y).length≤5000;rw[ζA];exact this)⟩,ok.badW c e m h,ok.nn.1,ok.nn.2.1,ok.nn_tab λr a=>by
 rcases ζz (show r∈((ts.getD j []).map il).set l y from a)with a|a
 ·obtain⟨q,_,rfl⟩:=ζn.mp a;intro z n;obtain⟨i,_,rfl⟩:=ζn.mp (show z∈q.map PyData.int from n);exact yq i
 ·rw[a];exact f⟩
end
def yy(ds:AG)(G:AD→Prop):Prop:=∃(ss:AE) (cs:AI) (ts:List AH) (m:Int),ds=[zX ss cs ts,.int m]∧BkP ss cs ts∧G=WrO
theorem xq(ds:AG)(G:AD→Prop)(h:yy ds G):ds.length=2:=by obtain⟨a,b,c,e,rfl,_⟩:=h;rfl
theorem xw{Γ:PD.Ctx}{t:TE}{ns:AE}(h:EvE K .fresh false t Γ (il ns)):EvTr K .fresh (tCB (λxs H Q=>∃p ys,xs=[.ref p]∧(SqL K H p ys∨SqT K H p ys)∧∀l,H l=none→Q (.ref l) (upd H l (.lst ys))) (zF t tNil)) Γ (il ns):=zaB (κ:=false) (yD (EvE.toL h)) λd hd=>by
 obtain⟨i,_,rfl⟩:=ζn.mp hd;rfl
theorem zac{d1 d e:AD}{vs:List V}{L:List (V×AD)}(h:KnA L vs [d1,d,e]):∃f g i,vs=[f,g,i]∧KnV L f d1∧KnV L g d∧KnV L i e:=by
 cases h with
 | cons a h =>
  cases h with
  | cons b h =>
   cases h with
   | cons c h =>
    cases h;exact⟨_,_,_,rfl,a,b,c⟩
theorem BkP.wr3{ss:AE}{cs:AI}{ts:List AH}(ok:BkP ss cs ts){w:Nat}{y:AD}(g:w<3)(h:isL y=false){c d f:AD}(e:[il ss,nls cs,tbl ts].set w y=[c,d,f]):WrO (.tuple [c,d,f]):=by
 have b:=zaj h;have n:=ok.nn;have s1:sm1 y:=by unfold sm1;rw[b];show 0≤5000;omega
 have s2:sm2 y:=⟨s1,λz a=>by rw[b]at a;cases a⟩
 have i:sm3 y:=⟨s1,λz a=>by rw[b]at a;cases a⟩
 match w,g,e with
 | 0,_,e =>
  cases e;exact⟨_,_,_,rfl,⟨ok.s1,ok.s2⟩,bad0 s1 (by unfold szB;rw[h];rfl),λz a=>(by rw[b]at a;cases a),n.2.1,n.2.2⟩
 | 1,_,e =>
  cases e;exact⟨_,_,_,rfl,⟨s1,ok.s2⟩,ok.bad1 s2 (by unfold csB loB;rw[h];rfl),n.1,λz a=>(by rw[b]at a;cases a),n.2.2⟩
 | 2,_,e =>
  cases e;exact⟨_,_,_,rfl,⟨ok.s1,s2⟩,ok.bad2 i (by unfold tsB loB;rw[h];rfl),n.1,n.2.1,λz a=>(by rw[b]at a;cases a)⟩
theorem uU:zJ ["_law_three_here","_law_number","_law_lists","_law_which","_law_at","_law_rows"] ["_law_three_here","_law_number"] (zr (top 38)):={}
theorem uZ(F:Fun K "_law_lists_wrong" "_law_lists_wrong" (top 38) f fd)(B:Bs mg)(Z:Cs K mg cA cB cC τa τb τc τd f_Ring g_Ring)(g:zE P w K mg base CX0 "_law_other" ["_law_one","_law_kind"] 1 (spW K false uJ)):FnOk P w K mg base CX0 2 f fd ["_law_three_here","_law_number"] (spW K false yy):=by
 have sc:=uU;refine F.ok sc (λvs H Q E h=>xH xq h) (λcdv A outer s H vs Q E hr h=>?_);obtain⟨Fh,ds,G,le,dp,p,q⟩:=h
 refine⟨_,(zg (pS (i:=2) sc.nd (ya (zb (pY (zw (K:=K) rfl) B.list (zb (pX (zN (K:=K) rfl) (pv 0) ze) zd)) (zb (zZ rfl (N:=["_law_row"]) (js:=[none]) (by walk_at"comp_ok") (zB (K:=K) rfl (pX (zN (K:=K) rfl) (pv 0) ze)) (λ_ _ _ _=>(pN (i:=0) (show υN ["_law_row"]by decide +kernel))) (λ_ _ _ _=>zP) (λ_ _ _ _=>(pY (zw (K:=K) rfl) B.list (zb (pv 0) zd)))) (zb (zZ rfl (N:=["_law_rows"]) (js:=[none]) (by walk_at"comp_ok") (zB (K:=K) rfl (pX (zN (K:=K) rfl) (pv 0) ze)) (λ_ _ _ _=>(pN (i:=0) (show υN ["_law_rows"]by decide +kernel))) (λ_ _ _ _=>zP) (λ_ _ _ _=>(zZ rfl (N:=["_law_row"]) (js:=[none]) (by walk_at"comp_ok") (zB (K:=K) rfl (pv 0)) (λ_ _ _ _=>(pN (i:=0) (show υN ["_law_row"]by decide +kernel))) (λ_ _ _ _=>zP) (λ_ _ _ _=>(pY (zw (K:=K) rfl) B.list (zb (pv 0) zd)))))) zd)))))
   (zg (pS (i:=3) sc.nd (zp zK (zp zS (pv 1) ze) ze))
   (zg (pS (i:=4) sc.nd (zp zK (zp zS (pv 1) ze) (pB (ux rfl) B.max (zb ze (zb (pB (zn (K:=K) rfl) B.len (zb (pX (zN (K:=K) rfl) (pv 0) ze) zd)) zd)))))
   (zg (zY (PW.pt (wA (zv uN (pv 3) ze (zG _)) (xI (zv (vA (K:=K) rfl hr.units) (pX (zN (K:=K) rfl) (pv 0) ze) (ya zd) (zG _))))) (zh (pS (i:=3) sc.nd (zp zK (zp zS (pv 1) ze) ze))) zC)
   (zg (zY (zv vU (pv 3) ze (zG _)) (zh (xf (pF g hr (zb (pX (zj (K:=K) rfl) (pv 2) (pv 3)) (zb (pv 1) zd))) (xx (pv 2) (pv 3) yB))) zC)
   (zg (zY (zv xu (pv 3) ze (zG _)) (zh (xf (pF g hr (zb (pX (zj (K:=K) rfl) (pX (zj (K:=K) rfl) (pv 2) (zp yU ze (zp zK (zp zS (pv 1) ze) ze))) (pv 4)) (zb (pv 1) zd))) (xx (pX (zj (K:=K) rfl) (pv 2) (zp yU ze (zp zK (zp zS (pv 1) ze) ze))) (pv 4) yB))) zC)
   (zg (zY (zv xu (pv 3) ze (zG _)) (zg (pS (i:=5) sc.nd (pX (zj (K:=K) rfl) (pX (zj (K:=K) rfl) (pv 2) ze) (pv 4)))
   (zh (xf (pF g hr (zb (pX (zj (K:=K) rfl) (pv 5) (zp zK (zp zS (pv 1) ze) (pB (zn (K:=K) rfl) B.len (zb (pv 5) zd)))) (zb (pv 1) zd))) (xx (pv 5) (zp zK (zp zS (pv 1) ze) (pB (zn (K:=K) rfl) B.len (zb (pv 5) zd))) yB)))) zC)
   (zh (zH (xy (zb (pX (zj (K:=K) rfl) (pv 2) ze) (zb (pX (zj (K:=K) rfl) (pv 2) ze) (zb (pX (zj (K:=K) rfl) (pv 2) ze) zd))))))))))))),?_⟩
 have hN:=sc.n 6;obtain⟨ss,cs,ts,m,rfl,ok,rfl⟩:=p;have big:=zU;have n12:=ok.b.n;have cl:=ok.b.cl;have tl:=ok.b.tl;refine y9 le dp q hN (by walk_at"st") ?_;refine exr (d:=.list [il ss,nls cs,tbl ts]) (ZV (yY (xw (z0 ∅ ∅ atI0)) (yY (yX (is:=[0]) (xs:=cs) false nl nl (λ_ _ _ _ h=>h) (zO (z0 ∅ ∅ atI1)) (by walk_at"cc") rfl #[2] ⋯ ?_) (yY (yX (is:=[0]) (xs:=ts) false lls lls (λ_ _ _ _ h=>h) (zO (z0 ∅ ∅ atI2)) (by walk_at"cc") rfl #[2] ⋯ ?_) ZZ))) (by show 3≤sizeLine;omega)) #[0] ?_
 ·intro r hr;exact egn #[0] (EvTr.eq (xw (EvE.eq (κ:=false) ∅ (vW r))) (vW r).symm)
 ·intro t ht;have:=ok.b.tlen ht;refine egn #[0] (yX (is:=[0]) (xs:=t) false il il (λ_ _ _ _ h=>h) (zO ∅) (by walk_at"cc") rfl #[2] ⋯ ?_);intro r hr;exact egn #[0] (xw ∅)
 obtain⟨T,h0,l0⟩:∃T:Nat,m/3%5=(T:Int)∧T<5:=⟨(m/3%5).toNat,⋯,⋯⟩
 have d3:CDiv m 3:=⟨#[2],#[2]⟩
 have a5:CDiv m 15:=⟨#[2],#[2]⟩
 have U:CDiv m 120:=⟨#[2],#[2]⟩
 refine exs true (d:=.int T) (EvE.eq ∅ (congrArg PyData.int h0)) #[0] ?_;have mx:(1:Int)≤max 1 (ss.length:Int):=by omega
 obtain⟨j,hj,jl⟩:∃j:Nat,m/15%max 1 (ss.length:Int)=(j:Int)∧(ss≠[]→j<ss.length):=⟨(m/15%max 1 (ss.length:Int)).toNat,by have:=ξd (m/15) (show max 1 (ss.length:Int)≠0 by omega);omega,λz=>by
  have:=ζK.mpr z;have:=ξf (m/15) (show 0<max 1 (ss.length:Int)by omega);have:=ξd (m/15) (show max 1 (ss.length:Int)≠0 by omega);omega⟩
 refine exs true (d:=.int j) (EvE.eq (yE (y6 ∅ ∅ a5) (ZW ∅ (EvE.eq (yj (ds:=ss.map PyData.int) (EvE.toL (z0 ∅ ∅ atI0))) (vD ss))) ⋯) (congrArg PyData.int hj)) #[0] ?_;obtain⟨w1,h1,l1⟩:∃w1:Nat,m/15%3=(w1:Int)∧w1<3:=⟨(m/15%3).toNat,⋯,⋯⟩
 obtain⟨w,hw⟩:∃w:Nat,w=if decide ((2:Int)<(T:Int))&&decide (ss=[])then w1 else T:=⟨_,rfl⟩
 have w5:w<5:=by rw[hw];split<;>omega
 have w3:3≤w→ss≠[]:=λz e=>by
  rw[hw]at z;split at z
  ·omega
  ·rename_i c;rw[e]at c;simp at c;omega
 refine exif (b:=decide ((2:Int)<(T:Int))&&decide (ss=[])) (·=[some (.fz false (zX ss cs ts)),some (.fz false (.int m)),some (trD (.list [il ss,nls cs,tbl ts])),some (.fz true (.int w)),some (.fz true (.int j)),none]) (xt ∅ λ_=>EvT.eq (zW (v8 (neg:=false) (d:=il ss) (f:=.list []) (EvE.toD (κ:=false) (z0 ∅ ∅ atI0)) (EvE.toD (κ:=false) (EvO.toE (zT (ds:=[]) zL #[2]))) (yI _) (yI []))) (by rw[if_neg #[2]];exact Zx ss [])) (λc=>?_) (λc=>?_) ?_
 ·refine exs1 true (d:=.int w1) (EvE.eq ∅ (congrArg PyData.int h1)) #[0] ?_;rw[hw,if_pos c]
 ·refine yw ?_;rw[hw,if_neg (by rw[c];decide)]
 rintro _ rfl;clear hw h0 h1 l0 l1 T w1 d3;have M:∀{e0 D e2:AD} {b3 b4 b5:Option DV},WrO (.tuple [e0,D,e2])→ExT K .fresh .fresh (tRet (tTup (zF (tOp (rIxL K) (tVar 2) (tC (.int 0))) (zF (tOp (rIxL K) (tVar 2) (tC (.int 1))) (zF (tOp (rIxL K) (tVar 2) (tC (.int 2))) tNil))))) [some (.fz false (zX ss cs ts)),some (.fz false (.int m)),some (.fz false (.list [e0,D,e2])),b3,b4,b5] {nx:=λ_=>False,rt:=WrO}:=λh=>zR false (v7 (ds:=[_,_,_]) (zi (zM (EvE.toL ∅) ∅ atI0) (zi (zM (EvE.toL ∅) ∅ atI1) (zi (zM (EvE.toL ∅) ∅ atI2) zL))) (by show 3≤sizeLine;omega)) h (.inr rfl);by_cases c3:w<3
 ·refine xD (x:=2) (G:=Op0 [il ss,nls cs,tbl ts]) #[1] zdh (λv A W L=>by walk_at"sc") ?_;rintro v A W L ⟨a,vs,rfl,rfl,rfl,kn⟩;obtain⟨v1,v2,v3,rfl,k1,Y,V⟩:=zac kn;obtain⟨u,xs,O,ku⟩:∃u xs,atI [v1,v2,v3] (w:Int)=some u∧KnV L u (.list xs):=by
   match w,c3 with
   | 0,_=>exact⟨v1,_,rfl,k1⟩
   | 1,_=>exact⟨v2,_,rfl,Y⟩
   | 2,_=>exact⟨v3,_,rfl,V⟩
  refine exif (b:=decide ((w:Int)<3)) (λΓ=>∃u y,isL y=false∧Γ=[some (.fz false (zX ss cs ts)),some (.fz false (.int m)),some (clD K (.ref a) [a] [[v1,v2,v3].set w u] ((u,y)::L)),some (.fz true (.int w)),some (.fz true (.int j)),none]) ∅ (λ_=>?_) (λc=>?_) ?_
  ·refine xi (x:=2) (i:=0) (j:=w) (vs:=[v1,v2,v3]) (G:=λd=>isL d=false) #[1] rfl rfl (yz (ds:=[.list xs,.int m]) (zi (wf (x:=2) #[1] (zQ (x:=2) (i:=0) #[1] rfl rfl (yc #[1]) ∅ O) ku) (zi ∅ zL)) ⟨xs,m,rfl,rfl⟩) (yc #[1]) ∅ (yL (show w<[v1,v2,v3].length from c3)) (λw d=>by walk_at"sc") ?_;exact λu y C=>⟨u,y,C,rfl⟩
  ·have:=of_decide_eq_false c;omega
  rintro _ ⟨u,y,C,rfl⟩;refine xo (b:=decide ((w:Int)=3)) ∅ (decide_eq_false ⋯) ?_;refine xo (b:=decide ((w:Int)=4)) ∅ (decide_eq_false ⋯) ?_;obtain⟨e0,D,e2,he⟩:∃e0 D e2,[il ss,nls cs,tbl ts].set w y=[e0,D,e2]:=by
   match w,c3 with
   | 0,_=>exact⟨_,_,_,rfl⟩
   | 1,_=>exact⟨_,_,_,rfl⟩
   | 2,_=>exact⟨_,_,_,rfl⟩
  refine vC 2 (d:=.list [e0,D,e2]) #[1] (.cell 0 rfl rfl (by rw[←he];exact(KnA.set (.mem ζi) (kn.more λp hp=>ζb _ hp) w).kc)) #[0] ?_;exact M (ok.wr3 c3 C he)
 have s0:=w3 ⋯;have jn:=jl s0;have gc:=zA (d:=([]:AF)) (l:=cs) (k:=j) ⋯;have gt:=zA (d:=([]:AH)) (l:=ts) (k:=j) ⋯;have n:=ok.nn;have o:∀{y:AD},isL y=false→sm1 y∧sm2 y∧(∀z∈itL y,okA z)∧∀r∈itL y,∀z∈itL r,okA z:=λ{y} h=>by
  have iy:=zaj h;exact⟨by unfold sm1;rw[iy];show 0≤5000;omega,⟨by rw[iy];show 0≤5000;omega,λz X=>(by rw[iy]at X;cases X)⟩,λz X=>(by rw[iy]at X;cases X),λz X=>(by rw[iy]at X;cases X)⟩
 refine xo (b:=decide ((w:Int)<3)) ∅ (decide_eq_false ⋯) ?_;by_cases c4:w=3
 ·refine xD (x:=2) (G:=Op1 (ss.map .int) (cs.map nl) (ts.map lls)) #[1] QX (λv A W L=>by walk_at"sc") ?_;rintro v A W L ⟨a0,a1,a2,a3,R,I,J,rfl,rfl,rfl,k1,Y,V⟩;have m0:m/120%2=0∨m/120%2=1:=by omega
  rcases m0 with m0|m0
  ·obtain⟨u,O,ku⟩:=Y.get (j:=j) (d:=nl (cs.getD j [])) (by rw[ζj,gc];rfl);have D:(1:Int)+m/120%2=1:=by omega
   refine exif (b:=decide ((w:Int)=3)) (λΓ=>∃u y,isL y=false∧Γ=[some (.fz false (zX ss cs ts)),some (.fz false (.int m)),some (clD K (.ref a0) [a0,a1,a2,a3] [[.ref a1,.ref a2,.ref a3],R,I.set j u,J] ((u,y)::L)),some (.fz true (.int w)),some (.fz true (.int j)),none]) ∅ (λ_=>?_) (λc=>absurd (of_decide_eq_false c) ⋯) ?_
   ·refine xi (x:=2) (i:=2) (j:=j) (vs:=I) (G:=λd=>isL d=false) #[1] rfl rfl (yz (ds:=[nl (cs.getD j []),.int m]) (zi (wf (x:=2) #[1] (zQ (x:=2) (i:=2) #[1] rfl rfl (zQ (x:=2) (i:=0) (m:=1) #[1] rfl rfl (yc #[1]) (EvE.eq ∅ (congrArg PyData.int D)) rfl) ∅ (ym O)) ku) (zi ∅ zL)) ⟨_,m,rfl,rfl⟩) (zQ (x:=2) (i:=0) (m:=1) #[1] rfl rfl (yc #[1]) (EvE.eq ∅ (congrArg PyData.int D)) rfl) ∅ (yL (ζg.mp O).1) (λw d=>by walk_at"sc") ?_;exact λu y C=>⟨u,y,C,rfl⟩
   rintro _ ⟨u,y,C,rfl⟩;refine xo (b:=decide ((w:Int)=4)) ∅ (decide_eq_false ⋯) ?_;refine vC 2 (d:=.list [il ss,.list ((cs.map nl).set j y),tbl ts]) #[1] (.cell 0 rfl rfl (.cons (.cell 1 rfl rfl (k1.more λp hp=>ζb _ hp).kc) (.cons (.cell 2 rfl rfl (KnA.set (.mem ζi) (Y.more λp hp=>ζb _ hp) j).kc) (.cons (.cell 3 rfl rfl (V.more λp hp=>ζb _ hp).kc) .nil)))) #[0] ?_;exact M (ok.wr_row jn (o C).1 (by unfold ocB;rw[C];rfl) (o C).2.2.1 n.2.2 ok.s2)
  ·obtain⟨u,O,ku⟩:=V.get (j:=j) (d:=lls (ts.getD j [])) (by rw[ζj,gt];rfl);have D:(1:Int)+m/120%2=2:=by omega
   refine exif (b:=decide ((w:Int)=3)) (λΓ=>∃u y,isL y=false∧Γ=[some (.fz false (zX ss cs ts)),some (.fz false (.int m)),some (clD K (.ref a0) [a0,a1,a2,a3] [[.ref a1,.ref a2,.ref a3],R,I,J.set j u] ((u,y)::L)),some (.fz true (.int w)),some (.fz true (.int j)),none]) ∅ (λ_=>?_) (λc=>absurd (of_decide_eq_false c) ⋯) ?_
   ·refine xi (x:=2) (i:=3) (j:=j) (vs:=J) (G:=λd=>isL d=false) #[1] rfl rfl (yz (ds:=[lls (ts.getD j []),.int m]) (zi (wf (x:=2) #[1] (zQ (x:=2) (i:=3) #[1] rfl rfl (zQ (x:=2) (i:=0) (m:=2) #[1] rfl rfl (yc #[1]) (EvE.eq ∅ (congrArg PyData.int D)) rfl) ∅ (ym O)) ku) (zi ∅ zL)) ⟨_,m,rfl,rfl⟩) (zQ (x:=2) (i:=0) (m:=2) #[1] rfl rfl (yc #[1]) (EvE.eq ∅ (congrArg PyData.int D)) rfl) ∅ (yL (ζg.mp O).1) (λw d=>by walk_at"sc") ?_;exact λu y C=>⟨u,y,C,rfl⟩
   rintro _ ⟨u,y,C,rfl⟩;refine xo (b:=decide ((w:Int)=4)) ∅ (decide_eq_false ⋯) ?_;refine vC 2 (d:=.list [il ss,nls cs,.list ((ts.map lls).set j y)]) #[1] (.cell 0 rfl rfl (.cons (.cell 1 rfl rfl (k1.more λp hp=>ζb _ hp).kc) (.cons (.cell 2 rfl rfl (Y.more λp hp=>ζb _ hp).kc) (.cons (.cell 3 rfl rfl (KnA.set (.mem ζi) (V.more λp hp=>ζb _ hp) j).kc) .nil)))) #[0] ?_;exact M (ok.wr_tab jn (o C).2.1 (by unfold tbB loB;rw[C];rfl) (o C).2.2.2)
 ·have c5:w=4:=by omega
  refine xo (b:=decide ((w:Int)=3)) ∅ (decide_eq_false ⋯) ?_;refine xD (x:=2) (G:=Op2 j (ss.map .int) (cs.map nl) (ts.map lls) ((ts.getD j []).map il)) #[1] (QW (by rw[ζj,gt];rfl)) (λv A W L=>by walk_at"sc") ?_;rintro v A W L ⟨a0,a1,a2,a3,a4,R,I,J,S,rfl,rfl,rfl,k1,Y,V,k4⟩;have v4:S.length=(ts.getD j []).length:=by rw[k4.length,ζc]
  have t1:1≤(ts.getD j []).length:=by
   have:=ok.b.tk j _ _ gc gt;have:=ok.b.pr1 gc;omega
  obtain⟨l,hl,ll⟩:=wc (m/120) (show 0<S.length by omega);have gl:=zA (d:=([]:AE)) (l:=ts.getD j []) (k:=l) ⋯;obtain⟨u,O,ku⟩:=k4.get (j:=l) (d:=il ((ts.getD j []).getD l [])) (by rw[ζj,gl];rfl);refine exif (b:=decide ((w:Int)=4)) (λΓ=>∃u y,isL y=false∧Γ=[some (.fz false (zX ss cs ts)),some (.fz false (.int m)),some (clD K (.ref a0) [a0,a1,a2,a3,a4] [[.ref a1,.ref a2,.ref a3],R,I,J,S.set l u] ((u,y)::L)),some (.fz true (.int w)),some (.fz true (.int j)),some (.fn a4)]) ∅ (λ_=>?_) (λc=>absurd (of_decide_eq_false c) ⋯) ?_
  ·refine Zt (r:=5) (a:=a4) (zQ (x:=2) (i:=3) #[1] rfl rfl (zQ (x:=2) (i:=0) (m:=2) #[1] rfl rfl (yc #[1]) ∅ rfl) ∅ (ym V.at_)) #[0] ?_;refine xi (x:=2) (i:=4) (j:=l) (vs:=S) (G:=λd=>isL d=false) #[1] rfl rfl (yz (ds:=[il ((ts.getD j []).getD l []),.int m]) (zi (wf (x:=2) #[1] (zQ (x:=2) (i:=4) #[1] rfl rfl (yf #[1]) (EvE.eq (yE (y6 ∅ ∅ U) (wK (x:=2) (i:=4) #[1] rfl rfl (yf #[1])) ⋯) (congrArg PyData.int hl)) (ym O)) ku) (zi ∅ zL)) ⟨_,m,rfl,rfl⟩) (yf #[1]) (EvE.eq (yE (y6 ∅ ∅ U) (wK (x:=2) (i:=4) #[1] rfl rfl (yf #[1])) ⋯) (congrArg PyData.int hl)) (yL ll) (λw d=>by walk_at"sc") ?_;exact λu y C=>⟨u,y,C,rfl⟩
  rintro _ ⟨u,y,C,rfl⟩;refine vC 2 (d:=.list [il ss,nls cs,.list ((ts.map lls).set j (.list (((ts.getD j []).map il).set l y)))]) #[1] (.cell 0 rfl rfl (.cons (.cell 1 rfl rfl (k1.more λp hp=>ζb _ hp).kc) (.cons (.cell 2 rfl rfl (Y.more λp hp=>ζb _ hp).kc) (.cons (.cell 3 rfl rfl ((V.more λp hp=>ζb _ hp).kc (.cell 4 rfl rfl (KnA.set (.mem ζi) (k4.more λp hp=>ζb _ hp) l).kc))) .nil)))) #[0] ?_;exact M (ok.wr_w jn ⋯ (o C).1 (by unfold rwB loB;rw[C];rfl) (o C).2.2.1)
theorem Yq{n:Int}{xs:AG}(h:(xs.length:Int)≠n):loB n (.list xs)=false:=by
 show(true&&decide ((xs.length:Int)=n))=false;rw[decide_eq_false h];rfl
section
variable {ss:AE}{cs:AI}{ts:List AH}
theorem BkP.wr_n0(ok:BkP ss cs ts){a:AE}(h:a.length≠ss.length)(l:a.length≤5000):WrO (.tuple [il a,nls cs,tbl ts]):=by
 refine⟨_,_,_,rfl,⟨ok.s1,ok.s2⟩,?_,λy c=>?_,ok.nn.2.1,ok.nn.2.2⟩
 ·refine⟨uT l,?_⟩
  cases d:szB (il a)with
  | false=>exact .inl rfl
  | true =>
   refine .inr ⟨a,rfl,rfl,ok.b.sm.2.1,.inl ?_⟩;unfold csB;have cl:=ok.b.cl;rw[show loB (a.length:Int) (nls cs)=false from Yq (by rw[ζc];omega)];rfl
 ·obtain⟨i,_,rfl⟩:=ζn.mp (show y∈a.map PyData.int from c);exact yq i
theorem BkP.wr_n1(ok:BkP ss cs ts){xs:AG}(h:xs.length≠ss.length)(l:xs.length≤5000)(e:∀x∈xs,x=.list []∨x∈cs.map nl):WrO (.tuple [il ss,.list xs,tbl ts]):=by
 obtain⟨_,a⟩:=ok.b.sm.2.1;refine⟨_,_,_,rfl,⟨l,ok.s2⟩,ok.bad1 ⟨l,λx c=>?_⟩ ?_,ok.nn.1,λr d=>?_,ok.nn.2.2⟩
 ·rcases e x c with rfl|z
  ·show 0≤5000;omega
  ·exact a x z
 ·unfold csB;rw[Yq ⋯];rfl
 ·rcases e r d with rfl|z
  ·exact λ_ z=>nomatch z
  ·exact ok.nn.2.1 r z
theorem BkP.wr_n2(ok:BkP ss cs ts){xs:AG}(h:xs.length≠ss.length)(l:xs.length≤5000)(e:∀x∈xs,x=.list [.list [.int 1,.int 1]]∨x∈ts.map lls):WrO (.tuple [il ss,nls cs,.list xs]):=by
 obtain⟨_,d⟩:=ok.b.sm.2.2;have c:sm3 (.list xs):=⟨l,λx f=>?_⟩
 refine⟨_,_,_,rfl,⟨ok.s1,zcy c⟩,ok.bad2 c ?_,ok.nn.1,ok.nn.2.1,λt g=>?_⟩
 rotate_left 2
 ·rcases e x f with rfl|z
  ·refine⟨by show 1≤5000;omega,λy a=>?_⟩
   rw[ζs.mp (show y∈[PyData.list [.int 1,.int 1]]from a)];show 2≤5000;omega
  ·exact d x z
 ·unfold tsB;rw[Yq ⋯];rfl
 ·rcases e t g with rfl|z
  ·intro r i y a;rw[ζs.mp (show r∈[PyData.list [.int 1,.int 1]]from i)]at a;have:y=.int 1:=by
    rcases ζq.mp (show y∈[PyData.int 1,.int 1]from a)with z|z
    ·exact z
    ·exact ζs.mp z
   rw[this];exact yq 1
  ·exact ok.nn.2.2 t z
theorem BkP.tj(ok:BkP ss cs ts){j:Nat}(e:j<ss.length):((ts.getD j []).length:Int)=prod (pk ss (cs.getD j []))∧1≤(ts.getD j []).length∧(ts.getD j []).length≤1024∧∀r∈ts.getD j [],ZP (ss.getD j 0) r:=by
 have cl:=ok.b.cl;have tl:=ok.b.tl;have a:=zA (d:=([]:AF)) (l:=cs) (k:=j) ⋯;have c:=zA (d:=([]:AH)) (l:=ts) (k:=j) ⋯;have tk:=ok.b.tk j _ _ a c;have f:=ok.b.pr1 a;have pr:=ok.b.pr a;exact⟨tk,⋯,⋯,ok.b.rk j _ c⟩
theorem BkP.wr_nt(ok:BkP ss cs ts){j:Nat}{t:AH}(a:j<ss.length)(h:t.length≠(ts.getD j []).length)(l:t.length≤5000)(e:∀r∈t,r∈ts.getD j []):WrO (.tuple [il ss,nls cs,.list ((ts.map lls).set j (lls t))]):=by
 obtain⟨tk,_,_,rk⟩:=ok.tj a;have f:=yJ ok.b.s a;refine ok.wr_tab a (Up l λr c=>?_) ?_ λr c y d=>?_
 ·have:=(rk r (e r c)).l;omega
 ·unfold tbB;rw[show loB (prod (pk ss (cs.getD j []))) (lls t)=false from Yq (by rw[ζc];omega)];rfl
 ·obtain⟨r,_,rfl⟩:=ζn.mp (show r∈t.map il from c);obtain⟨i,_,rfl⟩:=ζn.mp (show y∈r.map PyData.int from d);exact yq i
theorem BkP.wr_nr(ok:BkP ss cs ts){j l:Nat}{r:AE}(a:j<ss.length)(b:l<(ts.getD j []).length)(h:(r.length:Int)≠ss.getD j 0)(c:r.length≤5000):WrO (.tuple [il ss,nls cs,.list ((ts.map lls).set j (.list (((ts.getD j []).map il).set l (il r))))]):=by
 refine ok.wr_w a b (uT c) ?_ λy d=>?_
 ·unfold rwB;rw[show loB (ss.getD j 0) (il r)=false from Yq (by rw[ζc];exact h)];rfl
 ·obtain⟨i,_,rfl⟩:=ζn.mp (show y∈r.map PyData.int from d);exact yq i
end
theorem w8{a:Type}{x:a}:∀{l:List a} {j:Nat},l[j]?=some x→l.set j x=l
 | [],_,h=>by simp at h
 | y::l,0,h=>by simp at h;subst h;rfl
 | y::l,j+1,h=>by rw[List.set_cons_succ,w8 (by simpa using h)]
def xg(ds:AG)(G:AD→Prop):Prop:=yy ds G
theorem vY(ds:AG)(G:AD→Prop)(h:xg ds G):ds.length=2:=xq ds G h
theorem uA:zJ ["_law_three_here","_law_number","_law_lists","_law_at","_law_more","_law_which","_law_rows"] ["_law_three_here","_law_number"] (zr (top 39)):={}
theorem uC(F:Fun K "_law_counts_wrong" "_law_counts_wrong" (top 39) f fd)(B:Bs mg)(Z:Cs K mg cA cB cC τa τb τc τd f_Ring g_Ring): FnOk P w K mg base CX0 1 f fd ["_law_three_here","_law_number"] (spW K false xg):=by
 have sc:=uA;refine F.ok sc (λvs H Q E h=>xH vY h) (λcdv A outer s H vs Q E T h=>?_);obtain⟨Fh,ds,G,le,dp,p,q⟩:=h
 refine⟨_,(zg (pS (i:=2) sc.nd (ya (zb (pY (zw (K:=K) rfl) B.list (zb (pX (zN (K:=K) rfl) (pv 0) ze) zd)) (zb (zZ rfl (N:=["_law_row"]) (js:=[none]) (by walk_at"comp_ok") (zB (K:=K) rfl (pX (zN (K:=K) rfl) (pv 0) ze)) (λ_ _ _ _=>(pN (i:=0) (show υN ["_law_row"]by decide +kernel))) (λ_ _ _ _=>zP) (λ_ _ _ _=>(pY (zw (K:=K) rfl) B.list (zb (pv 0) zd)))) (zb (zZ rfl (N:=["_law_rows"]) (js:=[none]) (by walk_at"comp_ok") (zB (K:=K) rfl (pX (zN (K:=K) rfl) (pv 0) ze)) (λ_ _ _ _=>(pN (i:=0) (show υN ["_law_rows"]by decide +kernel))) (λ_ _ _ _=>zP) (λ_ _ _ _=>(zZ rfl (N:=["_law_row"]) (js:=[none]) (by walk_at"comp_ok") (zB (K:=K) rfl (pv 0)) (λ_ _ _ _=>(pN (i:=0) (show υN ["_law_row"]by decide +kernel))) (λ_ _ _ _=>zP) (λ_ _ _ _=>(pY (zw (K:=K) rfl) B.list (zb (pv 0) zd)))))) zd)))))
   (zg (pS (i:=3) sc.nd (zp zK (zp zS (pv 1) ze) (pB (ux rfl) B.max (zb ze (zb (pB (zn (K:=K) rfl) B.len (zb (pX (zN (K:=K) rfl) (pv 0) ze) zd)) zd)))))
   (zg (pS (i:=4) sc.nd (ya (zb ze (zb (ya zd) (zb (ya (zb (ya (zb ze (zb ze zd))) zd)) zd)))))
   (zg (pS (i:=5) sc.nd (zp zK (zp zS (pv 1) ze) ze))
   (zg (zY (zv (vA (K:=K) rfl T.units) (pX (zN (K:=K) rfl) (pv 0) ze) (ya zd) (zG _)) (zh (pS (i:=5) sc.nd (zp zK (pv 5) ze))) zC)
   (zg (zY (PW.pt (wA (zv vU (pv 5) ze (zG _)) (xI (PW.pt (ve (zv xu (zp zK (pv 1) ze) ze (zG _)) (uW (zv (vA (K:=K) rfl T.units) (pX (zN (K:=K) rfl) (pv 0) ze) (ya zd) (zG _)))))))) (zh (yv (xA (K:=K) rfl ζB ζW ζV yP (pX (zj (K:=K) rfl) (pv 2) (pv 5)) (zb (pX (zj (K:=K) rfl) (pv 4) (pv 5)) zd)))) (zh (zY (zv vU (pv 5) ze (zG _)) (zh (yv (Uz (K:=K) rfl ζB PySem.F.slot_list_pop PySem.F.type_list_pop Q6 (pX (zj (K:=K) rfl) (pv 2) (pv 5))))) (zg (pS (i:=6) sc.nd (pX (zj (K:=K) rfl) (pX (zj (K:=K) rfl) (pv 2) ze) (pv 3)))
   (zg (zY (zv xu (pv 5) ze (zG _)) (zh (pS (i:=6) sc.nd (pX (zj (K:=K) rfl) (pv 6) (zp zK (zp zS (pv 1) ze) (pB (zn (K:=K) rfl) B.len (zb (pv 6) zd)))))) zC)
   (zh (zY (zv xu (zp zK (pv 1) ze) ze (zG _)) (zh (yv (xA (K:=K) rfl ζB ζW ζV yP (pv 6) (zb (pX (zj (K:=K) rfl) (pv 6) ze) zd)))) (zh (yv (Uz (K:=K) rfl ζB PySem.F.slot_list_pop PySem.F.type_list_pop Q6 (pv 6)))))))))))
   (zh (zH (xy (zb (pX (zj (K:=K) rfl) (pv 2) ze) (zb (pX (zj (K:=K) rfl) (pv 2) ze) (zb (pX (zj (K:=K) rfl) (pv 2) ze) zd)))))))))))),?_⟩
 have hN:=sc.n 7;obtain⟨ss,cs,ts,m,rfl,ok,rfl⟩:=p;have big:=zU;have n12:=ok.b.n;have cl:=ok.b.cl;have tl:=ok.b.tl;refine y9 le dp q hN (by walk_at"st") ?_;refine exr (d:=.list [il ss,nls cs,tbl ts]) (ZV (yY (xw (z0 ∅ ∅ atI0)) (yY (yX (is:=[0]) (xs:=cs) false nl nl (λ_ _ _ _ h=>h) (zO (z0 ∅ ∅ atI1)) (by walk_at"cc") rfl #[2] ⋯ ?_) (yY (yX (is:=[0]) (xs:=ts) false lls lls (λ_ _ _ _ h=>h) (zO (z0 ∅ ∅ atI2)) (by walk_at"cc") rfl #[2] ⋯ ?_) ZZ))) (by show 3≤sizeLine;omega)) #[0] ?_
 ·intro r T;exact egn #[0] (EvTr.eq (xw (EvE.eq (κ:=false) ∅ (vW r))) (vW r).symm)
 ·intro t ht;have:=ok.b.tlen ht;refine egn #[0] (yX (is:=[0]) (xs:=t) false il il (λ_ _ _ _ h=>h) (zO ∅) (by walk_at"cc") rfl #[2] ⋯ ?_);intro r T;exact egn #[0] (xw ∅)
 have a9:CDiv m 20:=⟨#[2],#[2]⟩
 have d2:CDiv m 2:=⟨#[2],#[2]⟩
 have a6:CDiv m 160:=⟨#[2],#[2]⟩
 obtain⟨j,hj,jl⟩:∃j:Nat,m/20%max 1 (ss.length:Int)=(j:Int)∧(ss≠[]→j<ss.length):=⟨(m/20%max 1 (ss.length:Int)).toNat,by have:=ξd (m/20) (show max 1 (ss.length:Int)≠0 by omega);omega,λz=>by
  have:=ζK.mpr z;have:=ξf (m/20) (show 0<max 1 (ss.length:Int)by omega);have:=ξd (m/20) (show max 1 (ss.length:Int)≠0 by omega);omega⟩
 refine exs true (d:=.int j) (EvE.eq (yE (y6 ∅ ∅ a9) (ZW ∅ (EvE.eq (yj (ds:=ss.map PyData.int) (EvE.toL (z0 ∅ ∅ atI0))) (vD ss))) ⋯) (congrArg PyData.int hj)) #[0] ?_;refine exs true (d:=.list [.int 2,.list [],.list [.list [.int 1,.int 1]]]) (EvO.toE (zT (zi ∅ (zi (EvO.toE (zT (ds:=[]) zL #[2])) (zi (EvO.toE (zT (ds:=[.list [.int 1,.int 1]]) (zi (EvO.toE (zT (ds:=[.int 1,.int 1]) ∅ #[2])) zL) #[2])) zL))) #[2])) #[0] ?_;obtain⟨V,h0,l0⟩:∃V:Nat,m/2%5=(V:Int)∧V<5:=⟨(m/2%5).toNat,⋯,⋯⟩
 refine exs true (d:=.int V) (EvE.eq ∅ (congrArg PyData.int h0)) #[0] ?_;obtain⟨w,M⟩:∃w:Nat,w=if decide (ss=[])then V%3 else V:=⟨_,rfl⟩
 have w5:w<5:=by rw[M];split<;>omega
 have w3:3≤w→ss≠[]:=λz e=>by
  rw[M,if_pos (decide_eq_true e)]at z;omega
 have X:∀{Γ:PD.Ctx},GetC Γ 0 (.fz false (zX ss cs ts))→EvT K .fresh (Qh (tOp (rEqD K false) (tOp (rIxT K) (tVar 0) (tC (.int 0))) (tLst tNil))) Γ (decide (ss=[])):=λg=>EvT.eq (zW (v8 (neg:=false) (d:=il ss) (f:=.list []) (EvE.toD (κ:=false) (z0 (evv g #[2]) ∅ atI0)) (EvE.toD (κ:=false) (EvO.toE (zT (ds:=[]) zL #[2]))) (yI _) (yI []))) (by rw[if_neg #[2]];exact Zx ss []);refine exif (b:=decide (ss=[])) (·=[some (.fz false (zX ss cs ts)),some (.fz false (.int m)),some (trD (.list [il ss,nls cs,tbl ts])),some (.fz true (.int j)),some (.fz true (.list [.int 2,.list [],.list [.list [.int 1,.int 1]]])),some (.fz true (.int w)),none]) (X #[1]) (λc=>?_) (λc=>?_) ?_
 ·refine exs1 true (d:=.int ((V%3:Nat):Int)) (EvE.eq ∅ (congrArg PyData.int ⋯)) #[0] ?_;rw[M,if_pos c]
 ·refine yw ?_;rw[M,if_neg (by rw[c];decide)]
 rintro _ rfl;clear M h0 l0 V;refine yZ (λΓ=>∃v A W L e0 e1 e2 b6,Kc A W L v (.list [e0,e1,e2])∧WrO (.tuple [e0,e1,e2])∧Γ=[some (.fz false (zX ss cs ts)),some (.fz false (.int m)),some (clD K v A W L),some (.fz true (.int j)),some (.fz true (.list [.int 2,.list [],.list [.list [.int 1,.int 1]]])),some (.fz true (.int w)),b6]) ?_ ?_
 rotate_left
 ·rintro _ ⟨v,A,W,L,e0,e1,e2,b6,kc,wr,rfl⟩;refine vC 2 #[1] kc #[0] ?_;exact zR false (v7 (ds:=[e0,e1,e2]) (zi (zM (EvE.toL ∅) ∅ atI0) (zi (zM (EvE.toL ∅) ∅ atI1) (zi (zM (EvE.toL ∅) ∅ atI2) zL))) (by show 3≤sizeLine;omega)) wr (.inr rfl)
 by_cases c3:w<3
 ·refine xD (x:=2) (G:=Op1 (ss.map .int) (cs.map nl) (ts.map lls)) #[1] QX (λv A W L=>by walk_at"sc") ?_;rintro v A W L ⟨a0,a1,a2,a3,C,D,I,rfl,rfl,rfl,J,S,y⟩;have l1:C.length=ss.length:=by rw[J.length,ζc]
  have l2:D.length=ss.length:=by rw[S.length,ζc,cl]
  have l3:I.length=ss.length:=by rw[y.length,ζc,tl]
  refine yW (b:=decide ((w:Int)<3)&&(decide (m%2=0)||decide (ss=[]))) (xt ∅ λ_=>xO ∅ λ_=>X #[1]) (λ_=>?_) (λc=>?_)
  ·have O:w=0∨w=1∨w=2:=by omega
   rcases O with M|M|M
   ·refine uo (x:=2) (i:=1) (vs:=C) (d:=.int 2) #[1] rfl rfl (zQ (x:=2) (i:=0) (m:=0) #[1] rfl rfl (yc #[1]) (EvE.eq ∅ (congrArg PyData.int ⋯)) rfl) (zM (i:=0) (EvE.toL ∅) (EvE.eq ∅ (congrArg PyData.int ⋯)) rfl) ⋯ (λw=>by walk_at"sc") ?_;intro u;refine⟨_,_,_,_,il (ss++[2]),nls cs,tbl ts,none,.cell 0 rfl rfl (.cons (.cell 1 rfl rfl ?_) (.cons (.cell 2 rfl rfl (S.more λp hp=>ζb _ hp).kc) (.cons (.cell 3 rfl rfl (y.more λp hp=>ζb _ hp).kc) .nil))),ok.wr_n0 (by rw[ζr];show ss.length+1≠_;omega) (by rw[ζr];show ss.length+1≤_;omega),rfl⟩
    rw[ζF];exact((J.more λp hp=>ζb _ hp).app (.cons (.mem ζi) .nil)).kc
   ·refine uo (x:=2) (i:=2) (vs:=D) (d:=.list []) #[1] rfl rfl (zQ (x:=2) (i:=0) (m:=1) #[1] rfl rfl (yc #[1]) (EvE.eq ∅ (congrArg PyData.int ⋯)) rfl) (zM (i:=1) (EvE.toL ∅) (EvE.eq ∅ (congrArg PyData.int ⋯)) rfl) ⋯ (λw=>by walk_at"sc") ?_;intro u;exact⟨_,_,_,_,il ss,.list (cs.map nl++[.list []]),tbl ts,none,.cell 0 rfl rfl (.cons (.cell 1 rfl rfl (J.more λp hp=>ζb _ hp).kc) (.cons (.cell 2 rfl rfl ((S.more λp hp=>ζb _ hp).app (.cons (.mem ζi) .nil)).kc) (.cons (.cell 3 rfl rfl (y.more λp hp=>ζb _ hp).kc) .nil))),ok.wr_n1 (by rw[ζr,ζc];show cs.length+1≠_;omega) (by rw[ζr,ζc];show cs.length+1≤_;omega) (λx Y=>(ζu.mp Y).elim .inr λz=>.inl (ζs.mp z)),rfl⟩
   ·refine uo (x:=2) (i:=3) (vs:=I) (d:=.list [.list [.int 1,.int 1]]) #[1] rfl rfl (zQ (x:=2) (i:=0) (m:=2) #[1] rfl rfl (yc #[1]) (EvE.eq ∅ (congrArg PyData.int ⋯)) rfl) (zM (i:=2) (EvE.toL ∅) (EvE.eq ∅ (congrArg PyData.int ⋯)) rfl) ⋯ (λw=>by walk_at"sc") ?_;intro u;exact⟨_,_,_,_,il ss,nls cs,.list (ts.map lls++[.list [.list [.int 1,.int 1]]]),none,.cell 0 rfl rfl (.cons (.cell 1 rfl rfl (J.more λp hp=>ζb _ hp).kc) (.cons (.cell 2 rfl rfl (S.more λp hp=>ζb _ hp).kc) (.cons (.cell 3 rfl rfl ((y.more λp hp=>ζb _ hp).app (.cons (.mem ζi) .nil)).kc) .nil))),ok.wr_n2 (by rw[ζr,ζc];show ts.length+1≠_;omega) (by rw[ζr,ζc];show ts.length+1≤_;omega) (λx Y=>(ζu.mp Y).elim .inr λz=>.inl (ζs.mp z)),rfl⟩
  ·have s0:ss≠[]:=λz=>by
    rw[z]at c;simp at c;omega
   have sp:=ζK.mpr s0;refine yW (b:=decide ((w:Int)<3)) ∅ (λ_=>?_) (λc=>absurd (of_decide_eq_false c) ⋯);have O:w=0∨w=1∨w=2:=by omega
   rcases O with M|M|M
   ·refine Zb (x:=2) (i:=1) (vs:=C) #[1] rfl rfl (zQ (x:=2) (i:=0) (m:=0) #[1] rfl rfl (yc #[1]) (EvE.eq ∅ (congrArg PyData.int ⋯)) rfl) (λz=>by rw[z]at l1;exact absurd l1 (by show¬(0=_);omega)) #[0] ?_;refine⟨_,_,_,_,il ss.dropLast,nls cs,tbl ts,none,.cell 0 rfl rfl (.cons (.cell 1 rfl rfl ?_) (.cons (.cell 2 rfl rfl S.kc) (.cons (.cell 3 rfl rfl y.kc) .nil))),ok.wr_n0 (by rw[ζU];omega) (by rw[ζU];omega),rfl⟩
    rw[List.map_dropLast];exact J.dropLast.kc
   ·refine Zb (x:=2) (i:=2) (vs:=D) #[1] rfl rfl (zQ (x:=2) (i:=0) (m:=1) #[1] rfl rfl (yc #[1]) (EvE.eq ∅ (congrArg PyData.int ⋯)) rfl) (λz=>by rw[z]at l2;exact absurd l2 (by show¬(0=_);omega)) #[0] ?_;exact⟨_,_,_,_,il ss,.list (cs.map nl).dropLast,tbl ts,none,.cell 0 rfl rfl (.cons (.cell 1 rfl rfl J.kc) (.cons (.cell 2 rfl rfl S.dropLast.kc) (.cons (.cell 3 rfl rfl y.kc) .nil))),ok.wr_n1 (by rw[ζU,ζc];omega) (by rw[ζU,ζc];omega) (λx Y=>.inr (List.dropLast_subset _ Y)),rfl⟩
   ·refine Zb (x:=2) (i:=3) (vs:=I) #[1] rfl rfl (zQ (x:=2) (i:=0) (m:=2) #[1] rfl rfl (yc #[1]) (EvE.eq ∅ (congrArg PyData.int ⋯)) rfl) (λz=>by rw[z]at l3;exact absurd l3 (by show¬(0=_);omega)) #[0] ?_;exact⟨_,_,_,_,il ss,nls cs,.list (ts.map lls).dropLast,none,.cell 0 rfl rfl (.cons (.cell 1 rfl rfl J.kc) (.cons (.cell 2 rfl rfl S.kc) (.cons (.cell 3 rfl rfl y.dropLast.kc) .nil))),ok.wr_n2 (by rw[ζU,ζc];omega) (by rw[ζU,ζc];omega) (λx Y=>.inr (List.dropLast_subset _ Y)),rfl⟩
 have s0:=w3 ⋯;have jn:=jl s0;have gc:=zA (d:=([]:AF)) (l:=cs) (k:=j) ⋯;have gt:=zA (d:=([]:AH)) (l:=ts) (k:=j) ⋯;obtain⟨tk,t1,t2,rk⟩:=ok.tj jn;have gs:=yJ ok.b.s jn;refine yW (b:=decide ((w:Int)<3)&&(decide (m%2=0)||decide (ss=[]))) (xt ∅ λ_=>xO ∅ λ_=>X #[1]) (λc=>by rw[decide_eq_false ⋯]at c;cases c) (λ_=>?_);refine yW (b:=decide ((w:Int)<3)) ∅ (λc=>absurd (of_decide_eq_true c) ⋯) (λ_=>?_);by_cases c4:w=3
 ·refine xD (x:=2) (G:=Op2 j (ss.map .int) (cs.map nl) (ts.map lls) ((ts.getD j []).map il)) #[1] (QW (by rw[ζj,gt];rfl)) (λv A W L=>by walk_at"sc") ?_;rintro v A W L ⟨a0,a1,a2,a3,a4,C,D,I,o,rfl,rfl,rfl,J,S,y,U⟩;have v4:o.length=(ts.getD j []).length:=by rw[U.length,ζc]
  refine Zt (r:=6) (a:=a4) (zQ (x:=2) (i:=3) #[1] rfl rfl (zQ (x:=2) (i:=0) (m:=2) #[1] rfl rfl (yc #[1]) ∅ rfl) ∅ (ym y.at_)) #[0] ?_;refine xo (b:=decide ((w:Int)=4)) ∅ (decide_eq_false ⋯) ?_;refine yW (b:=decide (m%2=0)) ∅ (λ_=>?_) (λ_=>?_)
  ·have g0:=zA (d:=([]:AE)) (l:=ts.getD j []) (k:=0) ⋯;obtain⟨u,hu,ku⟩:=U.get (j:=0) (d:=il ((ts.getD j []).getD 0 [])) (by rw[ζj,g0];rfl);refine uo (x:=2) (i:=4) (vs:=o) (d:=il ((ts.getD j []).getD 0 [])) #[1] rfl rfl (yf #[1]) (wf (x:=2) #[1] (zQ (x:=2) (i:=4) (m:=0) #[1] rfl rfl (yf #[1]) ∅ (show atI o 0=some u from ym (j:=0) hu)) ku) ⋯ (λw=>by walk_at"sc") ?_;intro u';refine⟨_,_,_,_,il ss,nls cs,.list ((ts.map lls).set j (lls (ts.getD j []++[(ts.getD j []).getD 0 []]))),_,.cell 0 rfl rfl (.cons (.cell 1 rfl rfl (J.more λp hp=>ζb _ hp).kc) (.cons (.cell 2 rfl rfl (S.more λp hp=>ζb _ hp).kc) (.cons (.cell 3 rfl rfl ((y.more λp hp=>ζb _ hp).kc (.cell 4 rfl rfl ?_))) .nil))),ok.wr_nt jn (by rw[ζr];show _+1≠_;omega) (by rw[ζr];show _+1≤_;omega) (λr T=>(ζu.mp T).elim id λz=>by rw[ζs.mp z];exact ζk g0),rfl⟩
   rw[ζF];exact((U.more λp hp=>ζb _ hp).app (.cons (.mem ζi) .nil)).kc
  ·refine Zb (x:=2) (i:=4) (vs:=o) #[1] rfl rfl (yf #[1]) (λz=>by rw[z]at v4;exact absurd v4 (by show¬(0=_);omega)) #[0] ?_;refine⟨_,_,_,_,il ss,nls cs,.list ((ts.map lls).set j (lls (ts.getD j []).dropLast)),_,.cell 0 rfl rfl (.cons (.cell 1 rfl rfl J.kc) (.cons (.cell 2 rfl rfl S.kc) (.cons (.cell 3 rfl rfl (y.kc (.cell 4 rfl rfl ?_))) .nil))),ok.wr_nt jn (by rw[ζU];omega) (by rw[ζU];omega) (λr T=>List.dropLast_subset _ T),rfl⟩
   rw[List.map_dropLast];exact U.dropLast.kc
 ·have c5:w=4:=by omega
  obtain⟨l,hl,ll⟩:=wc (m/160) (show 0<(ts.getD j []).length by omega);have gl:=zA (d:=([]:AE)) (l:=ts.getD j []) (k:=l) ll;have ro:=rk _ (ζk gl);have rl:=ro.l;generalize T:(ts.getD j []).getD l []=r at gl ro rl;refine xD (x:=2) (G:=Op3 j l (ss.map .int) (cs.map nl) ((cs.getD j []).map λk:Nat=>.int (k:Int)) (ts.map lls) ((ts.getD j []).map il) (r.map .int)) #[1] (VM (by rw[ζj,gc];rfl) (by rw[ζj,gt];rfl) (by rw[ζj,gl];rfl)) (λv A W L=>by walk_at"sc") ?_;rintro v A W L ⟨a0,a1,a2,b,a3,a4,a5,C,D,aa,I,o,R,rfl,rfl,rfl,J,kb,a7,y,U,k5⟩;have v4:o.length=(ts.getD j []).length:=by rw[U.l,ζc]
  have v5:R.length=r.length:=by rw[k5.length,ζc]
  have a8:(cs.map nl).set j (nl (cs.getD j []))=cs.map nl:=w8 (by rw[ζj,gc];rfl);refine Zt (r:=6) (a:=a4) (zQ (x:=2) (i:=4) #[1] rfl rfl (zQ (x:=2) (i:=0) (m:=2) #[1] rfl rfl (yc #[1]) ∅ rfl) ∅ (ym y.at_)) #[0] ?_;refine exif (b:=decide ((w:Int)=4)) (·=[some (.fz false (zX ss cs ts)),some (.fz false (.int m)),some (clD K (.ref a0) [a0,a1,a2,b,a3,a4,a5] [[.ref a1,.ref a2,.ref a3],C,D,aa,I,o,R] L),some (.fz true (.int j)),some (.fz true (.list [.int 2,.list [],.list [.list [.int 1,.int 1]]])),some (.fz true (.int w)),some (.fn a5)]) ∅ (λ_=>zb5 (r:=6) (a:=a5) (zQ (x:=2) (i:=5) (m:=(l:Int)) #[1] rfl rfl (yf #[1]) (EvE.eq (yE (y6 ∅ ∅ a6) (EvE.eq (wK (x:=2) (i:=5) #[1] rfl rfl (yf #[1])) (congrArg PyData.int (show(o.length:Int)=((ts.getD j []).length:Int)by omega))) ⋯) (congrArg PyData.int hl)) (ym U.at_)) #[0] rfl) (λc=>absurd (of_decide_eq_false c) ⋯) ?_;rintro _ rfl;refine yW (b:=decide (m%2=0)) ∅ (λ_=>?_) (λ_=>?_)
  ·have g0:=zA (d:=(0:Int)) (l:=r) (k:=0) ⋯;obtain⟨u,hu,ku⟩:=k5.get (j:=0) (d:=.int (r.getD 0 0)) (by rw[ζj,g0];rfl);refine uo (x:=2) (i:=6) (vs:=R) (d:=.int (r.getD 0 0)) #[1] rfl rfl (yf #[1]) (wf (x:=2) #[1] (zQ (x:=2) (i:=6) (m:=0) #[1] rfl rfl (yf #[1]) ∅ (show atI R 0=some u from ym (j:=0) hu)) ku) ⋯ (λw=>by walk_at"sc") ?_;intro u';refine⟨_,_,_,_,il ss,nls cs,.list ((ts.map lls).set j (.list (((ts.getD j []).map il).set l (il (r++[r.getD 0 0]))))),_,.cell 0 rfl rfl (.cons (.cell 1 rfl rfl (J.more λp hp=>ζb _ hp).kc) (.cons (.cell 2 rfl rfl ?_) (.cons (.cell 4 rfl rfl ((y.more λp hp=>ζb _ hp).kc (.cell 5 rfl rfl ((U.more λp hp=>ζb _ hp).kc (.cell 6 rfl rfl ?_))))) .nil))),ok.wr_nr jn ll (by rw[ζr];show((r.length+1:Nat):Int)≠_;omega) (by rw[ζr];show r.length+1≤_;omega),rfl⟩
   ·rw[←a8];exact(kb.more λp hp=>ζb _ hp).kc (.cell 3 rfl rfl (a7.more λp hp=>ζb _ hp).kc)
   ·rw[ζF];exact((k5.more λp hp=>ζb _ hp).app (.cons (.mem ζi) .nil)).kc
  ·refine Zb (x:=2) (i:=6) (vs:=R) #[1] rfl rfl (yf #[1]) (λz=>by rw[z]at v5;exact absurd v5 (by show¬(0=_);omega)) #[0] ?_;refine⟨_,_,_,_,il ss,nls cs,.list ((ts.map lls).set j (.list (((ts.getD j []).map il).set l (il r.dropLast)))),_,.cell 0 rfl rfl (.cons (.cell 1 rfl rfl J.kc) (.cons (.cell 2 rfl rfl ?_) (.cons (.cell 4 rfl rfl (y.kc (.cell 5 rfl rfl (U.kc (.cell 6 rfl rfl ?_))))) .nil))),ok.wr_nr jn ll (by rw[ζU];omega) (by rw[ζU];omega),rfl⟩
   ·rw[←a8];exact kb.kc (.cell 3 rfl rfl a7.kc)
   ·rw[List.map_dropLast];exact k5.dropLast.kc
def Ui:AG:=[.int 1,.int 0,.int (-2),.int 5,.int 9,.bool true,.none,.str "2", .list [.int 2]]
def Uf:AG:=[.int (-1),.bool true,.none,.str "1", .int (-10^9),.bool false,.list [.int 1]]
theorem Ql:∀d∈Ui,ftB 2 4 d=false∧okA d:=by
 intro d hd;unfold Ui at hd;simp only[List.mem_cons,List.not_mem_nil,or_false]at hd;rcases hd with rfl|rfl|rfl|rfl|rfl|rfl|rfl|rfl|rfl<;>exact⟨#[2],by first|rfl|exact Wj (Wh #[2]),by first|(show 0≤5;omega)|(show 1≤5;omega)⟩
theorem T5:∀d∈Uf,wtB d=false∧okA d:=by
 intro d hd;unfold Uf at hd;simp only[List.mem_cons,List.not_mem_nil,or_false]at hd;rcases hd with rfl|rfl|rfl|rfl|rfl|rfl|rfl<;>exact⟨#[2],by first|rfl|exact Wj (Wh #[2]),by first|(show 0≤5;omega)|(show 1≤5;omega)⟩
theorem XZ{a:Type}{D:List a}{k:Int}(b:0≤k)(c:k<D.length):∃d,atI D k=some d∧d∈D:=by
 obtain⟨i,rfl⟩:∃i:Nat,k=(i:Int):=⟨k.toNat,⋯⟩
 have g:D[i]?=some (D[i]'⋯):=ζe ⋯;exact⟨_,ym g,ζk g⟩
section
variable {ss:AE}{cs:AI}{ts:List AH}
theorem BkP.wr_size(ok:BkP ss cs ts){j:Nat}{d:AD}(c:j<ss.length)(h:ftB 2 4 d=false)(hd:okA d):WrO (.tuple [.list ((ss.map .int).set j d),nls cs,tbl ts]):=by
 refine⟨_,_,_,rfl,⟨ok.s1,ok.s2⟩,bad0 ?_ ?_,λy a=>?_,ok.nn.2.1,ok.nn.2.2⟩
 ·have:=ok.b.n;show((ss.map PyData.int).set j d).length≤5000;rw[ζA,ζc];omega
 ·unfold szB;rw[show(itL (PyData.list ((ss.map PyData.int).set j d))).all (ftB 2 4)=false from ZC (x:=d) (show d∈(ss.map PyData.int).set j d from ζI.mpr ⟨j,by rw[ζh (by rw[ζc];exact c)]⟩) h,ζR,ζR]
 ·rcases ζz (show y∈(ss.map PyData.int).set j d from a)with a|a
  ·exact ok.nn.1 y a
  ·rw[a];exact hd
theorem BkP.wr_wt(ok:BkP ss cs ts){j l:Nat}{xs:AG}{d:AD}(a:j<ss.length)(b:l<(ts.getD j []).length)(m:d∈xs)(h:wtB d=false)(c:xs.length≤5000)(e:∀z∈xs,okA z):WrO (.tuple [il ss,nls cs,.list ((ts.map lls).set j (.list (((ts.getD j []).map il).set l (.list xs))))]):=by
 refine ok.wr_w a b c ?_ e;unfold rwB;rw[show(itL (PyData.list xs)).all wtB=false from ZC m h,ξz,ζR]
theorem BkP.wr_zero(ok:BkP ss cs ts){j l n:Nat}(a:j<ss.length)(b:l<(ts.getD j []).length)(c:n≤5000):WrO (.tuple [il ss,nls cs,.list ((ts.map lls).set j (.list (((ts.getD j []).map il).set l (il (List.replicate n 0)))))]):=by
 refine ok.wr_w a b (uT (by rw[ζN];exact c)) ?_ λy d=>?_
 ·unfold rwB;rw[show((itL (il (List.replicate n 0))).map nvD).sum=0 by show(((List.replicate n (0:Int)).map PyData.int).map nvD).sum=0;rw[UE];exact Z6 λw e=>ξG e,decide_eq_false #[2],ζR,ζR]
 ·obtain⟨i,_,rfl⟩:=ζn.mp (show y∈(List.replicate n (0:Int)).map PyData.int from d);exact yq i
end
def yF(ds:AG)(G:AD→Prop):Prop:=∃(ss:AE) (cs:AI) (ts:List AH) (m:Int),ds=[zX ss cs ts,.int m]∧BkP ss cs ts∧ss≠[]∧G=WrO
theorem xQ(ds:AG)(G:AD→Prop)(h:yF ds G):ds.length=2:=by obtain⟨a,b,c,e,rfl,_⟩:=h;rfl
theorem vO:zJ ["_law_three_here","_law_number","_law_lists","_law_at","_law_rows","_law_row","_law_value"] ["_law_three_here","_law_number"] (zr (top 40)):={}
theorem vV(F:Fun K "_law_numbers_wrong" "_law_numbers_wrong" (top 40) f fd)(B:Bs mg)(Z:Cs K mg cA cB cC τa τb τc τd f_Ring g_Ring): FnOk P w K mg base CX0 1 f fd ["_law_three_here","_law_number"] (spW K false yF):=by
 have sc:=vO;refine F.ok sc (λvs H Q E h=>xH xQ h) (λcdv A outer s H vs Q E hr h=>?_);obtain⟨Fh,ds,G,le,dp,p,q⟩:=h
 refine⟨_,(zg (pS (i:=2) sc.nd (ya (zb (pY (zw (K:=K) rfl) B.list (zb (pX (zN (K:=K) rfl) (pv 0) ze) zd)) (zb (zZ rfl (N:=["_law_row"]) (js:=[none]) (by walk_at"comp_ok") (zB (K:=K) rfl (pX (zN (K:=K) rfl) (pv 0) ze)) (λ_ _ _ _=>(pN (i:=0) (show υN ["_law_row"]by decide +kernel))) (λ_ _ _ _=>zP) (λ_ _ _ _=>(pY (zw (K:=K) rfl) B.list (zb (pv 0) zd)))) (zb (zZ rfl (N:=["_law_rows"]) (js:=[none]) (by walk_at"comp_ok") (zB (K:=K) rfl (pX (zN (K:=K) rfl) (pv 0) ze)) (λ_ _ _ _=>(pN (i:=0) (show υN ["_law_rows"]by decide +kernel))) (λ_ _ _ _=>zP) (λ_ _ _ _=>(zZ rfl (N:=["_law_row"]) (js:=[none]) (by walk_at"comp_ok") (zB (K:=K) rfl (pv 0)) (λ_ _ _ _=>(pN (i:=0) (show υN ["_law_row"]by decide +kernel))) (λ_ _ _ _=>zP) (λ_ _ _ _=>(pY (zw (K:=K) rfl) B.list (zb (pv 0) zd)))))) zd)))))
   (zg (pS (i:=3) sc.nd (zp zK (zp zS (pv 1) ze) (pB (zn (K:=K) rfl) B.len (zb (pX (zN (K:=K) rfl) (pv 0) ze) zd))))
   (zg (pS (i:=4) sc.nd (pX (zj (K:=K) rfl) (pX (zj (K:=K) rfl) (pv 2) ze) (pv 3)))
   (zg (pS (i:=5) sc.nd (pX (zj (K:=K) rfl) (pv 4) (zp zK (zp zS (pv 1) ze) (pB (zn (K:=K) rfl) B.len (zb (pv 4) zd)))))
   (zg (pS (i:=6) sc.nd (zp zK (zp zS (pv 1) ze) (pB (zn (K:=K) rfl) B.len (zb (pv 5) zd))))
   (zg (zY (zv xu (zp zK (pv 1) ze) ze (zG _)) (zh (xf (pX (zj (K:=K) rfl) (ya (zb ze (zb ze (zb (uL wS ze) (zb ze (zb ze (zb xN (zb xz (zb uY (zb (ya (zb ze zd)) zd)))))))))) (zp zK (zp zS (pv 1) ze) ze)) (xx (pX (zj (K:=K) rfl) (pv 2) ze) (pv 3) yB))) (zh (zY (zv xu (zp zK (pv 1) ze) ze (zG _)) (zg (xf (pX (zj (K:=K) rfl) (ya (zb (uL wS ze) (zb xN (zb xz (zb uY (zb (uL wS (zp Yk ze ze)) (zb xN (zb (ya (zb ze zd)) zd)))))))) (zp zK (zp zS (pv 1) ze) ze)) (xx (pv 5) (pv 6) yB))
   (zh (zY (PW.pt (wA (ye (pB (yi (K:=K) rfl) B.isinstance (zb (pX (zj (K:=K) rfl) (pv 5) (pv 6)) (zb (yO (v:=.ty "int") rfl B.int (by decide +kernel) rfl) zd)))) (xI (yx (ye (pB (yi (K:=K) rfl) B.isinstance (zb (pX (zj (K:=K) rfl) (pv 5) (pv 6)) (zb (yO (v:=.ty "bool") rfl B.bool (by decide +kernel) rfl) zd)))))))) (zh (xf (zp yU (pX (zj (K:=K) rfl) (pv 5) (zp Yj (pv 6) ze)) (zp Yk ze ze)) (xx (pv 5) (zp Yj (pv 6) ze) yB))) zC))) (zh (xf (zZ rfl (N:=["_law_weight"]) (js:=[none]) (by walk_at"comp_ok") (zB (K:=K) rfl (pv 5)) (λ_ _ _ _=>(pN (i:=0) (show υN ["_law_weight"]by decide +kernel))) (λ_ _ _ _=>zP) (λ_ _ _ _=>ze)) (xx (pv 4) (zp zK (zp zS (pv 1) ze) (pB (zn (K:=K) rfl) B.len (zb (pv 4) zd))) yB))))))
   (zh (zH (xy (zb (pX (zj (K:=K) rfl) (pv 2) ze) (zb (pX (zj (K:=K) rfl) (pv 2) ze) (zb (pX (zj (K:=K) rfl) (pv 2) ze) zd)))))))))))),?_⟩
 have hN:=sc.n 7;obtain⟨ss,cs,ts,m,rfl,ok,s0,rfl⟩:=p;have big:=zU;have n12:=ok.b.n;have cl:=ok.b.cl;have tl:=ok.b.tl;have sp:=ζK.mpr s0;refine y9 le dp q hN (by walk_at"st") ?_;refine exr (d:=.list [il ss,nls cs,tbl ts]) (ZV (yY (xw (z0 ∅ ∅ atI0)) (yY (yX (is:=[0]) (xs:=cs) false nl nl (λ_ _ _ _ h=>h) (zO (z0 ∅ ∅ atI1)) (by walk_at"cc") rfl #[2] ⋯ ?_) (yY (yX (is:=[0]) (xs:=ts) false lls lls (λ_ _ _ _ h=>h) (zO (z0 ∅ ∅ atI2)) (by walk_at"cc") rfl #[2] ⋯ ?_) ZZ))) (by show 3≤sizeLine;omega)) #[0] ?_
 ·intro r hr;exact egn #[0] (EvTr.eq (xw (EvE.eq (κ:=false) ∅ (vW r))) (vW r).symm)
 ·intro t ht;have:=ok.b.tlen ht;refine egn #[0] (yX (is:=[0]) (xs:=t) false il il (λ_ _ _ _ h=>h) (zO ∅) (by walk_at"cc") rfl #[2] ⋯ ?_);intro r hr;exact egn #[0] (xw ∅)
 have aj:CDiv m 24:=⟨#[2],#[2]⟩
 have U:CDiv m 192:=⟨#[2],#[2]⟩
 have ak:CDiv m 11:=⟨#[2],#[2]⟩
 have d3:CDiv m 3:=⟨#[2],#[2]⟩
 obtain⟨j,hj,jn⟩:=wc (m/24) sp;refine exs true (d:=.int j) (EvE.eq (yE (y6 ∅ ∅ aj) (EvE.eq (yj (ds:=ss.map PyData.int) (EvE.toL (z0 ∅ ∅ atI0))) (vD ss)) ⋯) (congrArg PyData.int hj)) #[0] ?_;have gc:=zA (d:=([]:AF)) (l:=cs) (k:=j) ⋯;have gt:=zA (d:=([]:AH)) (l:=ts) (k:=j) ⋯;obtain⟨tk,t1,t2,rk⟩:=ok.tj jn;have gs:=yJ ok.b.s jn;obtain⟨l,hl,ll⟩:=wc (m/192) (show 0<(ts.getD j []).length by omega);have gl:=zA (d:=([]:AE)) (l:=ts.getD j []) (k:=l) ll;have ro:=rk _ (ζk gl);have rl:=ro.l;generalize hr:(ts.getD j []).getD l []=r at gl ro rl;obtain⟨v,hv,vl⟩:=wc (m/11) (show 0<r.length by omega);refine xD (x:=2) (G:=Op3 j l (ss.map .int) (cs.map nl) ((cs.getD j []).map λk:Nat=>.int (k:Int)) (ts.map lls) ((ts.getD j []).map il) (r.map .int)) #[1] (VM (by rw[ζj,gc];rfl) (by rw[ζj,gt];rfl) (by rw[ζj,gl];rfl)) (λv A W L=>by walk_at"sc") ?_;rintro _ A W L ⟨a0,a1,a2,b,a3,a4,a5,O,a6,a7,a8,J,C,rfl,rfl,rfl,k1,kb,R,k3,V,k5⟩;have v1:O.length=ss.length:=by rw[k1.length,ζc]
 have v4:J.length=(ts.getD j []).length:=by rw[V.l,ζc]
 have v5:C.length=r.length:=by rw[k5.length,ζc]
 have S:(cs.map nl).set j (nl (cs.getD j []))=cs.map nl:=w8 (by rw[ζj,gc];rfl);have aa:(ts.map lls).set j (lls (ts.getD j []))=ts.map lls:=w8 (by rw[ζj,gt];rfl);have ae:((ts.getD j []).map il).set l (il r)=(ts.getD j []).map il:=w8 (by rw[ζj,gl];rfl);have al:Kc [a0,a1,a2,b,a3,a4,a5] [[.ref a1,.ref a2,.ref a3],O,a6,a7,a8,J,C] L (.ref a0) (.list [il ss,nls cs,tbl ts]):=by
  refine .cell 0 rfl rfl (.cons (.cell 1 rfl rfl k1.kc) (.cons (.cell 2 rfl rfl ?_) (.cons (.cell 4 rfl rfl ?_) .nil)))
  ·rw[←S];exact kb.kc (.cell 3 rfl rfl R.kc)
  ·rw[←aa];refine k3.kc (.cell 5 rfl rfl ?_);rw[←ae];exact V.kc (.cell 6 rfl rfl k5.kc)
 refine Zt (r:=4) (a:=a4) (zQ (x:=2) (i:=4) #[1] rfl rfl (zQ (x:=2) (i:=0) (m:=2) #[1] rfl rfl (yc #[1]) ∅ rfl) ∅ (ym k3.at_)) #[0] ?_;refine Zt (r:=5) (a:=a5) (zQ (x:=2) (i:=5) (m:=(l:Int)) #[1] rfl rfl (yf #[1]) (EvE.eq (yE (y6 ∅ ∅ U) (EvE.eq (wK (x:=2) (i:=5) #[1] rfl rfl (yf #[1])) (congrArg PyData.int (show(J.length:Int)=((ts.getD j []).length:Int)by omega))) ⋯) (congrArg PyData.int hl)) (ym V.at_)) #[0] ?_;refine exs true (d:=.int v) (EvE.eq (yE (y6 ∅ ∅ ak) (EvE.eq (wK (x:=2) (i:=6) #[1] rfl rfl (yf #[1])) (congrArg PyData.int (show(C.length:Int)=(r.length:Int)by omega))) ⋯) (congrArg PyData.int hv)) #[0] ?_;refine yZ (λΓ=>∃I A W L e0 T e2,Kc A W L I (.list [e0,T,e2])∧WrO (.tuple [e0,T,e2])∧Γ=[some (.fz false (zX ss cs ts)),some (.fz false (.int m)),some (clD K I A W L),some (.fz true (.int j)),some (.fn a4),some (.fn a5),some (.fz true (.int v))]) ?_ ?_
 rotate_left
 ·rintro _ ⟨I,A,W,L,e0,T,e2,kc,wr,rfl⟩;refine vC 2 #[1] kc #[0] ?_;exact zR false (v7 (ds:=[e0,T,e2]) (zi (zM (EvE.toL ∅) ∅ atI0) (zi (zM (EvE.toL ∅) ∅ atI1) (zi (zM (EvE.toL ∅) ∅ atI2) zL))) (by show 3≤sizeLine;omega)) wr (.inr rfl)
 refine yW (b:=decide (m%3=0)) ∅ (λ_=>?_) (λc=>?_)
 ·obtain⟨d,hd,dm⟩:=XZ (D:=Ui) (k:=m/3%9) ⋯ (by show m/3%9<9;omega);obtain⟨f1,f2⟩:=Ql d dm;refine xi (x:=2) (i:=1) (j:=j) (vs:=O) (G:=(·=d)) #[1] rfl rfl (EvE.g (zM (ds:=Ui) (EvO.toL (zT (zi ∅ (zi ∅ (zi ∅ (zi ∅ (zi ∅ (zi ∅ (zi ∅ (zi ∅ (zi (EvO.toE (zT (ds:=[.int 2]) ∅ #[2])) zL))))))))) #[2])) ∅ hd)) (zQ (x:=2) (i:=0) (m:=0) #[1] rfl rfl (yc #[1]) ∅ rfl) ∅ (yL ⋯) (λw d=>by walk_at"sc") ?_;intro u Y ed;obtain rfl:Y=d:=ed;refine⟨_,_,_,_,.list ((ss.map .int).set j Y),nls cs,tbl ts,.cell 0 rfl rfl (.cons (.cell 1 rfl rfl (KnA.set (.mem ζi) (k1.more λp hp=>ζb _ hp) j).kc) (.cons (.cell 2 rfl rfl ?_) (.cons (.cell 4 rfl rfl ?_) .nil))),ok.wr_size jn f1 f2,rfl⟩
  ·rw[←S];exact(kb.more λp hp=>ζb _ hp).kc (.cell 3 rfl rfl (R.more λp hp=>ζb _ hp).kc)
  ·rw[←aa];refine(k3.more λp hp=>ζb _ hp).kc (.cell 5 rfl rfl ?_);rw[←ae];exact(V.more λp hp=>ζb _ hp).kc (.cell 6 rfl rfl (k5.more λp hp=>ζb _ hp).kc)
 refine yW (b:=decide (m%3=1)) ∅ (λ_=>?_) (λ_=>?_)
 ·obtain⟨d,hd,dm⟩:=XZ (D:=Uf) (k:=m/3%7) ⋯ (by show m/3%7<7;omega);obtain⟨f1,f2⟩:=T5 d dm;refine yZ (λΓ=>∃u,Γ=[some (.fz false (zX ss cs ts)),some (.fz false (.int m)),some (clD K (.ref a0) [a0,a1,a2,b,a3,a4,a5] [[.ref a1,.ref a2,.ref a3],O,a6,a7,a8,J,C.set v u] ((u,d)::L)),some (.fz true (.int j)),some (.fn a4),some (.fn a5),some (.fz true (.int v))]) (xi (x:=2) (i:=6) (j:=v) (vs:=C) (G:=(·=d)) #[1] rfl rfl (EvE.g (zM (ds:=Uf) (EvO.toL (zT (zi ∅ (zi ∅ (zi ∅ (zi ∅ (zi (YC (EvE.eq (Zu ∅ ∅ ⟨#[2],#[2],#[2]⟩) rfl)) (zi ∅ (zi (EvO.toE (zT (ds:=[.int 1]) ∅ #[2])) zL))))))) #[2])) ∅ hd)) (yf #[1]) ∅ (yL ⋯) (λw d=>by walk_at"sc") ?_) ?_
  ·intro u Y ed;obtain rfl:Y=d:=ed;exact⟨u,rfl⟩
  rintro _ ⟨u,rfl⟩;have gv:atI (C.set v u) (v:Int)=some u:=ym (by rw[ζh ⋯]);have ev:∀{Γ:PD.Ctx},GetC Γ 2 (clD K (.ref a0) [a0,a1,a2,b,a3,a4,a5] [[.ref a1,.ref a2,.ref a3],O,a6,a7,a8,J,C.set v u] ((u,d)::L))→GetC Γ 5 (.fn a5)→GetC Γ 6 (.fz true (.int v))→EvE K .fresh false (tOp (rIxL K) (tVar 5) (tVar 6)) Γ d:=λh1 h2 h3=>wf h1 (zQ (i:=6) h1 rfl rfl (yf h2) (evv h3 #[2]) gv) (.mem ζi);obtain⟨I,af,am,ag⟩:∃I:Nat,ixN (C.set v u).length ((v:Int)-1)=some I∧I<r.length∧I≠v:=by
   rw[ζA];by_cases v0:v=0
   ·subst v0;refine⟨r.length-1,?_,⋯,⋯⟩
    obtain⟨k,hk⟩:∃k,C.length=k+1:=⟨C.length-1,⋯⟩
    rw[hk,show((0:Nat):Int)-1=-1 by omega,Va];congr 1;omega
   ·refine⟨v-1,?_,⋯,⋯⟩
    rw[show(v:Int)-1=((v-1:Nat):Int)by omega];exact yL ⋯
  have gr:=zA (d:=(0:Int)) (l:=r) (k:=I) am;obtain⟨u1,ah,ai⟩:=k5.get (j:=I) (d:=.int (r.getD I 0)) (by rw[ζj,gr];rfl);have gu:atI (C.set v u) ((v:Int)-1)=some u1:=by
   unfold atI;rw[af];show(C.set v u)[I]?=some u1;rw[ζm (Ne.symm ag)];exact ah
  refine yW (b:=T6 d) ?_ (λ_=>?_) (λ_=>?_)
  ·have T:=@ev;clear hd f1 f2 dm gr ai gu ah u1;cases d with
   | int i=>exact EvT.eq (xt (et_B (yG (EvE.toD (κ:=false) (T #[1] #[1] #[1])) (by with_unfolding_all rfl))) λ_=>yk (et_B (yG (EvE.toD (κ:=false) (T #[1] #[1] #[1])) (by with_unfolding_all rfl)))) rfl
   | bool i=>exact EvT.eq (xt (et_B (yG (EvE.toD (κ:=false) (T #[1] #[1] #[1])) (by with_unfolding_all rfl))) λ_=>yk (et_B (yG (EvE.toD (κ:=false) (T #[1] #[1] #[1])) (by with_unfolding_all rfl)))) rfl
   | _=>exact EvT.eq (xt (a:=false) (b:=true) (et_B (yG (EvE.toD (κ:=false) (T #[1] #[1] #[1])) (by with_unfolding_all rfl))) λh=>nomatch h) rfl
  ·obtain⟨X,hX⟩:∃X:Int,r.getD I 0+(10:Int)^(10:Int).toNat=X:=⟨_,rfl⟩
   refine xi (x:=2) (i:=6) (j:=I) (vs:=C.set v u) (G:=(·=.int X)) #[1] rfl rfl (EvE.g (EvE.eq (tf (wf (x:=2) #[1] (zQ (x:=2) (i:=6) #[1] rfl rfl (yf #[1]) ∅ gu) (ai.more λp hp=>ζb _ hp)) (Zu ∅ ∅ ⟨#[2],#[2],#[2]⟩)) (congrArg PyData.int hX))) (yf #[1]) ∅ af (λw d=>by walk_at"sc") ?_;intro u2 Y ed;obtain rfl:Y=_:=ed;refine⟨_,_,_,_,il ss,nls cs,.list ((ts.map lls).set j (.list (((ts.getD j []).map il).set l (.list (((r.map PyData.int).set v d).set I (.int X)))))),.cell 0 rfl rfl (.cons (.cell 1 rfl rfl ((k1.more λp hp=>ζb _ hp).more λp hp=>ζb _ hp).kc) (.cons (.cell 2 rfl rfl ?_) (.cons (.cell 4 rfl rfl (((k3.more λp hp=>ζb _ hp).more λp hp=>ζb _ hp).kc (.cell 5 rfl rfl (((V.more λp hp=>ζb _ hp).more λp hp=>ζb _ hp).kc (.cell 6 rfl rfl (KnA.set (.mem ζi) ((KnA.set (.mem ζi) (k5.more λp hp=>ζb _ hp) v).more λp hp=>ζb _ hp) I).kc))))) .nil))),ok.wr_wt jn ll (d:=d) ?_ f1 (by rw[ζA,ζA,ζc];omega) (λz M=>?_),rfl⟩
   ·rw[←S];exact((kb.more λp hp=>ζb _ hp).more λp hp=>ζb _ hp).kc (.cell 3 rfl rfl ((R.more λp hp=>ζb _ hp).more λp hp=>ζb _ hp).kc)
   ·refine ζI.mpr ⟨v,?_⟩;rw[ζm ag,ζh (by rw[ζc];exact vl)]
   ·rcases ζz M with M|M
    ·rcases ζz M with M|M
     ·obtain⟨i,_,rfl⟩:=ζn.mp M;exact yq i
     ·rw[M];exact f2
    ·rw[M];exact yq _
  ·refine yw ⟨_,_,_,_,il ss,nls cs,.list ((ts.map lls).set j (.list (((ts.getD j []).map il).set l (.list ((r.map PyData.int).set v d))))),.cell 0 rfl rfl (.cons (.cell 1 rfl rfl (k1.more λp hp=>ζb _ hp).kc) (.cons (.cell 2 rfl rfl ?_) (.cons (.cell 4 rfl rfl ((k3.more λp hp=>ζb _ hp).kc (.cell 5 rfl rfl ((V.more λp hp=>ζb _ hp).kc (.cell 6 rfl rfl (KnA.set (.mem ζi) (k5.more λp hp=>ζb _ hp) v).kc))))) .nil))),ok.wr_wt jn ll (d:=d) ?_ f1 (by rw[ζA,ζc];omega) (λz M=>?_),rfl⟩
   ·rw[←S];exact(kb.more λp hp=>ζb _ hp).kc (.cell 3 rfl rfl (R.more λp hp=>ζb _ hp).kc)
   ·exact ζI.mpr ⟨v,by rw[ζh (by rw[ζc];exact vl)]⟩
   ·rcases ζz M with M|M
    ·obtain⟨i,_,rfl⟩:=ζn.mp M;exact yq i
    ·rw[M];exact f2
 ·refine xi (x:=2) (i:=5) (j:=l) (vs:=J) (G:=(·=il (List.replicate r.length 0))) #[1] rfl rfl (EvE.g (EvE.eq (EvO.toE (TK 2 5 (y:=.list [il ss,nls cs,tbl ts]) (z:=il r) #[1] al #[0] #[1] (.cell 6 rfl rfl k5.kc) #[0] (yR (κ:=false) (is:=[0]) (xs:=r) false PyData.int (λ_=>.int 0) (λ_ _ _ _ _=>rfl) (zO ∅) (by walk_at"cc") rfl #[2] ⋯ ?_) (λd hd=>by obtain⟨_,_,rfl⟩:=ζn.mp hd;rfl))) (by rw[ξN];show _=PyData.list ((List.replicate r.length (0:Int)).map PyData.int);rw[ξe]))) (yf #[1]) (EvE.eq (yE (y6 ∅ ∅ U) (EvE.eq (wK (x:=2) (i:=5) #[1] rfl rfl (yf #[1])) (congrArg PyData.int (show(J.length:Int)=((ts.getD j []).length:Int)by omega))) ⋯) (congrArg PyData.int hl)) (yL ⋯) (λw d=>by walk_at"sc") ?_
  ·intro x _;exact egn #[0] ∅
  intro u Y ed;obtain rfl:Y=_:=ed;refine⟨_,_,_,_,il ss,nls cs,.list ((ts.map lls).set j (.list (((ts.getD j []).map il).set l (il (List.replicate r.length 0))))),.cell 0 rfl rfl (.cons (.cell 1 rfl rfl (k1.more λp hp=>ζb _ hp).kc) (.cons (.cell 2 rfl rfl ?_) (.cons (.cell 4 rfl rfl ((k3.more λp hp=>ζb _ hp).kc (.cell 5 rfl rfl (VU (by rw[ζA,ζA];exact V.l) λi w e h1 h2=>?_)))) .nil))),ok.wr_zero jn ll ⋯,rfl⟩
  ·rw[←S];exact(kb.more λp hp=>ζb _ hp).kc (.cell 3 rfl rfl (R.more λp hp=>ζb _ hp).kc)
  ·by_cases a9:i=l
   ·subst a9;rw[ζh ⋯]at h1;rw[ζh (by rw[ζc];omega)]at h2;cases h1;cases h2;exact .kn (.mem ζi)
   ·rw[ζm (Ne.symm a9)]at h1 h2;exact .kn ((V.o i a9 w e h1 h2).more λp hp=>ζb _ hp)
theorem zek{Γ:PD.Ctx}{t:TE}{ds:AG}(h:EvL K .fresh false t Γ ds):EvD K .fresh t Γ (.list ds):=λH0 F0 H F σ e Q q=>h H0 F0 H F σ e _ λa vs H' F' g s k=>q _ H' F' g (.lst s (vE g.le (zI k)))
def badC(n:Nat):AG:=[.int (-1),.int (n:Int),.bool true,.bool false,.none,.str "0", .int (-(n:Int)),.list [.int 0]]
theorem zci{n:Nat}(h:0<n):∀d∈badC n,ftB 0 ((n:Int)-1) d=false∧okA d:=by
 intro d hd;unfold badC at hd;simp only[List.mem_cons,List.not_mem_nil,or_false]at hd;rcases hd with rfl|rfl|rfl|rfl|rfl|rfl|rfl|rfl
 ·exact⟨rfl,yq _⟩
 ·refine⟨?_,yq _⟩
  show(decide ((0:Int)≤n)&&decide ((n:Int)≤n-1))=false;rw[decide_eq_false (p:=(n:Int)≤n-1) ⋯,ζR]
 ·exact⟨rfl,rfl,by show 0≤5;omega⟩
 ·exact⟨rfl,rfl,by show 0≤5;omega⟩
 ·exact⟨rfl,rfl,by show 0≤5;omega⟩
 ·exact⟨rfl,Wj (Wh #[2]),by show 0≤5;omega⟩
 ·refine⟨?_,yq _⟩
  show(decide ((0:Int)≤-(n:Int))&&_)=false;rw[decide_eq_false (p:=(0:Int)≤-(n:Int)) ⋯,ξz]
 ·exact⟨rfl,rfl,by show 1≤5;omega⟩
structure PW(n:Nat)(ys:AG):Prop where
 b:ocB n (.list ys)=false
 o:∀z∈ys,okA z
 l:ys.length≤6
theorem QO{n:Nat}{ys:AG}{d:AD}(m:d∈ys)(h:ftB 0 ((n:Int)-1) d=false)(o:∀z∈ys,okA z)(l:ys.length≤6):PW n ys:=⟨by
 unfold ocB;rw[show(itL (PyData.list ys)).all (ftB 0 ((n:Int)-1))=false from ZC m h,ξz,ζR,ζR],o,l⟩
theorem zcG{n:Nat}{ns:AE}(h:ns≠srt (dd ns))(l:ns.length≤6):PW n (ns.map .int):=⟨by
 unfold ocB;rw[decide_eq_false (p:=(itL (PyData.list (ns.map PyData.int))).map nvD=srt (dd ((itL (PyData.list (ns.map PyData.int))).map nvD))) (by show¬((ns.map PyData.int).map nvD=srt (dd ((ns.map PyData.int).map nvD)));rw[UE];exact h),ζR,ζR,ζR],λz a=>by obtain⟨i,_,rfl⟩:=ζn.mp a;exact yq i,by rw[ζc];exact l⟩
theorem zcZ(ns:AE):(srt (dd ns)).Nodup:=(wZ _).nodup_iff.mpr (zcS ns)
theorem zdL{ns:AE}{p:Nat}{x:Int}(hp:p≤ns.length)(m:x∈ns):ns.take p++x::ns.drop p≠srt (dd (ns.take p++x::ns.drop p)):=λe=>by
 have nd:=zcZ (ns.take p++x::ns.drop p);rw[←e]at nd;have pm:(ns.take p++x::ns.drop p).Perm (x::ns):=by
  refine ξL.trans ?_;rw[ζ8]
 have:=pm.nodup_iff.mp nd;exact(ξn.mp this).1 m
theorem zc7{ns:AE}(h:ns.Pairwise (·<·))(l:1<ns.length):ns.reverse≠srt (dd ns.reverse):=λe=>by
 have s:=uS (dd ns.reverse);rw[←e,List.pairwise_reverse]at s
 match ns,h,l,s with
 | a::b::r,h,_,s =>
  have c:=(ξH.mp h).1 b ζi;have d:=(ξH.mp s).1 b ζi;omega
def inB(n:Int)(c:AD):Bool:=match numD c with
 | some i=>decide (-n≤i)&&decide (i<n)
 | none=>false
theorem QG{c:Type}(a b:Nat)(x:c):(List.replicate a (List.replicate b x)).flatten=List.replicate (a*b) x:=by
 induction a with
 | zero=>simp
 | succ a d=>rw[ζ5,ξt,d,List.replicate_append_replicate];congr 1;rw[Nat.succ_mul];omega
section
variable {ss:AE}{cs:AI}{ts:List AH}
theorem BkP.wr_cs(ok:BkP ss cs ts){j:Nat}{ys:AG}(c:j<ss.length)(h:PW ss.length ys){a:AD}(d:∀t∈itL a,∀r∈itL t,∀z∈itL r,okA z)(e:sm2 a):WrO (.tuple [il ss,.list ((cs.map nl).set j (.list ys)),a]):=ok.wr_row c (by have:=h.l;show ys.length≤5000;omega) h.b h.o d e
end
theorem Qw{ss:AE}(c:∀s∈ss,2≤s∧s≤4){i:Int}(h:-(ss.length:Int)≤i)(h':i<ss.length):∃s:Nat,atI (ss.map PyData.int) i=some (.int (s:Int))∧s≤4:=by
 obtain⟨k,e,a⟩:∃k:Nat,ixN (ss.map PyData.int).length i=some k∧k<ss.length:=by
  rw[ζc];unfold ixN;by_cases b:0≤i
  ·exact⟨i.toNat,by rw[if_pos b,if_pos h'],⋯⟩
  ·exact⟨(i+ss.length).toNat,by rw[if_neg b,if_pos h],⋯⟩
 have f:=yJ c a;refine⟨(ss.getD k 0).toNat,?_,⋯⟩
 unfold atI;rw[e];show(ss.map PyData.int)[k]?=_;rw[ζj,zA (d:=0) a];show some (PyData.int _)=_;congr 2;omega
def xh(ds:AG)(G:AD→Prop):Prop:=yF ds G
theorem vZ(ds:AG)(G:AD→Prop)(h:xh ds G):ds.length=2:=xQ ds G h
theorem uB:zJ ["_law_three_here","_law_number","_law_lists","_law_at","_law_row","_law_bad","_law_place","_law_many","_law_rows","_law_c"] ["_law_three_here","_law_number"] (zr (top 41)):={}
theorem uD(F:Fun K "_law_causes_wrong" "_law_causes_wrong" (top 41) f fd)(B:Bs mg)(Z:Cs K mg cA cB cC τa τb τc τd f_Ring g_Ring): FnOk P w K mg base CX0 1 f fd ["_law_three_here","_law_number"] (spW K false xh):=by
 have sc:=uB;refine F.ok sc (λvs H Q E h=>xH vZ h) (λcdv A outer s H vs Q E hr h=>?_);obtain⟨Fh,ds,G,le,dp,p,q⟩:=h
 refine⟨_,(zg (pS (i:=2) sc.nd (ya (zb (pY (zw (K:=K) rfl) B.list (zb (pX (zN (K:=K) rfl) (pv 0) ze) zd)) (zb (zZ rfl (N:=["_law_row"]) (js:=[none]) (by walk_at"comp_ok") (zB (K:=K) rfl (pX (zN (K:=K) rfl) (pv 0) ze)) (λ_ _ _ _=>(pN (i:=0) (show υN ["_law_row"]by decide +kernel))) (λ_ _ _ _=>zP) (λ_ _ _ _=>(pY (zw (K:=K) rfl) B.list (zb (pv 0) zd)))) (zb (zZ rfl (N:=["_law_rows"]) (js:=[none]) (by walk_at"comp_ok") (zB (K:=K) rfl (pX (zN (K:=K) rfl) (pv 0) ze)) (λ_ _ _ _=>(pN (i:=0) (show υN ["_law_rows"]by decide +kernel))) (λ_ _ _ _=>zP) (λ_ _ _ _=>(zZ rfl (N:=["_law_row"]) (js:=[none]) (by walk_at"comp_ok") (zB (K:=K) rfl (pv 0)) (λ_ _ _ _=>(pN (i:=0) (show υN ["_law_row"]by decide +kernel))) (λ_ _ _ _=>zP) (λ_ _ _ _=>(pY (zw (K:=K) rfl) B.list (zb (pv 0) zd)))))) zd)))))
   (zg (pS (i:=3) sc.nd (zp zK (zp zS (pv 1) ze) (pB (zn (K:=K) rfl) B.len (zb (pX (zN (K:=K) rfl) (pv 0) ze) zd))))
   (zg (pS (i:=4) sc.nd (pX (zj (K:=K) rfl) (pX (zj (K:=K) rfl) (pv 2) ze) (pv 3)))
   (zg (pS (i:=5) sc.nd (pX (zj (K:=K) rfl) (ya (zb (uL wS ze) (zb (pB (zn (K:=K) rfl) B.len (zb (pX (zN (K:=K) rfl) (pv 0) ze) zd)) (zb xN (zb xN (zb xz (zb uY (zb (uL wS (pB (zn (K:=K) rfl) B.len (zb (pX (zN (K:=K) rfl) (pv 0) ze) zd))) (zb (ya (zb ze zd)) zd))))))))) (zp zK (pv 1) ze)))
   (zg (pS (i:=6) sc.nd (zp zK (zp zS (pv 1) ze) (pB (ux rfl) B.max (zb ze (zb (pB (zn (K:=K) rfl) B.len (zb (pv 4) zd)) zd)))))
   (zg (zY (zv (vA (K:=K) rfl hr.units) (pv 4) (ya zd) (zG _)) (zh (yv (xA (K:=K) rfl ζB ζW ζV yP (pv 4) (zb (pv 5) zd)))) (zh (zY (zv xu (zp zK (zp zS (pv 1) ze) ze) ze (zG _)) (zh (yv (xA (K:=K) rfl ζB PySem.F.slot_list_insert PySem.F.type_list_insert Xj (pv 4) (zb (pv 6) (zb (pX (zj (K:=K) rfl) (pv 4) (pv 6)) zd))))) (zh (zY (PW.pt (wA (zv xu (zp zK (zp zS (pv 1) ze) ze) ze (zG _)) (xI (zv uN (pB (zn (K:=K) rfl) B.len (zb (pv 4) zd)) ze (zG _))))) (zh (xf (zbD (K:=K) rfl (pv 4) ug ug (tT (uL wS ze))) (xx (pX (zj (K:=K) rfl) (pv 2) ze) (pv 3) yB))) (zh (xf (pv 5) (xx (pv 4) (pv 6) yB))))))))
   (zg (pS (i:=7) sc.nd (pB (zn (K:=K) rfl) B.len (zb (pX (zN (K:=K) rfl) (pv 0) ze) zd)))
   (zg (zY (ye (pB (xE (K:=K) rfl rfl) B.all (zb (zZ rfl (N:=["_law_c","_law_many"]) (js:=[none,some 7]) (by walk_at"comp_ok") (zB (K:=K) rfl (pX (zj (K:=K) rfl) (pX (zj (K:=K) rfl) (pv 2) ze) (pv 3))) (λ_ _ _ _=>(pN (i:=0) (show υN ["_law_c","_law_many"]by decide +kernel))) (λ_ _ _ _=>zP) (λ_ _ _ _=>(wI (pB (yi (K:=K) rfl) B.isinstance (zb (pv 0) (zb (yO (v:=.ty "int") rfl B.int (by decide +kernel) rfl) zd))) (wW (WW zdm zdl (uL wS (pv 1)) (pv 0) (pv 1)))))) zd))) (zg (pS (i:=8) sc.nd (ya (zb (pY (zw (K:=K) rfl) B.list (zb (pX (zj (K:=K) rfl) (pX (zj (K:=K) rfl) (pX (zj (K:=K) rfl) (pv 2) ze) (pv 3)) ze) zd)) zd)))
   (zg (xR AC rfl (zB (K:=K) rfl (pX (zj (K:=K) rfl) (pX (zj (K:=K) rfl) (pv 2) ze) (pv 3))) (pN (i:=9) sc.nd) (zh (yp (i:=8) rfl sc.nd rfl rfl (N:=["_law_one"]) (js:=[none]) (by walk_at"comp_ok") (zB (K:=K) rfl (zp zdi (pv 8) (pX (Ts (K:=K) rfl) (pX (zj (K:=K) rfl) (pv 2) ze) (pv 9)))) (λ_ _ _ _=>(pN (i:=0) (show υN ["_law_one"]by decide +kernel))) (λ_ _ _ _=>zP) (λ_ _ _ _=>(pY (zw (K:=K) rfl) B.list (zb (pv 0) zd))))))
   (zh (xf (pv 8) (xx (pX (zj (K:=K) rfl) (pv 2) ze) (pv 3) yB))))) zC)
   (zh (zH (xy (zb (pX (zj (K:=K) rfl) (pv 2) ze) (zb (pX (zj (K:=K) rfl) (pv 2) ze) (zb (pX (zj (K:=K) rfl) (pv 2) ze) zd)))))))))))))),?_⟩
 have hN:=sc.n 10;obtain⟨ss,cs,ts,m,rfl,ok,s0,rfl⟩:=p;have big:=zU;have n12:=ok.b.n;have cl:=ok.b.cl;have tl:=ok.b.tl;have sp:=ζK.mpr s0;refine y9 le dp q hN (by walk_at"st") ?_;refine exr (d:=.list [il ss,nls cs,tbl ts]) (ZV (yY (xw (z0 ∅ ∅ atI0)) (yY (yX (is:=[0]) (xs:=cs) false nl nl (λ_ _ _ _ h=>h) (zO (z0 ∅ ∅ atI1)) (by walk_at"cc") rfl #[2] ⋯ ?_) (yY (yX (is:=[0]) (xs:=ts) false lls lls (λ_ _ _ _ h=>h) (zO (z0 ∅ ∅ atI2)) (by walk_at"cc") rfl #[2] ⋯ ?_) ZZ))) (by show 3≤sizeLine;omega)) #[0] ?_
 ·intro r hr;exact egn #[0] (EvTr.eq (xw (EvE.eq (κ:=false) ∅ (vW r))) (vW r).symm)
 ·intro t ht;have:=ok.b.tlen ht;refine egn #[0] (yX (is:=[0]) (xs:=t) false il il (λ_ _ _ _ h=>h) (zO ∅) (by walk_at"cc") rfl #[2] ⋯ ?_);intro r hr;exact egn #[0] (xw ∅)
 have d7:CDiv m 7:=⟨#[2],#[2]⟩
 have ah:CDiv m 64:=⟨#[2],#[2]⟩
 have ak:CDiv m 448:=⟨#[2],#[2]⟩
 obtain⟨j,hj,jn⟩:=wc (m/7) sp;refine exs true (d:=.int j) (EvE.eq (yE (y6 ∅ ∅ d7) (EvE.eq (yj (ds:=ss.map PyData.int) (EvE.toL (z0 ∅ ∅ atI0))) (vD ss)) ⋯) (congrArg PyData.int hj)) #[0] ?_;have gc:=zA (d:=([]:AF)) (l:=cs) (k:=j) ⋯;have gt:=zA (d:=([]:AH)) (l:=ts) (k:=j) ⋯;obtain⟨c1,c2,c3⟩:=ok.rows _ (ζk gc);obtain⟨tk,t1,t2,rk⟩:=ok.tj jn;have gs:=yJ ok.b.s jn;have gl:=zA (d:=([]:AE)) (l:=ts.getD j []) (k:=0) ⋯;generalize hr:(ts.getD j []).getD 0 []=r at gl;generalize hq:cs.getD j []=C at gc c1 c2 c3;refine xD (x:=2) (G:=Op3 j 0 (ss.map .int) (cs.map nl) (C.map λk:Nat=>.int (k:Int)) (ts.map lls) ((ts.getD j []).map il) (r.map .int)) #[1] (VM (by rw[ζj,gc];rfl) (by rw[ζj,gt];rfl) (by rw[ζj,gl];rfl)) (λv A W L=>by walk_at"sc") ?_;rintro _ A W L ⟨T,R,O,b,U,a4,a5,a6,J,I,M,a7,a8,rfl,rfl,rfl,k1,kb,Y,k3,k4,k5⟩;have vb:I.length=C.length:=by rw[Y.length,ζc]
 have v2:J.length=cs.length:=by rw[kb.l,ζc]
 have v3:M.length=ts.length:=by rw[k3.l,ζc]
 refine Zt (r:=4) (a:=b) (zQ (x:=2) (i:=2) #[1] rfl rfl (zQ (x:=2) (i:=0) (m:=1) #[1] rfl rfl (yc #[1]) ∅ rfl) ∅ (ym kb.at_)) #[0] ?_;obtain⟨d,hd,dm⟩:=XZ (D:=badC ss.length) (k:=m%8) ⋯ (by show m%8<8;omega);obtain⟨f1,f2⟩:=zci sp d dm;have ln:∀{Γ:PD.Ctx},GetC Γ 0 (.fz false (zX ss cs ts))→EvE K .fresh false (tCB (λxs H Q=>∃p ys,xs=[.ref p]∧(SqL K H p ys∨SqT K H p ys)∧Q (.int ys.length) H) (zF (tOp (rIxT K) (tVar 0) (tC (.int 0))) tNil)) Γ (.int (ss.length:Int)):=λg=>EvE.eq (yj (ds:=ss.map PyData.int) (EvE.toL (z0 (evv g #[2]) ∅ atI0))) (vD ss);refine exs false (d:=d) (zM (ds:=badC ss.length) (EvO.toL (zT (zi ∅ (zi (ln #[1]) (zi ∅ (zi ∅ (zi ∅ (zi ∅ (zi (YC (ln #[1])) (zi (EvO.toE (zT (ds:=[.int 0]) ∅ #[2])) zL)))))))) (by show 8≤sizeLine;omega))) ∅ hd) #[0] ?_;obtain⟨p,hp,pl⟩:∃p:Nat,m/64%max 1 (C.length:Int)=(p:Int)∧(C≠[]→p<C.length):=⟨(m/64%max 1 (C.length:Int)).toNat,by have:=ξd (m/64) (show max 1 (C.length:Int)≠0 by omega);omega,λz=>by
  have:=ζK.mpr z;have:=ξf (m/64) (show 0<max 1 (C.length:Int)by omega);have:=ξd (m/64) (show max 1 (C.length:Int)≠0 by omega);omega⟩
 have lb:∀{Γ:PD.Ctx},GetC Γ 2 (clD K (.ref T) [T,R,O,b,U,a4,a5] [[.ref R,.ref O,.ref U],a6,J,I,M,a7,a8] L)→GetC Γ 4 (.fn b)→EvE K .fresh false (tCB (λxs H Q=>∃p ys,xs=[.ref p]∧(SqL K H p ys∨SqT K H p ys)∧Q (.int ys.length) H) (zF (tVar 4) tNil)) Γ (.int (C.length:Int)):=λg2 g4=>EvE.eq (wK (i:=3) g2 rfl rfl (yf g4)) (congrArg PyData.int (show(I.length:Int)=(C.length:Int)by omega));refine exs true (d:=.int p) (EvE.eq (yE (y6 ∅ ∅ ah) (ZW ∅ (lb #[1] #[1])) ⋯) (congrArg PyData.int hp)) #[0] ?_;have lB:∀{Γ:PD.Ctx},GetC Γ 2 (clD K (.ref T) [T,R,O,b,U,a4,a5] [[.ref R,.ref O,.ref U],a6,J,I,M,a7,a8] L)→GetC Γ 4 (.fn b)→EvL K .fresh false (tVar 4) Γ ((zl C).map PyData.int):=λg2 g4=>by
  have h:=zdF (S:=.fresh) (i:=3) g2 rfl rfl (yf g4) Y
  rwa [show(C.map λk:Nat=>PyData.int (k:Int))=(zl C).map PyData.int by unfold zl;rw[List.map_map];rfl]at h
 refine yZ (λΓ=>∃J I L' ys,PW ss.length ys∧Kc [R,O,b,a4,a5] [a6,J,I,a7,a8] L' (.ref O) (.list ((cs.map nl).set j (.list ys)))∧(∀p∈L,p∈L')∧Γ=[some (.fz false (zX ss cs ts)),some (.fz false (.int m)),some (clD K (.ref T) [T,R,O,b,U,a4,a5] [[.ref R,.ref O,.ref U],a6,J,I,M,a7,a8] L'),some (.fz true (.int j)),some (.fn b),some (.fz false d),some (.fz true (.int p)),none,none,none]) ?_ ?_
 ·refine yW (b:=decide (C=[])) (EvT.eq (zW (v8 (neg:=false) (d:=il (zl C)) (f:=.list []) (zek (lB #[1] #[1])) (EvE.toD (κ:=false) (EvO.toE (zT (ds:=[]) zL #[2]))) (yI _) (yI []))) (by rw[if_neg #[2]];refine(Zx (zl C) []).trans (decide_eq_decide.mpr ?_);unfold zl;exact List.map_eq_nil_iff)) (λc=>?_) (λc=>?_)
  ·have c:=of_decide_eq_true c;refine uo (x:=2) (i:=3) (vs:=I) (d:=d) #[1] rfl rfl (yf #[1]) ∅ ⋯ (λw=>by walk_at"sc") ?_;intro u;refine⟨J,I++[u],_,[d],QO (d:=d) (by simp) f1 (λz hz=>by rw[List.mem_singleton.mp hz];exact f2) (by show 1≤6;omega),.cell 1 rfl rfl ((kb.more λp hp=>List.mem_cons_of_mem _ hp).kc (.cell 2 rfl rfl ?_)),λp hp=>List.mem_cons_of_mem _ hp,rfl⟩
   have h:=(Y.more λp hp=>ζb _ hp).app (.cons (.mem (L:=(u,d)::L) ζi) .nil);rw[c]at h;exact h.kc
  have c:=of_decide_eq_false c;have pr:=pl c;have gp:=zA (d:=0) (l:=C) pr;refine yW (b:=decide (m/448%4=1)) ∅ (λ_=>?_) (λ_=>?_)
  ·obtain⟨u,hu,ku⟩:=Y.get (j:=p) (d:=.int (C.getD p 0:Nat)) (by rw[ζj,gp];rfl);refine zb4 (x:=2) (i:=3) (vs:=I) (m:=(p:Int)) (d:=.int (C.getD p 0:Nat)) #[1] rfl rfl (yf #[1]) ∅ (wf (x:=2) #[1] (zQ (x:=2) (i:=3) #[1] rfl rfl (yf #[1]) ∅ (ym hu)) ku) ⋯ ⋯ ⋯ (λw=>by walk_at"sc") ?_;intro u2;have al:(zl C).length=C.length:=by unfold zl;rw[List.length_map]
   refine⟨J,_,_,((zl C).take p++(C.getD p 0:Int)::(zl C).drop p).map .int,zcG (zdL ⋯ (ζn.mpr ⟨_,ζk gp,rfl⟩)) (by rw[ζr,ζZ,ζL,ζ2];omega),.cell 1 rfl rfl ((kb.more λp hp=>ζb _ hp).kc (.cell 2 rfl rfl ?_)),λp hp=>ζb _ hp,rfl⟩
   rw[List.map_append,List.map_cons,List.map_take,List.map_drop,show(zl C).map PyData.int=C.map λk:Nat=>PyData.int (k:Int)by unfold zl;rw[List.map_map];rfl];exact(((Y.more λp hp=>ζb _ hp).take p).app (.cons (.mem ζi) ((Y.more λp hp=>ζb _ hp).drop p))).kc
  refine yW (b:=decide (m/448%4=2)&&decide ((1:Int)<(C.length:Int))) (xt ∅ λ_=>zW (uQ (lb #[1] #[1]) ∅)) (λc5=>?_) (λ_=>?_)
  ·have l1:1<C.length:=by
    have:=(ζ3 _ _).mp c5;have:=of_decide_eq_true this.2;omega
   refine xi (x:=2) (i:=2) (j:=j) (vs:=J) (G:=(·=il (zl C).reverse)) #[1] rfl rfl (EvE.g (EvE.eq (EvO.toE (zaF (ds:=(zl C).map PyData.int) (lB #[1] #[1]) uv uv (Zc ∅))) (by rw[←List.map_reverse]))) (zQ (x:=2) (i:=0) (m:=1) #[1] rfl rfl (yc #[1]) ∅ rfl) ∅ (yL ⋯) (λw d=>by walk_at"sc") ?_;intro u d' ed;obtain rfl:d'=_:=ed;refine⟨J.set j u,I,_,(zl C).reverse.map .int,zcG (zc7 (by unfold zl;rw[List.pairwise_map];exact c3.imp λh=>by omega) (by unfold zl;rw[List.length_map];exact l1)) (by unfold zl;rw[List.length_reverse,List.length_map];omega),.cell 1 rfl rfl (VU (by rw[List.length_set,List.length_set];exact kb.l) λi w e h1 h2=>?_),λp hp=>List.mem_cons_of_mem _ hp,rfl⟩
   by_cases ij:i=j
   ·subst ij;rw[ζh ⋯]at h1;rw[ζh (by rw[ζc];omega)]at h2;cases h1;cases h2;exact .kn (.mem ζi)
   ·rw[ζm (Ne.symm ij)]at h1 h2;exact .kn ((kb.o i ij w e h1 h2).more λp hp=>ζb _ hp)
  ·refine xi (x:=2) (i:=3) (j:=p) (vs:=I) (G:=(·=d)) #[1] rfl rfl (EvE.g ∅) (yf #[1]) ∅ (yL ⋯) (λw d=>by walk_at"sc") ?_;intro u d' ed;obtain rfl:d'=d:=ed;refine⟨J,_,_,(C.map λk:Nat=>PyData.int (k:Int)).set p d',QO (d:=d') (ζI.mpr ⟨p,by rw[ζh (by rw[ζc];exact pr)]⟩) f1 (λz hz=>?_) (by rw[ζA,ζc];omega),.cell 1 rfl rfl ((kb.more λp hp=>ζb _ hp).kc (.cell 2 rfl rfl (KnA.set (.mem ζi) (Y.more λp hp=>ζb _ hp) p).kc)),λp hp=>ζb _ hp,rfl⟩
   rcases ζz hz with hz|hz
   ·obtain⟨i,_,rfl⟩:=ζn.mp hz;exact yq i
   ·rw[hz];exact f2
 rintro _ ⟨aa,ae,L',ys,pw,kc,a9,rfl⟩;have ai:((ts.getD j []).map il).set 0 (il r)=(ts.getD j []).map il:=w8 (by rw[ζj,gl];rfl);have gX:((cs.map nl).set j (.list ys))[j]?=some (.list ys):=ζh (by rw[ζc];omega);generalize hX:(cs.map nl).set j (.list ys)=X at kc gX;refine Ty 2 (A1:=[T,U]) (W1:=[[.ref R,.ref O,.ref U],M]) (A2:=[R,O,b,a4,a5]) (W2:=[a6,aa,ae,a7,a8]) (L':=(.ref R,il ss)::(.ref O,.list X)::(.ref a4,lls (ts.getD j []))::L') #[1] ?_ ?_ rfl rfl ?_ ?_ #[0] ?_
 ·intro i a vs ha hw
  match i,ha,hw with
  | 0,rfl,rfl=>exact⟨0,rfl,rfl⟩
  | 1,rfl,rfl=>exact⟨4,rfl,rfl⟩
 ·intro i a vs ha hw
  match i,ha,hw with
  | 0,rfl,rfl=>exact⟨1,rfl,rfl⟩
  | 1,rfl,rfl=>exact⟨2,rfl,rfl⟩
  | 2,rfl,rfl=>exact⟨3,rfl,rfl⟩
  | 3,rfl,rfl=>exact⟨5,rfl,rfl⟩
  | 4,rfl,rfl=>exact⟨6,rfl,rfl⟩
 ·intro nd;simp at nd ⊢;grind
 ·intro q hq;rcases ζq.mp hq with rfl|hq
  ·exact .cell 0 rfl rfl (k1.more a9).kc
  rcases ζq.mp hq with rfl|hq
  ·exact kc
  rcases ζq.mp hq with rfl|hq
  ·refine .cell 3 rfl rfl ?_;rw[←ai];exact(k4.more a9).kc (.cell 4 rfl rfl (k5.more a9).kc)
  ·exact .kn (.mem hq)
 have q1:((V.ref R,il ss):V×AD)∈(.ref R,il ss)::(.ref O,.list X)::(.ref a4,lls (ts.getD j []))::L':=ζi;have q2:((V.ref O,PyData.list X):V×AD)∈(.ref R,il ss)::(.ref O,.list X)::(.ref a4,lls (ts.getD j []))::L':=ζb _ ζi;have q3:((V.ref a4,lls (ts.getD j [])):V×AD)∈(.ref R,il ss)::(.ref O,.list X)::(.ref a4,lls (ts.getD j []))::L':=ζb _ (ζb _ ζi);have q4:∀z∈L',z∈(V.ref R,il ss)::(.ref O,.list X)::(.ref a4,lls (ts.getD j []))::L':=λz hz=>ζb _ (ζb _ (ζb _ hz));generalize hL:((V.ref R,il ss):V×AD)::(.ref O,.list X)::(.ref a4,lls (ts.getD j []))::L'=Lq at q1 q2 q3 q4;have af:KnA Lq M (ts.map lls):=zad k3.l λi w e h1 h2=>by
  by_cases ij:i=j
  ·subst ij;rw[k3.at_]at h1;rw[ζj,gt]at h2;cases h1;cases h2;exact .mem q3
  ·exact((k3.o i ij w e h1 h2).more a9).more q4
 have eY:∀{Γ:PD.Ctx},GetC Γ 2 (clD K (.ref T) [T,U] [[.ref R,.ref O,.ref U],M] Lq)→GetC Γ 3 (.fz true (.int j))→EvE K .fresh false (tOp (rIxL K) (tOp (rIxL K) (tVar 2) (tC (.int 1))) (tVar 3)) Γ (.list ys):=λg2 g3=>zM (EvE.toL (wf (d:=.list X) g2 (zQ (i:=0) (m:=1) g2 rfl rfl (yc g2) ∅ rfl) (.mem q2))) (evv g3 #[2]) (ym gX);refine exs false (d:=.int (ss.length:Int)) (ln #[1]) #[0] ?_;refine yZ (λΓ=>∃W' L2 e0 e1 e2 b8 b9,Kc [T,U] W' L2 (.ref T) (.list [e0,e1,e2])∧WrO (.tuple [e0,e1,e2])∧Γ=[some (.fz false (zX ss cs ts)),some (.fz false (.int m)),some (clD K (.ref T) [T,U] W' L2),some (.fz true (.int j)),some (.fn b),some (.fz false d),some (.fz true (.int p)),some (.fz false (.int (ss.length:Int))),b8,b9]) ?_ ?_
 rotate_left
 ·rintro _ ⟨W',L2,e0,e1,e2,b8,b9,aj,wr,rfl⟩;refine vC 2 #[1] aj #[0] ?_;exact zR false (v7 (ds:=[e0,e1,e2]) (zi (zM (EvE.toL ∅) ∅ atI0) (zi (zM (EvE.toL ∅) ∅ atI1) (zi (zM (EvE.toL ∅) ∅ atI2) zL))) (by show 3≤sizeLine;omega)) wr (.inr rfl)
 have yl:=pw.l;refine yW (b:=ys.all (inB ss.length)) (et_B (vf false (inB ss.length) (is:=[0]) (zO (eY #[1] #[1])) (by walk_at"cc") rfl #[2] ⋯ ?_)) (λca=>?_) (λ_=>?_)
 ·intro c hc;refine egn #[0] ?_;cases c with
  | int i=>exact EvE.eq (yV (yG (EvE.toD (κ:=false) ∅) (by with_unfolding_all rfl)) λ_=>Xs (YC ∅) ∅ rfl ∅) rfl
  | bool i=>exact EvE.eq (yV (yG (EvE.toD (κ:=false) ∅) (by with_unfolding_all rfl)) λ_=>Xs (YC ∅) ∅ rfl ∅) rfl
  | _=>exact EvE.eq (yV (a:=false) (b:=true) (yG (EvE.toD (κ:=false) ∅) (by with_unfolding_all rfl)) λh=>nomatch h) rfl
 ·rw[ζM]at ca;have g0:((ts.getD j []).map il)[0]?=some (il r):=by rw[ζj,gl];rfl
  refine exs true (d:=lls [r]) (EvO.toE (zT (ds:=[il r]) (zi (EvO.toE (yD (EvL.imm (κ:=false) (EvE.toL (zM (i:=0) (EvE.toL (wf (x:=2) (d:=lls (ts.getD j [])) #[1] (zQ (x:=2) (i:=1) #[1] rfl rfl (zQ (x:=2) (i:=0) (m:=2) #[1] rfl rfl (yc #[1]) ∅ rfl) ∅ (ym k3.at_)) (.mem q3))) ∅ (ym (j:=0) g0))) (yQ r)))) zL) (by show 1≤sizeLine;omega))) #[0] ?_;refine uP (ds:=ys) false (λi Γ=>∃(N:Nat) (b9:Option DV),N≤4^i∧Γ=[some (.fz false (zX ss cs ts)),some (.fz false (.int m)),some (clD K (.ref T) [T,U] [[.ref R,.ref O,.ref U],M] Lq),some (.fz true (.int j)),some (.fn b),some (.fz false d),some (.fz true (.int p)),some (.fz false (.int (ss.length:Int))),some (.fz true (lls (List.replicate N r))),b9]) (zO (eY #[1] #[1])) ⟨1,none,#[2],rfl⟩ ?_ ?_
  ·rintro i c Γ' hc ⟨N,b9,hN,rfl⟩;have hi:=(ζg.mp hc).1;have p4:4^i≤4^5:=Nat.pow_le_pow_right #[2] ⋯;have N5:N≤1024:=by omega
   have ic:=ca c (ζk hc);obtain⟨x,hx,x1,x2⟩:∃x,numD c=some x∧-(ss.length:Int)≤x∧x<ss.length:=by
    unfold inB at ic;cases hz:numD c with
    | none=>rw[hz]at ic;cases ic
    | some x =>
     rw[hz]at ic;have:=(ζ3 _ _).mp ic;exact⟨x,rfl,of_decide_eq_true this.1,of_decide_eq_true this.2⟩
   obtain⟨s,hs,s4⟩:=Qw ok.b.s x1 x2;have sN:s*N≤4*4^i:=Nat.mul_le_mul s4 hN;have fl:(List.replicate (s:Int).toNat ((List.replicate N r).map il)).flatten=(List.replicate (s*N) r).map il:=by
    rw[ξe,ξe,ζH,QG]
   refine⟨_,egn #[0] ?_⟩
   have ag:∀{Γ:PD.Ctx},GetC Γ 2 (clD K (.ref T) [T,U] [[.ref R,.ref O,.ref U],M] Lq)→GetC Γ 8 (.fz true (lls (List.replicate N r)))→GetC Γ 9 (.fz false c)→EvO K .fresh true (tOp rRep (tVar 8) (tOp (rIxN K) (tOp (rIxL K) (tVar 2) (tC (.int 0))) (tVar 9))) Γ ((List.replicate (s*N) r).map il):=λg2 g8 g9=>EvO.eq (zaG (xs:=(List.replicate N r).map il) (k:=(s:Int)) (evv g8 #[2]) (zdH (κ:=false) (EvE.toL (wf (d:=il ss) g2 (zQ (i:=0) (m:=0) g2 rfl rfl (yc g2) ∅ rfl) (.mem q1))) (evv g9 #[2]) hx hs) ⋯ ⋯ (by rw[ζc,ζN,ζH,Nat.mul_comm];omega)) fl;refine exs1 true (d:=lls (List.replicate (s*N) r)) (EvO.toE (yR (κ:=true) (is:=[0]) (xs:=List.replicate (s*N) r) true il il (λ_ _ _ _ h=>h) (zO (EvO.toE (ag #[1] #[1] #[1]))) (by walk_at"cc") rfl #[2] (by rw[ζN];omega) ?_)) #[0] ?_
   ·intro q hq;exact egn #[0] (EvO.toE (yD (EvL.imm (κ:=true) (EvE.toL ∅) (yQ q))))
   ·exact⟨s*N,_,by rw[Nat.pow_succ,Nat.mul_comm (4^i) 4];exact sN,rfl⟩
  ·rintro Γ' ⟨N,b9,hN,rfl⟩;have p4:4^ys.length≤4^6:=Nat.pow_le_pow_right #[2] yl;have N6:N≤4096:=by omega
   refine xi (x:=2) (i:=1) (j:=j) (vs:=M) (G:=(·=lls (List.replicate N r))) #[1] rfl rfl (EvE.g ∅) (zQ (x:=2) (i:=0) (m:=2) #[1] rfl rfl (yc #[1]) ∅ rfl) ∅ (yL ⋯) (λw d=>by walk_at"sc") ?_;intro u d' ed;obtain rfl:d'=_:=ed;refine⟨_,_,il ss,.list X,.list ((ts.map lls).set j (lls (List.replicate N r))),_,_,.cell 0 rfl rfl (.cons (.kn (.mem (ζb _ q1))) (.cons (.kn (.mem (ζb _ q2))) (.cons (.cell 1 rfl rfl (KnA.set (.mem ζi) (af.more λp hp=>ζb _ hp) j).kc) .nil))),?_,rfl⟩
   rw[←hX];refine ok.wr_cs jn pw (ok.nn_tab λy hy z hz=>?_) (ok.s2t (by show((List.replicate N r).map il).length≤5000;rw[ζc,ζN];omega));obtain⟨q,_,rfl⟩:=ζn.mp (show y∈(List.replicate N r).map il from hy);obtain⟨i,_,rfl⟩:=ζn.mp (show z∈q.map PyData.int from hz);exact yq i
 ·refine yw ⟨_,_,il ss,.list X,tbl ts,none,none,.cell 0 rfl rfl (.cons (.kn (.mem q1)) (.cons (.kn (.mem q2)) (.cons (.cell 1 rfl rfl af.kc) .nil))),?_,rfl⟩;rw[←hX];exact ok.wr_cs jn pw ok.nn.2.2 ok.s2
def wC(ds:AG)(G:AD→Prop):Prop:=∃m:Int,ds=[.int m]∧G=WrO
theorem W5(ns:AE):∀z∈itL (il ns),okA z:=λz a=>by
 obtain⟨i,_,rfl⟩:=ζn.mp (show z∈ns.map PyData.int from a);exact yq i
theorem Q4(cs:AI):∀r∈itL (nls cs),∀z∈itL r,okA z:=λr a z b=>by
 obtain⟨r,_,rfl⟩:=ζn.mp (show r∈cs.map nl from a);obtain⟨i,_,rfl⟩:=ζn.mp (show z∈r.map λk:Nat=>PyData.int (k:Int)from b);exact yq i
theorem Q3(ts:List AH):∀t∈itL (tbl ts),∀r∈itL t,∀z∈itL r,okA z:=λt a r b z c=>by
 obtain⟨t,_,rfl⟩:=ζn.mp (show t∈ts.map lls from a);obtain⟨r,_,rfl⟩:=ζn.mp (show r∈t.map il from b);obtain⟨i,_,rfl⟩:=ζn.mp (show z∈r.map PyData.int from c);exact yq i
theorem zdR{cs:AI}{ts:List AH}(a:sm1 (nls cs)∧sm2 (tbl ts)):WrO (.tuple [il (List.replicate 13 2),nls cs,tbl ts]):=⟨_,_,_,rfl,a,bad0 (uT #[2]) #[2],W5 _,Q4 cs,Q3 ts⟩
theorem wr_6{n:Nat}{cs:AI}{ts:List AH}(d:7≤n)(e:n≤12)(cl:cs.length=n)(h:cs[6]?=some [0,1,2,3,4,5])(b:∀r∈cs,r.length≤6)(a:sm1 (nls cs)∧sm2 (tbl ts)):WrO (.tuple [il (List.replicate n 2),nls cs,tbl ts]):=by
 have sl:(List.replicate n (2:Int)).length=n:=ζN ..;refine⟨_,_,_,rfl,a,⟨uT ⋯,.inr ⟨List.replicate n 2,rfl,WH (λs a=>by rw[ξG a];decide) ⋯,Uo ⋯ (λr c=>by have:=b r c;omega),.inl ?_⟩⟩,W5 _,Q4 cs,Q3 ts⟩
 unfold csB;rw[show(itL (nls cs)).all (ocB ((List.replicate n (2:Int)).length:Nat))=false from ZC (x:=nl [0,1,2,3,4,5]) (show _∈cs.map nl from List.mem_map.mpr ⟨_,List.mem_of_getElem? h,rfl⟩) (by unfold ocB;rw[decide_eq_false (p:=(itL (nl [0,1,2,3,4,5])).length≤5) #[2]];rfl),Bool.and_false]
structure CsM(n:Nat)(cs:AI):Prop where
 l:cs.length=n
 m:n≤13
 e:∀r∈cs,r.length≤6
 h:n=13∨(7≤n∧n≤12∧cs[6]?=some [0,1,2,3,4,5])
theorem tI:zJ ["_law_number","_law_many","_law_causes","_law_tables","_law_k","_law_c"] ["_law_number"] (zr (top 42)):={}
theorem tW(F:Fun K "_law_many_wrong" "_law_many_wrong" (top 42) f fd)(B:Bs mg)(Z:Cs K mg cA cB cC τa τb τc τd f_Ring g_Ring): FnOk P w K mg base CX0 1 f fd ["_law_number"] (spW K false wC):=by
 have sc:=tI;refine F.ok sc (λvs H Q E h=>xH (λ_ _⟨_,e,_⟩=>by rw[e];rfl) h) (λcdv A outer s H vs Q E g h=>?_);obtain⟨Fh,ds,G,le,dp,p,q⟩:=h
 refine⟨_,(zg (pS (i:=1) sc.nd ze)
   (zg (yp (i:=2) rfl sc.nd rfl rfl (N:=["_law_k"]) (js:=[none]) (by walk_at"comp_ok") (yn rfl B.range (zb (pv 1) zd)) (λ_ _ _ _=>(pN (i:=0) (show υN ["_law_k"]by decide +kernel))) (λ_ _ _ _=>zP) (λ_ _ _ _=>(ya zd)))
   (zg (zY (zv xu (zp zK (pv 0) ze) ze (zG _)) (zg (pS (i:=1) sc.nd (zp yU ze (zp zK (zp zS (pv 0) ze) ze)))
   (zg (yp (i:=2) rfl sc.nd rfl rfl (N:=["_law_k"]) (js:=[none]) (by walk_at"comp_ok") (yn rfl B.range (zb (pv 1) zd)) (λ_ _ _ _=>(pN (i:=0) (show υN ["_law_k"]by decide +kernel))) (λ_ _ _ _=>zP) (λ_ _ _ _=>(ya zd)))
   (zh (xf (ya (zb ze (zb ze (zb ze (zb ze (zb ze (zb ze zd))))))) (xx (pv 2) ze yB))))) zC)
   (zg (zY (PW.pt (wA (zv xu (zp zK (pv 0) ze) ze (zG _)) (xI (zv xu (zp zK (zp zS (pv 0) ze) ze) ze (zG _))))) (zh (xf (ya (zb (zp zK (zp zS (pv 0) ze) ze) zd)) (xx (pv 2) ze yB))) zC)
   (zg (yp (i:=3) rfl sc.nd rfl rfl (N:=["_law_k","_law_number"]) (js:=[none,some 0]) (by walk_at"comp_ok") (yn rfl B.range (zb (pv 1) zd)) (λ_ _ _ _=>(pN (i:=0) (show υN ["_law_k","_law_number"]by decide +kernel))) (λ_ _ _ _=>zP) (λ_ _ _ _=>(ya (zb (ya (zb (zp yU ze (zp zK (zp zS (pv 1) ze) ze)) (zb ze zd))) zd))))
   (zg (xR AC rfl (yn rfl B.range (zb (pv 1) zd)) (pN (i:=4) sc.nd) (zh (xR AC rfl (zB (K:=K) rfl (pX (zj (K:=K) rfl) (pv 2) (pv 4))) (pN (i:=5) sc.nd) (zh (xf (zp (tV (K:=K) rfl) (zZ rfl (N:=["_law_row"]) (js:=[none]) (by walk_at"comp_ok") (zB (K:=K) rfl (pX (zj (K:=K) rfl) (pv 3) (pv 4))) (λ_ _ _ _=>(pN (i:=0) (show υN ["_law_row"]by decide +kernel))) (λ_ _ _ _=>zP) (λ_ _ _ _=>(pY (zw (K:=K) rfl) B.list (zb (pv 0) zd)))) (zZ rfl (N:=["_law_row"]) (js:=[none]) (by walk_at"comp_ok") (zB (K:=K) rfl (pX (zj (K:=K) rfl) (pv 3) (pv 4))) (λ_ _ _ _=>(pN (i:=0) (show υN ["_law_row"]by decide +kernel))) (λ_ _ _ _=>zP) (λ_ _ _ _=>(pY (zw (K:=K) rfl) B.list (zb (pv 0) zd))))) (xx (pv 3) (pv 4) yB))))))
   (zh (zH (xy (zb (zZ rfl (N:=["_law_k"]) (js:=[none]) (by walk_at"comp_ok") (yn rfl B.range (zb (pv 1) zd)) (λ_ _ _ _=>(pN (i:=0) (show υN ["_law_k"]by decide +kernel))) (λ_ _ _ _=>zP) (λ_ _ _ _=>ze)) (zb (pv 2) (zb (pv 3) zd)))))))))))),?_⟩
 have hN:=sc.n 6;obtain⟨m,rfl,rfl⟩:=p;have big:=zU;have d2:CDiv m 2:=⟨#[2],#[2]⟩
 have d6:CDiv m 6:=⟨#[2],#[2]⟩
 have a0:CDiv m 13:=⟨#[2],#[2]⟩
 refine y9 le dp q hN (by walk_at"st") ?_;refine exs true (d:=.int (13:Nat)) (EvE.eq ∅ (show PyData.int 13=.int ((13:Nat):Int)from rfl)) #[0] ?_;refine exo true (ds:=(List.replicate 13 ([]:AF)).map nl) (EvO.eq (ut (n:=13) (λ_=>nl []) (is:=[0]) ∅ ⋯ (by walk_at"cc") rfl #[2] ?_) (by rw[ξe,ξN,ζG])) #[0] ?_
 ·intro k J;exact egn #[0] (EvO.toE (zT (ds:=[]) zL #[2]))
 have O:∀(n:Nat) (r:AF),r∈List.replicate n ([]:AF)→r.length≤6:=λn r g=>by rw[ξG g];show 0≤6;omega
 refine exif (b:=decide (m%2=1)) (λΓ=>∃n cs,CsM n cs∧(m%2=0→n=13)∧Γ=[some (.fz false (.int m)),some (.fz true (.int (n:Nat))),some (.ow true (cs.map nl)),none,none,none]) ∅ (λc=>?_) (λc=>?_) ?_
 ·have c:=of_decide_eq_true c;obtain⟨n,hn,n1,n2⟩:∃n:Nat,7+m/2%6=(n:Int)∧7≤n∧n≤12:=⟨(7+m/2%6).toNat,⋯,⋯,⋯⟩
  refine exs true (d:=.int (n:Nat)) (EvE.eq ∅ (congrArg PyData.int hn)) #[0] ?_;refine exo true (ds:=(List.replicate n ([]:AF)).map nl) (EvO.eq (ut (n:=n) (λ_=>nl []) (is:=[0]) ∅ ⋯ (by walk_at"cc") rfl #[2] ?_) (by rw[ξe,ξN,ζG])) #[0] ?_
  ·intro k J;exact egn #[0] (EvO.toE (zT (ds:=[]) zL #[2]))
  refine exi1 (d:=nl [0,1,2,3,4,5]) (m:=((6:Nat):Int)) (j:=6) #[1] (EvO.toE (zT (ds:=[.int 0,.int 1,.int 2,.int 3,.int 4,.int 5]) ∅ #[2])) (EvE.eq ∅ (show PyData.int 6=.int ((6:Nat):Int)from rfl)) (yL (by rw[ζc,ζN];omega)) #[0] ?_;refine⟨n,(List.replicate n ([]:AF)).set 6 [0,1,2,3,4,5],⟨by rw[ζA,ζN],⋯,λr g=>?_,.inr ⟨n1,n2,ζh (by rw[ζN];omega)⟩⟩,λz=>by omega,by rw[ξR]⟩
  rcases ζz g with g|g
  ·exact O n r g
  ·rw[g];decide
 ·exact yw ⟨13,List.replicate 13 [],⟨ζN ..,⋯,O 13,.inl rfl⟩,λ_=>rfl,rfl⟩
 rintro _ ⟨n,cs,o,D,rfl⟩;obtain⟨x,R⟩:∃x:Nat,m/6%12=(x:Int):=⟨(m/6%12).toNat,⋯⟩
 refine exif (b:=decide (m%2=0)&&decide (m/2%3=1)) (λΓ=>∃cs,CsM n cs∧Γ=[some (.fz false (.int m)),some (.fz true (.int (n:Nat))),some (.ow true (cs.map nl)),none,none,none]) (xt ∅ λ_=>by walk_at"ev") (λc=>?_) (λc=>yw ⟨cs,o,rfl⟩) ?_
 ·have c:=of_decide_eq_true ((ζ3 _ _).mp c).1;have nn:=D c;have cl:=o.l;refine exi1 (d:=nl [x]) (m:=((12:Nat):Int)) (j:=12) #[1] (EvO.toE (zT (ds:=[.int (x:Int)]) (zi (EvE.eq ∅ (congrArg PyData.int R)) zL) (by show 1≤sizeLine;omega))) (EvE.eq ∅ (show PyData.int 12=.int ((12:Nat):Int)from rfl)) (yL (by rw[ζc];omega)) #[0] ?_;refine⟨cs.set 12 [x],⟨by rw[ζA];exact cl,o.m,λr g=>?_,.inl nn⟩,by rw[ξR]⟩
  rcases ζz g with g|g
  ·exact o.e r g
  ·rw[g];show 1≤6;omega
 clear o D R x cs;rintro _ ⟨cs,o,rfl⟩;have D:=o.m;have cl:=o.l;obtain⟨a,ha⟩:∃a:Int,1+m/13%9=a:=⟨_,rfl⟩
 refine exo true (ds:=(List.replicate n [[a,1]]).map lls) (EvO.eq (ut (n:=n) (λ_=>lls [[a,1]]) (is:=[0]) ∅ ⋯ (by walk_at"cc") rfl #[2] ?_) (by rw[ξe,ξN,ζG])) #[0] ?_
 ·intro k J;exact egn #[0] (EvO.toE (zT (ds:=[il [a,1]]) (zi (EvO.toE (zT (ds:=[.int a,.int 1]) (zi (EvE.eq ∅ (congrArg PyData.int ha)) (zi ∅ zL)) (by show 2≤sizeLine;omega))) zL) (by show 1≤sizeLine;omega)))
 refine uP (ds:=(List.range n).map λi:Nat=>.int (i:Int)) true (λk Γ=>∃(ts:List AH) (M u:Option DV),ts.length=n∧(∀i,k≤i→i<n→(ts.getD i []).length≤1)∧(∀i,(ts.getD i []).length≤64)∧Γ=[some (.fz false (.int m)),some (.fz true (.int (n:Nat))),some (.ow true (cs.map nl)),some (.ow true (ts.map lls)),M,u]) (xP (n:=(n:Int)) ∅ ⋯ ⋯) ⟨List.replicate n [[a,1]],none,none,ζN ..,?_,?_,rfl⟩ ?_ ?_
 ·intro i _ hi;rw[ζf,ξj,if_pos hi];show 1≤1;omega
 ·intro i;rw[ζf,ξj];split
  ·show 1≤64;omega
  ·show 0≤64;omega
 ·rintro k d Γ' hd ⟨ts,M,u,tl,v,C,rfl⟩;obtain⟨J,rfl⟩:=w9 hd;have S:=zA (d:=([]:AF)) (l:=cs) (k:=k) ⋯;have c6:=o.e _ (ζk S);refine⟨_,egn #[0] ?_⟩
  refine Wt (ds:=(cs.getD k []).map λk:Nat=>.int (k:Int)) true (λi Γ=>∃(ts:List AH) (u:Option DV),ts.length=n∧(∀i,k<i→i<n→(ts.getD i []).length≤1)∧(∀i,(ts.getD i []).length≤64)∧(ts.getD k []).length≤2^i∧Γ=[some (.fz false (.int m)),some (.fz true (.int (n:Nat))),some (.ow true (cs.map nl)),some (.ow true (ts.map lls)),some (.fz true (.int (k:Int))),u]) (zO (zM (evw #[1] #[2]) ∅ (ym (by rw[ζj,S];rfl)))) ⟨ts,u,tl,λi L I=>v i ⋯ I,C,by have:=v k (ζp _) J;rw[Nat.pow_zero];exact this,rfl⟩ ?_ ?_
  ·clear tl v C ts u;rintro i d Γ' hd ⟨ts,u,tl,v,C,T,rfl⟩;obtain⟨c,hc,rfl⟩:=uj hd;have ic:=(ζg.mp hc).1;have p2:2^i≤2^5:=Nat.pow_le_pow_right #[2] ⋯;have U:=zA (d:=([]:AH)) (l:=ts) (k:=k) ⋯;generalize hq:ts.getD k []=t at U T;refine⟨_,egn #[0] ?_⟩
   have V:∀{Γ:PD.Ctx},GetC Γ 3 (.ow true (ts.map lls))→GetC Γ 4 (.fz true (.int (k:Int)))→EvE K .fresh true (tOp (rIxL K) (tVar 3) (tVar 4)) Γ (lls t):=λg3 g4=>zM (evw g3 #[2]) (evv g4 #[2]) (ym (by rw[ζj,U];rfl));refine exi1 (d:=lls (t++t)) (m:=(k:Int)) (j:=k) #[1] (EvE.eq (EvO.toE (uu (xs:=t.map il) (ys:=t.map il) (EvO.toL (yR (κ:=true) (is:=[0]) (xs:=t) true il il (λ_ _ _ _ h=>h) (zO (V #[1] #[1])) (by walk_at"cc") rfl #[2] ⋯ ?_)) (EvO.toL (yR (κ:=true) (is:=[0]) (xs:=t) true il il (λ_ _ _ _ h=>h) (zO (V #[1] #[1])) (by walk_at"cc") rfl #[2] ⋯ ?_)) (by rw[ζc];omega))) (by rw[←ζF])) ∅ (yL (by rw[ζc];omega)) #[0] ?_
   ·intro q hq;exact egn #[0] (EvO.toE (yD (EvL.imm (κ:=true) (EvE.toL ∅) (yQ q))))
   ·intro q hq;exact egn #[0] (EvO.toE (yD (EvL.imm (κ:=true) (EvE.toL ∅) (yQ q))))
   have W:(ts.set k (t++t)).getD k []=t++t:=by rw[ζf,ζh ⋯];rfl
   have X:∀i,i≠k→(ts.set k (t++t)).getD i []=ts.getD i []:=λi h=>by rw[ζf,ζm (Ne.symm h),←ζf]
   refine⟨ts.set k (t++t),_,by rw[ζA];exact tl,λi L I=>by rw[X i ⋯];exact v i L I,λi=>?_,by rw[W,ζr,Nat.pow_succ];omega,by rw[ξR]⟩
   by_cases e:i=k
   ·rw[e,W,ζr];omega
   ·rw[X i e];exact C i
  ·rintro Γ' ⟨ts,u,tl,v,C,T,rfl⟩;exact⟨ts,_,_,tl,λi L I=>v i ⋯ I,C,rfl⟩
 ·rintro Γ' ⟨ts,M,u,tl,v,C,rfl⟩;refine exfz 2 #[1] #[0] ?_;refine exfz 3 #[1] #[0] ?_;refine zR false (v7 (ds:=[il (List.replicate n 2),nls cs,tbl ts]) (zi (EvE.eq (EvO.toE (ut (n:=n) (λ_=>.int 2) (is:=[0]) ∅ ⋯ (by walk_at"cc") rfl #[2] ?_)) (by rw[ξN,ζG];show _=PyData.list ((List.replicate n (2:Int)).map PyData.int);rw[ξe])) (zi ∅ (zi ∅ zL))) (by show 3≤sizeLine;omega)) ?_ (.inr rfl)
  ·intro k J;exact egn #[0] ∅
  ·have Y:sm1 (nls cs)∧sm2 (tbl ts):=by
    refine⟨by show(cs.map nl).length≤5000;rw[ζc];omega,by show(ts.map lls).length≤5000;rw[ζc];omega,λy hy=>?_⟩
    obtain⟨t,ht,rfl⟩:=ζn.mp (show y∈ts.map lls from hy);obtain⟨i,hi,e⟩:=ξv ht;have:=C i;rw[ζf,ζe hi,e]at this;show(t.map il).length≤5000;rw[ζc];exact ζ7 this ⋯
   rcases o.h with h|⟨L,I,h3⟩
   ·subst h;exact zdR Y
   ·exact wr_6 L I cl h3 o.e Y
theorem UO{Γ:PD.Ctx}{P:Post}{te:TE}{v:TS}{G:AD→Prop}(κ:Bool)(h:EvG K .fresh κ te Γ G)(a:∀d,G d→P.rt d)(b:(Sx.fresh=Sx.fresh∧κ=P.kr)∨P.kr=false):ExT K .fresh .fresh (tSeq (tRet te) v) Γ P:=yZ (λ_=>False) (Wq κ h a b) λ_ z=>z.elim
def wV(ds:AG)(G:AD→Prop):Prop:=yy ds G
theorem Y4(ds:AG)(G:AD→Prop)(h:wV ds G):ds.length=2:=xq ds G h
theorem XM:zJ ["_law_three_here","_law_number","_law_way"] ["_law_three_here","_law_number"] (zr (top 43)):={}
theorem X5(F:Fun K "_law_wrong" "_law_wrong" (top 43) f fd)(B:Bs mg)(Z:Cs K mg cA cB cC τa τb τc τd f_Ring g_Ring)(l:zE P w K mg base CX0 "_law_many_wrong" ["_law_number"] 1 (spW K false wC))(k:zE P w K mg base CX0 "_law_lists_wrong" ["_law_three_here","_law_number"] 2 (spW K false yy))(g:zE P w K mg base CX0 "_law_counts_wrong" ["_law_three_here","_law_number"] 1 (spW K false xg))(a:zE P w K mg base CX0 "_law_numbers_wrong" ["_law_three_here","_law_number"] 1 (spW K false yF))(j:zE P w K mg base CX0 "_law_causes_wrong" ["_law_three_here","_law_number"] 1 (spW K false xh)):FnOk P w K mg base CX0 3 f fd ["_law_three_here","_law_number"] (spW K false wV):=by
 have sc:=XM;refine F.ok sc (λvs H Q E h=>xH Y4 h) (λcdv A outer s H vs Q E r h=>?_);obtain⟨D,ds,G,le,dp,p,q⟩:=h
 refine⟨_,(zg (pS (i:=2) sc.nd (zp zK (pv 1) ze))
   (zg (zY (zv xu (pv 2) ze (zG _)) (zh (zH (pF l r (zb (zp zS (pv 1) ze) zd)))) zC)
   (zg (zY (PW.pt (wA (zv (vA (K:=K) rfl r.units) (pX (zN (K:=K) rfl) (pv 0) ze) (ya zd) (zG _)) (xI (zv uN (pv 2) ze (zG _))))) (zh (pS (i:=2) sc.nd (zp zK (pv 2) ze))) zC)
   (zg (zY (zv vU (pv 2) ze (zG _)) (zh (zH (pF k r (zb (pv 0) (zb (zp zS (pv 1) ze) zd))))) zC)
   (zg (zY (zv vU (pv 2) ze (zG _)) (zh (zH (pF g r (zb (pv 0) (zb (zp zS (pv 1) ze) zd))))) zC)
   (zg (zY (zv vU (pv 2) ze (zG _)) (zh (zH (pF a r (zb (pv 0) (zb (zp zS (pv 1) ze) zd))))) zC)
   (zh (zH (pF j r (zb (pv 0) (zb (zp zS (pv 1) ze) zd))))))))))),?_⟩
 have x:=sc.n 3;obtain⟨ss,cs,ts,m,rfl,ok,rfl⟩:=p;have big:=zU;have I:CDiv m 8:=⟨#[2],#[2]⟩
 obtain⟨o,u,l0⟩:∃o:Nat,m%8=(o:Int)∧o<8:=⟨(m%8).toNat,⋯,⋯⟩
 refine y9 le dp q x (by walk_at"st") ?_;refine exs true (d:=.int o) (EvE.eq ∅ (congrArg PyData.int u)) #[0] ?_;refine wQ (b:=decide ((o:Int)=7)) ∅ (λ_=>?_) (λy=>?_)
 ·exact UO false (yz (ds:=[.int (m/8)]) ∅ ⟨m/8,rfl,rfl⟩) (λ_ h=>h) (.inr rfl)
 refine exn ?_;obtain⟨w,t⟩:∃w:Nat,w=if decide (ss=[])&&decide ((3:Int)<(o:Int))then o%4 else o:=⟨_,rfl⟩
 have C:4≤w→ss≠[]:=λz e=>by
  rw[t]at z;split at z
  ·omega
  ·rename_i c;rw[e]at c;simp at c;omega
 refine exif (b:=decide (ss=[])&&decide ((3:Int)<(o:Int))) (·=[some (.fz false (zX ss cs ts)),some (.fz false (.int m)),some (.fz true (.int w))]) (xt (EvT.eq (zW (v8 (neg:=false) (d:=il ss) (f:=.list []) (EvE.toD (κ:=false) (z0 ∅ ∅ atI0)) (EvE.toD (κ:=false) (EvO.toE (zT (ds:=[]) zL #[2]))) (yI _) (yI []))) (by rw[if_neg #[2]];exact Zx ss [])) λ_=>by walk_at"ev") (λc=>?_) (λc=>?_) ?_
 ·refine exs1 true (d:=.int ((o%4:Nat):Int)) (EvE.eq ∅ (congrArg PyData.int ⋯)) #[0] ?_;rw[t,if_pos c]
 ·refine yw ?_;rw[t,if_neg (by rw[c];decide)]
 rintro _ rfl;clear t u l0 y o;refine wQ (b:=decide ((w:Int)<2)) ∅ (λ_=>UO false (yz (ds:=[zX ss cs ts,.int (m/8)]) ∅ ⟨ss,cs,ts,m/8,rfl,ok,rfl⟩) (λ_ h=>h) (.inr rfl)) (λJ=>?_);refine exn ?_;refine wQ (b:=decide ((w:Int)<4)) ∅ (λ_=>UO false (yz (ds:=[zX ss cs ts,.int (m/8)]) ∅ ⟨ss,cs,ts,m/8,rfl,ok,rfl⟩) (λ_ h=>h) (.inr rfl)) (λv=>?_);refine exn ?_;have v:=of_decide_eq_false v;have s0:=C ⋯;refine wQ (b:=decide ((w:Int)<6)) ∅ (λ_=>UO false (yz (ds:=[zX ss cs ts,.int (m/8)]) ∅ ⟨ss,cs,ts,m/8,rfl,ok,s0,rfl⟩) (λ_ h=>h) (.inr rfl)) (λ_=>?_);refine exn ?_;exact Wq false (yz (ds:=[zX ss cs ts,.int (m/8)]) ∅ ⟨ss,cs,ts,m/8,rfl,ok,s0,rfl⟩) (λ_ h=>h) (.inr rfl)
def xY(ds:AG)(d:AD):Prop:=∃(ss:AE) (cs:AI) (ts:List AH) (f:AE),ds=[zX ss cs ts]∧BkP ss cs ts∧grd cs ss.length (rgI ss.length)=some f∧d=.tuple [zX ss cs ts,.none]
def xW(ds:AG)(rs:AE):Prop:=∃(ss:AE) (cs:AI) (ts:List AH),ds=[zX ss cs ts]∧BkP ss cs ts∧grd cs ss.length (rgI ss.length)=none∧rs=ZI ss.length cs
theorem Ys(ds:AG)(d:AE)(h:xW ds d):ds.length=1:=by obtain⟨a,b,c,rfl,_⟩:=h;rfl
def xX(ds:AG):Prop:=∃x0 x1 x2,ds=[.tuple [x0,x1,x2]]∧BadB x0 x1 x2
theorem Yt(ds:AG)(h:xX ds):ds.length=1:=by obtain⟨a,b,c,rfl,_⟩:=h;rfl
theorem XS:zJ ["_law_three_here","_law_kept","_law_made","_law_e"] ["_law_three_here"] (zr (top 44)):={}
theorem Wa(F:Fun K "_law_asked" "_law_asked" (top 44) f fd)(B:Bs mg)(Z:Cs K mg cA cB cC τa τb τc τd f_Ring g_Ring)(a:zE P w K mg base CX0 "book" ["sizes","causes","tables"] 7 (spD K true WU))(b:zE P w K mg base (CXd P w) "book" ["sizes","causes","tables"] 7 (spRg K Yg cC))(c:zE P w K mg base (CXr P w) "book" ["sizes","causes","tables"] 7 (spX K Yf cB)):FnOk P w K mg base CX0 8 f fd ["_law_three_here"] (spO (spD K true xY) (spO (spAR K xW cC) (spAX K xX (excO cB)))):=by
 have sc:=XS;refine FnOk.or (F.ok sc (λvs H Q E h=>Um (λ_ _⟨_,_,_,_,e,_⟩=>by rw[e];rfl) h) (λcdv A outer s H vs Q E g h=>?_)) (FnOk.or (F.ok sc (λvs H Q E h=>Qv Ys h) (λcdv A outer s H vs Q E g h=>?_)) (F.ok sc (λvs H Q E h=>Qu Yt h) (λcdv A outer s H vs Q E g h=>?_)))
 ·obtain⟨t,ds,d,le,dp,p,q⟩:=h
  refine⟨_,(zg (pS (i:=1) sc.nd xz)
   (zg (pS (i:=2) sc.nd xz)
   (zg (zbq (zh (pS (i:=2) sc.nd (pF a g (zb (pX (zN (K:=K) rfl) (pv 0) ze) (zb (pX (zN (K:=K) rfl) (pv 0) ze) (zb (pX (zN (K:=K) rfl) (pv 0) ze) zd)))))) (λ_ _ z=>z))
   (zh (zH (xy (zb (pv 2) (zb (pv 1) zd)))))))),?_⟩
  have m:=sc.n 4;obtain⟨ss,cs,ts,f,rfl,ok,o,rfl⟩:=p;walk_at"run";refine exs true (d:=.none) ∅ #[0] ?_;refine exs true (d:=.none) ∅ #[0] ?_;refine exs true (d:=zX ss cs ts) (zD (ds:=[il ss,nls cs,tbl ts]) (zi (z0 ∅ ∅ atI0) (zi (z0 ∅ ∅ atI1) (zi (z0 ∅ ∅ atI2) zL))) ⟨ss,cs,ts,f,rfl,ok,o,rfl⟩) #[0] ?_;exact zR true ∅ rfl (.inl ⟨rfl,rfl⟩)
 ·obtain⟨t,ds,u,le,dp,p,q⟩:=h
  refine⟨_,(zg (pS (i:=1) sc.nd xz)
   (zg (pS (i:=2) sc.nd xz)
   (zg (zbr (i:=3) (QM b (g.mono #[2]) rfl (zb (pX (zN (K:=K) rfl) (pv 0) ze) (zb (pX (zN (K:=K) rfl) (pv 0) ze) (zb (pX (zN (K:=K) rfl) (pv 0) ze) zd))) (λ_ _ z=>z)) (pN (i:=2) sc.nd) rfl rfl rfl (λ_ _ z=>z) Z.n_BookError rfl Z.m_Ring_BookError Z.b_BookError Z.t_BookError sc.nd rfl rfl (λ_ _ _ _=>(zh (pS (i:=1) sc.nd (pv 3)))))
   (zh (zH (xy (zb (pv 2) (zb (pv 1) zd)))))))),?_⟩
  have m:=sc.n 4;obtain⟨ss,cs,ts,rfl,ok,o,rfl⟩:=p;refine zdZ le dp q m (by walk_at"st") ?_;refine Wp (·=[some (.fz false (zX ss cs ts)),some (.fz true .none),none,none]) (exs1 true ∅ #[0] rfl) ?_;rintro _ rfl;refine Wp (·=[some (.fz false (zX ss cs ts)),some (.fz true .none),some (.fz true .none),none]) (exs1 true ∅ #[0] rfl) ?_;rintro _ rfl;refine Wp (·=[some (.fz false (zX ss cs ts)),some (.xp (rgP K cC (ZI ss.length cs))),some (.fz true .none),none]) (zb2 (ds:=[il ss,nls cs,tbl ts]) (zi (z0 ∅ ∅ atI0) (zi (z0 ∅ ∅ atI1) (zi (z0 ∅ ∅ atI2) zL))) ⟨ss,cs,ts,rfl,ok,o,rfl⟩ #[0] (zei #[1] #[0] rfl)) ?_;rintro _ rfl;exact zbY #[1] #[1]
 ·obtain⟨t,ds,le,dp,p,q⟩:=h
  refine⟨_,(zg (pS (i:=1) sc.nd xz)
   (zg (pS (i:=2) sc.nd xz)
   (zg (zbs (i:=3) (QN a c (g.mono #[2]) (g.mono #[2]) rfl (zb (pX (zN (K:=K) rfl) (pv 0) ze) (zb (pX (zN (K:=K) rfl) (pv 0) ze) (zb (pX (zN (K:=K) rfl) (pv 0) ze) zd))) (λ_ _ z=>z)) (pN (i:=2) sc.nd) rfl rfl rfl (λ_ _ z=>z) Z.n_BookError rfl Z.m_NoBook_BookError Z.b_BookError Z.t_BookError sc.nd rfl rfl (λ_=>(zh (pS (i:=1) sc.nd (pv 3)))))
   (zh (zH (xy (zb (pv 2) (zb (pv 1) zd)))))))),?_⟩
  have m:=sc.n 4;obtain⟨j,k,l,rfl,r⟩:=p;refine zdY le dp q m (by walk_at"st") ?_;refine Wo (·=[some (.fz false (.tuple [j,k,l])),some (.fz true .none),none,none]) (exs1 true ∅ #[0] rfl) ?_;rintro _ rfl;refine Wo (·=[some (.fz false (.tuple [j,k,l])),some (.fz true .none),some (.fz true .none),none]) (exs1 true ∅ #[0] rfl) ?_;rintro _ rfl;refine Wo (·=[some (.fz false (.tuple [j,k,l])),some (.xn (excO cB)),some (.fz true .none),none]) (zau (λE=>TH (ds:=[j,k,l]) (zi (z0 ∅ ∅ atI0) (zi (z0 ∅ ∅ atI1) (zi (z0 ∅ ∅ atI2) zL))) ⟨j,k,l,rfl,r⟩) #[0] (zaz #[1] #[0] rfl)) ?_;rintro _ rfl;exact zbX #[1] #[1]
def tbN(t:AD):AD:=.list ((itL t).filter isL)
def tZ(x0 x1 x2:AD):AD:=if isL x0&&(isL x1&&isL x2)then .tuple [.list (itL x0),.list ((itL x1).filter isL),.list (((itL x2).filter isL).map tbN)]else .tuple [.tuple [.bool (isL x0),.bool (isL x1),.bool (isL x2)],.none]
def tQ(ds:AG)(d:AD):Prop:=∃x0 x1 x2,ds=[.tuple [x0,x1,x2]]∧sm1 x1∧sm2 x2∧d=tZ x0 x1 x2
theorem Ww{κ:Bool}{Γ:PD.Ctx}{t:TE}{x:AD}(h:EvE K .fresh false t Γ x):EvE K .fresh κ (tCB (Uw K) (zF t (zF (tC (.ty "list")) tNil))) Γ (.bool (isL x)):=by
 cases x with
 | list xs=>exact yG (EvE.toD (κ:=false) h) (by with_unfolding_all rfl)
 | _=>exact yG (EvE.toD (κ:=false) h) (by with_unfolding_all rfl)
theorem WJ:zJ ["_law_three_here","_law_sorts","_law_rows","_law_tables"] ["_law_three_here"] (zr (top 45)):={}
theorem WZ(F:Fun K "_law_none" "_law_none" (top 45) f fd)(B:Bs mg)(Z:Cs K mg cA cB cC τa τb τc τd f_Ring g_Ring): FnOk P w K mg base CX0 1 f fd ["_law_three_here"] (spD K false tQ):=by
 have sc:=WJ;refine okD F sc (λ_ _⟨_,_,_,e,_⟩=>by rw[e];rfl) λcdv A outer s H vs Q E m J ds d le dp p q=>?_
 refine⟨_,(zg (yp (i:=1) rfl sc.nd rfl rfl (N:=["_law_one"]) (js:=[none]) (by walk_at"comp_ok") (zbz (K:=K) rfl (pv 0)) (λ_ _ _ _=>(pN (i:=0) (show υN ["_law_one"]by decide +kernel))) (λ_ _ _ _=>zP) (λ_ _ _ _=>(pB (yi (K:=K) rfl) B.isinstance (zb (pv 0) (zb (yO (v:=.ty "list") rfl B.list (by decide +kernel) rfl) zd)))))
   (zg (zY (yx (ye (pB (xE (K:=K) rfl rfl) B.all (zb (pv 1) zd)))) (zh (zH (xy (zb (pY (ub (K:=K) rfl) B.tuple (zb (pv 1) zd)) (zb xz zd))))) zC)
   (zg (yp (i:=2) rfl sc.nd rfl rfl (N:=["_law_row"]) (js:=[none]) (by walk_at"comp_ok") (zB (K:=K) rfl (pX (zN (K:=K) rfl) (pv 0) ze)) (λ_ _ _ _=>(pN (i:=0) (show υN ["_law_row"]by decide +kernel))) (λ_ _ _ _=>(vy (ye (pB (yi (K:=K) rfl) B.isinstance (zb (pv 0) (zb (yO (v:=.ty "list") rfl B.list (by decide +kernel) rfl) zd)))))) (λ_ _ _ _=>(pY (zw (K:=K) rfl) B.list (zb (pv 0) zd))))
   (zg (yp (i:=3) rfl sc.nd rfl rfl (N:=["_law_rows"]) (js:=[none]) (by walk_at"comp_ok") (zB (K:=K) rfl (pX (zN (K:=K) rfl) (pv 0) ze)) (λ_ _ _ _=>(pN (i:=0) (show υN ["_law_rows"]by decide +kernel))) (λ_ _ _ _=>(vy (ye (pB (yi (K:=K) rfl) B.isinstance (zb (pv 0) (zb (yO (v:=.ty "list") rfl B.list (by decide +kernel) rfl) zd)))))) (λ_ _ _ _=>(zZ rfl (N:=["_law_row"]) (js:=[none]) (by walk_at"comp_ok") (zB (K:=K) rfl (pv 0)) (λ_ _ _ _=>(pN (i:=0) (show υN ["_law_row"]by decide +kernel))) (λ_ _ _ _=>(vy (ye (pB (yi (K:=K) rfl) B.isinstance (zb (pv 0) (zb (yO (v:=.ty "list") rfl B.list (by decide +kernel) rfl) zd)))))) (λ_ _ _ _=>(pY (zw (K:=K) rfl) B.list (zb (pv 0) zd))))))
   (zh (zH (xy (zb (pY (zw (K:=K) rfl) B.list (zb (pX (zN (K:=K) rfl) (pv 0) ze) zd)) (zb (pv 2) (zb (pv 3) zd)))))))))),?_⟩
 have L:=sc.n 4;obtain⟨j,a,g,rfl,s1,s2,rfl⟩:=p;have big:=zU;have M:(itL a).length≤5000:=s1;have O:=s2.1;walk_at"run";refine exs true (d:=.list ([isL j,isL a,isL g].map .bool)) (EvO.toE (EvO.eq (zaH (κ:=true) (κ':=false) (xs:=[j,a,g]) (is:=[0]) (λx=>.bool (isL x)) (zdK ∅) (by walk_at"cc") rfl #[2] (by show 3≤sizeLine;omega) ?_) rfl)) #[0] ?_
 ·intro x _;exact egn #[0] (Ww ∅)
 cases k:isL j&&(isL a&&isL g)with
 | false =>
  refine wQ (b:=!([isL j,isL a,isL g].all λb=>b)) (yk (et_B (Wx (bs:=[isL j,isL a,isL g]) (EvE.toL (κ:=false) ∅)))) (λ_=>?_) (λc=>?_)
  ·refine exrs false (d:=.tuple [.tuple [.bool (isL j),.bool (isL a),.bool (isL g)],.none]) (v7 (ds:=[_,_]) (zi (UR (ds:=[isL j,isL a,isL g].map .bool) (EvE.toL ∅)) (zi ∅ zL)) (by show 2≤sizeLine;omega)) ?_ (.inr rfl);show _=tZ j a g;unfold tZ;rw[k];rfl
  ·rw[show([isL j,isL a,isL g].all λb=>b)=(isL j&&(isL a&&(isL g&&true)))from rfl,Bool.and_true,k]at c;cases c
 | true =>
  obtain⟨o,l⟩:=(ζ3 _ _).mp k;obtain⟨u,z⟩:=(ζ3 _ _).mp l;have C:=wX o;have D:=wX u;have G:=wX z;refine xo (b:=!([isL j,isL a,isL g].all λb=>b)) (yk (et_B (Wx (bs:=[isL j,isL a,isL g]) (EvE.toL (κ:=false) ∅)))) (by rw[o,u,z];rfl) ?_;refine exs false (d:=.list ((itL a).filter isL)) (EvE.eq (EvO.toE (xV (κ:=false) (is:=[0]) (xs:=itL a) false (λx=>x) (λx=>x) isL (λx _ y _ h=>⟨h,congrArg isL h⟩) (by rw[ξF];exact zO (EvE.eq (κ:=false) (z0 ∅ ∅ atI1) D)) (by walk_at"cc") rfl #[2] ⋯ ?_)) (by rw[ξF])) #[0] ?_
  ·intro r m;refine egn #[0] ⟨et_B (Ww ∅),λc=>?_⟩;exact EvE.eq (EvO.toE (yD (EvE.toL (EvE.eq (κ:=false) ∅ (wX c))))) (wX c).symm
  refine exs false (d:=.list (((itL g).filter isL).map tbN)) (EvO.toE (xV (κ:=false) (is:=[0]) (xs:=itL g) false (λx=>x) tbN isL (λx _ y _ h=>⟨congrArg tbN h,congrArg isL h⟩) (by rw[ξF];exact zO (EvE.eq (κ:=false) (z0 ∅ ∅ atI2) G)) (by walk_at"cc") rfl #[2] ⋯ ?_)) #[0] ?_
  ·intro t I;have tl:(itL t).length≤5000:=s2.2 t I;refine egn #[0] ⟨et_B (Ww ∅),λc=>?_⟩;refine EvE.eq (EvO.toE (xV (κ:=false) (is:=[0]) (xs:=itL t) false (λx=>x) (λx=>x) isL (λx _ y _ h=>⟨h,congrArg isL h⟩) (by rw[ξF];exact zO (EvE.eq (κ:=false) ∅ (wX c))) (by walk_at"cc") rfl #[2] ⋯ ?_)) (by rw[ξF];rfl);intro r m;refine egn #[0] ⟨et_B (Ww ∅),λc=>?_⟩;exact EvE.eq (EvO.toE (yD (EvE.toL (EvE.eq (κ:=false) ∅ (wX c))))) (wX c).symm
  refine zR false (v7 (ds:=[.list (itL j),.list ((itL a).filter isL),.list (((itL g).filter isL).map tbN)]) (zi (EvO.toE (yD (EvE.toL (EvE.eq (κ:=false) (z0 ∅ ∅ atI0) C)))) (zi ∅ (zi ∅ zL))) (by show 3≤sizeLine;omega)) ?_ (.inr rfl);show _=tZ j a g;unfold tZ;rw[k];rfl
theorem UI{ds:AG}(h:∀d∈ds,PyData.canLay0 d=true):PyData.canLayAll0 ds=true:=by
 induction ds with
 | nil=>rfl
 | cons d r a =>
  show(PyData.canLay0 d&&PyData.canLayAll0 r)=true;rw[h d ζi,a λx b=>h x (ζb _ b)];rfl
theorem UY{n:Nat}{ds:AG}(h:∀d∈ds,PyData.depth d≤n):PyData.depthAll ds≤n:=by
 induction ds with
 | nil=>exact ξa _
 | cons d r a =>
  show max (PyData.depth d) (PyData.depthAll r)≤n;have:=h d ζi;have:=a λx b=>h x (ζb _ b);omega
theorem okL{n:Nat}{ds:AG}(h:∀d∈ds,PyData.canLay0 d=true∧PyData.depth d≤n):PyData.canLay0 (.list ds)=true∧PyData.depth (.list ds)≤n+1:=⟨UI λd hd=>(h d hd).1,by
 show PyData.depthAll ds+1≤n+1;have:=UY λd hd=>(h d hd).2;omega⟩
theorem okT{n:Nat}{ds:AG}(h:∀d∈ds,PyData.canLay0 d=true∧PyData.depth d≤n):PyData.canLay0 (.tuple ds)=true∧PyData.depth (.tuple ds)≤n+1:=⟨UI λd hd=>(h d hd).1,by
 show PyData.depthAll ds+1≤n+1;have:=UY λd hd=>(h d hd).2;omega⟩
theorem W6{b c a:AD}(h:NnO b c a):SeqAt.shaped (tZ b c a)=true:=by
 obtain⟨f,g,i⟩:=h;have rows:∀{xs:AG},(∀r∈xs,∀z∈itL r,okA z)→∀d∈xs.filter isL,PyData.canLay0 d=true∧PyData.depth d≤6:=λ{xs} h d hd=>by
  obtain⟨m,e⟩:=ζQ.mp hd;rw[wX e];exact okL λz j=>h d m z j
 unfold tZ;split
 ·have z:PyData.canLay0 (.tuple [.list (itL b),.list ((itL c).filter isL),.list (((itL a).filter isL).map tbN)])=true∧_:=okT (n:=9) λd hd=>by
   rcases ζq.mp hd with rfl|hd
   ·have:=okL (n:=5) f;exact⟨this.1,⋯⟩
   rcases ζq.mp hd with rfl|hd
   ·have:=okL (n:=6) (rows g);exact⟨this.1,⋯⟩
   ·rw[ζs.mp hd];have:=okL (n:=7) (ds:=((itL a).filter isL).map tbN) λd hd=>by
     obtain⟨t,k,rfl⟩:=ζn.mp hd;exact okL (rows (i t (ζQ.mp k).1))
    exact⟨this.1,⋯⟩
  exact w6 z.1 ⋯
 ·exact w6 rfl (by show max (max 0 (max 0 (max 0 0))+1) (max 0 0)+1≤50;decide)
def vI(ds:AG)(d:AD):Prop:=∃x,ds=[x]∧WrO x∧d=.bool true
theorem Z9:zJ ["_law_three_here","_law_before","_law_made","_law_kept"] ["_law_three_here"] (zr (top 46)):={}
theorem Yn(F:Fun K "_law_refused" "_law_refused" (top 46) f fd)(B:Bs mg)(Z:Cs K mg cA cB cC τa τb τc τd f_Ring g_Ring)(a:zE P w K mg base CX0 "_law_none" ["_law_three_here"] 1 (spD K false tQ))(c:zE P w K mg base CX0 "_law_asked" ["_law_three_here"] 8 (spO (spD K true xY) (spO (spAR K xW cC) (spAX K xX (excO cB))))):FnOk P w K mg base CX0 9 f fd ["_law_three_here"] (spD K true vI):=by
 have sc:=Z9;refine okD F sc (λ_ _⟨_,e,_⟩=>by rw[e];rfl) λcdv A outer s H vs Q E k m ds d le dp p q=>?_
 refine⟨_,(zg (pS (i:=1) sc.nd (pF a k (zb (pv 0) zd)))
   (zg (xf (pF c k (zb (pv 0) zd)) (X1 (K:=K) (n:=2) rfl rfl (wH (pN (i:=2) sc.nd) (wH (pN (i:=3) sc.nd) X0))))
   (zg (zY (PW.pt (ve (zv UA (pv 2) xz (zG _)) (ve (yx (ye (pB (tu (K:=K) rfl) B.isinstance (zb (pv 3) (zb (wP (v:=.ref cB) rfl Z.n_NoBook rfl) zd))))) (uW (yx (ye (pB (tu (K:=K) rfl) B.isinstance (zb (pv 3) (zb (yO (v:=.ty "ValueError") rfl B.ValueError (by decide +kernel) rfl) zd))))))))) (zh (zH xN)) zC)
   (zh (zH (wI (QR (pB (tu (K:=K) rfl) B.isinstance (zb (pv 3) (zb (wP (v:=.ref cC) rfl Z.n_Ring rfl) zd)))) (wW (x6 (UB (K:=K) rfl k.units) (pF a k (zb (pv 0) zd)) (pv 1) (zG _))))))))),?_⟩
 have o:=sc.n 4;obtain⟨x,rfl,⟨g,h,j,rfl,⟨s1,s2⟩,l,nn⟩,rfl⟩:=p;walk_at"run";refine exs false (d:=tZ g h j) (YE (ds:=[.tuple [g,h,j]]) ∅ ⟨g,h,j,rfl,s1,s2,rfl⟩) #[0] ?_;refine zdD (ds:=[.tuple [g,h,j]]) ∅ ⟨g,h,j,rfl,l⟩ #[0] #[0] ?_;refine xo (b:=(!isNone .none)||(!true||!true)) (xO (zW (Wu (EvE.toD (κ:=false) ∅))) λ_=>xO (yk (et_B (VZ #[1] Z.i_NoBook rfl Z.k_NoBook_NoBook))) λ_=>yk (et_B (VZ #[1] Z.i_NoBook rfl Z.k_NoBook_ValueError))) rfl ?_;exact zR (d:=.bool (!false&&true)) true (yV (Wv (VZ #[1] Z.i_NoBook rfl Z.k_NoBook_Ring)) λ_=>UV (d:=tZ g h j) (EvE.toD (κ:=false) (YE (ds:=[.tuple [g,h,j]]) ∅ ⟨g,h,j,rfl,s1,s2,rfl⟩)) (EvE.toD (κ:=false) ∅) (W6 nn)) rfl (.inl ⟨rfl,rfl⟩)
theorem ZD.back{n:Nat}{cs:AI}{S r:AE}(h:ZD cs S r){i:Nat}(hi:i<r.length):∃x,atI (r.map PyData.int) ((i:Int)-1)=some (.int x)∧x∈zl (cs.getD (r.getD i 0).toNat []):=by
 cases i with
 | zero =>
  have b:=Wg h.ne;refine⟨lstD r,?_,?_⟩
  ·obtain⟨a,c⟩:=List.getLast?_eq_some_iff.mp b
   conv=>lhs;rw[c,ζF]
   exact Vs _ _
  ·refine h.cl _ _ b ?_;cases r with
   | nil=>exact absurd rfl h.ne
   | cons a r=>rfl
 | succ i =>
  refine⟨r.getD i 0,?_,Ch.at h.ch hi⟩
  have z:=wR (ns:=r) (k:=i) ⋯;rw[show((i+1:Nat):Int)-1=(i:Int)by omega];exact z
def wO(d0:AD)(ns:AE)(d:AD):Prop:=∃(n:Nat) (cs:AI) (S:AE),d0=nls cs∧StS n cs S∧ZD cs S ns∧d=.bool true
theorem Zk:zJ ["_law_causes","_law_made","_law_kept","_law_ring","_law_k"] ["_law_causes","_law_made","_law_kept"] (zr (top 47)):={}
theorem Zo(F:Fun K "_law_ring_good" "_law_ring_good" (top 47) f fd)(B:Bs mg)(Z:Cs K mg cA cB cC τa τb τc τd f_Ring g_Ring):FnOk P w K mg base CX0 1 f fd ["_law_causes","_law_made","_law_kept"] (spK3 K wO cC):=by
 have sc:=Zk;refine F.ok sc (λvs H Q E h=>Qt h) (λcdv A outer s H vs Q E m h=>?_);obtain⟨R,T,U,u,ns,d,rfl,le,dp,o,p,q⟩:=h
 refine⟨_,(zg (zY (PW.pt (ve (zv UA (pv 1) xz (zG _)) (ve (yx (ye (pB YI B.isinstance (zb (pv 2) (zb (wP (v:=.ref cC) rfl Z.n_Ring rfl) zd))))) (uW (ye (pB YI B.isinstance (zb (pv 2) (zb (wP (v:=.ref cB) rfl Z.n_NoBook rfl) zd)))))))) (zh (zH xN)) zC)
   (zg (pS (i:=3) sc.nd (zdg (pv 2)))
   (zg (zY (PW.pt (ve (yx (ye (pB (yi (K:=K) rfl) B.isinstance (zb (pv 3) (zb (yO (v:=.ty "list") rfl B.list (by decide +kernel) rfl) zd))))) (ve (zv (vA (K:=K) rfl m.units) (pv 3) (ya zd) (zG _)) (uW (zv zd7 (pB TU B.len (zb (pY (V7 (K:=K) rfl rfl) B.set (zb (pv 3) zd)) zd)) (pB (zn (K:=K) rfl) B.len (zb (pv 3) zd)) (zG _)))))) (zh (zH xN)) zC)
   (zg (xR AC rfl (zB (K:=K) rfl (pv 3)) (pN (i:=4) sc.nd) (zh (zY (PW.pt (ve (yx (ye (pB (yi (K:=K) rfl) B.isinstance (zb (pv 4) (zb (yO (v:=.ty "int") rfl B.int (by decide +kernel) rfl) zd))))) (ve (ye (pB (yi (K:=K) rfl) B.isinstance (zb (pv 4) (zb (yO (v:=.ty "bool") rfl B.bool (by decide +kernel) rfl) zd)))) (ve (zv vU (pv 4) (pX (zj (K:=K) rfl) (pv 3) ze) (zG _)) (ve (zv zcI (pv 4) (pB (zn (K:=K) rfl) B.len (zb (pv 0) zd)) (zG _)) (uW (zv vU (pv 4) ze (zG _)))))))) (zh (zH xN)) zC)))
   (zh (zH (pB (xE (K:=K) rfl rfl) B.all (zb (zZ rfl (N:=["_law_at","_law_ring","_law_causes"]) (js:=[none,some 3,some 0]) (by walk_at"comp_ok") (yn rfl B.range (zb (pB (zn (K:=K) rfl) B.len (zb (pv 3) zd)) zd)) (λ_ _ _ _=>(pN (i:=0) (show υN ["_law_at","_law_ring","_law_causes"]by decide +kernel))) (λ_ _ _ _=>zP) (λ_ _ _ _=>(x6 (vz (K:=K) rfl) (pX (zj (K:=K) rfl) (pv 1) (zp Yj (pv 0) ze)) (pX (zj (K:=K) rfl) (pv 2) (pX (zj (K:=K) rfl) (pv 1) (pv 0))) (rfl)))) zd)))))))),?_⟩
 have t:=sc.n 5;obtain⟨n,cs,S,rfl,ss,rk,rfl⟩:=p;have big:=zU;have ok:=ss.ok;have n12:=ss.n12;have cl:=ok.l;have sl:=ss.l;have y:=Zq rk.nd rk.sb;have l0:=ζK.mpr rk.ne;refine zc3 le dp o q t #[2] (by walk_at"st") #[0] ?_;refine xo (b:=(!isNone .none)||(!true||false)) (xO (zW (Wu (EvE.toD (κ:=false) ∅))) λ_=>xO (yk (et_B (UU #[1] Z.r_Ring.e rfl Z.k_Ring_Ring))) λ_=>et_B (UU #[1] Z.r_Ring.e rfl Z.k_Ring_NoBook)) rfl ?_;refine exs false (d:=il ns) (zaN #[1] Z.r_Ring.e Z.r_Ring.s) #[0] ?_;refine xo (b:=!true||(PyData.eqv (il ns) (il [])||!decide (((dd ns).length:Int)=((ns.map PyData.int).length:Nat)))) (xO (yk (et_B (yG (d:=il ns) (EvE.toD (κ:=false) ∅) (by with_unfolding_all rfl)))) λ_=>xO (zW (v8 (neg:=false) (EvE.toD (κ:=false) ∅) (EvE.toD (κ:=false) (EvO.toE (zT (ds:=[]) zL #[2]))) (yI _) (yI []))) λ_=>zW (zaO (TL (ns:=ns) (EvE.toL (κ:=false) ∅) ⋯) (yj (ds:=ns.map .int) (EvE.toL (κ:=false) ∅)))) ?_ ?_
 ·rw[zcT rk.nd,ζc,decide_eq_true rfl];cases ns with
  | nil=>exact absurd rfl rk.ne
  | cons a l=>rfl
 have C:atI (ns.map PyData.int) 0=some (.int (ns.getD 0 0)):=wR (ns:=ns) (k:=0) l0;have D:ns.getD 0 0=mnL ns:=by
  have z:=rk.hd;cases ns with
  | nil=>exact absurd rfl rk.ne
  | cons a l=>exact ζD z
 refine uP (ds:=ns.map .int) false (λ_ Γ=>∃g,Γ=[some (.fz false (nls cs)),some (.fz false .none),some (.xp (rgP K cC ns)),some (.fz false (il ns)),g]) (zO ∅) ⟨none,rfl⟩ ?_ ?_
 ·rintro i d Γ' hd ⟨g,rfl⟩;obtain⟨k,G,rfl⟩:=uj hd;have j:=ζk G;have kr:=ss.r _ (rk.sb _ j);have I:=VO j;refine⟨_,egn #[0] ?_⟩
  refine yW (b:=!true||(false||(decide (k<ns.getD 0 0)||(decide (((cs.map nl).length:Int)≤k)||decide (k<0))))) (xO (yk (et_B (yG (EvE.toD (κ:=false) ∅) (by with_unfolding_all rfl)))) λ_=>xO (et_B (yG (EvE.toD (κ:=false) ∅) (by with_unfolding_all rfl))) λ_=>xO (zW (UT ∅ (zM (EvE.toL (κ:=false) ∅) ∅ C))) λ_=>xO (zW (zaP ∅ (yj (ds:=cs.map nl) (EvE.toL (κ:=false) ∅)))) λ_=>by walk_at"ev") (λc=>?_) (λ_=>yw ⟨_,rfl⟩);rw[decide_eq_false (p:=k<ns.getD 0 0) (by rw[D];omega),decide_eq_false (p:=((cs.map nl).length:Int)≤k) (by rw[ζc,cl];omega),decide_eq_false (p:=k<0) ⋯]at c;cases c
 rintro Γ' ⟨g,rfl⟩;refine zR false (EvE.eq (Wx (bs:=(List.range ns.length).map λ_=>true) (EvO.toL (EvO.eq (yR (κ:=false) (is:=[0]) (xs:=List.range ns.length) true (λi:Nat=>.int (i:Int)) (λ_=>.bool true) (λ_ _ _ _ _=>rfl) (xP (n:=(ns.length:Int)) (zi (EvE.eq (yj (ds:=ns.map .int) (EvE.toL (κ:=false) ∅)) (by rw[List.length_map])) zL) ⋯ ⋯) (by walk_at"cc") rfl #[2] (by rw[List.length_range];omega) ?_) (by rw[List.map_map];rfl)))) (by simp)) rfl (.inl ⟨rfl,rfl⟩);intro i hi;have hi:=ζ1.mp hi;obtain⟨x,J,L⟩:=rk.back (n:=n) hi;have M:atI (ns.map PyData.int) (i:Int)=some (.int (ns.getD i 0)):=wR hi;have O:=ss.r _ (rk.sb _ (wy hi));refine egn #[0] (EvE.eq (Zv (neg:=false) (i:=x) (ns:=zl (cs.getD (ns.getD i 0).toNat [])) (zM (EvE.toL (κ:=false) ∅) ∅ J) (EvE.toL (κ:=false) (zM (EvE.toL (κ:=false) ∅) (zM (EvE.toL (κ:=false) ∅) ∅ M) (ok.ix O)))) ?_);rw[if_neg #[2],decide_eq_true L]
theorem Z7{cs:AI}{S:AE}(ne:S≠[])(h:∀k∈S,∃c,c∈zl (cs.getD k.toNat [])∧c∈S):∀(m:Nat) {L:AE},L.length=m→(∀k∈S,k∈L)→grd cs m L=none
 | 0,L,hl,sb=>by
  obtain⟨x,a⟩:=List.exists_mem_of_ne_nil S ne;have:=ξ5 (sb x a);omega
 | m+1,L,hl,sb=>by
  cases e:L.filter (rdP cs L)with
  | nil=>exact UM e
  | cons x r =>
   have a:x∈L.filter (rdP cs L):=by rw[e];exact ζi ..
   obtain⟨d,b⟩:=ζQ.mp a;have xs:x∉S:=λxs=>by
    obtain⟨c,g,i⟩:=h x xs;have:((zl (cs.getD x.toNat [])).any λc=>decide (c∈L))=true:=ξh.mpr ⟨c,g,decide_eq_true (sb c i)⟩;unfold rdP at b;rw[this]at b;cases b
   have j:=Yb d;rw[t8 e,Z7 ne h m (L:=rm x L) ⋯ λk f=>?_]
   ·rfl
   ·rcases ζq.mp ((Ur d).mem_iff.mp (sb k f))with rfl|h
    ·exact absurd f xs
    ·exact h
theorem zbU{n:Nat}{cs:AI}(h:ShO n cs):∃f,grd cs n (rgI n)=some f:=by
 cases q:grd cs n (rgI n)with
 | some f=>exact⟨f,rfl⟩
 | none =>
  exfalso;have st:=ui n wj q;obtain⟨B,ord,a,r⟩:=h;have C:=a.l;have b:∀m,m<n→((ord.getD m 0:Nat):Int)∉stF cs n (rgI n):=λm=>by
   induction m using Nat.strongRecOn with
   | _ m s =>
    intro t u;obtain⟨c,o,v⟩:=st.h _ u;rw[ζH]at o;obtain⟨y,d,rfl⟩:=ζn.mp (show c∈List.map _ _ from o);obtain⟨j,g,e⟩:=ξv (r m t y d);rw[ζL]at g;rw[List.getElem_take]at e;have w:j<ord.length:=by omega
    have i:ord.getD j 0=y:=by
     rw[ζf,ζe w,e];rfl
    exact s j ⋯ ⋯ (by rw[i];exact v)
  obtain⟨x,p⟩:=List.exists_mem_of_ne_nil _ st.ne;have D:=ue.mp (st.sb.subset p);obtain⟨k,rfl⟩:∃k:Nat,x=(k:Int):=⟨x.toNat,⋯⟩
  have A:k∈ord:=Classical.byContradiction λz=>by
   have:=nd_n (n:=n) (ξn.mpr ⟨z,a.nd⟩) (λy d=>by
    rcases ζq.mp d with h|h
    ·omega
    ·exact a.e y h)
   rw[ζZ]at this;omega
  obtain⟨j,g,e⟩:=ξv A;have i:ord.getD j 0=k:=by
   rw[ζf,ζe g,e];rfl
  exact b j ⋯ (by rw[i];exact p)
theorem zbT{n:Nat}{cs:AI}(h:Rnd n cs):grd cs n (rgI n)=none:=by
 obtain⟨U,ne,d,e⟩:=h;refine Z7 (S:=zl U) (λz=>ne (List.map_eq_nil_iff.mp z)) (λk a=>?_) n wj (λk a=>?_)
 ·obtain⟨y,b,rfl⟩:=ζn.mp (show k∈List.map _ _ from a);obtain⟨c,f,g⟩:=e y b;rw[ζH];exact⟨(c:Int),ζn.mpr ⟨c,f,rfl⟩,ζn.mpr ⟨c,g,rfl⟩⟩
 ·obtain⟨y,b,rfl⟩:=ζn.mp (show k∈List.map _ _ from a);have:=d y b;exact ue.mpr ⟨⋯,⋯⟩
theorem UC(l:AE):PyData.canLay0 (il l)=true∧PyData.depth (il l)≤1:=okL (n:=0) λd hd=>by
 obtain⟨x,_,rfl⟩:=ζn.mp hd;exact⟨rfl,ζp _⟩
theorem Q0(cs:AI):PyData.canLay0 (nls cs)=true∧PyData.depth (nls cs)≤2:=okL (n:=1) λd hd=>by
 obtain⟨r,_,rfl⟩:=ζn.mp hd;refine okL (n:=0) λd hd=>?_;obtain⟨x,_,rfl⟩:=ζn.mp hd;exact⟨rfl,ζp _⟩
theorem zdp(ts:List AH):PyData.canLay0 (tbl ts)=true∧PyData.depth (tbl ts)≤3:=okL (n:=2) λd hd=>by
 obtain⟨t,_,rfl⟩:=ζn.mp hd;refine okL (n:=1) λd hd=>?_;obtain⟨r,_,rfl⟩:=ζn.mp hd;exact UC r
theorem Xe(ss:AE)(cs:AI)(ts:List AH):SeqAt.shaped (.tuple [zX ss cs ts,.none])=true:=by
 have h:PyData.canLay0 (zX ss cs ts)=true∧PyData.depth (zX ss cs ts)≤4:=okT (n:=3) λd hd=>by
  have a:=UC ss;have b:=Q0 cs;have c:=zdp ts;rcases ζq.mp hd with rfl|hd
  ·exact⟨a.1,⋯⟩
  rcases ζq.mp hd with rfl|hd
  ·exact⟨b.1,⋯⟩
  rcases ζq.mp hd with rfl|hd
  ·exact⟨c.1,⋯⟩
  cases hd
 have z:PyData.canLay0 (.tuple [zX ss cs ts,.none])=true∧_:=okT (n:=4) λd hd=>by
  rcases ζq.mp hd with rfl|hd
  ·exact h
  rcases ζq.mp hd with rfl|hd
  ·exact⟨rfl,ξa _⟩
  cases hd
 exact w6 z.1 (ζ7 z.2 #[2])
theorem UW(cs:AI):PyData.eqv (nls cs) (nls cs)=true:=SeqAt.eqv_refl _ (Q0 cs).1
theorem Zw{pre:AG→AD→Prop}{E:XK}{κ:Bool}{Γ:PD.Ctx}{t:TE}{G:AD→Prop}{d:AD}(h:EvG K .fresh false t Γ G)(hp:∀x,G x→pre [x] d):EvE K .fresh κ (y8 (spD K true pre) [] E (zF t tNil)) Γ d:=λH0 F0 H F σ e Q q =>
 h H0 F0 H F σ e _ λx v b f g g1 i=>⟨f,[x],d,g1.le,.cons (xC i) .nil,hp x g,λv j k g2 l=>q v j k (g1.trans g2) (tL (κ:=true) (λ_=>rfl) (wU (κ:=true) (κ':=true) (S':=.fresh) (H0':=H0) (λa xs z=>⟨z.1,λc=>by
  obtain⟨u,m⟩:=(e.mono g1).sd a c;exact z.2 (by show b a≠none;rw[m];simp)⟩) (λ_ _ z=>z) l))⟩
theorem VX{pre:AG→(AD→Prop)→Prop}{E:XK}{Γ:PD.Ctx}{h tb i j:TE}{a b c:AD}{k G:AD→Prop}(l:EvE K .fresh false h Γ a)(m:EvE K .fresh false tb Γ b)(n:EvE K .fresh false i Γ c)(hd:EvG K .fresh false j Γ k)(hp:∀d,k d→∃g,pre [a,b,c,d] g∧∀x,g x→G x):EvG K .fresh false (y8 (spW K false pre) [] E (zF h (zF tb (zF i (zF j tNil))))) Γ G:=λH0 F0 H F σ e Q q =>
 l H0 F0 H F σ e _ λM o p g1 r=>m H0 F0 o p σ (e.mono g1) _ λN s t g2 u=>n H0 F0 s t σ ((e.mono g1).mono g2) _ λO w y g3 z=>hd H0 F0 w y σ (((e.mono g1).mono g2).mono g3) _ λd P R A hd g4 B=>by
  obtain⟨g,hp,C⟩:=hp d hd;exact⟨A,[a,b,c,d],g,g4.le,.cons (xC (yg ((g2.f.trans g3.f).trans g4.f) r)) (.cons (xC (yg (g3.f.trans g4.f) u)) (.cons (xC (yg g4.f z)) (.cons (xC B) .nil))),hp,λx v D I J g5 L=>q x v D I (C x J) ((((g1.trans g2).trans g3).trans g4).trans g5) (v9 (xC L))⟩
theorem zc2:zJ ["_law_script","_law_first","_law_many","_law_sizes","_law_causes","_law_good","_law_number","_law_ringed_here","_law_made","_law_kept"] ["_law_script"] (zr (top 48)):={}
theorem zdq(F:Fun K "law" "law" (top 48) f fd)(B:Bs mg)(Z:Cs K mg cA cB cC τa τb τc τd f_Ring g_Ring)(m:wL P w K mg base)(D:zE P w K mg base CX0 "_law_shape" ["_law_script","_law_many","_law_most"] 2 (spW K true uI))(t:zE P w K mg base CX0 "_law_three" ["_law_script","_law_many","_law_sizes","_law_causes"] 2 (spW K false uG))(o:zE P w K mg base CX0 "_law_asked" ["_law_three_here"] 8 (spO (spD K true xY) (spO (spAR K xW cC) (spAX K xX (excO cB)))))(C:zE P w K mg base CX0 "_law_ringed" ["_law_causes","_law_number"] 1 (spW K true vQ))(y:zE P w K mg base CX0 "_law_ring_good" ["_law_causes","_law_made","_law_kept"] 1 (spK3 K wO cC))(p:zE P w K mg base CX0 "_law_refused" ["_law_three_here"] 9 (spD K true vI))(u:zE P w K mg base CX0 "_law_wrong" ["_law_three_here","_law_number"] 3 (spW K false wV)):FnOk P w K mg base CX0 10 f fd ["_law_script"] (Ul K):=by
 have sc:=zc2;refine F.ok sc (λvs H Q E h=>?_) (λcdv A outer s H vs Q E I h=>?_)
 ·obtain⟨a,ns,rfl,_⟩:=h;rfl
 obtain⟨a,ns,rfl,hS,a1,k⟩:=h;have le:Same H H:=Same.refl H;have dp:zV K H [V.ref a] [PyData.list (ns.map .int)]:=.cons (.lst hS (tm ns)) .nil;have q:∀v H' F',Gr H H H' F'→Rp K false .fresh H F' v (.bool true)→Q v H':=λv H' F' _ z=>by cases z;exact k H'
 refine⟨_,(zg (pS (i:=1) sc.nd (zp zK (zp y4 (pF m I (zb (pv 0) (zb ze zd))) ze) ze))
   (zg (pS (i:=2) sc.nd (zp zK (pv 1) ze))
   (zg (yp (i:=3) rfl sc.nd rfl rfl (N:=["_law_k","_law_script"]) (js:=[none,some 0]) (by walk_at"comp_ok") (yn rfl B.range (zb (pv 2) zd)) (λ_ _ _ _=>(pN (i:=0) (show υN ["_law_k","_law_script"]by decide +kernel))) (λ_ _ _ _=>zP) (λ_ _ _ _=>(zp yU ze (zp zK (pF m I (zb (pv 1) (zb (zp yU ze (zp y4 ze (pv 0))) zd))) ze))))
   (zg (pS (i:=4) sc.nd (pF D I (zb (pv 0) (zb (pv 2) (zb (zp zK (zp zS (pv 1) ze) ze) zd)))))
   (zg (pS (i:=5) sc.nd (pF t I (zb (pv 0) (zb (pv 2) (zb (pv 3) (zb (pv 4) zd))))))
   (zg (zY (zv (zbG (K:=K) rfl I.units) (pF o I (zb (pv 5) zd)) (xy (zb (pv 5) (zb xz zd))) (zG _)) (zh (zH xN)) zC)
   (zg (pS (i:=6) sc.nd (zp zK (zp y4 (pF m I (zb (pv 0) (zb ze zd))) ze) (zp Yk ze ze)))
   (zg (zY (PW.pt (wA (zv uN (pv 2) ze (zG _)) (xI (zv xu (zp zK (zp zS (pv 1) ze) ze) ze (zG _))))) (zg (pS (i:=7) sc.nd (pF t I (zb (pv 0) (zb (pv 2) (zb (pv 3) (zb (pF C I (zb (pv 4) (zb (zp zK (zp y4 (pF m I (zb (pv 0) (zb ze zd))) ze) (zp Yk ze ze)) zd))) zd))))))
   (zg (xf (pF o I (zb (pv 7) zd)) (X1 (K:=K) (n:=2) rfl rfl (wH (pN (i:=8) sc.nd) (wH (pN (i:=9) sc.nd) X0))))
   (zg (zY (PW.pt (wA (zv (zbH (K:=K) rfl I.units) (pX (zN (K:=K) rfl) (pv 7) ze) (pv 4) (zG _)) (xI (yx (ye (pF y I (zb (pX (zN (K:=K) rfl) (pv 7) ze) (zb (pv 8) (zb (pv 9) zd))))))))) (zh (zH xN)) zC)
   (zh (zY (yx (ye (pF p I (zb (pF u I (zb (pv 7) (zb (pv 6) zd))) zd)))) (zh (zH xN)) zC))))) zC)
   (zg (zY (yx (ye (pF p I (zb (pF u I (zb (pv 5) (zb (pv 6) zd))) zd)))) (zh (zH xN)) zC)
   (zh (zH (x6 (UB (K:=K) rfl I.units) (pF o I (zb (pv 5) zd)) (xy (zb (pv 5) (zb xz zd))) (zG _))))))))))))),?_⟩
 have hN:=sc.n 10;have big:=zU;walk_at"run";have m0:IntMulOk (ns.getD 0 0) 48271:=yu #[2] #[2];have m1:IntMulOk (ns.getD 1 0) 982451653:=yu #[2] #[2];have m2:IntMulOk (ns.getD 2 0) 982451653:=yu #[2] #[2];have S:CPow 10 12:=⟨#[2],#[2],#[2]⟩
 obtain⟨J,hf⟩:∃J:Int,ns.getD 0 0*48271%2147483647=J:=⟨_,rfl⟩
 obtain⟨L,X⟩:∃L:Int,ns.getD 1 0*982451653%10^(12:Int).toNat=L:=⟨_,rfl⟩
 obtain⟨W,Y⟩:∃W:Int,ns.getD 2 0*982451653%10^(12:Int).toNat=W:=⟨_,rfl⟩
 refine exs true (d:=.int J) (EvE.eq (yE (wY (zD (ds:=[il ns,.int 0]) ∅ ⟨ns,0,rfl,rfl⟩) ∅ m0) ∅ #[2]) (congrArg PyData.int hf)) #[0] ?_;obtain⟨n,hn,n9⟩:∃n:Nat,J%9=(n:Int)∧n<9:=⟨(J%9).toNat,⋯,⋯⟩
 refine exs true (d:=.int n) (EvE.eq (yE (i:=J) (j:=9) ∅ ∅ #[2]) (congrArg PyData.int hn)) #[0] ?_;obtain⟨ss,M⟩:∃ss:AE,((List.range n).map λk:Nat=>2+ns.getD (4+2*k) 0%3)=ss:=⟨_,rfl⟩
 have sl:ss.length=n:=by rw[←M,ζc,ζG]
 have sz:∀s∈ss,2≤s∧s≤4:=λs hs=>by
  rw[←M]at hs;obtain⟨k,_,rfl⟩:=ζn.mp hs;omega
 refine exs true (d:=il ss) (EvO.toE (EvO.eq (ut (λk:Nat=>.int (2+ns.getD (4+2*k) 0%3)) (is:=[0]) ∅ ⋯ (by walk_at"cc") rfl #[2] ?_) (by rw[←M,ζP];rfl))) #[0] ?_
 ·intro k hk;have m0:IntMulOk 2 (k:Int):=yu ⋯ ⋯;exact egn #[0] (tf ∅ (yE (zD ∅ ⟨ns,4+2*k,by rw[ξO,ξ7];rfl,rfl⟩) ∅ #[2]))
 have d9:CDiv J 9:=⟨#[2],#[2]⟩
 have a2:CDiv J 72:=⟨#[2],#[2]⟩
 refine exg true (Yz (ds:=[il ns,.int n,.int (J/9%8)]) ∅ ⟨ns,n,_,rfl,⋯,rfl⟩) (λd=>by walk_at"sc") ?_;rintro d ⟨cs,sh,rfl⟩;refine exg false (yz (ds:=[il ns,.int n,il ss,nls cs]) ∅ ⟨ns,n,ss,cs,rfl,⋯,sl,sz,sh.1,rfl⟩) (λd=>by walk_at"sc") ?_;rintro d ⟨ts,bk,rfl⟩;obtain⟨fo,hg⟩:=zbU sh;have pA:xY [zX ss cs ts] (.tuple [zX ss cs ts,.none]):=⟨ss,cs,ts,fo,rfl,bk,by rw[sl];exact hg,rfl⟩
 refine xo (b:=false) (zW (zb8 (d:=.tuple [zX ss cs ts,.none]) (EvE.toD (κ:=false) (EvC.toE (Vl (ds:=[zX ss cs ts]) ∅ pA))) (EvE.toD (κ:=false) ∅) (Xe ss cs ts))) rfl ?_;refine exs true (d:=.int L) (EvE.eq (yE (wY (zD (ds:=[il ns,.int 1]) ∅ ⟨ns,1,rfl,rfl⟩) ∅ m1) (Zu ∅ ∅ S) #[2]) (congrArg PyData.int X)) #[0] ?_;refine yZ (λΓ=>∃x7 x8 x9:Option DV,Γ=[some (.fz false (il ns)),some (.fz true (.int J)),some (.fz true (.int n)),some (.fz true (il ss)),some (.fz true (nls cs)),some (.fz false (zX ss cs ts)),some (.fz true (.int L)),x7,x8,x9]) ?_ ?_
 ·refine yW (b:=decide ((n:Int)>0)&&decide (J/72%4=1)) (xt (zW ∅) λ_=>zW ∅) (λc=>?_) (λ_=>yw ⟨none,none,none,rfl⟩);have n0:0<n:=by
   have:=of_decide_eq_true (Bool.and_eq_true_iff.mp c).1;omega
  refine exg false (VX (a:=il ns) (b:=.int n) (c:=il ss) (G:=λd=>∃g r,ShR n g∧(g=cs∨Rnd n g)∧BkP ss g r∧d=zX ss g r) ∅ ∅ ∅ (Yz (ds:=[nls cs,.int W]) (zi ∅ (zi (EvE.eq (yE (wY (zD (ds:=[il ns,.int 2]) ∅ ⟨ns,2,rfl,rfl⟩) ∅ m2) (Zu ∅ ∅ S) #[2]) (congrArg PyData.int Y)) zL)) ⟨n,cs,W,rfl,n0,⋯,sh.1,rfl⟩) ?_) (λd=>by walk_at"sc") ?_
  ·rintro d ⟨g,s',T,rfl⟩;exact⟨_,⟨ns,n,ss,g,rfl,⋯,sl,sz,s',rfl⟩,λx ⟨r,R,e⟩=>⟨g,r,s',T,R,e⟩⟩
  rintro d ⟨g,r,s',T,R,rfl⟩;rcases T with rfl|T
  ·refine zdE (ds:=[zX ss g r]) (d1:=zX ss g r) ∅ ⟨ss,g,r,fo,rfl,R,by rw[sl];exact hg,rfl⟩ #[0] #[0] ?_;refine xo (b:=(!PyData.eqv (nls g) (nls g))&&true) (xt (zW (v8 (neg:=true) (EvE.toD (κ:=false) (z0 (ds:=[il ss,nls g,tbl r]) ∅ ∅ atI1)) (EvE.toD (κ:=false) ∅) (vk _) (vk _))) λz=>?_) (by rw[UW];rfl) ?_
   ·rw[UW]at z;cases z
   refine yW (b:=!true) (yk (et_B (Zw (yz (ds:=[zX ss g r,.int L]) ∅ ⟨ss,g,r,L,rfl,R,rfl⟩) (λx O=>⟨x,rfl,O,rfl⟩)))) (λz=>by cases z) (λ_=>yw ⟨_,_,_,rfl⟩)
  ·have U:=zbT T;have st:=ui n wj U;have a0:=st.sb.length_le;rw[wj]at a0;have sS:StS n g (stF g n (rgI n)):=⟨s',⋯,⟨_,st⟩,λx O=>ue.mp (st.sb.subset O),(zcK QE).sublist st.sb,⋯⟩
   have rk:ZD g (stF g n (rgI n)) (ZI n g):=Us st sS.l;refine zb1 (ns:=ZI n g) (ds:=[zX ss g r]) ∅ ⟨ss,g,r,rfl,R,by rw[sl];exact U,by rw[sl]⟩ #[0] #[0] ?_;refine xo (b:=(!PyData.eqv (nls g) (nls cs))&&!true) (xt (zW (v8 (neg:=true) (EvE.toD (κ:=false) (z0 (ds:=[il ss,nls g,tbl r]) ∅ ∅ atI1)) (EvE.toD (κ:=false) ∅) (vk _) (vk _))) λ_=>yk (et_B (TQ (d0:=nls g) (z0 (ds:=[il ss,nls g,tbl r]) ∅ ∅ atI1) #[1] #[1] ⟨n,g,_,rfl,sS,rk,rfl⟩ rfl))) (ζR _) ?_;refine yW (b:=!true) (yk (et_B (Zw (yz (ds:=[zX ss g r,.int L]) ∅ ⟨ss,g,r,L,rfl,R,rfl⟩) (λx O=>⟨x,rfl,O,rfl⟩)))) (λz=>by cases z) (λ_=>yw ⟨_,_,_,rfl⟩)
 ·rintro Γ' ⟨x7,x8,x9,rfl⟩;refine xo (b:=!true) (yk (et_B (Zw (yz (ds:=[zX ss cs ts,.int L]) ∅ ⟨ss,cs,ts,L,rfl,bk,rfl⟩) (λx O=>⟨x,rfl,O,rfl⟩)))) rfl ?_;exact zR false (UV (d:=.tuple [zX ss cs ts,.none]) (EvE.toD (κ:=false) (EvC.toE (Vl (ds:=[zX ss cs ts]) ∅ pA))) (EvE.toD (κ:=false) ∅) (Xe ss cs ts)) rfl (.inr rfl)
end
abbrev De(K:ζa)(x:Str)(i:Nat):=∃f fd,At K x (top i) f fd
def MM(P:Program)(w:World)(base:Heap)(K:ζa)(mg:AN):Prop:=∀(x:Str) (f:Addr),PySem.W.nsIn K mainGlobals x=some (some (.ref f))→mg x=some (.ref f)
theorem mkC{P:Program}{w:World}{K:ζa}{mg:AN}{base:Heap}{x:Str}{i:Nat}{ps:AJ}{k:Nat}{sp:Sp}(m:MM P w base K mg)(d:De K x i)(h:∀(kV doc pm:Value) (an:Option Addr) (cdv ct:Value) (us:AK),us.length=ps.length→bindArgs (PySem.W.fnOf x x (wt (top i)) (xk (top i)) (zr (top i)) .none kV doc pm an cdv ct) ⟨us,[]⟩=pure (ps.zip us))(o:∀{f:Addr} {fd:FuncData},Fun K x x (top i) f fd→FnOk P w K mg base CX0 k f fd ps sp):zE P w K mg base CX0 x ps k sp:=by
 obtain⟨f,g,a,F⟩:=d;exact V6 F (m _ _ a) (F.binds h) (o F)
theorem zdQ{l:PySem.W.OpenLaw}{w:World}{K:ζa}{h:Heap}{mg:AN}{fa:Addr}(X:K.In h)(G:h.Ns mainGlobals mg)(bz:mg "law" = some (.ref fa))
  (d5:De K "meet" 5) (d8:De K "from_the_least" 8) (d7:De K "ring_among" 7) (d6:De K "order_of" 6) (c1:De K "is_whole" 10) (c2:De K "count_of" 12) (c3:De K "is_from_to" 21) (c4:De K "are_sizes" 22) (c5:De K "is_list_of" 20) (c6:De K "are_own_causes" 24) (c7:De K "are_causes" 23) (c8:De K "is_weight" 28) (c9:De K "is_row" 27) (ca:De K "is_table" 26) (cb:De K "picked" 30) (cc:De K "are_tables" 25) (ce:De K "check_book" 19) (cf:De K "copied" 29) (cg:De K "book" 18) (ci:De K "_law_cell_at" 32) (cj:De K "_law_shape" 33) (cm:De K "_law_table" 34) (cn:De K "_law_three" 35) (cp:De K "_law_ringed" 36) (cq:De K "_law_other" 37) (cr:De K "_law_lists_wrong" 38) (cu:De K "_law_counts_wrong" 39) (cv:De K "_law_numbers_wrong" 40) (cw:De K "_law_causes_wrong" 41) (cx:De K "_law_many_wrong" 42) (cy:De K "_law_wrong" 43) (cz:De K "_law_asked" 44) (d0:De K "_law_none" 45) (d1:De K "_law_refused" 46) (d2:De K "_law_ring_good" 47)
  {f0:Addr} {oc:Value} {od an:Option Addr} {osl:Array (Option Value)} {kV doc pm cdv ct:Value} (a0:PySem.W.nsIn K mainGlobals "law" = some (some (.ref f0)))
  (l0:K.lookup f0=some ⟨oc,od,.func (PySem.W.fnOf "law" "law" (wt (top 48)) (xk (top 48)) (zr (top 48)) .none kV doc pm an cdv ct),osl⟩) (c0:PySem.W.codeIn K cdv "law" = true) (k0:PySem.W.keepIn K (.ref f0)=true)
  (z1:PySem.W.nsIn K mainGlobals "len" = some none) (z2:PySem.W.nsIn K mainGlobals "set" = some none) (z3:PySem.W.nsIn K mainGlobals "list" = some none) (z4:PySem.W.nsIn K mainGlobals "range" = some none) (z5:PySem.W.nsIn K mainGlobals "reversed" = some none) (z6:PySem.W.nsIn K mainGlobals "min" = some none) (z7:PySem.W.nsIn K mainGlobals "isinstance" = some none) (z8:PySem.W.nsIn K mainGlobals "int" = some none) (z9:PySem.W.nsIn K mainGlobals "bool" = some none) (d3:PySem.W.nsIn K mainGlobals "all" = some none) (d4:PySem.W.nsIn K mainGlobals "sorted" = some none) (d9:PySem.W.nsIn K mainGlobals "zip" = some none) (da:PySem.W.nsIn K mainGlobals "sum" = some none) (db:PySem.W.nsIn K mainGlobals "max" = some none) (dc:PySem.W.nsIn K mainGlobals "any" = some none) (de:PySem.W.nsIn K mainGlobals "tuple" = some none) (df:PySem.W.nsIn K mainGlobals "ValueError" = some none)
  {cA cB cC:Addr} {τa τb τc τd:Tok}  {f_Ring:Addr} {b2 b3:Option Addr} {b4 b5 b7 a2 b8:Value} {b9:Array (Option Value)}(C:PySem.W.nsIn K mainGlobals "MOST_THINGS" = some (some (.int 12 τa))) (D:PySem.W.nsIn K mainGlobals "MOST_CAUSES" = some (some (.int 5 τb))) (I:PySem.W.nsIn K mainGlobals "LEAST_SIZE" = some (some (.int 2 τc))) (u:PySem.W.nsIn K mainGlobals "GREATEST_SIZE" = some (some (.int 4 τd))) (V:PySem.W.nsIn K mainGlobals "BookError" = some (some (.ref cA))) (U:PySem.W.nsIn K mainGlobals "NoBook" = some (some (.ref cB))) (bn:PySem.W.nsIn K mainGlobals "Ring" = some (some (.ref cC))) (a3:PySem.W.findIn K (.ref cC) "__getattribute__" = some (some (.builtin "BaseException.__getattribute__"))) (a4:PySem.W.findIn K (.ref cC) "__getattr__" = some none) (a5:PySem.W.findIn K (.ref cC) "__class__" = some (some (.builtin "object.__class__"))) (a7:PySem.W.specialIn K (.builtin "object.__class__") "__get__" = some (some (.builtin "getset_descriptor.__get__"))) (a8:PySem.W.takesIn K (.builtin "object.__class__")=some true) (a9:PySem.W.mroIn K cC (.type "object")=some true) (aa:PySem.W.subIn K (.ref cC) (.type "BaseException")=some true) (ay:PySem.W.excIn K cB bmV "ValueError.__new__" = true) (ak:PySem.W.findIn K (.ref cB) "__getattribute__" = some (some (.builtin "BaseException.__getattribute__"))) (al:PySem.W.findIn K (.ref cB) "__getattr__" = some none) (am:PySem.W.findIn K (.ref cB) "__class__" = some (some (.builtin "object.__class__"))) (ao:PySem.W.specialIn K (.builtin "object.__class__") "__get__" = some (some (.builtin "getset_descriptor.__get__"))) (aq:PySem.W.takesIn K (.builtin "object.__class__")=some true) (ar:PySem.W.mroIn K cB (.type "object")=some true) (au:PySem.W.subIn K (.ref cB) (.type "BaseException")=some true) (bx:PySem.W.findIn K (.ref cC) "__init__" = some (some (.ref f_Ring))) (E:K.lookup f_Ring=some ⟨.type "function", b2,.func (PySem.W.fnOf "__init__" "Ring.__init__" (wt (meth 3)) (xk (meth 3)) (zr (meth 3)) .none b4 b5 b7 b3 a2 b8),b9⟩) (ae:PySem.W.codeIn K a2 "Ring.__init__" = true) (af:PySem.W.keepIn K (.ref f_Ring)=true) (bo:Wr K cC f_Ring=true) (ba:PySem.W.findIn K (.ref cC) "__setattr__" = some (some (.builtin "object.__setattr__"))) (bb:(PySem.W.clsIn K cC).any (λcd=>WX cd.mro)=true) (bd:PySem.W.findIn K (.ref cC) "ring" = some none) (be:PySem.W.hasDictIn K cC=true) (bf:PySem.W.typeIn K (.ref cC)=some (.type "type")) (bg:PySem.W.keepIn K (.ref cC)=true) (bh:PySem.W.readsIn K cA (.type "type")=true) (bi:PySem.W.findCls K (.ref cA) (.type "type") "__init__" = some (.val (.builtin "ValueError.__init__"))) (bj:PySem.W.specialIn K (.ref cA) "__getattribute__" = some (some (.builtin "type.__getattribute__"))) (m_Ring_BookError:PySem.W.mroIn K cC (.ref cA)=some true) (m_NoBook_BookError:PySem.W.mroIn K cB (.ref cA)=some true) (b_BookError:PySem.W.mroIn K cA (.type "BaseException")=some true) (t_BookError:PySem.W.typeIn K (.ref cA)=some (.type "type")) (k_Ring_Ring:PySem.W.kitOne K (.ref cC) (.ref cC)=some true) (k_Ring_ValueError:PySem.W.kitOne K (.ref cC) (.type "ValueError")=some true) (k_Ring_NoBook:PySem.W.kitOne K (.ref cC) (.ref cB)=some false) (k_NoBook_NoBook:PySem.W.kitOne K (.ref cB) (.ref cB)=some true) (k_NoBook_ValueError:PySem.W.kitOne K (.ref cB) (.type "ValueError")=some true) (k_NoBook_Ring:PySem.W.kitOne K (.ref cB) (.ref cC)=some false) :
  ∃fd:FuncData,(∀(s:Shared) (v:Value),BindsTo s fd ⟨[v],[]⟩ [("_law_script", v)])∧∀base:Heap,K.In base→base.Ns mainGlobals mg→FnOk l.prog w K mg base CX0 10 fa fd ["_law_script"] (Ul K):=by
 have e:=bz.symm.trans (PySem.W.mg_of X G a0);cases e;have nn:∀{x:Str},PySem.W.nsIn K mainGlobals x=some none→mg x=none:=λz=>PySem.W.mg_none_of X G z;have B:Bs mg:=⟨nn z1,nn z2,nn z3,nn z4,nn z5,nn z6,nn z7,nn z8,nn z9,nn d3,nn d4,nn d9,nn da,nn db,nn dc,nn de,nn df⟩
 refine⟨PySem.W.fnOf "law" "law" (wt (top 48)) (xk (top 48)) (zr (top 48)) .none kV doc pm an cdv ct,λs v=>.of_eq rfl,λbase _ _=>?_⟩
 have mm:∀{x:Str} {f:Addr},PySem.W.nsIn K mainGlobals x=some (some (.ref f))→mg x=some (.ref f):=λz=>PySem.W.mg_of X G z;have pn:MM l.prog w base K mg:=λ_ _ z=>mm z;have Z:Cs K mg cA cB cC τa τb τc τd f_Ring _:=⟨PySem.W.mg_of X G C,PySem.W.mg_of X G D,PySem.W.mg_of X G I,PySem.W.mg_of X G u,mm V,mm U,mm bn,⟨mm U,ay⟩,⟨a3,a4,a5,a7,a8,a9,aa⟩,⟨ak,al,am,ao,aq,ar,au⟩,m_Ring_BookError,m_NoBook_BookError,b_BookError,t_BookError,k_Ring_Ring,k_Ring_ValueError,k_Ring_NoBook,k_NoBook_NoBook,k_NoBook_ValueError,k_NoBook_Ring,⟨bo,⟨a3,a4,a5,a7,a8,a9,aa⟩,⟨ba,bb,bd,be⟩,bf⟩,bg,⟨bh,bi,bj⟩,Wm E ae af,(Wm E ae af).binds (ps:=["self","ring"]) λ_ _ _ _ _ _ us hl=>match us,hl with|[_,_],_=>rfl,⟨_,E,rfl⟩⟩
 have ax:=mkC pn d5 (by walk_at"b2") λF=>zbK F B Z;have q:=mkC pn d8 (by walk_at"b1") λF=>tX F B Z;have J:=mkC pn d7 (by walk_at"b2") λF=>YV F B Z q;have ag:=mkC pn d6 (by walk_at"b1") λF=>WY F B Z ax;obtain⟨f6,g6,a6,F6⟩:=d6;have b6:=F6.binds (ps:=["causes"]) λ_ _ _ _ _ _ us hl=>match us,hl with|[_],_=>rfl;have ah:=YH (P:=l.prog) (w:=w) (base:=base) F6 (mm a6) b6 (X3 F6 B Z ax J);have y:=mkC pn c1 (by walk_at"b1") λF=>W0 F B Z;have ai:=mkC pn c2 (by walk_at"b1") λF=>W4 F B Z;have n:=mkC pn c3 (by walk_at"b3") λF=>YY F B Z y;have g:=mkC pn c4 (by walk_at"b1") λF=>Wc F B Z n;have a:=mkC pn c5 (by walk_at"b2") λF=>YX F B Z;have r:=mkC pn c6 (by walk_at"b2") λF=>tY F B Z n;have c:=mkC pn c7 (by walk_at"b2") λF=>Y1 F B Z a r;have Y:=mkC pn c8 (by walk_at"b1") λF=>Wb F B Z y;have az:=mkC pn c9 (by walk_at"b2") λF=>Tk F B Z a Y;have aj:=mkC pn ca (by walk_at"b3") λF=>W3 F B Z a az;have b0:=mkC pn cb (by walk_at"b2") λF=>Tj F B Z;have d:=mkC pn cc (by walk_at"b3") λF=>Y0 F B Z a aj ai b0;obtain⟨dg,dh,bt,av⟩:=ce;have bu:=av.binds (ps:=["sizes","causes","tables"]) λ_ _ _ _ _ _ us hl=>match us,hl with|[_,_,_],_=>rfl
 have L:=V6 (P:=l.prog) (w:=w) (base:=base) av (mm bt) bu (YZ av B Z g c d ag);have M:=YH (P:=l.prog) (w:=w) (base:=base) av (mm bt) bu (Ym av B Z g c d ah);have N:=U1 (P:=l.prog) (w:=w) (base:=base) av (mm bt) bu (Yl av B Z g c d);have b1:=mkC pn cf (by walk_at"b1") λF=>Tl F B Z;obtain⟨di,dj,bv,aw⟩:=cg;have bw:=aw.binds (ps:=["sizes","causes","tables"]) λ_ _ _ _ _ _ us hl=>match us,hl with|[_,_,_],_=>rfl
 have bp:=V6 (P:=l.prog) (w:=w) (base:=base) aw (mm bv) bw (zbL aw B Z L b1);have bq:=YH (P:=l.prog) (w:=w) (base:=base) aw (mm bv) bw (QZ aw B Z M);have br:=U1 (P:=l.prog) (w:=w) (base:=base) aw (mm bv) bw (QY aw B Z N);have b:=mkC pn ci (by walk_at"b2") λF=>Yo F B Z;have O:=mkC pn cj (by walk_at"b3") λF=>X8 F B Z b;have Q:=mkC pn cm (by walk_at"b4") λF=>X7 F B Z;have R:=mkC pn cn (by walk_at"b4") λF=>X6 F B Z b Q;have H:=mkC pn cp (by walk_at"b2") λF=>YW F B Z;have S:=mkC pn cq (by walk_at"b2") λF=>X9 F B Z;have m:=mkC pn cr (by walk_at"b2") λF=>uZ F B Z S;have j:=mkC pn cu (by walk_at"b2") λF=>uC F B Z;have i:=mkC pn cv (by walk_at"b2") λF=>vV F B Z;have k:=mkC pn cw (by walk_at"b2") λF=>uD F B Z;have p:=mkC pn cx (by walk_at"b1") λF=>tW F B Z;have T:=mkC pn cy (by walk_at"b2") λF=>X5 F B Z p m j i k;have o:=mkC pn cz (by walk_at"b1") λF=>Wa F B Z bp bq br;have a1:=mkC pn d0 (by walk_at"b1") λF=>WZ F B Z;have A:=mkC pn d1 (by walk_at"b1") λF=>Yn F B Z a1 o;have t:=mkC pn d2 (by walk_at"b3") λF=>Zo F B Z;exact zdq (Wm l0 c0 k0) B Z b O R o H t A T
theorem walk{l:PySem.W.OpenLaw}{q:Program}{b:AJ}{i:(Str→Option Value)→Heap→Prop}{c:World→Heap→Prop}{d:DefRec}{K:Params→ζa}(j:l.most=some 63)(e:d.params.defaults=[])
  (m:∀(w:World) (h:Heap),c w h→(K w.params).In h) (o:∀(w:World) (h:Heap),c w h→(∀p∈yT (K w.params),h.get? p.1=some (PySem.W.tabObj #[]))∧XG (K w.params)=true)
  (F:∀(w:World) (mg:AN) (g:Addr) (h:Heap),(K w.params).In h→h.Ns mainGlobals mg→mg d.name=some (.ref g)→
   ∃fd:FuncData,(∀(s:Shared) (u:Value),BindsTo s fd ⟨[u],[]⟩ [("_law_script", u)])∧∀base:Heap,(K w.params).In base→base.Ns mainGlobals mg→FnOk l.prog w (K w.params) mg base CX0 10 g fd ["_law_script"] (Ul (K w.params))) :
  PySem.W.WalkO q b i c l.row.toRowW d [] (λf vs=>PySem.call f vs):=
 L2.za8 (n:=63) (k:=10) (x:= "_law_script") (CX:=λ_=>CX0) (sp:=λw=>Ul (K w.params)) j #[2] e ⟨rfl,#[2],#[2],rfl⟩ m o F (λ_ _ a ns r t=>⟨a,ns,rfl,t,r,λ_=>rfl⟩) λ_ _ _ _ _ z=>z
end K16
def PySem.W.Fast.tw5005506948692184772 : PySem.Program := PySem.Challenge.pw_causebook_k16_refused_books
theorem PySem.W.Fast.te5005506948692184772 : PySem.Challenge.pw_causebook_k16_refused_books = PySem.W.Fast.tw5005506948692184772 := rfl
def PySem.W.Fast.tw10101808770011419082 : Nat := 0
def PySem.W.Fast.tw6810314277427844090 : Nat := 0
def PySem.W.Fast.tw7210084971389431055 : Nat := 0
def PySem.W.Fast.tw6787561736997121910 : Nat := 0
def PySem.W.Fast.tw7196713425269795762 : Nat := 0
def PySem.W.Fast.tw3469219122937235200 : Nat := 0
def PySem.W.Fast.tw15103317884333609933 : Nat := 0
def PySem.W.Fast.tw6894676183340874303 : Nat := 0
def PySem.W.Fast.tw16427307207661960074 : Nat := 0
namespace PySem.W.Fast
def tw3173794669893734637:=0
def tw14746615533356169969:=0
def tw3920935434027442662:=0
def tw7801962958368907445:=0
def tw10767917054474131945:=0
def tw14190479211308478463:=0
def tw8426655011505200730:=0
def tw12818333538635506090:=0
def tw9759649638021416657:=0
def tw18287042562250892895:=0
def tw13393321850824058018:=0
def tw18380046304601574548:=0
def tw5395701971197922022:=0
def tw17197986460779383920:=0
def tw7676598261644483013:=0
def tw6680676537749324764:=0
def tw14452668910458243070:=0
def tw14686491056869770112:=0
def tw11527579189297628088:=0
def tw982364730655443775:=0
def tw13577088927897978612:=0
def tw3903488679656226143:=0
def tw10693337361889448697:=0
def tw17329221466132459324:=0
def tw1151078042813168198:=0
def tw4289458330273468373:=0
def tw1253162490360513009:=0
def tw7148217526172499542:=0
def tw18246377314116440117:=0
def tw9937086668403219721:=0
def tw14060284430244000590:=0
def tw1612976646119330370:=0
def tw8270025975793327036:=0
def tw12111577167088348662:=0
def tw13612649871604241919:=0
def tw9294157375420880483:=0
def tw7271315106070033372:=0
def tw4585762882337181434:=0
def tw4194986312925847590:=0
def tw114694240130378632:=0
def tw10379310551368197363:=0
def tw782983563699583105:=0
def tw10305362958326141570:=0
def tw83420620803624549:=0
def tw11406570871194021244:=0
def tw7669232406901840895:=0
def tw2731213361396744883:=0
def tw11579280810842246937:=0
def tw16726854521735137065:=0
def tw15223729227184256121:=0
def tw2136266508158801451:=0
def tw8905345944531272915:=0
def tw6686747177764533873:=0
def tw18209809972586912723:=0
def tw1459006102266223201:=0
def tw6219222844438100660:=0
def tw14863335860209375043:=0
def tw793705936416140478:=0
def tw14686083512591660185:=0
def tw6235620250381781410:=0
def tw964015962958223349:=0
def tw11396186331498319617:=0
def tw4487474546667064558:=0
def tw12869819829676349401:=0
def tw17797214645531176326:=0
def tw1317687938595995386:=0
def tw1175859859131748361:=0
def tw13330796382744973302:=0
def tw15808787582194632567:=0
def tw16395501052855156249:=0
def tw2665680590972880679:=0
def tw648500161587993515:=0
def tw1967552360114070684:=0
def tw14865790735022173489:=0
def tw6452831864931423319:=0
def tw17029489133103949145:=0
def tw11968595334985939407:=0
def tw12806673942618164861:=0
def tw10430870332609276406:=0
def tw17197390824173611507:=0
def tw606652863600067834:=0
def tw15745819481926272887:=0
def tw14867885758535558974:=0
def tw7303248585635389129:=0
def tw6614207787779857202:=0
def tw6554351477187240824:=0
def tw544394357065923251:=0
def tw3606085212031497731:=0
def tw12574071025224549822:=0
def tw5883938123439191534:=0
def tw1098510519105754526:=0
def tw11491363979520229527:=0
def tw10101550245540422496:=0
def tw11955853637526454572:=0
def tw5744490510412716743:=0
def tw3703021881665098196:=0
def tw2482091048554212331:=0
def tw3257016900910089391:=0
def tw2739564827806638304:=0
def tw11850534508692642564:=0
def tw11443060892042177563:=0
def tw15681308767097823712:=0
def tw14766832532623690498:=0
def tw9319623474889351373:=0
def tw10553946332719207767:=0
def tw10670939307188775815:=0
def tw16826384227555220901:=0
def tw13311831921310871117:=0
def tw16612579127187831076:=0
def tw12050139631950272826:=0
def tw7040961778280606635:=0
def tw5130548062031715705:=0
def tw484675983909314520:=0
def tw3351174252020940657:=0
def tw16094143134167627069:=0
def tw10568665027621743354:=0
def tw5841346623728653311:=0
def tw12160399781435977783:=0
def tw1706965973648275109:=0
def tw12202211035937288842:=0
def tw12694110889413219994:=0
def tw1935457090736374823:=0
def tw1201234893637985805:=0
def tw888513982777600525:=0
def tw9282206789144642143:=0
def tw102822309324371199:=0
def tw9815883243830769369:=0
def tw14987637752405330271:=0
def tw10676409532405765969:=0
def tw16494625910909187113:=0
def tw12958830129881429546:=0
def tw7056167261721188349:=0
def tw8318261480424553065:=0
def tw7852616231342276072:=0
def tw1888303416480959323:=0
def tw6083053725045710332:=0
def tw17599549636300741248:=0
def tw3502527488076684765:=0
def tw9678967173527899860:=0
def tw17667295177617374290:=0
def tw4909247315802045971:=0
def tw12382955361892252367:=0
def tw10180013759441777388:=0
def tw3498011982066160326:=0
def tw14997200528401526924:=0
def tw12851227390539681528:=0
def tw17785291238140529238:=0
def tw14461758959158464466:=0
def tw2796646889959058076:=0
def tw17091961503362706119:=0
def tw6684898868411118106:=0
def tw9482040888252940422:=0
end PySem.W.Fast
open PySem PySem.W PyProof.Rows
set_option maxRecDepth 100000 in
set_option maxHeartbeats 0 in
theorem PySem.Challenge.cw_causebook_k16_refused_books_holds : PySem.Challenge.rw_causebook_k16_refused_books.Holds := by
 w_on; o_law; k_head; (case hw=>w_witness2)
 k_fill
 refine K16.walk (l:=PySem.Challenge.rw_causebook_k16_refused_books) rfl rfl (fun w h Y=>PySem.W.kIn_of Y) (fun w h Y=>⟨zbg (by kernel_rfl),by kernel_rfl⟩) ?F
 case F =>
  intro w mg fa h KX G hmg
  refine' K16.zdQ KX G hmg ?d5 ?d8 ?d7 ?d6 ?d10 ?d12 ?d21 ?d22 ?d20 ?d24 ?d23 ?d28 ?d27 ?d26 ?d30 ?d25 ?d19 ?d29 ?d18 ?d32 ?d33 ?d34 ?d35 ?d36 ?d37 ?d38 ?d39 ?d40 ?d41 ?d42 ?d43 ?d44 ?d45 ?d46 ?d47 ?a0 ?l0 ?c0 ?k0 ?z1 ?z2 ?z3 ?z4 ?z5 ?z6 ?z7 ?z8 ?z9 ?z10 ?z11 ?z12 ?z13 ?z14 ?z15 ?z16 ?z17 ?y_MOST_THINGS ?y_MOST_CAUSES ?y_LEAST_SIZE ?y_GREATEST_SIZE ?y_BookError ?y_NoBook ?y_Ring ?g1_Ring ?g2_Ring ?g3_Ring ?g4_Ring ?g5_Ring ?g6_Ring ?g7_Ring ?q_NoBook ?g1_NoBook ?g2_NoBook ?g3_NoBook ?g4_NoBook ?g5_NoBook ?g6_NoBook ?g7_NoBook ?fi_Ring ?lk_Ring ?cd_Ring ?kf_Ring ?q_Ring ?s1_Ring ?s2_Ring ?s3_Ring ?s4_Ring ?ty_Ring ?kc_Ring ?u1_Ring ?u2_Ring ?u3_Ring ?m_Ring_BookError ?m_NoBook_BookError ?b_BookError ?t_BookError ?k_Ring_Ring ?k_Ring_ValueError ?k_Ring_NoBook ?k_NoBook_NoBook ?k_NoBook_ValueError ?k_NoBook_Ring
  iterate 35 (refine' Cm.zcX ?a ?l ?c ?k; (case a=>k_is); (case l=>k_is); (case c=>k_is); (case k=>k_is))
  (case a0=>k_is); (case l0=>k_is); (case c0=>k_is); (case k0=>k_is)
  (case z1=>k_is); (case z2=>k_is); (case z3=>k_is); (case z4=>k_is); (case z5=>k_is); (case z6=>k_is); (case z7=>k_is); (case z8=>k_is); (case z9=>k_is); (case z10=>k_is); (case z11=>k_is); (case z12=>k_is); (case z13=>k_is); (case z14=>k_is); (case z15=>k_is); (case z16=>k_is); (case z17=>k_is); (case y_MOST_THINGS=>k_is); (case y_MOST_CAUSES=>k_is); (case y_LEAST_SIZE=>k_is); (case y_GREATEST_SIZE=>k_is); (case y_BookError=>k_is); (case y_NoBook=>k_is); (case y_Ring=>k_is); (case g1_Ring=>k_is); (case g2_Ring=>k_is); (case g3_Ring=>k_is); (case g4_Ring=>k_is); (case g5_Ring=>k_is); (case g6_Ring=>k_is); (case g7_Ring=>k_is); (case q_NoBook=>k_exc); (case g1_NoBook=>k_is); (case g2_NoBook=>k_is); (case g3_NoBook=>k_is); (case g4_NoBook=>k_is); (case g5_NoBook=>k_is); (case g6_NoBook=>k_is); (case g7_NoBook=>k_is); (case fi_Ring=>k_is); (case lk_Ring=>k_is); (case cd_Ring=>k_is); (case kf_Ring=>k_is); (case q_Ring=>kernel_rfl); (case s1_Ring=>k_is); (case s2_Ring=>kernel_rfl); (case s3_Ring=>k_is); (case s4_Ring=>kernel_rfl); (case ty_Ring=>k_is); (case kc_Ring=>k_is); (case u1_Ring=>kernel_rfl); (case u2_Ring=>kernel_rfl); (case u3_Ring=>k_is); (case m_Ring_BookError=>k_is); (case m_NoBook_BookError=>k_is); (case b_BookError=>k_is); (case t_BookError=>k_is); (case k_Ring_Ring=>kit_is); (case k_Ring_ValueError=>kit_is); (case k_Ring_NoBook=>kit_is); (case k_NoBook_NoBook=>kit_is); (case k_NoBook_ValueError=>kit_is); (case k_NoBook_Ring=>kit_is)
#print axioms PySem.Challenge.cw_causebook_k16_refused_books_holds
