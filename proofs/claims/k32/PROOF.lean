import PyProof.Rows.All
import Wide.All
import OpenK.AllK
import Wide.FinOn
import Lean
import PyProof.EqAt
import PyProof.EqKinds
import PyProof.TupleCall
import PySem.Challenge.RW_causebook_k32_closed
set_option Elab.async false
set_option linter.all false
set_option maxRecDepth 100000
namespace L2
open PySem PySem.Spec PyProof.Rows
abbrev Key := Sum Int Str
def keyIs : Key → Value → Bool
  | .inl k, v => Value.isInt k v
  | .inr x, v => Value.isStrOf x v
def keyH (w : World) : Key → Int
  | .inl k => hashInt k
  | .inr x => hashStr w x
theorem keyIs_shape : ∀ {k : Key} {v : Value}, keyIs k v = true → (∃ i t, k = Sum.inl i ∧ v = Value.int i t) ∨ (∃ x t, k = Sum.inr x ∧ v = Value.str x t)
  | .inl i, v, h => by
    obtain ⟨t, e⟩ := Value.isInt_shape (k := i) (v := v) h
    exact .inl ⟨i, t, rfl, e⟩
  | .inr x, v, h => by
    obtain ⟨t, e⟩ := Value.isStrOf_shape (x := x) (v := v) h
    exact .inr ⟨x, t, rfl, e⟩
theorem key_ll (a b : Int) : decide ((Sum.inl a : Key) = Sum.inl b) = (a == b) := by
  by_cases e : a = b
  · subst e; simp
  · have h : ¬ (Sum.inl a : Key) = Sum.inl b := fun q => e (Sum.inl.inj q)
    rw [decide_eq_false h]
    exact (beq_eq_false_iff_ne.mpr e).symm
theorem key_rr (a b : Str) : decide ((Sum.inr a : Key) = Sum.inr b) = decide (a = b) := by
  by_cases e : a = b
  · subst e; simp
  · have h : ¬ (Sum.inr a : Key) = Sum.inr b := fun q => e (Sum.inr.inj q)
    rw [decide_eq_false h, decide_eq_false e]
theorem key_lr (a : Int) (b : Str) : decide ((Sum.inl a : Key) = Sum.inr b) = false := decide_eq_false (fun q => nomatch q)
theorem key_rl (a : Str) (b : Int) : decide ((Sum.inr a : Key) = Sum.inl b) = false := decide_eq_false (fun q => nomatch q)
def mixKind (prog : Program) (w : World) : PySem.KeyKind prog w Key where
  is := keyIs
  hash := keyH w
  inj := fun v a b ha hb => by
    rcases keyIs_shape ha with ⟨i, t, rfl, rfl⟩ | ⟨x, t, rfl, rfl⟩
    · rcases keyIs_shape hb with ⟨j, u, rfl, e⟩ | ⟨y, u, rfl, e⟩
      · injection e with e1 _; rw [e1]
      · exact nomatch e
    · rcases keyIs_shape hb with ⟨j, u, rfl, e⟩ | ⟨y, u, rfl, e⟩
      · exact nomatch e
      · injection e with e1 _; rw [e1]
  byValue := fun k v h => by
    rcases keyIs_shape h with ⟨i, t, rfl, rfl⟩ | ⟨x, t, rfl, rfl⟩ <;> rfl
  pyHash := fun hv h => by
    rcases keyIs_shape hv with ⟨i, t, rfl, rfl⟩ | ⟨x, t, rfl, rfl⟩
    · exact wpAny_pyHash_int h
    · exact wpAny_pyHash_str h
  eqBool := fun hu hv h => by
    rcases keyIs_shape hu with ⟨i, t, rfl, rfl⟩ | ⟨x, t, rfl, rfl⟩
    · rcases keyIs_shape hv with ⟨j, u, rfl, rfl⟩ | ⟨y, u, rfl, rfl⟩
      · rw [key_ll] at h; exact wpAny_eqBool_int h
      · rw [key_lr] at h; exact SeqAt.EqAt.int_str i t y u _ _ _ _ h
    · rcases keyIs_shape hv with ⟨j, u, rfl, rfl⟩ | ⟨y, u, rfl, rfl⟩
      · rw [key_rl] at h; exact SeqAt.EqAt.str_int x t j u _ _ _ _ h
      · rw [key_rr] at h; exact wpAny_eqBool_str h
  «strs» := fun k x t v h => by
    rcases keyIs_shape h with ⟨i, u, rfl, e⟩ | ⟨y, u, rfl, e⟩
    · exact nomatch e
    · injection e with e1 _
      subst e1
      cases v <;> rfl
end L2
namespace L2
open PySem PySem.Spec PyProof.Rows
inductive V where
  | non | bl (b : Bool) | int (i : Int) | str (x : Str) | byt (b : Array UInt8) | flt (b : UInt64) | ref (a : Addr) | ty (n : String)
  deriving DecidableEq
def RelV : V → Value → Prop
  | .non, u => u = Value.none
  | .bl b, u => u = Value.bool b
  | .int i, u => ∃ t, u = Value.int i t
  | .str x, u => ∃ t, u = Value.str x t
  | .byt b, u => ∃ t, u = Value.bytes b t
  | .flt b, u => ∃ t, u = Value.float b t
  | .ref a, u => u = Value.ref a
  | .ty n, u => u = Value.type n
abbrev Vals : List V → List Value → Prop := Paired RelV
theorem Vals.length {xs : List V} {us : List Value} (r : Vals xs us) : xs.length = us.length := Paired.length r
theorem Vals.get : ∀ {xs : List V} {us : List Value} {i : Nat} {x : V}, Vals xs us → xs[i]? = some x → ∃ u, us[i]? = some u ∧ RelV x u
  | _, _, _, _, .nil, e => by simp at e
  | _, _, 0, _, .cons r _, e => by simp at e; subst e; exact ⟨_, rfl, r⟩
  | _, _, i + 1, x, .cons _ t, e => by
    obtain ⟨u, h1, h2⟩ := Vals.get (i := i) (x := x) t (by simpa using e)
    exact ⟨u, by simpa using h1, h2⟩
theorem Vals.set {x : V} {u : Value} (r : RelV x u) : ∀ {xs : List V} {us : List Value} (i : Nat), Vals xs us → Vals (xs.set i x) (us.set i u)
  | _, _, _, .nil => .nil
  | _, _, 0, .cons _ t => .cons r t
  | _, _, i + 1, .cons q t => .cons q (Vals.set r i t)
theorem Vals.append : ∀ {xs ys : List V} {us ws : List Value}, Vals xs us → Vals ys ws → Vals (xs ++ ys) (us ++ ws)
  | _, _, _, _, .nil, s => s
  | _, _, _, _, .cons r t, s => .cons r (Vals.append t s)
theorem Vals.take : ∀ {xs : List V} {us : List Value} (n : Nat), Vals xs us → Vals (xs.take n) (us.take n)
  | _, _, 0, _ => .nil
  | _, _, _ + 1, .nil => .nil
  | _, _, n + 1, .cons r t => .cons r (Vals.take n t)
theorem Vals.drop : ∀ {xs : List V} {us : List Value} (n : Nat), Vals xs us → Vals (xs.drop n) (us.drop n)
  | _, _, 0, r => r
  | _, _, _ + 1, .nil => .nil
  | _, _, n + 1, .cons _ t => Vals.drop n t
def RelO : Option V → Option Value → Prop
  | some v, some u => RelV v u
  | none, none => True
  | _, _ => False
def KV {κ : Type} : List (κ × V) → List (κ × Value) → Prop := Paired fun (p : κ × V) (q : κ × Value) => p.1 = q.1 ∧ RelV p.2 q.2
def kV : Key → V
  | .inl i => .int i
  | .inr x => .str x
inductive HO where
  | lst (xs : List V)
  | tup (xs : List V)
  | dK (kvs : List (Key × V)) | dT (kvs : List (List Key × V))
  | set (S : Int → Bool) (n : Nat)
  | ins (C dx : Addr) (fs : List (Str × V))
  | own (x : Addr)
  | xd (fs : List (Str × V))
  | met (f x : Addr)
  | rng (lo hi : Int)
  | frz (o : Obj) (u : HO)
  | tbl (ps : Array Value)
  | ext (φ : Heap → Prop)
abbrev Hp := Addr → Option HO
def upd (H : Hp) (a : Addr) (o : HO) : Hp := fun b => if b = a then some o else H b
theorem upd_same {H : Hp} {a : Addr} {o : HO} : upd H a o a = some o := by unfold upd; rw [if_pos rfl]
theorem upd_ne {H : Hp} {a b : Addr} {o : HO} (h : b ≠ a) : upd H a o b = H b := by unfold upd; rw [if_neg h]
theorem ne_of_none {H : Hp} {a b : Addr} {o : HO} (h : H a = some o) (h' : H b = none) : a ≠ b := by
  intro e; subst e; rw [h] at h'; cases h'
def TupAt (H : Hp) (b : Addr) (ys : List V) : Prop := H b = some (.tup ys) ∨ ∃ o : Obj, (∀ v, o.data ≠ .cell v) ∧ H b = some (.frz o (.tup ys))
def tagQ (ps : Array Value) : Str := match (ps[0]? : Option Value) with | some (.str q _) => q | _ => ""
section
variable (P : Program) (w : World)
def ObjOk (H : Hp) (h : Heap) (a : Addr) : HO → Prop
  | .lst xs => xs.length ≤ sizeLine ∧ ∃ (its : List Value) (n : Nat), Vals xs its ∧ h.get? a = some { cls := .type "list", data := .seq its.toArray n }
  | .tup xs => xs.length ≤ sizeLine ∧ ∃ its : List Value, Vals xs its ∧ IsTup h a its.toArray
  | .dK kvs => kvs.length ≤ sizeLine ∧ (a == sysModules) = false ∧ ∃ vs, KV kvs vs ∧ h.DictOf (mixKind P w) a vs
  | .dT kvs => kvs.length ≤ sizeLine ∧ (a == sysModules) = false ∧ ∃ xs : List (List Key × Addr × Value),
      Paired (fun (p : List Key × V) (q : List Key × Addr × Value) => p.1 = q.1 ∧ TupAt H q.2.1 (p.1.map kV) ∧ RelV p.2 q.2.2) kvs xs ∧
      ∃ o es ep, h.get? a = some o ∧ o.ExactDict ∧ o.data = .dict es ep ∧ es.toList = xs.map (entryOfKey (tupleKind (mixKind P w))) ∧ (xs.map (·.1)).Nodup
  | .set S n => h.SetOf (intKind P w) a S n
  | .ins C dx fs => H dx = some (.own a) ∧ fs.length ≤ 1000 ∧ dx ≠ a ∧ h.get? a = some (PySem.W.instObj C dx) ∧
      ∃ mA, h.Ns1 dx mA ∧ (∀ f, RelO (fs.lookup f) (mA f)) ∧ PySem.Within mA (fs.map (·.1))
  | .own _ => ∃ o, h.get? a = some o
  | .xd fs => ∃ mA, h.Ns1 a mA ∧ ∀ f, RelO (fs.lookup f) (mA f)
  | .rng lo hi => ∃ t u v, h.get? a = some { cls := .type "range", data := .fields #[.int lo t, .int hi u, .int 1 v] }
  | .frz o u => h.get? a = some o ∧ ObjOk H h a u
  | .tbl ps => ∃ vs : Array Value, h.get? a = some (PySem.W.tabObj vs) ∧ TriplesOk vs.toList ∧ ∀ p v, codeAmong p vs.toList = some v → ∃ b o fs t, v = .ref b ∧ H b = some (.frz o (.ext fun _ => True)) ∧ o.data = .fields fs ∧ fs[1]? = some (.str (tagQ ps) t)
  | .met f x => h.get? a = some (PySem.W.methodObj (.ref f) (.ref x))
  | .ext φ => φ h ∧ (∃ o, h.get? a = some o) ∧ ∀ h1 h2 : Heap, φ h1 → (∀ o, h1.get? a = some o → h2.get? a = some o) → φ h2
def HOk (H : Hp) (h : Heap) : Prop := ∀ a o, H a = some o → ObjOk P w H h a o
end
section
variable {P : Program} {w : World} {H H' : Hp} {h h' : Heap} {a : Addr} {o : HO}
theorem ObjOk.lt (x : ObjOk P w H h a o) : a < h.objs.size := by
  cases o with
  | lst xs => obtain ⟨_, _, _, _, e⟩ := x; exact Heap.lt_size e
  | tup xs => obtain ⟨_, _, _, p⟩ := x; exact p.lt
  | dK kvs => obtain ⟨_, _, _, _, o, _, _, e, _⟩ := x; exact Heap.lt_size e
  | dT kvs => obtain ⟨_, _, _, _, o, _, _, e, _⟩ := x; exact Heap.lt_size e
  | set S n => obtain ⟨o, _, _, _, e, _⟩ := x; exact Heap.lt_size e
  | ins C dx fs => obtain ⟨_, _, _, e, _⟩ := x; exact Heap.lt_size e
  | own y => obtain ⟨_, e⟩ := x; exact Heap.lt_size e
  | xd fs => obtain ⟨_, ⟨_, _, _, e, _⟩, _⟩ := x; exact Heap.lt_size e
  | rng lo hi => obtain ⟨_, _, _, e⟩ := x; exact Heap.lt_size e
  | frz ob u => obtain ⟨e, _⟩ := x; exact Heap.lt_size e
  | tbl ps => obtain ⟨_, e, _⟩ := x; exact Heap.lt_size e
  | met f y => exact Heap.lt_size (show h.get? a = some _ from x)
  | ext φ => obtain ⟨_, ⟨_, e⟩, _⟩ := x; exact Heap.lt_size e
theorem Paired.mapP {α β : Type} {F G : α → β → Prop} : ∀ {l₁ : List α} {l₂ : List β}, Paired F l₁ l₂ → (∀ a b, F a b → G a b) → Paired G l₁ l₂
  | _, _, .nil, _ => .nil
  | _, _, .cons r t, f => .cons (f _ _ r) (Paired.mapP t f)
theorem ObjOk.stay (x : ObjOk P w H h a o) (k : ∀ b u, (b = a ∨ H b = some (.own a)) → h.get? b = some u → h'.get? b = some u)
    (ho : ∀ b, H b = some (.own a) → H' b = some (.own a)) (ht : ∀ b xs, H b = some (.tup xs) → H' b = some (.tup xs))
    (hc : ∀ b o u, H b = some (.frz o u) → (∀ v, o.data ≠ .cell v) → H' b = some (.frz o u) := by first | exact fun _ _ _ q _ => q | (intro b o u z _; rw [upd_ne (ne_of_none z (by assumption))]; exact z) | (intro b o u z _; rw [upd_ne (fun e => by subst e; simp_all [Mut])]; exact z)) : ObjOk P w H' h' a o := by
  induction o with
  | lst xs => obtain ⟨z, its, n, r, e⟩ := x; exact ⟨z, its, n, r, k _ _ (.inl rfl) e⟩
  | tup xs => obtain ⟨z, its, r, ob, e, c⟩ := x; exact ⟨z, its, r, ob, k _ _ (.inl rfl) e, c⟩
  | dK kvs => obtain ⟨z, y, vs, r, ob, es, ep, e, c⟩ := x; exact ⟨z, y, vs, r, ob, es, ep, k _ _ (.inl rfl) e, c⟩
  | dT kvs =>
    obtain ⟨z, y, xs, r, ob, es, ep, e, c⟩ := x
    exact ⟨z, y, xs, Paired.mapP r fun p q z => ⟨z.1, z.2.1.imp (ht _ _) fun ⟨o, n, y⟩ => ⟨o, n, hc _ _ _ y n⟩, z.2.2⟩, ob, es, ep, k _ _ (.inl rfl) e, c⟩
  | set S n => obtain ⟨ob, es, ep, t, e, c⟩ := x; exact ⟨ob, es, ep, t, k _ _ (.inl rfl) e, c⟩
  | ins C dx fs =>
    obtain ⟨d, z, ne, e, mA, ⟨od, es, ep, e2, c⟩, r⟩ := x
    exact ⟨ho _ d, z, ne, k _ _ (.inl rfl) e, mA, ⟨od, es, ep, k _ _ (.inr d) e2, c⟩, r⟩
  | own y => obtain ⟨ob, e⟩ := x; exact ⟨ob, k _ _ (.inl rfl) e⟩
  | xd fs => obtain ⟨mA, ⟨od, es, ep, e, c⟩, r⟩ := x; exact ⟨mA, ⟨od, es, ep, k _ _ (.inl rfl) e, c⟩, r⟩
  | rng lo hi => obtain ⟨t, u, v, e⟩ := x; exact ⟨t, u, v, k _ _ (.inl rfl) e⟩
  | frz ob u ih => obtain ⟨e, q⟩ := x; exact ⟨k _ _ (.inl rfl) e, ih q⟩
  | tbl ps => obtain ⟨vs, e, t, z⟩ := x; exact ⟨vs, k _ _ (.inl rfl) e, t, fun p v y => let ⟨b, o, fs, t, e1, e2, e3⟩ := z p v y; ⟨b, o, fs, t, e1, hc _ _ _ e2 (fun v y => by rw [e3.1] at y; cases y), e3⟩⟩
  | met f y =>
    have e : h.get? a = some (PySem.W.methodObj (.ref f) (.ref y)) := x
    show h'.get? a = some (PySem.W.methodObj (.ref f) (.ref y))
    exact k a _ (.inl rfl) e
  | ext φ => obtain ⟨p, ⟨o, e⟩, st⟩ := x; exact ⟨st _ _ p fun o q => k _ _ (.inl rfl) q, ⟨o, k _ _ (.inl rfl) e⟩, st⟩
theorem HOk.lt (x : HOk P w H h) (e : H a = some o) : a < h.objs.size := (x a o e).lt
theorem HOk.fresh (x : HOk P w H h) (e : h.objs.size ≤ a) : H a = none := by
  cases q : H a with
  | none => rfl
  | some u => exact absurd (Nat.lt_of_lt_of_le (x.lt q) e) (Nat.lt_irrefl _)
theorem HOk.kept (x : HOk P w H h) (k : ∀ b u, h.get? b = some u → h'.get? b = some u) : HOk P w H h' := fun a o e =>
  (x a o e).stay (fun b u _ q => k b u q) (fun _ q => q) fun _ _ q => q
theorem HOk.laid (x : HOk P w H h) (k : ∀ b u, h.get? b = some u → h'.get? b = some u) (hp : h.objs.size ≤ a) (new : ObjOk P w (upd H a o) h' a o) : HOk P w (upd H a o) h' := fun b u e => by
  have hn := x.fresh hp
  by_cases hb : b = a
  · subst hb; rw [upd_same] at e; cases e; exact new
  · rw [upd_ne hb] at e
    exact (x b u e).stay (fun c v _ q => k c v q) (fun c q => by rw [upd_ne (ne_of_none q hn)]; exact q) fun c xs q => by rw [upd_ne (ne_of_none q hn)]; exact q
end
def Rd (H : Hp) (a : Addr) (u : HO) : Prop := H a = some u ∨ ∃ o, H a = some (.frz o u)
theorem Rd.of {H : Hp} {a : Addr} {u : HO} (h : H a = some u) : Rd H a u := .inl h
theorem Rd.ok {P : Program} {w : World} {H : Hp} {h : Heap} {a : Addr} {u : HO} (r : Rd H a u) (x : HOk P w H h) : ObjOk P w H h a u := by
  rcases r with r | ⟨o, r⟩
  · exact x a u r
  · obtain ⟨_, q⟩ := x a _ r
    exact q
def Mut : Option HO → Prop
  | some (.lst _) => True
  | some (.dK _) => True
  | some (.dT _) => True
  | some (.set _ _) => True
  | some (.ins _ _ _) => True
  | some (.ext _) => True
  | _ => False
section
variable {P : Program} {w : World} {H : Hp} {h h' : Heap} {x e : Addr} {o' : HO}
theorem HOk.write (ok : HOk P w H h) (mu : Mut (H x)) (he : e = x ∨ H e = some (.own x)) (k : ∀ b u, b ≠ e → h.get? b = some u → h'.get? b = some u) (heo : ∃ u, h'.get? e = some u)
    (new : ObjOk P w (upd H x o') h' x o') : HOk P w (upd H x o') h' := fun b u q => by
  have nown : ∀ c y, H c = some (.own y) → c ≠ x := fun c y r z => by subst z; rw [r] at mu; exact mu
  have ntup : ∀ c xs, H c = some (.tup xs) → c ≠ x := fun c xs r z => by subst z; rw [r] at mu; exact mu
  by_cases hb : b = x
  · subst hb; rw [upd_same] at q; cases q; exact new
  · rw [upd_ne hb] at q
    by_cases hbe : b = e
    · have q' : H b = some (.own x) := by
        rcases he with z | z
        · exact absurd (hbe.trans z) hb
        · rw [hbe]; exact z
      rw [q] at q'; cases q'
      obtain ⟨v, hv⟩ := heo
      exact ⟨v, by rw [hbe]; exact hv⟩
    · refine (ok b u q).stay (fun c v hc r => k c v ?_ r) (fun c r => by rw [upd_ne (nown c b r)]; exact r) fun c xs r => by rw [upd_ne (ntup c xs r)]; exact r
      rcases hc with rfl | hc
      · exact hbe
      · rintro rfl
        rcases he with z | z
        · exact nown c b hc z
        · rw [hc] at z; cases z; exact hb rfl
end
structure Un (fs ex : List Addr) (H H' : Hp) (h h' : Heap) : Prop where
  keep : ∀ b o, h.get? b = some o → H b = none → b ∉ fs → b ∉ ex → h'.get? b = some o
  slot : ∀ b o, h.get? b = some o → H b = none → b ∈ fs → b ∉ ex → ∃ sl, h'.get? b = some { o with slots := sl }
  free : ∀ b o, h.get? b = some o → H b = none → b ∉ ex → H' b = none
  there : ∀ b o, h.get? b = some o → b ∉ ex → ∃ o', h'.get? b = some o'
  tups : ∀ b xs, H b = some (.tup xs) → H' b = some (.tup xs)
  frzs : ∀ b o u, H b = some (.frz o u) → H' b = some (.frz o u)
  tbls : ∀ b ps, H b = some (.tbl ps) → ∃ more, H' b = some (.tbl (ps ++ more))
section
variable {fs fs' ex ex' : List Addr} {H H1 H2 : Hp} {h h1 h2 h' : Heap} {a x e : Addr} {o : HO}
theorem Un.any (u : Un fs ex H H1 h h1) {b : Addr} {ob : Obj} (q : h.get? b = some ob) (n : H b = none) (hx : b ∉ ex) : ∃ sl, h1.get? b = some { ob with slots := sl } := by
  by_cases hb : b ∈ fs
  · exact u.slot b ob q n hb hx
  · exact ⟨ob.slots, u.keep b ob q n hb hx⟩
theorem Un.trans (a : Un fs ex H H1 h h1) (b : Un fs ex H1 H2 h1 h2) : Un fs ex H H2 h h2 where
  keep := fun c ob q n hc hx => b.keep c ob (a.keep c ob q n hc hx) (a.free c ob q n hx) hc hx
  slot := fun c ob q n hc hx => by
    obtain ⟨sl, e1⟩ := a.slot c ob q n hc hx
    obtain ⟨sl', e2⟩ := b.slot c _ e1 (a.free c ob q n hx) hc hx
    exact ⟨sl', e2⟩
  free := fun c ob q n hx => by
    obtain ⟨o', e1⟩ := a.there c ob q hx
    exact b.free c o' e1 (a.free c ob q n hx) hx
  there := fun c ob q hx => by
    obtain ⟨o', e1⟩ := a.there c ob q hx
    exact b.there c o' e1 hx
  tups := fun c xs q => b.tups c xs (a.tups c xs q)
  frzs := fun c ob xs q => b.frzs c ob xs (a.frzs c ob xs q)
  tbls := fun c ps q => by
    obtain ⟨m1, e1⟩ := a.tbls c ps q
    obtain ⟨m2, e2⟩ := b.tbls c _ e1
    exact ⟨m1 ++ m2, by rw [e2, Array.append_assoc]⟩
theorem Un.kept (k : ∀ b u, h.get? b = some u → h'.get? b = some u) : Un fs ex H H h h' :=
  ⟨fun b ob q _ _ _ => k b ob q, fun b ob q _ _ _ => ⟨ob.slots, k b ob q⟩, fun _ _ _ n _ => n, fun b ob q _ => ⟨ob, k b ob q⟩, fun _ _ q => q, fun _ _ _ q => q, fun _ ps q => ⟨#[], by rw [q]; simp⟩⟩
theorem Un.refl : Un fs ex H H h h := Un.kept fun _ _ q => q
theorem Un.laid (k : ∀ b u, h.get? b = some u → h'.get? b = some u) (hp : h.objs.size ≤ a) (hn : H a = none) : Un fs ex H (upd H a o) h h' where
  keep := fun b u q _ _ _ => k b u q
  slot := fun b u q _ _ _ => ⟨u.slots, k b u q⟩
  free := fun b u q n _ => by rw [upd_ne (Nat.ne_of_lt (Nat.lt_of_lt_of_le (Heap.lt_size q) hp))]; exact n
  there := fun b u q _ => ⟨u, k b u q⟩
  tups := fun b xs q => by rw [upd_ne (ne_of_none q hn)]; exact q
  frzs := fun b u xs q => by rw [upd_ne (ne_of_none q hn)]; exact q
  tbls := fun b ps q => ⟨#[], by rw [upd_ne (ne_of_none q hn), q]; simp⟩
theorem Un.write (mu : Mut (H x)) (he : e = x ∨ H e = some (.own x)) (k : ∀ b u, b ≠ e → h.get? b = some u → h'.get? b = some u) (heo : ∃ u, h'.get? e = some u) : Un fs ex H (upd H x o) h h' := by
  have hx : ∀ b, H b = none → b ≠ x := fun b n z => by subst z; rw [n] at mu; exact mu
  have hb : ∀ b, H b = none → b ≠ e := fun b n z => by
    subst z
    rcases he with r | r
    · exact hx b n r
    · rw [n] at r; cases r
  have hm : ∀ b u, H b = some u → ¬ Mut (some u) → b ≠ x := fun b u q nm z => by subst z; rw [q] at mu; exact nm mu
  refine ⟨fun b u q n _ _ => k b u (hb b n) q, fun b u q n _ _ => ⟨u.slots, k b u (hb b n) q⟩, fun b u q n _ => by rw [upd_ne (hx b n)]; exact n, fun b u q _ => ?_,
    fun b xs q => by rw [upd_ne (hm b _ q fun z => z)]; exact q, fun b u xs q => by rw [upd_ne (hm b _ q fun z => z)]; exact q, fun b ps q => ⟨#[], by rw [upd_ne (hm b _ q fun z => z), q]; simp⟩⟩
  by_cases hbe : b = e
  · subst hbe; exact heo
  · exact ⟨u, k b u hbe q⟩
theorem Un.mono (u : Un fs ex H H1 h h1) (hs : ∀ b ∈ fs, b ∈ fs') (hx : ∀ b ∈ ex, b ∈ ex') : Un fs' ex' H H1 h h1 :=
  ⟨fun b ob q n hb he => u.keep b ob q n (fun z => hb (hs b z)) fun z => he (hx b z), fun _ _ q n _ he => u.any q n fun z => he (hx _ z), fun b ob q n he => u.free b ob q n fun z => he (hx b z), fun b ob q he => u.there b ob q fun z => he (hx b z), u.tups, u.frzs, u.tbls⟩
end
def trk (h : Heap) (H : Hp) : List Addr := (List.range h.objs.size).filter fun a => (H a).isSome
def hidT (h : Heap) (H : Hp) : Heap := PySem.W.hideAll h (trk h H)
theorem hidT_size (h : Heap) (H : Hp) : (hidT h H).objs.size = h.objs.size := PySem.W.hideAll_size _ _
theorem hidT_get {h : Heap} {H : Hp} {b : Addr} {o : Obj} (e : h.get? b = some o) (n : H b = none) : (hidT h H).get? b = some o :=
  PySem.W.hideAll_get _ e fun hm => by
    have q : (H b).isSome = true := (List.mem_filter.mp hm).2
    rw [n] at q; simp at q
theorem of_hidT {h : Heap} {H : Hp} {b : Addr} {o : Obj} (e : (hidT h H).get? b = some o) : h.get? b = some o ∧ H b = none := by
  have e' : h.get? b = some o := PySem.W.of_hideAll (trk h H) e
  refine ⟨e', ?_⟩
  cases q : H b with
  | none => rfl
  | some x =>
    have hm : b ∈ trk h H := List.mem_filter.mpr ⟨List.mem_range.mpr (Heap.lt_size e'), by simp [q]⟩
    have z : (hidT h H).get? b = none := PySem.W.hideAll_none (trk h H) hm
    rw [z] at e; cases e
def allNews (g h : Heap) (L : Addr) : List (Addr × Obj) := (List.range h.objs.size).filterMap fun a => if a = L ∨ (g.get? a).isSome = true then none else (h.get? a).map fun o => (a, o)
def rest (g h : Heap) (L d : Addr) : List (Addr × Obj) := (allNews g h L).filter fun p => decide (p.1 ≠ d)
end L2
namespace L2
open PySem PySem.Spec PyProof.Rows
def lamNames : List Str := ["above", "beneath", "above_in", "clumps", "reach", "least_parting", "least_set", "why_not"]
def tabAt (o : Obj) : Option (Addr × Str) := match o.cls, o.data with
  | .type "code", .fields vs => (match (vs[1]? : Option Value), (vs[11]? : Option Value) with
    | some (.str q _), some (.ref P) => if lamNames.contains q then some (P, q ++ ".<locals>.<lambda>") else none
    | _, _ => none)
  | _, _ => none
def tabsOf (K : PySem.W.Frag) : List (Addr × Str) := K.filterMap fun p => (K.lookup p.1).bind tabAt
def tabsUq (K : PySem.W.Frag) : Bool := (tabsOf K).all fun p => (K.lookup p.1).isNone && (tabsOf K).all fun q => decide (p.1 = q.1 → p.2 = q.2)
def TbOk (K : PySem.W.Frag) (H : Hp) : Prop := ∀ p ∈ tabsOf K, ∃ t more, H p.1 = some (.tbl (#[.str p.2 t] ++ more))
theorem TbOk.un {K : PySem.W.Frag} {fs ex : List Addr} {H H' : Hp} {h h' : Heap} (t : TbOk K H) (u : Un fs ex H H' h h') : TbOk K H' := fun p hp => by
  obtain ⟨k, m, e⟩ := t p hp
  obtain ⟨m', e'⟩ := u.tbls _ _ e
  exact ⟨k, m ++ m', by rw [e', Array.append_assoc]⟩
structure Mod (K : PySem.W.Frag) (mg : Str → Option Value) (base : Heap) : Prop where
  kin : K.In base
  glob : base.Ns mainGlobals mg
  blt : ∃ mb, base.Ns builtinsNs mb ∧ ∀ x : Str, x ≠ "__name__" → mb x = bootBuiltins x
  nolimit : base.NoLimit
  bm : ∃ bm ob, mg "__builtins__" = some (.ref bm) ∧ bm ≠ builtinsNs ∧ base.get? bm = some ob ∧ ob.cls = .type "module" ∧ ob.dict = some builtinsNs ∧ ob.data = .plain
structure Cx where
  prog : Program
  w : World
  K : PySem.W.Frag
  mg : Str → Option Value
  base : Heap
  A : Around
  N : List Str
  s₀ : Shared
  H₀ : Hp
  env : Env
  outer : List Env
  stack : List Env
  ex : List Addr
  fn : Str → Bool
  calm : Bool
  pn : List (Addr × Obj)
  xe : Value → Shared → Prop
def frs (l : List Env) : List Addr := l.filterMap (·.frame)
abbrev Cx.fs (X : Cx) : List Addr := frs X.outer
def Vis (sc : Scope) (x : Str) : Prop := sc.names.lookup x = some .local ∨ sc.names.lookup x = some .cell ∨ sc.names.lookup x = some .free
def Loc (sc : Scope) (x : Str) : Prop := sc.names.lookup x = some .local ∨ sc.names.lookup x = some .cell
def Look (env : Env) (h : Heap) (m : Str → Option Value) (x : Str) (u : Value) : Prop :=
  (env.kindOf x = some .local ∧ m x = some u) ∨ ((env.kindOf x = some .cell ∨ env.kindOf x = some .free) ∧ ∃ c, env.cells.lookup x = some c ∧ h.IsCell c (some u))
structure Cx.Ok (X : Cx) : Prop where
  mod : Mod X.K X.mg X.base
  kind : X.env.scope.kind = .function
  glob : X.env.globals = mainGlobals
  blt : X.env.builtins = builtinsNs
  above : X.s₀.heap.objs.size ≤ X.env.locals
  inj : ∀ x y c, X.env.cells.lookup x = some c → X.env.cells.lookup y = some c → x = y
  has : ∀ x, (X.env.kindOf x = some .cell ∨ X.env.kindOf x = some .free) → ∃ c, X.env.cells.lookup x = some c
  cab : ∀ x c, X.fn x = true → X.env.cells.lookup x = some c → X.s₀.heap.objs.size ≤ c
  hd : X.calm = true → X.A.handled = none
  frames : X.A.frames = some X.stack
  stk : X.stack = X.outer ∨ (X.stack = X.env :: X.outer ∧ X.env.frame = some X.env.locals)
  exf : ∀ b ∈ X.ex, b ≠ X.env.locals ∧ ∀ x c, X.env.cells.lookup x = some c → c ≠ b
  bs : ∀ b o, X.base.get? b = some o → X.s₀.heap.get? b = some o ∧ X.H₀ b = none
  bsz : X.base.objs.size ≤ X.s₀.heap.objs.size
  noex : ∀ b o, X.base.get? b = some o → b ∉ X.ex
  exfs : ∀ b ∈ X.ex, b ∉ X.fs
  funs : X.s₀.heap.FunFrames X.base X.outer
  frf : ∀ b ∈ X.fs, X.H₀ b = none
  tb : TbOk X.K X.H₀
structure Inv (X : Cx) (pins : List (Addr × Obj)) (σ : List (Option V)) (H : Hp) (s : Shared) : Prop where
  ok : X.Ok
  os : s.os = X.s₀.os
  bare : AllBare s.gens
  base : Un X.fs X.ex X.H₀ H X.s₀.heap s.heap
  loc : ∃ m, s.heap.Ns X.env.locals m ∧ ∀ (i : Nat) (x : Str) (v : V), X.N[i]? = some x → σ[i]? = some (some v) → Vis X.env.scope x → ∃ u, RelV v u ∧ Look X.env s.heap m x u
  cell : ∀ x c, X.env.cells.lookup x = some c → ∃ v, s.heap.IsCell c v
  free : H X.env.locals = none
  freeC : ∀ x c, X.env.cells.lookup x = some c → H c = none ∨ X.fn x = false ∧ ∃ o u, H c = some (.frz o u)
  pin : ∀ p ∈ X.pn ++ pins, s.heap.get? p.1 = some p.2 ∧ H p.1 = none ∧ p.1 ≠ X.env.locals ∧ p.1 ∉ X.fs ∧ ∀ v, p.2.data ≠ .cell v
  hok : HOk X.prog X.w H s.heap
  len : σ.length = X.N.length
section
variable {X : Cx} {pins : List (Addr × Obj)} {σ : List (Option V)} {H H' : Hp} {s : Shared} {h' : Heap}
theorem Cx.Ok.nofr (ok : X.Ok) {b : Addr} {o : Obj} (e : X.base.get? b = some o) : b ∉ X.fs := fun hb => by
  have := (ok.funs.mem hb).1
  rw [e] at this; cases this
theorem Inv.bs (I : Inv X pins σ H s) : ∀ b o, X.base.get? b = some o → s.heap.get? b = some o ∧ H b = none := fun b o e =>
  ⟨I.base.keep b o (I.ok.bs b o e).1 (I.ok.bs b o e).2 (I.ok.nofr e) (I.ok.noex b o e), I.base.free b o (I.ok.bs b o e).1 (I.ok.bs b o e).2 (I.ok.noex b o e)⟩
theorem Inv.bk (I : Inv X pins σ H s) : ∀ b o, X.base.get? b = some o → s.heap.get? b = some o := fun b o e => (I.bs b o e).1
theorem Inv.mod (I : Inv X pins σ H s) : Mod X.K X.mg X.base := I.ok.mod
theorem Inv.kIn (I : Inv X pins σ H s) : X.K.In s.heap := I.ok.mod.kin.keeps I.bk
theorem Inv.nolimit (I : Inv X pins σ H s) : s.heap.NoLimit := I.ok.mod.nolimit.keeps I.bk
theorem Inv.lt (I : Inv X pins σ H s) : X.env.locals < s.heap.objs.size := let ⟨_, hn, _⟩ := I.loc; hn.lt
theorem Inv.sz (I : Inv X pins σ H s) : X.s₀.heap.objs.size ≤ s.heap.objs.size := Nat.le_trans I.ok.above (Nat.le_of_lt I.lt)
theorem Inv.nofs (I : Inv X pins σ H s) {a : Addr} (h : s.heap.objs.size ≤ a) : a ∉ X.fs := fun hb => by
  obtain ⟨_, o, ho, _⟩ := I.ok.funs.mem hb
  exact absurd (Nat.lt_of_lt_of_le (Heap.lt_size ho) (Nat.le_trans I.sz h)) (Nat.lt_irrefl _)
theorem Inv.cne (I : Inv X pins σ H s) : ∀ x c, X.env.cells.lookup x = some c → c ≠ X.env.locals := fun x c e z => by
  obtain ⟨v, o, ho, hd⟩ := I.cell x c e
  obtain ⟨m, ⟨o', es, ep, ho', hd', _⟩, _⟩ := I.loc
  rw [z, ho'] at ho; cases ho; rw [hd'] at hd; cases hd
theorem Inv.funs (I : Inv X pins σ H s) : s.heap.FunFrames X.base X.outer := by
  have all : ∀ (l : List Env), (∀ b ∈ frs l, b ∈ X.fs) → X.s₀.heap.FunFrames X.base l → s.heap.FunFrames X.base l := by
    intro l
    induction l with
    | nil => intro _ _; trivial
    | cons env r ih =>
      intro hs hl
      obtain ⟨hk, ⟨L, o, hf, hn, ho, hd⟩, hr⟩ := hl
      have hL : L ∈ X.fs := hs L (by unfold frs; rw [List.filterMap_cons, hf]; exact List.mem_cons_self)
      obtain ⟨sl, e⟩ := I.base.slot L o ho (I.ok.frf L hL) hL fun z => I.ok.exfs L z hL
      exact ⟨hk, ⟨L, _, hf, hn, e, hd⟩, ih (fun b hb => hs b (by unfold frs; rw [List.filterMap_cons, hf]; exact List.mem_cons_of_mem _ hb)) hr⟩
  exact all X.outer (fun _ hb => hb) I.ok.funs
theorem Inv.stack (I : Inv X pins σ H s) : s.heap.FunFrames X.base X.stack := by
  rcases I.ok.stk with e | ⟨e, hf⟩
  · rw [e]; exact I.funs
  · rw [e]
    obtain ⟨m, hn, _⟩ := I.loc
    refine .cons (by rw [I.ok.kind]; decide) hf hn ?_ I.funs
    exact Heap.get?_none_of_le (Nat.le_trans I.ok.bsz I.ok.above)
theorem Inv.stkSub (I : Inv X pins σ H s) : ∀ b ∈ frs X.stack, b ∈ X.env.locals :: X.fs := fun b hb => by
  rcases I.ok.stk with e | ⟨e, hf⟩
  · rw [e] at hb; exact List.mem_cons_of_mem _ hb
  · rw [e] at hb
    unfold frs at hb
    rw [List.filterMap_cons, hf] at hb
    exact hb
theorem Inv.stkFree (I : Inv X pins σ H s) : ∀ b ∈ frs X.stack, H b = none := fun b hb => by
  rcases List.mem_cons.mp (I.stkSub b hb) with e | hb
  · rw [e]; exact I.free
  · obtain ⟨_, o, ho, _⟩ := I.ok.funs.mem hb
    exact I.base.free b o ho (I.ok.frf b hb) fun z => I.ok.exfs b z hb
theorem Inv.step {g' : Array GenState} {t' : Nat} {d' : Drawn} {ch : List Addr} (I : Inv X pins σ H s)
    (hch : ∀ b ∈ ch, (b ∈ X.ex ∨ X.s₀.heap.objs.size ≤ b) ∧ b ≠ X.env.locals ∧ (∀ x c, X.env.cells.lookup x = some c → c ≠ b) ∧ ∀ p ∈ X.pn ++ pins, p.1 ≠ b)
    (keep : ∀ b o, b ≠ X.env.locals → b ∉ X.fs → b ∉ ch → s.heap.get? b = some o → H b = none → h'.get? b = some o)
    (slot : ∀ b o, b ≠ X.env.locals → b ∈ X.fs → b ∉ ch → s.heap.get? b = some o → H b = none → ∃ sl, h'.get? b = some { o with slots := sl }) (free : ∀ b o, b ∉ ch → s.heap.get? b = some o → H b = none → H' b = none)
    (there : ∀ b o, b ∉ ch → s.heap.get? b = some o → ∃ o', h'.get? b = some o')
    (tups : ∀ b xs, H b = some (.tup xs) → H' b = some (.tup xs)) (frzs : ∀ b o u, H b = some (.frz o u) → H' b = some (.frz o u)) (tbls : ∀ b ps, H b = some (.tbl ps) → ∃ more, H' b = some (.tbl (ps ++ more)))
    (ns : ∀ m, s.heap.Ns X.env.locals m → h'.Ns X.env.locals m) (hok : HOk X.prog X.w H' h') (hg : AllBare g') :
    Inv X pins σ H' { s with heap := h', gens := g', drawn := d', toks := t' } := by
  have neL : ∀ b o, X.s₀.heap.get? b = some o → b ≠ X.env.locals := fun b o e => Nat.ne_of_lt (Nat.lt_of_lt_of_le (Heap.lt_size e) I.ok.above)
  have neC : ∀ b o, X.s₀.heap.get? b = some o → b ∉ X.ex → b ∉ ch := fun b o e hx hb => by
    rcases (hch b hb).1 with z | z
    · exact hx z
    · exact absurd (Nat.lt_of_lt_of_le (Heap.lt_size e) z) (Nat.lt_irrefl _)
  have cellK : ∀ x c, X.env.cells.lookup x = some c → ∀ v, s.heap.IsCell c v → h'.IsCell c v := fun x c e v ⟨o, ho, hd⟩ => by
    have nch : c ∉ ch := fun z => (hch c z).2.2.1 x c e rfl
    rcases I.freeC x c e with hn | ⟨_, o1, u1, hn⟩
    · by_cases hc : c ∈ X.fs
      · obtain ⟨sl, q⟩ := slot c o (I.cne x c e) hc nch ho hn
        exact ⟨_, q, hd⟩
      · exact ⟨o, keep c o (I.cne x c e) hc nch ho hn, hd⟩
    · have q1 := (I.hok c _ hn).1
      rw [ho] at q1
      cases q1
      exact ⟨o, (hok c _ (frzs c _ _ hn)).1, hd⟩
  refine ⟨I.ok, I.os, hg, ⟨fun b o e n hb hx => ?_, fun b o e n hb hx => ?_, fun b o e n hx => ?_, fun b o e hx => ?_, fun b xs e => tups b xs (I.base.tups b xs e), fun b o xs e => frzs b o xs (I.base.frzs b o xs e), fun b ps e => ?_⟩, ?_, fun x c e => ?_, ?_, fun x c e => ?_, fun p hp => ?_, hok, I.len⟩
  · exact keep b o (neL b o e) hb (neC b o e hx) (I.base.keep b o e n hb hx) (I.base.free b o e n hx)
  · obtain ⟨sl, e1⟩ := I.base.slot b o e n hb hx
    obtain ⟨sl', e2⟩ := slot b _ (neL b o e) hb (neC b o e hx) e1 (I.base.free b o e n hx)
    exact ⟨sl', e2⟩
  · obtain ⟨o', e1⟩ := I.base.there b o e hx
    exact free b o' (neC b o e hx) e1 (I.base.free b o e n hx)
  · obtain ⟨o', e1⟩ := I.base.there b o e hx
    exact there b o' (neC b o e hx) e1
  · obtain ⟨m1, e1⟩ := I.base.tbls b ps e
    obtain ⟨m2, e2⟩ := tbls b _ e1
    exact ⟨m1 ++ m2, by rw [e2, Array.append_assoc]⟩
  · obtain ⟨m, hn, hl⟩ := I.loc
    refine ⟨m, ns m hn, fun i x v e1 e2 e3 => ?_⟩
    obtain ⟨u, r, l⟩ := hl i x v e1 e2 e3
    refine ⟨u, r, ?_⟩
    rcases l with l | ⟨k, c, e, z⟩
    · exact .inl l
    · exact .inr ⟨k, c, e, cellK x c e _ z⟩
  · obtain ⟨v, z⟩ := I.cell x c e
    exact ⟨v, cellK x c e v z⟩
  · obtain ⟨m, ⟨o, _, _, ho, _⟩, _⟩ := I.loc
    exact free _ o (fun z => (hch _ z).2.1 rfl) ho I.free
  · obtain ⟨v, o, ho, hd⟩ := I.cell x c e
    exact (I.freeC x c e).elim (fun n => .inl (free c o (fun z => (hch c z).2.2.1 x c e rfl) ho n)) fun ⟨y1, o1, u1, y2⟩ => .inr ⟨y1, o1, u1, frzs c o1 u1 y2⟩
  · obtain ⟨e, n, ne, nf, d⟩ := I.pin p hp
    have nch : p.1 ∉ ch := fun z => (hch p.1 z).2.2.2 p hp rfl
    exact ⟨keep p.1 p.2 ne nf nch e n, free p.1 p.2 nch e n, ne, nf, d⟩
theorem Inv.un {t' : Nat} (I : Inv X pins σ H s) (u : Un X.fs [] H H' s.heap h') (hok : HOk X.prog X.w H' h') : Inv X pins σ H' { s with heap := h', toks := t' } := by
  obtain ⟨m, ⟨o, es, ep, ho, r⟩, _⟩ := id I.loc
  obtain ⟨sl, hL⟩ := u.any ho I.free (by simp)
  exact I.step (g' := s.gens) (d' := s.drawn) (ch := []) (fun _ z => nomatch z) (fun b o _ hb _ e n => u.keep b o e n hb (by simp)) (fun b o _ hb _ e n => u.slot b o e n hb (by simp)) (fun b o _ e n => u.free b o e n (by simp)) (fun b o _ e => u.there b o e (by simp)) u.tups u.frzs u.tbls (fun m' hm => by
    obtain ⟨o', es', ep', ho', r'⟩ := hm
    rw [ho] at ho'; cases ho'
    exact ⟨_, es', ep', hL, r'⟩) hok I.bare
theorem Inv.call {g' : Array GenState} {t' : Nat} {d' : Drawn} {ch : List Addr} (I : Inv X pins σ H s) (u : Un (frs X.stack) ch H H' s.heap h') (hok : HOk X.prog X.w H' h') (hg : AllBare g')
    (hch : ∀ b ∈ ch, (b ∈ X.ex ∨ X.s₀.heap.objs.size ≤ b) ∧ b ≠ X.env.locals ∧ (∀ x c, X.env.cells.lookup x = some c → c ≠ b) ∧ ∀ p ∈ X.pn ++ pins, p.1 ≠ b) :
    Inv X pins σ H' { s with heap := h', gens := g', drawn := d', toks := t' } := by
  obtain ⟨m, ⟨o, es, ep, ho, r⟩, _⟩ := id I.loc
  obtain ⟨sl, hL⟩ := u.any ho I.free fun z => (hch _ z).2.1 rfl
  exact I.step (ch := ch) hch (fun b o hL hb hc e n => u.keep b o e n (fun z => (List.mem_cons.mp (I.stkSub b z)).elim hL hb) hc) (fun b o _ _ hc e n => u.any e n hc) (fun b o hc e n => u.free b o e n hc) (fun b o hc e => u.there b o e hc) u.tups u.frzs u.tbls (fun m' hm => by
    obtain ⟨o', es', ep', ho', r'⟩ := hm
    rw [ho] at ho'; cases ho'
    exact ⟨_, es', ep', hL, r'⟩) hok hg
theorem Inv.turned {t' : Nat} {it : Addr} (I : Inv X pins σ H s) (k : ∀ b o, b ≠ it → s.heap.get? b = some o → h'.get? b = some o) (hn : H it = none) (hL : it ≠ X.env.locals)
    (h1 : it ∈ X.ex ∨ X.s₀.heap.objs.size ≤ it) (h2 : ∀ x c, X.env.cells.lookup x = some c → c ≠ it) (h3 : ∀ p ∈ X.pn ++ pins, p.1 ≠ it) : Inv X pins σ H { s with heap := h', toks := t' } := by
  have nit : ∀ b u, H b = some u → b ≠ it := fun b u e z => by rw [z, hn] at e; cases e
  refine I.step (g' := s.gens) (d' := s.drawn) (ch := [it]) (fun b hb => ?_) (fun b o _ _ hc e _ => k b o (fun z => hc (by simp [z])) e) (fun b o _ _ hc e _ => ⟨o.slots, k b o (fun z => hc (by simp [z])) e⟩) (fun _ _ _ _ n => n)
    (fun b o hc e => ⟨o, k b o (fun z => hc (by simp [z])) e⟩) (fun _ _ e => e) (fun _ _ _ e => e) (fun b ps e => ⟨#[], by rw [e]; simp⟩) (fun m hm => ?_) (fun b u e => ?_) I.bare
  · have e : b = it := by simpa using hb
    subst e
    exact ⟨h1, hL, h2, h3⟩
  · obtain ⟨o, es, ep, ho, r⟩ := hm
    exact ⟨o, es, ep, k _ o (Ne.symm hL) ho, r⟩
  · refine (I.hok b u e).stay (fun c v hc q => k c v ?_ q) (fun _ q => q) fun _ _ q => q
    rcases hc with z | z
    · rw [z]; exact nit b u e
    · exact nit c _ z
theorem Inv.tok (I : Inv X pins σ H s) (t : Nat) : Inv X pins σ H { s with toks := t } := I.un (h' := s.heap) (t' := t) Un.refl I.hok
theorem Inv.kept {t' : Nat} (I : Inv X pins σ H s) (k : ∀ b u, s.heap.get? b = some u → h'.get? b = some u) : Inv X pins σ H { s with heap := h', toks := t' } := I.un (Un.kept k) (I.hok.kept k)
theorem Inv.laid {a : Addr} {o : HO} {t' : Nat} (I : Inv X pins σ H s) (k : ∀ b u, s.heap.get? b = some u → h'.get? b = some u) (hp : s.heap.objs.size ≤ a) (new : ObjOk X.prog X.w (upd H a o) h' a o) :
    Inv X pins σ (upd H a o) { s with heap := h', toks := t' } := I.un (Un.laid k hp (I.hok.fresh hp)) (I.hok.laid k hp new)
theorem Inv.write {x e : Addr} {o : HO} {t' : Nat} (I : Inv X pins σ H s) (mu : Mut (H x)) (he : e = x ∨ H e = some (.own x)) (k : ∀ b u, b ≠ e → s.heap.get? b = some u → h'.get? b = some u) (heo : ∃ u, h'.get? e = some u)
    (new : ObjOk X.prog X.w (upd H x o) h' x o) : Inv X pins σ (upd H x o) { s with heap := h', toks := t' } := I.un (Un.write mu he k heo) (I.hok.write mu he k heo new)
theorem Inv.weak {σ' : List (Option V)} (I : Inv X pins σ H s) (hl : σ'.length = σ.length) (w : ∀ (i : Nat) v, σ'[i]? = some (some v) → σ[i]? = some (some v)) : Inv X pins σ' H s :=
  ⟨I.ok, I.os, I.bare, I.base, let ⟨m, hn, hl'⟩ := I.loc; ⟨m, hn, fun i x v e1 e2 e3 => hl' i x v e1 (w i v e2) e3⟩, I.cell, I.free, I.freeC, I.pin, I.hok, hl.trans I.len⟩
theorem Inv.pins_of {pins' : List (Addr × Obj)} (I : Inv X pins σ H s) (h : ∀ p ∈ pins', s.heap.get? p.1 = some p.2 ∧ H p.1 = none ∧ p.1 ≠ X.env.locals ∧ p.1 ∉ X.fs ∧ ∀ v, p.2.data ≠ .cell v) : Inv X pins' σ H s :=
  ⟨I.ok, I.os, I.bare, I.base, I.loc, I.cell, I.free, I.freeC, fun p hp => (List.mem_append.mp hp).elim (fun z => I.pin p (List.mem_append_left _ z)) (h p), I.hok, I.len⟩
theorem nodup_ix {N : List Str} (hN : N.Nodup) {i j : Nat} {x : Str} (a : N[i]? = some x) (b : N[j]? = some x) : i = j := by
  obtain ⟨h1, e1⟩ := List.getElem?_eq_some_iff.mp a
  obtain ⟨h2, e2⟩ := List.getElem?_eq_some_iff.mp b
  exact (List.getElem_inj hN).mp (e1.trans e2.symm)
theorem store_ok2 {M : Model} {A : Around} {E : Value → Shared → Prop} {i : Nat} {x : Str} {v : V} {u : Value} {Q : Unit → Shared → Prop} (I : Inv X pins σ H s) (hN : X.N.Nodup) (hi : X.N[i]? = some x) (hx : Loc X.env.scope x) (r : RelV v u)
    (h : ∀ s', Inv X pins (σ.set i (some v)) H s' → (∃ a, Heap.SameBut a s.heap s'.heap ∧ (a = X.env.locals ∨ X.env.cells.lookup x = some a)) → Q () s') (hf : X.fn x = true ∨ X.env.scope.names.lookup x = some .local := by first | exact .inl rfl | exact .inr rfl | assumption) : wpAny M A (storeName X.env x u) Q E s := by
  obtain ⟨m, hn, hl⟩ := id I.loc
  have hcls : (X.env.scope.kind == .class || (X.env.scope.kind == .module && X.env.locals != X.env.globals)) = false := by rw [I.ok.kind]; rfl
  have hiσ : i < σ.length := by rw [I.len]; exact (List.getElem?_eq_some_iff.mp hi).1
  have cne := I.cne
  have tracked : ∀ {a : Addr} {h' : Heap}, (∃ o, s.heap.get? a = some o ∧ H a = none) → Heap.SameBut a s.heap h' → HOk X.prog X.w H h' := fun {a h'} ha hs b ob e => by
    obtain ⟨_, _, hfree⟩ := ha
    refine (I.hok b ob e).stay (fun c w' hc q => (hs.2 c ?_).trans q) (fun _ q => q) fun _ _ q => q
    rintro rfl
    rcases hc with rfl | hc
    · rw [hfree] at e; cases e
    · rw [hfree] at hc; cases hc
  rcases hx with hk | hk
  · refine wpAny_storeName_local hk hn (fun h' hn' hs => ?_) hcls
    obtain ⟨oL, _, _, hoL, _⟩ := id hn
    refine h _ ⟨I.ok, I.os, I.bare, ⟨fun b o e n hb hx => ?_, fun b o e n hb hx => ?_, I.base.free, fun b o e hx => ?_, I.base.tups, I.base.frzs, I.base.tbls⟩, ⟨_, hn', fun j y v' e1 e2 e3 => ?_⟩, fun y c e => ?_, I.free, I.freeC, fun p hp => ?_, tracked ⟨oL, hoL, I.free⟩ hs, by simpa using I.len⟩ ⟨_, hs, .inl rfl⟩
    · exact (hs.2 b (Nat.ne_of_lt (Nat.lt_of_lt_of_le (Heap.lt_size e) I.ok.above))).trans (I.base.keep b o e n hb hx)
    · obtain ⟨sl, e1⟩ := I.base.slot b o e n hb hx
      exact ⟨sl, (hs.2 b (Nat.ne_of_lt (Nat.lt_of_lt_of_le (Heap.lt_size e) I.ok.above))).trans e1⟩
    · obtain ⟨o', e1⟩ := I.base.there b o e hx
      exact ⟨o', (hs.2 b (Nat.ne_of_lt (Nat.lt_of_lt_of_le (Heap.lt_size e) I.ok.above))).trans e1⟩
    · by_cases hj : j = i
      · subst hj
        rw [hi] at e1; cases e1
        rw [List.getElem?_set_self hiσ] at e2
        cases e2
        exact ⟨u, r, .inl ⟨hk, by simp⟩⟩
      · rw [List.getElem?_set_ne (Ne.symm hj)] at e2
        obtain ⟨u', r', q⟩ := hl j y v' e1 e2 e3
        refine ⟨u', r', ?_⟩
        rcases q with ⟨k, e⟩ | ⟨k, c, e, z⟩
        · refine .inl ⟨k, ?_⟩
          have : y ≠ x := fun e => hj (nodup_ix hN e1 (e ▸ hi))
          simp [this, e]
        · exact .inr ⟨k, c, e, z.sameBut hs (cne y c e)⟩
    · obtain ⟨w', z⟩ := I.cell y c e
      exact ⟨w', z.sameBut hs (cne y c e)⟩
    · obtain ⟨e, n, ne, nf, d⟩ := I.pin p hp
      exact ⟨(hs.2 p.1 ne).trans e, n, ne, nf, d⟩
  · have hfn : X.fn x = true := by
      rcases hf with z | z
      · exact z
      · rw [z] at hk; cases hk
    obtain ⟨c, hc⟩ := I.ok.has x (.inl hk)
    obtain ⟨w', z⟩ := I.cell x c hc
    refine wpAny_storeName_cell I.ok.kind hk hc z (fun h' hc' hs => ?_)
    obtain ⟨oc, hoc, hocd⟩ := id z
    refine h { s with heap := h' } ⟨I.ok, I.os, I.bare, ⟨fun b o e n hb hx => ?_, fun b o e n hb hx => ?_, I.base.free, fun b o e hx => ?_, I.base.tups, I.base.frzs, I.base.tbls⟩, ⟨m, hn.sameBut hs (Ne.symm (cne x c hc)), fun j y v' e1 e2 e3 => ?_⟩, fun y c' e => ?_, I.free, I.freeC, fun p hp => ?_, tracked ⟨oc, hoc, (I.freeC x c hc).elim (fun n => n) fun z => by rw [hfn] at z; cases z.1⟩ hs, by simpa using I.len⟩ ⟨c, hs, .inr hc⟩
    · exact (hs.2 b (Nat.ne_of_lt (Nat.lt_of_lt_of_le (Heap.lt_size e) (I.ok.cab x c hfn hc)))).trans (I.base.keep b o e n hb hx)
    · obtain ⟨sl, e1⟩ := I.base.slot b o e n hb hx
      exact ⟨sl, (hs.2 b (Nat.ne_of_lt (Nat.lt_of_lt_of_le (Heap.lt_size e) (I.ok.cab x c hfn hc)))).trans e1⟩
    · obtain ⟨o', e1⟩ := I.base.there b o e hx
      exact ⟨o', (hs.2 b (Nat.ne_of_lt (Nat.lt_of_lt_of_le (Heap.lt_size e) (I.ok.cab x c hfn hc)))).trans e1⟩
    · by_cases hj : j = i
      · subst hj
        rw [hi] at e1; cases e1
        rw [List.getElem?_set_self hiσ] at e2
        cases e2
        exact ⟨u, r, .inr ⟨.inl hk, c, hc, hc'⟩⟩
      · rw [List.getElem?_set_ne (Ne.symm hj)] at e2
        obtain ⟨u', r', q⟩ := hl j y v' e1 e2 e3
        refine ⟨u', r', ?_⟩
        rcases q with q | ⟨k, c', e, z'⟩
        · exact .inl q
        · refine .inr ⟨k, c', e, z'.sameBut hs ?_⟩
          rintro rfl
          exact hj (nodup_ix hN e1 (I.ok.inj _ _ _ e hc ▸ hi))
    · by_cases hcc : c' = c
      · subst hcc; exact ⟨_, hc'⟩
      · obtain ⟨w2, z2⟩ := I.cell y c' e
        exact ⟨w2, z2.sameBut hs hcc⟩
    · obtain ⟨e, n, ne, nf, d⟩ := I.pin p hp
      refine ⟨(hs.2 p.1 ?_).trans e, n, ne, nf, d⟩
      intro q
      rw [q, hoc] at e
      have q' : oc = p.2 := Option.some.inj e
      exact d w' (by rw [← q']; exact hocd)
theorem store_ok {M : Model} {A : Around} {E : Value → Shared → Prop} {i : Nat} {x : Str} {v : V} {u : Value} {Q : Unit → Shared → Prop} (I : Inv X pins σ H s) (hN : X.N.Nodup) (hi : X.N[i]? = some x) (hx : Loc X.env.scope x) (r : RelV v u)
    (h : ∀ s', Inv X pins (σ.set i (some v)) H s' → Q () s') (hf : X.fn x = true ∨ X.env.scope.names.lookup x = some .local := by first | exact .inl rfl | exact .inr rfl | assumption) : wpAny M A (storeName X.env x u) Q E s :=
  store_ok2 I hN hi hx r (fun s' I' _ => h s' I') hf
theorem Inv.call' {s' : Shared} {ch : List Addr} (I : Inv X pins σ H s) (ho : s'.os = s.os) (u : Un (frs X.stack) ch H H' s.heap s'.heap) (hok : HOk X.prog X.w H' s'.heap) (hg : AllBare s'.gens)
    (hch : ∀ b ∈ ch, (b ∈ X.ex ∨ X.s₀.heap.objs.size ≤ b) ∧ b ≠ X.env.locals ∧ (∀ x c, X.env.cells.lookup x = some c → c ≠ b) ∧ ∀ p ∈ X.pn ++ pins, p.1 ≠ b) : Inv X pins σ H' s' := by
  obtain ⟨h', g', d', t', o'⟩ := s'
  have e : o' = s.os := ho
  subst e
  exact I.call (g' := g') (t' := t') (d' := d') u hok hg hch
end
abbrev XK := Value → Option Addr → Hp → Prop
abbrev St := List (Option V)
abbrev VK := V → Hp → Prop
abbrev TE := St → Hp → VK → Prop
abbrev TT := St → Hp → (Bool → Hp → Prop) → Prop
abbrev TA := St → Hp → (List V → Hp → Prop) → Prop
structure Ends where
  nx : St → Hp → Prop
  rt : VK
  bk : St → Hp → Prop := fun _ _ => False
  ct : St → Hp → Prop := fun _ _ => False
abbrev TS := Ends → St → Hp → Prop
def EP (X : Cx) (pins : List (Addr × Obj)) (σ : St) (Q : VK) (u : Value) (s' : Shared) : Prop := ∃ v H', Inv X pins σ H' s' ∧ RelV v u ∧ Q v H'
def TP (X : Cx) (pins : List (Addr × Obj)) (σ : St) (Q : Bool → Hp → Prop) (b : Bool) (s' : Shared) : Prop := ∃ H', Inv X pins σ H' s' ∧ Q b H'
def AP (X : Cx) (pins : List (Addr × Obj)) (σ : St) (Q : List V → Hp → Prop) (us : List Value) (s' : Shared) : Prop := ∃ vs H', Inv X pins σ H' s' ∧ Vals vs us ∧ Q vs H'
def SP (X : Cx) (pins : List (Addr × Obj)) (D : Ends) (f : Flow) (s' : Shared) : Prop :=
  match f with
  | .next => ∃ σ' H', Inv X pins σ' H' s' ∧ D.nx σ' H'
  | .brk => ∃ σ' H', Inv X pins σ' H' s' ∧ D.bk σ' H'
  | .cont => ∃ σ' H', Inv X pins σ' H' s' ∧ D.ct σ' H'
  | .ret u => ∃ v σ' H', Inv X pins σ' H' s' ∧ RelV v u ∧ D.rt v H'
def PE (X : Cx) (e : Expr) (t : TE) : Prop :=
  ∀ (pins : List (Addr × Obj)) (s : Shared) (σ : St) (H : Hp) (Q : VK), Inv X pins σ H s → t σ H Q → wpAny (model X.prog X.w) X.A (eval e X.env) (EP X pins σ Q) X.xe s
def PT (X : Cx) (e : Expr) (t : TT) : Prop :=
  ∀ (pins : List (Addr × Obj)) (s : Shared) (σ : St) (H : Hp) (Q : Bool → Hp → Prop), Inv X pins σ H s → t σ H Q → wpAny (model X.prog X.w) X.A (isTrue e X.env (eval e X.env)) (TP X pins σ Q) X.xe s
def PW (X : Cx) (e : Expr) (t : TT) : Prop :=
  ∀ (whole : Sem Value) (pins : List (Addr × Obj)) (s : Shared) (σ : St) (H : Hp) (Q : Bool → Hp → Prop), Inv X pins σ H s → t σ H Q → wpAny (model X.prog X.w) X.A (isTrue e X.env whole) (TP X pins σ Q) X.xe s
theorem PW.pt {X : Cx} {e : Expr} {t : TT} (h : PW X e t) : PT X e t := h _
def PA (X : Cx) (es : List Expr) (t : TA) : Prop :=
  ∀ (pos : Pos) (pins : List (Addr × Obj)) (s : Shared) (σ : St) (H : Hp) (Q : List V → Hp → Prop), Inv X pins σ H s → t σ H Q → wpAny (model X.prog X.w) X.A (spliced (backTo pos (starEach es X.env))) (AP X pins σ Q) X.xe s
def PS (X : Cx) (st : Stmt) (t : TS) : Prop :=
  ∀ (pins : List (Addr × Obj)) (s : Shared) (σ : St) (H : Hp) (D : Ends), Inv X pins σ H s → t D σ H → wpAny (model X.prog X.w) X.A (exec st X.env) (SP X pins D) X.xe s
def PSs (X : Cx) (st : List Stmt) (t : TS) : Prop :=
  ∀ (pins : List (Addr × Obj)) (s : Shared) (σ : St) (H : Hp) (D : Ends), Inv X pins σ H s → t D σ H → wpAny (model X.prog X.w) X.A (execs st X.env) (SP X pins D) X.xe s
theorem thn {α : Type} {t : Sem α} {Q Q' : α → Shared → Prop} {M : Model} {A : Around} {E : Value → Shared → Prop} {s : Shared} (h : wpAny M A t Q E s) (hQ : ∀ a s, Q a s → Q' a s) : wpAny M A t Q' E s := wpAny_mono h hQ fun _ _ x => x
end L2
namespace L2
open PySem PySem.Spec PyProof.Rows
section
variable {X : Cx}
def tVar (i : Nat) : TE := fun σ H Q => ∃ v, σ[i]? = some (some v) ∧ Q v H
def tC (v : V) : TE := fun _ H Q => Q v H
theorem pe_var {i : Nat} {x : Str} {pos : Pos} (hN : X.N[i]? = some x) (hv : Vis X.env.scope x) (hd : (x == ("__debug__" : Str)) = false := by decide) (hcd : (x == ("__classdict__" : Str)) = false := by decide) : PE X (.Name x pos) (tVar i) := by
  intro pins s σ H Q I h
  obtain ⟨v, e, h⟩ := h
  obtain ⟨m, hn, hl⟩ := I.loc
  obtain ⟨u, r, l⟩ := hl i x v hN e hv
  have fin : EP X pins σ Q u s := ⟨v, H, I, r, h⟩
  rcases l with ⟨hk, hm⟩ | ⟨hk, c, hc, hcell⟩
  · exact wpAny_Name (wpAny_loadName_local I.ok.kind hk hn hm fin) hd
  · rcases hk with hk | hk
    · exact wpAny_Name (wpAny_loadName_cell I.ok.kind hk hc hcell fin) hd
    · exact wpAny_Name (wpAny_loadName_free I.ok.kind hk hc hcell fin hcd) hd
theorem pe_int {i j pos} : PE X (.Constant (.int i) j pos) (tC (.int i)) := fun _ _ _ H _ I h => wpAny_Constant_int ⟨.int i, H, I.tok _, ⟨_, rfl⟩, h⟩
theorem pe_bl {b j pos} : PE X (.Constant (.bool b) j pos) (tC (.bl b)) := fun _ _ _ H _ I h => Constant_bool ⟨.bl b, H, I, rfl, h⟩
def Gl (X : Cx) (x : Str) : Prop := X.env.kindOf x = some .globalImplicit
theorem ld_glob {E : Value → Shared → Prop} {pins : List (Addr × Obj)} {s : Shared} {σ : St} {H : Hp} {x : Str} {u : Value} {pos : Pos} {Q : Value → Shared → Prop} (I : Inv X pins σ H s) (hg : Gl X x) (hm : X.mg x = some u) (h : Q u s)
    (hd : (x == ("__debug__" : Str)) = false := by decide) : wpAny (model X.prog X.w) X.A (eval (.Name x pos) X.env) Q E s :=
  Calls.Name_function_global I.ok.kind hg (Calls.loadGlobal_global (by rw [I.ok.glob]; exact I.mod.glob.keeps I.bk) hm h) hd
theorem ld_blt {E : Value → Shared → Prop} {pins : List (Addr × Obj)} {s : Shared} {σ : St} {H : Hp} {x : Str} {u : Value} {pos : Pos} {Q : Value → Shared → Prop} (I : Inv X pins σ H s) (hg : Gl X x) (hm : X.mg x = none) (hv : bootBuiltins x = some u) (h : Q u s)
    (hn : x ≠ "__name__" := by decide) (hd : (x == ("__debug__" : Str)) = false := by decide) : wpAny (model X.prog X.w) X.A (eval (.Name x pos) X.env) Q E s := by
  obtain ⟨mb, h1, h2⟩ := I.mod.blt
  exact Calls.Name_function_global I.ok.kind hg (Calls.loadGlobal_builtin (by rw [I.ok.glob]; exact I.mod.glob.keeps I.bk) hm (by rw [I.ok.blt]; exact h1.keeps I.bk) ((h2 x hn).trans hv) h) hd
theorem pe_glob {x : Str} {v : V} {u : Value} {pos : Pos} (hg : Gl X x) (hm : X.mg x = some u) (r : RelV v u) (hd : (x == ("__debug__" : Str)) = false := by decide) : PE X (.Name x pos) (tC v) :=
  fun _ _ _ H _ I h => ld_glob I hg hm ⟨v, H, I, r, h⟩ hd
theorem pe_bltn {x : Str} {v : V} {u : Value} {pos : Pos} (hg : Gl X x) (hm : X.mg x = none) (hv : bootBuiltins x = some u) (r : RelV v u) (hn : x ≠ "__name__" := by decide) (hd : (x == ("__debug__" : Str)) = false := by decide) : PE X (.Name x pos) (tC v) :=
  fun _ _ _ H _ I h => ld_blt I hg hm hv ⟨v, H, I, r, h⟩ hn hd
variable {a b : Expr} {ta tb : TE} {pos : Pos}
def tB (t : TE) : TT := fun σ H Q => t σ H fun x H1 => ∃ c, x = .bl c ∧ Q c H1
theorem pt_val {e : Expr} {t : TE} (h : PE X e t) (he : ∀ whole, isTrue e X.env whole = (do let v ← whole; standAt e.pos; holding [v] (truthy v)) := by intro _; rfl) : PT X e (tB t) := by
  intro pins s σ H Q I hw
  refine isTrue_plain (thn (h pins s σ H _ I hw) fun v s1 ⟨x, H1, I1, r1, q1⟩ => ?_) (he _)
  obtain ⟨d, rfl, q⟩ := q1
  cases r1
  exact wpAny_truthy_bool ⟨H1, I1, q⟩
variable {tA tB' : TT} {rest : List Expr}
def tAnd (t u : TT) : TT := fun σ H Q => t σ H fun c H1 => if c = true then u σ H1 Q else Q false H1
def tOr (t u : TT) : TT := fun σ H Q => t σ H fun c H1 => if c = true then Q true H1 else u σ H1 Q
def tNot (t : TT) : TT := fun σ H Q => t σ H fun c H1 => Q (!c) H1
theorem pw_and1 (ha : PT X a tA) : PW X (.BoolOp .And [a] pos) tA := by
  intro wh pins s σ H Q I h
  refine isTrue_and (thn (ha pins s σ H Q I h) fun c s1 e => ?_)
  cases c with
  | true => exact isTrue_and_nil e
  | false => exact e
theorem pw_or1 (ha : PT X a tA) : PW X (.BoolOp .Or [a] pos) tA := by
  intro wh pins s σ H Q I h
  refine isTrue_or (thn (ha pins s σ H Q I h) fun c s1 e => ?_)
  cases c with
  | false => exact isTrue_or_nil e
  | true => exact e
theorem pw_and (ha : PT X a tA) (hb : PW X (.BoolOp .And (b :: rest) pos) tB') : PW X (.BoolOp .And (a :: b :: rest) pos) (tAnd tA tB') := by
  intro wh pins s σ H Q I h
  refine isTrue_and (thn (ha pins s σ H _ I h) fun c s1 ⟨H1, I1, q1⟩ => ?_)
  cases c with
  | true => exact hb wh pins s1 σ H1 Q I1 q1
  | false => exact ⟨H1, I1, q1⟩
theorem pw_or (ha : PT X a tA) (hb : PW X (.BoolOp .Or (b :: rest) pos) tB') : PW X (.BoolOp .Or (a :: b :: rest) pos) (tOr tA tB') := by
  intro wh pins s σ H Q I h
  refine isTrue_or (thn (ha pins s σ H _ I h) fun c s1 ⟨H1, I1, q1⟩ => ?_)
  cases c with
  | true => exact ⟨H1, I1, q1⟩
  | false => exact hb wh pins s1 σ H1 Q I1 q1
theorem pt_not (ha : PT X a tA) : PT X (.UnaryOp .Not a pos) (tNot tA) := by
  intro pins s σ H Q I h
  exact isTrue_not (ha pins s σ H (fun c H1 => Q (!c) H1) I h)
def tAndV (ta tb : TE) : TE := fun σ H Q => ta σ H fun x H1 => ∃ c, x = .bl c ∧ if c = true then tb σ H1 Q else Q (.bl false) H1
def tOrV (ta tb : TE) : TE := fun σ H Q => ta σ H fun x H1 => ∃ c, x = .bl c ∧ if c = true then Q (.bl true) H1 else tb σ H1 Q
def tNotV (ta : TE) : TE := fun σ H Q => ta σ H fun x H1 => ∃ c, x = .bl c ∧ Q (.bl (!c)) H1
theorem pe_one {op} {t : TE} (h : PE X a t) : PE X (.BoolOp op [a] pos) t := fun pins s σ H Q I hw => BoolOp_one (h pins s σ H Q I hw)
theorem pe_and (ha : PE X a ta) (hb : PE X (.BoolOp .And (b :: rest) pos) tb) : PE X (.BoolOp .And (a :: b :: rest) pos) (tAndV ta tb) := by
  intro pins s σ H Q I h
  refine BoolOp_and (thn (ha pins s σ H _ I h) fun v s1 ⟨x, H1, I1, r1, q1⟩ => ?_)
  obtain ⟨c, rfl, q1⟩ := q1
  cases r1
  refine wpAny_truthy_bool ?_
  cases c with
  | true => exact hb pins s1 σ H1 Q I1 q1
  | false => exact ⟨.bl false, H1, I1, rfl, q1⟩
def tIf (t : TT) (ta tb : TE) : TE := fun σ H Q => t σ H fun c H1 => if c = true then ta σ H1 Q else tb σ H1 Q
theorem pe_ifExp {c : Expr} (hc : PT X c tA) (ha : PE X a ta) (hb : PE X b tb) : PE X (.IfExp c a b pos) (tIf tA ta tb) := by
  intro pins s σ H Q I h
  refine wpAny_IfExp (thn (hc pins s σ H _ I h) fun d s1 ⟨H1, I1, q1⟩ => ?_)
  cases d with
  | true => exact ha pins s1 σ H1 Q I1 q1
  | false => exact hb pins s1 σ H1 Q I1 q1
end
end L2
namespace L2
open PySem PySem.Spec PyProof.Rows
def SqL (K : PySem.W.Frag) (H : Hp) (a : Addr) (xs : List V) : Prop :=
  Rd H a (.lst xs) ∨
    ∃ (o : Obj) (its : Array Value) (n : Nat), K.lookup a = some o ∧ o.cls = .type "list" ∧ o.dict = none ∧ o.data = .seq its n ∧ its.size ≤ sizeLine ∧ Vals xs its.toList
def SqT (K : PySem.W.Frag) (H : Hp) (a : Addr) (xs : List V) : Prop :=
  Rd H a (.tup xs) ∨
    ∃ (o : Obj) (its : Array Value) (n : Nat), K.lookup a = some o ∧ o.cls = .type "tuple" ∧ o.data = .seq its n ∧ its.size ≤ sizeLine ∧ Vals xs its.toList
def absV : Value → Option V
  | .none => some .non
  | .bool b => some (.bl b)
  | .int i _ => some (.int i)
  | .str x _ => some (.str x)
  | .bytes b _ => some (.byt b)
  | .float b _ => some (.flt b)
  | .ref a => some (.ref a)
  | .type n => some (.ty n)
  | _ => none
theorem RelV.abs {x : V} {u : Value} (r : RelV x u) : absV u = some x := by
  cases x with
  | non => cases r; rfl
  | bl _ => cases r; rfl
  | int _ => obtain ⟨t, rfl⟩ := r; rfl
  | str _ => obtain ⟨t, rfl⟩ := r; rfl
  | byt _ => obtain ⟨t, rfl⟩ := r; rfl
  | flt _ => obtain ⟨t, rfl⟩ := r; rfl
  | ref _ => cases r; rfl
  | ty _ => cases r; rfl
theorem RelV.inj {x y : V} {u : Value} (r : RelV x u) (q : RelV y u) : x = y := Option.some.inj (r.abs.symm.trans q.abs)
theorem Vals.inj : ∀ {xs ys : List V} {us : List Value}, Vals xs us → Vals ys us → xs = ys
  | _, _, _, .nil, .nil => rfl
  | _, _, _, .cons r t, .cons r' t' => by rw [r.inj r', Vals.inj t t']
section
variable {X : Cx} {pins : List (Addr × Obj)} {σ : St} {H : Hp} {s : Shared} {a : Addr} {xs ys : List V}
theorem SqL.of {K : PySem.W.Frag} (h : H a = some (.lst xs)) : SqL K H a xs := .inl (.inl h)
theorem SqT.of {K : PySem.W.Frag} (h : H a = some (.tup xs)) : SqT K H a xs := .inl (.inl h)
theorem Inv.list (I : Inv X pins σ H s) (h : SqL X.K H a xs) : ∃ its : List Value, Vals xs its ∧ PlainL s.heap a its.toArray ∧ xs.length ≤ sizeLine := by
  rcases h with h | ⟨o, its, n, hk, hc, hd, hs, hz, r⟩
  · obtain ⟨z, its, n, r, e⟩ := h.ok I.hok
    exact ⟨its, r, ⟨_, n, e, rfl, rfl, rfl⟩, z⟩
  · refine ⟨its.toList, r, ⟨o, n, I.kIn a o hk, hc, hd, by simpa using hs⟩, ?_⟩
    have e := r.length
    simp only [Array.length_toList] at e
    omega
theorem Inv.tuple (I : Inv X pins σ H s) (h : SqT X.K H a xs) : ∃ its : List Value, Vals xs its ∧ IsTup s.heap a its.toArray ∧ xs.length ≤ sizeLine := by
  rcases h with h | ⟨o, its, n, hk, hc, hs, hz, r⟩
  · obtain ⟨z, its, r, p⟩ := h.ok I.hok
    exact ⟨its, r, p, z⟩
  · refine ⟨its.toList, r, ⟨o, I.kIn a o hk, hc, n, by simpa using hs⟩, ?_⟩
    have e := r.length
    simp only [Array.length_toList] at e
    omega
theorem Inv.list_inj (I : Inv X pins σ H s) (h : SqL X.K H a xs) (h' : SqL X.K H a ys) : xs = ys := by
  obtain ⟨its, r, ⟨o, n, e, _, _, d⟩, _⟩ := I.list h
  obtain ⟨its', r', ⟨o', n', e', _, _, d'⟩, _⟩ := I.list h'
  rw [e] at e'; cases e'
  rw [d] at d'
  injection d' with d1 _
  have : its = its' := by simpa using congrArg Array.toList d1
  subst this
  exact r.inj r'
end
abbrev Cx.wish (X : Cx) (E : Value → Shared → Prop) : Cx := { X with xe := E }
abbrev Cx.nox (X : Cx) : Cx := X.wish fun _ _ => False
theorem Cx.Ok.wish {X : Cx} (ok : X.Ok) (E : Value → Shared → Prop) : (X.wish E).Ok :=
  ⟨ok.mod, ok.kind, ok.glob, ok.blt, ok.above, ok.inj, ok.has, ok.cab, ok.hd, ok.frames, ok.stk, ok.exf, ok.bs, ok.bsz, ok.noex, ok.exfs, ok.funs, ok.frf, ok.tb⟩
theorem Cx.Ok.unwish {X : Cx} {E : Value → Shared → Prop} (ok : (X.wish E).Ok) : X.Ok :=
  ⟨ok.mod, ok.kind, ok.glob, ok.blt, ok.above, ok.inj, ok.has, ok.cab, ok.hd, ok.frames, ok.stk, ok.exf, ok.bs, ok.bsz, ok.noex, ok.exfs, ok.funs, ok.frf, ok.tb⟩
section
variable {X : Cx} {pins : List (Addr × Obj)} {σ : St} {H : Hp} {s : Shared} {E : Value → Shared → Prop}
theorem Inv.wish (I : Inv X pins σ H s) (E : Value → Shared → Prop) : Inv (X.wish E) pins σ H s := ⟨I.ok.wish E, I.os, I.bare, I.base, I.loc, I.cell, I.free, I.freeC, I.pin, I.hok, I.len⟩
theorem Inv.unwish (I : Inv (X.wish E) pins σ H s) : Inv X pins σ H s := ⟨I.ok.unwish, I.os, I.bare, I.base, I.loc, I.cell, I.free, I.freeC, I.pin, I.hok, I.len⟩
theorem SP.unwish {D : Ends} {f : Flow} {s' : Shared} (h : SP (X.wish E) pins D f s') : SP X pins D f s' := by
  cases f with
  | next => obtain ⟨σ', H', I, q⟩ := h; exact ⟨σ', H', I.unwish, q⟩
  | brk => obtain ⟨σ', H', I, q⟩ := h; exact ⟨σ', H', I.unwish, q⟩
  | cont => obtain ⟨σ', H', I, q⟩ := h; exact ⟨σ', H', I.unwish, q⟩
  | ret u => obtain ⟨v, σ', H', I, r, q⟩ := h; exact ⟨v, σ', H', I.unwish, r, q⟩
theorem PE.nox {e : Expr} {t : TE} (h : PE X.nox e t) : PE X e t := fun pins s σ H Q I hw =>
  wpAny_mono (h pins s σ H Q (I.wish _) hw) (fun _ _ ⟨v, H', I', r, q⟩ => ⟨v, H', I'.unwish, r, q⟩) fun _ _ z => False.elim z
theorem PT.nox {e : Expr} {t : TT} (h : PT X.nox e t) : PT X e t := fun pins s σ H Q I hw =>
  wpAny_mono (h pins s σ H Q (I.wish _) hw) (fun _ _ ⟨H', I', q⟩ => ⟨H', I'.unwish, q⟩) fun _ _ z => False.elim z
theorem PSs.nox {st : List Stmt} {t : TS} (h : PSs X.nox st t) : PSs X st t := fun pins s σ H D I hw =>
  wpAny_mono (h pins s σ H D (I.wish _) hw) (fun _ _ q => q.unwish) fun _ _ z => False.elim z
end
section
variable {X : Cx} {st : Stmt} {rest : List Stmt} {t u : TS} {e : Expr} {te : TE} {pos : Pos}
def tNext : TS := fun D σ H => D.nx σ H
def tSeq (t u : TS) : TS := fun D σ H => t { D with nx := u D } σ H
theorem pss_nil : PSs X [] tNext := fun _ _ σ H _ I h => wpAny_execs_nil ⟨σ, H, I, h⟩
theorem pss_cons (h1 : PS X st t) (h2 : PSs X rest u) : PSs X (st :: rest) (tSeq t u) := by
  intro pins s σ H D I h
  refine wpAny_execs_cons (thn (h1 pins s σ H { D with nx := u D } I h) fun f s1 q => ?_)
  cases f with
  | next =>
    obtain ⟨σ', H', I', q⟩ := q
    exact h2 pins s1 σ' H' D I' q
  | ret v => exact q
  | brk => exact q
  | cont => exact q
theorem pss_one (h1 : PS X st t) : PSs X [st] t := by
  intro pins s σ H D I h
  refine wpAny_execs_cons (thn (h1 pins s σ H D I h) fun f s1 q => ?_)
  cases f with
  | next => exact wpAny_execs_nil q
  | ret v => exact q
  | brk => exact q
  | cont => exact q
def tBreak : TS := fun D σ H => D.bk σ H
def tCont : TS := fun D σ H => D.ct σ H
theorem Inv.quiet {pins : List (Addr × Obj)} {σ : St} {H : Hp} {s : Shared} (I : Inv X pins σ H s) : interactive X.env = false := by simp [interactive, I.ok.kind]
def tDrop (te : TE) : TS := fun D σ H => te σ H fun _ H1 => D.nx σ H1
theorem ps_expr (he : PE X e te) (hs : swapsWith e none pos.line X.env = pure false := by rfl) : PS X (.Expr e pos) (tDrop te) := by
  intro pins s σ H D I h
  exact wpAny_Expr_any (thn (he pins s σ H _ I h) fun v s1 ⟨x, H1, I1, r1, q1⟩ => ⟨σ, H1, I1, q1⟩) I.quiet hs
def tRet (te : TE) : TS := fun D σ H => te σ H D.rt
theorem ps_ret (he : PE X e te) : PS X (.Return (some e) pos) (tRet te) := by
  intro pins s σ H D I h
  exact wpAny_Return_some (thn (he pins s σ H _ I h) fun v s1 ⟨x, H1, I1, r1, q1⟩ => ⟨x, σ, H1, I1, r1, q1⟩)
def tRetN : TS := fun D _ H => D.rt .non H
def tIfS (c : TT) (t u : TS) : TS := fun D σ H => c σ H fun b H1 => if b = true then t D σ H1 else u D σ H1
theorem ps_if {c : Expr} {a b : List Stmt} {tc : TT} (hc : PT X c tc) (ha : PSs X a t) (hb : PSs X b u) : PS X (.If c a b pos) (tIfS tc t u) := by
  intro pins s σ H D I h
  refine wpAny_If (thn (hc pins s σ H _ I h) fun d s1 ⟨H1, I1, q1⟩ => ?_)
  cases d with
  | true => exact ha pins s1 σ H1 D I1 q1
  | false => exact hb pins s1 σ H1 D I1 q1
end
abbrev TG := V → St → Hp → (St → Hp → Prop) → Prop
abbrev TGs := List V → St → Hp → (St → Hp → Prop) → Prop
def PG (X : Cx) (target : Expr) (t : TG) : Prop :=
  ∀ (pins : List (Addr × Obj)) (s : Shared) (σ : St) (H : Hp) (v : V) (u : Value) (Q : St → Hp → Prop), Inv X pins σ H s → RelV v u → t v σ H Q →
    wpAny (model X.prog X.w) X.A (assign target X.env u) (fun _ s' => ∃ σ' H', Inv X pins σ' H' s' ∧ Q σ' H') X.xe s
def PGs (X : Cx) (ts : List Expr) (t : TGs) : Prop :=
  ∀ (pins : List (Addr × Obj)) (s : Shared) (σ : St) (H : Hp) (vs : List V) (us : List Value) (Q : St → Hp → Prop), Inv X pins σ H s → Vals vs us → t vs σ H Q →
    wpAny (model X.prog X.w) X.A (assignInOrder ((assignEach ts X.env).map (·.2)) us) (fun _ s' => ∃ σ' H', Inv X pins σ' H' s' ∧ Q σ' H') X.xe s
abbrev TSet := V → V → V → Hp → (Hp → Prop) → Prop
def PSet (X : Cx) (t : TSet) : Prop :=
  ∀ (pins : List (Addr × Obj)) (s : Shared) (σ : St) (H : Hp) (o i v : V) (ov iv u : Value) (Q : Hp → Prop), Inv X pins σ H s → RelV o ov → RelV i iv → RelV v u → t o i v H Q →
    wpAny (model X.prog X.w) X.A (setItem ov iv u) (fun _ s' => ∃ H', Inv X pins σ H' s' ∧ Q H') X.xe s
section
variable {X : Cx} {pos : Pos}
def gName (i : Nat) : TG := fun v σ H Q => Q (σ.set i (some v)) H
theorem pg_name {i : Nat} {x : Str} (hN : X.N.Nodup) (hi : X.N[i]? = some x) (hx : Loc X.env.scope x) (hf : X.fn x = true ∨ X.env.scope.names.lookup x = some .local := by first | exact .inl rfl | exact .inr rfl | assumption) : PG X (.Name x pos) (gName i) := by
  intro pins s σ H v u Q I r h
  exact wpAny_assign_Name (store_ok I hN hi hx r (fun s' I' => ⟨_, H, I', h⟩) hf)
def gNil : TGs := fun vs σ H Q => vs = [] ∧ Q σ H
def gCons (t : TG) (u : TGs) : TGs := fun vs σ H Q => ∃ v r, vs = v :: r ∧ t v σ H fun σ' H' => u r σ' H' Q
theorem pgs_nil : PGs X [] gNil := by
  intro pins s σ H vs us Q I r h
  obtain ⟨e, h⟩ := h
  subst e
  cases r
  exact assignInOrder_nil ⟨σ, H, I, h⟩
theorem pgs_cons {e : Expr} {es : List Expr} {t : TG} {u : TGs} (h1 : PG X e t) (h2 : PGs X es u)
    (hs : (assignEach (e :: es) X.env).map (·.2) = assign e X.env :: (assignEach es X.env).map (·.2) := by rfl) : PGs X (e :: es) (gCons t u) := by
  intro pins s σ H vs us Q I r h
  obtain ⟨v, vr, e1, h⟩ := h
  subst e1
  cases r with
  | cons r rr =>
    rw [hs]
    refine assignInOrder_cons (thn (h1 pins s σ H _ _ _ I r h) fun _ s1 ⟨σ1, H1, I1, q1⟩ => ?_)
    exact h2 pins s1 σ1 H1 _ _ Q I1 rr q1
def gTup (K : PySem.W.Frag) (n : Nat) (t : TGs) : TG := fun v σ H Q => ∃ a xs, v = .ref a ∧ SqT K H a xs ∧ xs.length = n ∧ t xs σ H Q
theorem pg_tup {es : List Expr} {k : Nat} {t : TGs} {n : Nat} (hc : X.calm = true) (h : PGs X es t)
    (hn : (assignEach es X.env).length = n := by rfl) (hst : (assignEach es X.env).findIdx? (·.1) = none := by rfl) : PG X (.Tuple es k pos) (gTup X.K n t) := by
  intro pins s σ H v u Q I r hw
  obtain ⟨a, xs, e1, hq, hl, hw⟩ := hw
  subst e1
  cases r
  obtain ⟨its, rv, ht, hz⟩ := I.tuple hq
  refine assign_Tuple_tuple (I.ok.hd hc) ht (by simp [hn, ← hl, rv.length]) hst fun h' hx => ?_
  have I1 : Inv X pins σ H { s with heap := h' } := I.kept (t' := s.toks) fun b o e => hx b o (Nat.ne_of_lt (Heap.lt_size e)) e
  exact h pins _ σ H xs _ Q I1 (by simpa using rv) hw
def gSub (to ti : TE) (t : TSet) : TG := fun v σ H Q => to σ H fun o H1 => ti σ H1 fun i H2 => t o i v H2 fun H3 => Q σ H3
def tAsg (te : TE) (g : TG) : TS := fun D σ H => te σ H fun x H1 => g x σ H1 D.nx
theorem ps_asg {tg e : Expr} {te : TE} {g : TG} (he : PE X e te) (hg : PG X tg g) (hs : swapsWithSole [tg] e pos.line X.env = pure false := by rfl) (hw : swappedStores [tg] e X.env = pure none := by rfl)
    (h1 : (assignEach [tg] X.env).map (·.2) = [assign tg X.env] := by rfl) : PS X (.Assign [tg] e pos) (tAsg te g) := by
  intro pins s σ H D I h
  refine wpAny_Assign_stores (thn (he pins s σ H _ I h) fun v s1 ⟨x, H1, I1, r1, q1⟩ => ?_) hs hw
  rw [h1]
  exact thn (hg pins s1 σ H1 x v _ I1 r1 q1) fun _ s2 q => q
theorem ps_set {i : Nat} {x : Str} {e : Expr} {te : TE} {pos' : Pos} (hN : X.N.Nodup) (hi : X.N[i]? = some x) (hx : Loc X.env.scope x) (he : PE X e te) (hs : swapsWith e (some (.Name x pos')) pos.line X.env = pure false := by rfl) (hf : X.fn x = true ∨ X.env.scope.names.lookup x = some .local := by first | exact .inl rfl | exact .inr rfl | assumption) :
    PS X (.Assign [.Name x pos'] e pos) (tAsg te (gName i)) := by
  intro pins s σ H D I h
  refine wpAny_Assign_Name (thn (he pins s σ H _ I h) fun v s1 ⟨y, H1, I1, r1, q1⟩ => ?_) hs
  exact store_ok I1 hN hi hx r1 (fun s2 I2 => ⟨_, H1, I2, q1⟩) hf
end
section
variable {X : Cx} {pos : Pos}
def tWhile (c : TT) (tb : TS) : TS := fun D σ H => ∃ W : Nat → St → Hp → Prop, (∃ m, W m σ H) ∧ ∀ m σ H, W m σ H →
  c σ H fun b H1 => if b = true then ∃ N : St → Hp → Prop, (∀ σ' H', N σ' H' → ∃ m', m' < m ∧ W m' σ' H') ∧ tb { D with nx := N, ct := N, bk := D.nx } σ H1 else D.nx σ H1
theorem ps_while {c : Expr} {body : List Stmt} {tc : TT} {tb : TS} (hp : PassesOwn (model X.prog X.w) X.A X.env X.xe) (hc : PT X c tc) (hb : PSs X body tb) : PS X (.While c body [] pos) (tWhile tc tb) := by
  intro pins s σ H D I h
  obtain ⟨W, ⟨m0, w0⟩, turn⟩ := h
  refine wpAny_While (codeAny_whileLoop (fun n s' => ∃ σ' H', Inv X pins σ' H' s' ∧ W n σ' H') ?_ m0 ⟨σ, H, I, w0⟩)
  rintro n s1 ⟨σ1, H1, I1, w1⟩
  refine wpAny_passesOwn hp (thn (hc pins s1 σ1 H1 _ I1 (turn n σ1 H1 w1)) fun b s2 ⟨H2, I2, q2⟩ => ?_)
  cases b with
  | true =>
    obtain ⟨N, hN, q2⟩ := q2
    rw [if_pos rfl]
    refine wpAny_passesOwn hp (thn (hb pins s2 σ1 H2 _ I2 q2) fun f s3 q3 => ?_)
    cases f with
    | next =>
      obtain ⟨σ3, H3, I3, n3⟩ := q3
      obtain ⟨m', hm, w3⟩ := hN σ3 H3 n3
      exact ⟨m', hm, σ3, H3, I3, w3⟩
    | cont =>
      obtain ⟨σ3, H3, I3, n3⟩ := q3
      obtain ⟨m', hm, w3⟩ := hN σ3 H3 n3
      exact ⟨m', hm, σ3, H3, I3, w3⟩
    | brk => exact q3
    | ret v => exact q3
  | false =>
    rw [if_neg Bool.false_ne_true]
    exact wpAny_execs_nil ⟨σ1, H2, I2, q2⟩
end
structure It where
  go : Nat → Hp → Prop
  yld : Nat → Hp → V → Hp → Prop
  stop : Nat → Hp → Prop
def FpOk (X : Cx) (pins : List (Addr × Obj)) (H : Hp) (b : Addr) : Prop :=
  H b = none ∧ b ≠ X.env.locals ∧ b ∉ X.fs ∧ (b ∈ X.ex ∨ X.s₀.heap.objs.size ≤ b) ∧ (∀ x c, X.env.cells.lookup x = some c → c ≠ b) ∧ ∀ p ∈ X.pn ++ pins, p.1 ≠ b
theorem Inv.fpOk {X : Cx} {pins : List (Addr × Obj)} {σ : St} {H H' : Hp} {s : Shared} {b : Addr} (I : Inv X pins σ H s) (hb : s.heap.objs.size ≤ b) (hn : H' b = none) : FpOk X pins H' b := by
  refine ⟨hn, Nat.ne_of_gt (Nat.lt_of_lt_of_le I.lt hb), I.nofs hb, .inr (Nat.le_trans I.sz hb), fun x c e z => ?_, fun p hp z => ?_⟩
  · obtain ⟨v, q⟩ := I.cell x c e
    exact absurd (Nat.lt_of_lt_of_le q.lt (by rw [z]; exact hb)) (Nat.lt_irrefl _)
  · exact absurd (Nat.lt_of_lt_of_le (Heap.lt_size (I.pin p hp).1) (by rw [z]; exact hb)) (Nat.lt_irrefl _)
structure Turn (P : Program) (w : World) (K : PySem.W.Frag) (tg : Expr) (J : It) (fp : List Addr) (it : Addr) (tn : Nat → Heap → Prop) : Prop where
  mem : it ∈ fp
  obj : ∀ i h, tn i h → ∀ b ∈ fp, ∃ o, h.get? b = some o ∧ ∀ v, o.data ≠ .cell v
  keep : ∀ i h h', tn i h → (∀ b ∈ fp, ∀ o, h.get? b = some o → h'.get? b = some o) → tn i h'
  item : ∀ (X : Cx), X.prog = P → X.w = w → X.K = K → X.calm = true → ∀ (i : Nat) (pins : List (Addr × Obj)) (s : Shared) (σ : St) (H : Hp) (E : Value → Shared → Prop), Inv X pins σ H s → (∀ b ∈ fp, FpOk X pins H b) → tn i s.heap → J.go i H →
    wpAny (model P w) X.A (pyNext (.ref it)) (fun r s1 => ∃ u, r = some u ∧
      wpAny (model P w) X.A (letOwnedTupleGo tg (.ref it) u) (fun _ s2 => ∃ x H', Inv X pins σ H' s2 ∧ RelV x u ∧ J.yld i H x H' ∧ tn (i + 1) s2.heap ∧ ∀ b ∈ fp, H' b = none) E s1) E s
  done : ∀ (X : Cx), X.prog = P → X.w = w → X.K = K → X.calm = true → ∀ (i : Nat) (pins : List (Addr × Obj)) (s : Shared) (σ : St) (H : Hp) (E : Value → Shared → Prop), Inv X pins σ H s → (∀ b ∈ fp, FpOk X pins H b) → tn i s.heap → J.stop i H →
    wpAny (model P w) X.A (pyNext (.ref it)) (fun r s1 => r = none ∧ Inv X pins σ H s1) E s
  self : ∀ (A : Around) (i : Nat) (s : Shared) (Q : Value → Shared → Prop) (E : Value → Shared → Prop), tn i s.heap → Q (.ref it) s → wpAny (model P w) A (pyIter (.ref it)) Q E s
abbrev TI := St → Hp → (It → Hp → Prop) → Prop
def PIE (X : Cx) (pins : List (Addr × Obj)) (σ : St) (tg : Expr) (R : It → Hp → Prop) (itv : Value) (s2 : Shared) : Prop :=
  ∃ (it : Addr) (fp : List Addr) (tn : Nat → Heap → Prop) (J : It) (H' : Hp), itv = .ref it ∧ Inv X pins σ H' s2 ∧ Turn X.prog X.w X.K tg J fp it tn ∧ tn 0 s2.heap ∧ (∀ b ∈ fp, FpOk X pins H' b) ∧ R J H'
def PI (X : Cx) (tg iter : Expr) (wi : TI) : Prop :=
  ∀ (pins : List (Addr × Obj)) (s : Shared) (σ : St) (H : Hp) (R : It → Hp → Prop), Inv X pins σ H s → wi σ H R →
    wpAny (model X.prog X.w) X.A (eval iter X.env) (fun v s1 => wpAny (model X.prog X.w) X.A (pyIter v) (PIE X pins σ tg R) X.xe s1) X.xe s
theorem go_of {M : Model} {A : Around} {E : Value → Shared → Prop} {s : Shared} {tg : Expr} {it : Addr} {u : Value} {o : Obj} {n : String} {vs : Array Value} {Q : Unit → Shared → Prop} (ho : s.heap.get? it = some o) (hc : o.cls = .type n) (hd : o.data = .fields vs)
    (hn : ["enumerate", "zip", "dict_itemiterator", "dict_reverseitemiterator", "odict_iterator", "itertools.zip_longest", "itertools.pairwise"].contains n = false) (hQ : Q () s) : wpAny M A (letOwnedTupleGo tg (.ref it) u) Q E s := by
  unfold letOwnedTupleGo
  cases tg <;> first
    | exact wpAny_pure hQ
    | (cases u <;> first
        | exact wpAny_pure hQ
        | (refine wpAny_bind (wpAny_load ho ?_)
           rw [hc, hd]
           show wpAny M A (if (["enumerate", "zip", "dict_itemiterator", "dict_reverseitemiterator", "odict_iterator", "itertools.zip_longest", "itertools.pairwise"].contains n && vs[0]? == some (rawInt _)) = true then _ else _) Q E s
           rw [if_neg (by intro h; rw [hn, Bool.false_and] at h; cases h)]
           exact wpAny_pure hQ))
def Itl (K : PySem.W.Frag) (a : Addr) : It :=
  ⟨fun i H => ∃ xs x, SqL K H a xs ∧ xs[i]? = some x, fun i H x H' => H' = H ∧ ∀ xs, SqL K H a xs → xs[i]? = some x, fun i H => ∃ xs, SqL K H a xs ∧ xs.length ≤ i⟩
def Itr (lo : Int) (n : Nat) : It := ⟨fun i _ => i < n, fun i H x H' => H' = H ∧ x = .int (lo + i), fun i _ => n ≤ i⟩
theorem turn_list {P : Program} {w : World} {K : PySem.W.Frag} {tg : Expr} (a it : Addr) : Turn P w K tg (Itl K a) [it] it (fun i h => h.IsListIter it a i) where
  mem := by simp
  obj := fun i h st b hb => by
    have e : b = it := by simpa using hb
    subst e
    obtain ⟨o, e, c, d⟩ := st
    exact ⟨o, e, fun v z => by rw [d] at z; cases z⟩
  keep := fun i h h' st k => st.at fun o e => k it (by simp) o e
  item := by
    intro X hP hw hK hc i pins s σ H E I hf st hg
    subst hP hw hK
    obtain ⟨xs, x, hq, hx⟩ := hg
    obtain ⟨its, rv, p, hz⟩ := I.list hq
    obtain ⟨u, hu, ru⟩ := rv.get hx
    obtain ⟨f0, f1, f2, f3, f4, f5⟩ := hf it (by simp)
    refine wpAny_pyNext_list_item st p.isList (x := u) (by simpa using hu) fun h' st' sb => ?_
    have I1 : Inv X pins σ H { s with heap := h' } := I.turned (t' := s.toks) (fun b o hb e => (sb.2 b hb).trans e) f0 f1 f3 f4 f5
    obtain ⟨o, e, c, d⟩ := id st'
    exact ⟨u, rfl, go_of (s := { s with heap := h' }) e c d (by decide) ⟨x, H, I1, ru, ⟨rfl, fun ys hy => by rw [I.list_inj hy hq]; exact hx⟩, st', fun b hb => (hf b hb).1⟩⟩
  done := by
    intro X hP hw hK hc i pins s σ H E I hf st hg
    subst hP hw hK
    obtain ⟨xs, hq, hx⟩ := hg
    obtain ⟨its, rv, p, hz⟩ := I.list hq
    obtain ⟨f0, f1, f2, f3, f4, f5⟩ := hf it (by simp)
    have hl := rv.length
    exact wpAny_pyNext_list_end (I.ok.hd hc) st p.isList (by simp; omega) fun h' eb => ⟨rfl, I.turned (t' := s.toks) (fun b o hb e => eb b o hb e) f0 f1 f3 f4 f5⟩
  self := fun _ _ _ _ _ st h => wpAny_pyIter_listiter st h
theorem turn_range {P : Program} {w : World} {K : PySem.W.Frag} {tg : Expr} (it : Addr) (lo : Int) (n : Nat) : Turn P w K tg (Itr lo n) [it] it (fun i h => IsRangeIter h it (lo + (i : Nat) * 1) ((n : Int) - (i : Nat)) 1) where
  mem := by simp
  obj := fun i h st b hb => by
    have e : b = it := by simpa using hb
    subst e
    exact ⟨_, st, fun v z => by
      have z' : Data.fields _ = Data.cell v := z
      cases z'⟩
  keep := fun i h h' st k => k it (by simp) _ st
  item := by
    intro X hP hw hK hc i pins s σ H E I hf st hg
    subst hP hw hK
    obtain ⟨f0, f1, f2, f3, f4, f5⟩ := hf it (by simp)
    have W := Walks.range (prog := X.prog) (w := X.w) (I.ok.hd hc) it lo 1 n
    refine W.item i s _ _ hg st fun v h' tk hv st' kk => ?_
    obtain ⟨t, rfl⟩ := hv
    have I1 : Inv X pins σ H { s with heap := h', toks := tk } := I.turned (fun b o hb e => kk b o (by simpa using hb) e) f0 f1 f3 f4 f5
    refine ⟨_, rfl, go_of (s := { s with heap := h', toks := tk }) (n := "range_iterator") st' rfl rfl (by decide) ⟨.int (lo + i), H, I1, ⟨t, ?_⟩, ⟨rfl, rfl⟩, st', fun b hb => (hf b hb).1⟩⟩
    rw [Int.mul_one]
  done := by
    intro X hP hw hK hc i pins s σ H E I hf st hg
    subst hP hw hK
    obtain ⟨f0, f1, f2, f3, f4, f5⟩ := hf it (by simp)
    exact wpAny_pyNext_range_end (I.ok.hd hc) st (by have : n ≤ i := hg; omega) fun h' eb => ⟨rfl, I.turned (t' := s.toks) (fun b o hb e => eb b o hb e) f0 f1 f3 f4 f5⟩
  self := fun _ _ _ _ _ st h => wpAny_pyIter_rangeiter st h
end L2
namespace L2
open PySem PySem.Spec PyProof.Rows
section
variable {X : Cx} {tg : Expr}
def iList (K : PySem.W.Frag) (tl : TE) : TI := fun σ H R => tl σ H fun x H1 => ∃ a, x = .ref a ∧ (∃ xs, SqL K H1 a xs) ∧ R (Itl K a) H1
theorem pi_list {l : Expr} {tl : TE} (hl : PE X l tl) : PI X tg l (iList X.K tl) := by
  intro pins s σ H R I h
  refine thn (hl pins s σ H _ I h) fun v s1 ⟨x, H1, I1, r1, q1⟩ => ?_
  obtain ⟨a, e, ⟨xs, hq⟩, q⟩ := q1
  subst e
  cases r1
  obtain ⟨its, rv, p, hz⟩ := I1.list hq
  refine wpAny_pyIter_list p.isList ?_
  refine ⟨s1.heap.objs.size, [s1.heap.objs.size], _, _, H1, rfl, I1.kept (t' := s1.toks) fun b o e => Heap.get?_push_of_some _ e, turn_list a _, ⟨_, Heap.get?_push_size _ rfl, rfl, rfl⟩, fun b hb => ?_, q⟩
  have e : b = s1.heap.objs.size := by simpa using hb
  subst e
  exact I1.fpOk (Nat.le_refl _) (I1.hok.fresh (Nat.le_refl _))
theorem range_it {pins : List (Addr × Obj)} {σ : St} {H : Hp} {s : Shared} {R : It → Hp → Prop} {E : Value → Shared → Prop} {lo hi : Int} {t u v : Tok} {tk : Nat} (I : Inv X pins σ H s) (h1 : -(2 ^ 62) ≤ lo) (h2 : lo < 2 ^ 62) (h3 : -(2 ^ 62) ≤ hi) (h4 : hi < 2 ^ 62)
    (q : R (Itr lo (hi - lo).toNat) H) : wpAny (model X.prog X.w) X.A (pyIter (.ref s.heap.objs.size)) (PIE X pins σ tg R) E { s with heap := s.heap.push { cls := .type "range", data := .fields #[.int lo t, .int hi u, .int 1 v] }, toks := tk } := by
  refine wpAny_pyIter_range (IsRange.new ..) (small_one h1 h2 h3 h4) ?_
  have I1 : Inv X pins σ H { s with heap := s.heap.push { cls := .type "range", data := .fields #[.int lo t, .int hi u, .int 1 v] }, toks := tk } := I.kept fun b o e => Heap.get?_push_of_some _ e
  refine ⟨(s.heap.push { cls := .type "range", data := .fields #[.int lo t, .int hi u, .int 1 v] }).objs.size, [(s.heap.push { cls := .type "range", data := .fields #[.int lo t, .int hi u, .int 1 v] }).objs.size], _, _, H, rfl,
    I1.kept (t' := tk) fun b o e => Heap.get?_push_of_some _ e, turn_range _ lo (hi - lo).toNat, ?_, fun b hb => ?_, q⟩
  · have e1 : lo + ((0 : Nat) : Int) * 1 = lo := by simp
    have e2 : (((hi - lo).toNat : Nat) : Int) - ((0 : Nat) : Int) = Builtin.Range.rangeSize lo hi 1 := by rw [rangeSize_one]; split <;> omega
    show IsRangeIter _ _ (lo + ((0 : Nat) : Int) * 1) ((((hi - lo).toNat : Nat) : Int) - ((0 : Nat) : Int)) 1
    rw [e1, e2]
    exact Heap.get?_push_size _ rfl
  · have e : b = (s.heap.push { cls := .type "range", data := .fields #[.int lo t, .int hi u, .int 1 v] }).objs.size := by simpa using hb
    subst e
    exact I1.fpOk (Nat.le_refl _) (I1.hok.fresh (Nat.le_refl _))
def iRng1 (ta : TA) : TI := fun σ H R => ta σ H fun vs H1 => ∃ j : Int, vs = [.int j] ∧ -(2 ^ 62) ≤ j ∧ j < 2 ^ 62 ∧ R (Itr 0 j.toNat) H1
def iRng2 (ta : TA) : TI := fun σ H R => ta σ H fun vs H1 => ∃ i j : Int, vs = [.int i, .int j] ∧ (-(2 ^ 62) ≤ i ∧ i < 2 ^ 62 ∧ -(2 ^ 62) ≤ j ∧ j < 2 ^ 62) ∧ R (Itr i (j - i).toNat) H1
theorem pi_range1 {a : Expr} {ta : TA} {p pos : Pos} (hg : Gl X "range") (hm : X.mg "range" = none) (ha : PA X [a] ta) (hs : starEach [a] X.env = [(false, eval a X.env)] := by rfl) : PI X tg (.Call (.Name "range" p) [a] [] pos) (iRng1 ta) := by
  intro pins s σ H R I h
  refine Call_ (ld_blt I hg hm boot_range (PyProof.Rows.callWith_type1 (thn (ha pos pins s σ H _ I h) fun us s1 ⟨vs, H1, I1, r1, q1⟩ => ?_) hs rfl))
  obtain ⟨j, e, q1, q2, q⟩ := q1
  subst e
  cases r1 with
  | cons r rr =>
    cases rr
    obtain ⟨t, rfl⟩ := r
    exact call_range_1 (range_it I1 (by omega) (by omega) q1 q2 (by simpa using q))
theorem pi_range2 {a b : Expr} {ta : TA} {p pos : Pos} (hg : Gl X "range") (hm : X.mg "range" = none) (ha : PA X [a, b] ta) (hs : starEach [a, b] X.env = [(false, eval a X.env), (false, eval b X.env)] := by rfl) (hs2 : starEach [b] X.env = [(false, eval b X.env)] := by rfl) :
    PI X tg (.Call (.Name "range" p) [a, b] [] pos) (iRng2 ta) := by
  intro pins s σ H R I h
  refine Call_ (ld_blt I hg hm boot_range (PyProof.Rows.callWith_type1 (thn (ha pos pins s σ H _ I h) fun us s1 ⟨vs, H1, I1, r1, q1⟩ => ?_) (by rw [hs, hs2]) (by rw [hs2]; rfl)))
  obtain ⟨i, j, e, ⟨q1, q2, q3, q4⟩, q⟩ := q1
  subst e
  cases r1 with
  | cons r rr =>
    cases rr with
    | cons r' rr =>
      cases rr
      obtain ⟨t, rfl⟩ := r
      obtain ⟨t', rfl⟩ := r'
      exact call_range_2 (range_it I1 q1 q2 q3 q4 q)
def tFor (wi : TI) (g : TG) (tb : TS) : TS := fun D σ H => wi σ H fun J H1 => ∃ W : Nat → Nat → St → Hp → Prop, (∃ m, W 0 m σ H1) ∧ ∀ i m σ H, W i m σ H →
  (J.stop i H ∧ D.nx σ H) ∨ (J.go i H ∧ ∃ N : St → Hp → Prop, (∀ σ' H', N σ' H' → ∃ m', m' < m ∧ W (i + 1) m' σ' H') ∧ ∀ x H', J.yld i H x H' → g x σ H' fun σ2 H2 => tb { D with nx := N, ct := N, bk := D.nx } σ2 H2)
def pinsAt (fp : List Addr) (h : Heap) : List (Addr × Obj) := fp.filterMap fun b => (h.get? b).map fun o => (b, o)
theorem mem_pinsAt {fp : List Addr} {h : Heap} {b : Addr} {o : Obj} (hb : b ∈ fp) (e : h.get? b = some o) : (b, o) ∈ pinsAt fp h := List.mem_filterMap.mpr ⟨b, hb, by rw [e]; rfl⟩
theorem of_pinsAt {fp : List Addr} {h : Heap} {p : Addr × Obj} (hp : p ∈ pinsAt fp h) : p.1 ∈ fp ∧ h.get? p.1 = some p.2 := by
  obtain ⟨b, hb, e⟩ := List.mem_filterMap.mp hp
  cases q : h.get? b with
  | none => rw [q] at e; cases e
  | some o =>
    rw [q] at e
    have e' : (b, o) = p := Option.some.inj e
    subst e'
    exact ⟨hb, q⟩
theorem Inv.pinned {pins : List (Addr × Obj)} {σ : St} {H : Hp} {s : Shared} {fp : List Addr} (I : Inv X pins σ H s) (hf : ∀ b ∈ fp, FpOk X pins H b) (ho : ∀ b ∈ fp, ∃ o, s.heap.get? b = some o ∧ ∀ v, o.data ≠ .cell v) : Inv X (pins ++ pinsAt fp s.heap) σ H s :=
  I.pins_of fun p hp => (List.mem_append.mp hp).elim (fun z => I.pin p (List.mem_append_right _ z)) fun z => by
    obtain ⟨hb, e⟩ := of_pinsAt z
    obtain ⟨f0, f1, f2, _⟩ := hf p.1 hb
    obtain ⟨o, e', d⟩ := ho p.1 hb
    rw [e] at e'; cases e'
    exact ⟨e, f0, f1, f2, d⟩
theorem Inv.unpinned {pins pl : List (Addr × Obj)} {σ : St} {H : Hp} {s : Shared} (I : Inv X (pins ++ pl) σ H s) : Inv X pins σ H s := I.pins_of fun p hp => I.pin p (List.mem_append_right _ (List.mem_append_left _ hp))
theorem ps_for {iter : Expr} {body : List Stmt} {wi : TI} {g : TG} {tb : TS} {pos : Pos} (hp : PassesOwn (model X.prog X.w) X.A X.env X.xe) (hc : X.calm = true) (hi : PI X tg iter wi) (hg : PG X tg g) (hb : PSs X body tb)
    (hs : ∀ x, foldedSetIterable iter X.env x = pure x := by intro _; rfl) : PS X (.For tg iter body [] pos) (tFor wi g tb) := by
  intro pins s σ H D I h
  refine wpAny_For (thn (hi pins s σ H _ I h) fun v s1 h1 => thn h1 fun itv s2 h2 => ?_) hs
  obtain ⟨it, fp, tn, J, H2, e, I2, T, st2, f2, W, ⟨m0, w0⟩, turn⟩ := h2
  subst e
  have stat : ∀ {H' : Hp}, (∀ b ∈ fp, H' b = none) → ∀ b ∈ fp, FpOk X pins H' b := fun hn b hb => ⟨hn b hb, (f2 b hb).2⟩
  refine codeAny_forLoop_any (fun n s' => ∃ i σ' H', Inv X pins σ' H' s' ∧ tn i s'.heap ∧ (∀ b ∈ fp, H' b = none) ∧ W i n σ' H') ?_ m0 ⟨0, σ, H2, I2, st2, fun b hb => (f2 b hb).1, w0⟩
  rintro n s3 ⟨i, σ3, H3, I3, st3, fr3, w3⟩
  rcases turn i n σ3 H3 w3 with ⟨stop, qn⟩ | ⟨go, N, hN, step⟩
  · refine wpAny_passesOwn hp (thn (T.done X rfl rfl rfl hc i pins s3 σ3 H3 X.xe I3 (stat fr3) st3 stop) fun r s4 ⟨hr, I4⟩ => ?_)
    subst hr
    exact wpAny_execs_nil ⟨σ3, H3, I4, qn⟩
  · refine wpAny_passesOwn hp (thn (T.item X rfl rfl rfl hc i pins s3 σ3 H3 X.xe I3 (stat fr3) st3 go) fun r s4 ⟨u, hr, h4⟩ => ?_)
    subst hr
    refine wpAny_passesOwn hp (thn h4 fun _ s5 ⟨x, H5, I5, r5, y5, st5, fr5⟩ => ?_)
    have I5' := I5.pinned (stat fr5) (T.obj _ _ st5)
    refine wpAny_passesOwn hp (thn (hg _ s5 σ3 H5 x u _ I5' r5 (step x H5 y5)) fun _ s6 ⟨σ6, H6, I6, q6⟩ => ?_)
    refine wpAny_passesOwn hp (thn (hb _ s6 σ6 H6 _ I6 q6) fun f s7 q7 => ?_)
    have again : ∀ {σ7 : St} {H7 : Hp}, Inv X (pins ++ pinsAt fp s5.heap) σ7 H7 s7 → N σ7 H7 → ∃ m, m < n ∧ ∃ i σ' H', Inv X pins σ' H' s7 ∧ tn i s7.heap ∧ (∀ b ∈ fp, H' b = none) ∧ W i m σ' H' := fun {σ7 H7} I7 n7 => by
      obtain ⟨m', hm, w7⟩ := hN σ7 H7 n7
      refine ⟨m', hm, i + 1, σ7, H7, I7.unpinned, T.keep _ _ _ st5 fun b hb o e => (I7.pin (b, o) (List.mem_append_right _ (List.mem_append_right _ (mem_pinsAt hb e)))).1, fun b hb => ?_, w7⟩
      obtain ⟨o, e, d⟩ := T.obj _ _ st5 b hb
      exact (I7.pin (b, o) (List.mem_append_right _ (List.mem_append_right _ (mem_pinsAt hb e)))).2.1
    cases f with
    | next => obtain ⟨σ7, H7, I7, n7⟩ := q7; exact again I7 n7
    | cont => obtain ⟨σ7, H7, I7, n7⟩ := q7; exact again I7 n7
    | brk => obtain ⟨σ7, H7, I7, q7⟩ := q7; exact ⟨σ7, H7, I7.unpinned, q7⟩
    | ret v => obtain ⟨x7, σ7, H7, I7, r7, q7⟩ := q7; exact ⟨x7, σ7, H7, I7.unpinned, r7, q7⟩
end
end L2
namespace L2
open PySem PySem.Spec PyProof.Rows
abbrev R2 := V → V → Hp → VK → Prop
def OpR (X : Cx) (f : Value → Value → Sem Value) (r : R2) : Prop :=
  ∀ (pins : List (Addr × Obj)) (s : Shared) (σ : St) (H : Hp) (x y : V) (v u : Value) (Q : VK), Inv X pins σ H s → RelV x v → RelV y u → r x y H Q →
    wpAny (model X.prog X.w) X.A (f v u) (EP X pins σ Q) X.xe s
def CallR (X : Cx) (f : Value) (r : List V → Hp → VK → Prop) : Prop :=
  ∀ (pins : List (Addr × Obj)) (s : Shared) (σ : St) (H : Hp) (xs : List V) (us : List Value) (Q : VK), Inv X pins σ H s → Vals xs us → r xs H Q →
    wpAny (model X.prog X.w) X.A (call f us) (EP X pins σ Q) X.xe s
def tOp (r : R2) (ta tb : TE) : TE := fun σ H Q => ta σ H fun x H1 => tb σ H1 fun y H2 => r x y H2 Q
def tUn (r : V → Hp → VK → Prop) (ta : TE) : TE := fun σ H Q => ta σ H fun x H1 => r x H1 Q
def rI (C : Int → Int → Prop) (g : Int → Int → V) : R2 := fun x y H Q => ∃ i j, x = .int i ∧ y = .int j ∧ C i j ∧ Q (g i j) H
def rI0 (g : Int → Int → V) : R2 := fun x y H Q => ∃ i j, x = .int i ∧ y = .int j ∧ Q (g i j) H
def rU (g : Int → V) : V → Hp → VK → Prop := fun x H Q => ∃ i, x = .int i ∧ Q (g i) H
section
variable {X : Cx} {a b c : Expr} {ta tb tc : TE} {pos : Pos}
theorem binT (ha : PE X a ta) (hb : PE X b tb) {pins : List (Addr × Obj)} {s : Shared} {σ : St} {H : Hp} {R : V → V → Hp → Prop} (I : Inv X pins σ H s)
    (h : ta σ H fun x H1 => tb σ H1 fun y H2 => R x y H2) {Q : Value → Shared → Prop} {f : Value → Value → Sem Value}
    (hf : ∀ v u s2 x y H2, Inv X pins σ H2 s2 → RelV x v → RelV y u → R x y H2 → wpAny (model X.prog X.w) X.A (f v u) Q X.xe s2) :
    wpAny (model X.prog X.w) X.A (eval a X.env) (fun v s₁ => wpAny (model X.prog X.w) X.A (eval b X.env) (fun u s₂ => wpAny (model X.prog X.w) X.A (f v u) Q X.xe s₂) X.xe s₁) X.xe s := by
  refine thn (ha pins s σ H _ I h) fun v s1 ⟨x, H1, I1, r1, q1⟩ => ?_
  refine thn (hb pins s1 σ H1 _ I1 q1) fun u s2 ⟨y, H2, I2, r2, q2⟩ => ?_
  exact hf v u s2 x y H2 I2 r1 r2 q2
theorem pe_op {op : Operator} {r : R2} (ho : OpR X (binaryOp op) r) (ha : PE X a ta) (hb : PE X b tb) : PE X (.BinOp a op b pos) (tOp r ta tb) := by
  intro pins s σ H Q I h
  exact wpAny_BinOp (binT ha hb I h fun v u s2 x y H2 I2 rx ry q => ho pins s2 σ H2 x y v u Q I2 rx ry q)
theorem opI {f : Value → Value → Sem Value} {C : Int → Int → Prop} {g : Int → Int → Int}
    (rule : ∀ (i j : Int) (t u : Tok) (s : Shared) (Q : Value → Shared → Prop) (E : Value → Shared → Prop), C i j → Q (.int (g i j) s.toks) { s with toks := s.toks + 1 } → wpAny (model X.prog X.w) X.A (f (.int i t) (.int j u)) Q E s) :
    OpR X f (rI C fun i j => .int (g i j)) := by
  intro pins s σ H x y v u Q I rx ry h
  obtain ⟨i, j, rfl, rfl, hc, q⟩ := h
  obtain ⟨t, rfl⟩ := rx
  obtain ⟨t', rfl⟩ := ry
  exact rule i j t t' s _ _ hc ⟨.int (g i j), H, I.tok _, ⟨_, rfl⟩, q⟩
theorem opI0 {f : Value → Value → Sem Value} {g : Int → Int → Int}
    (rule : ∀ (i j : Int) (t u : Tok) (s : Shared) (Q : Value → Shared → Prop) (E : Value → Shared → Prop), Q (.int (g i j) s.toks) { s with toks := s.toks + 1 } → wpAny (model X.prog X.w) X.A (f (.int i t) (.int j u)) Q E s) :
    OpR X f (rI0 fun i j => .int (g i j)) := by
  intro pins s σ H x y v u Q I rx ry h
  obtain ⟨i, j, rfl, rfl, q⟩ := h
  obtain ⟨t, rfl⟩ := rx
  obtain ⟨t', rfl⟩ := ry
  exact rule i j t t' s _ _ ⟨.int (g i j), H, I.tok _, ⟨_, rfl⟩, q⟩
theorem opB0 {f : Value → Value → Sem Value} {g : Int → Int → Bool}
    (rule : ∀ (i j : Int) (t u : Tok) (s : Shared) (Q : Value → Shared → Prop) (E : Value → Shared → Prop), Q (.bool (g i j)) s → wpAny (model X.prog X.w) X.A (f (.int i t) (.int j u)) Q E s) :
    OpR X f (rI0 fun i j => .bl (g i j)) := by
  intro pins s σ H x y v u Q I rx ry h
  obtain ⟨i, j, rfl, rfl, q⟩ := h
  obtain ⟨t, rfl⟩ := rx
  obtain ⟨t', rfl⟩ := ry
  exact rule i j t t' s _ _ ⟨.bl (g i j), H, I, rfl, q⟩
def CDiv (i j : Int) : Prop := 0 < j ∧ j < 1073741824
def CPow (i j : Int) : Prop := 0 ≤ j ∧ j ≤ 1000000 ∧ i.natAbs < 2 ^ 64
def CMul (i j : Int) : Prop := (-(2 ^ 64) < i ∧ i < 2 ^ 64) ∨ (-(2 ^ 64) < j ∧ j < 2 ^ 64)
theorem CMul.ok {i j : Int} (h : CMul i j) : IntMulOk i j := by
  rcases h with ⟨h1, h2⟩ | ⟨h1, h2⟩
  · exact .of_left (intBits_le_64 h1 h2)
  · exact .of_right (intBits_le_64 h1 h2)
theorem op_add : OpR X (binaryOp .Add) (rI0 fun i j => .int (i + j)) := opI0 fun _ _ _ _ _ _ _ q => add_int q
theorem op_sub : OpR X (binaryOp .Sub) (rI0 fun i j => .int (i - j)) := opI0 fun _ _ _ _ _ _ _ q => sub_int q
theorem op_fdiv : OpR X (binaryOp .FloorDiv) (rI CDiv fun i j => .int (i / j)) := opI fun i j _ _ _ _ _ hc q => by
  have h1 : (0 : Int) < j := hc.1
  have h2 : j < 1073741824 := hc.2
  exact floordiv_int (by omega) (by rw [Int.fdiv_eq_ediv_of_nonneg i (by omega)]; exact q) (.inl (PyProof.noPylong_small (by omega)))
theorem op_mod : OpR X (binaryOp .Mod) (rI (fun _ j => 0 < j) fun i j => .int (i % j)) := opI fun i j _ _ _ _ _ hc q => by
  have h1 : (0 : Int) < j := hc
  exact mod_int' (by omega) (by rw [Int.fmod_eq_emod_of_nonneg i (by omega)]; exact q)
end
def scal : V → V → Bool
  | .non, .non => true | .non, .int _ => true | .int _, .non => true | .non, .bl _ => true | .bl _, .non => true | .non, .str _ => true | .str _, .non => true
  | .int _, .int _ => true | .bl _, .bl _ => true | .str _, .str _ => true | .byt _, .byt _ => true
  | .int _, .str _ => true | .str _, .int _ => true | .bl _, .str _ => true | .str _, .bl _ => true
  | _, _ => false
def rEq : R2 := fun x y H Q => scal x y = true ∧ Q (.bl (decide (x = y))) H
def rNe : R2 := fun x y H Q => scal x y = true ∧ Q (.bl (!decide (x = y))) H
theorem dec_int {i j : Int} : decide (V.int i = V.int j) = (i == j) := by
  rw [Bool.eq_iff_iff]
  simp
theorem dec_bl {i j : Bool} : decide (V.bl i = V.bl j) = (i == j) := by
  rw [Bool.eq_iff_iff]
  simp
theorem dec_str {i j : Str} : decide (V.str i = V.str j) = (i == j) := by
  rw [Bool.eq_iff_iff]
  simp
theorem dec_byt {i j : Array UInt8} : decide (V.byt i = V.byt j) = (i.toList == j.toList) := by
  rw [Bool.eq_iff_iff]
  cases i
  cases j
  simp
section
variable {X : Cx} {a b c : Expr} {ta tb tc : TE} {pos : Pos}
theorem fin_bl {pins : List (Addr × Obj)} {σ : St} {H : Hp} {s : Shared} {Q : VK} {k k' : Bool} (I : Inv X pins σ H s) (q : Q (.bl k) H) (e : k = k') : EP X pins σ Q (.bool k') s := by
  subst e
  exact ⟨.bl k, H, I, rfl, q⟩
theorem op_eq : OpR X (compareOp .Eq) rEq := by
  intro pins s σ H x y v u Q I rx ry h
  obtain ⟨hs, q⟩ := h
  cases x with
  | non =>
    cases rx
    cases y with
    | non => cases ry; exact PySem.EqNone.eq_none_none (fin_bl I q (by simp))
    | bl j => cases ry; exact PySem.EqNone.eq_none_bool (fin_bl I q (by simp))
    | int j => obtain ⟨t', rfl⟩ := ry; exact PySem.EqNone.eq_none_int (fin_bl I q (by simp))
    | str j => obtain ⟨t', rfl⟩ := ry; exact PySem.EqNone.eq_none_str (fin_bl I q (by simp))
    | _ => exact absurd (show false = true from hs) Bool.false_ne_true
  | bl i =>
    cases rx
    cases y with
    | non => cases ry; exact PySem.EqNone.eq_bool_none (fin_bl I q (by simp))
    | bl j => cases ry; exact eq_bool (fin_bl I q dec_bl)
    | str j => obtain ⟨t', rfl⟩ := ry; exact PySem.EqMixed.eq_bool_str (fin_bl I q (by simp))
    | _ => exact absurd (show false = true from hs) Bool.false_ne_true
  | int i =>
    obtain ⟨t, rfl⟩ := rx
    cases y with
    | non => cases ry; exact PySem.EqNone.eq_int_none (fin_bl I q (by simp))
    | int j => obtain ⟨t', rfl⟩ := ry; exact eq_int (fin_bl I q dec_int)
    | str j => obtain ⟨t', rfl⟩ := ry; exact PySem.EqMixed.eq_int_str (fin_bl I q (by simp))
    | _ => exact absurd (show false = true from hs) Bool.false_ne_true
  | str i =>
    obtain ⟨t, rfl⟩ := rx
    cases y with
    | non => cases ry; exact PySem.EqNone.eq_str_none (fin_bl I q (by simp))
    | bl j => cases ry; exact PySem.EqMixed.eq_str_bool (fin_bl I q (by simp))
    | int j => obtain ⟨t', rfl⟩ := ry; exact PySem.EqMixed.eq_str_int (fin_bl I q (by simp))
    | str j => obtain ⟨t', rfl⟩ := ry; exact eq_str (fin_bl I q dec_str)
    | _ => exact absurd (show false = true from hs) Bool.false_ne_true
  | byt i =>
    obtain ⟨t, rfl⟩ := rx
    cases y with
    | byt j => obtain ⟨t', rfl⟩ := ry; exact PySem.W.eq_bytes (fin_bl I q dec_byt)
    | _ => exact absurd (show false = true from hs) Bool.false_ne_true
  | _ => cases y <;> exact absurd (show false = true from hs) Bool.false_ne_true
theorem op_ne : OpR X (compareOp .NotEq) rNe := by
  intro pins s σ H x y v u Q I rx ry h
  obtain ⟨hs, q⟩ := h
  cases x with
  | non =>
    cases rx
    cases y with
    | non => cases ry; exact PySem.EqNone.ne_none_none (fin_bl I q (by simp))
    | bl j => cases ry; exact PySem.EqNone.ne_none_bool (fin_bl I q (by simp))
    | int j => obtain ⟨t', rfl⟩ := ry; exact PySem.EqNone.ne_none_int (fin_bl I q (by simp))
    | str j => obtain ⟨t', rfl⟩ := ry; exact PySem.EqNone.ne_none_str (fin_bl I q (by simp))
    | _ => exact absurd (show false = true from hs) Bool.false_ne_true
  | bl i =>
    cases rx
    cases y with
    | non => cases ry; exact PySem.EqNone.ne_bool_none (fin_bl I q (by simp))
    | bl j => cases ry; exact ne_bool (fin_bl I q (congrArg not dec_bl))
    | str j => obtain ⟨t', rfl⟩ := ry; exact PySem.EqMixed.ne_bool_str (fin_bl I q (by simp))
    | _ => exact absurd (show false = true from hs) Bool.false_ne_true
  | int i =>
    obtain ⟨t, rfl⟩ := rx
    cases y with
    | non => cases ry; exact PySem.EqNone.ne_int_none (fin_bl I q (by simp))
    | int j => obtain ⟨t', rfl⟩ := ry; exact ne_int (fin_bl I q (congrArg not dec_int))
    | str j => obtain ⟨t', rfl⟩ := ry; exact PySem.EqMixed.ne_int_str (fin_bl I q (by simp))
    | _ => exact absurd (show false = true from hs) Bool.false_ne_true
  | str i =>
    obtain ⟨t, rfl⟩ := rx
    cases y with
    | non => cases ry; exact PySem.EqNone.ne_str_none (fin_bl I q (by simp))
    | bl j => cases ry; exact PySem.EqMixed.ne_str_bool (fin_bl I q (by simp))
    | int j => obtain ⟨t', rfl⟩ := ry; exact PySem.EqMixed.ne_str_int (fin_bl I q (by simp))
    | str j => obtain ⟨t', rfl⟩ := ry; exact ne_str (fin_bl I q (congrArg not dec_str))
    | _ => exact absurd (show false = true from hs) Bool.false_ne_true
  | byt i =>
    obtain ⟨t, rfl⟩ := rx
    cases y with
    | byt j => obtain ⟨t', rfl⟩ := ry; exact PySem.W.ne_bytes (fin_bl I q (congrArg not dec_byt))
    | _ => exact absurd (show false = true from hs) Bool.false_ne_true
  | _ => cases y <;> exact absurd (show false = true from hs) Bool.false_ne_true
theorem op_lt : OpR X (compareOp .Lt) (rI0 fun i j => .bl (decide (i < j))) := opB0 fun _ _ _ _ _ _ _ q => lt_int q
theorem op_le : OpR X (compareOp .LtE) (rI0 fun i j => .bl (decide (i ≤ j))) := opB0 fun _ _ _ _ _ _ _ q => le_int q
theorem op_gt : OpR X (compareOp .Gt) (rI0 fun i j => .bl (decide (j < i))) := opB0 fun _ _ _ _ _ _ _ q => gt_int q
theorem nomark (b : Expr) {op : CmpOp} (h : op ≠ .In := by decide) (h2 : op ≠ .NotIn := by decide) : behindInMarks op b = false := by
  have e1 : (op == CmpOp.In) = false := by cases op <;> first | rfl | exact absurd rfl h
  have e2 : (op == CmpOp.NotIn) = false := by cases op <;> first | rfl | exact absurd rfl h2
  cases b <;> simp [behindInMarks, e1, e2]
theorem pe_cmpR {op : CmpOp} {r : R2} (ho : OpR X (compareOp op) r) (ha : PE X a ta) (hb : PE X b tb) (hm : behindInMarks op b = false) : PE X (.Compare a [op] [b] pos) (tOp r ta tb) := by
  intro pins s σ H Q I h
  exact wpAny_Compare1 (binT ha hb I h fun v u s2 x y H2 I2 rx ry q => ho pins s2 σ H2 x y v u Q I2 rx ry q) hm
def tTest (t : TE) : TT := fun σ H Q => t σ H fun x H' => ∃ k, x = .bl k ∧ Q k H'
theorem pt_cmpR {op : CmpOp} {r : R2} (ho : OpR X (compareOp op) r) (ha : PE X a ta) (hb : PE X b tb) (hm : behindInMarks op b = false) : PT X (.Compare a [op] [b] pos) (tTest (tOp r ta tb)) := by
  intro pins s σ H Q I h
  refine wpAny_isTrue_Compare1 (thn (ha pins s σ H _ I h) fun v s1 ⟨x, H1, I1, r1, q1⟩ => thn (hb pins s1 σ H1 _ I1 q1) fun u s2 ⟨y, H2, I2, r2, q2⟩ =>
    thn (ho pins s2 σ H2 x y v u _ I2 r1 r2 q2) fun c s3 ⟨z, H3, I3, r3, k, e, q3⟩ => ?_) hm
  subst e
  cases r3
  exact wpAny_truthy_bool ⟨H3, I3, q3⟩
theorem line63 : (sizeLine : Nat) < 2 ^ 63 := by rw [sizeLine_eq]; decide
theorem vals1 {x : V} {us : List Value} (r : Vals [x] us) : ∃ u, us = [u] ∧ RelV x u := by
  cases r with
  | cons r1 r2 => cases r2; exact ⟨_, rfl, r1⟩
end
end L2
namespace L2
open PySem PySem.Spec PyProof.Rows
structure ObjM (h : Heap) (x dx C : Addr) (mA : Str → Option Value) : Prop where
  obj : h.get? x = some (PySem.W.instObj C dx)
  ns : h.Ns1 dx mA
  ne : dx ≠ x
theorem lookIn_ns {h : Heap} {dx : Addr} {mA : Str → Option Value} (n : h.Ns1 dx mA) : ∃ od, h.get? dx = some od ∧ ∀ name, PySem.W.lookIn name od = some (mA name) := by
  obtain ⟨o, es, ep, ho, hd, hk, _, hm⟩ := n
  refine ⟨o, ho, fun name => ?_⟩
  have e := hm name
  unfold nsFind findBy at e
  rw [← Array.find?_toList] at e
  unfold PySem.W.lookIn
  rw [hd]
  dsimp only
  split
  · rename_i y q
    rw [q] at e
    exact congrArg some e
  · rename_i q
    rw [q] at e
    have a : es.toList.any (·.refKey) = false := by
      rw [List.any_eq_false]
      intro y hy
      obtain ⟨z, t, hkey⟩ := hk y (Array.mem_toList_iff.mp hy)
      simp [DictEntry.refKey, hkey]
    have a' : ¬ es.toList.any (·.refKey) = true := by rw [a]; exact Bool.false_ne_true
    rw [if_neg a']
    exact congrArg some e
theorem ObjM.look {h : Heap} {x dx C : Addr} {mA : Str → Option Value} (I : ObjM h x dx C mA) : ∃ od, PySem.W.InstAt h x (PySem.W.instObj C dx) C (some od) ∧ ∀ name, PySem.W.lookIn name od = some (mA name) :=
  let ⟨od, ho, hl⟩ := lookIn_ns I.ns
  ⟨od, ⟨I.obj, rfl, rfl, ho⟩, hl⟩
section
variable {prog : Program} {w : World} {A : Around} {E : Value → Shared → Prop} {s : Shared} {K : PySem.W.Frag} {x dx C f : Addr} {mA : Str → Option Value} {name : Str} {v : Value}
theorem get_map {expr : Bool} {Q : Value → Shared → Prop} (X : K.In s.heap) (I : ObjM s.heap x dx C mA) (hg : PySem.W.plainGet K C name = true) (hh : PySem.W.hasDictIn K C = true)
    (ha : PySem.W.findIn K (.ref C) name = some none) (hv : mA name = some v) (hv' : PySem.W.handedIn v = true) (h : Q v { s with toks := s.toks + 1 }) :
    wpAny (model prog w) A (getAttr (.ref x) name expr) Q E s := by
  obtain ⟨od, J, hl⟩ := I.look
  exact PySem.W.get_value X J (PySem.W.plainGet_of hg).1 (PySem.W.findObj_own hh ha rfl (by rw [hl, hv])) hv' h
end
section
variable {P : Program} {w : World} {H H' : Hp} {h h' : Heap} {a C dx : Addr} {fs fs' : List (Str × V)}
end
structure Cls (K : PySem.W.Frag) (C : Addr) : Prop where
  pg : PySem.W.plainGet K C Str.empty = true
  hd : PySem.W.hasDictIn K C = true
  po : PySem.W.plainOver K C = true
  sa : PySem.W.findIn K (.ref C) "__setattr__" = some (some (.builtin "object.__setattr__"))
theorem Cls.get {K : PySem.W.Frag} {C : Addr} (c : Cls K C) (f : Str) : PySem.W.plainGet K C f = true := c.pg
structure Con (K : PySem.W.Frag) (C : Addr) (f : Str) (v : V) (u : Value) : Prop where
  at_ : PySem.W.findIn K (.ref C) f = some (some u)
  rel : RelV v u
  get : PySem.W.specialIn K u "__get__" = some none
  cp : PySem.W.copiedNames.contains f = false
structure Meth (K : PySem.W.Frag) (C : Addr) (m : Str) (f : Addr) : Prop where
  at_ : PySem.W.findIn K (.ref C) m = some (some (.ref f))
  fn : PySem.W.isFn K (.ref f) = true
  kp : PySem.W.keepIn K (.ref f) = true
section
variable {X : Cx} {pins : List (Addr × Obj)} {σ : St} {H : Hp} {s : Shared} {a C dx : Addr} {fs : List (Str × V)} {f : Str} {v : V} {A : Around} {E : Value → Shared → Prop}
theorem Inv.made (I : Inv X pins σ H s) : Inv X pins σ (upd (upd H s.heap.objs.size (.own (s.heap.objs.size + 1))) (s.heap.objs.size + 1) (.ins C s.heap.objs.size []))
    { s with heap := (s.heap.push PySem.W.emptyDict).push (PySem.W.instObj C s.heap.objs.size) } := by
  have e1 : (s.heap.push PySem.W.emptyDict).get? s.heap.objs.size = some PySem.W.emptyDict := Heap.get?_push_size s.heap rfl
  have e2 : ((s.heap.push PySem.W.emptyDict).push (PySem.W.instObj C s.heap.objs.size)).get? (s.heap.objs.size + 1) = some (PySem.W.instObj C s.heap.objs.size) := by
    have := Heap.get?_push_size (s.heap.push PySem.W.emptyDict) (o := PySem.W.instObj C s.heap.objs.size) rfl
    rwa [Heap.size_push] at this
  have e3 : (s.heap.push PySem.W.emptyDict).Ns s.heap.objs.size (fun _ => none) := ⟨PySem.W.emptyDict, #[], _, e1, rfl, (fun e he => absurd he (by simp)), fun _ => rfl⟩
  have I1 := I.laid (a := s.heap.objs.size) (o := .own (s.heap.objs.size + 1)) (h' := s.heap.push PySem.W.emptyDict) (t' := s.toks) (fun b u q => Heap.get?_push_of_some _ q) (Nat.le_refl _) ⟨_, e1⟩
  refine I1.laid (a := s.heap.objs.size + 1) (o := .ins C s.heap.objs.size []) (t' := s.toks) (fun b u q => Heap.get?_push_of_some _ q) (Nat.le_of_eq (Heap.size_push _ _)) ?_
  have ne : s.heap.objs.size ≠ s.heap.objs.size + 1 := Nat.ne_of_lt (Nat.lt_succ_self _)
  refine ⟨by rw [upd_ne ne, upd_same], Nat.zero_le _, ne, e2, fun _ => none, (Heap.Ns1.of_empty e3).at fun o q => Heap.get?_push_of_some _ q, fun _ => True.intro, fun y hy => absurd rfl hy⟩
end
section
variable {X : Cx} {o e value : Expr} {f : Str} {pos pos' tpos : Pos} {ta tv : TE}
end
section
variable {X : Cx} {pins : List (Addr × Obj)} {σ : St} {H : Hp} {s : Shared} {A : Around} {E : Value → Shared → Prop} {Q : Value → Shared → Prop} {c : Value} {b : Bool}
inductive TyOf (K : PySem.W.Frag) (H : Hp) : V → Value → Prop where
  | non : TyOf K H .non (.type "NoneType")
  | bl (x : Bool) : TyOf K H (.bl x) (.type "bool")
  | int (i : Int) : TyOf K H (.int i) (.type "int")
  | str (x : Str) : TyOf K H (.str x) (.type "str")
  | flt (x : UInt64) : TyOf K H (.flt x) (.type "float")
  | lst {a : Addr} {xs : List V} (e : H a = some (.lst xs)) : TyOf K H (.ref a) (.type "list")
  | frz {a : Addr} {o : Obj} {xs : List V} (e : H a = some (.frz o (.lst xs))) : TyOf K H (.ref a) (.type "list")
  | tup {a : Addr} {xs : List V} (e : H a = some (.tup xs)) : TyOf K H (.ref a) (.type "tuple")
  | dK {a : Addr} {kvs : List (Key × V)} (e : H a = some (.dK kvs)) : TyOf K H (.ref a) (.type "dict")
  | dT {a : Addr} {kvs : List (List Key × V)} (e : H a = some (.dT kvs)) : TyOf K H (.ref a) (.type "dict")
  | ins {a C dx : Addr} {fs : List (Str × V)} (e : H a = some (.ins C dx fs)) (cl : Cls K C) (ha : PySem.W.findIn K (.ref C) "__class__" = some (some (.builtin "object.__class__")))
      (hn : PySem.W.specialIn K (.builtin "object.__class__") "__get__" = some (some (.builtin "getset_descriptor.__get__"))) (htk : PySem.W.takesIn K (.builtin "object.__class__") = some true)
      (hm : PySem.W.mroIn K C (.type "object") = some true) : TyOf K H (.ref a) (.ref C)
end
end L2
namespace L2
open PySem PySem.Spec PyProof.Rows
structure Room (k : Nat) (A : Around) : Prop where
  hd : A.handled = none
  dp : A.depth + 3 * k + 5 < recursionLimit
  un : A.units + 16 * k + 200 < cLine
theorem Room.mono {j k : Nat} {A : Around} (r : Room k A) (h : j ≤ k) : Room j A := ⟨r.hd, by have := r.dp; omega, by have := r.un; omega⟩
theorem Room.deeper {k : Nat} {A : Around} (r : Room (k + 1) A) (env : Env) : Room k (A.deeper env) :=
  ⟨r.hd, by have := r.dp; show A.depth + 1 + 3 * k + 5 < _; omega, by have := r.un; show A.units + 3 + 16 * k + 200 < _; omega⟩
theorem Room.in1 {k : Nat} {A : Around} (r : Room (k + 1) A) : Room k A.in1 :=
  ⟨r.hd, by have := r.dp; show A.depth + 3 * k + 5 < _; omega, by have := r.un; show A.units + 1 + 16 * k + 200 < _; omega⟩
theorem Room.depth {k : Nat} {A : Around} (r : Room k A) : A.depth < recursionLimit := by have := r.dp; omega
theorem Room.units {k : Nat} {A : Around} (r : Room k A) : A.units + 64 < cLine := by have := r.un; omega
def tNil : TA := fun _ H Q => Q [] H
def tCons (ta : TE) (tr : TA) : TA := fun σ H Q => ta σ H fun x H1 => tr σ H1 fun xs H2 => Q (x :: xs) H2
section
variable {X : Cx} {e : Expr} {es : List Expr} {te : TE} {t : TA} {pos : Pos}
theorem pa_nil : PA X [] tNil := fun _ _ _ _ H Q I h => Calls.spliced_nil ⟨[], H, I, .nil, h⟩
theorem pa_cons (ha : PE X e te) (hr : PA X es t) (hs : starEach (e :: es) X.env = (false, eval e X.env) :: starEach es X.env := by rfl) : PA X (e :: es) (tCons te t) := by
  intro pos pins s σ H Q I h
  rw [hs]
  show wpAny _ _ (spliced ((false, eval e X.env) :: backTo pos (starEach es X.env))) _ _ s
  refine Calls.spliced_cons (thn (ha pins s σ H _ I h) fun u s1 ⟨x, H1, I1, r1, q1⟩ => ?_)
  exact thn (hr pos pins s1 σ H1 _ I1 q1) fun us s2 ⟨xs, H2, I2, r2, q2⟩ => ⟨x :: xs, H2, I2, .cons r1 r2, q2⟩
def tTup (t : TA) : TE := fun σ H Q => t σ H fun xs H1 => xs.length ≤ sizeLine ∧ ∀ p, H1 p = none → Q (.ref p) (upd H1 p (.tup xs))
def tLst (t : TA) : TE := fun σ H Q => t σ H fun xs H1 => xs.length ≤ sizeLine ∧ ∀ p, H1 p = none → Q (.ref p) (upd H1 p (.lst xs))
theorem pe_tup {x1} (h : PA X es t) : PE X (.Tuple es x1 pos) (tTup t) := by
  intro pins s σ H Q I hq
  refine wpAny_Tuple_spliced (thn (h pos pins s σ H _ I hq) fun us s1 ⟨xs, H1, I1, r, z, q⟩ => ⟨by rw [← r.length]; exact z, ?_⟩)
  have hf : H1 s1.heap.objs.size = none := I1.hok.fresh (Nat.le_refl _)
  refine ⟨.ref s1.heap.objs.size, upd H1 s1.heap.objs.size (.tup xs), I1.laid (t' := s1.toks) (fun b u e => Heap.get?_push_of_some _ e) (Nat.le_refl _) ?_, rfl, q _ hf⟩
  exact ⟨z, us, r, ⟨_, Heap.get?_push_size _ rfl, rfl, _, rfl⟩⟩
theorem pe_lst (h : PA X es t) : PE X (.List es pos) (tLst t) := by
  intro pins s σ H Q I hq
  refine wpAny_List_spliced (thn (h pos pins s σ H _ I hq) fun us s1 ⟨xs, H1, I1, r, z, q⟩ => ⟨by rw [← r.length]; exact z, ?_⟩)
  have hf : H1 s1.heap.objs.size = none := I1.hok.fresh (Nat.le_refl _)
  refine ⟨.ref s1.heap.objs.size, upd H1 s1.heap.objs.size (.lst xs), I1.laid (t' := s1.toks) (fun b u e => Heap.get?_push_of_some _ e) (Nat.le_refl _) ?_, rfl, q _ hf⟩
  exact ⟨z, us, 0, r, Heap.get?_push_size _ rfl⟩
end
abbrev Sp := List V → Hp → VK → XK → Prop
abbrev CXT := List Env → Hp → Shared → XK → Value → Shared → Prop
structure Env0 (P : Program) (w : World) (K : PySem.W.Frag) (mg : Str → Option Value) (base : Heap) (A : Around) (outer : List Env) (s : Shared) (H : Hp) : Prop where
  frames : A.frames = some outer
  mod : Mod K mg base
  bs : ∀ b o, base.get? b = some o → s.heap.get? b = some o ∧ H b = none
  bsz : base.objs.size ≤ s.heap.objs.size
  funs : s.heap.FunFrames base outer
  frf : ∀ b ∈ frs outer, H b = none
  hok : HOk P w H s.heap
  bare : AllBare s.gens
  tb : TbOk K H
def CE (outer : List Env) (P : Program) (w : World) (H : Hp) (s : Shared) (Q : VK) (u : Value) (s' : Shared) : Prop :=
  ∃ v H', s'.os = s.os ∧ AllBare s'.gens ∧ Un (frs outer) [] H H' s.heap s'.heap ∧ HOk P w H' s'.heap ∧ RelV v u ∧ Q v H'
def CR (CX : CXT) (outer : List Env) (P : Program) (w : World) (H : Hp) (s : Shared) (Q : VK) (E : XK) (r : Result) (s' : Shared) : Prop :=
  match r with
  | .ok (.ret u) => CE outer P w H s Q u s'
  | .ok _ => False
  | .error e => CX outer H s E e s'
structure FnOk (P : Program) (w : World) (K : PySem.W.Frag) (mg : Str → Option Value) (base : Heap) (CX : CXT) (k : Nat) (f : Addr) (fd : FuncData) (ps : List Str) (sp : Sp) : Prop where
  len : ∀ vs H Q E, sp vs H Q E → vs.length = ps.length
  run : ∀ (A : Around) (outer : List Env) (s : Shared) (H : Hp) (args : Args) (us : List Value) (vs : List V) (Q : VK) (E : XK), Room k A → Env0 P w K mg base A outer s H → BindsTo s fd args (ps.zip us) → Vals vs us → sp vs H Q E →
    codeAny (model P w) A (.call (.ref f) args) (CR CX outer P w H s Q E) s
theorem FnOk.mono {P : Program} {w : World} {K : PySem.W.Frag} {mg : Str → Option Value} {base : Heap} {CX : CXT} {j k : Nat} {f : Addr} {fd : FuncData} {ps : List Str} {sp : Sp} (F : FnOk P w K mg base CX j f fd ps sp) (h : j ≤ k) :
    FnOk P w K mg base CX k f fd ps sp := ⟨F.len, fun A outer s H args us vs Q E hr => F.run A outer s H args us vs Q E (hr.mono h)⟩
theorem FnOk.imp {P : Program} {w : World} {K : PySem.W.Frag} {mg : Str → Option Value} {base : Heap} {CX : CXT} {k : Nat} {f : Addr} {fd : FuncData} {ps : List Str} {sp sp' : Sp} (F : FnOk P w K mg base CX k f fd ps sp)
    (h : ∀ vs H Q E, sp' vs H Q E → sp vs H Q E) : FnOk P w K mg base CX k f fd ps sp' :=
  ⟨fun vs H Q E q => F.len vs H Q E (h _ _ _ _ q), fun A outer s H args us vs Q E hr he hb hv hs => F.run A outer s H args us vs Q E hr he hb hv (h _ _ _ _ hs)⟩
theorem Env0.in1 {P : Program} {w : World} {K : PySem.W.Frag} {mg : Str → Option Value} {base : Heap} {A : Around} {outer : List Env} {s : Shared} {H : Hp} (e : Env0 P w K mg base A outer s H) :
    Env0 P w K mg base A.in1 outer s H := ⟨e.frames, e.mod, e.bs, e.bsz, e.funs, e.frf, e.hok, e.bare, e.tb⟩
section
variable {X : Cx} {pins : List (Addr × Obj)} {σ : St} {H : Hp} {s s' : Shared}
theorem Inv.env0 (I : Inv X pins σ H s) : Env0 X.prog X.w X.K X.mg X.base X.A X.stack s H :=
  ⟨I.ok.frames, I.ok.mod, I.bs, Nat.le_trans I.ok.bsz I.sz, I.stack, I.stkFree, I.hok, I.bare, I.ok.tb.un I.base⟩
theorem Inv.after {Q : VK} {u : Value} (I : Inv X pins σ H s) (h : CE X.stack X.prog X.w H s Q u s') : EP X pins σ Q u s' := by
  obtain ⟨v, H', os, bare, un, hok, r, q⟩ := h
  obtain ⟨hh, g, d, t, os'⟩ := s'
  obtain rfl : os' = s.os := os
  exact ⟨v, H', I.call (h' := hh) (g' := g) (d' := d) (t' := t) (ch := []) un hok bare (fun b z => absurd z (by simp)), r, q⟩
end
def tCall (sp : Sp) (dvs : List V) (E : XK) (t : TA) : TE := fun σ H Q => t σ H fun vs H1 => sp (vs ++ dvs) H1 Q E
def Binds (K : PySem.W.Frag) (fd : FuncData) (ps : List Str) (ds : List Value) : Prop :=
  ∀ (s : Shared) (us : List Value), K.In s.heap → (us ++ ds).length = ps.length → BindsTo s fd ⟨us, []⟩ (ps.zip (us ++ ds))
theorem Binds.all {K : PySem.W.Frag} {fd : FuncData} {ps : List Str} (h : ∀ us : List Value, us.length = ps.length → bindArgs fd ⟨us, []⟩ = pure (ps.zip us)) : Binds K fd ps [] := fun s us _ hl => by
  rw [List.append_nil] at hl ⊢
  exact .of_eq (h us hl)
def Passes (CX : CXT) (X : Cx) (E : XK) : Prop := ∀ (pins : List (Addr × Obj)) (σ : St) (H : Hp) (s : Shared) (e : Value) (s' : Shared), Inv X pins σ H s → CX X.stack H s E e s' → X.xe e s'
section
variable {X : Cx} {CX : CXT} {k : Nat} {f C : Addr} {fd : FuncData} {ps : List Str} {sp : Sp} {dvs : List V} {ds : List Value} {E : XK} {x m : Str} {p pos apos : Pos} {e o : Expr} {es : List Expr} {ta : TE} {t : TA}
theorem run_fn {pins : List (Addr × Obj)} {σ : St} {H : Hp} {s : Shared} {Q : VK} {us : List Value} {vs : List V} (F : FnOk X.prog X.w X.K X.mg X.base CX k f fd ps sp) (hr : Room k X.A) (hb : Binds X.K fd ps ds) (hd : Vals dvs ds) (hx : Passes CX X E)
    (I : Inv X pins σ H s) (r : Vals vs us) (h : sp (vs ++ dvs) H Q E) : wpAny (model X.prog X.w) X.A (call (.ref f) us) (EP X pins σ Q) X.xe s := by
  have r2 : Vals (vs ++ dvs) (us ++ ds) := r.append hd
  have hl : (us ++ ds).length = ps.length := by rw [← r2.length]; exact F.len _ _ _ _ h
  refine wpAny_call (codeAny_mono (F.run X.A X.stack s H ⟨us, []⟩ (us ++ ds) (vs ++ dvs) Q E hr I.env0 (hb s us I.kIn hl) r2 h) fun r s' hq => ?_)
  cases r with
  | error e => exact hx pins σ H s e s' I hq
  | ok fl =>
    cases fl with
    | ret u => exact I.after hq
    | next => exact False.elim hq
    | brk => exact False.elim hq
    | cont => exact False.elim hq
theorem pe_call (F : FnOk X.prog X.w X.K X.mg X.base CX k f fd ps sp) (hr : Room k X.A) (hg : Gl X x) (hm : X.mg x = some (.ref f)) (hk : PySem.W.keepIn X.K (.ref f) = true) (hb : Binds X.K fd ps ds) (hd : Vals dvs ds) (hx : Passes CX X E)
    (ha : PA X (e :: es) t) (hdb : (x == ("__debug__" : Str)) = false := by decide) (he : starEach (e :: es) X.env = (false, eval e X.env) :: starEach es X.env := by rfl) (hpl : (backTo pos (starEach es X.env)).any (·.1) = false := by rfl) :
    PE X (.Call (.Name x p) (e :: es) [] pos) (tCall sp dvs E t) := by
  intro pins s σ H Q I h
  refine wpAny_Call_Name_kw (ld_glob I hg hm ?_ hdb)
  refine PySem.W.callWith_K (h₀ := X.base) I.ok.mod.kin hk (thn (ha pos pins s σ H _ I h) fun us s1 ⟨vs, H1, I1, r, q⟩ => ⟨I1.kIn, ?_⟩) he hpl
  exact run_fn F hr hb hd hx I1 r q
structure Mk (K : PySem.W.Frag) (C f : Addr) : Prop where
  makes : PySem.W.makesIn K C = true
  init : PySem.W.findIn K (.ref C) "__init__" = some (some (.ref f))
  fn : PySem.W.isFn K (.ref f) = true
  kp : PySem.W.keepIn K (.ref C) = true
end
section
variable {X : Cx} {CX : CXT} {k : Nat} {f C : Addr} {fd : FuncData} {ps ks : List Str} {sp : Sp} {E : XK} {x m : Str} {p pos apos kpos : Pos} {e o : Expr} {es : List Expr} {kws : List Keyword} {te ta : TE} {t tk : TA} {nm : Option Str}
structure KBinds (K : PySem.W.Frag) (fd : FuncData) (ps ks : List Str) (g : List Value → List Value → List Value) (gV : List V → List V → List V) : Prop where
  to : ∀ (s : Shared) (us ws : List Value), K.In s.heap → (g us ws).length = ps.length → BindsTo s fd ⟨us, ks.zip ws⟩ (ps.zip (g us ws))
  rel : ∀ {vs : List V} {us : List Value} {zs : List V} {ws : List Value}, Vals vs us → Vals zs ws → Vals (gV vs zs) (g us ws)
variable {g : List Value → List Value → List Value} {gV : List V → List V → List V}
end
structure FnScope (N P : List Str) (sc : Scope) : Prop where
  kind : sc.kind = .function
  co : sc.isCoroutine = false
  gen : sc.isGenerator = false
  nd : N.Nodup
  pre : N.take P.length = P
  par : ∀ x ∈ P, sc.names.lookup x = some .local ∨ sc.names.lookup x = some .cell
  nofree : ∀ y ∈ sc.names, y.2 ≠ .free
theorem bindL_out {kindOf : Str → Option NameKind} {x : Str} : ∀ {binds : List (Str × Value)} {m : Str → Option Value}, (∀ v, (x, v) ∉ binds) → bindL kindOf binds m x = m x
  | [], _, _ => rfl
  | (n, v) :: r, m, h => by
    unfold bindL
    rw [bindL_out fun w hw => h w (List.mem_cons_of_mem _ hw)]
    split
    · have : x ≠ n := by rintro rfl; exact h v List.mem_cons_self
      simp [this]
    · rfl
theorem bindC_out {kindOf : Str → Option NameKind} {x : Str} : ∀ {binds : List (Str × Value)} {m : Str → Option Value}, (∀ v, (x, v) ∉ binds) → bindC kindOf binds m x = m x
  | [], _, _ => rfl
  | (n, v) :: r, m, h => by
    unfold bindC
    rw [bindC_out fun w hw => h w (List.mem_cons_of_mem _ hw)]
    split
    · rfl
    · have : x ≠ n := by rintro rfl; exact h v List.mem_cons_self
      simp [this]
theorem bindL_get {kindOf : Str → Option NameKind} {x : Str} {v : Value} : ∀ {P : List Str} {vs : List Value} {i : Nat} {m : Str → Option Value}, P.Nodup → P[i]? = some x → vs[i]? = some v → kindOf x = some .local →
    bindL kindOf (P.zip vs) m x = some v
  | [], _, _, _, _, h, _, _ => by simp at h
  | _ :: _, [], _, _, _, _, h, _ => by simp at h
  | p :: P, w :: vs, 0, m, nd, h1, h2, hk => by
    simp at h1 h2; subst h1; subst h2
    show bindL kindOf ((p, w) :: P.zip vs) m p = _
    unfold bindL
    rw [bindL_out fun v hv => (List.nodup_cons.mp nd).1 (List.of_mem_zip hv).1, if_pos hk]
    simp
  | p :: P, w :: vs, i + 1, m, nd, h1, h2, hk => by
    show bindL kindOf ((p, w) :: P.zip vs) m x = _
    unfold bindL
    exact bindL_get (i := i) (List.nodup_cons.mp nd).2 (by simpa using h1) (by simpa using h2) hk
theorem bindC_get {kindOf : Str → Option NameKind} {x : Str} {v : Value} : ∀ {P : List Str} {vs : List Value} {i : Nat} {m : Str → Option Value}, P.Nodup → P[i]? = some x → vs[i]? = some v → kindOf x ≠ some .local →
    bindC kindOf (P.zip vs) m x = some v
  | [], _, _, _, _, h, _, _ => by simp at h
  | _ :: _, [], _, _, _, _, h, _ => by simp at h
  | p :: P, w :: vs, 0, m, nd, h1, h2, hk => by
    simp at h1 h2; subst h1; subst h2
    show bindC kindOf ((p, w) :: P.zip vs) m p = _
    unfold bindC
    rw [bindC_out fun v hv => (List.nodup_cons.mp nd).1 (List.of_mem_zip hv).1, if_neg hk]
    simp
  | p :: P, w :: vs, i + 1, m, nd, h1, h2, hk => by
    show bindC kindOf ((p, w) :: P.zip vs) m x = _
    unfold bindC
    exact bindC_get (i := i) (List.nodup_cons.mp nd).2 (by simpa using h1) (by simpa using h2) hk
def start (N : List Str) (vs : List V) : St := vs.map some ++ List.replicate (N.length - vs.length) none
def cxOf (CX : CXT) (P : Program) (w : World) (K : PySem.W.Frag) (mg : Str → Option Value) (base : Heap) (N : List Str) (qual : Str) (scope : Scope) (f : Addr) (cd : Value) (A : Around) (outer : List Env) (s : Shared) (H : Hp) (E : XK) : Cx where
  prog := P
  w := w
  K := K
  mg := mg
  base := base
  A := A.deeper (envOfC qual scope s.heap.objs.size f cd)
  N := N
  s₀ := s
  H₀ := H
  env := envOfC qual scope s.heap.objs.size f cd
  outer := outer
  stack := envOfC qual scope s.heap.objs.size f cd :: outer
  ex := []
  calm := true
  fn := fun _ => true
  pn := []
  xe := fun e s' => wpAny (model P w) (A.deeper (envOfC qual scope s.heap.objs.size f cd)) (leaving (envOfC qual scope s.heap.objs.size f cd) e) (fun _ s'' => CX outer H s E e s'') (fun e' s'' => CX outer H s E e' s'') s'
theorem cell_has {sc : Scope} {n : Nat} {x : Str} (h : sc.names.lookup x = some .cell) : ∃ c, (cellsFrom n sc.names []).lookup x = some c := by
  have q := PySem.W.cellsFrom_some sc.names n [] (.inl h)
  exact Option.isSome_iff_exists.mp q
theorem inv_start {CX : CXT} {P : Program} {w : World} {K : PySem.W.Frag} {mg : Str → Option Value} {base : Heap} {N ps : List Str} {qual : Str} {scope : Scope} {f : Addr} {cd : Value} {A : Around} {outer : List Env} {s s1 : Shared} {H : Hp} {E : XK} {us : List Value} {vs : List V}
    (S : FnScope N ps scope) (hd : A.handled = none) (e0 : Env0 P w K mg base A outer s H) (hl : vs.length = ps.length) (r : Vals vs us)
    (x : InCallC s s.heap.objs.size (bindL (envOfC qual scope s.heap.objs.size f cd).kindOf (ps.zip us) fun _ => none) (cellsFrom (s.heap.objs.size + 1) scope.names []) (bindC (envOfC qual scope s.heap.objs.size f cd).kindOf (ps.zip us) fun _ => none) s1) :
    Inv (cxOf CX P w K mg base N qual scope f cd A outer s H E) [] (start N vs) H s1 := by
  have hpl : ps.length ≤ N.length := by have := congrArg List.length S.pre; rw [List.length_take] at this; omega
  obtain ⟨h1, tk, rfl, hk⟩ := x.done
  have noA : ∀ b : Addr, b ∉ (cxOf CX P w K mg base N qual scope f cd A outer s H E).ex := fun b z => absurd (show b ∈ ([] : List Addr) from z) (by simp)
  refine ⟨⟨e0.mod, S.kind, rfl, rfl, Nat.le_refl _, fun y z c h1 h2 => ?_, fun y hy => ?_, fun y c _ h => ?_, fun _ => hd, Around.frames_deeper e0.frames, .inr ⟨rfl, rfl⟩, fun b z => absurd z (noA b), e0.bs, e0.bsz, fun b _ _ => noA b, fun b z => absurd z (noA b), e0.funs, e0.frf, e0.tb⟩,
    rfl, e0.bare, Un.kept hk, ⟨_, x.toInCall.ns, fun i y v h1 h2 h3 => ?_⟩, fun y c h => ⟨_, x.cell y c h⟩, e0.hok.fresh (Nat.le_refl _), fun y c h => ?_, fun p hp => absurd (show p ∈ ([] : List (Addr × Obj)) from hp) (by simp), e0.hok.kept hk, ?_⟩
  · exact name_of_addr x.apart (PySem.mem_of_lookup h1) (PySem.mem_of_lookup h2)
  · have hy : scope.names.lookup y = some .cell ∨ scope.names.lookup y = some .free := hy
    rcases hy with hy | hy
    · exact cell_has hy
    · exact absurd rfl (S.nofree _ (PySem.mem_of_lookup hy))
  · exact Nat.le_of_lt (x.above y c (PySem.mem_of_lookup h))
  · have hi : i < vs.length := by
      unfold start at h2
      by_cases hi : i < vs.length
      · exact hi
      · rw [List.getElem?_append_right (by simpa using hi)] at h2
        rw [List.getElem?_replicate] at h2
        split at h2 <;> cases h2
    have ha : vs[i]? = some v := by
      unfold start at h2
      rw [List.getElem?_append_left (by simpa using hi), List.getElem?_map] at h2
      cases e : vs[i]? with
      | none => rw [e] at h2; cases h2
      | some a => rw [e] at h2; cases h2; rfl
    obtain ⟨u, hu, rv⟩ := r.get ha
    have hp : ps[i]? = some y := by
      rw [← S.pre, List.getElem?_take_of_lt (by omega)]; exact h1
    have ndP : ps.Nodup := by rw [← S.pre]; exact S.nd.sublist (List.take_sublist _ _)
    refine ⟨u, rv, ?_⟩
    rcases S.par y (List.mem_of_getElem? hp) with k | k
    · exact .inl ⟨k, bindL_get ndP hp hu k⟩
    · obtain ⟨c, e⟩ := cell_has (n := s.heap.objs.size + 1) k
      refine .inr ⟨.inl k, c, e, ?_⟩
      have q := x.cell y c e
      rw [bindC_get ndP hp hu (by show scope.names.lookup y ≠ _; rw [k]; decide)] at q
      exact q
  · exact .inl (e0.hok.fresh (Nat.le_of_lt (x.above y c (PySem.mem_of_lookup h))))
  · unfold start
    show _ = N.length
    rw [List.length_append, List.length_map, List.length_replicate]
    omega
theorem fn_of {CX : CXT} {P : Program} {w : World} {K : PySem.W.Frag} {mg : Str → Option Value} {base : Heap} {k : Nat} {f : Addr} {name qual : Str} {params : Arguments} {body : List Stmt} {scope : Scope} {dV kV doc pm cdv ct oc : Value} {an od : Option Addr}
    {osl : Array (Option Value)} {N ps : List Str} {sp : Sp} (lk : K.lookup f = some ⟨oc, od, .func (PySem.W.fnOf name qual params body scope dV kV doc pm an cdv ct), osl⟩) (hcd : PySem.W.codeIn K cdv qual = true) (S : FnScope N ps scope)
    (len : ∀ vs H Q E, sp vs H Q E → vs.length = ps.length)
    (hbody : ∀ (A : Around) (outer : List Env) (s : Shared) (H : Hp) (vs : List V) (Q : VK) (E : XK), Room k (A.deeper (envOfC qual scope s.heap.objs.size f cdv)) → sp vs H Q E →
      ∃ t, PSs (cxOf CX P w K mg base N qual scope f cdv A outer s H E) body t ∧ t { nx := fun _ H' => Q .non H', rt := Q } (start N vs) H) :
    FnOk P w K mg base CX (k + 1) f (PySem.W.fnOf name qual params body scope dV kV doc pm an cdv ct) ps sp := by
  refine ⟨len, fun A outer s H args us vs Q E hr e0 hb r hsp => ?_⟩
  have hl := len _ _ _ _ hsp
  have KX : K.In s.heap := e0.mod.kin.keeps fun b o e => (e0.bs b o e).1
  have lim : s.heap.NoLimit := e0.mod.nolimit.keeps fun b o e => (e0.bs b o e).1
  have hkind : ∀ y ∈ ps.zip us, scope.names.lookup y.1 = some .local ∨ (scope.names.lookup y.1 = some .cell ∧ ((cellsFrom (s.heap.objs.size + 1) scope.names []).lookup y.1).isSome = true) := fun ⟨n, v⟩ hy => by
    rcases S.par n (List.of_mem_zip hy).1 with q | q
    · exact .inl q
    · exact .inr ⟨q, PySem.W.cellsFrom_some _ _ _ (.inl q)⟩
  refine codeAny_call_function hr.depth (KX _ _ lk) rfl S.co S.gen rfl (PySem.W.codeRec_of KX hcd) (hb _ _ _ _ ?_)
  refine wpAny_newFunctionEnv_cells S.kind hkind fun env he s1 x => ?_
  subst he
  refine ⟨lim.keeps x.toInCall.keep, codeAny_func ?_⟩
  obtain ⟨t, ht, hq⟩ := hbody A outer s H vs Q E (hr.deeper _) hsp
  have I : Inv (cxOf CX P w K mg base N qual scope f cdv A outer s H E) [] (start N vs) H s1 := inv_start S hr.hd e0 hl r x
  refine wpAny_mono (ht [] s1 (start N vs) H _ I hq) (fun fl s' hs => ?_) fun e s' hs => hs
  have fin : ∀ {σ' : St} {H' : Hp} {v : V} {u : Value}, Inv (cxOf CX P w K mg base N qual scope f cdv A outer s H E) [] σ' H' s' → RelV v u → Q v H' → CE outer P w H s Q u s' :=
    fun {σ' H' v u} J rv q => ⟨v, H', J.os, J.bare, J.base, J.hok, rv, q⟩
  cases fl with
  | ret u =>
    obtain ⟨v, σ', H', J, rv, q⟩ := hs
    exact fin J rv q
  | next =>
    obtain ⟨σ', H', J, q⟩ := hs
    exact fin (v := V.non) (u := Value.none) J rfl q
  | brk =>
    obtain ⟨_, _, _, q⟩ := hs
    exact False.elim q
  | cont =>
    obtain ⟨_, _, _, q⟩ := hs
    exact False.elim q
end L2
namespace L2
open PySem PySem.Spec PyProof.Rows
section
variable {X : Cx} {x : Str} {p pos : Pos} {e : Expr} {es : List Expr} {t : TA} {id T : String} {r : List V → Hp → VK → Prop}
def tCB (r : List V → Hp → VK → Prop) (t : TA) : TE := fun σ H Q => t σ H fun vs H1 => r vs H1 Q
theorem pe_callB (hc : CallR X (.builtin id) r) (hg : Gl X x) (hm : X.mg x = none) (hv : bootBuiltins x = some (.builtin id)) (ha : PA X (e :: es) t) (hn : x ≠ "__name__" := by decide) (hdb : (x == ("__debug__" : Str)) = false := by decide)
    (he : starEach (e :: es) X.env = (false, eval e X.env) :: starEach es X.env := by rfl) (hpl : (backTo pos (starEach es X.env)).any (·.1) = false := by rfl) : PE X (.Call (.Name x p) (e :: es) [] pos) (tCB r t) := by
  intro pins s σ H Q I h
  refine wpAny_Call_Name_kw (ld_blt I hg hm hv ?_ hn hdb)
  exact PyProof.Rows.callWith_builtin1 (thn (ha pos pins s σ H _ I h) fun us s1 ⟨vs, H1, I1, r1, q1⟩ => hc pins s1 σ H1 vs us Q I1 r1 q1) he hpl
theorem pe_callTy (hc : CallR X (.type T) r) (hg : Gl X x) (hm : X.mg x = none) (hv : bootBuiltins x = some (.type T)) (ha : PA X (e :: es) t) (hn : x ≠ "__name__" := by decide) (hdb : (x == ("__debug__" : Str)) = false := by decide)
    (he : starEach (e :: es) X.env = (false, eval e X.env) :: starEach es X.env := by rfl) (hpl : (backTo pos (starEach es X.env)).any (·.1) = false := by rfl) : PE X (.Call (.Name x p) (e :: es) [] pos) (tCB r t) := by
  intro pins s σ H Q I h
  refine wpAny_Call_Name_kw (ld_blt I hg hm hv ?_ hn hdb)
  exact PyProof.Rows.callWith_type1 (thn (ha pos pins s σ H _ I h) fun us s1 ⟨vs, H1, I1, r1, q1⟩ => hc pins s1 σ H1 vs us Q I1 r1 q1) he hpl
end
end L2
namespace HT
open PySem PyProof.Rows
section
open PySem.SeqAt
open PySem.AutoSeq1 (wpAny_loadPart')
open PySem.MeetsSeq PySem.MeetsSeq2 PySem.MeetsSeq3
end
section
variable {prog : Program} {w : World} {A : Around} {E : Value → Shared → Prop} {s : Shared}
def sIx (n d : Nat) : Option Int → Nat
  | none => d
  | some v => if v < 0 then (v + (n : Int)).toNat else min v.toNat n
theorem sIx_nat (n d k : Nat) : sIx n d (some (k : Int)) = min k n := by
  show (if (k : Int) < 0 then ((k : Int) + (n : Int)).toNat else min (k : Int).toNat n) = min k n
  rw [if_neg (by omega), Int.toNat_natCast]
end
end HT
namespace L2
open PySem PySem.Spec PyProof.Rows
abbrev TO := St → Hp → (Option Int → Hp → Prop) → Prop
def PO (X : Cx) (e : Option Expr) (t : TO) : Prop :=
  ∀ (pins : List (Addr × Obj)) (s : Shared) (σ : St) (H : Hp) (Q : Option Int → Hp → Prop), Inv X pins σ H s → t σ H Q →
    wpAny (model X.prog X.w) X.A (evalPart e X.env) (fun u s' => ∃ o H', Inv X pins σ H' s' ∧ IsPart u o ∧ Q o H') X.xe s
def tNoPart : TO := fun _ H Q => Q none H
def tPart (t : TE) : TO := fun σ H Q => t σ H fun x H1 => ∃ i, x = .int i ∧ Q (some i) H1
theorem intsAre_of {ns : List Int} : ∀ {us : List Value}, Vals (ns.map V.int) us → IntsAre us ns := by
  induction ns with
  | nil => intro us r; rw [List.map_nil] at r; cases r; exact .nil
  | cons n ns ih =>
    intro us r
    rw [List.map_cons] at r
    cases r with
    | cons r1 r2 =>
      obtain ⟨t, e⟩ := r1
      subst e
      exact .cons n t (ih r2)
section
variable {X : Cx} {e : Expr} {te : TE} {lo hi : Option Expr} {tl th : TO} {pos p2 : Pos}
theorem po_none : PO X none tNoPart := by
  intro pins s σ H Q I h
  rw [evalPart_none]
  exact wpAny_pure ⟨none, H, I, .none, h⟩
theorem po_some (h : PE X e te) : PO X (some e) (tPart te) := by
  intro pins s σ H Q I hw
  rw [evalPart_some]
  refine thn (h pins s σ H _ I hw) fun u s1 ⟨x, H1, I1, r1, q1⟩ => ?_
  obtain ⟨i, rfl, q⟩ := q1
  obtain ⟨t, rfl⟩ := r1
  exact ⟨some i, H1, I1, .int i t, q⟩
def SlR (X : Cx) (r : V → Option Int → Option Int → Hp → VK → Prop) : Prop :=
  ∀ (pins : List (Addr × Obj)) (s : Shared) (σ : St) (H : Hp) (x : V) (v vl vu : Value) (lo hi : Option Int) (sl : Addr) (Q : VK), Inv X pins σ H s → RelV x v → s.heap.IsSliceOf sl vl vu .none → IsPart vl lo → IsPart vu hi → r x lo hi H Q →
    ∃ T id, typeLookup (.type T) "__getitem__" = pure (some (.builtin id)) ∧ s.TypeIs v T ∧ wpAny (model X.prog X.w) X.A (getItem v (.ref sl)) (EP X pins σ Q) X.xe s
def tSl (r : V → Option Int → Option Int → Hp → VK → Prop) (te : TE) (tl th : TO) : TE := fun σ H Q => te σ H fun x H1 => tl σ H1 fun l H2 => th σ H2 fun u H3 => r x l u H3 Q
theorem pe_slice {r : V → Option Int → Option Int → Hp → VK → Prop} (hr : SlR X r) (he : PE X e te) (hl : PO X lo tl) (hu : PO X hi th) : PE X (.Subscript e (.Slice lo hi none p2) pos) (tSl r te tl th) := by
  intro pins s σ H Q I h
  refine Subscript_ (thn (he pins s σ H _ I h) fun v s1 ⟨x, H1, I1, r1, q1⟩ => ?_)
  refine wpAny_Slice (thn (hl pins s1 σ H1 _ I1 q1) fun vl s2 ⟨l, H2, I2, pl, q2⟩ => thn (hu pins s2 σ H2 _ I2 q2) fun vu s3 ⟨u, H3, I3, pu, q3⟩ => ?_)
  rw [evalPart_none]
  refine wpAny_pure ?_
  have I4 : Inv X pins σ H3 { s3 with heap := s3.heap.push { cls := .type "slice", data := .fields #[vl, vu, .none] } } := I3.kept (t' := s3.toks) fun b ob q => Heap.get?_push_of_some _ q
  obtain ⟨T, id, hT, ht, hg⟩ := hr pins { s3 with heap := s3.heap.push { cls := .type "slice", data := .fields #[vl, vu, .none] } } σ H3 x v vl vu l u s3.heap.objs.size Q I4 r1 (Heap.IsSliceOf.new ..) pl pu q3
  show wpAny (model X.prog X.w) X.A (subscriptTail e (.Slice lo hi none p2) v (.ref s3.heap.objs.size)) (EP X pins σ Q) X.xe { s3 with heap := s3.heap.push { cls := .type "slice", data := .fields #[vl, vu, .none] } }
  exact tail_any (ops := [.ref s3.heap.objs.size, v]) ht hT hg (by with_unfolding_all rfl)
def cutV (xs : List V) (lo hi : Option Int) : List V := (xs.drop (HT.sIx xs.length 0 lo)).take (HT.sIx xs.length xs.length hi - HT.sIx xs.length 0 lo)
theorem cutV_length (xs : List V) (lo hi : Option Int) : (cutV xs lo hi).length ≤ xs.length := by
  unfold cutV
  rw [List.length_take, List.length_drop]
  omega
end
end L2
namespace L2
open PySem PySem.Spec PyProof.Rows
def ixN (n : Nat) (i : Int) : Option Nat := if 0 ≤ i then (if i < n then some i.toNat else none) else if -(n : Int) ≤ i then some (i + n).toNat else none
def atI {α : Type} (xs : List α) (i : Int) : Option α := (ixN xs.length i).bind fun j => xs[j]?
theorem ixN_seq {n : Nat} {i : Int} {j : Nat} (h : ixN n i = some j) : seqIndex? i n = some j ∧ j < n ∧ -(n : Int) ≤ i ∧ i < n := by
  unfold ixN at h
  by_cases h0 : 0 ≤ i
  · rw [if_pos h0] at h
    by_cases h1 : i < n
    · rw [if_pos h1] at h
      have e : i.toNat = j := Option.some.inj h
      exact ⟨by rw [seqIndex_of h0 h1, e], by omega, by omega, h1⟩
    · rw [if_neg h1] at h; cases h
  · rw [if_neg h0] at h
    by_cases h1 : -(n : Int) ≤ i
    · rw [if_pos h1] at h
      have e : (i + n).toNat = j := Option.some.inj h
      exact ⟨by rw [seqIndex_neg (by omega) h1, e], by omega, h1, by omega⟩
    · rw [if_neg h1] at h; cases h
theorem atI_get {α : Type} {xs : List α} {i : Int} {v : α} (h : atI xs i = some v) : ∃ j, seqIndex? i xs.length = some j ∧ xs[j]? = some v ∧ j < xs.length ∧ -(xs.length : Int) ≤ i ∧ i < xs.length := by
  unfold atI at h
  cases e : ixN xs.length i with
  | none => rw [e] at h; cases h
  | some j =>
    rw [e] at h
    obtain ⟨h1, h2, h3, h4⟩ := ixN_seq e
    exact ⟨j, h1, h, h2, h3, h4⟩
theorem atI_nat {α : Type} {xs : List α} {j : Nat} {v : α} (h : xs[j]? = some v) : atI xs (j : Int) = some v := by
  have hj : j < xs.length := (List.getElem?_eq_some_iff.mp h).1
  have e : ixN xs.length (j : Int) = some j := by
    unfold ixN
    rw [if_pos (by omega), if_pos (by omega)]; simp
  unfold atI; rw [e]; exact h
def PlainIx (b : Expr) : Prop := ∀ o i, subscripted b false o i = operate [o, i] (getItem o i)
def IxR (X : Cx) (r : R2) : Prop :=
  ∀ (value slice : Expr) (pins : List (Addr × Obj)) (s : Shared) (σ : St) (H : Hp) (x y : V) (v u : Value) (Q : VK), Inv X pins σ H s → RelV x v → RelV y u → r x y H Q →
    subscripted slice false v u = operate [v, u] (getItem v u) → wpAny (model X.prog X.w) X.A (subscriptTail value slice v u) (EP X pins σ Q) X.xe s
def MtR (X : Cx) (id : String) (r : V → List V → Hp → VK → Prop) : Prop :=
  ∀ (pins : List (Addr × Obj)) (s : Shared) (σ : St) (H : Hp) (x : V) (xs : List V) (v : Value) (us : List Value) (Q : VK), Inv X pins σ H s → RelV x v → Vals xs us → r x xs H Q →
    wpAny (model X.prog X.w) X.A (call (.builtin id) (v :: us)) (EP X pins σ Q) X.xe s
section
variable {X : Cx} {a b : Expr} {ta tb : TE} {pos : Pos}
theorem pe_ix {r : R2} (hr : IxR X r) (ha : PE X a ta) (hb : PE X b tb) (hs : PlainIx b) : PE X (.Subscript a b pos) (tOp r ta tb) := by
  intro pins s σ H Q I h
  exact Subscript_ (binT ha hb I h fun v u s2 x y H2 I2 rx ry q => hr a b pins s2 σ H2 x y v u Q I2 rx ry q (hs _ _))
def rIxL (K : PySem.W.Frag) : R2 := fun x y H Q => ∃ p xs i v, x = .ref p ∧ y = .int i ∧ SqL K H p xs ∧ atI xs i = some v ∧ Q v H
def rIxT (K : PySem.W.Frag) : R2 := fun x y H Q => ∃ p xs i v, x = .ref p ∧ y = .int i ∧ SqT K H p xs ∧ atI xs i = some v ∧ Q v H
theorem ix_list : IxR X (rIxL X.K) := by
  intro value slice pins s σ H x y v u Q I rx ry h hs
  obtain ⟨p, xs, i, z, rfl, rfl, hq, he, q⟩ := h
  cases rx
  obtain ⟨t, rfl⟩ := ry
  obtain ⟨its, r, pl, hz⟩ := I.list hq
  obtain ⟨j, h1, h2, h3, h4, h5⟩ := atI_get he
  obtain ⟨w, ew, rw'⟩ := r.get h2
  have hl := r.length
  have hn := line63
  have fin : EP X pins σ Q w s := ⟨z, H, I, rw', q⟩
  by_cases h0 : 0 ≤ i
  · have hj : i.toNat = j := by
      rw [seqIndex_of h0 h5] at h1
      exact Option.some.inj h1
    exact item_listR pl.isList h0 (by omega) (by rw [hj]; simpa using ew) fin hs
  · have hj : (i + (its.toArray.size : Int)).toNat = j := by
      rw [seqIndex_neg (by omega) h4] at h1
      rw [List.size_toArray, ← hl]
      exact Option.some.inj h1
    exact subscriptTail_builtinR (x := w) pl.isList.typeIs slot_list_getitem.lookup
      (wpAny_getItem_list_neg (Q := fun r s' => r = w ∧ EP X pins σ Q r s') pl.isList (by omega) (by rw [List.size_toArray] <;> omega) (by omega) (by rw [hj]; simpa using ew) ⟨rfl, fin⟩) hs
theorem ix_tup : IxR X (rIxT X.K) := by
  intro value slice pins s σ H x y v u Q I rx ry h hs
  obtain ⟨p, xs, i, z, rfl, rfl, hq, he, q⟩ := h
  cases rx
  obtain ⟨t, rfl⟩ := ry
  obtain ⟨its, r, pl, hz⟩ := I.tuple hq
  obtain ⟨j, h1, h2, h3, h4, h5⟩ := atI_get he
  obtain ⟨w, ew, rw'⟩ := r.get h2
  have hl := r.length
  have hn := line63
  have fin : EP X pins σ Q w s := ⟨z, H, I, rw', q⟩
  exact subscriptTail_builtinR (x := w) pl.typeIs slot_tuple_getitem.lookup
    (getItem_tuple (j := j) (Q := fun r s' => r = w ∧ EP X pins σ Q r s') pl (by omega) (by omega) (by rw [List.size_toArray, ← hl]; exact h1) (by simpa using ew) ⟨rfl, fin⟩) hs
theorem mapSeq_set (its : List Value) (n j : Nat) (u : Value) : Obj.mapSeq (·.setIfInBounds j u) { cls := .type "list", data := .seq its.toArray n } = { cls := .type "list", data := .seq (its.set j u).toArray n } := by
  simp [Obj.mapSeq]
theorem Inv.lst {pins : List (Addr × Obj)} {σ : St} {H : Hp} {s : Shared} {p : Addr} {xs : List V} (I : Inv X pins σ H s) (h : H p = some (.lst xs)) :
    ∃ (its : List Value) (n : Nat), Vals xs its ∧ s.heap.get? p = some { cls := .type "list", data := .seq its.toArray n } ∧ xs.length ≤ sizeLine := by
  obtain ⟨z, its, n, r, e⟩ := I.hok p _ h
  exact ⟨its, n, r, e, z⟩
theorem Inv.lstUpd {pins : List (Addr × Obj)} {σ : St} {H : Hp} {s : Shared} {p : Addr} {xs ys : List V} {its its' : List Value} {n n' : Nat} {f : Obj → Obj} (I : Inv X pins σ H s) (h : H p = some (.lst xs))
    (ho : s.heap.get? p = some { cls := .type "list", data := .seq its.toArray n }) (hf : f { cls := .type "list", data := .seq its.toArray n } = { cls := .type "list", data := .seq its'.toArray n' }) (r : Vals ys its') (hz : ys.length ≤ sizeLine) (t : Nat) :
    Inv X pins σ (upd H p (.lst ys)) { s with heap := s.heap.update p f, toks := t } := by
  have e : (s.heap.update p f).get? p = some { cls := .type "list", data := .seq its'.toArray n' } := by
    rw [Heap.get?_update_self f ho (by rw [hf] <;> rfl), hf]
  refine I.write (x := p) (e := p) (by rw [h]; trivial) (.inl rfl) (fun b u hb q => (Heap.get?_update_other _ _ (Ne.symm hb)).trans q) ⟨_, e⟩ ?_
  exact ⟨hz, its', n', r, e⟩
def rSetL : V → V → V → Hp → (Hp → Prop) → Prop := fun o i v H Q => ∃ p xs k j, o = .ref p ∧ i = .int k ∧ H p = some (.lst xs) ∧ ixN xs.length k = some j ∧ Q (upd H p (.lst (xs.set j v)))
theorem set_list : PSet X rSetL := by
  intro pins s σ H o i v ov iv u Q I ro ri rv h
  obtain ⟨p, xs, k, j, rfl, rfl, hp, hj, q⟩ := h
  cases ro
  obtain ⟨t, rfl⟩ := ri
  obtain ⟨its, n, r, ho, hz⟩ := I.lst hp
  obtain ⟨h1, h2, h3, h4⟩ := ixN_seq hj
  have hl := r.length
  have hn := line63
  have I' : Inv X pins σ (upd H p (.lst (xs.set j v))) { s with heap := s.heap.update p (Obj.mapSeq (·.setIfInBounds j u)) } :=
    I.lstUpd hp ho (mapSeq_set its n j u) (r.set rv j) (by rw [List.length_set]; exact hz) s.toks
  by_cases h0 : 0 ≤ k
  · have hk : k.toNat = j := by
      rw [seqIndex_of h0 h4] at h1
      exact Option.some.inj h1
    exact PySem.W.ki_setAt ho h0 (by omega) (by rw [List.size_toArray, ← hl]; exact h4) (by rw [hk]; exact ⟨_, I', q⟩)
  · have hk : (k + (its.toArray.size : Int)).toNat = j := by
      rw [seqIndex_neg (by omega) h3] at h1
      rw [List.size_toArray, ← hl]
      exact Option.some.inj h1
    exact PySem.W.ki_setBack ho (by omega) (by rw [List.size_toArray, ← hl]; exact h3) (by omega) (by rw [hk]; exact ⟨_, I', q⟩)
theorem slice_bounds (lo hi : Option Int) (n : Nat) : (sliceBounds lo hi none n).1 = ((HT.sIx n 0 lo : Nat) : Int) ∧ (sliceBounds lo hi none n).2.1 = ((HT.sIx n n hi : Nat) : Int) ∧ (sliceBounds lo hi none n).2.2 = 1 := by
  refine ⟨?_, ?_, rfl⟩
  · cases lo with
    | none => simp [sliceBounds, HT.sIx]
    | some i =>
      simp only [sliceBounds, HT.sIx, Option.getD_none, show (1 : Int) > 0 by decide, if_true]
      by_cases h : i < 0
      · simp only [h, if_true] <;> omega
      · simp only [h, if_false] <;> omega
  · cases hi with
    | none => simp [sliceBounds, HT.sIx]
    | some i =>
      simp only [sliceBounds, HT.sIx, Option.getD_none, show (1 : Int) > 0 by decide, if_true]
      by_cases h : i < 0
      · simp only [h, if_true] <;> omega
      · simp only [h, if_false] <;> omega
theorem slicePick_cut (its : List Value) (lo hi : Option Int) : slicePick its.toArray lo hi none = ((its.drop (HT.sIx its.length 0 lo)).take (HT.sIx its.length its.length hi - HT.sIx its.length 0 lo)).toArray := by
  obtain ⟨h1, h2, h3⟩ := slice_bounds lo hi its.toArray.size
  unfold slicePick
  rw [h1, h2, h3]
  simp only [sliceRange_one, pick_run, List.size_toArray] <;> rfl
def rSlL (K : PySem.W.Frag) : V → Option Int → Option Int → Hp → VK → Prop := fun x lo hi H Q => ∃ a xs, x = .ref a ∧ SqL K H a xs ∧ ∀ p, H p = none → Q (.ref p) (upd H p (.lst (cutV xs lo hi)))
theorem sl_list : SlR X (rSlL X.K) := by
  intro pins s σ H x v vl vu lo hi sl Q I rx hs pl pu h
  obtain ⟨a, xs, rfl, hx, q⟩ := h
  cases rx
  obtain ⟨its, r, ht, hz⟩ := I.list hx
  have hlen := r.length
  refine ⟨"list", _, slot_list_getitem.lookup, ht.isList.typeIs, ?_⟩
  refine wpAny_getItem_list_slice ht.isList hs pl pu .none (by simp) ?_ (by rw [List.size_toArray] <;> omega)
  rw [slicePick_cut, ← hlen]
  refine ⟨.ref s.heap.objs.size, _, I.laid (t' := s.toks) (o := .lst (cutV xs lo hi)) (fun b ob q => Heap.get?_push_of_some _ q) (Nat.le_refl _) ?_, rfl, q _ (I.hok.fresh (Nat.le_refl _))⟩
  exact ⟨Nat.le_trans (cutV_length xs lo hi) hz, _, 0, (r.drop (HT.sIx xs.length 0 lo)).take (HT.sIx xs.length xs.length hi - HT.sIx xs.length 0 lo), Heap.get?_push_size _ rfl⟩
def flatV : V → Bool
  | .non => true
  | .bl _ => true
  | .int _ => true
  | .str _ => true
  | _ => false
def eqV : V → V → Bool
  | .non, .non => true
  | .bl a, .bl b => a == b
  | .bl a, .int b => (if a then 1 else 0) == b
  | .int a, .bl b => a == (if b then 1 else 0)
  | .int a, .int b => a == b
  | .str a, .str b => a == b
  | _, _ => false
theorem eqAt_V {A : Around} {s : Shared} {y x : V} {u v : Value} (ry : RelV y u) (rx : RelV x v) (fy : flatV y = true) (fx : flatV x = true) : SeqAt.EqAt A s u v (eqV y x) := by
  cases y with
  | non =>
    cases ry
    cases x with
    | non => cases rx; exact SeqAt.EqAt.same _
    | bl b => cases rx; exact SeqAt.EqAt.none_bool b
    | int b => obtain ⟨t, rfl⟩ := rx; exact SeqAt.EqAt.none_int b t
    | str b => obtain ⟨t, rfl⟩ := rx; exact SeqAt.EqAt.none_str b t
    | _ => exact absurd (show false = true from fx) Bool.false_ne_true
  | bl a =>
    cases ry
    cases x with
    | non => cases rx; exact SeqAt.EqAt.bool_none a
    | bl b => cases rx; exact SeqAt.EqAt.bool_bool a b
    | int b => obtain ⟨t, rfl⟩ := rx; exact SeqAt.EqAt.bool_int a b t
    | str b => obtain ⟨t, rfl⟩ := rx; exact SeqAt.EqAt.bool_str a b t
    | _ => exact absurd (show false = true from fx) Bool.false_ne_true
  | int a =>
    obtain ⟨t', rfl⟩ := ry
    cases x with
    | non => cases rx; exact SeqAt.EqAt.int_none a t'
    | bl b => cases rx; exact SeqAt.EqAt.int_bool a t' b
    | int b => obtain ⟨t, rfl⟩ := rx; exact SeqAt.EqAt.int_int a t' b t
    | str b => obtain ⟨t, rfl⟩ := rx; exact SeqAt.EqAt.int_str a t' b t
    | _ => exact absurd (show false = true from fx) Bool.false_ne_true
  | str a =>
    obtain ⟨t', rfl⟩ := ry
    cases x with
    | non => cases rx; exact SeqAt.EqAt.str_none a t'
    | bl b => cases rx; exact SeqAt.EqAt.str_bool a t' b
    | int b => obtain ⟨t, rfl⟩ := rx; exact SeqAt.EqAt.str_int a t' b t
    | str b => obtain ⟨t, rfl⟩ := rx; exact SeqAt.EqAt.str_str a t' b t
    | _ => exact absurd (show false = true from fx) Bool.false_ne_true
  | _ => exact absurd (show false = true from fy) Bool.false_ne_true
def eqU (x : V) (u : Value) : Bool := match u with
  | .none => eqV .non x
  | .bool b => eqV (.bl b) x
  | .int i _ => eqV (.int i) x
  | .str z _ => eqV (.str z) x
  | _ => false
theorem eqU_of {x y : V} {u : Value} (r : RelV y u) (f : flatV y = true) : eqU x u = eqV y x := by
  cases y with
  | non => cases r; rfl
  | bl b => cases r; rfl
  | int i => obtain ⟨t, rfl⟩ := r; rfl
  | str z => obtain ⟨t, rfl⟩ := r; rfl
  | _ => exact absurd (show false = true from f) Bool.false_ne_true
theorem any_eqU {x : V} : ∀ {xs : List V} {us : List Value}, Vals xs us → xs.all flatV = true → us.any (eqU x) = xs.any fun y => eqV y x
  | _, _, .nil, _ => rfl
  | y :: xs, u :: us, .cons r t, f => by
    rw [List.all_cons, Bool.and_eq_true] at f
    rw [List.any_cons, List.any_cons, eqU_of r f.1, any_eqU t f.2]
theorem mem_eqAt {A : Around} {s : Shared} {x : V} {v : Value} (rx : RelV x v) (fx : flatV x = true) : ∀ {xs : List V} {us : List Value}, Vals xs us → xs.all flatV = true → ∀ u ∈ us, SeqAt.EqAt A s u v (eqU x u)
  | _, _, .nil, _ => fun u hu => by cases hu
  | y :: xs, u :: us, .cons r t, f => fun u' hu => by
    rw [List.all_cons, Bool.and_eq_true] at f
    rcases List.mem_cons.mp hu with rfl | hu
    · rw [eqU_of r f.1]; exact eqAt_V r rx f.1 fx
    · exact mem_eqAt rx fx t f.2 u' hu
def inV (x : V) (xs : List V) : Bool := xs.any fun y => eqV y x
def rIn (K : PySem.W.Frag) (neg : Bool) : R2 := fun x y H Q => ∃ p xs, y = .ref p ∧ (SqL K H p xs ∨ SqT K H p xs) ∧ flatV x = true ∧ xs.all flatV = true ∧ Q (.bl (if neg then !inV x xs else inV x xs)) H
theorem op_in_seq : OpR X (compareOp .In) (rIn X.K false) := by
  intro pins s σ H x y v u Q I rx ry h
  obtain ⟨p, xs, rfl, hq, fx, fs, q⟩ := h
  cases ry
  rcases hq with hq | hq
  · obtain ⟨its, r, pl, hz⟩ := I.list hq
    refine SeqAt.in_listAt (eqU x) pl.isList (fun w hw => mem_eqAt rx fx r fs w (by simpa using hw)) ⟨.bl _, H, I, rfl, ?_⟩
    rw [show its.toArray.any (eqU x) = its.any (eqU x) by simp, any_eqU r fs]
    exact q
  · obtain ⟨its, r, pl, hz⟩ := I.tuple hq
    refine SeqAt.in_tupleAt (eqU x) pl (fun w hw => mem_eqAt rx fx r fs w (by simpa using hw)) ⟨.bl _, H, I, rfl, ?_⟩
    rw [show its.toArray.any (eqU x) = its.any (eqU x) by simp, any_eqU r fs]
    exact q
theorem op_notIn_seq : OpR X (compareOp .NotIn) (rIn X.K true) := by
  intro pins s σ H x y v u Q I rx ry h
  obtain ⟨p, xs, rfl, hq, fx, fs, q⟩ := h
  cases ry
  rcases hq with hq | hq
  · obtain ⟨its, r, pl, hz⟩ := I.list hq
    refine SeqAt.notIn_listAt (eqU x) pl.isList (fun w hw => mem_eqAt rx fx r fs w (by simpa using hw)) ⟨.bl _, H, I, rfl, ?_⟩
    rw [show its.toArray.any (eqU x) = its.any (eqU x) by simp, any_eqU r fs]
    exact q
  · obtain ⟨its, r, pl, hz⟩ := I.tuple hq
    refine SeqAt.notIn_tupleAt (eqU x) pl (fun w hw => mem_eqAt rx fx r fs w (by simpa using hw)) ⟨.bl _, H, I, rfl, ?_⟩
    rw [show its.toArray.any (eqU x) = its.any (eqU x) by simp, any_eqU r fs]
    exact q
theorem call_len_seq : CallR X (.builtin "len") (fun xs H Q => ∃ p ys, xs = [.ref p] ∧ (SqL X.K H p ys ∨ SqT X.K H p ys) ∧ Q (.int ys.length) H) := by
  intro pins s σ H xs us Q I r h
  obtain ⟨p, ys, rfl, hq, q⟩ := h
  obtain ⟨u, rfl, rx⟩ := vals1 r
  cases rx
  have hn := line63
  rcases hq with hq | hq
  · obtain ⟨its, r', pl, hz⟩ := I.list hq
    have hlen := r'.length
    exact Calls.call_len_list pl.isList (by simp only [List.size_toArray] <;> omega) ⟨.int ys.length, H, I.tok _, ⟨s.toks + 1, by rw [List.size_toArray, hlen]⟩, q⟩
  · obtain ⟨its, r', pl, hz⟩ := I.tuple hq
    have hlen := r'.length
    exact len_tuple pl (by simp only [List.size_toArray] <;> omega) ⟨.int ys.length, H, I.tok _, ⟨s.toks + 1, by rw [List.size_toArray, hlen]⟩, q⟩
theorem call_list_of : CallR X (.type "list") (fun xs H Q => ∃ p ys, xs = [.ref p] ∧ (SqL X.K H p ys ∨ SqT X.K H p ys) ∧ ∀ l, H l = none → Q (.ref l) (upd H l (.lst ys))) := by
  intro pins s σ H xs us Q I r h
  obtain ⟨p, ys, rfl, hq, q⟩ := h
  obtain ⟨u, rfl, rx⟩ := vals1 r
  cases rx
  have fin : ∀ (its : List Value), Vals ys its → ys.length ≤ sizeLine → ∀ (h' : Heap) (c' : Nat), (∀ b o', s.heap.get? b = some o' → h'.get? b = some o') →
      h'.get? s.heap.objs.size = some { cls := .type "list", dict := none, data := .seq its.toArray c', slots := #[] } → EP X pins σ Q (.ref s.heap.objs.size) { s with heap := h' } := fun its r' hz h' c' kp e =>
    ⟨.ref s.heap.objs.size, _, I.laid (t' := s.toks) kp (Nat.le_refl _) (show ObjOk X.prog X.w _ h' _ (.lst ys) from ⟨hz, its, c', r', e⟩), rfl, q _ (I.hok.fresh (Nat.le_refl _))⟩
  rcases hq with hq | hq
  · obtain ⟨its, r', pl, hz⟩ := I.list hq
    have hlen := r'.length
    obtain ⟨o, ho, hc, n, hd⟩ := pl.isList
    exact call_list_seq p (.inl rfl) ho hc hd (fun h' c' kp e => fin its r' hz h' c' kp e) (by simp only [List.size_toArray] <;> omega)
  · obtain ⟨its, r', pl, hz⟩ := I.tuple hq
    have hlen := r'.length
    obtain ⟨o, ho, hc, n, hd⟩ := pl
    exact call_list_seq p (.inr rfl) ho hc hd (fun h' c' kp e => fin its r' hz h' c' kp e) (by simp only [List.size_toArray] <;> omega)
def tyV (K : PySem.W.Frag) (T : String) (x : V) (H : Hp) : Prop := match x with
  | .str _ => T = "str"
  | .int _ => T = "int"
  | .ref p => (T = "list" ∧ ∃ xs, SqL K H p xs) ∨ (T = "tuple" ∧ ∃ o, K.lookup p = some o ∧ o.cls = .type "tuple" ∧ o.dict = none) ∨
      (T = "dict" ∧ ((∃ kvs, H p = some (.dK kvs)) ∨ ∃ kvs, H p = some (.dT kvs))) ∨ (T = "set" ∧ ∃ S n, H p = some (.set S n))
  | _ => False
theorem tyV_is {pins : List (Addr × Obj)} {σ : St} {H : Hp} {s : Shared} {T : String} {x : V} {v : Value} (I : Inv X pins σ H s) (r : RelV x v) (ty : tyV X.K T x H) :
    s.TypeIs v T ∧ ∀ a, v = .ref a → ∃ ob, s.heap.get? a = some ob ∧ ob.dict = none := by
  cases x with
  | str z =>
    obtain ⟨t, rfl⟩ := r
    cases (show T = "str" from ty)
    exact ⟨typeIs_str s z t, fun _ e => nomatch e⟩
  | int i =>
    obtain ⟨t, rfl⟩ := r
    cases (show T = "int" from ty)
    exact ⟨typeIs_int s i t, fun _ e => nomatch e⟩
  | ref p =>
    cases r
    rcases ty with ⟨rfl, xs, hq⟩ | ⟨rfl, o, hk, hc, hd⟩ | ⟨rfl, hk⟩ | ⟨rfl, S, n, hk⟩
    · obtain ⟨its, _, pl, _⟩ := I.list hq
      refine ⟨pl.isList.typeIs, fun a e => ?_⟩
      cases e
      obtain ⟨o, n, e, c, hd, _⟩ := pl
      exact ⟨o, e, hd⟩
    · refine ⟨⟨o, I.kIn p o hk, hc⟩, fun a e => ?_⟩
      cases e
      exact ⟨o, I.kIn _ o hk, hd⟩
    · have z : ∃ o, s.heap.get? p = some o ∧ o.ExactDict := by
        rcases hk with ⟨kvs, hk⟩ | ⟨kvs, hk⟩
        · obtain ⟨_, _, _, _, o, _, _, e, ex, _⟩ := I.hok p _ hk
          exact ⟨o, e, ex⟩
        · obtain ⟨_, _, _, _, o, _, _, e, ex, _⟩ := I.hok p _ hk
          exact ⟨o, e, ex⟩
      obtain ⟨o, e, ex⟩ := z
      refine ⟨⟨o, e, ex.1⟩, fun a e2 => ?_⟩
      cases e2
      exact ⟨o, e, ex.2.1⟩
    · obtain ⟨o, _, _, _, e, ex, _⟩ := I.hok p _ hk
      refine ⟨⟨o, e, ex.1⟩, fun a e2 => ?_⟩
      cases e2
      exact ⟨o, e, ex.2.1⟩
  | _ => exact False.elim ty
def tBM0 (K : PySem.W.Frag) (T : String) (r : V → List V → Hp → VK → Prop) (to : TE) : TE := fun σ H Q => to σ H fun x H1 => tyV K T x H1 ∧ r x [] H1 Q
def tBM (K : PySem.W.Frag) (T : String) (r : V → List V → Hp → VK → Prop) (to : TE) (t : TA) : TE := fun σ H Q => to σ H fun x H1 => tyV K T x H1 ∧ t σ H1 fun xs H2 => r x xs H2 Q
variable {o e : Expr} {es : List Expr} {to : TE} {t : TA} {name : Str} {apos cpos : Pos} {T id : String} {r : V → List V → Hp → VK → Prop}
theorem pe_bm (pa : PlainAttrs T) (slot : Slot T name id) (hty : typeOf (.builtin id) = pure (.type "method_descriptor")) (hm : MtR X id r) (ho : PE X o to) (ha : PA X (e :: es) t)
    (hbase : attributeBase o name X.env (eval o X.env) = eval o X.env := by rfl)
    (hfew : ((backTo cpos (starEach (e :: es) X.env)).all (fun x => !x.1) && (backToKw cpos (keywordEach [] X.env)).all (fun x => x.1.isSome)
      && decide ((e :: es).length + ([] : List Keyword).length + (if ([] : List Keyword).isEmpty then 0 else 1) < 30)) = true := by rfl)
    (hline : (apos.endLine == cpos.line) = true := by rfl) (hs : starEach (e :: es) X.env = (false, eval e X.env) :: starEach es X.env := by rfl) (hplain : (backTo cpos (starEach es X.env)).any (·.1) = false := by rfl) :
    PE X (.Call (.Attribute o name apos) (e :: es) [] cpos) (tBM X.K T r to t) := by
  intro pins s σ H Q I h
  refine wpAny_Call_method_late hbase hfew hline rfl (thn (ho pins s σ H _ I h) fun v s1 ⟨x, H1, I1, r1, ty, q1⟩ => ?_)
  obtain ⟨h1, h2⟩ := tyV_is I1 r1 ty
  refine ⟨T, id, pa, slot, hty, h1, h2, ?_⟩
  have hA := ha cpos pins s1 σ H1 _ I1 q1
  rw [hs] at hA ⊢
  refine Calls.callWith_builtin (by show (false || (backTo cpos (starEach es X.env)).any (·.1)) = false; rw [hplain] <;> rfl) (Calls.evalArgs_plain ?_)
  exact thn hA fun us s2 ⟨vs, H2, I2, r2, q2⟩ => hm pins s2 σ H2 x vs v us Q I2 r1 r2 q2
end
end L2
namespace L2
open PySem PySem.Spec PyProof.Rows
def MtM (X : Cx) (id : String) (r : V → List V → Hp → VK → Prop) : Prop :=
  ∀ (pins : List (Addr × Obj)) (s : Shared) (σ : St) (H : Hp) (x : V) (xs : List V) (v : Value) (us : List Value) (Q : VK), Inv X pins σ H s → RelV x v → Vals xs us → r x xs H Q →
    wpAny (model X.prog X.w) X.A (call (.builtin id) (v :: us)) (EP X pins σ Q) X.xe s
theorem Vals.one : ∀ {x : V} {us : List Value}, Vals [x] us → ∃ u, us = [u] ∧ RelV x u
  | _, _, .cons r .nil => ⟨_, rfl, r⟩
theorem Vals.two : ∀ {x y : V} {us : List Value}, Vals [x, y] us → ∃ u v, us = [u, v] ∧ RelV x u ∧ RelV y v
  | _, _, _, .cons r (.cons q .nil) => ⟨_, _, rfl, r, q⟩
theorem Vals.zero : ∀ {us : List Value}, Vals [] us → us = []
  | _, .nil => rfl
theorem Vals.eraseIdx : ∀ {xs : List V} {us : List Value} (i : Nat), Vals xs us → Vals (xs.eraseIdx i) (us.eraseIdx i)
  | _, _, _, .nil => .nil
  | _, _, 0, .cons _ t => t
  | _, _, i + 1, .cons r t => .cons r (Vals.eraseIdx i t)
theorem Vals.reverse {xs : List V} {us : List Value} (h : Vals xs us) : Vals xs.reverse us.reverse := by
  induction h with
  | nil => exact .nil
  | cons r t ih => rw [List.reverse_cons, List.reverse_cons]; exact Vals.append ih (.cons r .nil)
theorem Vals.rep {xs : List V} {us : List Value} (h : Vals xs us) : ∀ k : Nat, Vals (List.replicate k xs).flatten (List.replicate k us).flatten
  | 0 => .nil
  | k + 1 => by
    rw [List.replicate_succ, List.replicate_succ, List.flatten_cons, List.flatten_cons]
    exact Vals.append h (Vals.rep h k)
theorem len_erase {α : Type} : ∀ (l : List α) (i : Nat), (l.eraseIdx i).length ≤ l.length
  | [], _ => Nat.le_refl _
  | _ :: _, 0 => Nat.le_succ _
  | _ :: r, i + 1 => Nat.succ_le_succ (len_erase r i)
section
variable {X : Cx} {pins : List (Addr × Obj)} {σ : St} {H : Hp} {s : Shared} {l b : Addr} {xs ys zs : List V}
theorem Inv.lset {its its' : List Value} {n : Nat} {f : Array Value → Array Value} {t' : Nat} (I : Inv X pins σ H s) (hH : H l = some (.lst xs))
    (e : s.heap.get? l = some { cls := .type "list", data := .seq its.toArray n }) (hf : f its.toArray = its'.toArray) (hv : Vals ys its') (hz : ys.length ≤ sizeLine) :
    Inv X pins σ (upd H l (.lst ys)) { s with heap := s.heap.update l (Obj.mapSeq f), toks := t' } := by
  have q := PySem.IsL.update e f
  rw [hf] at q
  refine I.write (x := l) (e := l) (by rw [hH]; exact trivial) (.inl rfl) (fun b' u hb hu => (Heap.get?_update_other s.heap (Obj.mapSeq f) (Ne.symm hb)).trans hu) ⟨_, q⟩ ?_
  exact ⟨hz, its', _, hv, q⟩
theorem Inv.lnew {its : List Value} {t' : Nat} (I : Inv X pins σ H s) (hv : Vals ys its) (hz : ys.length ≤ sizeLine) :
    Inv X pins σ (upd H s.heap.objs.size (.lst ys)) { s with heap := s.heap.push { cls := .type "list", data := .seq its.toArray }, toks := t' } :=
  I.laid (fun _ _ q => Heap.get?_push_of_some _ q) (Nat.le_refl _) ⟨hz, its, 0, hv, Heap.get?_push_size _ rfl⟩
theorem Inv.fresh (I : Inv X pins σ H s) : H s.heap.objs.size = none := I.hok.fresh (Nat.le_refl _)
theorem Inv.lstM (I : Inv X pins σ H s) (hH : H l = some (.lst xs)) : xs.length ≤ sizeLine ∧ ∃ (its : List Value) (n : Nat), Vals xs its ∧ xs.length = its.length ∧ s.heap.get? l = some { cls := .type "list", data := .seq its.toArray n } := by
  obtain ⟨z, its, n, r, e⟩ := I.hok l _ hH
  exact ⟨z, its, n, r, r.length, e⟩
end
section
variable {X : Cx}
def rAppend : V → List V → Hp → VK → Prop := fun x vs H Q => ∃ l xs y, x = .ref l ∧ vs = [y] ∧ H l = some (.lst xs) ∧ xs.length < sizeLine ∧ Q .non (upd H l (.lst (xs ++ [y])))
theorem mt_append : MtM X "list.append" rAppend := by
  intro pins s σ H x vs v us Q I rx rv h
  obtain ⟨l, xs, y, rfl, rfl, hH, hz, q⟩ := h
  cases rx
  obtain ⟨u, rfl, ru⟩ := rv.one
  obtain ⟨z, its, n, r, hl, e⟩ := I.lstM hH
  refine call_meets F.slot_list_append ⟨_, e, rfl⟩ F.entry_list_append (F.args_list_append_2 _ _) (PySem.list_append l its.toArray n u (by rw [List.size_toArray]; omega)) ⟨e, ?_⟩
  refine ⟨.non, _, I.lset (its' := its ++ [u]) hH e (by simp) (r.append (.cons ru .nil)) ?_, rfl, q⟩
  rw [List.length_append, List.length_singleton]
  omega
def rPopAt : V → List V → Hp → VK → Prop := fun x vs H Q => ∃ l xs i k y, x = .ref l ∧ vs = [.int i] ∧ H l = some (.lst xs) ∧ -(2 ^ 63) ≤ i ∧ i < 2 ^ 63 ∧ seqIndex? i xs.length = some k ∧ xs[k]? = some y ∧ Q y (upd H l (.lst (xs.eraseIdx k)))
theorem mt_popAt : MtM X "list.pop" rPopAt := by
  intro pins s σ H x vs v us Q I rx rv h
  obtain ⟨l, xs, i, k, y, rfl, rfl, hH, h1, h2, hk, hy, q⟩ := h
  cases rx
  obtain ⟨u, rfl, ru⟩ := rv.one
  obtain ⟨t, rfl⟩ := ru
  obtain ⟨z, its, n, r, hl, e⟩ := I.lstM hH
  obtain ⟨w, hw, rw'⟩ := r.get hy
  refine call_meets F.slot_list_pop ⟨_, e, rfl⟩ F.entry_list_pop (F.args_list_pop_2 _ _)
    (MeetsSeq.list_pop_at l its.toArray n i t k w (fitsIndex_both h1 h2) (by rw [List.size_toArray, ← hl]; exact hk) (by rw [← Array.getElem?_toList]; exact hw) (by rw [List.size_toArray]; omega)) ⟨e, ?_⟩
  refine ⟨y, _, I.lset (its' := its.eraseIdx k) hH e ?_ (r.eraseIdx k) ?_, rw', q⟩
  · show its.toArray.eraseIdxIfInBounds k = (its.eraseIdx k).toArray
    rw [List.eraseIdxIfInBounds_toArray]
  · have := len_erase xs k
    omega
def rClear : V → List V → Hp → VK → Prop := fun x vs H Q => ∃ l xs, x = .ref l ∧ vs = [] ∧ H l = some (.lst xs) ∧ Q .non (upd H l (.lst []))
def rCat : R2 := fun x y H Q => ∃ l b xs zs, x = .ref l ∧ y = .ref b ∧ H l = some (.lst xs) ∧ H b = some (.lst zs) ∧ xs.length + zs.length ≤ sizeLine ∧ ∀ p, H p = none → Q (.ref p) (upd H p (.lst (xs ++ zs)))
def rRep : R2 := fun x y H Q => ∃ l k xs, x = .ref l ∧ y = .int k ∧ H l = some (.lst xs) ∧ -(2 ^ 63) ≤ k ∧ k < 2 ^ 63 ∧ xs.length * k.toNat ≤ sizeLine ∧
  ∀ p, H p = none → Q (.ref p) (upd H p (.lst (List.replicate k.toNat xs).flatten))
end
section
variable {prog : Program} {w : World} {A : Around} {E : Value → Shared → Prop} {s : Shared}
end
section
variable {X : Cx}
end
end L2
namespace Att
open PySem PySem.W PySem.Calls PyProof.Rows
theorem ints_of_wellAll {P : Params} {h : Heap} : ∀ (ns : List Int) (vs : List Value), WellAll P h vs (ns.map WData.int) → IntsAre vs ns := by
  intro ns
  induction ns with
  | nil =>
    intro vs w
    rw [List.map_nil] at w
    cases w
    exact .nil
  | cons n ns ih =>
    intro vs w
    rw [List.map_cons] at w
    cases w with
    | cons a b =>
      cases a
      exact .cons _ _ (ih _ b)
theorem script_of {l : OpenLaw} {n : Nat} (hn : l.most = some n) {P : Params} {h : Heap} {args : List WData} {vals : List Value}
    (hpre : l.row.toRowW.claim.pre args = true) (hwl : WellAll P h vals args) :
    ∃ a vs ns, vals = [Value.ref a] ∧ args = [WData.list (ns.map WData.int)] ∧ h.get? a = some { cls := .type "list", data := .seq vs.toArray } ∧ IntsAre vs ns ∧ ns.length ≤ n := by
  have hsh : WShape.hasAll [] args [.list .int] = true := (pre_splitW hpre).1
  have hc : l.pre.holds [] { args := args } = true := (pre_splitW hpre).2
  obtain ⟨d, r, rfl, h1, h2⟩ := hasAllW_cons hsh
  obtain rfl := hasAllW_nil h2
  obtain ⟨xs, rfl, h3⟩ := hasW_list h1
  obtain ⟨ns, rfl⟩ := items_int h3
  have hlen : ns.length ≤ n := by
    unfold OpenLaw.pre at hc
    have h4 : (WTm.not (.lt (.lit (.int (n : Int))) (.len (.arg 0)))).holds [] { args := [.list (ns.map .int)] } = true := by
      have h4 := (holds_andW hc).1
      rw [hn] at h4
      exact h4
    have h5 := condW_of h4 (w_not (w_lt w_lit (w_len_list (w_arg rfl))))
    rw [List.length_map] at h5
    refine Nat.le_of_not_lt fun q => ?_
    have q' : (n : Int) < ((ns.length : Nat) : Int) := by omega
    first
      | (rw [decide_eq_true q'] at h5; exact absurd h5 (by decide))
      | (simp at h5; omega)
  cases hwl with
  | cons w1 w2 =>
    cases w2
    cases w1 with
    | list ho hall => exact ⟨_, _, ns, rfl, rfl, ho, ints_of_wellAll ns _ hall, hlen⟩
theorem post_true (l : OpenLaw) (args : List WData) : l.row.toRowW.claim.post args (.bool true) args = true :=
  postW_of (r := l.row.toRowW) (X := (true == true))
    (show WShape.has [] (.bool true) .bool = true by first | rfl | decide | simp [WShape.has, WShape.arms, WShape.armsAll])
    (show (WTm.eq .res (.lit (.bool true))).value [] { args := args, res := some (.bool true), after := args } = some (.bool (true == true)) from w_eq_bool (w_res rfl) w_lit) rfl
theorem attach_call {l : OpenLaw} {n : Nat} {q : Program} {loose : List Str} {XP : (Str → Option Value) → Heap → Prop} {YP : World → Heap → Prop} {d : DefRec}
    (hn : l.most = some n) (hdf : d.params.defaults = [])
    (call : ∀ (w : World) (s₀ s₁ : Shared) (mg mb : Str → Option Value) (fa : Addr) (o : Obj) (pm cd doc : Value) (a : Addr) (vs : List Value) (ns : List Int),
      Ground q loose [] XP w s₀ mg mb s₁.heap → YP w s₁.heap →
      s₁.heap.get? fa = some o → o.data = .func (docDef d.name d.params d.body d.scope pm cd doc) → s₁.heap.CodeRec cd d.name → mg d.name = some (.ref fa) →
      s₁.heap.get? a = some { cls := .type "list", data := .seq vs.toArray } → IntsAre vs ns → ns.length ≤ n → s₁.gens = #[] →
      codeAny (model l.prog w) callerA (.call (.ref fa) ⟨[.ref a], []⟩) (fun r s' => r = .ok (.ret (.bool true)) ∧ OldK s₁.heap s'.heap ∧ s'.os = s₁.os ∧ AllBare s'.gens) s₁) :
    WalkO q loose XP YP l.row.toRowW d [] (fun f vs => PySem.call f vs) := by
  intro w s₀ s₁ mg mb G Y fa o pm cd doc dV kV ho hd hcd hD hmg hg args vals as hpre hlay hrd hwl hlo
  obtain rfl : dV = .none := Dflts.none hD hdf
  obtain rfl : kV = .none := Dflts.noKw hD
  obtain ⟨a, vs, ns, rfl, rfl, hobj, hints, hlen⟩ := script_of hn hpre hwl
  refine enter_call (codeAny_mono (call w s₀ s₁ mg mb fa o pm cd doc a vs ns G Y ho (fd_plain hd) hcd hmg hobj hints hlen hg) fun r s' hq => ?_)
  obtain ⟨rfl, h2, h3, h4⟩ := hq
  exact ⟨.inl ⟨.bool true, .bool true, [], rfl, fun _ => rfl, .bool true, post_true l _, fun _ => ⟨List.Pairwise.nil, fun _ hm => (nomatch hm)⟩⟩, h2, h3, h4⟩
section
variable {prog : Program} {w : World} {A : Around} {E : Value → Shared → Prop} {s : Shared} {K : Frag}
end
end Att
namespace L2
open PySem PySem.Spec PyProof.Rows
theorem vals_ints : ∀ {vs : List Value} {ns : List Int}, IntsAre vs ns → Vals (ns.map V.int) vs
  | _, _, .nil => .nil
  | _, _, .cons n t h => .cons ⟨t, rfl⟩ (vals_ints h)
theorem tabsOf_mem {K : PySem.W.Frag} {p : Addr × Str} (h : p ∈ tabsOf K) : ∃ c o vs, K.lookup c = some o ∧ o.cls = .type "code" ∧ o.data = .fields vs ∧ vs[11]? = some (.ref p.1) := by
  obtain ⟨⟨c, _⟩, _, e⟩ := List.mem_filterMap.mp h
  obtain ⟨o, e1, e2⟩ := Option.bind_eq_some_iff.mp e
  unfold tabAt at e2
  split at e2
  · rename_i vs h1 h2
    split at e2
    · rename_i q t P h3 h4
      split at e2
      · cases e2
        exact ⟨c, o, vs, e1, h1, h2, h4⟩
      · cases e2
    · cases e2
  · cases e2
theorem law_call {P : Program} {w : World} {K : PySem.W.Frag} {mg mb : Str → Option Value} {CX : CXT} {k : Nat} {fa a : Addr} {fd : FuncData} {x : Str} {sp : Sp} {s₁ : Shared} {vs : List Value} {ns : List Int}
    (KX : K.In s₁.heap) (hT0 : (∀ p ∈ tabsOf K, s₁.heap.get? p.1 = some (PySem.W.tabObj #[])) ∧ tabsUq K = true)
    (hbm : ∃ bm ob, mg "__builtins__" = some (.ref bm) ∧ bm ≠ builtinsNs ∧ s₁.heap.get? bm = some ob ∧ ob.cls = .type "module" ∧ ob.dict = some builtinsNs ∧ ob.data = .plain)
    (hns : s₁.heap.Ns mainGlobals mg) (hb : s₁.heap.Ns builtinsNs mb) (hbb : ∀ x : Str, x ≠ "__name__" → mb x = bootBuiltins x) (hlim : s₁.heap.NoLimit) (hg : s₁.gens = #[])
    (ha : s₁.heap.get? a = some { cls := .type "list", data := .seq vs.toArray }) (hi : IntsAre vs ns) (hl : ns.length ≤ sizeLine) (hr : Room k callerA)
    (F : ∀ base : Heap, K.In base → base.Ns mainGlobals mg → FnOk P w K mg base CX k fa fd [x] sp) (hbind : ∀ (s : Shared) (u : Value), BindsTo s fd ⟨[u], []⟩ [(x, u)])
    (hsp : ∀ H : Hp, SqL K H a (ns.map V.int) → sp [.ref a] H (fun v _ => v = .bl true) fun _ _ _ => False)
    (hCX : ∀ H e s', CX [] H s₁ (fun _ _ _ => False) e s' → False) :
    codeAny (model P w) callerA (.call (.ref fa) ⟨[.ref a], []⟩) (fun r s' => r = .ok (.ret (.bool true)) ∧ OldK s₁.heap s'.heap ∧ s'.os = s₁.os ∧ AllBare s'.gens) s₁ := by
  have uq := hT0.2
  unfold tabsUq at uq
  have hT : ∀ p ∈ tabsOf K, s₁.heap.get? p.1 = some (PySem.W.tabObj #[]) ∧ K.lookup p.1 = none := fun p hp => ⟨hT0.1 p hp, by
    have := List.all_eq_true.mp uq p hp
    simp only [Bool.and_eq_true] at this
    exact Option.isNone_iff_eq_none.mp this.1⟩
  have one : ∀ p q : Addr × Str, p ∈ tabsOf K → q ∈ tabsOf K → p.1 = q.1 → p.2 = q.2 := fun p q hp hq e => by
    have := List.all_eq_true.mp uq p hp
    simp only [Bool.and_eq_true] at this
    have := List.all_eq_true.mp this.2 q hq
    simpa [e] using this
  have rv := vals_ints hi
  have lenV := hi.length
  have core : ∀ H : Hp, SqL K H a (ns.map V.int) → HOk P w H s₁.heap → (∀ b, H b = none ∨ (b = a ∧ ∃ o xs, H b = some (.frz o (.lst xs))) ∨ ∃ p ∈ tabsOf K, b = p.1 ∧ ∃ ps, H b = some (.tbl ps)) → (H a ≠ none → K.lookup a = none) → TbOk K H →
      codeAny (model P w) callerA (.call (.ref fa) ⟨[.ref a], []⟩) (fun r s' => r = .ok (.ret (.bool true)) ∧ OldK s₁.heap s'.heap ∧ s'.os = s₁.os ∧ AllBare s'.gens) s₁ := by
    intro H hS hok hA hK hTb
    have base_of : ∀ {b : Addr} {o : Obj}, s₁.heap.get? b = some o → H b = none → (hidT s₁.heap H).get? b = some o := fun e n => hidT_get e n
    have noA : ∀ {b : Addr} {o : Obj}, s₁.heap.get? b = some o → (∀ vs : Array Value, ∀ n, o.data ≠ .seq vs n) → (∀ vs, o.data ≠ .fields vs) → H b = none := fun {b o} e d1 d2 => by
      rcases hA b with z | ⟨rfl, _⟩ | ⟨p, hp, rfl, _⟩
      · exact z
      · rw [ha] at e; cases e
        exact absurd rfl (d1 _ _)
      · rw [(hT p hp).1] at e; cases e
        exact absurd rfl (d2 _)
    have nsK : ∀ {b : Addr} {m : Str → Option Value}, s₁.heap.Ns b m → (hidT s₁.heap H).Ns b m := fun {b m} ⟨o, es, ep, e, d, r⟩ => ⟨o, es, ep, base_of e (noA e (fun _ _ z => by rw [d] at z; cases z) fun _ z => by rw [d] at z; cases z), d, r⟩
    have hKb : K.In (hidT s₁.heap H) := fun b o e => base_of (KX b o e) (by
      rcases hA b with z | ⟨rfl, _, _, z⟩ | ⟨p, hp, rfl, _⟩
      · exact z
      · rw [hK (by rw [z]; simp)] at e; cases e
      · rw [(hT p hp).2] at e; cases e)
    have hM : Mod K mg (hidT s₁.heap H) := ⟨hKb, nsK hns, ⟨mb, nsK hb, hbb⟩, let ⟨mc, h1, h2⟩ := hlim; ⟨mc, nsK h1, h2⟩, let ⟨bm, ob, q1, q2, q3, q4, q5, q6⟩ := hbm; ⟨bm, ob, q1, q2, base_of q3 (noA q3 (fun _ _ z => by rw [q6] at z; cases z) fun _ z => by rw [q6] at z; cases z), q4, q5, q6⟩⟩
    have e0 : Env0 P w K mg (hidT s₁.heap H) callerA [] s₁ H := ⟨rfl, hM, fun b o e => of_hidT e, Nat.le_of_eq (hidT_size _ _), trivial, fun b hb => absurd (show b ∈ ([] : List Addr) from hb) (by simp), hok, .of_eq hg, hTb⟩
    refine codeAny_mono ((F _ hKb (nsK hns)).run callerA [] s₁ H ⟨[.ref a], []⟩ [.ref a] [.ref a] _ _ hr e0 (hbind s₁ (.ref a)) (.cons rfl .nil) (hsp H hS)) fun r s' h => ?_
    cases r with
    | error e => exact (hCX H e s' h).elim
    | ok fl =>
      cases fl with
      | next => exact False.elim h
      | brk => exact False.elim h
      | cont => exact False.elim h
      | ret u =>
        obtain ⟨v, H', os, bare, un, hok', r', q⟩ := h
        have q' : v = .bl true := q
        subst q'
        obtain rfl : u = Value.bool true := r'
        refine ⟨rfl, ⟨fun b o e => ?_, fun b o e => un.there b o e (by simp)⟩, os, bare⟩
        rcases hA b with z | ⟨rfl, ob, xs, z⟩ | ⟨p, hp, rfl, ps, z⟩
        · exact .inl (un.keep b o e z (by intro z; exact absurd (show b ∈ ([] : List Addr) from z) (by simp)) (by simp))
        · have z2 := un.frzs _ ob _ z
          obtain ⟨e1, _⟩ := hok _ _ z
          obtain ⟨e2, _⟩ := hok' _ _ z2
          rw [e] at e1; cases e1
          exact .inl e2
        · obtain ⟨m, z2⟩ := un.tbls _ _ z
          obtain ⟨vs', e2, _⟩ := hok' _ _ z2
          obtain ⟨c, oc, cs, k1, k2, k3, k4⟩ := tabsOf_mem hp
          rw [(hT p hp).1] at e
          cases e
          exact .inr (.inl ⟨⟨c, oc, cs, KX _ _ k1, k2, k3, k4⟩, rfl, #[], vs', rfl, by simpa using e2⟩)
  have tabH : ∀ {H : Hp} {p : Addr × Str}, p ∈ tabsOf K → ObjOk P w H s₁.heap p.1 (.tbl #[.str p.2 0]) := fun {H p} hp => ⟨#[], (hT p hp).1, trivial, fun q v z => by cases z⟩
  let HT : Hp := fun b => ((tabsOf K).find? fun p => p.1 == b).map fun p => HO.tbl #[.str p.2 0]
  have HTat : ∀ b, HT b = none ∨ ∃ p ∈ tabsOf K, b = p.1 ∧ HT b = some (.tbl #[.str p.2 0]) := fun b => by
    cases q : (tabsOf K).find? fun p => p.1 == b with
    | none => exact .inl (by show Option.map _ _ = none; rw [q]; rfl)
    | some p => exact .inr ⟨p, List.mem_of_find?_eq_some q, (show p.1 = b by have := List.find?_some q; simpa using this).symm, by show Option.map _ _ = _; rw [q]; rfl⟩
  have HTok : TbOk K HT := fun p hp => by
    rcases HTat p.1 with z | ⟨q, hq, e, z⟩
    · exfalso
      have z' : Option.map _ ((tabsOf K).find? fun q => q.1 == p.1) = none := z
      rw [Option.map_eq_none_iff, List.find?_eq_none] at z'
      exact z' p hp (by simp)
    · exact ⟨0, #[], by rw [z, one p q hp hq e]; simp⟩
  cases hk : K.lookup a with
  | some o =>
    have e := KX a o hk
    rw [ha] at e
    cases e
    refine core HT (.inr ⟨_, vs.toArray, _, hk, rfl, rfl, rfl, by rw [List.size_toArray, lenV]; exact hl, by simpa using rv⟩) (fun b u z => ?_) (fun b => ?_) (fun z => ?_) HTok
    · rcases HTat b with y | ⟨p, hp, rfl, y⟩
      · rw [y] at z; cases z
      · rw [y] at z; cases z; exact tabH hp
    · rcases HTat b with y | ⟨p, hp, e, y⟩
      · exact .inl y
      · exact .inr (.inr ⟨p, hp, e, _, y⟩)
    · rcases HTat a with y | ⟨p, hp, rfl, y⟩
      · exact absurd y z
      · exact (hT p hp).2
  | none =>
    have na : ∀ p ∈ tabsOf K, p.1 ≠ a := fun p hp e => by
      have := (hT p hp).1
      rw [e, ha] at this; cases this
    refine core (fun b => if b = a then some (.frz { cls := .type "list", data := .seq vs.toArray } (.lst (ns.map V.int))) else HT b) (.inl (.inr ⟨{ cls := .type "list", data := .seq vs.toArray }, if_pos rfl⟩)) (fun b u z => ?_) (fun b => ?_) (fun _ => hk) fun p hp => ?_
    · by_cases hb : b = a
      · have z' := (if_pos hb).symm.trans z
        cases z'
        subst hb
        exact ⟨ha, by rw [List.length_map]; exact hl, vs, _, rv, ha⟩
      · have z' := (if_neg hb).symm.trans z
        rcases HTat b with y | ⟨p, hp, rfl, y⟩
        · rw [y] at z'; cases z'
        · rw [y] at z'; cases z'; exact tabH hp
    · by_cases hb : b = a
      · exact .inr (.inl ⟨hb, _, _, if_pos hb⟩)
      · rcases HTat b with y | ⟨p, hp, e, y⟩
        · exact .inl ((if_neg hb).trans y)
        · exact .inr (.inr ⟨p, hp, e, _, (if_neg hb).trans y⟩)
    · obtain ⟨t, m, e⟩ := HTok p hp
      exact ⟨t, m, (if_neg (na p hp)).trans e⟩
end L2
namespace L2
open PySem PySem.Spec PyProof.Rows
theorem walk_of {l : PySem.W.OpenLaw} {n k : Nat} {q : Program} {loose : List Str} {XP : (Str → Option Value) → Heap → Prop} {YP : World → Heap → Prop} {d : DefRec} {K : Params → PySem.W.Frag} {CX : World → CXT} {sp : World → Sp} {x : Str}
    (hn : l.most = some n) (hn2 : n ≤ sizeLine) (hdf : d.params.defaults = []) (hr : Room k callerA)
    (hY : ∀ (w : World) (h : Heap), YP w h → (K w.params).In h) (hT : ∀ (w : World) (h : Heap), YP w h → (∀ p ∈ tabsOf (K w.params), h.get? p.1 = some (PySem.W.tabObj #[])) ∧ tabsUq (K w.params) = true)
    (F : ∀ (w : World) (mg : Str → Option Value) (fa : Addr) (h : Heap), (K w.params).In h → h.Ns mainGlobals mg → mg d.name = some (.ref fa) →
      ∃ fd : FuncData, (∀ (s : Shared) (u : Value), BindsTo s fd ⟨[u], []⟩ [(x, u)]) ∧
        ∀ base : Heap, (K w.params).In base → base.Ns mainGlobals mg → FnOk l.prog w (K w.params) mg base (CX w) k fa fd [x] (sp w))
    (hsp : ∀ (w : World) (H : Hp) (a : Addr) (ns : List Int), ns.length ≤ n → SqL (K w.params) H a (ns.map V.int) → sp w [.ref a] H (fun v _ => v = .bl true) fun _ _ _ => False)
    (hCX : ∀ (w : World) (H : Hp) (s : Shared) (e : Value) (s' : Shared), CX w [] H s (fun _ _ _ => False) e s' → False) :
    PySem.W.WalkO q loose XP YP l.row.toRowW d [] (fun f vs => PySem.call f vs) := by
  refine Att.attach_call hn hdf fun w s₀ s₁ mg mb fa o pm cd doc a vs ns G Y ho hd hcd hmg hobj hints hlen hg => ?_
  have KX := hY w _ Y
  obtain ⟨fd, hb, hF⟩ := F w mg fa _ KX G.T.g hmg
  exact law_call KX (hT w _ Y) G.T.bmain G.T.g G.T.b G.T.builtins G.T.nolimit hg hobj hints (Nat.le_trans hlen hn2) hr hF hb (fun H hS => hsp w H a ns hlen hS) fun H e s' => hCX w H s₁ e s'
end L2
namespace L2
open PySem PySem.Spec PyProof.Rows
def defArgs (s : Stmt) : Arguments := match s with
  | .FunctionDef _ a _ _ _ _ _ _ _ _ => a
  | _ => { posonlyargs := [], args := [], vararg := none, kwonlyargs := [], kw_defaults := [], kwarg := none, defaults := [] }
def defBody (s : Stmt) : List Stmt := match s with
  | .FunctionDef _ _ b _ _ _ _ _ _ _ => b
  | _ => []
def defScope (s : Stmt) : Scope := match s with
  | .FunctionDef _ _ _ _ _ _ sc _ _ _ => sc
  | _ => { kind := .function, names := [], isGenerator := false, isCoroutine := false }
abbrev CX0 : CXT := fun _ _ _ _ _ _ => False
abbrev E0 : XK := fun _ _ _ => False
theorem pass0 {X : Cx} : Passes CX0 X E0 := fun _ _ _ _ _ _ _ h => h.elim
structure Fun (K : PySem.W.Frag) (x qual : Str) (st : Stmt) (f : Addr) (fd : FuncData) : Prop where
  ex : ∃ (oc : Value) (od : Option Addr) (kV doc pm : Value) (an : Option Addr) (cdv ct : Value) (osl : Array (Option Value)),
    fd = PySem.W.fnOf x qual (defArgs st) (defBody st) (defScope st) .none kV doc pm an cdv ct ∧ K.lookup f = some ⟨oc, od, .func fd, osl⟩ ∧ PySem.W.codeIn K cdv qual = true
  kp : PySem.W.keepIn K (.ref f) = true
section
variable {P : Program} {w : World} {K : PySem.W.Frag} {mg : Str → Option Value} {base : Heap}
theorem Fun.ok {x qual : Str} {st : Stmt} {f : Addr} {fd : FuncData} {N ps : List Str} {k : Nat} {sp : Sp} (F : Fun K x qual st f fd) (S : FnScope N ps (defScope st)) (len : ∀ vs H Q E, sp vs H Q E → vs.length = ps.length)
    (hbody : ∀ (cdv : Value) (A : Around) (outer : List Env) (s : Shared) (H : Hp) (vs : List V) (Q : VK) (E : XK), Room k (A.deeper (envOfC qual (defScope st) s.heap.objs.size f cdv)) → sp vs H Q E →
      ∃ t, PSs (cxOf CX0 P w K mg base N qual (defScope st) f cdv A outer s H E).nox (defBody st) t ∧ t { nx := fun _ H' => Q .non H', rt := Q } (start N vs) H) : FnOk P w K mg base CX0 (k + 1) f fd ps sp := by
  obtain ⟨oc, od, kV, doc, pm, an, cdv, ct, osl, rfl, lk, hcd⟩ := F.ex
  refine fn_of lk hcd S len fun A outer s H vs Q E hr hsp => ?_
  obtain ⟨t, h, q⟩ := hbody cdv A outer s H vs Q E hr hsp
  exact ⟨t, h.nox, q⟩
theorem Fun.binds {x qual : Str} {st : Stmt} {f : Addr} {fd : FuncData} {ps : List Str} (F : Fun K x qual st f fd)
    (h : ∀ (kV doc pm : Value) (an : Option Addr) (cdv ct : Value) (us : List Value), us.length = ps.length → bindArgs (PySem.W.fnOf x qual (defArgs st) (defBody st) (defScope st) .none kV doc pm an cdv ct) ⟨us, []⟩ = pure (ps.zip us)) : Binds K fd ps [] := by
  obtain ⟨oc, od, kV, doc, pm, an, cdv, ct, osl, rfl, lk, hcd⟩ := F.ex
  exact .all (h kV doc pm an cdv ct)
theorem fun_mk {x qual : Str} {st : Stmt} {f : Addr} {oc : Value} {od an : Option Addr} {osl : Array (Option Value)} {kV doc pm cdv ct : Value} (l : K.lookup f = some ⟨oc, od, .func (PySem.W.fnOf x qual (defArgs st) (defBody st) (defScope st) .none kV doc pm an cdv ct), osl⟩)
    (c : PySem.W.codeIn K cdv qual = true) (k : PySem.W.keepIn K (.ref f) = true) : Fun K x qual st f (PySem.W.fnOf x qual (defArgs st) (defBody st) (defScope st) .none kV doc pm an cdv ct) := ⟨⟨oc, od, kV, doc, pm, an, cdv, ct, osl, rfl, l, c⟩, k⟩
end
section
variable {X : Cx}
theorem pv (i : Nat) {x : Str} {pos : Pos} (hN : X.N[i]? = some x := by rfl) (hv : Vis X.env.scope x := by first | exact Or.inl rfl | exact Or.inr (Or.inl rfl) | exact Or.inr (Or.inr rfl)) (hd : (x == ("__debug__" : Str)) = false := by decide)
    (hcd : (x == ("__classdict__" : Str)) = false := by decide) : PE X (.Name x pos) (tVar i) := pe_var hN hv hd hcd
end
theorem iteF {A B : Prop} (h : B) : if false = true then A else B := by
  rw [if_neg Bool.false_ne_true]
  exact h
theorem iteT {A B : Prop} (h : A) : if true = true then A else B := by
  rw [if_pos rfl]
  exact h
def Same (H H' : Hp) : Prop := ∀ b o, H b = some o → H' b = some o
theorem Same.refl (H : Hp) : Same H H := fun _ _ h => h
theorem Same.trans {H H1 H2 : Hp} (a : Same H H1) (b : Same H1 H2) : Same H H2 := fun c o h => b c o (a c o h)
theorem Same.free {H H' : Hp} (e : Same H H') {l : Addr} (h : H' l = Option.none) : H l = Option.none := by
  cases q : H l with
  | none => rfl
  | some o =>
    rw [e l o q] at h
    cases h
theorem Same.seq {K : PySem.W.Frag} {H H' : Hp} {a : Addr} {xs : List V} (e : Same H H') (h : SqL K H a xs) : SqL K H' a xs := by
  rcases h with (h | ⟨o, h⟩) | h
  · exact .inl (.inl (e _ _ h))
  · exact .inl (.inr ⟨o, e _ _ h⟩)
  · exact .inr h
end L2
set_option maxHeartbeats 1000000
namespace Sh
structure Low (a b : Int) : Prop where
  pos : 1 ≤ b
  co : Int.gcd a b = 1
abbrev co (a b : Int) : Prop := Int.gcd a b = 1
def mk (a b : Int) : Int × Int := (a / (Int.gcd a b : Nat), b / (Int.gcd a b : Nat))
def pl (a b c d : Int) : Int × Int :=
  let g : Int := (Int.gcd b d : Nat)
  let t := a * (d / g) + c * (b / g)
  let r : Int := (Int.gcd t g : Nat)
  (t / r, (b / g) * (d / r))
theorem Low.neg {a b : Int} (h : Low a b) : Low (-a) b := ⟨h.pos, by rw [Int.neg_gcd]; exact h.co⟩
end Sh
namespace Sh
theorem pow_mono {m n : Nat} (h : m ≤ n) : 2 ^ m ≤ 2 ^ n := Nat.pow_le_pow_right (by decide) h
theorem up {a : Int} {m n : Nat} (h1 : a.natAbs < 2 ^ m) (h : m ≤ n) : a.natAbs < 2 ^ n := Nat.lt_of_lt_of_le h1 (pow_mono h)
theorem dn {a b : Int} {m : Nat} (h : a.natAbs ≤ b.natAbs) (h1 : b.natAbs < 2 ^ m) : a.natAbs < 2 ^ m := Nat.lt_of_le_of_lt h h1
end Sh
namespace Wd
def digs : List Int → Int → List Int
  | [], _ => []
  | s :: r, p => (p % s) :: digs r (p / s)
def prod : List Int → Int
  | [] => 1
  | s :: r => s * prod r
def rk : List Int → List Int → Int
  | s :: r, d :: e => rk r e * s + d
  | _, _ => 0
theorem digs_len : ∀ (ss : List Int) (p : Int), (digs ss p).length = ss.length
  | [], _ => rfl
  | _ :: r, p => congrArg (· + 1) (digs_len r _)
def rkF (ss ws : List Int) : Int := (ss.zip ws).foldl (fun a x => a * x.1 + x.2) 0
def wld (ss : List Int) (p : Int) : List Int := (digs ss.reverse p).reverse
theorem wld_len (ss : List Int) (p : Int) : (wld ss p).length = ss.length := by unfold wld; rw [List.length_reverse, digs_len, List.length_reverse]
end Wd
namespace Wd
def rng (n : Nat) : List Int := (List.range n).map fun (i : Nat) => (i : Int)
def wds (ss : List Int) : List (List Int) := (rng (prod ss).toNat).map fun i => wld ss i
def nxt : List Int → List Int → Option (List Int)
  | s :: r, d :: e => if d + 1 < s then some ((d + 1) :: e) else (nxt r e).map fun x => 0 :: x
  | _, _ => none
end Wd
namespace L2
open PySem PySem.Spec PyProof.Rows PySem.SeqAt
section
variable {X : Cx}
theorem op_mulB : OpR X (binaryOp .Mult) (rI IntMulOk fun i j => .int (i * j)) := opI fun _ _ _ _ _ _ _ hc q => mul_int q hc
def CDivB (_ j : Int) : Prop := 0 < j ∧ j.natAbs < 2 ^ 9000
def rIsi (K : PySem.W.Frag) : List V → Hp → VK → Prop := fun xs H Q => ∃ x T t b, xs = [x, .ty T] ∧ TyOf K H x t ∧ PySem.W.kitOne K t (.type T) = some b ∧ Q (.bl b) H
mutual
inductive Dp (K : PySem.W.Frag) (H : Hp) : V → PyData → Prop
  | non : Dp K H .non .none
  | bl (b : Bool) : Dp K H (.bl b) (.bool b)
  | int (i : Int) : Dp K H (.int i) (.int i)
  | str (x : Str) : Dp K H (.str x) (.str x)
  | lst {a : Addr} {xs : List V} {ds : List PyData} : SqL K H a xs → DpAll K H xs ds → Dp K H (.ref a) (.list ds)
  | tup {a : Addr} {xs : List V} {ds : List PyData} : SqT K H a xs → DpAll K H xs ds → Dp K H (.ref a) (.tuple ds)
inductive DpAll (K : PySem.W.Frag) (H : Hp) : List V → List PyData → Prop
  | nil : DpAll K H [] []
  | cons {v : V} {vs : List V} {d : PyData} {ds : List PyData} : Dp K H v d → DpAll K H vs ds → DpAll K H (v :: vs) (d :: ds)
end
mutual
theorem Dp.reads {pins : List (Addr × Obj)} {σ : St} {H : Hp} {s : Shared} (I : Inv X pins σ H s) : ∀ {x : V} {d : PyData} {u : Value}, Dp X.K H x d → RelV x u → ∃ as, Reads s.heap u d as
  | _, _, u, .non, r => by cases (show u = Value.none from r); exact ⟨_, .none⟩
  | _, _, u, .bl b, r => by cases (show u = Value.bool b from r); exact ⟨_, .bool b⟩
  | _, _, u, .int i, r => by obtain ⟨t, e⟩ := (show ∃ t, u = Value.int i t from r); subst e; exact ⟨_, .int i t⟩
  | _, _, u, .str x, r => by obtain ⟨t, e⟩ := (show ∃ t, u = Value.str x t from r); subst e; exact ⟨_, .str x t⟩
  | _, _, u, @Dp.lst _ _ a xs ds h k, r => by
    cases (show u = Value.ref a from r)
    obtain ⟨its, rv, ⟨o, n, e, c, _, d⟩, _⟩ := I.list h
    obtain ⟨as, ra⟩ := DpAll.reads I k rv
    exact ⟨_, .list e c d (by simpa using ra)⟩
  | _, _, u, @Dp.tup _ _ a xs ds h k, r => by
    cases (show u = Value.ref a from r)
    obtain ⟨its, rv, ⟨o, e, c, n, d⟩, _⟩ := I.tuple h
    obtain ⟨as, ra⟩ := DpAll.reads I k rv
    exact ⟨_, .tuple e c d (by simpa using ra)⟩
theorem DpAll.reads {pins : List (Addr × Obj)} {σ : St} {H : Hp} {s : Shared} (I : Inv X pins σ H s) : ∀ {xs : List V} {ds : List PyData} {us : List Value}, DpAll X.K H xs ds → Vals xs us → ∃ as, ReadsAll s.heap us ds as
  | _, _, _, .nil, .nil => ⟨_, .nil⟩
  | _, _, _, .cons h k, .cons r t => by
    obtain ⟨as, ra⟩ := Dp.reads I h r
    obtain ⟨bs, rb⟩ := DpAll.reads I k t
    exact ⟨_, .cons ra rb⟩
end
def rEqD (K : PySem.W.Frag) (neg : Bool) : R2 := fun x y H Q => ∃ d e, Dp K H x d ∧ Dp K H y e ∧ shaped d = true ∧ shaped e = true ∧ Q (.bl (if neg then !PyData.eqv d e else PyData.eqv d e)) H
theorem op_neD (hu : X.A.units + 64 < cLine) : OpR X (compareOp .NotEq) (rEqD X.K true) := by
  intro pins s σ H x y v u Q I rx ry h
  obtain ⟨d, e, h1, h2, z1, z2, q⟩ := h
  obtain ⟨as, ra⟩ := h1.reads I rx
  obtain ⟨bs, rb⟩ := h2.reads I ry
  exact ne_dataH ra rb z1 z2 hu ⟨.bl (!PyData.eqv d e), H, I, rfl, q⟩
end
theorem ad {m n : Nat} (h : m ≠ n) : (show Addr from m) ≠ (show Addr from n) := h
def Itz (K : PySem.W.Frag) (a b : Addr) : It :=
  ⟨fun i H => ∃ xs x ys y, SqL K H a xs ∧ xs[i]? = some x ∧ SqL K H b ys ∧ ys[i]? = some y,
   fun i H x H' => ∃ T u v, H T = none ∧ x = .ref T ∧ H' = upd H T (.tup [u, v]) ∧ (∀ xs, SqL K H a xs → xs[i]? = some u) ∧ ∀ ys, SqL K H b ys → ys[i]? = some v,
   fun i H => ∃ xs ys, SqL K H a xs ∧ SqL K H b ys ∧ (xs.length ≤ i ∨ ys.length ≤ i)⟩
section
variable {X : Cx}
def iZip (K : PySem.W.Frag) (ta : TA) : TI := fun σ H R => ta σ H fun vs H1 => ∃ a b, vs = [.ref a, .ref b] ∧ (∃ xs, SqL K H1 a xs) ∧ (∃ ys, SqL K H1 b ys) ∧ R (Itz K a b) H1
def Itv (K : PySem.W.Frag) (a : Addr) (n : Nat) : It :=
  ⟨fun i H => i < n ∧ ∃ xs, SqL K H a xs ∧ xs.length = n, fun i H x H' => H' = H ∧ ∀ xs, SqL K H a xs → xs[n - 1 - i]? = some x, fun i H => i = n ∧ ∃ xs, SqL K H a xs⟩
def iRev (K : PySem.W.Frag) (ta : TA) : TI := fun σ H R => ta σ H fun vs H1 => ∃ a xs, vs = [.ref a] ∧ SqL K H1 a xs ∧ R (Itv K a xs.length) H1
end
end L2
namespace L2
open PySem PySem.Spec PyProof.Rows
def Cx.blk (X : Cx) (N : List Str) (scope : Scope) (cl : List (Str × Addr)) (C : Addr) (s : Shared) (H : Hp) (fp : List Addr) : Cx :=
  { X with N := N, s₀ := s, H₀ := H, env := compEnvC scope cl C X.env, outer := X.stack, stack := X.stack, ex := fp, fn := fun _ => false, pn := [], xe := fun _ _ => False }
def capt (js : List (Option Nat)) (σ : St) : St := js.map fun o => match o with | none => none | some j => (σ[j]?).join
structure CompOk (X : Cx) (N : List Str) (scope : Scope) (cl : List (Str × Addr)) (js : List (Option Nat)) : Prop where
  clos : closureFor scope X.env = pure cl
  nocell : ∀ y ∈ scope.names, y.2 ≠ .cell
  kind : scope.kind = .function
  names : ∀ y ∈ scope.names, y.2 = .local → scope.names.lookup y.1 = some .local
  cells : ∀ p ∈ cl, X.env.cells.lookup p.1 = some p.2
  has : ∀ y ∈ scope.names, y.2 = .free → (cl.lookup y.1).isSome = true
  len : js.length = N.length
  cap : ∀ (i j : Nat), js[i]? = some (some j) → ∃ x, N[i]? = some x ∧ X.N[j]? = some x ∧ scope.names.lookup x = some .free ∧ (X.env.scope.names.lookup x = some .cell ∨ X.env.scope.names.lookup x = some .free)
def Sub (σ σ' : St) : Prop := σ.length = σ'.length ∧ ∀ (i : Nat) v, σ[i]? = some (some v) → σ'[i]? = some (some v)
theorem Sub.set {σ : St} {i : Nat} {x : Option V} (h : σ[i]? = some none) : Sub σ (σ.set i x) := by
  refine ⟨by simp, fun j v e => ?_⟩
  have ne : j ≠ i := by rintro rfl; rw [h] at e; cases e
  rw [List.getElem?_set_ne (Ne.symm ne)]
  exact e
theorem Sub.trans {a b c : St} (h : Sub a b) (k : Sub b c) : Sub a c := ⟨h.1.trans k.1, fun i v e => k.2 i v (h.2 i v e)⟩
theorem relabel_free {env : Env} (hk : env.scope.kind = .function) : ∀ {names : List (Str × NameKind)} {x : Str}, names.lookup x = some .free → env.scope.names.lookup x = some .cell →
    (names.map fun (n, k) => if (k == NameKind.free && env.scope.kind == .function && env.kindOf n == some .cell) then (n, NameKind.cell) else (n, k)).lookup x = some .cell
  | [], _, h, _ => by simp at h
  | (n, k) :: r, x, h, hc => by
    have ih := @relabel_free env hk r x
    show List.lookup x ((if (k == NameKind.free && env.scope.kind == .function && env.kindOf n == some .cell) = true then (n, NameKind.cell) else (n, k)) :: _) = _
    cases hx : x == n with
    | true =>
      have e : x = n := by simpa using hx
      subst e
      simp only [List.lookup_cons, hx] at h
      cases h
      have c : (NameKind.free == NameKind.free && env.scope.kind == .function && env.kindOf x == some .cell) = true := by
        have q : env.kindOf x = some .cell := hc
        rw [hk, q]; rfl
      rw [if_pos c, List.lookup_cons, hx]
    | false =>
      simp only [List.lookup_cons, hx] at h
      by_cases hcc : (k == NameKind.free && env.scope.kind == .function && env.kindOf n == some .cell) = true
      · rw [if_pos hcc, List.lookup_cons, hx]; exact ih h hc
      · rw [if_neg hcc, List.lookup_cons, hx]; exact ih h hc
theorem relabel_keep {env : Env} : ∀ {names : List (Str × NameKind)} {x : Str}, names.lookup x = some .free → env.scope.names.lookup x = some .free →
    (names.map fun (n, k) => if (k == NameKind.free && env.scope.kind == .function && env.kindOf n == some .cell) then (n, NameKind.cell) else (n, k)).lookup x = some .free
  | [], _, h, _ => by simp at h
  | (n, k) :: r, x, h, hc => by
    have ih := @relabel_keep env r x
    show List.lookup x ((if (k == NameKind.free && env.scope.kind == .function && env.kindOf n == some .cell) = true then (n, NameKind.cell) else (n, k)) :: _) = _
    cases hx : x == n with
    | true =>
      have e : x = n := by simpa using hx
      subst e
      simp only [List.lookup_cons, hx] at h
      cases h
      have q : env.kindOf x = some .free := hc
      rw [if_neg (by rw [q]; simp), List.lookup_cons, hx]
    | false =>
      simp only [List.lookup_cons, hx] at h
      by_cases hcc : (k == NameKind.free && env.scope.kind == .function && env.kindOf n == some .cell) = true
      · rw [if_pos hcc, List.lookup_cons, hx]; exact ih h hc
      · rw [if_neg hcc, List.lookup_cons, hx]; exact ih h hc
theorem relabel_back {env : Env} : ∀ {names : List (Str × NameKind)} {x : Str}, (∀ y ∈ names, y.2 ≠ .cell) →
    ((names.map fun (n, k) => if (k == NameKind.free && env.scope.kind == .function && env.kindOf n == some .cell) then (n, NameKind.cell) else (n, k)).lookup x = some .cell ∨
     (names.map fun (n, k) => if (k == NameKind.free && env.scope.kind == .function && env.kindOf n == some .cell) then (n, NameKind.cell) else (n, k)).lookup x = some .free) → ∃ y ∈ names, y.1 = x ∧ y.2 = .free
  | [], _, _, h => by simp at h
  | (n, k) :: r, x, hn, h => by
    have ih := @relabel_back env r x (fun y hy => hn y (List.mem_cons_of_mem _ hy))
    have h' : List.lookup x ((if (k == NameKind.free && env.scope.kind == .function && env.kindOf n == some .cell) = true then (n, NameKind.cell) else (n, k)) :: (r.map fun (n, k) => if (k == NameKind.free && env.scope.kind == .function && env.kindOf n == some .cell) then (n, NameKind.cell) else (n, k))) = some .cell ∨
      List.lookup x ((if (k == NameKind.free && env.scope.kind == .function && env.kindOf n == some .cell) = true then (n, NameKind.cell) else (n, k)) :: (r.map fun (n, k) => if (k == NameKind.free && env.scope.kind == .function && env.kindOf n == some .cell) then (n, NameKind.cell) else (n, k))) = some .free := h
    cases hx : x == n with
    | true =>
      have e : x = n := by simpa using hx
      subst e
      by_cases hcc : (k == NameKind.free && env.scope.kind == .function && env.kindOf x == some .cell) = true
      · have kf : k = .free := by
          cases k <;> first | rfl | (simp at hcc)
        exact ⟨(x, k), List.mem_cons_self, rfl, kf⟩
      · rw [if_neg hcc] at h'
        simp only [List.lookup_cons, hx] at h'
        rcases h' with q | q
        · cases q; exact absurd rfl (hn (x, .cell) List.mem_cons_self)
        · cases q; exact ⟨(x, .free), List.mem_cons_self, rfl, rfl⟩
    | false =>
      by_cases hcc : (k == NameKind.free && env.scope.kind == .function && env.kindOf n == some .cell) = true
      · rw [if_pos hcc] at h'
        simp only [List.lookup_cons, hx] at h'
        obtain ⟨y, hy, e⟩ := ih h'
        exact ⟨y, List.mem_cons_of_mem _ hy, e⟩
      · rw [if_neg hcc] at h'
        simp only [List.lookup_cons, hx] at h'
        obtain ⟨y, hy, e⟩ := ih h'
        exact ⟨y, List.mem_cons_of_mem _ hy, e⟩
section
variable {X : Cx} {N : List Str} {scope : Scope} {cl : List (Str × Addr)} {js : List (Option Nat)} {pins : List (Addr × Obj)} {σ : St} {H : Hp} {s : Shared} {fp : List Addr}
theorem blk_start (K : CompOk X N scope cl js) (I : Inv X pins σ H s) (hf : ∀ b ∈ fp, FpOk X pins H b) (hlt : ∀ b ∈ fp, b < s.heap.objs.size) {h1 : Heap} {m1 : Str → Option Value} {tk : Nat} (hn : h1.Ns s.heap.objs.size m1)
    (hk : ∀ b o, s.heap.get? b = some o → h1.get? b = some o) :
    Inv (X.blk N scope cl s.heap.objs.size s H fp) [] (capt js σ) H { s with heap := h1, toks := tk } := by
  have bigC : ∀ b ∈ fp, b ≠ s.heap.objs.size := fun b hb => Nat.ne_of_lt (hlt b hb)
  have hcl : ∀ x c, cl.lookup x = some c → X.env.cells.lookup x = some c := fun x c e => K.cells (x, c) (PySem.mem_of_lookup e)
  refine ⟨⟨I.ok.mod, K.kind, I.ok.glob, I.ok.blt, Nat.le_refl _, fun x y c e1 e2 => I.ok.inj x y c (hcl x c e1) (hcl y c e2), fun x hx => ?_, fun x c z _ => absurd z (by intro q; cases q), I.ok.hd, I.ok.frames, .inl rfl, fun b hb => ⟨bigC b hb, fun x c e => (hf b hb).2.2.2.2.1 x c (hcl x c e)⟩,
    I.bs, Nat.le_trans I.ok.bsz I.sz, fun b o e hb => ?_, fun b hb z => ?_, I.stack, I.stkFree, I.ok.tb.un I.base⟩, rfl, I.bare, Un.kept hk, ⟨m1, hn, fun i x v e1 e2 e3 => ?_⟩, fun x c e => ?_, I.hok.fresh (Nat.le_refl _), fun x c e => (I.freeC x c (hcl x c e)).imp id fun z => ⟨rfl, z.2⟩, fun p hp => absurd (show p ∈ ([] : List (Addr × Obj)) from hp) (by simp), I.hok.kept hk, ?_⟩
  · obtain ⟨y, hy, e1, e2⟩ := relabel_back K.nocell hx
    have q := K.has y hy e2
    rw [e1] at q
    exact Option.isSome_iff_exists.mp q
  · rcases (hf b hb).2.2.2.1 with z | z
    · exact I.ok.noex b o e z
    · exact absurd (Nat.lt_of_lt_of_le (Heap.lt_size e) (Nat.le_trans I.ok.bsz z)) (Nat.lt_irrefl _)
  · rcases List.mem_cons.mp (I.stkSub b z) with q | q
    · exact (hf b hb).2.1 q
    · exact (hf b hb).2.2.1 q
  ·
    have hi : (capt js σ)[i]? = some (some v) := e2
    unfold capt at hi
    rw [List.getElem?_map] at hi
    cases ej : js[i]? with
    | none => rw [ej] at hi; cases hi
    | some o =>
      rw [ej] at hi
      cases o with
      | none => cases hi
      | some j =>
        obtain ⟨y, h1', h2', h3', h4'⟩ := K.cap i j ej
        have e1' : N[i]? = some x := e1
        rw [h1'] at e1'
        cases e1'
        have hj : σ[j]? = some (some v) := by
          cases q : σ[j]? with
          | none => have hi' : (Option.join σ[j]?) = some v := Option.some.inj hi; rw [q] at hi'; cases hi'
          | some w => have hi' : (Option.join σ[j]?) = some v := Option.some.inj hi; rw [q] at hi'; cases w with
            | none => cases hi'
            | some w => exact congrArg some hi'
        obtain ⟨m, _, hl⟩ := I.loc
        obtain ⟨u, r, l⟩ := hl j x v h2' hj (.inr h4')
        refine ⟨u, r, .inr ⟨h4'.imp (fun z => relabel_free I.ok.kind h3' z) (fun z => relabel_keep h3' z), ?_⟩⟩
        rcases l with ⟨k, _⟩ | ⟨_, c, ec, hc⟩
        · rcases h4' with h4' | h4' <;> exact absurd (k.symm.trans h4') (by intro z; cases z)
        · obtain ⟨c', ec'⟩ := Option.isSome_iff_exists.mp (K.has (x, .free) (PySem.mem_of_lookup h3') rfl)
          have e3' := hcl x c' ec'
          rw [ec] at e3'
          cases e3'
          exact ⟨c, ec', hc.keeps hk⟩
  · obtain ⟨v, hv⟩ := I.cell x c (hcl x c e)
    exact ⟨v, hv.keeps hk⟩
  · show (capt js σ).length = N.length
    unfold capt
    rw [List.length_map]
    exact K.len
theorem blk_end {σ' : St} {H' : Hp} {s' : Shared} {h' : Heap} (I : Inv X pins σ H s) (hf : ∀ b ∈ fp, FpOk X pins H b) (J : Inv (X.blk N scope cl s.heap.objs.size s H fp) [] σ' H' s') (hs : Heap.SameBut s.heap.objs.size s'.heap h') :
    Inv X pins σ H' { s' with heap := h' } := by
  have neC : ∀ b o, s.heap.get? b = some o → b ≠ s.heap.objs.size := fun b o e => Nat.ne_of_lt (Heap.lt_size e)
  have u := J.base
  have u' : Un (frs X.stack) fp H H' s.heap s'.heap := u
  refine I.call' (s' := { s' with heap := h' }) (ch := fp) J.os ⟨fun b o e n hb hx => ?_, fun b o e n hb hx => ?_, u'.free, fun b o e hx => ?_, u'.tups, u'.frzs, u'.tbls⟩ (fun b ob e => ?_) J.bare fun b hb => ?_
  · exact (hs.2 b (neC b o e)).trans (u'.keep b o e n hb hx)
  · obtain ⟨sl, q⟩ := u'.slot b o e n hb hx
    exact ⟨sl, (hs.2 b (neC b o e)).trans q⟩
  · obtain ⟨o', q⟩ := u'.there b o e hx
    exact ⟨o', (hs.2 b (neC b o e)).trans q⟩
  · have hfree : H' s.heap.objs.size = none := J.free
    refine (J.hok b ob e).stay (fun c w' hc q => (hs.2 c ?_).trans q) (fun _ q => q) fun _ _ q => q
    rintro rfl
    rcases hc with rfl | hc
    · rw [hfree] at e; cases e
    · rw [hfree] at hc; cases hc
  · obtain ⟨f0, f1, f2, f3, f4, f5⟩ := hf b hb
    exact ⟨f3, f1, f4, f5⟩
end
end L2
namespace L2
open PySem PySem.Spec PyProof.Rows
def PIf (X : Cx) (ifs : List Expr) (t : TT) : Prop :=
  ∀ (pins : List (Addr × Obj)) (s : Shared) (σ : St) (H : Hp) (Q : Bool → Hp → Prop), Inv X pins σ H s → t σ H Q →
    wpAny (model X.prog X.w) X.A (forIn ifs true fun c r => if r = true then (do let ok ← isTrue c X.env (eval c X.env); pure (ForInStep.yield ok)) else pure (ForInStep.yield r)) (TP X pins σ Q) X.xe s
def tYes : TT := fun _ H Q => Q true H
theorem pif_nil {X : Cx} : PIf X [] tYes := fun _ _ _ H _ I h => wpAny_tests_nil ⟨H, I, h⟩
theorem pif_one {X : Cx} {c : Expr} {t : TT} (h : PT X c t) : PIf X [c] t := fun pins s σ H Q I q => wpAny_tests_one (h pins s σ H Q I q)
def compR (J : It) (g : TG) (tt : TT) (te : TE) (σc : St) (Q : VK) (H1 : Hp) : Prop := ∀ D, H1 D = none →
  ∃ W : Nat → Nat → List V → Hp → Prop, (∃ m, W 0 m [] (upd H1 D (.lst []))) ∧ ∀ i m ys H, W i m ys H →
    (J.stop i H ∧ Q (.ref D) H) ∨
    (J.go i H ∧ ∃ N : List V → Hp → Prop, (∀ zs H', N zs H' → ∃ m', m' < m ∧ W (i + 1) m' zs H') ∧ ∀ x H', J.yld i H x H' → g x σc H' fun σ2 H2 => Sub σc σ2 ∧ tt σ2 H2 fun b H3 =>
      if b = true then te σ2 H3 fun v H4 => H4 D = some (.lst ys) ∧ ys.length < sizeLine ∧ N (ys ++ [v]) (upd H4 D (.lst (ys ++ [v]))) else N ys H3)
def tComp (js : List (Option Nat)) (wi : TI) (g : TG) (tt : TT) (te : TE) : TE := fun σ H Q => wi σ H fun J H1 => compR J g tt te (capt js σ) Q H1
section
variable {prog : Program} {w : World} {A : Around} {R : Result → Shared → Prop} {s : Shared}
theorem comp_loop {elt tg iter : Expr} {ifs : List Expr} {scope : Scope} {pos : Pos} {it acc : Value} {env : Env} (Iv : Nat → Shared → Prop) (F : Value → Shared → Prop) (hF : ∀ e s, ¬ F e s)
    (turn : ∀ n s, Iv n s → wpAny (model prog w) A (pyNext it) (fun r s1 => (r = none → R (.ok .next) s1) ∧ ∀ v, r = some v →
      wpAny (model prog w) A (letOwnedTupleGo tg it v) (fun _ s2 => wpAny (model prog w) A (assign tg env v) (fun _ s3 =>
        wpAny (model prog w) A (forIn ifs true fun c r => if r = true then (do let ok ← isTrue c env (eval c env); pure (ForInStep.yield ok)) else pure (ForInStep.yield r)) (fun ok s4 =>
          (ok = false → ∃ m, m < n ∧ Iv m s4) ∧ (ok = true → wpAny (model prog w) A (eval elt env) (fun x s5 => wpAny (model prog w) A (call (.builtin "list.append") [acc, x]) (fun _ s6 => ∃ m, m < n ∧ Iv m s6) F s5) F s4)) F s3) F s2) F s1) F s)
    (n : Nat) (h : Iv n s) : codeAny (model prog w) A (.compLoop (.ListComp elt [⟨tg, iter, ifs, 0⟩] scope pos) 0 it acc env) R s := by
  refine codeAny_loop rfl Iv (fun n s hI => ?_) n h
  show wpAny _ A (Sem.onRaise (compTurn (.ListComp elt [⟨tg, iter, ifs, 0⟩] scope pos) 0 it acc env) (fun x => do noteFrame x env; theTreesLotGoes x)) _ _ s
  refine wpAny_noted ?_
  rw [compTurn_list]
  have ff : ∀ {E : Value → Shared → Prop} (e : Value) (s : Shared), F e s → E e s := fun e s z => (hF e s z).elim
  refine wpAny_bind (wpAny_standAt (wpAny_bind (wpAny_mono (turn n s hI) (fun r s1 h1 => ?_) ff)))
  obtain ⟨h0, h1⟩ := h1
  cases r with
  | none => exact wpAny_pure (h0 rfl)
  | some v =>
    refine wpAny_bind (wpAny_mono (h1 v rfl) (fun _ s2 h2 => ?_) ff)
    refine wpAny_bind (wpAny_mono h2 (fun _ s3 h3 => ?_) ff)
    refine wpAny_bind (wpAny_mono h3 (fun ok s4 h4 => ?_) ff)
    cases ok with
    | false => exact wpAny_pure ⟨rfl, h4.1 rfl⟩
    | true =>
      refine wpAny_bind (wpAny_bind (wpAny_mono (h4.2 rfl) (fun x s5 h5 => ?_) ff))
      exact wpAny_bind (wpAny_mono h5 (fun _ s6 h6 => wpAny_pure (wpAny_pure ⟨rfl, h6⟩)) ff)
end
section
variable {X : Cx} {N : List Str} {scope : Scope} {cl : List (Str × Addr)} {js : List (Option Nat)} {pins : List (Addr × Obj)} {σ : St} {H : Hp} {s : Shared}
theorem comp_core {elt tg iter : Expr} {ifs : List Expr} {pos : Pos} {J : It} {fp : List Addr} {it : Addr} {tn : Nat → Heap → Prop} {g : TG} {tt : TT} {te : TE} {Q : VK} {E : Value → Shared → Prop} {RR : Value → Addr → Result → Shared → Prop}
    (hc : X.calm = true) (K : CompOk X N scope cl js) (I : Inv X pins σ H s) (T : Turn X.prog X.w X.K tg J fp it tn) (st : tn 0 s.heap) (hf : ∀ b ∈ fp, FpOk X pins H b)
    (hg : ∀ C s H fp, PG (X.blk N scope cl C s H fp) tg g) (ht : ∀ C s H fp, PIf (X.blk N scope cl C s H fp) ifs tt) (he : ∀ C s H fp, PE (X.blk N scope cl C s H fp) elt te)
    (hq : compR J g tt te (capt js σ) Q H)
    (hRR : ∀ (D : Addr) (s3 s' : Shared) (H' : Hp) (σ' : St), Inv X pins σ (upd H D (.lst [])) s3 → (∀ b ∈ fp, FpOk X pins (upd H D (.lst [])) b) → Inv (X.blk N scope cl s3.heap.objs.size s3 (upd H D (.lst [])) fp) [] σ' H' s' → Q (.ref D) H' → RR (.ref D) s3.heap.objs.size (.ok .next) s') :
    wpAny (model X.prog X.w) X.A (newList []) (fun acc s3 => wpAny (model X.prog X.w) X.A (newFunctionEnv scope X.env.globals cl [] X.env.qual none .none (some X.env)) (fun cenv s4 =>
      codeAny (model X.prog X.w) X.A (.compStart (.ListComp elt [⟨tg, iter, ifs, 0⟩] scope pos) 0 (.ref it) acc { cenv with scope := relabel scope X.env }) (RR acc cenv.locals) s4) E s3) E s := by
  have fresh : H s.heap.objs.size = none := I.fresh
  have lt : ∀ b ∈ fp, b < s.heap.objs.size := fun b hb => by
    obtain ⟨o, e, _⟩ := T.obj _ _ st b hb
    exact Heap.lt_size e
  obtain ⟨W, ⟨m0, w0⟩, step⟩ := hq _ fresh
  refine wpAny_newObj_type ?_
  have I3 := I.lnew (ys := []) (its := []) (t' := s.toks) .nil (Nat.zero_le _)
  have f3 : ∀ b ∈ fp, FpOk X pins (upd H s.heap.objs.size (.lst [])) b := fun b hb => ⟨by rw [upd_ne (Nat.ne_of_lt (lt b hb))]; exact (hf b hb).1, (hf b hb).2⟩
  generalize e3 : ({ s with heap := s.heap.push { cls := .type "list", data := .seq ([] : List Value).toArray }, toks := s.toks } : Shared) = s3 at I3
  have st3 : tn 0 s3.heap := by
    rw [← e3]
    exact T.keep _ _ _ st fun b _ o e => Heap.get?_push_of_some _ e
  have lt3 : ∀ b ∈ fp, b < s3.heap.objs.size := fun b hb => by
    obtain ⟨o, e, _⟩ := T.obj _ _ st3 b hb
    exact Heap.lt_size e
  refine wpAny_newFunctionEnv K.nocell (by intro y hy; simp at hy) (fun h4 n4 k4 => ?_) K.kind
  have old : ∀ b o, s3.heap.get? b = some o → h4.get? b = some o := fun b o e => (k4.2 b (Nat.ne_of_lt (Heap.lt_size e))).trans (Heap.get?_push_of_some _ e)
  have I4 := blk_start K I3 f3 lt3 (tk := s3.toks + ([] : List (Str × Value)).length) n4 old
  have st4 : tn 0 h4 := T.keep _ _ _ st3 fun b _ o e => old b o e
  have fpB : ∀ {H' : Hp}, (∀ b ∈ fp, H' b = none) → ∀ b ∈ fp, FpOk (X.blk N scope cl s3.heap.objs.size s3 (upd H s.heap.objs.size (.lst [])) fp) [] H' b := fun hn b hb =>
    ⟨hn b hb, Nat.ne_of_lt (lt3 b hb), fun z => (List.mem_cons.mp (I3.stkSub b z)).elim (f3 b hb).2.1 (f3 b hb).2.2.1, .inl hb, fun x c e => (f3 b hb).2.2.2.2.1 x c (K.cells (x, c) (PySem.mem_of_lookup e)), fun p hp => absurd (show p ∈ ([] : List (Addr × Obj)) from hp) (by simp)⟩
  have loop : codeAny (model X.prog X.w) X.A (.compLoop (.ListComp elt [⟨tg, iter, ifs, 0⟩] scope pos) 0 (.ref it) (.ref s.heap.objs.size) (compEnvC scope cl s3.heap.objs.size X.env)) (RR (.ref s.heap.objs.size) s3.heap.objs.size)
      ({ s3 with heap := h4, toks := s3.toks + ([] : List (Str × Value)).length } : Shared) := by
    refine comp_loop (fun n s' => ∃ i ys H', Inv (X.blk N scope cl s3.heap.objs.size s3 (upd H s.heap.objs.size (.lst [])) fp) [] (capt js σ) H' s' ∧ tn i s'.heap ∧ (∀ b ∈ fp, H' b = none) ∧ W i n ys H') (fun _ _ => False) (fun _ _ z => z) ?_ m0
      ⟨0, [], _, I4, st4, fun b hb => (f3 b hb).1, w0⟩
    rintro n s5 ⟨i, ys, H5, I5, st5, fr5, w5⟩
    rcases step i n ys H5 w5 with ⟨stop, qn⟩ | ⟨go, Nn, hN, nxt⟩
    · refine thn (T.done (X.blk N scope cl s3.heap.objs.size s3 (upd H s.heap.objs.size (.lst [])) fp) rfl rfl rfl hc i [] s5 (capt js σ) H5 _ I5 (fpB fr5) st5 stop) fun r s6 ⟨hr, I6⟩ => ⟨fun _ => ?_, fun v e => ?_⟩
      · exact hRR _ s3 s6 H5 _ I3 f3 I6 qn
      · rw [hr] at e; cases e
    · refine thn (T.item (X.blk N scope cl s3.heap.objs.size s3 (upd H s.heap.objs.size (.lst [])) fp) rfl rfl rfl hc i [] s5 (capt js σ) H5 _ I5 (fpB fr5) st5 go) fun r s6 ⟨u, hr, h6⟩ => ⟨fun e => ?_, fun v e => ?_⟩
      · rw [hr] at e; cases e
      rw [hr] at e; cases e
      refine thn h6 fun _ s7 ⟨x, H7, I7, r7, y7, st7, fr7⟩ => ?_
      have I7' := I7.pinned (fpB fr7) (T.obj _ _ st7)
      have back : ∀ {σ' : St} {H' : Hp} {s' : Shared} {i' n' : Nat} {zs : List V}, Inv (X.blk N scope cl s3.heap.objs.size s3 (upd H s.heap.objs.size (.lst [])) fp) ([] ++ pinsAt fp s7.heap) σ' H' s' → Sub (capt js σ) σ' → W (i + 1) n' zs H' →
          ∃ i ys H', Inv (X.blk N scope cl s3.heap.objs.size s3 (upd H s.heap.objs.size (.lst [])) fp) [] (capt js σ) H' s' ∧ tn i s'.heap ∧ (∀ b ∈ fp, H' b = none) ∧ W i n' ys H' := fun {σ' H' s' i' n' zs} I' sb w' => by
        refine ⟨i + 1, zs, H', (I'.unpinned).weak sb.1 sb.2, T.keep _ _ _ st7 fun b hb o e => (I'.pin (b, o) (List.mem_append_right _ (List.mem_append_right _ (mem_pinsAt hb e)))).1, fun b hb => ?_, w'⟩
        obtain ⟨o, e, _⟩ := T.obj _ _ st7 b hb
        exact (I'.pin (b, o) (List.mem_append_right _ (List.mem_append_right _ (mem_pinsAt hb e)))).2.1
      refine thn (hg _ _ _ _ _ s7 (capt js σ) H7 x _ _ I7' r7 (nxt x H7 y7)) fun _ s8 ⟨σ8, H8, I8, sb8, q8⟩ => ?_
      refine thn (ht _ _ _ _ _ s8 σ8 H8 _ I8 q8) fun ok s9 ⟨H9, I9, q9⟩ => ⟨fun e => ?_, fun e => ?_⟩
      · rw [e, if_neg Bool.false_ne_true] at q9
        obtain ⟨m', hm, w'⟩ := hN _ _ q9
        exact ⟨m', hm, back (i' := 0) I9 sb8 w'⟩
      · rw [e, if_pos rfl] at q9
        refine thn (he _ _ _ _ _ s9 σ8 H9 _ I9 q9) fun xv sa ⟨v, Ha, Ia, ra, qa, za, nn⟩ => ?_
        obtain ⟨m', hm, w'⟩ := hN _ _ nn
        refine thn (mt_append (X := X.blk N scope cl s3.heap.objs.size s3 (upd H s.heap.objs.size (.lst [])) fp) _ sa σ8 Ha (.ref s.heap.objs.size) [v] (.ref s.heap.objs.size) [xv] (fun y H' => H' = upd Ha s.heap.objs.size (.lst (ys ++ [v]))) Ia rfl (.cons ra .nil) ⟨_, ys, v, rfl, rfl, qa, za, rfl⟩) fun y sb ⟨z, Hb, Ib, _, eb⟩ => ?_
        rw [eb] at Ib
        exact ⟨m', hm, back (i' := 0) Ib sb8 w'⟩
  exact codeAny_compStart_list loop (T.self _ 0 _ _ _ st4 loop)
theorem pe_comp {elt tg iter : Expr} {ifs : List Expr} {pos : Pos} {wi : TI} {g : TG} {tt : TT} {te : TE} (hc : X.calm = true) (K : CompOk X N scope cl js) (hi : PI X tg iter wi)
    (hg : ∀ C s H fp, PG (X.blk N scope cl C s H fp) tg g) (ht : ∀ C s H fp, PIf (X.blk N scope cl C s H fp) ifs tt) (he : ∀ C s H fp, PE (X.blk N scope cl C s H fp) elt te)
    (hs : ∀ x, foldedSetIterable iter X.env x = pure x := by intro _; rfl) : PE X (.ListComp elt [⟨tg, iter, ifs, 0⟩] scope pos) (tComp js wi g tt te) := by
  intro pins s σ H Q I h
  rw [eval_ListComp]
  refine wpAny_comprehension_free (use := none) rfl hs K.clos K.kind K.names (thn (hi pins s σ H _ I h) fun v s1 h1 => thn h1 fun itv s2 h2 => ?_)
  obtain ⟨it, fp, tn, J, H2, e, I2, T, st2, f2, hq⟩ := h2
  subst e
  refine comp_core (RR := fun acc C => compPost (model X.prog X.w) X.A X.xe none (EP X pins σ Q) acc C) hc K I2 T st2 f2 hg ht he hq ?_
  intro D s3 s' H' σ' I3 f3 J' q
  obtain ⟨m, hn, _⟩ := J'.loc
  exact ⟨m, hn, fun h'' hs'' => ⟨.ref D, H', blk_end I3 f3 J' hs'', rfl, q⟩⟩
theorem ps_setComp {elt tg iter : Expr} {ifs : List Expr} {pos spos py : Pos} {i : Nat} {y : Str} {wi : TI} {g : TG} {tt : TT} {te : TE} (hc : X.calm = true) (hN : X.N.Nodup) (hiN : X.N[i]? = some y) (hy : X.env.scope.names.lookup y = some .local) (K : CompOk X N scope cl js) (hi : PI X tg iter wi)
    (hg : ∀ C s H fp, PG (X.blk N scope cl C s H fp) tg g) (ht : ∀ C s H fp, PIf (X.blk N scope cl C s H fp) ifs tt) (he : ∀ C s H fp, PE (X.blk N scope cl C s H fp) elt te)
    (hsw : swapsWith (.ListComp elt [⟨tg, iter, ifs, 0⟩] scope pos) (some (.Name y py)) spos.line X.env = pure true := by rfl)
    (hs : ∀ x, foldedSetIterable iter X.env x = pure x := by intro _; rfl) : PS X (.Assign [.Name y py] (.ListComp elt [⟨tg, iter, ifs, 0⟩] scope pos) spos) (tAsg (tComp js wi g tt te) (gName i)) := by
  intro pins s σ H D I h
  rw [exec_Assign_Name_used _ _ _ _ hsw]
  refine wpAny_bind (wpAny_standAt (wpAny_bind ?_))
  show wpAny _ X.A (do let _ ← comprehension (.ListComp elt [⟨tg, iter, ifs, 0⟩] scope pos) scope X.env _ (newList []) false (eval iter X.env) (some (assign (.Name y py) X.env))) _ _ s
  refine wpAny_bind (wpAny_mono (wpAny_comprehension_free (use := some (assign (.Name y py) X.env)) (Q := fun _ s' => SP X pins D .next s') rfl hs K.clos K.kind K.names
    (thn (hi pins s σ H _ I h) fun v s1 h1 => thn h1 fun itv s2 h2 => ?_)) (fun _ s' hq => wpAny_pure (wpAny_pure hq)) fun _ _ e => e)
  obtain ⟨it, fp, tn, J, H2, e, I2, T, st2, f2, hq⟩ := h2
  subst e
  refine comp_core (RR := fun acc C => compPost (model X.prog X.w) X.A X.xe (some (assign (.Name y py) X.env)) (fun _ s' => SP X pins D .next s') acc C) hc K I2 T st2 f2 hg ht he hq ?_
  intro Dl s3 s' H' σ' I3 f3 J' q
  have I' : Inv X pins σ H' s' := blk_end I3 f3 J' (Heap.SameBut.refl ..)
  obtain ⟨m, hn, _⟩ := J'.loc
  have hC : s3.heap.objs.size ≠ X.env.locals := Ne.symm (Nat.ne_of_lt I3.lt)
  have hcell : ∀ x c, X.env.cells.lookup x = some c → c ≠ s3.heap.objs.size := fun x c e z => by
    obtain ⟨v, q⟩ := I3.cell x c e
    exact absurd q.lt (by rw [z]; exact Nat.lt_irrefl _)
  show wpAny _ X.A (assign (.Name y py) X.env (.ref Dl)) _ _ _
  refine wpAny_assign_Name (store_ok2 I' hN hiN (.inl hy) (v := .ref Dl) rfl (fun s'' I'' ⟨a, hs2, ha⟩ => ?_) (.inr hy))
  have ha' : s3.heap.objs.size ≠ a := by
    rcases ha with ha | ha
    · rw [ha]; exact hC
    · exact Ne.symm (hcell y a ha)
  refine ⟨m, hn.sameBut hs2 ha', fun h3 hs3 => ?_⟩
  refine ⟨_, H', I''.turned (t' := s''.toks) (it := s3.heap.objs.size) (fun b o hb e => (hs3.2 b hb).trans e) J'.free hC (.inr I3.sz) hcell (fun p hp z => ?_), q⟩
  exact absurd (Heap.lt_size (I3.pin p hp).1) (by rw [z]; exact Nat.lt_irrefl _)
end
end L2
namespace L2
open PySem PySem.Spec PyProof.Rows
structure Callee (P : Program) (w : World) (K : PySem.W.Frag) (mg : Str → Option Value) (base : Heap) (CX : CXT) (x : Str) (ps : List Str) (k : Nat) (sp : Sp) : Prop where
  ex : ∃ f fd, FnOk P w K mg base CX k f fd ps sp ∧ mg x = some (.ref f) ∧ PySem.W.keepIn K (.ref f) = true ∧ Binds K fd ps []
section
variable {X : Cx} {CX : CXT} {k : Nat} {ps : List Str} {sp : Sp} {E : XK} {x : Str} {p pos : Pos} {e : Expr} {es : List Expr} {t : TA}
theorem pe_fn (C : Callee X.prog X.w X.K X.mg X.base CX x ps k sp) (hr : Room k X.A) (hg : Gl X x) (hx : Passes CX X E) (ha : PA X (e :: es) t)
    (hdb : (x == ("__debug__" : Str)) = false := by decide) (he : starEach (e :: es) X.env = (false, eval e X.env) :: starEach es X.env := by rfl) (hpl : (backTo pos (starEach es X.env)).any (·.1) = false := by rfl) :
    PE X (.Call (.Name x p) (e :: es) [] pos) (tCall sp [] E t) := by
  intro pins s σ H Q I h
  obtain ⟨f, fd, F, hm, hk, hb⟩ := C.ex
  exact (pe_call F hr hg hm hk hb .nil hx ha hdb he hpl) pins s σ H Q I h
end
theorem CompOk.of {X : Cx} {N : List Str} {scope : Scope} {cl : List (Str × Addr)} {js : List (Option Nat)} (clos : closureFor scope X.env = pure cl) (nc : (scope.names.all fun y => y.2 != .cell) = true) (kind : scope.kind = .function)
    (nm : (scope.names.all fun y => y.2 != .local || (scope.names.lookup y.1 == some .local)) = true) (cells : ∀ p ∈ cl, X.env.cells.lookup p.1 = some p.2) (has : (scope.names.all fun y => y.2 != .free || (cl.lookup y.1).isSome) = true)
    (len : js.length = N.length) (cap : ((js.zip N).all fun p => match p.1 with | none => true | some j => (X.N[j]? == some p.2) && (scope.names.lookup p.2 == some .free) && (X.env.scope.names.lookup p.2 == some .cell || X.env.scope.names.lookup p.2 == some .free)) = true) : CompOk X N scope cl js := by
  rw [List.all_eq_true] at nc nm has cap
  refine ⟨clos, fun y hy => by simpa using nc y hy, kind, fun y hy e => ?_, cells, fun y hy e => ?_, len, fun i j e => ?_⟩
  · have q := nm y hy
    rw [e] at q
    simpa using q
  · have q := has y hy
    rw [e] at q
    simpa using q
  · have hi : i < js.length := (List.getElem?_eq_some_iff.mp e).1
    have hx : N[i]? = some (N[i]'(by omega)) := List.getElem?_eq_getElem (by omega)
    have hz : (js.zip N)[i]? = some (some j, N[i]'(by omega)) := by
      rw [List.getElem?_zip_eq_some]
      exact ⟨e, hx⟩
    have q := cap _ (List.mem_of_getElem? hz)
    simp only [Bool.and_eq_true, Bool.or_eq_true, beq_iff_eq] at q
    exact ⟨_, hx, q.1.1, q.1.2, q.2⟩
theorem Same.tup {H H' : Hp} (e : Same H H') {a : Addr} {xs : List V} (h : H a = some (.tup xs)) : H' a = some (.tup xs) := e _ _ h
theorem Same.new {H : Hp} {p : Addr} (h : H p = none) (o : HO) : Same H (upd H p o) := fun b u q => by rw [upd_ne (ne_of_none q h)]; exact q
def spLaw (K : PySem.W.Frag) : Sp := fun vs H Q _ => ∃ (a : Addr) (ns : List Int), vs = [.ref a] ∧ SqL K H a (ns.map V.int) ∧ ns.length ≤ 63 ∧ ∀ H', Q (.bl true) H'
end L2
namespace L2
open PySem PySem.Spec PyProof.Rows
theorem dp_ints {K : PySem.W.Frag} {H : Hp} : ∀ ns : List Int, DpAll K H (ns.map V.int) (ns.map PyData.int)
  | [] => .nil
  | n :: r => .cons (.int n) (dp_ints r)
end L2
namespace PySem
section
variable {prog : Program} {w : World} {A : Around} {E : Value → Shared → Prop} {s : Shared} {R : Result → Shared → Prop}
end
end PySem
namespace L2
open PySem PySem.Spec PyProof.Rows
section
variable {X : Cx}
def tListRev (K : PySem.W.Frag) (ta : TA) : TE := fun σ H Q => ta σ H fun vs H1 => ∃ a xs, vs = [.ref a] ∧ SqL K H1 a xs ∧ ∀ p, H1 p = none → Q (.ref p) (upd H1 p (.lst xs.reverse))
end
end L2
namespace L2
open PySem PySem.Spec PyProof.Rows
section
variable {X : Cx} {K : PySem.W.Frag}
theorem ix_listK (hK : X.K = K) : IxR X (rIxL K) := by subst hK; exact ix_list
theorem ix_tupK (hK : X.K = K) : IxR X (rIxT K) := by subst hK; exact ix_tup
theorem call_len_seqK (hK : X.K = K) : CallR X (.builtin "len") (fun xs H Q => ∃ p ys, xs = [.ref p] ∧ (SqL K H p ys ∨ SqT K H p ys) ∧ Q (.int ys.length) H) := by subst hK; exact call_len_seq
theorem call_list_ofK (hK : X.K = K) : CallR X (.type "list") (fun xs H Q => ∃ p ys, xs = [.ref p] ∧ (SqL K H p ys ∨ SqT K H p ys) ∧ ∀ l, H l = none → Q (.ref l) (upd H l (.lst ys))) := by subst hK; exact call_list_of
theorem op_neDK (hK : X.K = K) (hu : X.A.units + 64 < cLine) : OpR X (compareOp .NotEq) (rEqD K true) := by subst hK; exact op_neD hu
theorem sl_listK (hK : X.K = K) : SlR X (rSlL K) := by subst hK; exact sl_list
theorem op_in_seqK (hK : X.K = K) : OpR X (compareOp .In) (rIn K false) := by subst hK; exact op_in_seq
theorem op_notIn_seqK (hK : X.K = K) : OpR X (compareOp .NotIn) (rIn K true) := by subst hK; exact op_notIn_seq
theorem pg_tupK {es : List Expr} {k : Nat} {t : TGs} {n : Nat} {pos : Pos} (hK : X.K = K) (hc : X.calm = true) (h : PGs X es t)
    (hn : (assignEach es X.env).length = n := by rfl) (hst : (assignEach es X.env).findIdx? (·.1) = none := by rfl) : PG X (.Tuple es k pos) (gTup K n t) := by subst hK; exact pg_tup hc h hn hst
end
end L2
namespace L2
open PySem PySem.Spec PyProof.Rows PySem.SeqAt
section
variable {X : Cx} {K : PySem.W.Frag}
def rEqS (K : PySem.W.Frag) : R2 := fun x y H Q => ∃ d, Dp K H x d ∧ Dp K H y d ∧ shaped d = true ∧ Q (.bl true) H
def rNeS (K : PySem.W.Frag) : R2 := fun x y H Q => ∃ d, Dp K H x d ∧ Dp K H y d ∧ shaped d = true ∧ Q (.bl false) H
theorem op_neS (hu : X.A.units + 64 < cLine) : OpR X (compareOp .NotEq) (rNeS X.K) := by
  intro pins s σ H x y v u Q I rx ry h
  obtain ⟨d, h1, h2, z, q⟩ := h
  obtain ⟨as, ra⟩ := h1.reads I rx
  obtain ⟨bs, rb⟩ := h2.reads I ry
  refine ne_dataH ra rb z z hu ?_
  rw [eqv_refl d (canLay_of_shaped z)]
  exact ⟨.bl false, H, I, rfl, q⟩
theorem op_neSK (hK : X.K = K) (hu : X.A.units + 64 < cLine) : OpR X (compareOp .NotEq) (rNeS K) := by subst hK; exact op_neS hu
end
end L2
namespace L2
open PySem PySem.Spec PyProof.Rows
class MonoE (t : TE) : Prop where
  mono : ∀ {σ : St} {H : Hp} {Q Q' : VK}, (∀ v H1, Q v H1 → Q' v H1) → t σ H Q → t σ H Q'
class MonoT (t : TT) : Prop where
  mono : ∀ {σ : St} {H : Hp} {Q Q' : Bool → Hp → Prop}, (∀ v H1, Q v H1 → Q' v H1) → t σ H Q → t σ H Q'
class MonoA (t : TA) : Prop where
  mono : ∀ {σ : St} {H : Hp} {Q Q' : List V → Hp → Prop}, (∀ v H1, Q v H1 → Q' v H1) → t σ H Q → t σ H Q'
class MonoO (t : TO) : Prop where
  mono : ∀ {σ : St} {H : Hp} {Q Q' : Option Int → Hp → Prop}, (∀ v H1, Q v H1 → Q' v H1) → t σ H Q → t σ H Q'
class MonoR (r : R2) : Prop where
  mono : ∀ {x y : V} {H : Hp} {Q Q' : VK}, (∀ v H1, Q v H1 → Q' v H1) → r x y H Q → r x y H Q'
class MonoU (r : V → Hp → VK → Prop) : Prop where
  mono : ∀ {x : V} {H : Hp} {Q Q' : VK}, (∀ v H1, Q v H1 → Q' v H1) → r x H Q → r x H Q'
class MonoC (r : List V → Hp → VK → Prop) : Prop where
  mono : ∀ {x : List V} {H : Hp} {Q Q' : VK}, (∀ v H1, Q v H1 → Q' v H1) → r x H Q → r x H Q'
class MonoM (r : V → List V → Hp → VK → Prop) : Prop where
  mono : ∀ {x : V} {xs : List V} {H : Hp} {Q Q' : VK}, (∀ v H1, Q v H1 → Q' v H1) → r x xs H Q → r x xs H Q'
class MonoL (r : V → Option Int → Option Int → Hp → VK → Prop) : Prop where
  mono : ∀ {x : V} {a b : Option Int} {H : Hp} {Q Q' : VK}, (∀ v H1, Q v H1 → Q' v H1) → r x a b H Q → r x a b H Q'
class MonoP (sp : Sp) : Prop where
  mono : ∀ {vs : List V} {H : Hp} {Q Q' : VK} {E : XK}, (∀ v H1, Q v H1 → Q' v H1) → sp vs H Q E → sp vs H Q' E
class MonoG (g : TG) : Prop where
  mono : ∀ {v : V} {σ : St} {H : Hp} {Q Q' : St → Hp → Prop}, (∀ σ H1, Q σ H1 → Q' σ H1) → g v σ H Q → g v σ H Q'
class MonoGs (g : TGs) : Prop where
  mono : ∀ {v : List V} {σ : St} {H : Hp} {Q Q' : St → Hp → Prop}, (∀ σ H1, Q σ H1 → Q' σ H1) → g v σ H Q → g v σ H Q'
class MonoSet (t : TSet) : Prop where
  mono : ∀ {a b c : V} {H : Hp} {Q Q' : Hp → Prop}, (∀ H1, Q H1 → Q' H1) → t a b c H Q → t a b c H Q'
class MonoI (t : TI) : Prop where
  mono : ∀ {σ : St} {H : Hp} {R R' : It → Hp → Prop}, (∀ J H1, R J H1 → R' J H1) → t σ H R → t σ H R'
structure LeD (D D' : Ends) : Prop where
  nx : ∀ σ H, D.nx σ H → D'.nx σ H
  rt : ∀ v H, D.rt v H → D'.rt v H
  bk : ∀ σ H, D.bk σ H → D'.bk σ H
  ct : ∀ σ H, D.ct σ H → D'.ct σ H
class MonoS (t : TS) : Prop where
  mono : ∀ {D D' : Ends} {σ : St} {H : Hp}, LeD D D' → t D σ H → t D' σ H
section
instance {i : Nat} : MonoE (tVar i) := ⟨fun h ⟨v, e, q⟩ => ⟨v, e, h _ _ q⟩⟩
instance {v : V} : MonoE (tC v) := ⟨fun h q => h _ _ q⟩
instance {C : Int → Int → Prop} {g : Int → Int → V} : MonoR (rI C g) := ⟨fun h ⟨i, j, a, b, c, q⟩ => ⟨i, j, a, b, c, h _ _ q⟩⟩
instance {g : Int → Int → V} : MonoR (rI0 g) := ⟨fun h ⟨i, j, a, b, q⟩ => ⟨i, j, a, b, h _ _ q⟩⟩
instance {g : Int → V} : MonoU (rU g) := ⟨fun h ⟨i, a, q⟩ => ⟨i, a, h _ _ q⟩⟩
instance : MonoR rEq := ⟨fun h ⟨a, q⟩ => ⟨a, h _ _ q⟩⟩
instance : MonoR rNe := ⟨fun h ⟨a, q⟩ => ⟨a, h _ _ q⟩⟩
instance {K : PySem.W.Frag} : MonoR (rEqS K) := ⟨fun h ⟨d, a, b, c, q⟩ => ⟨d, a, b, c, h _ _ q⟩⟩
instance {K : PySem.W.Frag} : MonoR (rNeS K) := ⟨fun h ⟨d, a, b, c, q⟩ => ⟨d, a, b, c, h _ _ q⟩⟩
instance {K : PySem.W.Frag} {n : Bool} : MonoR (rEqD K n) := ⟨fun h ⟨d, e, a, b, c, f, q⟩ => ⟨d, e, a, b, c, f, h _ _ q⟩⟩
instance {K : PySem.W.Frag} : MonoR (rIxL K) := ⟨fun h ⟨p, xs, i, v, a, b, c, d, q⟩ => ⟨p, xs, i, v, a, b, c, d, h _ _ q⟩⟩
instance {K : PySem.W.Frag} : MonoR (rIxT K) := ⟨fun h ⟨p, xs, i, v, a, b, c, d, q⟩ => ⟨p, xs, i, v, a, b, c, d, h _ _ q⟩⟩
instance : MonoR rCat := ⟨fun h ⟨l, b, xs, zs, a1, a2, a3, a4, a5, q⟩ => ⟨l, b, xs, zs, a1, a2, a3, a4, a5, fun p hp => h _ _ (q p hp)⟩⟩
instance : MonoR rRep := ⟨fun h ⟨l, k, xs, a1, a2, a3, a4, a5, a6, q⟩ => ⟨l, k, xs, a1, a2, a3, a4, a5, a6, fun p hp => h _ _ (q p hp)⟩⟩
instance {K : PySem.W.Frag} {n : Bool} : MonoR (rIn K n) := ⟨fun h ⟨p, xs, a, b, c, d, q⟩ => ⟨p, xs, a, b, c, d, h _ _ q⟩⟩
instance : MonoR (fun x y H Q => y = .non ∧ Q (.bl (decide (x = .non))) H) := ⟨fun h ⟨a, q⟩ => ⟨a, h _ _ q⟩⟩
instance : MonoR (fun x y H Q => y = .non ∧ Q (.bl (!decide (x = .non))) H) := ⟨fun h ⟨a, q⟩ => ⟨a, h _ _ q⟩⟩
instance {r : R2} {a b : TE} [MonoR r] [MonoE a] [MonoE b] : MonoE (tOp r a b) := ⟨fun h q => MonoE.mono (t := a) (fun _ _ q => MonoE.mono (t := b) (fun _ _ q => MonoR.mono (r := r) h q) q) q⟩
instance {r : V → Hp → VK → Prop} {a : TE} [MonoU r] [MonoE a] : MonoE (tUn r a) := ⟨fun h q => MonoE.mono (t := a) (fun _ _ q => MonoU.mono (r := r) h q) q⟩
theorem iteMono {c A B A' B' : Prop} [Decidable c] (h1 : A → A') (h2 : B → B') (h : if c then A else B) : if c then A' else B' := by
  by_cases hc : c
  · rw [if_pos hc] at h ⊢; exact h1 h
  · rw [if_neg hc] at h ⊢; exact h2 h
instance {a b : TE} [MonoE a] [MonoE b] : MonoE (tAndV a b) := ⟨fun h q => MonoE.mono (t := a) (fun _ _ ⟨c, e, q⟩ => ⟨c, e, iteMono (MonoE.mono (t := b) h) (h _ _) q⟩) q⟩
instance {a b : TE} [MonoE a] [MonoE b] : MonoE (tOrV a b) := ⟨fun h q => MonoE.mono (t := a) (fun _ _ ⟨c, e, q⟩ => ⟨c, e, iteMono (h _ _) (MonoE.mono (t := b) h) q⟩) q⟩
instance {a : TE} [MonoE a] : MonoE (tNotV a) := ⟨fun h q => MonoE.mono (t := a) (fun _ _ ⟨c, e, q⟩ => ⟨c, e, h _ _ q⟩) q⟩
instance {t : TT} {a b : TE} [MonoT t] [MonoE a] [MonoE b] : MonoE (tIf t a b) := ⟨fun h q => MonoT.mono (t := t) (fun _ _ q => iteMono (MonoE.mono (t := a) h) (MonoE.mono (t := b) h) q) q⟩
instance : MonoA tNil := ⟨fun h q => h _ _ q⟩
instance {a : TE} {t : TA} [MonoE a] [MonoA t] : MonoA (tCons a t) := ⟨fun h q => MonoE.mono (t := a) (fun _ _ q => MonoA.mono (t := t) (fun _ _ q => h _ _ q) q) q⟩
instance {t : TA} [MonoA t] : MonoE (tTup t) := ⟨fun h q => MonoA.mono (t := t) (fun _ _ ⟨a, q⟩ => ⟨a, fun p hp => h _ _ (q p hp)⟩) q⟩
instance {t : TA} [MonoA t] : MonoE (tLst t) := ⟨fun h q => MonoA.mono (t := t) (fun _ _ ⟨a, q⟩ => ⟨a, fun p hp => h _ _ (q p hp)⟩) q⟩
instance {sp : Sp} {dvs : List V} {E : XK} {t : TA} [MonoP sp] [MonoA t] : MonoE (tCall sp dvs E t) := ⟨fun h q => MonoA.mono (t := t) (fun _ _ q => MonoP.mono (sp := sp) h q) q⟩
instance {r : List V → Hp → VK → Prop} {t : TA} [MonoC r] [MonoA t] : MonoE (tCB r t) := ⟨fun h q => MonoA.mono (t := t) (fun _ _ q => MonoC.mono (r := r) h q) q⟩
instance {K : PySem.W.Frag} : MonoC (rIsi K) := ⟨fun h ⟨x, T, t, b, a1, a2, a3, q⟩ => ⟨x, T, t, b, a1, a2, a3, h _ _ q⟩⟩
instance {K : PySem.W.Frag} : MonoC (fun xs H Q => ∃ p ys, xs = [.ref p] ∧ (SqL K H p ys ∨ SqT K H p ys) ∧ Q (.int ys.length) H) := ⟨fun h ⟨x, T, a1, a2, q⟩ => ⟨x, T, a1, a2, h _ _ q⟩⟩
instance {K : PySem.W.Frag} : MonoC (fun xs H Q => ∃ p ys, xs = [.ref p] ∧ (SqL K H p ys ∨ SqT K H p ys) ∧ ∀ l, H l = none → Q (.ref l) (upd H l (.lst ys))) := ⟨fun h ⟨x, T, a1, a2, q⟩ => ⟨x, T, a1, a2, fun l hl => h _ _ (q l hl)⟩⟩
instance : MonoC (fun xs H Q => ∃ i, xs = [.int i] ∧ Q (.int (if i < 0 then -i else i)) H) := ⟨fun h ⟨x, a1, q⟩ => ⟨x, a1, h _ _ q⟩⟩
instance : MonoO tNoPart := ⟨fun h q => h _ _ q⟩
instance {t : TE} [MonoE t] : MonoO (tPart t) := ⟨fun h q => MonoE.mono (t := t) (fun _ _ ⟨i, e, q⟩ => ⟨i, e, h _ _ q⟩) q⟩
instance {K : PySem.W.Frag} : MonoL (rSlL K) := ⟨fun h ⟨a, xs, e, s, q⟩ => ⟨a, xs, e, s, fun p hp => h _ _ (q p hp)⟩⟩
instance {r : V → Option Int → Option Int → Hp → VK → Prop} {t : TE} {a b : TO} [MonoL r] [MonoE t] [MonoO a] [MonoO b] : MonoE (tSl r t a b) := ⟨fun h q => MonoE.mono (t := t) (fun _ _ q => MonoO.mono (t := a) (fun _ _ q => MonoO.mono (t := b) (fun _ _ q => MonoL.mono (r := r) h q) q) q) q⟩
instance {K : PySem.W.Frag} {t : TA} [MonoA t] : MonoE (tListRev K t) := ⟨fun h q => MonoA.mono (t := t) (fun _ _ ⟨a, xs, e, s, q⟩ => ⟨a, xs, e, s, fun p hp => h _ _ (q p hp)⟩) q⟩
instance : MonoM rAppend := ⟨fun h ⟨l, xs, y, a1, a2, a3, a4, q⟩ => ⟨l, xs, y, a1, a2, a3, a4, h _ _ q⟩⟩
instance : MonoM rClear := ⟨fun h ⟨l, xs, a1, a2, a3, q⟩ => ⟨l, xs, a1, a2, a3, h _ _ q⟩⟩
instance {K : PySem.W.Frag} {T : String} {r : V → List V → Hp → VK → Prop} {o : TE} {t : TA} [MonoM r] [MonoE o] [MonoA t] : MonoE (tBM K T r o t) := ⟨fun h q => MonoE.mono (t := o) (fun _ _ ⟨a, q⟩ => ⟨a, MonoA.mono (t := t) (fun _ _ q => MonoM.mono (r := r) h q) q⟩) q⟩
instance {K : PySem.W.Frag} {T : String} {r : V → List V → Hp → VK → Prop} {o : TE} [MonoM r] [MonoE o] : MonoE (tBM0 K T r o) := ⟨fun h q => MonoE.mono (t := o) (fun _ _ ⟨a, q⟩ => ⟨a, MonoM.mono (r := r) h q⟩) q⟩
instance {t : TE} [MonoE t] : MonoT (tTest t) := ⟨fun h q => MonoE.mono (t := t) (fun _ _ ⟨k, e, q⟩ => ⟨k, e, h _ _ q⟩) q⟩
instance {t : TE} [MonoE t] : MonoT (tB t) := ⟨fun h q => MonoE.mono (t := t) (fun _ _ ⟨k, e, q⟩ => ⟨k, e, h _ _ q⟩) q⟩
instance {a b : TT} [MonoT a] [MonoT b] : MonoT (tAnd a b) := ⟨fun h q => MonoT.mono (t := a) (fun _ _ q => iteMono (MonoT.mono (t := b) h) (h _ _) q) q⟩
instance {a b : TT} [MonoT a] [MonoT b] : MonoT (tOr a b) := ⟨fun h q => MonoT.mono (t := a) (fun _ _ q => iteMono (h _ _) (MonoT.mono (t := b) h) q) q⟩
instance {a : TT} [MonoT a] : MonoT (tNot a) := ⟨fun h q => MonoT.mono (t := a) (fun _ _ q => h _ _ q) q⟩
instance {i : Nat} : MonoG (gName i) := ⟨fun h q => h _ _ q⟩
instance : MonoGs gNil := ⟨fun h ⟨e, q⟩ => ⟨e, h _ _ q⟩⟩
instance {t : TG} {u : TGs} [MonoG t] [MonoGs u] : MonoGs (gCons t u) := ⟨fun h ⟨v, r, e, q⟩ => ⟨v, r, e, MonoG.mono (g := t) (fun _ _ q => MonoGs.mono (g := u) h q) q⟩⟩
instance {K : PySem.W.Frag} {n : Nat} {t : TGs} [MonoGs t] : MonoG (gTup K n t) := ⟨fun h ⟨a, xs, e, s, l, q⟩ => ⟨a, xs, e, s, l, MonoGs.mono (g := t) h q⟩⟩
instance : MonoSet rSetL := ⟨fun h ⟨p, xs, k, j, a1, a2, a3, a4, q⟩ => ⟨p, xs, k, j, a1, a2, a3, a4, h _ q⟩⟩
instance {o i : TE} {t : TSet} [MonoE o] [MonoE i] [MonoSet t] : MonoG (gSub o i t) := ⟨fun h q => MonoE.mono (t := o) (fun _ _ q => MonoE.mono (t := i) (fun _ _ q => MonoSet.mono (t := t) (fun _ q => h _ _ q) q) q) q⟩
instance {te : TE} {g : TG} [MonoE te] [MonoG g] : MonoS (tAsg te g) := ⟨fun h q => MonoE.mono (t := te) (fun _ _ q => MonoG.mono (g := g) h.nx q) q⟩
instance {te : TE} [MonoE te] : MonoS (tDrop te) := ⟨fun h q => MonoE.mono (t := te) (fun _ _ q => h.nx _ _ q) q⟩
instance {te : TE} [MonoE te] : MonoS (tRet te) := ⟨fun h q => MonoE.mono (t := te) h.rt q⟩
instance : MonoS tRetN := ⟨fun h q => h.rt _ _ q⟩
instance : MonoS tNext := ⟨fun h q => h.nx _ _ q⟩
instance : MonoS tBreak := ⟨fun h q => h.bk _ _ q⟩
instance : MonoS tCont := ⟨fun h q => h.ct _ _ q⟩
instance {c : TT} {t u : TS} [MonoT c] [MonoS t] [MonoS u] : MonoS (tIfS c t u) := ⟨fun h q => MonoT.mono (t := c) (fun _ _ q => iteMono (MonoS.mono (t := t) h) (MonoS.mono (t := u) h) q) q⟩
instance {t u : TS} [MonoS t] [MonoS u] : MonoS (tSeq t u) := ⟨fun {D D' σ H} h q => MonoS.mono (t := t) (D := { D with nx := u D }) (D' := { D' with nx := u D' }) ⟨fun _ _ q => MonoS.mono (t := u) h q, h.rt, h.bk, h.ct⟩ q⟩
instance {K : PySem.W.Frag} {t : TE} [MonoE t] : MonoI (iList K t) := ⟨fun h q => MonoE.mono (t := t) (fun _ _ ⟨a, e, s, q⟩ => ⟨a, e, s, h _ _ q⟩) q⟩
instance {t : TA} [MonoA t] : MonoI (iRng1 t) := ⟨fun h q => MonoA.mono (t := t) (fun _ _ ⟨a, e, s, s2, q⟩ => ⟨a, e, s, s2, h _ _ q⟩) q⟩
instance {t : TA} [MonoA t] : MonoI (iRng2 t) := ⟨fun h q => MonoA.mono (t := t) (fun _ _ ⟨a, b, e, s, q⟩ => ⟨a, b, e, s, h _ _ q⟩) q⟩
instance {K : PySem.W.Frag} {t : TA} [MonoA t] : MonoI (iZip K t) := ⟨fun h q => MonoA.mono (t := t) (fun _ _ ⟨a, b, e, s, s2, q⟩ => ⟨a, b, e, s, s2, h _ _ q⟩) q⟩
instance {K : PySem.W.Frag} {t : TA} [MonoA t] : MonoI (iRev K t) := ⟨fun h q => MonoA.mono (t := t) (fun _ _ ⟨a, xs, e, s, q⟩ => ⟨a, xs, e, s, h _ _ q⟩) q⟩
instance {wi : TI} {g : TG} {tb : TS} [MonoI wi] [MonoG g] [MonoS tb] : MonoS (tFor wi g tb) := ⟨fun {D D' σ H} h q => MonoI.mono (t := wi) (fun _ _ ⟨W, w0, st⟩ => ⟨W, w0, fun i m σ H w => (st i m σ H w).elim (fun ⟨a, b⟩ => .inl ⟨a, h.nx _ _ b⟩)
  fun ⟨a, N, hN, b⟩ => .inr ⟨a, N, hN, fun x H' y => MonoG.mono (g := g) (fun _ _ q => MonoS.mono (t := tb) (D := { D with nx := N, ct := N, bk := D.nx }) (D' := { D' with nx := N, ct := N, bk := D'.nx }) ⟨fun _ _ q => q, h.rt, h.nx, fun _ _ q => q⟩ q) (b x H' y)⟩⟩) q⟩
instance {c : TT} {tb : TS} [MonoT c] [MonoS tb] : MonoS (tWhile c tb) := ⟨fun {D D' σ H} h ⟨W, w0, st⟩ => ⟨W, w0, fun m σ H w => MonoT.mono (t := c) (fun _ _ q => iteMono (fun ⟨N, hN, q⟩ => ⟨N, hN, MonoS.mono (t := tb) (D := { D with nx := N, ct := N, bk := D.nx }) (D' := { D' with nx := N, ct := N, bk := D'.nx }) ⟨fun _ _ q => q, h.rt, h.nx, fun _ _ q => q⟩ q⟩) (h.nx _ _) q) (st m σ H w)⟩⟩
end
end L2
namespace Cm
open PySem L2
theorem take_succ {α : Type} {xs : List α} {i : Nat} {x : α} (h : xs[i]? = some x) : xs.take (i + 1) = xs.take i ++ [x] := by
  rw [List.take_add_one, h]; rfl
theorem callee {P : Program} {w : World} {K : PySem.W.Frag} {mg : Str → Option Value} {base : Heap} {x : Str} {st : Stmt} {f : Addr} {fd : FuncData} {ps : List Str} {k : Nat} {sp : Sp} (F : Fun K x x st f fd) (hm : mg x = some (.ref f)) (hb : Binds K fd ps []) (G : FnOk P w K mg base CX0 k f fd ps sp) :
    Callee P w K mg base CX0 x ps k sp := ⟨f, fd, G, hm, F.kp, hb⟩
structure At (K : PySem.W.Frag) (x : Str) (st : Stmt) (f : Addr) (fd : FuncData) : Prop where
  ns : PySem.W.nsIn K mainGlobals x = some (some (.ref f))
  fn : Fun K x x st f fd
theorem top_mk {K : PySem.W.Frag} {x : Str} {st : Stmt} {f : Addr} {oc : Value} {od an : Option Addr} {osl : Array (Option Value)} {kV doc pm cdv ct : Value} (a : PySem.W.nsIn K mainGlobals x = some (some (.ref f)))
    (l : K.lookup f = some ⟨oc, od, .func (PySem.W.fnOf x x (defArgs st) (defBody st) (defScope st) .none kV doc pm an cdv ct), osl⟩) (c : PySem.W.codeIn K cdv x = true) (k : PySem.W.keepIn K (.ref f) = true) : ∃ f fd, At K x st f fd := ⟨f, _, a, fun_mk l c k⟩
theorem dp_list {K : PySem.W.Frag} {H : Hp} {a : Addr} {ns : List Int} (h : SqL K H a (ns.map V.int)) : Dp K H (.ref a) (.list (ns.map .int)) := .lst h (dp_ints ns)
end Cm
namespace Cm
open PySem L2
def Each (H : Hp) : List Addr → List (List Int) → Prop
  | [], [] => True
  | a :: r, x :: s => H a = some (.lst (x.map V.int)) ∧ Each H r s
  | _, _ => False
theorem Each.len {H : Hp} : ∀ {rs : List Addr} {xs : List (List Int)}, Each H rs xs → rs.length = xs.length
  | [], [], _ => rfl
  | _ :: _, _ :: _, h => congrArg (· + 1) (Each.len h.2)
  | [], _ :: _, h => h.elim
  | _ :: _, [], h => h.elim
theorem Each.imp {H H' : Hp} : ∀ {rs : List Addr} {xs : List (List Int)}, (∀ a ∈ rs, ∀ o, H a = some o → H' a = some o) → Each H rs xs → Each H' rs xs
  | [], [], _, _ => trivial
  | a :: r, x :: s, k, h => ⟨k a List.mem_cons_self _ h.1, Each.imp (fun b hb => k b (List.mem_cons_of_mem _ hb)) h.2⟩
  | [], _ :: _, _, h => h.elim
  | _ :: _, [], _, h => h.elim
theorem Each.same {H H' : Hp} {rs : List Addr} {xs : List (List Int)} (s : Same H H') (h : Each H rs xs) : Each H' rs xs := h.imp fun a _ o e => s a o e
theorem Each.snoc {H : Hp} {a : Addr} {x : List Int} (ha : H a = some (.lst (x.map V.int))) : ∀ {rs : List Addr} {xs : List (List Int)}, Each H rs xs → Each H (rs ++ [a]) (xs ++ [x])
  | [], [], _ => ⟨ha, trivial⟩
  | _ :: _, _ :: _, h => ⟨h.1, Each.snoc ha h.2⟩
  | [], _ :: _, h => h.elim
  | _ :: _, [], h => h.elim
theorem Each.at {H : Hp} : ∀ {rs : List Addr} {xs : List (List Int)} {i : Nat} {a : Addr}, Each H rs xs → rs[i]? = some a → ∃ x, xs[i]? = some x ∧ H a = some (.lst (x.map V.int))
  | [], _, _, _, _, e => by simp at e
  | b :: r, x :: s, 0, a, h, e => by
    have e' : b = a := by simpa using e
    subst e'
    exact ⟨x, rfl, h.1⟩
  | b :: r, x :: s, i + 1, a, h, e => by
    obtain ⟨y, h1, h2⟩ := Each.at (i := i) h.2 (by simpa using e)
    exact ⟨y, by simpa using h1, h2⟩
  | _ :: _, [], _, _, h, _ => h.elim
theorem Each.mem {H : Hp} {rs : List Addr} {xs : List (List Int)} {a : Addr} (h : Each H rs xs) (ha : a ∈ rs) : ∃ x ∈ xs, H a = some (.lst (x.map V.int)) := by
  obtain ⟨i, hi⟩ := List.getElem?_of_mem ha
  obtain ⟨x, h1, h2⟩ := h.at hi
  exact ⟨x, List.mem_of_getElem? h1, h2⟩
theorem Each.dp {K : PySem.W.Frag} {H : Hp} : ∀ {rs : List Addr} {xs : List (List Int)}, Each H rs xs → DpAll K H (rs.map V.ref) (xs.map fun x => PyData.list (x.map .int))
  | [], [], _ => .nil
  | _ :: _, _ :: _, h => .cons (dp_list (SqL.of h.1)) (Each.dp h.2)
  | [], _ :: _, h => h.elim
  | _ :: _, [], h => h.elim
end Cm
namespace PD
open PySem L2
variable {K : PySem.W.Frag}
theorem Same.seqT {H H' : Hp} {a : Addr} {xs : List V} (e : Same H H') (h : SqT K H a xs) : SqT K H' a xs := by
  rcases h with (h | ⟨o, h⟩) | h
  · exact .inl (.inl (e _ _ h))
  · exact .inl (.inr ⟨o, e _ _ h⟩)
  · exact .inr h
mutual
theorem dp_same {F F' : Hp} (e : Same F F') : ∀ {v : V} {d : PyData}, Dp K F v d → Dp K F' v d
  | _, _, .non => .non
  | _, _, .bl b => .bl b
  | _, _, .int i => .int i
  | _, _, .str x => .str x
  | _, _, .lst h k => .lst (e.seq h) (dpAll_same e k)
  | _, _, .tup h k => .tup (Same.seqT e h) (dpAll_same e k)
theorem dpAll_same {F F' : Hp} (e : Same F F') : ∀ {vs : List V} {ds : List PyData}, DpAll K F vs ds → DpAll K F' vs ds
  | _, _, .nil => .nil
  | _, _, .cons h k => .cons (dp_same e h) (dpAll_same e k)
end
theorem DpAll.length {F : Hp} : ∀ {vs : List V} {ds : List PyData}, DpAll K F vs ds → vs.length = ds.length
  | _, _, .nil => rfl
  | _, _, .cons _ k => congrArg (· + 1) (DpAll.length k)
theorem DpAll.get {F : Hp} : ∀ {vs : List V} {ds : List PyData} {i : Nat} {d : PyData}, DpAll K F vs ds → ds[i]? = some d → ∃ v, vs[i]? = some v ∧ Dp K F v d
  | _, _, _, _, .nil, e => by simp at e
  | _, _, 0, _, .cons h _, e => by simp at e; subst e; exact ⟨_, rfl, h⟩
  | _, _, i + 1, d, .cons _ k, e => by
    obtain ⟨v, h1, h2⟩ := DpAll.get (i := i) k (by simpa using e)
    exact ⟨v, by simpa using h1, h2⟩
theorem DpAll.get' {F : Hp} : ∀ {vs : List V} {ds : List PyData} {i : Nat} {v : V}, DpAll K F vs ds → vs[i]? = some v → ∃ d, ds[i]? = some d ∧ Dp K F v d
  | _, _, _, _, .nil, e => by simp at e
  | _, _, 0, _, .cons h _, e => by simp at e; subst e; exact ⟨_, rfl, h⟩
  | _, _, i + 1, d, .cons _ k, e => by
    obtain ⟨v, h1, h2⟩ := DpAll.get' (i := i) k (by simpa using e)
    exact ⟨v, by simpa using h1, h2⟩
theorem DpAll.append {F : Hp} : ∀ {vs ws : List V} {ds es : List PyData}, DpAll K F vs ds → DpAll K F ws es → DpAll K F (vs ++ ws) (ds ++ es)
  | _, _, _, _, .nil, k => k
  | _, _, _, _, .cons h t, k => .cons h (DpAll.append t k)
theorem DpAll.take {F : Hp} : ∀ {vs : List V} {ds : List PyData} (n : Nat), DpAll K F vs ds → DpAll K F (vs.take n) (ds.take n)
  | _, _, 0, _ => .nil
  | _, _, _ + 1, .nil => .nil
  | _, _, n + 1, .cons h t => .cons h (DpAll.take n t)
theorem DpAll.drop {F : Hp} : ∀ {vs : List V} {ds : List PyData} (n : Nat), DpAll K F vs ds → DpAll K F (vs.drop n) (ds.drop n)
  | _, _, 0, r => r
  | _, _, _ + 1, .nil => .nil
  | _, _, n + 1, .cons _ t => DpAll.drop n t
theorem DpAll.set {F : Hp} {v : V} {d : PyData} (h : Dp K F v d) : ∀ {vs : List V} {ds : List PyData} (n : Nat), DpAll K F vs ds → DpAll K F (vs.set n v) (ds.set n d)
  | _, _, _, .nil => .nil
  | _, _, 0, .cons _ t => .cons h t
  | _, _, n + 1, .cons q t => .cons q (DpAll.set h n t)
theorem DpAll.reverse {F : Hp} : ∀ {vs : List V} {ds : List PyData}, DpAll K F vs ds → DpAll K F vs.reverse ds.reverse
  | _, _, .nil => .nil
  | _, _, .cons h t => by
    rw [List.reverse_cons, List.reverse_cons]
    exact DpAll.append (DpAll.reverse t) (.cons h .nil)
theorem dpAll_ints {F : Hp} (ns : List Int) : DpAll K F (ns.map V.int) (ns.map PyData.int) := dp_ints ns
theorem dpAll_of_ints {F : Hp} : ∀ {vs : List V} {ns : List Int}, DpAll K F vs (ns.map PyData.int) → vs = ns.map V.int
  | _, [], .nil => rfl
  | _, n :: r, .cons h t => by cases h; rw [List.map_cons, dpAll_of_ints t]
theorem dp_int {F : Hp} {v : V} {i : Int} (h : Dp K F v (.int i)) : v = .int i := by cases h; rfl
theorem dp_bl {F : Hp} {v : V} {b : Bool} (h : Dp K F v (.bool b)) : v = .bl b := by cases h; rfl
theorem dp_str {F : Hp} {v : V} {x : Str} (h : Dp K F v (.str x)) : v = .str x := by cases h; rfl
structure Gr (H F H' F' : Hp) : Prop where
  h : Same H H'
  f : Same F F'
  le : Same F' H'
  ap : ∀ a o, H a = some o → F a = none → F' a = none
theorem Gr.refl {H F : Hp} (le : Same F H) : Gr H F H F := ⟨.refl _, .refl _, le, fun _ _ _ h => h⟩
theorem Gr.trans {H F H1 F1 H2 F2 : Hp} (a : Gr H F H1 F1) (b : Gr H1 F1 H2 F2) : Gr H F H2 F2 := ⟨a.h.trans b.h, a.f.trans b.f, b.le, fun c o q n => b.ap c o (a.h _ _ q) (a.ap c o q n)⟩
theorem Gr.new {H F : Hp} {p : Addr} (le : Same F H) (hp : H p = none) (o : HO) : Gr H F (upd H p o) (upd F p o) := by
  have fp : F p = none := le.free hp
  refine ⟨Same.new hp o, Same.new fp o, fun b u q => ?_, fun b u q n => ?_⟩
  · by_cases e : b = p
    · subst e; rw [upd_same] at q ⊢; exact q
    · rw [upd_ne e] at q ⊢; exact le _ _ q
  · rw [upd_ne (ne_of_none q hp)]; exact n
theorem Gr.newO {H F : Hp} {p : Addr} (le : Same F H) (hp : H p = none) (o : HO) : Gr H F (upd H p o) F := ⟨Same.new hp o, .refl _, fun b u q => by rw [upd_ne (ne_of_none (le _ _ q) hp)]; exact le _ _ q, fun _ _ _ n => n⟩
inductive Sx where
  | fresh | spoil (T : Addr → Prop)
def Sx.has (S : Sx) (H0 : Hp) (a : Addr) : Prop := match S with | .fresh => H0 a ≠ none | .spoil T => H0 a ≠ none ∨ T a
def LN (K : PySem.W.Frag) (κ : Bool) (S : Sx) (H0 F : Hp) (a : Addr) (xs : List V) : Prop := match κ with
  | true => F a = some (.lst xs) ∧ ¬ S.has H0 a
  | false => SqL K F a xs
theorem LN.sq {κ : Bool} {S : Sx} {H0 F : Hp} {a : Addr} {xs : List V} (h : LN K κ S H0 F a xs) : SqL K F a xs := by
  cases κ with
  | true => exact SqL.of h.1
  | false => exact h
theorem LN.mono {κ : Bool} {S : Sx} {H0 F F' : Hp} {a : Addr} {xs : List V} (h : LN K κ S H0 F a xs) (e : Same F F') : LN K κ S H0 F' a xs := by
  cases κ with
  | true => exact ⟨e _ _ h.1, h.2⟩
  | false => exact e.seq h
theorem LN.new {κ : Bool} {S : Sx} {H0 F : Hp} {a : Addr} {xs : List V} (h : ¬ S.has H0 a) : LN K κ S H0 (upd F a (.lst xs)) a xs := by
  cases κ with
  | true => exact ⟨upd_same, h⟩
  | false => exact SqL.of upd_same
mutual
inductive Rp (K : PySem.W.Frag) (κ : Bool) (S : Sx) (H0 F : Hp) : V → PyData → Prop
  | non : Rp K κ S H0 F .non .none
  | bl (b : Bool) : Rp K κ S H0 F (.bl b) (.bool b)
  | int (i : Int) : Rp K κ S H0 F (.int i) (.int i)
  | str (x : Str) : Rp K κ S H0 F (.str x) (.str x)
  | lst {a : Addr} {xs : List V} {ds : List PyData} : LN K κ S H0 F a xs → RpAll K κ S H0 F xs ds → Rp K κ S H0 F (.ref a) (.list ds)
  | tup {a : Addr} {xs : List V} {ds : List PyData} : SqT K F a xs → RpAll K κ S H0 F xs ds → Rp K κ S H0 F (.ref a) (.tuple ds)
inductive RpAll (K : PySem.W.Frag) (κ : Bool) (S : Sx) (H0 F : Hp) : List V → List PyData → Prop
  | nil : RpAll K κ S H0 F [] []
  | cons {v : V} {vs : List V} {d : PyData} {ds : List PyData} : Rp K κ S H0 F v d → RpAll K κ S H0 F vs ds → RpAll K κ S H0 F (v :: vs) (d :: ds)
end
section
variable {κ κ' : Bool} {S S' : Sx} {H0 H0' F F' : Hp}
mutual
theorem rp_map (hl : ∀ a xs, LN K κ S H0 F a xs → LN K κ' S' H0' F' a xs) (ht : ∀ a xs, SqT K F a xs → SqT K F' a xs) : ∀ {v : V} {d : PyData}, Rp K κ S H0 F v d → Rp K κ' S' H0' F' v d
  | _, _, .non => .non
  | _, _, .bl b => .bl b
  | _, _, .int i => .int i
  | _, _, .str x => .str x
  | _, _, .lst h k => .lst (hl _ _ h) (rpAll_map hl ht k)
  | _, _, .tup h k => .tup (ht _ _ h) (rpAll_map hl ht k)
theorem rpAll_map (hl : ∀ a xs, LN K κ S H0 F a xs → LN K κ' S' H0' F' a xs) (ht : ∀ a xs, SqT K F a xs → SqT K F' a xs) : ∀ {vs : List V} {ds : List PyData}, RpAll K κ S H0 F vs ds → RpAll K κ' S' H0' F' vs ds
  | _, _, .nil => .nil
  | _, _, .cons h k => .cons (rp_map hl ht h) (rpAll_map hl ht k)
end
theorem rp_mono (e : Same F F') {v : V} {d : PyData} (h : Rp K κ S H0 F v d) : Rp K κ S H0 F' v d := rp_map (fun _ _ z => z.mono e) (fun _ _ z => Same.seqT e z) h
theorem rpAll_mono (e : Same F F') {vs : List V} {ds : List PyData} (h : RpAll K κ S H0 F vs ds) : RpAll K κ S H0 F' vs ds := rpAll_map (fun _ _ z => z.mono e) (fun _ _ z => Same.seqT e z) h
mutual
theorem rp_dp : ∀ {v : V} {d : PyData}, Rp K κ S H0 F v d → Dp K F v d
  | _, _, .non => .non
  | _, _, .bl b => .bl b
  | _, _, .int i => .int i
  | _, _, .str x => .str x
  | _, _, .lst h k => .lst h.sq (rpAll_dp k)
  | _, _, .tup h k => .tup h (rpAll_dp k)
theorem rpAll_dp : ∀ {vs : List V} {ds : List PyData}, RpAll K κ S H0 F vs ds → DpAll K F vs ds
  | _, _, .nil => .nil
  | _, _, .cons h k => .cons (rp_dp h) (rpAll_dp k)
end
mutual
theorem dp_rp : ∀ {v : V} {d : PyData}, Dp K F v d → Rp K false S H0 F v d
  | _, _, .non => .non
  | _, _, .bl b => .bl b
  | _, _, .int i => .int i
  | _, _, .str x => .str x
  | _, _, .lst h k => .lst h (dpAll_rp k)
  | _, _, .tup h k => .tup h (dpAll_rp k)
theorem dpAll_rp : ∀ {vs : List V} {ds : List PyData}, DpAll K F vs ds → RpAll K false S H0 F vs ds
  | _, _, .nil => .nil
  | _, _, .cons h k => .cons (dp_rp h) (dpAll_rp k)
end
theorem rp_weak (hk : κ' = true → κ = true) {v : V} {d : PyData} (h : Rp K κ S H0 F v d) : Rp K κ' S H0 F v d := by
  cases κ' with
  | false => exact dp_rp (rp_dp h)
  | true => rw [hk rfl] at h; exact h
theorem RpAll.length {vs : List V} {ds : List PyData} (h : RpAll K κ S H0 F vs ds) : vs.length = ds.length := DpAll.length (rpAll_dp h)
theorem RpAll.get : ∀ {vs : List V} {ds : List PyData} {i : Nat} {d : PyData}, RpAll K κ S H0 F vs ds → ds[i]? = some d → ∃ v, vs[i]? = some v ∧ Rp K κ S H0 F v d
  | _, _, _, _, .nil, e => by simp at e
  | _, _, 0, _, .cons h _, e => by simp at e; subst e; exact ⟨_, rfl, h⟩
  | _, _, i + 1, d, .cons _ k, e => by
    obtain ⟨v, h1, h2⟩ := RpAll.get (i := i) k (by simpa using e)
    exact ⟨v, by simpa using h1, h2⟩
theorem RpAll.get' : ∀ {vs : List V} {ds : List PyData} {i : Nat} {v : V}, RpAll K κ S H0 F vs ds → vs[i]? = some v → ∃ d, ds[i]? = some d ∧ Rp K κ S H0 F v d
  | _, _, _, _, .nil, e => by simp at e
  | _, _, 0, _, .cons h _, e => by simp at e; subst e; exact ⟨_, rfl, h⟩
  | _, _, i + 1, d, .cons _ k, e => by
    obtain ⟨v, h1, h2⟩ := RpAll.get' (i := i) k (by simpa using e)
    exact ⟨v, by simpa using h1, h2⟩
theorem RpAll.append : ∀ {vs ws : List V} {ds es : List PyData}, RpAll K κ S H0 F vs ds → RpAll K κ S H0 F ws es → RpAll K κ S H0 F (vs ++ ws) (ds ++ es)
  | _, _, _, _, .nil, k => k
  | _, _, _, _, .cons h t, k => .cons h (RpAll.append t k)
theorem RpAll.take : ∀ {vs : List V} {ds : List PyData} (n : Nat), RpAll K κ S H0 F vs ds → RpAll K κ S H0 F (vs.take n) (ds.take n)
  | _, _, 0, _ => .nil
  | _, _, _ + 1, .nil => .nil
  | _, _, n + 1, .cons h t => .cons h (RpAll.take n t)
theorem RpAll.drop : ∀ {vs : List V} {ds : List PyData} (n : Nat), RpAll K κ S H0 F vs ds → RpAll K κ S H0 F (vs.drop n) (ds.drop n)
  | _, _, 0, r => r
  | _, _, _ + 1, .nil => .nil
  | _, _, n + 1, .cons _ t => RpAll.drop n t
theorem RpAll.set {v : V} {d : PyData} (h : Rp K κ S H0 F v d) : ∀ {vs : List V} {ds : List PyData} (n : Nat), RpAll K κ S H0 F vs ds → RpAll K κ S H0 F (vs.set n v) (ds.set n d)
  | _, _, _, .nil => .nil
  | _, _, 0, .cons _ t => .cons h t
  | _, _, n + 1, .cons q t => .cons q (RpAll.set h n t)
theorem RpAll.reverse : ∀ {vs : List V} {ds : List PyData}, RpAll K κ S H0 F vs ds → RpAll K κ S H0 F vs.reverse ds.reverse
  | _, _, .nil => .nil
  | _, _, .cons h t => by
    rw [List.reverse_cons, List.reverse_cons]
    exact RpAll.append (RpAll.reverse t) (.cons h .nil)
theorem RpAll.rep {vs : List V} {ds : List PyData} (h : RpAll K κ S H0 F vs ds) : ∀ n : Nat, RpAll K κ S H0 F (List.replicate n vs).flatten (List.replicate n ds).flatten
  | 0 => .nil
  | n + 1 => by
    rw [List.replicate_succ, List.replicate_succ, List.flatten_cons, List.flatten_cons]
    exact RpAll.append h (RpAll.rep h n)
theorem rp_int {v : V} {i : Int} (h : Rp K κ S H0 F v (.int i)) : v = .int i := by cases h; rfl
theorem rp_bl {v : V} {b : Bool} (h : Rp K κ S H0 F v (.bool b)) : v = .bl b := by cases h; rfl
theorem rp_lst {v : V} {ds : List PyData} (h : Rp K κ S H0 F v (.list ds)) : ∃ a vs, v = .ref a ∧ LN K κ S H0 F a vs ∧ RpAll K κ S H0 F vs ds := by cases h with | lst h k => exact ⟨_, _, rfl, h, k⟩
theorem rp_tup {v : V} {ds : List PyData} (h : Rp K κ S H0 F v (.tuple ds)) : ∃ a vs, v = .ref a ∧ SqT K F a vs ∧ RpAll K κ S H0 F vs ds := by cases h with | tup h k => exact ⟨_, _, rfl, h, k⟩
end
def imm : PyData → Bool
  | .none => true
  | .bool _ => true
  | .int _ => true
  | .str _ => true
  | .tuple ds => immAll ds
  | _ => false
where immAll : List PyData → Bool
  | [] => true
  | d :: r => imm d && immAll r
mutual
theorem dp_imm {κ : Bool} {S : Sx} {H0 F : Hp} : ∀ {v : V} {d : PyData}, imm d = true → Dp K F v d → Rp K κ S H0 F v d
  | _, _, _, .non => .non
  | _, _, _, .bl b => .bl b
  | _, _, _, .int i => .int i
  | _, _, _, .str x => .str x
  | _, _, h, .lst _ _ => by unfold imm at h; cases h
  | _, _, h, .tup q k => .tup q (dpAll_imm (by unfold imm at h; exact h) k)
theorem dpAll_imm {κ : Bool} {S : Sx} {H0 F : Hp} : ∀ {vs : List V} {ds : List PyData}, imm.immAll ds = true → DpAll K F vs ds → RpAll K κ S H0 F vs ds
  | _, _, _, .nil => .nil
  | _, _, h, .cons p k => by
    unfold imm.immAll at h
    rw [Bool.and_eq_true] at h
    exact .cons (dp_imm h.1 p) (dpAll_imm h.2 k)
end
theorem dpAll_immL {κ : Bool} {S : Sx} {H0 F : Hp} {vs : List V} {ds : List PyData} (h : ∀ d ∈ ds, imm d = true) (k : DpAll K F vs ds) : RpAll K κ S H0 F vs ds := by
  refine dpAll_imm ?_ k
  clear k
  induction ds with
  | nil => rfl
  | cons d r ih =>
    unfold imm.immAll
    rw [h d List.mem_cons_self, ih fun x hx => h x (List.mem_cons_of_mem _ hx)]
    rfl
inductive DV where
  | fz (κ : Bool) (d : PyData) | ow (κ : Bool) (ds : List PyData) | tn (d : PyData) | ox | o2 (r : Option Addr) (dss : List (List PyData)) | fn (a : Addr) | xn (o : Addr → HO) | oa (a : Addr) (κ : Bool) (ds : List PyData) | xp (φ : Hp → V → Prop) | od (o : HO) | og (ad : Hp → V → Addr → Prop) (ψ : Sx → Hp → Hp → Hp → V → Prop)
abbrev Ctx := List (Option DV)
structure OwnO (S : Sx) (H0 H F : Hp) (a : Addr) (o : HO) : Prop where
  h : H a = some o
  f : F a = none
  n : H0 a = none
  s : ¬ S.has H0 a
abbrev OwnAt (S : Sx) (H0 H F : Hp) (a : Addr) (vs : List V) : Prop := OwnO S H0 H F a (.lst vs)
structure IdA (r : Option Addr) (v : V) (a : Addr) : Prop where
  eq : v = .ref a
  id : ∀ b, r = some b → a = b
structure GOk (ad : Hp → V → Addr → Prop) (ψ : Sx → Hp → Hp → Hp → V → Prop) : Prop where
  pl : ∀ H H' v, (∀ a, ad H v a → H' a = H a) → ∀ a, ad H' v a ↔ ad H v a
  ps : ∀ S H0 H H' F F' v, (∀ a, ad H v a → H' a = H a) → Same F F' → ψ S H0 H F v → ψ S H0 H' F' v
def HasV (K : PySem.W.Frag) (S : Sx) (H0 H F : Hp) (v : V) : DV → Prop
  | .fz κ d => Rp K κ S H0 F v d
  | .ow κ ds => ∃ a vs, v = .ref a ∧ OwnAt S H0 H F a vs ∧ RpAll K κ S H0 F vs ds
  | .tn d => ∃ T, S = .spoil T ∧ Rp K true (.spoil fun a => ¬ T a) (fun _ => none) F v d
  | .ox => ∃ a vs, v = .ref a ∧ OwnAt S H0 H F a vs
  | .fn a => v = .ref a
  | .xn o => ∃ a, v = .ref a ∧ F a = some (o a)
  | .oa a κ ds => v = .ref a ∧ ∃ vs, OwnAt S H0 H F a vs ∧ RpAll K κ S H0 F vs ds
  | .xp φ => ∃ F1, Same F1 F ∧ φ F1 v
  | .od o => ∃ a, v = .ref a ∧ OwnO S H0 H F a o
  | .og ad ψ => GOk ad ψ ∧ (∀ a, ad H v a → ∃ o, OwnO S H0 H F a o) ∧ ψ S H0 H F v
  | .o2 r dss => ∃ a vs, IdA r v a ∧ OwnAt S H0 H F a vs ∧ V.ref a ∉ vs ∧ vs.Nodup ∧ vs.length = dss.length ∧ ∀ (j : Nat) x, vs[j]? = some x → ∃ b us ds, x = .ref b ∧ OwnAt S H0 H F b us ∧ dss[j]? = some ds ∧ RpAll K true S H0 F us ds
def DV.own : DV → Bool
  | .ow _ _ => true
  | .ox => true
  | .o2 _ _ => true
  | .oa _ _ _ => true
  | .od _ => true
  | .og _ _ => true
  | _ => false
def Owns (H : Hp) (v : V) : DV → Addr → Prop
  | .ow _ _, a => v = .ref a
  | .ox, a => v = .ref a
  | .oa _ _ _, a => v = .ref a
  | .od _, a => v = .ref a
  | .og ad _, a => ad H v a
  | .o2 _ _, a => v = .ref a ∨ ∃ p vs, v = .ref p ∧ H p = some (.lst vs) ∧ V.ref a ∈ vs
  | _, _ => False
structure DEnv (K : PySem.W.Frag) (S : Sx) (H0 F0 H F : Hp) (σ : St) (Γ : Ctx) : Prop where
  gr : Gr H0 F0 H F
  l0 : Same F0 H0
  sd : ∀ a, S.has H0 a → ∃ o, H a = some o
  s0 : ∀ T, S = .spoil T → ∀ a, T a → H0 a = none
  len : σ.length = Γ.length
  has : ∀ (i : Nat) (x : DV), Γ[i]? = some (some x) → ∃ v, σ[i]? = some (some v) ∧ HasV K S H0 H F v x
  ne : ∀ (i j : Nat) (x y : DV) (v w : V) (a : Addr), Γ[i]? = some (some x) → Γ[j]? = some (some y) → σ[i]? = some (some v) → σ[j]? = some (some w) → Owns H v x a → Owns H w y a → i = j
variable {S : Sx} {κ : Bool}
theorem DEnv.le {H0 F0 H F : Hp} {σ : St} {Γ : Ctx} (e : DEnv K S H0 F0 H F σ Γ) : Same F H := e.gr.le
theorem DEnv.out {H0 F0 H F : Hp} {σ : St} {Γ : Ctx} (e : DEnv K S H0 F0 H F σ Γ) {p : Addr} (hp : H p = none) : ¬ S.has H0 p := fun c => by
  obtain ⟨o, q⟩ := e.sd p c
  rw [hp] at q; cases q
theorem OwnO.mono {H0 H F H' F' : Hp} {a : Addr} {u : HO} (o : OwnO S H0 H F a u) (g : Gr H F H' F') : OwnO S H0 H' F' a u := ⟨g.h _ _ o.h, g.ap _ _ o.h o.f, o.n, o.s⟩
theorem HasV.mono {H0 H F H' F' : Hp} {v : V} {x : DV} (h : HasV K S H0 H F v x) (g : Gr H F H' F') : HasV K S H0 H' F' v x := by
  cases x with
  | fz κ d => exact rp_mono g.f h
  | ow κ ds => obtain ⟨a, vs, e, o, k⟩ := h; exact ⟨a, vs, e, o.mono g, rpAll_mono g.f k⟩
  | tn d => obtain ⟨T, e, k⟩ := h; exact ⟨T, e, rp_mono g.f k⟩
  | ox => obtain ⟨a, vs, e, o⟩ := h; exact ⟨a, vs, e, o.mono g⟩
  | o2 r dss =>
    obtain ⟨a, vs, e, o, n1, n2, l, k⟩ := h
    refine ⟨a, vs, e, o.mono g, n1, n2, l, fun j x hx => ?_⟩
    obtain ⟨b, us, ds, e2, o2, h2, k2⟩ := k j x hx
    exact ⟨b, us, ds, e2, o2.mono g, h2, rpAll_mono g.f k2⟩
  | fn a => exact h
  | xn φ => obtain ⟨a, e, k⟩ := h; exact ⟨a, e, g.f _ _ k⟩
  | oa a κ ds => obtain ⟨e, vs, o, k⟩ := h; exact ⟨e, vs, o.mono g, rpAll_mono g.f k⟩
  | xp φ => obtain ⟨F1, s, k⟩ := h; exact ⟨F1, s.trans g.f, k⟩
  | od u => obtain ⟨a, e, o⟩ := h; exact ⟨a, e, o.mono g⟩
  | og ad ψ =>
    obtain ⟨ok, w, p⟩ := h
    have eq : ∀ a, ad H v a → H' a = H a := fun a z => by
      obtain ⟨o, y⟩ := w a z
      rw [y.h]
      exact g.h _ _ y.h
    refine ⟨ok, fun a z => ?_, ok.ps S H0 H H' F F' v eq g.f p⟩
    obtain ⟨o, y⟩ := w a ((ok.pl H H' v eq a).mp z)
    exact ⟨o, y.mono g⟩
theorem HasV.owns {H0 H F : Hp} {v : V} {x : DV} {a : Addr} (h : HasV K S H0 H F v x) (o : Owns H v x a) : ∃ u, OwnO S H0 H F a u := by
  cases x with
  | fz _ _ => exact o.elim
  | tn _ => exact o.elim
  | ow κ ds => obtain ⟨b, vs, e, w, _⟩ := h; cases (show v = .ref a from o); cases e; exact ⟨_, w⟩
  | ox => obtain ⟨b, vs, e, w⟩ := h; cases (show v = .ref a from o); cases e; exact ⟨_, w⟩
  | o2 r dss =>
    obtain ⟨b, vs, e, w, _, _, _, k⟩ := h
    rcases o with o | ⟨p, us, e2, hp, hm⟩
    · cases o; cases e.eq; exact ⟨_, w⟩
    · cases e.eq
      cases e2
      have hw := w.h
      rw [hp] at hw
      cases hw
      obtain ⟨j, hj⟩ := List.mem_iff_getElem?.mp hm
      obtain ⟨c, ws, ds, e3, o3, _⟩ := k j _ hj
      cases e3
      exact ⟨_, o3⟩
  | fn _ => exact o.elim
  | xn _ => exact o.elim
  | oa b κ ds => obtain ⟨e, vs, w, _⟩ := h; cases (show v = .ref a from o); cases e; exact ⟨_, w⟩
  | xp _ => exact o.elim
  | od u => obtain ⟨b, e, w⟩ := h; cases (show v = .ref a from o); cases e; exact ⟨u, w⟩
  | og ad ψ => exact h.2.1 a o
theorem Owns.back {H0 H F H' : Hp} {v : V} {x : DV} {a : Addr} (h : HasV K S H0 H F v x) (g : ∀ b u, OwnO S H0 H F b u → H' b = some u) (o : Owns H' v x a) : Owns H v x a := by
  cases x with
  | fz _ _ => exact o.elim
  | tn _ => exact o.elim
  | ow κ ds => exact o
  | ox => exact o
  | o2 r dss =>
    rcases o with o | ⟨p, us, e2, hp, hm⟩
    · exact .inl o
    · obtain ⟨b, vs, e', w, _⟩ := h
      have e := e'.eq
      rw [e2] at e
      cases e
      rw [g _ _ w] at hp
      cases hp
      exact .inr ⟨p, _, e2, w.h, hm⟩
  | fn _ => exact o.elim
  | xn _ => exact o.elim
  | oa b κ ds => exact o
  | xp _ => exact o.elim
  | od _ => exact o
  | og ad ψ =>
    obtain ⟨ok, w, p⟩ := h
    exact (ok.pl H H' v (fun b z => by
      obtain ⟨u, y⟩ := w b z
      rw [g _ _ y, y.h]) a).mp o
theorem DEnv.mono {H0 F0 H F H' F' : Hp} {σ : St} {Γ : Ctx} (e : DEnv K S H0 F0 H F σ Γ) (g : Gr H F H' F') : DEnv K S H0 F0 H' F' σ Γ where
  gr := e.gr.trans g
  l0 := e.l0
  sd := fun a h => let ⟨o, q⟩ := e.sd a h; ⟨o, g.h _ _ q⟩
  s0 := e.s0
  len := e.len
  has := fun i x h => let ⟨v, a, b⟩ := e.has i x h; ⟨v, a, b.mono g⟩
  ne := fun i j x y v w a h1 h2 h3 h4 o1 o2 => by
    obtain ⟨v', q1, q2⟩ := e.has i x h1
    obtain ⟨w', q3, q4⟩ := e.has j y h2
    rw [h3] at q1
    cases q1
    rw [h4] at q3
    cases q3
    exact e.ne i j x y v w a h1 h2 h3 h4 (o1.back q2 fun _ _ z => g.h _ _ z.h) (o2.back q4 fun _ _ z => g.h _ _ z.h)
section
variable {Γ : Ctx}
def EvE (K : PySem.W.Frag) (S : Sx) (κ : Bool) (t : TE) (Γ : Ctx) (d : PyData) : Prop := ∀ (H0 F0 H F : Hp) (σ : St), DEnv K S H0 F0 H F σ Γ → ∀ Q : VK, (∀ v H' F', Gr H F H' F' → Rp K κ S H0 F' v d → Q v H') → t σ H Q
def EvO (K : PySem.W.Frag) (S : Sx) (κ : Bool) (t : TE) (Γ : Ctx) (ds : List PyData) : Prop := ∀ (H0 F0 H F : Hp) (σ : St), DEnv K S H0 F0 H F σ Γ → ∀ Q : VK, (∀ a vs H' F', Gr H F H' F' → H a = none → H' a = some (.lst vs) → F' a = none → RpAll K κ S H0 F' vs ds → Q (.ref a) H') → t σ H Q
def EvL (K : PySem.W.Frag) (S : Sx) (κ : Bool) (t : TE) (Γ : Ctx) (ds : List PyData) : Prop := ∀ (H0 F0 H F : Hp) (σ : St), DEnv K S H0 F0 H F σ Γ → ∀ Q : VK, (∀ a vs H' F', Gr H F H' F' → SqL K H' a vs → RpAll K κ S H0 F' vs ds → Q (.ref a) H') → t σ H Q
def EvD (K : PySem.W.Frag) (S : Sx) (t : TE) (Γ : Ctx) (d : PyData) : Prop := ∀ (H0 F0 H F : Hp) (σ : St), DEnv K S H0 F0 H F σ Γ → ∀ Q : VK, (∀ v H' F', Gr H F H' F' → Dp K H' v d → Q v H') → t σ H Q
def EvT (K : PySem.W.Frag) (S : Sx) (t : TT) (Γ : Ctx) (b : Bool) : Prop := ∀ (H0 F0 H F : Hp) (σ : St), DEnv K S H0 F0 H F σ Γ → ∀ Q : Bool → Hp → Prop, (∀ H' F', Gr H F H' F' → Q b H') → t σ H Q
def EvA (K : PySem.W.Frag) (S : Sx) (κ : Bool) (t : TA) (Γ : Ctx) (ds : List PyData) : Prop := ∀ (H0 F0 H F : Hp) (σ : St), DEnv K S H0 F0 H F σ Γ → ∀ Q : List V → Hp → Prop, (∀ vs H' F', Gr H F H' F' → RpAll K κ S H0 F' vs ds → Q vs H') → t σ H Q
def EvP (K : PySem.W.Frag) (S : Sx) (t : TO) (Γ : Ctx) (o : Option Int) : Prop := ∀ (H0 F0 H F : Hp) (σ : St), DEnv K S H0 F0 H F σ Γ → ∀ Q : Option Int → Hp → Prop, (∀ H' F', Gr H F H' F' → Q o H') → t σ H Q
theorem EvE.toD {t : TE} {d : PyData} (h : EvE K S κ t Γ d) : EvD K S t Γ d := fun H0 F0 H F σ e Q q => h H0 F0 H F σ e Q fun v H' F' g p => q v H' F' g (dp_same g.le (rp_dp p))
theorem EvE.weak {κ' : Bool} {t : TE} {d : PyData} (h : EvE K S κ t Γ d) (hk : κ' = true → κ = true) : EvE K S κ' t Γ d := fun H0 F0 H F σ e Q q => h H0 F0 H F σ e Q fun v H' F' g p => q v H' F' g (rp_weak hk p)
theorem EvE.imm {κ' : Bool} {t : TE} {d : PyData} (h : EvE K S κ t Γ d) (hk : imm d = true) : EvE K S κ' t Γ d := fun H0 F0 H F σ e Q q => h H0 F0 H F σ e Q fun v H' F' g p => q v H' F' g (dp_imm hk (rp_dp p))
theorem EvE.toL {t : TE} {ds : List PyData} (h : EvE K S κ t Γ (.list ds)) : EvL K S κ t Γ ds := fun H0 F0 H F σ e Q q => h H0 F0 H F σ e Q fun v H' F' g p => by
  obtain ⟨a, vs, rfl, h1, h2⟩ := rp_lst p
  exact q a vs H' F' g (g.le.seq h1.sq) h2
theorem EvL.imm {κ' : Bool} {t : TE} {ds : List PyData} (h : EvL K S κ t Γ ds) (hk : ∀ d ∈ ds, imm d = true) : EvL K S κ' t Γ ds := fun H0 F0 H F σ e Q q => h H0 F0 H F σ e Q fun a vs H' F' g p k => q a vs H' F' g p (dpAll_immL hk (rpAll_dp k))
theorem EvO.toL {t : TE} {ds : List PyData} (h : EvO K S κ t Γ ds) : EvL K S κ t Γ ds := fun H0 F0 H F σ e Q q => h H0 F0 H F σ e Q fun a vs H' F' g _ p _ k => q a vs H' F' g (SqL.of p) k
theorem EvO.toE {t : TE} {ds : List PyData} (h : EvO K S κ t Γ ds) : EvE K S κ t Γ (.list ds) := fun H0 F0 H F σ e Q q => h H0 F0 H F σ e Q fun a vs H' F' g n p f k => by
  have s : Same F' (upd F' a (.lst vs)) := Same.new f _
  refine q (.ref a) H' (upd F' a (.lst vs)) ⟨g.h, g.f.trans s, fun b u z => ?_, fun b u z y => ?_⟩ (.lst (LN.new (e.out n)) (rpAll_mono s k))
  · by_cases eb : b = a
    · subst eb; rw [upd_same] at z; rw [← z]; exact p
    · rw [upd_ne eb] at z; exact g.le _ _ z
  · rw [upd_ne (ne_of_none z n)]; exact g.ap _ _ z y
theorem EvL.toD {t : TE} {ds : List PyData} (h : EvL K S κ t Γ ds) : EvD K S t Γ (.list ds) := fun H0 F0 H F σ e Q q => h H0 F0 H F σ e Q fun a vs H' F' g p k => q _ H' F' g (.lst p (dpAll_same g.le (rpAll_dp k)))
theorem evl_own {i : Nat} {ds : List PyData} (h : Γ[i]? = some (some (.ow κ ds))) : EvL K S κ (tVar i) Γ ds := fun H0 F0 H F σ e Q q => by
  obtain ⟨v, h1, a, vs, rfl, o, k⟩ := e.has i _ h
  exact ⟨_, h1, q a vs H F (.refl e.le) (SqL.of o.h) k⟩
theorem ev_var {i : Nat} {d : PyData} (h : Γ[i]? = some (some (.fz κ d))) : EvE K S κ (tVar i) Γ d := fun H0 F0 H F σ e Q q => by
  obtain ⟨v, hv, hd⟩ := e.has i _ h
  exact ⟨v, hv, q v H F (.refl e.le) hd⟩
theorem ev_tnt {i : Nat} {d : PyData} (h : Γ[i]? = some (some (.tn d))) : EvE K S false (tVar i) Γ d := fun H0 F0 H F σ e Q q => by
  obtain ⟨v, hv, T, _, hd⟩ := e.has i _ h
  exact ⟨v, hv, q v H F (.refl e.le) (dp_rp (rp_dp hd))⟩
theorem ev_int {i : Int} : EvE K S κ (tC (.int i)) Γ (.int i) := fun _ _ H F _ e _ q => q _ H F (.refl e.le) (.int i)
theorem ev_bl {b : Bool} : EvE K S κ (tC (.bl b)) Γ (.bool b) := fun _ _ H F _ e _ q => q _ H F (.refl e.le) (.bl b)
theorem ev_non : EvE K S κ (tC .non) Γ .none := fun _ _ H F _ e _ q => q _ H F (.refl e.le) .non
theorem ev_str {x : Str} : EvE K S κ (tC (.str x)) Γ (.str x) := fun _ _ H F _ e _ q => q _ H F (.refl e.le) (.str x)
theorem ev_op {r : R2} {ta tb : TE} {x y d : PyData} (ha : EvE K S false ta Γ x) (hb : EvE K S false tb Γ y) (hr : ∀ v w H F (Q : VK), Same F H → Dp K F v x → Dp K F w y → (∀ z, (∀ F, Dp K F z d) → Q z H) → r v w H Q) (hi : imm d = true := by rfl) : EvE K S κ (tOp r ta tb) Γ d := fun H0 F0 H F σ e Q q =>
  ha H0 F0 H F σ e _ fun v H1 F1 g1 p1 => hb H0 F0 H1 F1 σ (e.mono g1) _ fun w H2 F2 g2 p2 => by
    exact hr v w H2 F2 Q g2.le (dp_same g2.f (rp_dp p1)) (rp_dp p2) fun z p3 => q z H2 F2 (g1.trans g2) (dp_imm hi (p3 F2))
theorem ev_I0 {g : Int → Int → V} {ta tb : TE} {i j : Int} {d : PyData} (hi : imm d = true) (hg : ∀ F, Dp K F (g i j) d) (ha : EvE K S false ta Γ (.int i)) (hb : EvE K S false tb Γ (.int j)) : EvE K S κ (tOp (rI0 g) ta tb) Γ d :=
  ev_op ha hb (fun v w H F Q le p1 p2 k => by cases dp_int p1; cases dp_int p2; exact ⟨i, j, rfl, rfl, k _ hg⟩) hi
theorem ev_I {C : Int → Int → Prop} {g : Int → Int → V} {ta tb : TE} {i j : Int} {d : PyData} (hi : imm d = true) (hg : ∀ F, Dp K F (g i j) d) (ha : EvE K S false ta Γ (.int i)) (hb : EvE K S false tb Γ (.int j)) (hc : C i j) : EvE K S κ (tOp (rI C g) ta tb) Γ d :=
  ev_op ha hb (fun v w H F Q le p1 p2 k => by cases dp_int p1; cases dp_int p2; exact ⟨i, j, rfl, rfl, hc, k _ hg⟩) hi
theorem ev_add {ta tb : TE} {i j : Int} (ha : EvE K S false ta Γ (.int i)) (hb : EvE K S false tb Γ (.int j)) : EvE K S κ (tOp (rI0 fun i j => .int (i + j)) ta tb) Γ (.int (i + j)) := ev_I0 rfl (fun _ => .int _) ha hb
theorem ev_sub {ta tb : TE} {i j : Int} (ha : EvE K S false ta Γ (.int i)) (hb : EvE K S false tb Γ (.int j)) : EvE K S κ (tOp (rI0 fun i j => .int (i - j)) ta tb) Γ (.int (i - j)) := ev_I0 rfl (fun _ => .int _) ha hb
theorem ev_lt {ta tb : TE} {i j : Int} (ha : EvE K S false ta Γ (.int i)) (hb : EvE K S false tb Γ (.int j)) : EvE K S κ (tOp (rI0 fun i j => .bl (decide (i < j))) ta tb) Γ (.bool (decide (i < j))) := ev_I0 rfl (fun _ => .bl _) ha hb
theorem ev_le {ta tb : TE} {i j : Int} (ha : EvE K S false ta Γ (.int i)) (hb : EvE K S false tb Γ (.int j)) : EvE K S κ (tOp (rI0 fun i j => .bl (decide (i ≤ j))) ta tb) Γ (.bool (decide (i ≤ j))) := ev_I0 rfl (fun _ => .bl _) ha hb
theorem ev_gt {ta tb : TE} {i j : Int} (ha : EvE K S false ta Γ (.int i)) (hb : EvE K S false tb Γ (.int j)) : EvE K S κ (tOp (rI0 fun i j => .bl (decide (j < i))) ta tb) Γ (.bool (decide (j < i))) := ev_I0 rfl (fun _ => .bl _) ha hb
theorem ev_ge {ta tb : TE} {i j : Int} (ha : EvE K S false ta Γ (.int i)) (hb : EvE K S false tb Γ (.int j)) : EvE K S κ (tOp (rI0 fun i j => .bl (decide (j ≤ i))) ta tb) Γ (.bool (decide (j ≤ i))) := ev_I0 rfl (fun _ => .bl _) ha hb
theorem ev_mul {ta tb : TE} {i j : Int} (ha : EvE K S false ta Γ (.int i)) (hb : EvE K S false tb Γ (.int j)) (hc : IntMulOk i j) : EvE K S κ (tOp (rI IntMulOk fun i j => .int (i * j)) ta tb) Γ (.int (i * j)) := ev_I rfl (fun _ => .int _) ha hb hc
theorem ev_fdiv {ta tb : TE} {i j : Int} (ha : EvE K S false ta Γ (.int i)) (hb : EvE K S false tb Γ (.int j)) (hc : CDiv i j) : EvE K S κ (tOp (rI CDiv fun i j => .int (i / j)) ta tb) Γ (.int (i / j)) := ev_I rfl (fun _ => .int _) ha hb hc
theorem ev_fdivB {ta tb : TE} {i j : Int} (ha : EvE K S false ta Γ (.int i)) (hb : EvE K S false tb Γ (.int j)) (hc : CDivB i j) : EvE K S κ (tOp (rI CDivB fun i j => .int (i / j)) ta tb) Γ (.int (i / j)) := ev_I rfl (fun _ => .int _) ha hb hc
theorem ev_mod {ta tb : TE} {i j : Int} (ha : EvE K S false ta Γ (.int i)) (hb : EvE K S false tb Γ (.int j)) (hc : 0 < j) : EvE K S κ (tOp (rI (fun _ j => 0 < j) fun i j => .int (i % j)) ta tb) Γ (.int (i % j)) := ev_I rfl (fun _ => .int _) ha hb hc
theorem ev_pow {ta tb : TE} {i j : Int} (ha : EvE K S false ta Γ (.int i)) (hb : EvE K S false tb Γ (.int j)) (hc : CPow i j) : EvE K S κ (tOp (rI CPow fun i j => .int (i ^ j.toNat)) ta tb) Γ (.int (i ^ j.toNat)) := ev_I rfl (fun _ => .int _) ha hb hc
theorem ev_neg {ta : TE} {i : Int} (ha : EvE K S false ta Γ (.int i)) : EvE K S κ (tUn (rU fun i => .int (-i)) ta) Γ (.int (-i)) := fun H0 F0 H F σ e Q q =>
  ha H0 F0 H F σ e _ fun v H1 F1 g1 p1 => by cases rp_int p1; exact ⟨i, rfl, q _ H1 F1 g1 (.int _)⟩
theorem dec_int (i j : Int) : decide (V.int i = V.int j) = decide (i = j) := by by_cases h : i = j <;> simp [h]
theorem dec_bl (i j : Bool) : decide (V.bl i = V.bl j) = (i == j) := by cases i <;> cases j <;> rfl
theorem dec_str (i j : Str) : decide (V.str i = V.str j) = decide (i = j) := by by_cases h : i = j <;> simp [h]
theorem ev_eqI {ta tb : TE} {i j : Int} (ha : EvE K S false ta Γ (.int i)) (hb : EvE K S false tb Γ (.int j)) : EvE K S κ (tOp rEq ta tb) Γ (.bool (decide (i = j))) :=
  ev_op ha hb fun v w H F Q le p1 p2 k => by
    cases dp_int p1; cases dp_int p2
    refine ⟨rfl, ?_⟩
    rw [dec_int]; exact k _ fun _ => .bl _
theorem ev_eqB {ta tb : TE} {i j : Bool} (ha : EvE K S false ta Γ (.bool i)) (hb : EvE K S false tb Γ (.bool j)) : EvE K S κ (tOp rEq ta tb) Γ (.bool (i == j)) :=
  ev_op ha hb fun v w H F Q le p1 p2 k => by
    cases dp_bl p1; cases dp_bl p2
    refine ⟨rfl, ?_⟩
    rw [dec_bl]; exact k _ fun _ => .bl _
theorem ev_eqS {ta tb : TE} {i j : Str} (ha : EvE K S false ta Γ (.str i)) (hb : EvE K S false tb Γ (.str j)) : EvE K S κ (tOp rEq ta tb) Γ (.bool (decide (i = j))) :=
  ev_op ha hb fun v w H F Q le p1 p2 k => by
    cases dp_str p1; cases dp_str p2
    refine ⟨rfl, ?_⟩
    rw [dec_str]; exact k _ fun _ => .bl _
theorem ev_neI {ta tb : TE} {i j : Int} (ha : EvE K S false ta Γ (.int i)) (hb : EvE K S false tb Γ (.int j)) : EvE K S κ (tOp rNe ta tb) Γ (.bool (!(decide (i = j)))) :=
  ev_op ha hb fun v w H F Q le p1 p2 k => by
    cases dp_int p1; cases dp_int p2
    refine ⟨rfl, ?_⟩
    rw [dec_int]; exact k _ fun _ => .bl _
theorem ev_neB {ta tb : TE} {i j : Bool} (ha : EvE K S false ta Γ (.bool i)) (hb : EvE K S false tb Γ (.bool j)) : EvE K S κ (tOp rNe ta tb) Γ (.bool (!(i == j))) :=
  ev_op ha hb fun v w H F Q le p1 p2 k => by
    cases dp_bl p1; cases dp_bl p2
    refine ⟨rfl, ?_⟩
    rw [dec_bl]; exact k _ fun _ => .bl _
theorem ev_neS {ta tb : TE} {i j : Str} (ha : EvE K S false ta Γ (.str i)) (hb : EvE K S false tb Γ (.str j)) : EvE K S κ (tOp rNe ta tb) Γ (.bool (!(decide (i = j)))) :=
  ev_op ha hb fun v w H F Q le p1 p2 k => by
    cases dp_str p1; cases dp_str p2
    refine ⟨rfl, ?_⟩
    rw [dec_str]; exact k _ fun _ => .bl _
def isNone : PyData → Bool
  | .none => true
  | _ => false
theorem isNone_v {F : Hp} {v : V} {d : PyData} (h : Dp K F v d) : decide (v = .non) = isNone d := by
  cases h <;> first | rfl | exact decide_eq_false (by intro e; cases e)
theorem ev_isN {ta : TE} {d : PyData} (ha : EvD K S ta Γ d) : EvE K S κ (tOp (fun x y H Q => y = .non ∧ Q (.bl (decide (x = .non))) H) ta (tC .non)) Γ (.bool (isNone d)) := fun H0 F0 H F σ e Q q =>
  ha H0 F0 H F σ e _ fun v H1 F1 g1 p1 => ⟨rfl, by rw [isNone_v p1]; exact q _ H1 F1 g1 (.bl _)⟩
theorem ev_notN {ta : TE} {d : PyData} (ha : EvD K S ta Γ d) : EvE K S κ (tOp (fun x y H Q => y = .non ∧ Q (.bl (!decide (x = .non))) H) ta (tC .non)) Γ (.bool (!isNone d)) := fun H0 F0 H F σ e Q q =>
  ha H0 F0 H F σ e _ fun v H1 F1 g1 p1 => ⟨rfl, by rw [isNone_v p1]; exact q _ H1 F1 g1 (.bl _)⟩
theorem ev_eqD {neg : Bool} {ta tb : TE} {d f : PyData} (ha : EvD K S ta Γ d) (hb : EvD K S tb Γ f) (z1 : SeqAt.shaped d = true) (z2 : SeqAt.shaped f = true) : EvE K S κ (tOp (rEqD K neg) ta tb) Γ (.bool (if neg then !PyData.eqv d f else PyData.eqv d f)) := fun H0 F0 H F σ e Q q =>
  ha H0 F0 H F σ e _ fun v H1 F1 g1 p1 => hb H0 F0 H1 F1 σ (e.mono g1) _ fun w H2 F2 g2 p2 => ⟨d, f, dp_same g2.h p1, p2, z1, z2, q _ H2 F2 (g1.trans g2) (.bl _)⟩
theorem ev_neSm {ta tb : TE} {d : PyData} (ha : EvD K S ta Γ d) (hb : EvD K S tb Γ d) (z : SeqAt.shaped d = true) : EvE K S κ (tOp (rNeS K) ta tb) Γ (.bool false) := fun H0 F0 H F σ e Q q =>
  ha H0 F0 H F σ e _ fun v H1 F1 g1 p1 => hb H0 F0 H1 F1 σ (e.mono g1) _ fun w H2 F2 g2 p2 => ⟨d, dp_same g2.h p1, p2, z, q _ H2 F2 (g1.trans g2) (.bl _)⟩
theorem atI_dp {H0 F : Hp} {vs : List V} {ds : List PyData} {i : Int} {d : PyData} (k : RpAll K κ S H0 F vs ds) (h : atI ds i = some d) : ∃ v, atI vs i = some v ∧ Rp K κ S H0 F v d := by
  unfold atI at h ⊢
  rw [RpAll.length k]
  cases e : ixN ds.length i with
  | none => rw [e] at h; cases h
  | some j => rw [e] at h; exact RpAll.get k h
theorem ev_ixL {ta tb : TE} {ds : List PyData} {i : Int} {d : PyData} (ha : EvL K S κ ta Γ ds) (hb : EvE K S false tb Γ (.int i)) (h : atI ds i = some d) : EvE K S κ (tOp (rIxL K) ta tb) Γ d := fun H0 F0 H F σ e Q q =>
  ha H0 F0 H F σ e _ fun a vs H1 F1 g1 p1 k1 => hb H0 F0 H1 F1 σ (e.mono g1) _ fun w H2 F2 g2 p2 => by
    cases rp_int p2
    obtain ⟨v, h1, h2⟩ := atI_dp (rpAll_mono g2.f k1) h
    exact ⟨a, vs, i, v, rfl, rfl, g2.h.seq p1, h1, q _ H2 F2 (g1.trans g2) h2⟩
theorem ev_ixT {ta tb : TE} {ds : List PyData} {i : Int} {d : PyData} (ha : EvE K S κ ta Γ (.tuple ds)) (hb : EvE K S false tb Γ (.int i)) (h : atI ds i = some d) : EvE K S κ (tOp (rIxT K) ta tb) Γ d := fun H0 F0 H F σ e Q q =>
  ha H0 F0 H F σ e _ fun v H1 F1 g1 p1 => hb H0 F0 H1 F1 σ (e.mono g1) _ fun w H2 F2 g2 p2 => by
    cases rp_int p2
    obtain ⟨a, vs, rfl, h1, h2⟩ := rp_tup p1
    obtain ⟨v, h3, h4⟩ := atI_dp (rpAll_mono g2.f h2) h
    exact ⟨a, vs, i, v, rfl, rfl, Same.seqT (g1.le.trans g2.h) h1, h3, q _ H2 F2 (g1.trans g2) h4⟩
theorem ev_and {ta tb : TE} {a b : Bool} (ha : EvE K S false ta Γ (.bool a)) (hb : a = true → EvE K S false tb Γ (.bool b)) : EvE K S κ (tAndV ta tb) Γ (.bool (a && b)) := fun H0 F0 H F σ e Q q =>
  ha H0 F0 H F σ e _ fun v H1 F1 g1 p1 => by
    cases rp_bl p1
    refine ⟨a, rfl, ?_⟩
    cases a with
    | true => exact iteT (hb rfl H0 F0 H1 F1 σ (e.mono g1) Q fun v H2 F2 g2 p2 => by cases rp_bl p2; exact q _ H2 F2 (g1.trans g2) (.bl _))
    | false => exact iteF (q _ H1 F1 g1 (.bl _))
theorem ev_or {ta tb : TE} {a b : Bool} (ha : EvE K S false ta Γ (.bool a)) (hb : a = false → EvE K S false tb Γ (.bool b)) : EvE K S κ (tOrV ta tb) Γ (.bool (a || b)) := fun H0 F0 H F σ e Q q =>
  ha H0 F0 H F σ e _ fun v H1 F1 g1 p1 => by
    cases rp_bl p1
    refine ⟨a, rfl, ?_⟩
    cases a with
    | false => exact iteF (hb rfl H0 F0 H1 F1 σ (e.mono g1) Q fun v H2 F2 g2 p2 => by cases rp_bl p2; exact q _ H2 F2 (g1.trans g2) (.bl _))
    | true => exact iteT (q _ H1 F1 g1 (.bl _))
theorem ev_not {ta : TE} {a : Bool} (ha : EvE K S false ta Γ (.bool a)) : EvE K S κ (tNotV ta) Γ (.bool (!a)) := fun H0 F0 H F σ e Q q =>
  ha H0 F0 H F σ e _ fun v H1 F1 g1 p1 => by cases rp_bl p1; exact ⟨a, rfl, q _ H1 F1 g1 (.bl _)⟩
theorem et_test {t : TE} {b : Bool} (h : EvE K S false t Γ (.bool b)) : EvT K S (tTest t) Γ b := fun H0 F0 H F σ e Q q =>
  h H0 F0 H F σ e _ fun v H1 F1 g1 p1 => by cases rp_bl p1; exact ⟨b, rfl, q H1 F1 g1⟩
theorem et_B {t : TE} {b : Bool} (h : EvE K S false t Γ (.bool b)) : EvT K S (tB t) Γ b := fun H0 F0 H F σ e Q q =>
  h H0 F0 H F σ e _ fun v H1 F1 g1 p1 => by cases rp_bl p1; exact ⟨b, rfl, q H1 F1 g1⟩
theorem et_and {t u : TT} {a b : Bool} (ha : EvT K S t Γ a) (hb : a = true → EvT K S u Γ b) : EvT K S (tAnd t u) Γ (a && b) := fun H0 F0 H F σ e Q q =>
  ha H0 F0 H F σ e _ fun H1 F1 g1 => by
    cases a with
    | true => exact iteT (hb rfl H0 F0 H1 F1 σ (e.mono g1) Q fun H2 F2 g2 => q H2 F2 (g1.trans g2))
    | false => exact iteF (q H1 F1 g1)
theorem et_or {t u : TT} {a b : Bool} (ha : EvT K S t Γ a) (hb : a = false → EvT K S u Γ b) : EvT K S (tOr t u) Γ (a || b) := fun H0 F0 H F σ e Q q =>
  ha H0 F0 H F σ e _ fun H1 F1 g1 => by
    cases a with
    | false => exact iteF (hb rfl H0 F0 H1 F1 σ (e.mono g1) Q fun H2 F2 g2 => q H2 F2 (g1.trans g2))
    | true => exact iteT (q H1 F1 g1)
theorem et_not {t : TT} {a : Bool} (ha : EvT K S t Γ a) : EvT K S (tNot t) Γ (!a) := fun H0 F0 H F σ e Q q => ha H0 F0 H F σ e _ fun H1 F1 g1 => q H1 F1 g1
theorem et_yes : EvT K S tYes Γ true := fun H0 F0 H F σ e Q q => q H F (.refl e.le)
theorem EvT.eq {t : TT} {a b : Bool} (h : EvT K S t Γ a) (e : a = b) : EvT K S t Γ b := e ▸ h
theorem EvE.eq {t : TE} {a b : PyData} (h : EvE K S κ t Γ a) (e : a = b) : EvE K S κ t Γ b := e ▸ h
theorem EvO.eq {t : TE} {a b : List PyData} (h : EvO K S κ t Γ a) (e : a = b) : EvO K S κ t Γ b := e ▸ h
theorem ea_nil : EvA K S κ tNil Γ [] := fun H0 F0 H F σ e Q q => q [] H F (.refl e.le) .nil
theorem ea_cons {t : TE} {u : TA} {d : PyData} {ds : List PyData} (h : EvE K S κ t Γ d) (k : EvA K S κ u Γ ds) : EvA K S κ (tCons t u) Γ (d :: ds) := fun H0 F0 H F σ e Q q =>
  h H0 F0 H F σ e _ fun v H1 F1 g1 p1 => k H0 F0 H1 F1 σ (e.mono g1) _ fun vs H2 F2 g2 p2 => q _ H2 F2 (g1.trans g2) (.cons (rp_mono g2.f p1) p2)
theorem ev_tup {t : TA} {ds : List PyData} (h : EvA K S κ t Γ ds) (hz : ds.length ≤ sizeLine) : EvE K S κ (tTup t) Γ (.tuple ds) := fun H0 F0 H F σ e Q q =>
  h H0 F0 H F σ e _ fun vs H1 F1 g1 p1 => ⟨by rw [RpAll.length p1]; exact hz, fun p hp => q _ _ (upd F1 p (.tup vs)) (g1.trans (.new g1.le hp _)) (.tup (SqT.of upd_same) (rpAll_mono (Same.new (g1.le.free hp) _) p1))⟩
theorem evo_lst {t : TA} {ds : List PyData} (h : EvA K S κ t Γ ds) (hz : ds.length ≤ sizeLine) : EvO K S κ (tLst t) Γ ds := fun H0 F0 H F σ e Q q =>
  h H0 F0 H F σ e _ fun vs H1 F1 g1 p1 => ⟨by rw [RpAll.length p1]; exact hz, fun p hp => q p vs _ F1 (g1.trans (.newO g1.le hp _)) (g1.h.free hp) upd_same (g1.le.free hp) p1⟩
def spD (K : PySem.W.Frag) (κ : Bool) (pre : List PyData → PyData → Prop) : Sp := fun vs H Q _ => ∃ F ds d, Same F H ∧ DpAll K F vs ds ∧ pre ds d ∧ ∀ v H' F', Gr H F H' F' → Rp K κ .fresh H F' v d → Q v H'
theorem ev_callF {pre : List PyData → PyData → Prop} {E : XK} {t : TA} {ds : List PyData} {d : PyData} (h : EvA K S false t Γ ds) (hp : pre ds d) : EvE K S κ (tCall (spD K true pre) [] E t) Γ d := fun H0 F0 H F σ e Q q =>
  h H0 F0 H F σ e _ fun vs H1 F1 g1 p1 => ⟨F1, ds, d, g1.le, by rw [List.append_nil]; exact rpAll_dp p1, hp, fun v H2 F2 g2 p2 => q v H2 F2 (g1.trans g2) (rp_weak (κ := true) (fun _ => rfl) (rp_map (κ := true) (κ' := true) (S' := S) (H0' := H0) (fun a xs z => ⟨z.1, fun c => by
    obtain ⟨u, hu⟩ := (e.mono g1).sd a c
    exact z.2 (by show H1 a ≠ none; rw [hu]; simp)⟩) (fun _ _ z => z) p2))⟩
theorem ev_callN {pre : List PyData → PyData → Prop} {E : XK} {t : TA} {ds : List PyData} {d : PyData} (h : EvA K S false t Γ ds) (hp : pre ds d) : EvE K S false (tCall (spD K false pre) [] E t) Γ d := fun H0 F0 H F σ e Q q =>
  h H0 F0 H F σ e _ fun vs H1 F1 g1 p1 => ⟨F1, ds, d, g1.le, by rw [List.append_nil]; exact rpAll_dp p1, hp, fun v H2 F2 g2 p2 => q v H2 F2 (g1.trans g2) (dp_rp (rp_dp p2))⟩
theorem ev_len {ta : TE} {ds : List PyData} (h : EvL K S false ta Γ ds) : EvE K S κ (tCB (fun xs H Q => ∃ p ys, xs = [.ref p] ∧ (SqL K H p ys ∨ SqT K H p ys) ∧ Q (.int ys.length) H) (tCons ta tNil)) Γ (.int ds.length) := fun H0 F0 H F σ e Q q =>
  h H0 F0 H F σ e _ fun a vs H1 F1 g1 p1 k1 => ⟨a, vs, rfl, .inl p1, q _ H1 F1 g1 (by rw [RpAll.length k1]; exact .int _)⟩
theorem ev_lenT {ta : TE} {ds : List PyData} (h : EvE K S false ta Γ (.tuple ds)) : EvE K S κ (tCB (fun xs H Q => ∃ p ys, xs = [.ref p] ∧ (SqL K H p ys ∨ SqT K H p ys) ∧ Q (.int ys.length) H) (tCons ta tNil)) Γ (.int ds.length) := fun H0 F0 H F σ e Q q =>
  h H0 F0 H F σ e _ fun v H1 F1 g1 p1 => by
    obtain ⟨a, vs, rfl, h1, h2⟩ := rp_tup p1
    exact ⟨a, vs, rfl, .inr (Same.seqT g1.le h1), q _ H1 F1 g1 (by rw [RpAll.length h2]; exact .int _)⟩
theorem evo_list {ta : TE} {ds : List PyData} (h : EvL K S κ ta Γ ds) : EvO K S κ (tCB (fun xs H Q => ∃ p ys, xs = [.ref p] ∧ (SqL K H p ys ∨ SqT K H p ys) ∧ ∀ l, H l = none → Q (.ref l) (upd H l (.lst ys))) (tCons ta tNil)) Γ ds := fun H0 F0 H F σ e Q q =>
  h H0 F0 H F σ e _ fun a vs H1 F1 g1 p1 k1 => ⟨a, vs, rfl, .inl p1, fun p hp => q p vs _ F1 (g1.trans (.newO g1.le hp _)) (g1.h.free hp) upd_same (g1.le.free hp) k1⟩
theorem ev_abs {ta : TE} {i : Int} (h : EvE K S false ta Γ (.int i)) : EvE K S κ (tCB (fun xs H Q => ∃ i, xs = [.int i] ∧ Q (.int (if i < 0 then -i else i)) H) (tCons ta tNil)) Γ (.int (i.natAbs : Int)) := fun H0 F0 H F σ e Q q =>
  h H0 F0 H F σ e _ fun v H1 F1 g1 p1 => by
    cases rp_int p1
    have e : (if i < 0 then -i else i) = (i.natAbs : Int) := by split <;> omega
    exact ⟨i, rfl, by rw [e]; exact q _ H1 F1 g1 (.int _)⟩
def cutD (xs : List PyData) (lo hi : Option Int) : List PyData := (xs.drop (HT.sIx xs.length 0 lo)).take (HT.sIx xs.length xs.length hi - HT.sIx xs.length 0 lo)
theorem cut_dp {H0 F : Hp} {vs : List V} {ds : List PyData} {lo hi : Option Int} (k : RpAll K κ S H0 F vs ds) : RpAll K κ S H0 F (cutV vs lo hi) (cutD ds lo hi) := by
  unfold cutV cutD
  rw [RpAll.length k]
  exact RpAll.take _ (RpAll.drop _ k)
theorem ep_none : EvP K S tNoPart Γ none := fun H0 F0 H F σ e Q q => q H F (.refl e.le)
theorem ep_some {t : TE} {i : Int} (h : EvE K S false t Γ (.int i)) : EvP K S (tPart t) Γ (some i) := fun H0 F0 H F σ e Q q =>
  h H0 F0 H F σ e _ fun v H1 F1 g1 p1 => by cases rp_int p1; exact ⟨i, rfl, q H1 F1 g1⟩
theorem evo_slice {t : TE} {tl th : TO} {ds : List PyData} {lo hi : Option Int} (h : EvL K S κ t Γ ds) (hl : EvP K S tl Γ lo) (hh : EvP K S th Γ hi) : EvO K S κ (tSl (rSlL K) t tl th) Γ (cutD ds lo hi) := fun H0 F0 H F σ e Q q =>
  h H0 F0 H F σ e _ fun a vs H1 F1 g1 p1 k1 => hl H0 F0 H1 F1 σ (e.mono g1) _ fun H2 F2 g2 => hh H0 F0 H2 F2 σ ((e.mono g1).mono g2) _ fun H3 F3 g3 =>
    ⟨a, vs, rfl, (g2.h.trans g3.h).seq p1, fun p hp => q p _ _ F3 (((g1.trans g2).trans g3).trans (.newO g3.le hp _)) (((g1.trans g2).trans g3).h.free hp) upd_same (g3.le.free hp) (cut_dp (rpAll_mono (g2.f.trans g3.f) k1))⟩
end
end PD
namespace L2
open PySem PySem.Spec PyProof.Rows
section
variable {X : Cx} {K : PySem.W.Frag}
def rCatS (K : PySem.W.Frag) : R2 := fun x y H Q => ∃ l b xs zs, x = .ref l ∧ y = .ref b ∧ SqL K H l xs ∧ SqL K H b zs ∧ xs.length + zs.length ≤ sizeLine ∧ ∀ p, H p = none → Q (.ref p) (upd H p (.lst (xs ++ zs)))
theorem op_catS : OpR X (binaryOp .Add) (rCatS X.K) := by
  intro pins s σ H x y v u Q I rx ry h
  obtain ⟨l, b, xs, zs, rfl, rfl, hH, hB, hz, q⟩ := h
  cases rx
  cases ry
  obtain ⟨its, r, pl, z⟩ := I.list hH
  obtain ⟨its2, r2, pl2, z2⟩ := I.list hB
  have l1 := r.length
  have l2 := r2.length
  obtain ⟨⟨cls, dd, data, sl⟩, ho, hc, n, hd⟩ := pl.isList
  obtain ⟨⟨cls2, dd2, data2, sl2⟩, ho2, hc2, n2, hd2⟩ := pl2.isList
  simp only at hc hd hc2 hd2
  subst hc hd hc2 hd2
  have e : its.toArray ++ its2.toArray = (its ++ its2).toArray := by simp
  refine concat_meets ⟨_, ho, rfl⟩ ⟨_, ho2, rfl⟩ noFill_list_add seq_list_add PySem.F.slot_list_add PySem.F.entry_list_add (PySem.F.args_list_add_2 _ _) (list_addW l b its.toArray its2.toArray n n2 dd dd2 sl sl2 (by simp only [List.size_toArray]; omega)) ⟨ho, ho2, ?_⟩
  rw [e]
  exact ⟨.ref _, _, I.lnew (t' := s.toks) (r.append r2) (by rw [List.length_append]; omega), rfl, q _ I.fresh⟩
def tyD : PyData → String
  | .none => "NoneType"
  | .bool _ => "bool"
  | .int _ => "int"
  | .str _ => "str"
  | .list _ => "list"
  | .tuple _ => "tuple"
  | _ => "object"
def rIsiD (K : PySem.W.Frag) : List V → Hp → VK → Prop := fun xs H Q => ∃ x d T b, xs = [x, .ty T] ∧ Dp K H x d ∧ PySem.W.kitOne K (.type (tyD d)) (.type T) = some b ∧ Q (.bl b) H
theorem call_isiD : CallR X (.builtin "isinstance") (rIsiD X.K) := by
  intro pins s σ H xs us Q I r h
  obtain ⟨x, d, T, b, rfl, dp, e, q⟩ := h
  obtain ⟨u, v, rfl, ru, rv⟩ := r.two
  cases (show v = Value.type T from rv)
  have fin : ∀ tk, EP X pins σ Q (.bool b) { s with toks := tk } := fun tk => ⟨.bl b, H, I.tok tk, rfl, q⟩
  cases dp with
  | non => cases (show u = Value.none from ru); exact PySem.W.kia_one PySem.W.kitx_none I.kIn True.intro e (fun z => nomatch z) fin
  | bl y => cases (show u = Value.bool y from ru); exact PySem.W.kia_one PySem.W.kitx_bool I.kIn True.intro e (fun z => nomatch z) fin
  | int i => obtain ⟨t, z⟩ := (show ∃ t, u = Value.int i t from ru); cases z; exact PySem.W.kia_one PySem.W.kitx_int I.kIn True.intro e (fun z => nomatch z) fin
  | str y => obtain ⟨t, z⟩ := (show ∃ t, u = Value.str y t from ru); cases z; exact PySem.W.kia_one PySem.W.kitx_str I.kIn True.intro e (fun z => nomatch z) fin
  | @lst a xs ds h k =>
    cases (show u = Value.ref a from ru)
    obtain ⟨its, rv, ⟨o, n, h1, h2, _⟩, _⟩ := I.list h
    exact PySem.W.kia_one PySem.W.kitx_list I.kIn ⟨_, h1, h2⟩ e (fun z => nomatch z) fin
  | @tup a xs ds h k =>
    cases (show u = Value.ref a from ru)
    obtain ⟨its, rv, ⟨o, h1, h2, _⟩, _⟩ := I.tuple h
    exact PySem.W.kia_one PySem.W.kitx_tuple I.kIn ⟨_, h1, h2⟩ e (fun z => nomatch z) fin
theorem call_isiDK (hK : X.K = K) : CallR X (.builtin "isinstance") (rIsiD K) := by subst hK; exact call_isiD
instance {K : PySem.W.Frag} : MonoC (rIsiD K) := ⟨fun h ⟨x, T, t, b, a1, a2, a3, q⟩ => ⟨x, T, t, b, a1, a2, a3, h _ _ q⟩⟩
theorem op_catSK (hK : X.K = K) : OpR X (binaryOp .Add) (rCatS K) := by subst hK; exact op_catS
instance {K : PySem.W.Frag} : MonoR (rCatS K) := ⟨fun h ⟨l, b, xs, zs, a1, a2, a3, a4, a5, q⟩ => ⟨l, b, xs, zs, a1, a2, a3, a4, a5, fun p hp => h _ _ (q p hp)⟩⟩
end
end L2
namespace PD
open PySem L2
section
variable {K : PySem.W.Frag} {S : Sx} {κ : Bool} {Γ : Ctx}
theorem evo_cat {ta tb : TE} {xs ys : List PyData} (ha : EvL K S κ ta Γ xs) (hb : EvL K S κ tb Γ ys) (hz : xs.length + ys.length ≤ sizeLine) : EvO K S κ (tOp (rCatS K) ta tb) Γ (xs ++ ys) := fun H0 F0 H F σ e Q q =>
  ha H0 F0 H F σ e _ fun a vs H1 F1 g1 p1 k1 => hb H0 F0 H1 F1 σ (e.mono g1) _ fun b ws H2 F2 g2 p2 k2 =>
    ⟨a, b, vs, ws, rfl, rfl, g2.h.seq p1, p2, by rw [RpAll.length k1, RpAll.length k2]; exact hz, fun p hp => q p _ _ F2 ((g1.trans g2).trans (.newO g2.le hp _)) ((g1.trans g2).h.free hp) upd_same (g2.le.free hp) (RpAll.append (rpAll_mono g2.f k1) k2)⟩
theorem evo_rep {ta tb : TE} {xs : List PyData} {k : Int} (ha : EvO K S κ ta Γ xs) (hb : EvE K S false tb Γ (.int k)) (h1 : -(2 ^ 63) ≤ k) (h2 : k < 2 ^ 63) (hz : xs.length * k.toNat ≤ sizeLine) : EvO K S κ (tOp rRep ta tb) Γ (List.replicate k.toNat xs).flatten := fun H0 F0 H F σ e Q q =>
  ha H0 F0 H F σ e _ fun a vs H1 F1 g1 n1 p1 f1 k1 => hb H0 F0 H1 F1 σ (e.mono g1) _ fun w H2 F2 g2 p2 => by
    cases rp_int p2
    exact ⟨a, k, vs, rfl, rfl, g2.h _ _ p1, h1, h2, by rw [RpAll.length k1]; exact hz, fun p hp => q p _ _ F2 ((g1.trans g2).trans (.newO g2.le hp _)) ((g1.trans g2).h.free hp) upd_same (g2.le.free hp) (RpAll.rep (rpAll_mono g2.f k1) _)⟩
theorem ev_isi {ta : TE} {d : PyData} {T : String} {b : Bool} (h : EvD K S ta Γ d) (hi : PySem.W.kitOne K (.type (tyD d)) (.type T) = some b) : EvE K S κ (tCB (rIsiD K) (tCons ta (tCons (tC (.ty T)) tNil))) Γ (.bool b) := fun H0 F0 H F σ e Q q =>
  h H0 F0 H F σ e _ fun v H1 F1 g1 p1 => ⟨v, d, T, b, rfl, p1, hi, q _ H1 F1 g1 (.bl b)⟩
theorem flat_int (ns : List Int) : (ns.map V.int).all flatV = true := by
  rw [List.all_eq_true]
  intro v hv
  obtain ⟨n, _, rfl⟩ := List.mem_map.mp hv
  rfl
theorem inV_int (i : Int) (ns : List Int) : inV (.int i) (ns.map V.int) = decide (i ∈ ns) := by
  unfold inV
  rw [List.any_map]
  by_cases h : i ∈ ns
  · rw [decide_eq_true h, List.any_eq_true]
    exact ⟨i, h, by show eqV (.int i) (.int i) = true; simp [eqV]⟩
  · rw [decide_eq_false h, List.any_eq_false]
    intro x hx hq
    have : x = i := by
      have q : eqV (.int x) (.int i) = true := hq
      simpa [eqV] using q
    exact h (this ▸ hx)
theorem ev_inI {neg : Bool} {ta tb : TE} {i : Int} {ns : List Int} (ha : EvE K S false ta Γ (.int i)) (hb : EvL K S false tb Γ (ns.map .int)) : EvE K S κ (tOp (rIn K neg) ta tb) Γ (.bool (if neg then !decide (i ∈ ns) else decide (i ∈ ns))) := fun H0 F0 H F σ e Q q =>
  ha H0 F0 H F σ e _ fun v H1 F1 g1 p1 => hb H0 F0 H1 F1 σ (e.mono g1) _ fun b ws H2 F2 g2 p2 k2 => by
    cases rp_int p1
    cases dpAll_of_ints (rpAll_dp k2)
    refine ⟨b, _, rfl, .inl p2, rfl, flat_int ns, ?_⟩
    rw [inV_int]
    exact q _ H2 F2 (g1.trans g2) (.bl _)
def ExG (K : PySem.W.Frag) (S : Sx) (κ : Bool) (g : TG) (js : List Nat) (d : PyData) (Γ : Ctx) (k : Ctx → Prop) : Prop := ∀ (H0 F0 H F : Hp) (σ : St) (v : V), DEnv K S H0 F0 H F σ Γ → Rp K κ S H0 F v d → ∀ Q : St → Hp → Prop,
  (∀ Γ' σ' H' F', k Γ' → Gr H F H' F' → DEnv K S H0 F0 H' F' σ' Γ' → σ'.length = σ.length → (∀ j, j ∉ js → σ'[j]? = σ[j]?) → Q σ' H') → g v σ H Q
theorem DEnv.set {H0 F0 H F : Hp} {σ : St} {i : Nat} {v : V} {x : DV} (e : DEnv K S H0 F0 H F σ Γ) (p : HasV K S H0 H F v x)
    (hne : ∀ a, Owns H v x a → ∀ (j : Nat) y w, j ≠ i → Γ[j]? = some (some y) → σ[j]? = some (some w) → ¬ Owns H w y a) : DEnv K S H0 F0 H F (σ.set i (some v)) (Γ.set i (some x)) := by
  refine ⟨e.gr, e.l0, e.sd, e.s0, by simp [e.len], fun j f h => ?_, fun j k' x1 y1 v1 w1 b g1 g2 g3 g4 o1 o2 => ?_⟩
  · by_cases hj : j = i
    · subst hj
      by_cases hl : j < Γ.length
      · rw [List.getElem?_set_self hl] at h
        cases h
        exact ⟨v, by rw [List.getElem?_set_self (by rw [e.len]; exact hl)], p⟩
      · rw [List.getElem?_eq_none (by simp; omega)] at h
        cases h
    · rw [List.getElem?_set_ne (Ne.symm hj)] at h ⊢
      exact e.has j f h
  · have li : ∀ {j : Nat} {y : DV}, (Γ.set i (some x))[j]? = some (some y) → j < Γ.length := fun {j y} z => by
      have := (List.getElem?_eq_some_iff.mp z).1
      rw [List.length_set] at this
      exact this
    by_cases hj : j = i
    · subst hj
      by_cases hk : k' = j
      · exact hk.symm
      · rw [List.getElem?_set_self (by rw [e.len]; exact li g1)] at g3
        rw [List.getElem?_set_self (li g1)] at g1
        cases g1
        cases g3
        rw [List.getElem?_set_ne (Ne.symm hk)] at g4 g2
        exact absurd o2 (hne b o1 k' y1 w1 hk g2 g4)
    · rw [List.getElem?_set_ne (Ne.symm hj)] at g3 g1
      by_cases hk : k' = i
      · subst hk
        rw [List.getElem?_set_self (by rw [e.len]; exact li g2)] at g4
        rw [List.getElem?_set_self (li g2)] at g2
        cases g2
        cases g4
        exact absurd o1 (hne b o2 j x1 v1 hj g1 g3)
      · rw [List.getElem?_set_ne (Ne.symm hk)] at g4 g2
        exact e.ne j k' x1 y1 v1 w1 b g1 g2 g3 g4 o1 o2
theorem DEnv.setF {H0 F0 H F : Hp} {σ : St} {i : Nat} {v : V} {d : PyData} (e : DEnv K S H0 F0 H F σ Γ) (p : Rp K κ S H0 F v d) : DEnv K S H0 F0 H F (σ.set i (some v)) (Γ.set i (some (.fz κ d))) := e.set (x := .fz κ d) p fun _ z => z.elim
theorem OwnO.other {H0 H F : Hp} {a b : Addr} {u oo : HO} (w : OwnO S H0 H F b u) (h : b ≠ a) : OwnO S H0 (upd H a oo) F b u := ⟨by rw [upd_ne h]; exact w.h, w.f, w.n, w.s⟩
theorem HasV.other {H0 H F : Hp} {a : Addr} {v : V} {x : DV} {oo : HO} (h : HasV K S H0 H F v x) (n : ¬ Owns H v x a) : HasV K S H0 (upd H a oo) F v x := by
  cases x with
  | fz κ d => exact h
  | tn d => exact h
  | ow κ ds => obtain ⟨b, us, eb, wo, kk⟩ := h; exact ⟨b, us, eb, wo.other fun z => n (by rw [eb, z]; rfl), kk⟩
  | ox => obtain ⟨b, us, eb, wo⟩ := h; exact ⟨b, us, eb, wo.other fun z => n (by rw [eb, z]; rfl)⟩
  | o2 r dss =>
    obtain ⟨b, us, eb, wo, n1, n2, l, k⟩ := h
    refine ⟨b, us, eb, wo.other fun z => n (.inl (by rw [eb.eq, z])), n1, n2, l, fun j y hy => ?_⟩
    obtain ⟨c, ws, ds, e2, o2, h2, k2⟩ := k j y hy
    exact ⟨c, ws, ds, e2, o2.other fun z => n (.inr ⟨b, us, eb.eq, wo.h, by rw [← z, ← e2]; exact List.mem_of_getElem? hy⟩), h2, k2⟩
  | fn a => exact h
  | xn φ => exact h
  | oa b κ ds => obtain ⟨eb, us, wo, kk⟩ := h; exact ⟨eb, us, wo.other fun z => n (by rw [eb, z]; rfl), kk⟩
  | xp φ => exact h
  | od u => obtain ⟨b, eb, wo⟩ := h; exact ⟨b, eb, wo.other fun z => n (by rw [eb, z]; rfl)⟩
  | og ad ψ =>
    obtain ⟨ok, w, p⟩ := h
    have eq : ∀ b, ad H v b → upd H a oo b = H b := fun b z => upd_ne fun y => n (y ▸ z)
    refine ⟨ok, fun b z => ?_, ok.ps S H0 H _ F F v eq (.refl _) p⟩
    have z := (ok.pl H _ v eq b).mp z
    obtain ⟨o, y⟩ := w b z
    exact ⟨o, y.other fun q => n (q ▸ z)⟩
theorem Owns.other {H0 H F : Hp} {a c : Addr} {v : V} {x : DV} {oo : HO} (h : HasV K S H0 H F v x) (n : ¬ Owns H v x a) (o : Owns (upd H a oo) v x c) : Owns H v x c := by
  cases x with
  | fz _ _ => exact o.elim
  | tn _ => exact o.elim
  | ow κ ds => exact o
  | ox => exact o
  | o2 r dss =>
    rcases o with o | ⟨p, us, e2, hp, hm⟩
    · exact .inl o
    · rw [upd_ne (fun z => n (.inl (by rw [e2, z])))] at hp
      exact .inr ⟨p, us, e2, hp, hm⟩
  | fn _ => exact o.elim
  | xn _ => exact o.elim
  | oa _ _ _ => exact o
  | xp _ => exact o.elim
  | od _ => exact o
  | og ad ψ => exact (h.1.pl H (upd H a oo) v (fun b z => upd_ne fun y : b = a => n (y ▸ z)) c).mp o
theorem DEnv.putO {H0 F0 H F : Hp} {σ : St} {i : Nat} {a : Addr} {v : V} {oo : HO} {x y : DV} (e : DEnv K S H0 F0 H F σ Γ) (h : Γ[i]? = some (some x)) (ha : σ[i]? = some (some v)) (ho : Owns H v x a)
    (k : HasV K S H0 (upd H a oo) F v y) (ko : ∀ c, Owns (upd H a oo) v y c → Owns H v x c) : DEnv K S H0 F0 (upd H a oo) F σ (Γ.set i (some y)) := by
  obtain ⟨v', q1, q2⟩ := e.has i x h
  rw [ha] at q1
  cases q1
  obtain ⟨ws, w⟩ := q2.owns ho
  have hs : Same F (upd H a oo) := fun b u z => by
    have : b ≠ a := by rintro rfl; rw [w.f] at z; cases z
    rw [upd_ne this]; exact e.le _ _ z
  have li := (List.getElem?_eq_some_iff.mp h).1
  have far : ∀ {j : Nat} {f : DV} {u : V}, j ≠ i → Γ[j]? = some (some f) → σ[j]? = some (some u) → ¬ Owns H u f a := fun {j f u} hj z r o => hj (e.ne j i f x u v a z h r ha o ho)
  refine ⟨⟨fun b u z => ?_, e.gr.f, hs, e.gr.ap⟩, e.l0, fun b c => ?_, e.s0, by simp [e.len], fun j f z => ?_, fun j k' x1 y1 v1 w1 b g1 g2 g3 g4 o1 o2 => ?_⟩
  · rw [upd_ne (ne_of_none z w.n)]; exact e.gr.h _ _ z
  · obtain ⟨o, q⟩ := e.sd b c
    by_cases hb : b = a
    · subst hb; exact ⟨_, upd_same⟩
    · exact ⟨o, by rw [upd_ne hb]; exact q⟩
  · by_cases hj : j = i
    · subst hj
      rw [List.getElem?_set_self li] at z
      cases z
      exact ⟨_, ha, k⟩
    · rw [List.getElem?_set_ne (Ne.symm hj)] at z
      obtain ⟨u, r1, r2⟩ := e.has j f z
      exact ⟨u, r1, r2.other (far hj z r1)⟩
  · have bk : ∀ {j : Nat} {f : DV} {u : V}, (Γ.set i (some y))[j]? = some (some f) → σ[j]? = some (some u) → Owns (upd H a oo) u f b → ∃ g, Γ[j]? = some (some g) ∧ Owns H u g b := fun {j f u} z r o => by
      by_cases hj : j = i
      · subst hj
        rw [List.getElem?_set_self li] at z
        cases z
        rw [ha] at r
        cases r
        exact ⟨x, h, ko b o⟩
      · rw [List.getElem?_set_ne (Ne.symm hj)] at z
        obtain ⟨u', r1, r2⟩ := e.has j f z
        rw [r] at r1
        cases r1
        exact ⟨f, z, o.other r2 (far hj z r)⟩
    obtain ⟨f1, z1, w1'⟩ := bk g1 g3 o1
    obtain ⟨f2, z2, w2'⟩ := bk g2 g4 o2
    exact e.ne j k' f1 f2 v1 w1 b z1 z2 g3 g4 w1' w2'
theorem DEnv.put {H0 F0 H F : Hp} {σ : St} {i : Nat} {a : Addr} {v : V} {vs : List V} {x y : DV} (e : DEnv K S H0 F0 H F σ Γ) (h : Γ[i]? = some (some x)) (ha : σ[i]? = some (some v)) (ho : Owns H v x a)
    (k : HasV K S H0 (upd H a (.lst vs)) F v y) (ko : ∀ c, Owns (upd H a (.lst vs)) v y c → Owns H v x c) : DEnv K S H0 F0 (upd H a (.lst vs)) F σ (Γ.set i (some y)) := e.putO h ha ho k ko
theorem OwnO.frz {H0 H F : Hp} {a b : Addr} {u oo : HO} (w : OwnO S H0 H F b u) (h : b ≠ a) : OwnO S H0 H (upd F a oo) b u := ⟨w.h, by rw [upd_ne h]; exact w.f, w.n, w.s⟩
theorem HasV.frz {H0 H F : Hp} {a : Addr} {v : V} {x : DV} {vs : List V} (h : HasV K S H0 H F v x) (s : Same F (upd F a (.lst vs))) (n : ¬ Owns H v x a) : HasV K S H0 H (upd F a (.lst vs)) v x := by
  cases x with
  | fz κ d => exact rp_mono s h
  | tn d => obtain ⟨T, eT, k⟩ := h; exact ⟨T, eT, rp_mono s k⟩
  | ow κ ds => obtain ⟨b, us, eb, wo, kk⟩ := h; exact ⟨b, us, eb, wo.frz fun z => n (by rw [eb, z]; rfl), rpAll_mono s kk⟩
  | ox => obtain ⟨b, us, eb, wo⟩ := h; exact ⟨b, us, eb, wo.frz fun z => n (by rw [eb, z]; rfl)⟩
  | o2 r dss =>
    obtain ⟨b, us, eb, wo, n1, n2, l, k⟩ := h
    refine ⟨b, us, eb, wo.frz fun z => n (.inl (by rw [eb.eq, z])), n1, n2, l, fun j y hy => ?_⟩
    obtain ⟨c, ws, ds, e2, o2, h2, k2⟩ := k j y hy
    exact ⟨c, ws, ds, e2, o2.frz fun z => n (.inr ⟨b, us, eb.eq, wo.h, by rw [← z, ← e2]; exact List.mem_of_getElem? hy⟩), h2, rpAll_mono s k2⟩
  | fn a => exact h
  | xn φ => obtain ⟨b, e, k⟩ := h; exact ⟨b, e, s _ _ k⟩
  | oa b κ ds => obtain ⟨eb, us, wo, kk⟩ := h; exact ⟨eb, us, wo.frz fun z => n (by rw [eb, z]; rfl), rpAll_mono s kk⟩
  | xp φ => obtain ⟨F1, s1, k⟩ := h; exact ⟨F1, s1.trans s, k⟩
  | od u => obtain ⟨b, eb, wo⟩ := h; exact ⟨b, eb, wo.frz fun z => n (by rw [eb, z]; rfl)⟩
  | og ad ψ =>
    obtain ⟨ok, w, p⟩ := h
    refine ⟨ok, fun b z => ?_, ok.ps S H0 H H F _ v (fun _ _ => rfl) s p⟩
    obtain ⟨o, y⟩ := w b z
    exact ⟨o, y.frz fun q => n (q ▸ z)⟩
theorem DEnv.froz {H0 F0 H F : Hp} {σ : St} {i : Nat} {a : Addr} {v : V} {vs : List V} {x y : DV} (e : DEnv K S H0 F0 H F σ Γ) (h : Γ[i]? = some (some x)) (hv : σ[i]? = some (some v)) (ho : Owns H v x a) (w : OwnAt S H0 H F a vs)
    (k : HasV K S H0 H (upd F a (.lst vs)) v y) (ko : ∀ c, Owns H v y c → Owns H v x c) : Same F (upd F a (.lst vs)) ∧ DEnv K S H0 F0 H (upd F a (.lst vs)) σ (Γ.set i (some y)) := by
  have s : Same F (upd F a (.lst vs)) := Same.new w.f _
  have li := (List.getElem?_eq_some_iff.mp h).1
  have g : Gr H0 F0 H (upd F a (.lst vs)) := ⟨e.gr.h, e.gr.f.trans s, fun b u z => by
    by_cases eb : b = a
    · subst eb; rw [upd_same] at z; rw [← z]; exact w.h
    · rw [upd_ne eb] at z; exact e.le _ _ z, fun b u z y => by
    rw [upd_ne (ne_of_none z w.n)]; exact e.gr.ap _ _ z y⟩
  refine ⟨s, g, e.l0, e.sd, e.s0, by simp [e.len], fun j f z => ?_, fun j k' x1 y1 v1 w1 b g1 g2 g3 g4 o1 o2 => ?_⟩
  · by_cases hj : j = i
    · subst hj
      rw [List.getElem?_set_self li] at z
      cases z
      exact ⟨v, hv, k⟩
    · rw [List.getElem?_set_ne (Ne.symm hj)] at z
      obtain ⟨u, r1, r2⟩ := e.has j f z
      exact ⟨u, r1, r2.frz s fun o => hj (e.ne j i f x u v a z h r1 hv o ho)⟩
  · have bk : ∀ {j : Nat} {f : DV} {u : V}, (Γ.set i (some y))[j]? = some (some f) → σ[j]? = some (some u) → Owns H u f b → ∃ g, Γ[j]? = some (some g) ∧ Owns H u g b := fun {j f u} z r o => by
      by_cases hj : j = i
      · subst hj
        rw [List.getElem?_set_self li] at z
        cases z
        rw [hv] at r
        cases r
        exact ⟨x, h, ko b o⟩
      · rw [List.getElem?_set_ne (Ne.symm hj)] at z
        exact ⟨f, z, o⟩
    obtain ⟨f1, z1, w1'⟩ := bk g1 g3 o1
    obtain ⟨f2, z2, w2'⟩ := bk g2 g4 o2
    exact e.ne j k' f1 f2 v1 w1 b z1 z2 g3 g4 w1' w2'
theorem DEnv.freeze {H0 F0 H F : Hp} {σ : St} {i : Nat} {ds : List PyData} (e : DEnv K S H0 F0 H F σ Γ) (h : Γ[i]? = some (some (.ow κ ds))) : ∃ F', Same F F' ∧ DEnv K S H0 F0 H F' σ (Γ.set i (some (.fz κ (.list ds)))) := by
  obtain ⟨v, q1, a, vs, rfl, w, q5⟩ := e.has i _ h
  exact ⟨_, e.froz (y := .fz κ (.list ds)) h q1 rfl w (.lst (LN.new w.s) (rpAll_mono (Same.new w.f _) q5)) fun _ z => z.elim⟩
theorem eg_name {i : Nat} {d : PyData} {k : Ctx → Prop} (h : k (Γ.set i (some (.fz κ d)))) : ExG K S κ (gName i) [i] d Γ k := fun H0 F0 H F σ v e p Q q =>
  q _ _ H F h (.refl e.le) (e.setF p) (by simp) fun j hj => by rw [List.getElem?_set_ne (by intro z; exact hj (by simp [z]))]
theorem eg_two {i j : Nat} {x y : PyData} {k : Ctx → Prop} (h : k ((Γ.set i (some (.fz κ x))).set j (some (.fz κ y)))) : ExG K S κ (gTup K 2 (gCons (gName i) (gCons (gName j) gNil))) [i, j] (.tuple [x, y]) Γ k := fun H0 F0 H F σ v e p Q q => by
  obtain ⟨a, vs, rfl, h1, h2⟩ := rp_tup p
  cases h2 with
  | cons px h2 => cases h2 with
    | cons py h2 =>
      cases h2
      refine ⟨a, _, rfl, Same.seqT e.le h1, rfl, _, _, rfl, _, _, rfl, rfl, ?_⟩
      refine q _ _ H F h (.refl e.le) ((e.setF px).setF py) (by simp) fun m hm => ?_
      rw [List.getElem?_set_ne (by intro z; exact hm (by simp [z])), List.getElem?_set_ne (by intro z; exact hm (by simp [z]))]
structure ItD (K : PySem.W.Frag) (S : Sx) (κ : Bool) (H0 F : Hp) (J : It) (ds : List PyData) : Prop where
  go : ∀ i H F', Same F F' → Same F' H → i < ds.length → J.go i H
  yld : ∀ i H F' x H', Same F F' → Same F' H → (∀ a, S.has H0 a → ∃ o, H a = some o) → i < ds.length → J.yld i H x H' → ∃ d F'', ds[i]? = some d ∧ Gr H F' H' F'' ∧ Rp K κ S H0 F'' x d
  stop : ∀ H F', Same F F' → Same F' H → J.stop ds.length H
def EvI (K : PySem.W.Frag) (S : Sx) (κ : Bool) (t : TI) (Γ : Ctx) (ds : List PyData) : Prop := ∀ (H0 F0 H F : Hp) (σ : St), DEnv K S H0 F0 H F σ Γ → ∀ R : It → Hp → Prop, (∀ J H' F', Gr H F H' F' → ItD K S κ H0 F' J ds → R J H') → t σ H R
theorem ei_list {t : TE} {ds : List PyData} (h : EvE K S κ t Γ (.list ds)) : EvI K S κ (iList K t) Γ ds := fun H0 F0 H F σ e R q =>
  h H0 F0 H F σ e _ fun v H1 F1 g1 p1 => by
    obtain ⟨a, vs, rfl, h1, h2⟩ := rp_lst p1
    have hl := RpAll.length h2
    have up : ∀ {F' H' : Hp}, Same F1 F' → Same F' H' → SqL K H' a vs := fun s1 s2 => (s1.trans s2).seq h1.sq
    refine ⟨a, rfl, ⟨vs, up (.refl _) g1.le⟩, q _ H1 F1 g1 ⟨fun i H' F' s1 s2 hi => ?_, fun i H' F' x H'' s1 s2 _ hi y => ?_, fun H' F' s1 s2 => ?_⟩⟩
    · exact ⟨vs, vs[i]'(by omega), up s1 s2, by simp⟩
    · obtain ⟨rfl, y⟩ := y
      obtain ⟨d, hd, hp⟩ := RpAll.get' h2 (y vs (up s1 s2))
      exact ⟨d, F', hd, .refl s2, rp_mono s1 hp⟩
    · exact ⟨vs, up s1 s2, by omega⟩
theorem ei_rng1 {t : TA} {n : Int} (h : EvA K S false t Γ [.int n]) (h1 : -(2 ^ 62) ≤ n) (h2 : n < 2 ^ 62) : EvI K S κ (iRng1 t) Γ ((List.range n.toNat).map fun i : Nat => .int (i : Int)) := fun H0 F0 H F σ e R q =>
  h H0 F0 H F σ e _ fun vs H1 F1 g1 p1 => by
    cases p1 with
    | cons p p1 =>
      cases p1
      cases rp_int p
      refine ⟨n, rfl, h1, h2, q _ H1 F1 g1 ⟨fun i H' F' s1 s2 hi => ?_, fun i H' F' x H'' s1 s2 _ hi y => ?_, fun H' F' s1 s2 => ?_⟩⟩
      · show i < n.toNat
        simpa using hi
      · obtain ⟨rfl, rfl⟩ := y
        have hi' : i < n.toNat := by simpa using hi
        refine ⟨.int i, F', by simp [hi'], .refl s2, ?_⟩
        have : (0 : Int) + (i : Int) = i := by omega
        rw [this]; exact .int _
      · show n.toNat ≤ _
        simp
theorem ei_rng2 {t : TA} {m n : Int} (h : EvA K S false t Γ [.int m, .int n]) (h1 : -(2 ^ 62) ≤ m ∧ m < 2 ^ 62 ∧ -(2 ^ 62) ≤ n ∧ n < 2 ^ 62) : EvI K S κ (iRng2 t) Γ ((List.range (n - m).toNat).map fun i : Nat => .int (m + (i : Int))) := fun H0 F0 H F σ e R q =>
  h H0 F0 H F σ e _ fun vs H1 F1 g1 p1 => by
    cases p1 with
    | cons p p1 =>
      cases p1 with
      | cons p' p1 =>
        cases p1
        cases rp_int p
        cases rp_int p'
        refine ⟨m, n, rfl, h1, q _ H1 F1 g1 ⟨fun i H' F' s1 s2 hi => ?_, fun i H' F' x H'' s1 s2 _ hi y => ?_, fun H' F' s1 s2 => ?_⟩⟩
        · show i < (n - m).toNat
          simpa using hi
        · obtain ⟨rfl, rfl⟩ := y
          have hi' : i < (n - m).toNat := by simpa using hi
          exact ⟨.int (m + i), F', by simp [hi'], .refl s2, .int _⟩
        · show (n - m).toNat ≤ _
          simp
theorem evo_listRev {t : TE} {xs : List PyData} (h : EvL K S κ t Γ xs) : EvO K S κ (tListRev K (tCons t tNil)) Γ xs.reverse := fun H0 F0 H F σ e Q q =>
  h H0 F0 H F σ e _ fun a us H1 F1 g1 h1 h2 => ⟨a, us, rfl, h1, fun p hp => q p _ _ F1 (g1.trans (.newO g1.le hp _)) (g1.h.free hp) upd_same (g1.le.free hp) (RpAll.reverse h2)⟩
def captG (js : List (Option Nat)) (Γ : Ctx) : Ctx := js.map fun o => match o with | none => none | some j => (Γ[j]?).join
theorem captG_get {js : List (Option Nat)} {i : Nat} {d : DV} (h : (captG js Γ)[i]? = some (some d)) : ∃ j, js[i]? = some (some j) ∧ Γ[j]? = some (some d) := by
  unfold captG at h
  rw [List.getElem?_map] at h
  cases e : js[i]? with
  | none => rw [e] at h; cases h
  | some o =>
    rw [e] at h
    cases o with
    | none => cases h
    | some j =>
      refine ⟨j, rfl, ?_⟩
      have h' : (Γ[j]?).join = some d := Option.some.inj h
      cases q : Γ[j]? with
      | none => rw [q] at h'; cases h'
      | some o => rw [q] at h'; exact congrArg some h'
theorem capt_get {js : List (Option Nat)} {σ : St} {i j : Nat} {v : V} (h : js[i]? = some (some j)) (k : σ[j]? = some (some v)) : (capt js σ)[i]? = some (some v) := by
  unfold capt
  rw [List.getElem?_map, h]
  show some ((σ[j]?).join) = _
  rw [k]; rfl
theorem DEnv.capt {H0 F0 H F : Hp} {σ : St} {js : List (Option Nat)} (e : DEnv K S H0 F0 H F σ Γ) (hj : ∀ i j k : Nat, js[i]? = some (some k) → js[j]? = some (some k) → i = j) : DEnv K S H0 F0 H F (L2.capt js σ) (captG js Γ) := by
  refine ⟨e.gr, e.l0, e.sd, e.s0, by unfold L2.capt captG; simp, fun i d h => ?_, fun i j x y v w a h1 h2 h3 h4 o1 o2 => ?_⟩
  · obtain ⟨j, e1, e2⟩ := captG_get h
    obtain ⟨v, e3, e4⟩ := e.has j d e2
    exact ⟨v, capt_get e1 e3, e4⟩
  · obtain ⟨m, e1, e2⟩ := captG_get h1
    obtain ⟨n, e3, e4⟩ := captG_get h2
    obtain ⟨v1, q1, _⟩ := e.has m x e2
    obtain ⟨v2, q2, _⟩ := e.has n y e4
    have c1 := capt_get (σ := σ) e1 q1
    have c2 := capt_get (σ := σ) e3 q2
    rw [h3] at c1
    rw [h4] at c2
    cases c1
    cases c2
    have := e.ne m n x y v w a e2 e4 q1 q2 o1 o2
    subst this
    exact hj i j m e1 e3
theorem evo_comp {κ' : Bool} {js : List (Option Nat)} {wi : TI} {g : TG} {tt : TT} {te : TE} {is : List Nat} {ds : List PyData} (p : PyData → Bool) (f : PyData → PyData) (hi : EvI K S κ' wi Γ ds) (hjs : ∀ i ∈ is, js[i]? = some none) (hj : ∀ i j k : Nat, js[i]? = some (some k) → js[j]? = some (some k) → i = j)
    (hz : ds.length ≤ sizeLine) (hb : ∀ d ∈ ds, ExG K S κ' g is d (captG js Γ) fun Γ' => EvT K S tt Γ' (p d) ∧ (p d = true → EvE K S κ te Γ' (f d))) : EvO K S κ (tComp js wi g tt te) Γ ((ds.filter p).map f) := fun H0 F0 H F σ e Q q =>
  hi H0 F0 H F σ e _ fun J H1 F1 g1 I1 => by
    intro D hD
    have sdm : ∀ {H2 F2 : Hp}, Gr H1 F1 H2 F2 → ∀ a, S.has H0 a → ∃ o, H2 a = some o := fun g2 a c => let ⟨o, z⟩ := (e.mono g1).sd a c; ⟨o, g2.h _ _ z⟩
    refine ⟨fun i m ys H2 => m = ds.length - i ∧ i ≤ ds.length ∧ ∃ F2, Gr H1 F1 H2 F2 ∧ H2 D = some (.lst ys) ∧ F2 D = none ∧ RpAll K κ S H0 F2 ys (((ds.take i).filter p).map f), ⟨_, rfl, Nat.zero_le _, F1, .newO g1.le hD _, upd_same, g1.le.free hD, .nil⟩, ?_⟩
    rintro i m ys H2 ⟨rfl, hi, F2, g2, hl, fl, k2⟩
    by_cases hlt : i < ds.length
    · refine .inr ⟨I1.go i H2 F2 g2.f g2.le hlt, fun zs H3 => i + 1 ≤ ds.length ∧ ∃ F2, Gr H1 F1 H3 F2 ∧ H3 D = some (.lst zs) ∧ F2 D = none ∧ RpAll K κ S H0 F2 zs (((ds.take (i + 1)).filter p).map f), fun zs H3 h3 => ⟨ds.length - (i + 1), by omega, rfl, h3⟩, fun x H3 y => ?_⟩
      obtain ⟨d, F3, hd, g3, p3⟩ := I1.yld i H2 F2 x H3 g2.f g2.le (sdm g2) hlt y
      have hl3 := g3.h _ _ hl
      have fl3 := g3.ap _ _ hl fl
      have E3 := ((e.mono g1).mono (g2.trans g3)).capt hj
      refine hb d (List.mem_of_getElem? hd) H0 F0 H3 F3 _ x E3 p3 _ fun Γ' σ' H4 F4 hΓ g4 E4 len4 out4 => ?_
      obtain ⟨ht, he⟩ := hΓ
      have hl4 := g4.h _ _ hl3
      have fl4 := g4.ap _ _ hl3 fl3
      have tk : ds.take (i + 1) = ds.take i ++ [d] := by rw [List.take_add_one, hd]; rfl
      refine ⟨⟨len4.symm, fun j v hv => ?_⟩, ht H0 F0 H4 F4 σ' E4 _ fun H5 F5 g5 => ?_⟩
      · by_cases hjj : j ∈ is
        · have := hjs j hjj
          unfold L2.capt at hv
          rw [List.getElem?_map, this] at hv
          cases hv
        · rw [out4 j hjj]; exact hv
      have hl5 := g5.h _ _ hl4
      have fl5 := g5.ap _ _ hl4 fl4
      cases hpd : p d with
      | false =>
        refine iteF ⟨hlt, F5, g2.trans ((g3.trans g4).trans g5), hl5, fl5, ?_⟩
        rw [tk, List.filter_append, List.map_append]
        simp only [List.filter_cons, hpd, List.filter_nil]
        simpa using rpAll_mono ((g3.trans g4).trans g5).f k2
      | true =>
        refine iteT (he hpd H0 F0 H5 F5 σ' (E4.mono g5) _ fun v H6 F6 g6 p6 => ?_)
        have hl6 := g6.h _ _ hl5
        have fl6 := g6.ap _ _ hl5 fl5
        have gg := (g3.trans g4).trans (g5.trans g6)
        have G6 := g2.trans gg
        refine ⟨hl6, ?_, hlt, F6, ⟨fun b u z => ?_, G6.f, fun b u z => ?_, G6.ap⟩, upd_same, fl6, ?_⟩
        · have h1 := RpAll.length k2
          rw [List.length_map] at h1
          have h2 := List.length_filter_le p (ds.take i)
          rw [List.length_take] at h2
          omega
        · rw [upd_ne (ne_of_none z hD)]; exact G6.h _ _ z
        · rw [upd_ne (by rintro rfl; rw [fl6] at z; cases z)]; exact G6.le _ _ z
        · rw [tk, List.filter_append, List.map_append]
          simp only [List.filter_cons, hpd, List.filter_nil, if_true, List.map_cons, List.map_nil]
          exact RpAll.append (rpAll_mono gg.f k2) (.cons p6 .nil)
    · have ei : i = ds.length := by omega
      subst ei
      rw [List.take_length] at k2
      exact .inl ⟨I1.stop H2 F2 g2.f g2.le, q D ys H2 F2 (g1.trans g2) (g1.h.free hD) hl fl k2⟩
end
end PD
namespace PD
open PySem L2
section
variable {K : PySem.W.Frag} {S : Sx} {κ : Bool} {Γ : Ctx}
structure Post where
  nx : Ctx → Prop
  rt : PyData → Prop
  bk : Ctx → Prop := fun _ => False
  ct : Ctx → Prop := fun _ => False
  kr : Bool := false
structure Into (K : PySem.W.Frag) (S : Sx) (H0 F0 B : Hp) (P : Post) (D : Ends) : Prop where
  nx : ∀ Γ' σ' H' F', P.nx Γ' → Same B F' → DEnv K S H0 F0 H' F' σ' Γ' → D.nx σ' H'
  rt : ∀ d v H' F', P.rt d → Gr H0 F0 H' F' → Rp K P.kr .fresh H0 F' v d → D.rt v H'
  bk : ∀ Γ' σ' H' F', P.bk Γ' → Same B F' → DEnv K S H0 F0 H' F' σ' Γ' → D.bk σ' H'
  ct : ∀ Γ' σ' H' F', P.ct Γ' → Same B F' → DEnv K S H0 F0 H' F' σ' Γ' → D.ct σ' H'
theorem Into.mono {H0 F0 F F' : Hp} {P : Post} {D : Ends} (h : Into K S H0 F0 F P D) (s : Same F F') : Into K S H0 F0 F' P D :=
  ⟨fun Γ' σ' H' F' p s' => h.nx Γ' σ' H' F' p (s.trans s'), h.rt, fun Γ' σ' H' F' p s' => h.bk Γ' σ' H' F' p (s.trans s'), fun Γ' σ' H' F' p s' => h.ct Γ' σ' H' F' p (s.trans s')⟩
def Avoid (S : Sx) (B : Hp) : Prop := ∀ T, S = .spoil T → ∀ a xs, B a = some (.lst xs) → ¬ T a
def ExT (K : PySem.W.Frag) (S S' : Sx) (t : TS) (Γ : Ctx) (P : Post) : Prop := ∀ (H0 F0 H F : Hp) (σ : St) (B : Hp), DEnv K S H0 F0 H F σ Γ → Same B F → (S' = S ∨ Avoid S B) → ∀ D : Ends, Into K S' H0 F0 B P D → t D σ H
abbrev ExS (K : PySem.W.Frag) (S : Sx) (t : TS) (Γ : Ctx) (P : Post) : Prop := ExT K S S t Γ P
variable {S' : Sx}
variable {P : Post}
theorem ExS.eq {t : TS} {Γ' : Ctx} (h : ExT K S S' t Γ' P) (e : Γ = Γ') : ExT K S S' t Γ P := e ▸ h
theorem ex_next (h : P.nx Γ) : ExS K S tNext Γ P := fun H0 F0 H F σ B e b _ D I => I.nx Γ σ H F h b e
abbrev Post.to (P : Post) (N : Ctx → Prop) : Post := { P with nx := N, bk := fun _ => False, ct := fun _ => False }
theorem ex_seq {t u : TS} (N : Ctx → Prop) (h1 : ExT K S S t Γ { P with nx := N, bk := fun _ => False, ct := fun _ => False }) (h2 : ∀ Γ', N Γ' → ExT K S S' u Γ' P) : ExT K S S' (tSeq t u) Γ P := fun H0 F0 H F σ B e b v D I =>
  h1 H0 F0 H F σ B e b (.inl rfl) { D with nx := u D } ⟨fun Γ' σ' H' F' n s e' => h2 Γ' n H0 F0 H' F' σ' B e' s v D I, I.rt, fun _ _ _ _ z => z.elim, fun _ _ _ _ z => z.elim⟩
theorem has_fresh {H0 : Hp} {a : Addr} (h : ¬ S.has H0 a) : ¬ Sx.has .fresh H0 a := by
  cases S with
  | fresh => exact h
  | spoil T => exact fun c => h (.inl c)
theorem ret_kind {H0 F : Hp} {kr : Bool} {v : V} {d : PyData} (hk : (S = S ∧ κ = kr) ∨ kr = false) (p : Rp K κ S H0 F v d) : Rp K kr .fresh H0 F v d := by
  rcases hk with ⟨_, rfl⟩ | rfl
  · cases κ with
    | false => exact dp_rp (rp_dp p)
    | true => exact rp_map (κ := true) (κ' := true) (fun a xs z => ⟨z.1, has_fresh z.2⟩) (fun _ _ z => z) p
  · exact dp_rp (rp_dp p)
theorem ex_ret {te : TE} {d : PyData} (κ : Bool) (h : EvE K S κ te Γ d) (hr : P.rt d) (hk : (S = S ∧ κ = P.kr) ∨ P.kr = false) : ExT K S S' (tRet te) Γ P := fun H0 F0 H F σ B e b _ D I => h H0 F0 H F σ e _ fun v H' F' g p => I.rt d v H' F' hr (e.gr.trans g) (ret_kind hk p)
theorem ex_freeze {t : TS} (i : Nat) {ds : List PyData} (h : Γ[i]? = some (some (.ow κ ds))) (k : ExT K S S' t (Γ.set i (some (.fz κ (.list ds)))) P) : ExT K S S' t Γ P := fun H0 F0 H F σ B e b v D I => by
  obtain ⟨F', s, e'⟩ := e.freeze h
  exact k H0 F0 H F' σ B e' (b.trans s) v D I
theorem ex_retO {i : Nat} {ds : List PyData} (h : Γ[i]? = some (some (.ow κ ds))) (hr : P.rt (.list ds)) (hk : (S = S ∧ κ = P.kr) ∨ P.kr = false) : ExT K S S' (tRet (tVar i)) Γ P :=
  ex_freeze i h (ex_ret κ (ev_var (by rw [List.getElem?_set_self (List.getElem?_eq_some_iff.mp h).1])) hr hk)
theorem ex_set {te : TE} {i : Nat} {d : PyData} (h : EvE K S κ te Γ d) (k : P.nx (Γ.set i (some (.fz κ d)))) : ExS K S (tAsg te (gName i)) Γ P := fun H0 F0 H F σ B e b _ D I =>
  h H0 F0 H F σ e _ fun v H' F' g p => I.nx _ _ H' F' k (b.trans g.f) ((e.mono g).setF p)
theorem ex_setO {te : TE} {i : Nat} {ds : List PyData} (h : EvO K S κ te Γ ds) (k : P.nx (Γ.set i (some (.ow κ ds)))) : ExS K S (tAsg te (gName i)) Γ P := fun H0 F0 H F σ B e b _ D I =>
  h H0 F0 H F σ e _ fun a vs H' F' g n p f q => I.nx _ _ H' F' k (b.trans g.f) ((e.mono g).set (x := .ow κ ds) ⟨a, vs, rfl, ⟨p, f, e.gr.h.free n, e.out n⟩, q⟩ fun c oc j y w hj z hw o => by
    cases (show V.ref a = .ref c from oc)
    obtain ⟨v, q1, q2⟩ := e.has j y z
    rw [hw] at q1
    cases q1
    obtain ⟨us, w1⟩ := q2.owns (o.back q2 fun _ _ z => g.h _ _ z.h)
    have := w1.h
    rw [n] at this; cases this)
theorem ex_asg {te : TE} {g : TG} {js : List Nat} {d : PyData} (h : EvE K S κ te Γ d) (hg : ExG K S κ g js d Γ P.nx) : ExS K S (tAsg te g) Γ P := fun H0 F0 H F σ B e b _ D I =>
  h H0 F0 H F σ e _ fun v H1 F1 g1 p1 => hg H0 F0 H1 F1 σ v (e.mono g1) p1 _ fun Γ' σ' H' F' n g2 e' _ _ => I.nx Γ' σ' H' F' n (b.trans (g1.f.trans g2.f)) e'
theorem ex_append {te : TE} {i : Nat} {ds : List PyData} {d : PyData} (h : Γ[i]? = some (some (.ow κ ds))) (he : EvE K S κ te Γ d) (hz : ds.length < sizeLine) (k : P.nx (Γ.set i (some (.ow κ (ds ++ [d]))))) : ExS K S (tDrop (tBM K "list" rAppend (tVar i) (tCons te tNil))) Γ P := fun H0 F0 H F σ B e b _ D I => by
  obtain ⟨v0, q1, a, vs, rfl, w, q5⟩ := e.has i _ h
  refine ⟨_, q1, .inl ⟨rfl, _, SqL.of w.h⟩, he H0 F0 H F σ e _ fun v H' F' g p => ?_⟩
  have k' := rpAll_mono g.f q5
  refine ⟨a, vs, v, rfl, rfl, g.h _ _ w.h, by rw [RpAll.length q5]; exact hz, ?_⟩
  exact I.nx _ _ _ F' k (b.trans g.f) ((e.mono g).put (y := .ow κ (ds ++ [d])) h q1 (show Owns H' (.ref a) (.ow κ ds) a from rfl) ⟨a, _, rfl, ⟨upd_same, (w.mono g).f, w.n, w.s⟩, RpAll.append k' (.cons p .nil)⟩ fun _ z => z)
theorem ex_if {c : TT} {t u : TS} {b : Bool} (hc : EvT K S c Γ b) (h1 : b = true → ExT K S S' t Γ P) (h2 : b = false → ExT K S S' u Γ P) : ExT K S S' (tIfS c t u) Γ P := fun H0 F0 H F σ B e bb v D I =>
  hc H0 F0 H F σ e _ fun H' F' g => by
    cases b with
    | true => exact iteT (h1 rfl H0 F0 H' F' σ B (e.mono g) (bb.trans g.f) v D I)
    | false => exact iteF (h2 rfl H0 F0 H' F' σ B (e.mono g) (bb.trans g.f) v D I)
theorem ex_for {wi : TI} {g : TG} {tb : TS} {ds : List PyData} (κ : Bool) (Iv : Nat → Ctx → Prop) (hi : EvI K S κ wi Γ ds) (h0 : Iv 0 Γ)
    (hs : ∀ i d Γ', ds[i]? = some d → Iv i Γ' → ∃ js, ExG K S κ g js d Γ' fun Γ'' => ExS K S tb Γ'' { nx := Iv (i + 1), rt := P.rt, bk := P.nx, ct := Iv (i + 1), kr := P.kr }) (hd : ∀ Γ', Iv ds.length Γ' → P.nx Γ') : ExS K S (tFor wi g tb) Γ P := fun H0 F0 H F σ B e b _ D I =>
  hi H0 F0 H F σ e _ fun J H1 F1 g1 I1 => by
    refine ⟨fun i m σ2 H2 => m = ds.length - i ∧ i ≤ ds.length ∧ ∃ Γ2 F2, Iv i Γ2 ∧ Same F1 F2 ∧ DEnv K S H0 F0 H2 F2 σ2 Γ2, ⟨_, rfl, Nat.zero_le _, Γ, F1, h0, .refl _, e.mono g1⟩, ?_⟩
    rintro i m σ2 H2 ⟨rfl, hi, Γ2, F2, v2, s2, e2⟩
    have b1 : Same B F1 := b.trans g1.f
    by_cases hlt : i < ds.length
    · refine .inr ⟨I1.go i H2 F2 s2 e2.le hlt, fun σ3 H3 => i + 1 ≤ ds.length ∧ ∃ Γ3 F3, Iv (i + 1) Γ3 ∧ Same F1 F3 ∧ DEnv K S H0 F0 H3 F3 σ3 Γ3, fun σ3 H3 h3 => ⟨_, by omega, rfl, h3⟩, fun x H3 y => ?_⟩
      obtain ⟨d, F3, hd, g3, p3⟩ := I1.yld i H2 F2 x H3 s2 e2.le e2.sd hlt y
      obtain ⟨js, hg⟩ := hs i d Γ2 hd v2
      refine hg H0 F0 H3 F3 σ2 x (e2.mono g3) p3 _ fun Γ' σ' H4 F4 k4 g4 e4 _ _ => ?_
      have s4 : Same F1 F4 := s2.trans (g3.f.trans g4.f)
      exact k4 H0 F0 H4 F4 σ' F1 e4 s4 (.inl rfl) _ ⟨fun Γ5 σ5 H5 F5 n s5 e5 => ⟨hlt, Γ5, F5, n, s5, e5⟩, I.rt, fun Γ5 σ5 H5 F5 n s5 e5 => I.nx Γ5 σ5 H5 F5 n (b1.trans s5) e5, fun Γ5 σ5 H5 F5 n s5 e5 => ⟨hlt, Γ5, F5, n, s5, e5⟩⟩
    · have ei : i = ds.length := by omega
      subst ei
      exact .inl ⟨I1.stop H2 F2 s2 e2.le, I.nx Γ2 σ2 H2 F2 (hd Γ2 v2) (b1.trans s2) e2⟩
theorem ex_while {c : TT} {tb : TS} (Iv : Nat → Ctx → Prop) (m0 : Nat) (h0 : Iv m0 Γ)
    (hs : ∀ m Γ', Iv m Γ' → ∃ b, EvT K S c Γ' b ∧ (b = true → ExS K S tb Γ' { nx := fun Γ'' => ∃ m', m' < m ∧ Iv m' Γ'', rt := P.rt, bk := P.nx, ct := fun Γ'' => ∃ m', m' < m ∧ Iv m' Γ'', kr := P.kr }) ∧ (b = false → P.nx Γ')) : ExS K S (tWhile c tb) Γ P := fun H0 F0 H F σ B e bb _ D I => by
  refine ⟨fun m σ2 H2 => ∃ Γ2 F2, Iv m Γ2 ∧ Same B F2 ∧ DEnv K S H0 F0 H2 F2 σ2 Γ2, ⟨m0, Γ, F, h0, bb, e⟩, ?_⟩
  rintro m σ2 H2 ⟨Γ2, F2, v2, s2, e2⟩
  obtain ⟨b, hc, h1, h2⟩ := hs m Γ2 v2
  refine hc H0 F0 H2 F2 σ2 e2 _ fun H3 F3 g3 => ?_
  have s3 := s2.trans g3.f
  cases b with
  | true =>
    refine iteT ⟨fun σ4 H4 => ∃ m', m' < m ∧ ∃ Γ4 F4, Iv m' Γ4 ∧ Same B F4 ∧ DEnv K S H0 F0 H4 F4 σ4 Γ4, fun σ4 H4 ⟨m', hm, h⟩ => ⟨m', hm, h⟩, ?_⟩
    exact h1 rfl H0 F0 H3 F3 σ2 B (e2.mono g3) s3 (.inl rfl) _ ⟨fun Γ5 σ5 H5 F5 ⟨m', hm, n⟩ s5 e5 => ⟨m', hm, Γ5, F5, n, s5, e5⟩, I.rt, fun Γ5 σ5 H5 F5 n s5 e5 => I.nx Γ5 σ5 H5 F5 n s5 e5, fun Γ5 σ5 H5 F5 ⟨m', hm, n⟩ s5 e5 => ⟨m', hm, Γ5, F5, n, s5, e5⟩⟩
  | false => exact iteF (I.nx Γ2 σ2 H3 F3 (h2 rfl) s3 (e2.mono g3))
def startG (n : Nat) (ds : List PyData) : Ctx := ds.map (fun d => some (.fz false d)) ++ List.replicate (n - ds.length) none
theorem denv_start {H F : Hp} {N : List Str} {vs : List V} {ds : List PyData} (le : Same F H) (k : DpAll K F vs ds) : DEnv K .fresh H F H F (L2.start N vs) (startG N.length ds) := by
  have l := DpAll.length k
  have no : ∀ (i : Nat) (x : DV), (startG N.length ds)[i]? = some (some x) → ∃ d, x = .fz false d ∧ ds[i]? = some d := fun i x h => by
    unfold startG at h
    by_cases hi : i < ds.length
    · rw [List.getElem?_append_left (by simpa using hi), List.getElem?_map] at h
      rw [List.getElem?_eq_getElem hi] at h ⊢
      have h' : some (DV.fz false ds[i]) = some x := Option.some.inj h
      exact ⟨_, (Option.some.inj h').symm, rfl⟩
    · rw [List.getElem?_append_right (by simpa using Nat.le_of_not_lt hi)] at h
      rw [List.getElem?_replicate] at h
      split at h <;> cases h
  refine ⟨.refl le, le, fun a c => ?_, fun T z => (nomatch z), by unfold L2.start startG; simp [l], fun i x h => ?_, fun i j x y v w a h _ _ _ o => ?_⟩
  · cases q : H a with
    | none => exact absurd q c
    | some o => exact ⟨o, rfl⟩
  · obtain ⟨d', e, h'⟩ := no i _ h
    cases e
    obtain ⟨v, h1, h2⟩ := DpAll.get k h'
    refine ⟨v, ?_, dp_rp h2⟩
    unfold L2.start
    have hi := (List.getElem?_eq_some_iff.mp h1).1
    rw [List.getElem?_append_left (by simpa using hi), List.getElem?_map, h1]
    rfl
  · obtain ⟨d', e, _⟩ := no i _ h
    cases e
    exact o.elim
theorem run_body {t : TS} {N : List Str} {H F : Hp} {vs : List V} {ds : List PyData} {d : PyData} {Q : VK} {Γ : Ctx} (hΓ : startG N.length ds = Γ) (h : ExS K .fresh t Γ { nx := fun _ => d = .none, rt := fun x => x = d, kr := κ }) (le : Same F H) (k : DpAll K F vs ds)
    (q : ∀ v H' F', Gr H F H' F' → Rp K κ .fresh H F' v d → Q v H') : t { nx := fun _ H' => Q .non H', rt := Q } (L2.start N vs) H := by
  subst hΓ
  refine h H F H F (L2.start N vs) F (denv_start le k) (.refl _) (.inl rfl) _ ⟨fun Γ' σ' H' F' n _ e => ?_, fun d' v H' F' e g p => ?_, fun _ _ _ _ z => z.elim, fun _ _ _ _ z => z.elim⟩
  · have n' : d = .none := n
    subst n'
    exact q .non H' F' e.gr .non
  · have e' : d' = d := e
    subst e'
    exact q v H' F' g p
theorem spD_len {pre : List PyData → PyData → Prop} {n : Nat} (h : ∀ ds d, pre ds d → ds.length = n) {vs : List V} {H : Hp} {Q : VK} {E : XK} (s : spD K κ pre vs H Q E) : vs.length = n := by
  obtain ⟨F, ds, d, _, k, p, _⟩ := s
  rw [DpAll.length k]
  exact h ds d p
inductive MkD : DV → DV → Prop
  | fz {d : PyData} : MkD (.fz true d) (.fz true d)
  | im {κ : Bool} {d : PyData} : imm d = true → MkD (.fz κ d) (.fz true d)
  | ow {ds : List PyData} : MkD (.ow true ds) (.ow true ds)
  | oi {κ : Bool} {ds : List PyData} : (∀ d ∈ ds, imm d = true) → MkD (.ow κ ds) (.ow true ds)
  | ox : MkD .ox .ox
  | fn {a : Addr} : MkD (.fn a) (.fn a)
inductive MarkC : Ctx → Ctx → Prop
  | nil : MarkC [] []
  | no {x : Option DV} {Γ Γ' : Ctx} : MarkC Γ Γ' → MarkC (x :: Γ) (none :: Γ')
  | got {x y : DV} {Γ Γ' : Ctx} : MkD x y → MarkC Γ Γ' → MarkC (some x :: Γ) (some y :: Γ')
theorem MarkC.len {Γ Γ' : Ctx} (h : MarkC Γ Γ') : Γ.length = Γ'.length := by
  induction h with
  | nil => rfl
  | no _ ih => exact congrArg (· + 1) ih
  | got _ _ ih => exact congrArg (· + 1) ih
theorem MarkC.get {Γ Γ' : Ctx} (h : MarkC Γ Γ') : ∀ {i : Nat} {x : DV}, Γ'[i]? = some (some x) → ∃ y, Γ[i]? = some (some y) ∧ MkD y x := by
  induction h with
  | nil => intro i x e; simp at e
  | no _ ih =>
    intro i x e
    cases i with
    | zero => simp at e
    | succ i => exact ih (i := i) (by simpa using e)
  | @got a b _ _ m _ ih =>
    intro i x e
    cases i with
    | zero =>
      have e' : b = x := by simpa using e
      subst e'
      exact ⟨a, rfl, m⟩
    | succ i => exact ih (i := i) (by simpa using e)
theorem MkD.owns {x y : DV} {H H' : Hp} {v : V} {a : Addr} (h : MkD y x) (o : Owns H' v x a) : Owns H v y a := by
  cases h <;> first | exact o | exact o.elim
def isLst : Option HO → Bool
  | some (.lst _) => true
  | _ => false
open Classical in
noncomputable def drop (T : Addr → Prop) (F : Hp) : Hp := fun a => if T a ∧ isLst (F a) = true then none else F a
theorem drop_some {T : Addr → Prop} {F : Hp} {a : Addr} {o : HO} : drop T F a = some o ↔ F a = some o ∧ ¬ (T a ∧ isLst (some o) = true) := by
  unfold drop
  constructor
  · intro h
    split at h
    · cases h
    · rename_i c; rw [h] at c; exact ⟨h, c⟩
  · rintro ⟨h, c⟩
    rw [h, if_neg c]
inductive SpD : DV → DV → Prop
  | fz {d : PyData} : SpD (.fz true d) (.fz true d)
  | im {κ : Bool} {d : PyData} : imm d = true → SpD (.fz κ d) (.fz true d)
  | ow {ds : List PyData} : SpD (.ow true ds) (.ow true ds)
  | oi {κ : Bool} {ds : List PyData} : (∀ d ∈ ds, imm d = true) → SpD (.ow κ ds) (.ow true ds)
  | ox : SpD .ox .ox
  | tn {ds : List PyData} : SpD (.tn (.list ds)) .ox
inductive SpC : Ctx → Ctx → Prop
  | nil : SpC [] []
  | no {x : Option DV} {Γ Γ' : Ctx} : SpC Γ Γ' → SpC (x :: Γ) (none :: Γ')
  | got {x y : DV} {Γ Γ' : Ctx} : SpD x y → SpC Γ Γ' → SpC (some x :: Γ) (some y :: Γ')
theorem SpC.len {Γ Γ' : Ctx} (h : SpC Γ Γ') : Γ.length = Γ'.length := by
  induction h with
  | nil => rfl
  | no _ ih => exact congrArg (· + 1) ih
  | got _ _ ih => exact congrArg (· + 1) ih
theorem SpC.get {Γ Γ' : Ctx} (h : SpC Γ Γ') : ∀ {i : Nat} {x : DV}, Γ'[i]? = some (some x) → ∃ y, Γ[i]? = some (some y) ∧ SpD y x := by
  induction h with
  | nil => intro i x e; simp at e
  | no _ ih =>
    intro i x e
    cases i with
    | zero => simp at e
    | succ i => exact ih (i := i) (by simpa using e)
  | @got a b _ _ m _ ih =>
    intro i x e
    cases i with
    | zero =>
      have e' : b = x := by simpa using e
      subst e'
      exact ⟨a, rfl, m⟩
    | succ i => exact ih (i := i) (by simpa using e)
def OneT (Γ : Ctx) : Prop := ∀ (i j : Nat) d f, Γ[i]? = some (some (.tn d)) → Γ[j]? = some (some (.tn f)) → i = j
end
end PD
namespace PD
open PySem L2
inductive SetC : Ctx → Nat → Option DV → Ctx → Prop
  | zero {a x : Option DV} {l : Ctx} : SetC (a :: l) 0 x (x :: l)
  | succ {a x : Option DV} {l l' : Ctx} {i : Nat} : SetC l i x l' → SetC (a :: l) (i + 1) x (a :: l')
theorem SetC.eq {Γ Γ' : Ctx} {i : Nat} {x : Option DV} (h : SetC Γ i x Γ') : Γ.set i x = Γ' := by
  induction h with
  | zero => rfl
  | succ _ ih => rw [List.set_cons_succ, ih]
inductive GetC : Ctx → Nat → DV → Prop
  | zero {x : DV} {l : Ctx} : GetC (some x :: l) 0 x
  | succ {a : Option DV} {x : DV} {l : Ctx} {i : Nat} : GetC l i x → GetC (a :: l) (i + 1) x
theorem GetC.eq {Γ : Ctx} {i : Nat} {x : DV} (h : GetC Γ i x) : Γ[i]? = some (some x) := by
  induction h with
  | zero => rfl
  | succ _ ih => rw [List.getElem?_cons_succ, ih]
inductive CaptC : List (Option Nat) → Ctx → Ctx → Prop
  | nil {Γ : Ctx} : CaptC [] Γ []
  | no {js : List (Option Nat)} {Γ Γ' : Ctx} : CaptC js Γ Γ' → CaptC (none :: js) Γ (none :: Γ')
  | got {js : List (Option Nat)} {Γ Γ' : Ctx} {j : Nat} {x : DV} : GetC Γ j x → CaptC js Γ Γ' → CaptC (some j :: js) Γ (some x :: Γ')
theorem CaptC.eq {js : List (Option Nat)} {Γ Γ' : Ctx} (h : CaptC js Γ Γ') : captG js Γ = Γ' := by
  induction h with
  | nil => rfl
  | no _ ih =>
    unfold captG at ih ⊢
    rw [List.map_cons, ih]
  | got g _ ih =>
    unfold captG at ih ⊢
    rw [List.map_cons, ih]
    show (Option.join _ :: _) = _
    rw [g.eq]
    rfl
section
variable {K : PySem.W.Frag} {S S' : Sx} {κ κ' : Bool} {Γ Γ' Γ'' : Ctx} {P : Post}
theorem evv {i : Nat} {d : PyData} (h : GetC Γ i (.fz κ' d)) (hk : κ = true → κ' = true) : EvE K S κ (tVar i) Γ d := (ev_var h.eq).weak hk
theorem evi {i : Nat} {d : PyData} (h : GetC Γ i (.fz κ' d)) (hk : imm d = true) : EvE K S κ (tVar i) Γ d := (ev_var h.eq).imm hk
theorem evtn {i : Nat} {d : PyData} (h : GetC Γ i (.tn d)) : EvE K S false (tVar i) Γ d := ev_tnt h.eq
theorem EvL.weak {t : TE} {ds : List PyData} (h : EvL K S κ' t Γ ds) (hk : κ = true → κ' = true) : EvL K S κ t Γ ds := fun H0 F0 H F σ e Q q => h H0 F0 H F σ e Q fun a vs H' F' g p k => q a vs H' F' g p (by
  cases κ with
  | false => exact dpAll_rp (rpAll_dp k)
  | true => rw [hk rfl] at k; exact k)
theorem evw {i : Nat} {ds : List PyData} (h : GetC Γ i (.ow κ' ds)) (hk : κ = true → κ' = true) : EvL K S κ (tVar i) Γ ds := (evl_own h.eq).weak hk
theorem exs {te : TE} {u : TS} {i : Nat} {d : PyData} (κ : Bool) (h : EvE K S κ te Γ d) (e : SetC Γ i (some (.fz κ d)) Γ') (k : ExT K S S' u Γ' P) : ExT K S S' (tSeq (tAsg te (gName i)) u) Γ P := ex_seq (· = Γ') (ex_set h e.eq) fun _ z => z ▸ k
theorem exs1 {te : TE} {i : Nat} {d : PyData} (κ : Bool) (h : EvE K S κ te Γ d) (e : SetC Γ i (some (.fz κ d)) Γ') (k : P.nx Γ') : ExS K S (tAsg te (gName i)) Γ P := ex_set h (e.eq ▸ k)
theorem exo {te : TE} {u : TS} {i : Nat} {ds : List PyData} (κ : Bool) (h : EvO K S κ te Γ ds) (e : SetC Γ i (some (.ow κ ds)) Γ') (k : ExT K S S' u Γ' P) : ExT K S S' (tSeq (tAsg te (gName i)) u) Γ P := ex_seq (· = Γ') (ex_setO h e.eq) fun _ z => z ▸ k
theorem exo1 {te : TE} {i : Nat} {ds : List PyData} (κ : Bool) (h : EvO K S κ te Γ ds) (e : SetC Γ i (some (.ow κ ds)) Γ') (k : P.nx Γ') : ExS K S (tAsg te (gName i)) Γ P := ex_setO h (e.eq ▸ k)
theorem exa {te : TE} {u : TS} {i : Nat} {ds : List PyData} {d : PyData} (h : GetC Γ i (.ow κ ds)) (he : EvE K S κ te Γ d) (e : SetC Γ i (some (.ow κ (ds ++ [d]))) Γ') (hz : ds.length < sizeLine) (k : ExT K S S' u Γ' P) : ExT K S S' (tSeq (tDrop (tBM K "list" rAppend (tVar i) (tCons te tNil))) u) Γ P := ex_seq (· = Γ') (ex_append h.eq he hz e.eq) fun _ z => z ▸ k
theorem exa1 {te : TE} {i : Nat} {ds : List PyData} {d : PyData} (h : GetC Γ i (.ow κ ds)) (he : EvE K S κ te Γ d) (e : SetC Γ i (some (.ow κ (ds ++ [d]))) Γ') (hz : ds.length < sizeLine) (k : P.nx Γ') : ExS K S (tDrop (tBM K "list" rAppend (tVar i) (tCons te tNil))) Γ P := ex_append h.eq he hz (e.eq ▸ k)
theorem egn {i : Nat} {d : PyData} {k : Ctx → Prop} (e : SetC Γ i (some (.fz κ d)) Γ') (h : k Γ') : ExG K S κ (gName i) [i] d Γ k := eg_name (by rw [e.eq]; exact h)
theorem egt {i j : Nat} {x y : PyData} {k : Ctx → Prop} (e1 : SetC Γ i (some (.fz κ x)) Γ') (e2 : SetC Γ' j (some (.fz κ y)) Γ'') (h : k Γ'') : ExG K S κ (gTup K 2 (gCons (gName i) (gCons (gName j) gNil))) [i, j] (.tuple [x, y]) Γ k := eg_two (by rw [e1.eq, e2.eq]; exact h)
theorem exro {i : Nat} {ds : List PyData} (h : GetC Γ i (.ow κ ds)) (hr : P.rt (.list ds)) (hk : (S = S ∧ κ = P.kr) ∨ P.kr = false) : ExT K S S' (tRet (tVar i)) Γ P := ex_retO h.eq hr hk
theorem exif {c : TT} {t u v : TS} {b : Bool} (N : Ctx → Prop) (hc : EvT K S c Γ b) (h1 : b = true → ExS K S t Γ { P with nx := N, bk := fun _ => False, ct := fun _ => False }) (h2 : b = false → ExS K S u Γ { P with nx := N, bk := fun _ => False, ct := fun _ => False }) (k : ∀ Γ', N Γ' → ExT K S S' v Γ' P) : ExT K S S' (tSeq (tIfS c t u) v) Γ P := ex_seq N (ex_if hc h1 h2) k
theorem exif2 {c : TT} {t u v : TS} {b : Bool} (hc : EvT K S c Γ b) (h1 : b = true → ExT K S S' (tSeq t v) Γ P) (h2 : b = false → ExT K S S' (tSeq u v) Γ P) : ExT K S S' (tSeq (tIfS c t u) v) Γ P := fun H0 F0 H F σ B e bb vv D I => by
  refine hc H0 F0 H F σ e _ fun H' F' g => ?_
  cases b with
  | true => exact iteT (h1 rfl H0 F0 H' F' σ B (e.mono g) (bb.trans g.f) vv D I)
  | false => exact iteF (h2 rfl H0 F0 H' F' σ B (e.mono g) (bb.trans g.f) vv D I)
theorem exn {v : TS} (k : ExT K S S' v Γ P) : ExT K S S' (tSeq tNext v) Γ P := ex_seq (· = Γ) (ex_next rfl) fun _ z => z ▸ k
theorem exifF {c : TT} {t v : TS} {b : Bool} (hc : EvT K S c Γ b) (hb : b = false) (k : ExT K S S' v Γ P) : ExT K S S' (tSeq (tIfS c t tNext) v) Γ P := exif2 hc (fun h => by rw [hb] at h; cases h) fun _ => exn k
theorem exfor {wi : TI} {g : TG} {tb u : TS} {ds : List PyData} (κ : Bool) (Iv : Nat → Ctx → Prop) (hi : EvI K S κ wi Γ ds) (h0 : Iv 0 Γ)
    (hs : ∀ i d Γ', ds[i]? = some d → Iv i Γ' → ∃ js, ExG K S κ g js d Γ' fun Γ'' => ExS K S tb Γ'' { nx := Iv (i + 1), rt := P.rt, bk := Iv ds.length, ct := Iv (i + 1), kr := P.kr }) (hd : ∀ Γ', Iv ds.length Γ' → ExT K S S' u Γ' P) : ExT K S S' (tSeq (tFor wi g tb) u) Γ P := ex_seq (Iv ds.length) (ex_for κ Iv hi h0 hs fun _ h => h) hd
theorem exrs {te : TE} {v : TS} {d : PyData} (κ : Bool) (h : EvE K S κ te Γ d) (hr : P.rt d) (hk : (S = S ∧ κ = P.kr) ∨ P.kr = false) : ExT K S S' (tSeq (tRet te) v) Γ P := ex_seq (fun _ => False) (ex_ret κ h hr hk) fun _ z => z.elim
theorem evo_comp' {js : List (Option Nat)} {Γc : Ctx} {wi : TI} {g : TG} {tt : TT} {te : TE} {is : List Nat} {ds : List PyData} (κ' : Bool) (p : PyData → Bool) (f : PyData → PyData) (hi : EvI K S κ' wi Γ ds) (hc : CaptC js Γ Γc) (hjs : (is.all fun i => js[i]? == some none) = true)
    (hj : (js.filterMap id).Nodup) (hz : ds.length ≤ sizeLine) (hb : ∀ d ∈ ds, ExG K S κ' g is d Γc fun Γ' => EvT K S tt Γ' (p d) ∧ (p d = true → EvE K S κ te Γ' (f d))) : EvO K S κ (tComp js wi g tt te) Γ ((ds.filter p).map f) := by
  refine evo_comp p f hi (fun i hi => ?_) ?_ hz (by rw [hc.eq]; exact hb)
  · have := List.all_eq_true.mp hjs i hi
    simpa using this
  · intro i j k h1 h2
    clear hc hjs hi hb
    induction js generalizing i j with
    | nil => simp at h1
    | cons o js ih =>
      cases o with
      | none =>
        cases i with
        | zero => simp at h1
        | succ i =>
          cases j with
          | zero => simp at h2
          | succ j => rw [ih (by simpa using hj) i j (by simpa using h1) (by simpa using h2)]
      | some m =>
        have hj' : (m :: js.filterMap id).Nodup := by simpa using hj
        have hm := (List.nodup_cons.mp hj').1
        cases i with
        | zero =>
          cases j with
          | zero => rfl
          | succ j =>
            have e1 : m = k := by simpa using h1
            subst e1
            have h2' : js[j]? = some (some m) := by simpa using h2
            exact absurd (show m ∈ js.filterMap id from List.mem_filterMap.mpr ⟨some m, List.mem_of_getElem? h2', rfl⟩) hm
        | succ i =>
          cases j with
          | zero =>
            have e1 : m = k := by simpa using h2
            subst e1
            have h2' : js[i]? = some (some m) := by simpa using h1
            exact absurd (show m ∈ js.filterMap id from List.mem_filterMap.mpr ⟨some m, List.mem_of_getElem? h2', rfl⟩) hm
          | succ j => rw [ih (List.nodup_cons.mp hj').2 i j (by simpa using h1) (by simpa using h2)]
theorem evo_map {js : List (Option Nat)} {Γc : Ctx} {wi : TI} {g : TG} {te : TE} {is : List Nat} {ds : List PyData} (κ' : Bool) (f : PyData → PyData) (hi : EvI K S κ' wi Γ ds) (hc : CaptC js Γ Γc) (hjs : (is.all fun i => js[i]? == some none) = true)
    (hj : (js.filterMap id).Nodup) (hz : ds.length ≤ sizeLine) (hb : ∀ d ∈ ds, ExG K S κ' g is d Γc fun Γ' => EvE K S κ te Γ' (f d)) : EvO K S κ (tComp js wi g tYes te) Γ (ds.map f) := by
  have h := evo_comp' (K := K) (S := S) (κ := κ) (g := g) (tt := tYes) (te := te) (is := is) κ' (fun _ => true) f hi hc hjs hj hz fun d hd H0 F0 H F σ v e p Q q => hb d hd H0 F0 H F σ v e p Q fun Γ' σ' H' F' k => q Γ' σ' H' F' ⟨et_yes, fun _ => k⟩
  rwa [List.filter_eq_self.mpr (fun _ _ => rfl)] at h
end
end PD
namespace PD
open PySem L2
inductive StartC : Nat → List PyData → Ctx → Prop
  | z : StartC 0 [] []
  | no {n : Nat} {Γ : Ctx} : StartC n [] Γ → StartC (n + 1) [] (none :: Γ)
  | got {n : Nat} {d : PyData} {ds : List PyData} {Γ : Ctx} : StartC n ds Γ → StartC (n + 1) (d :: ds) (some (.fz false d) :: Γ)
theorem StartC.eq {n : Nat} {ds : List PyData} {Γ : Ctx} (h : StartC n ds Γ) : startG n ds = Γ := by
  induction h with
  | z => rfl
  | @no n Γ _ ih =>
    rw [← ih]
    unfold startG
    simp [List.replicate_succ]
  | @got n d ds Γ _ ih =>
    rw [← ih]
    unfold startG
    simp
theorem run_def {K : PySem.W.Frag} {κ : Bool} {t : TS} {N : List Str} {n : Nat} {H F : Hp} {vs : List V} {ds : List PyData} {d : PyData} {Q : VK} {Γ : Ctx} (le : Same F H) (k : DpAll K F vs ds) (q : ∀ v H' F', Gr H F H' F' → Rp K κ .fresh H F' v d → Q v H') (hn : N.length = n) (hΓ : StartC n ds Γ)
    (h : ExS K .fresh t Γ { nx := fun _ => d = .none, rt := fun x => x = d, kr := κ }) : t { nx := fun _ H' => Q .non H', rt := Q } (L2.start N vs) H := run_body (hn ▸ hΓ.eq) h le k q
end PD
namespace PD
open PySem L2
section
variable {K : PySem.W.Frag} {S : Sx} {κ : Bool} {Γ : Ctx}
theorem isE {t : TE} {d : PyData} (h : EvE K S κ t Γ d) : EvE K S κ t Γ d := h
theorem isL {t : TE} {d : List PyData} (h : EvL K S κ t Γ d) : EvL K S κ t Γ d := h
theorem isO {t : TE} {d : List PyData} (h : EvO K S κ t Γ d) : EvO K S κ t Γ d := h
theorem isD {t : TE} {d : PyData} (h : EvD K S t Γ d) : EvD K S t Γ d := h
theorem isT {t : TT} {d : Bool} (h : EvT K S t Γ d) : EvT K S t Γ d := h
theorem isA {t : TA} {d : List PyData} (h : EvA K S κ t Γ d) : EvA K S κ t Γ d := h
theorem isI {t : TI} {d : List PyData} (h : EvI K S κ t Γ d) : EvI K S κ t Γ d := h
end
theorem asm {p : Prop} (h : p) : p := h
theorem atI0 {α : Type} {a : α} {l : List α} : atI (a :: l) 0 = some a := by
  unfold atI ixN
  simp
theorem atI1 {α : Type} {a b : α} {l : List α} : atI (a :: b :: l) 1 = some b := by
  unfold atI ixN
  have h : (1 : Int) < ((a :: b :: l).length : Int) := by simp; omega
  rw [if_pos (by decide), if_pos h]
  rfl
theorem kit_of {K : PySem.W.Frag} {t c : Value} {b : Bool} (h : PySem.W.kitOne K t c = some b) : PySem.W.kitOne K t c = some b := h
end PD
namespace L2
open PySem PySem.Spec PyProof.Rows
section
variable {X : Cx} {K : PySem.W.Frag}
theorem pi_listK {tg l : Expr} {tl : TE} (hK : X.K = K) (hl : PE X l tl) : PI X tg l (iList K tl) := by subst hK; exact pi_list hl
variable {o e : Expr} {es : List Expr} {to : TE} {t : TA} {name : Str} {apos cpos : Pos} {T id : String} {r : V → List V → Hp → VK → Prop}
theorem pe_bmK (hK : X.K = K) (pa : PlainAttrs T) (slot : Slot T name id) (hty : typeOf (.builtin id) = pure (.type "method_descriptor")) (hm : MtR X id r) (ho : PE X o to) (ha : PA X (e :: es) t)
    (hbase : attributeBase o name X.env (eval o X.env) = eval o X.env := by rfl)
    (hfew : ((backTo cpos (starEach (e :: es) X.env)).all (fun x => !x.1) && (backToKw cpos (keywordEach [] X.env)).all (fun x => x.1.isSome)
      && decide ((e :: es).length + ([] : List Keyword).length + (if ([] : List Keyword).isEmpty then 0 else 1) < 30)) = true := by rfl)
    (hline : (apos.endLine == cpos.line) = true := by rfl) (hs : starEach (e :: es) X.env = (false, eval e X.env) :: starEach es X.env := by rfl) (hplain : (backTo cpos (starEach es X.env)).any (·.1) = false := by rfl) : PE X (.Call (.Attribute o name apos) (e :: es) [] cpos) (tBM K T r to t) := by subst hK; exact pe_bm pa slot hty hm ho ha hbase hfew hline hs hplain
end
end L2
namespace PD
open PySem L2
abbrev il (ns : List Int) : PyData := .list (ns.map .int)
def optD : Option Int → PyData
  | none => .none
  | some i => .int i
abbrev vl (vw : List (Option Int)) : PyData := .list (vw.map optD)
theorem imm_ints (ns : List Int) : ∀ d ∈ ns.map PyData.int, imm d = true := fun d hd => by
  obtain ⟨n, _, rfl⟩ := List.mem_map.mp hd
  rfl
theorem imm_opts (ns : List (Option Int)) : ∀ d ∈ ns.map optD, imm d = true := fun d hd => by
  obtain ⟨n, _, rfl⟩ := List.mem_map.mp hd
  cases n <;> rfl
section
variable {K : PySem.W.Frag} {S : Sx} {κ : Bool} {Γ : Ctx}
theorem evl_ints {t : TE} {ns : List Int} (h : EvE K S false t Γ (.list (ns.map .int))) : EvL K S κ t Γ (ns.map .int) := h.toL.imm (imm_ints ns)
theorem evl_opts {t : TE} {ns : List (Option Int)} (h : EvE K S false t Γ (.list (ns.map optD))) : EvL K S κ t Γ (ns.map optD) := h.toL.imm (imm_opts ns)
end
theorem get_map {α : Type} {g : α → PyData} {ns : List α} {i : Nat} {d : PyData} (h : (ns.map g)[i]? = some d) : ∃ n, ns[i]? = some n ∧ d = g n := by
  rw [List.getElem?_map] at h
  cases e : ns[i]? with
  | none => rw [e] at h; cases h
  | some n => rw [e] at h; exact ⟨n, rfl, (Option.some.inj h).symm⟩
theorem small_mul {i j : Int} (h0 : -(2 ^ 64) < j) (h1 : j < 2 ^ 64) : IntMulOk i j := .of_right (intBits_le_64 h0 h1)
theorem atI_map {α : Type} {g : α → PyData} {xs : List α} {i : Nat} {x : α} (h : xs[i]? = some x) : atI (xs.map g) (i : Int) = some (g x) := atI_nat (by rw [List.getElem?_map, h]; rfl)
theorem ixN_nat {n i : Nat} (h : i < n) : ixN n (i : Int) = some i := by
  unfold ixN
  rw [if_pos (by omega), if_pos (by omega)]
  simp
theorem range_get {n i : Nat} {d : PyData} (h : ((List.range n).map fun k : Nat => PyData.int (k : Int))[i]? = some d) : i < n ∧ d = .int i := by
  rw [List.getElem?_map] at h
  by_cases hi : i < n
  · rw [List.getElem?_range hi] at h
    exact ⟨hi, (Option.some.inj h).symm⟩
  · rw [List.getElem?_eq_none (by simp; omega)] at h
    cases h
theorem range_len (n : Nat) : ((List.range n).map fun k : Nat => PyData.int (k : Int)).length = n := by rw [List.length_map, List.length_range]
theorem cut_ints (ns : List Int) (k : Nat) : cutD (ns.map .int) none (some (k : Int)) = (ns.take k).map .int := by
  unfold cutD
  rw [HT.sIx_nat]
  show ((ns.map PyData.int).drop 0).take (min k (ns.map PyData.int).length - 0) = _
  rw [List.drop_zero, Nat.sub_zero, List.length_map, ← List.map_take]
  congr 1
  rcases Nat.le_total k ns.length with h | h
  · rw [Nat.min_eq_left h]
  · rw [Nat.min_eq_right h, List.take_of_length_le (Nat.le_refl _), List.take_of_length_le h]
end PD
namespace PD
open PySem L2
def isTn : Option DV → Bool
  | some (.tn _) => true
  | _ => false
theorem oneT_of {Γ : Ctx} (h : (Γ.filter isTn).length ≤ 1) : OneT Γ := by
  intro i j d f h1 h2
  have key : ∀ (Γ : Ctx), (Γ.filter isTn).length ≤ 1 → ∀ (i j : Nat), Γ[i]? = some (some (.tn d)) → Γ[j]? = some (some (.tn f)) → i = j := by
    intro Γ
    induction Γ with
    | nil => intro _ i j h1; simp at h1
    | cons x r ih =>
      intro hl i j h1 h2
      have no : isTn x = true → ∀ {m : Nat} {g : PyData}, r[m]? = some (some (.tn g)) → False := fun hx m g hm => by
        rw [List.filter_cons, if_pos hx, List.length_cons] at hl
        have : (some (DV.tn g)) ∈ r.filter isTn := List.mem_filter.mpr ⟨List.mem_of_getElem? hm, rfl⟩
        have := List.length_pos_of_mem this
        omega
      have hl' : (r.filter isTn).length ≤ 1 := by
        rw [List.filter_cons] at hl
        split at hl
        · rw [List.length_cons] at hl; omega
        · exact hl
      cases i with
      | zero =>
        cases j with
        | zero => rfl
        | succ j =>
          have e : x = some (.tn d) := by simpa using h1
          exact (no (by rw [e]; rfl) (by simpa using h2)).elim
      | succ i =>
        cases j with
        | zero =>
          have e : x = some (.tn f) := by simpa using h2
          exact (no (by rw [e]; rfl) (by simpa using h1)).elim
        | succ j => rw [ih hl' i j (by simpa using h1) (by simpa using h2)]
  exact key Γ h i j h1 h2
end PD
namespace L2
open PySem PySem.Spec PyProof.Rows
structure CalleeAt (P : Program) (w : World) (K : PySem.W.Frag) (mg : Str → Option Value) (base : Heap) (CX : CXT) (a : Addr) (ps : List Str) (k : Nat) (sp : Sp) : Prop where
  ex : ∃ fd, FnOk P w K mg base CX k a fd ps sp ∧ PySem.W.keepIn K (.ref a) = true ∧ Binds K fd ps []
theorem Callee.at {P : Program} {w : World} {K : PySem.W.Frag} {mg : Str → Option Value} {base : Heap} {CX : CXT} {x : Str} {ps : List Str} {k : Nat} {sp : Sp} (C : Callee P w K mg base CX x ps k sp) {a : Addr} (h : mg x = some (.ref a)) : CalleeAt P w K mg base CX a ps k sp := by
  obtain ⟨f, fd, F, hm, hk, hb⟩ := C.ex
  rw [h] at hm
  cases hm
  exact ⟨fd, F, hk, hb⟩
section
variable {X : Cx} {CX : CXT} {k : Nat} {ps : List Str} {sp : Sp} {E : XK} {x : Str} {p pos : Pos} {e : Expr} {es : List Expr} {t : TA}
end
end L2
namespace PD
open PySem L2
section
variable {K : PySem.W.Frag} {S S' : Sx} {κ : Bool} {Γ : Ctx} {P : Post}
end
end PD
namespace Sx2
open Sh Wd
theorem low_pos {a b : Int} (h : Low a b) : 1 ≤ b := h.pos
def smT : List (Int × Int) → Int × Int → Int × Int
  | [], x => x
  | y :: r, x => smT r (x.1 * y.2 + y.1 * x.2, x.2 * y.2)
def sm (xs : List (Int × Int)) : Int × Int := smT xs (0, 1)
structure TotOk (x X : Int × Int) : Prop where
  low : Low x.1 x.2
  pos : 1 ≤ X.2
  eq : x.1 * X.2 = X.1 * x.2
theorem TotOk.le {x X : Int × Int} (h : TotOk x X) : x.2 ≤ X.2 ∧ x.1.natAbs ≤ X.1.natAbs := by
  obtain ⟨t, b⟩ := x
  obtain ⟨T, B⟩ := X
  obtain ⟨lo, po, e⟩ := h
  have b1 : 1 ≤ b := low_pos lo
  have B1 : 1 ≤ B := po
  have e' : t * B = T * b := e
  have co : Int.gcd t b = 1 := lo.co
  have hd : b ∣ B := by
    have h1 : b.natAbs ∣ t.natAbs * B.natAbs := ⟨T.natAbs, by rw [← Int.natAbs_mul, e', Int.natAbs_mul, Nat.mul_comm]⟩
    have h2 : Nat.Coprime b.natAbs t.natAbs := by
      have : Nat.gcd t.natAbs b.natAbs = 1 := co
      exact Nat.Coprime.symm this
    exact Int.natAbs_dvd_natAbs.mp (h2.dvd_of_dvd_mul_left h1)
  have hle : b ≤ B := Int.le_of_dvd (by omega) hd
  refine ⟨hle, ?_⟩
  show t.natAbs ≤ T.natAbs
  have e2 : t.natAbs * B.natAbs = T.natAbs * b.natAbs := by rw [← Int.natAbs_mul, ← Int.natAbs_mul, e']
  have h3 : b.natAbs ≤ B.natAbs := by omega
  have h4 : 0 < B.natAbs := by omega
  refine Nat.le_of_mul_le_mul_right ?_ h4
  rw [e2]
  exact Nat.mul_le_mul_left _ h3
def pk (ss : List Int) (ks : List Nat) : List Int := ks.map fun k => ss.getD k 0
def mr (k : Nat) (w : List Int) (v : Int) : List Nat → Nat → List Int
  | [], _ => []
  | j :: r, c => if j = k then v :: mr k w v r c else w.getD c 0 :: mr k w v r (c + 1)
theorem mr_len (k : Nat) (w : List Int) (v : Int) : ∀ (xs : List Nat) (c : Nat), (mr k w v xs c).length = xs.length
  | [], _ => rfl
  | x :: r, c => by
    show (if x = k then v :: mr k w v r c else w.getD c 0 :: mr k w v r (c + 1)).length = r.length + 1
    split <;> simp [mr_len k w v r]
theorem rkf_bound : ∀ (ss ws : List Int) (a A : Int), ss.length = ws.length → (∀ (i : Nat) s v, ss[i]? = some s → ws[i]? = some v → 0 ≤ v ∧ v < s) → 0 ≤ a → a < A → 0 ≤ (ss.zip ws).foldl (fun a x => a * x.1 + x.2) a ∧ (ss.zip ws).foldl (fun a x => a * x.1 + x.2) a < A * prod ss
  | [], [], a, A, _, _, h0, h1 => ⟨h0, by show a < A * 1; omega⟩
  | [], _ :: _, _, _, h, _, _, _ => by cases h
  | _ :: _, [], _, _, h, _, _, _ => by cases h
  | s :: r, v :: e, a, A, h, hr, h0, h1 => by
    have hv := hr 0 s v rfl rfl
    have g0 : 0 ≤ a * s := Int.mul_nonneg h0 (by omega)
    have g1 : (a + 1) * s ≤ A * s := Int.mul_le_mul_of_nonneg_right (by omega) (by omega)
    rw [Int.add_mul, Int.one_mul] at g1
    have ih := rkf_bound r e (a * s + v) (A * s) (by simpa using h) (fun i s' v' h1 h2 => hr (i + 1) s' v' (by simpa using h1) (by simpa using h2)) (by omega) (by omega)
    rw [Int.mul_assoc] at ih
    exact ih
theorem rkF_bound {ss ws : List Int} (h : ss.length = ws.length) (hr : ∀ (i : Nat) s v, ss[i]? = some s → ws[i]? = some v → 0 ≤ v ∧ v < s) : 0 ≤ rkF ss ws ∧ rkF ss ws < prod ss := by
  have := rkf_bound ss ws 0 1 h hr (by decide) (by decide)
  rw [Int.one_mul] at this
  exact this
theorem digs_in : ∀ (ss : List Int) (p : Int), (∀ s ∈ ss, 0 < s) → ∀ (i : Nat) s v, ss[i]? = some s → (digs ss p)[i]? = some v → 0 ≤ v ∧ v < s
  | [], _, _, _, _, _, h, _ => by simp at h
  | s :: r, p, h, 0, s', v, h1, h2 => by
    have e1 : s = s' := by simpa using h1
    have e2 : p % s = v := by simpa [digs] using h2
    subst e1 e2
    have hs := h s List.mem_cons_self
    exact ⟨Int.emod_nonneg _ (by omega), Int.emod_lt_of_pos _ hs⟩
  | s :: r, p, h, i + 1, s', v, h1, h2 => digs_in r (p / s) (fun x hx => h x (List.mem_cons_of_mem _ hx)) i s' v (by simpa using h1) (by simpa [digs] using h2)
theorem wds_in {ss w : List Int} (h : ∀ s ∈ ss, 0 < s) (hw : w ∈ wds ss) : ∀ (i : Nat) s v, ss[i]? = some s → w[i]? = some v → 0 ≤ v ∧ v < s := by
  intro i s v h1 h2
  unfold wds at hw
  obtain ⟨j, _, rfl⟩ := List.mem_map.mp hw
  have hi := (List.getElem?_eq_some_iff.mp h1).1
  have hl : (digs ss.reverse j).length = ss.length := by rw [digs_len, List.length_reverse]
  unfold wld at h2
  rw [List.getElem?_reverse (by omega)] at h2
  refine digs_in ss.reverse j (fun x hx => h x (List.mem_reverse.mp hx)) (ss.length - 1 - i) s v ?_ (by rw [hl] at h2; exact h2)
  rw [List.getElem?_reverse (by omega), show ss.length - 1 - (ss.length - 1 - i) = i by omega]
  exact h1
theorem mr_in {ss : List Int} {k : Nat} {w : List Int} {v : Int} (hv : 0 ≤ v ∧ v < ss.getD k 0) : ∀ (suf : List Nat) (c : Nat), (∀ (m j : Nat), (suf.filter fun x => x ≠ k)[m]? = some j → 0 ≤ w.getD (c + m) 0 ∧ w.getD (c + m) 0 < ss.getD j 0) → ∀ (i : Nat) j u, suf[i]? = some j → (mr k w v suf c)[i]? = some u → 0 ≤ u ∧ u < ss.getD j 0
  | [], _, _, _, _, _, h, _ => by simp at h
  | x :: r, c, hw, i, j, u, h1, h2 => by
    unfold mr at h2
    by_cases hx : x = k
    · rw [if_pos hx] at h2
      have hw' : ∀ (m j : Nat), (r.filter fun x => x ≠ k)[m]? = some j → 0 ≤ w.getD (c + m) 0 ∧ w.getD (c + m) 0 < ss.getD j 0 := fun m j hm => hw m j (by rw [List.filter_cons]; simp [hx]; simpa using hm)
      cases i with
      | zero =>
        have e1 : x = j := by simpa using h1
        have e2 : v = u := by simpa using h2
        subst e1 e2 hx
        exact hv
      | succ i => exact mr_in hv r c hw' i j u (by simpa using h1) (by simpa using h2)
    · rw [if_neg hx] at h2
      have hw0 := hw 0 x (by rw [List.filter_cons]; simp [hx])
      have hw' : ∀ (m j : Nat), (r.filter fun x => x ≠ k)[m]? = some j → 0 ≤ w.getD (c + 1 + m) 0 ∧ w.getD (c + 1 + m) 0 < ss.getD j 0 := fun m j hm => by
        have := hw (m + 1) j (by rw [List.filter_cons]; simp [hx]; simpa using hm)
        rw [show c + (m + 1) = c + 1 + m by omega] at this
        exact this
      cases i with
      | zero =>
        have e1 : x = j := by simpa using h1
        have e2 : w.getD c 0 = u := by simpa using h2
        subst e1 e2
        exact hw0
      | succ i => exact mr_in hv r (c + 1) hw' i j u (by simpa using h1) (by simpa using h2)
theorem place_ok {ss : List Int} {ks : List Nat} {k : Nat} {w : List Int} {v : Int} (hs : ∀ s ∈ pk ss (ks.filter fun x => x ≠ k), 0 < s) (hw : w ∈ wds (pk ss (ks.filter fun x => x ≠ k))) (hv : 0 ≤ v ∧ v < ss.getD k 0) : 0 ≤ rkF (pk ss ks) (mr k w v ks 0) ∧ rkF (pk ss ks) (mr k w v ks 0) < prod (pk ss ks) := by
  refine rkF_bound (by unfold pk; rw [List.length_map, mr_len]) fun i s u h1 h2 => ?_
  unfold pk at h1
  rw [List.getElem?_map] at h1
  cases e : ks[i]? with
  | none => rw [e] at h1; cases h1
  | some j =>
    rw [e] at h1
    have e1 : ss.getD j 0 = s := Option.some.inj h1
    rw [← e1]
    refine mr_in hv ks 0 (fun m j' hm => ?_) i j u e h2
    rw [Nat.zero_add]
    have hml := (List.getElem?_eq_some_iff.mp hm).1
    have hwl : w.length = (ks.filter fun x => x ≠ k).length := by
      unfold wds at hw
      obtain ⟨j, _, rfl⟩ := List.mem_map.mp hw
      rw [wld_len]
      unfold pk
      rw [List.length_map]
    have := wds_in hs hw m (ss.getD j' 0) (w.getD m 0) (by unfold pk; rw [List.getElem?_map, hm]; rfl) (by rw [List.getD_eq_getElem?_getD, List.getElem?_eq_getElem (by omega)]; rfl)
    exact this
end Sx2
namespace PD
open PySem L2
section
variable {K : PySem.W.Frag} {S S' : Sx} {κ : Bool} {Γ : Ctx} {P : Post}
end
theorem lay_map {α : Type} {g : α → PyData} (h : ∀ x, PyData.canLay0 (g x) = true) : ∀ xs : List α, PyData.canLayAll0 (xs.map g) = true
  | [] => rfl
  | x :: r => by
    show (PyData.canLay0 (g x) && PyData.canLayAll0 (r.map g)) = true
    rw [h, lay_map h r]
    rfl
theorem depth_map {α : Type} {g : α → PyData} {n : Nat} (h : ∀ x, PyData.depth (g x) ≤ n) : ∀ xs : List α, PyData.depthAll (xs.map g) ≤ n
  | [] => Nat.zero_le _
  | x :: r => by
    show max (PyData.depth (g x)) (PyData.depthAll (r.map g)) ≤ n
    have := depth_map h r
    have := h x
    omega
theorem shaped_of {d : PyData} (h1 : PyData.canLay0 d = true) (h2 : PyData.depth d ≤ 50) : SeqAt.shaped d = true := by
  unfold SeqAt.shaped
  rw [h1]
  simp
  omega
end PD
namespace L2
open PySem PySem.Spec PyProof.Rows
def srt (ns : List Int) : List Int := ns.mergeSort fun a b => decide (a ≤ b)
theorem perm_sorted : ∀ {a b : List Int}, a.Perm b → a.Pairwise (· ≤ ·) → b.Pairwise (· ≤ ·) → a = b
  | [], b, p, _, _ => p.nil_eq
  | x :: r, [], p, _, _ => absurd p.length_eq (by simp)
  | x :: r, y :: t, p, h1, h2 => by
    have a1 := List.pairwise_cons.mp h1
    have a2 := List.pairwise_cons.mp h2
    have hx : x ∈ y :: t := p.mem_iff.mp List.mem_cons_self
    have hy : y ∈ x :: r := p.mem_iff.mpr List.mem_cons_self
    have e : x = y := by
      rcases List.mem_cons.mp hx with e | hx
      · exact e
      · rcases List.mem_cons.mp hy with e | hy
        · exact e.symm
        · have := a2.1 x hx
          have := a1.1 y hy
          omega
    subst e
    rw [perm_sorted p.cons_inv a1.2 a2.2]
theorem srt_perm (ns : List Int) : (srt ns).Perm ns := List.mergeSort_perm ns _
theorem srt_sorted (ns : List Int) : (srt ns).Pairwise (· ≤ ·) := by
  have := List.pairwise_mergeSort (le := fun a b : Int => decide (a ≤ b)) (fun a b c h1 h2 => by simp at *; omega) (fun a b => by simp; omega) ns
  exact this.imp fun h => by simpa using h
theorem srt_eq {a ns : List Int} (p : a.Perm ns) (h : a.Pairwise (· ≤ ·)) : a = srt ns := perm_sorted (p.trans (srt_perm ns).symm) h (srt_sorted ns)
section
variable {X : Cx} {K : PySem.W.Frag}
theorem vals_of_ints : ∀ {ns : List Int} {us : List Value}, IntsAre us ns → Vals (ns.map V.int) us
  | _, _, .nil => .nil
  | _, _, .cons _ t r => .cons ⟨t, rfl⟩ (vals_of_ints r)
def rSorted (K : PySem.W.Frag) : List V → Hp → VK → Prop := fun xs H Q => ∃ p ns, xs = [.ref p] ∧ SqL K H p (ns.map V.int) ∧ ns.length < 64 ∧ ∀ l, H l = none → Q (.ref l) (upd H l (.lst ((srt ns).map V.int)))
theorem call_sorted : CallR X (.builtin "sorted") (rSorted X.K) := by
  intro pins s σ H xs us Q I r h
  obtain ⟨p, ns, rfl, hq, h64, q⟩ := h
  obtain ⟨u, rfl, rx⟩ := vals1 r
  cases rx
  obtain ⟨its, r', pl, hz⟩ := I.list hq
  have hl := r'.length
  rw [List.length_map] at hl hz
  refine sorted_ints (vs := its) pl.isList (intsAre_of r') (by omega) fun out ns' a1 a2 a3 => ?_
  have e := srt_eq a2 a3
  subst e
  obtain ⟨c, hc⟩ := sortedAll_at s.heap its out
  exact ⟨.ref (s.heap.objs.size + 1), _, I.laid (t' := s.toks) (fun _ _ => sortedAll_old) (Nat.le_succ _) (show ObjOk X.prog X.w _ _ _ (.lst ((srt ns).map V.int)) from ⟨by rw [List.length_map, (srt_perm ns).length_eq]; exact hz, out.toList, c, vals_of_ints a1, by simpa using hc⟩), rfl, q _ (I.hok.fresh (Nat.le_succ _))⟩
theorem call_sortedK (hK : X.K = K) : CallR X (.builtin "sorted") (rSorted K) := by subst hK; exact call_sorted
def low (d : PyData) : Bool := d.canLay0 && decide (d.depth ≤ 50)
open Classical in
noncomputable def eqU2 (h : Heap) (d : PyData) (y : Value) : Bool := decide (∃ dy as, Reads h y dy as ∧ low dy = true ∧ PyData.eqv dy d = true)
theorem low_lay {d : PyData} (h : low d = true) : d.canLay0 = true := (Bool.and_eq_true_iff.mp h).1
theorem low_depth {d : PyData} (h : low d = true) : d.depth ≤ 50 := of_decide_eq_true (Bool.and_eq_true_iff.mp h).2
open Classical in
theorem eqU2_of {h : Heap} {d dy : PyData} {y : Value} {as : List Addr} (r : Reads h y dy as) (l : low dy = true) : eqU2 h d y = PyData.eqv dy d := by
  unfold eqU2
  cases e : PyData.eqv dy d with
  | true => apply decide_eq_true; exact ⟨dy, as, r, l, e⟩
  | false =>
    apply decide_eq_false
    rintro ⟨dz, bs, r2, l2, e2⟩
    rw [SeqAt.Reads.unique dy dz y as bs (low_lay l) r r2] at e
    rw [e] at e2
    cases e2
theorem any_eqU2 {h : Heap} {d : PyData} : ∀ {us : List Value} {ds : List PyData} {as : List Addr}, ReadsAll h us ds as → (∀ e ∈ ds, low e = true) → us.any (eqU2 h d) = ds.any (PyData.eqv · d)
  | _, _, _, .nil, _ => rfl
  | _, _, _, .cons r t, l => by rw [List.any_cons, List.any_cons, eqU2_of r (l _ List.mem_cons_self), any_eqU2 t fun e he => l e (List.mem_cons_of_mem _ he)]
theorem mem_reads {h : Heap} : ∀ {us : List Value} {ds : List PyData} {as : List Addr}, ReadsAll h us ds as → ∀ u ∈ us, ∃ d ∈ ds, ∃ bs, Reads h u d bs
  | _, _, _, .nil, _, hu => by cases hu
  | _, _, _, .cons r t, u, hu => by
    rcases List.mem_cons.mp hu with rfl | hu
    · exact ⟨_, List.mem_cons_self, _, r⟩
    · obtain ⟨d, hd, bs, q⟩ := mem_reads t u hu
      exact ⟨d, List.mem_cons_of_mem _ hd, bs, q⟩
def rInD (K : PySem.W.Frag) (neg : Bool) : R2 := fun x y H Q => ∃ p xs d ds, y = .ref p ∧ SqL K H p xs ∧ Dp K H x d ∧ DpAll K H xs ds ∧ low d = true ∧ (∀ e ∈ ds, low e = true) ∧ Q (.bl (if neg then !ds.any (PyData.eqv · d) else ds.any (PyData.eqv · d))) H
theorem op_inD (hu : X.A.units + 64 < cLine) : OpR X (compareOp .In) (rInD X.K false) := by
  intro pins s σ H x y v u Q I rx ry h
  obtain ⟨p, xs, d, ds, rfl, hq, h1, h2, l1, l2, q⟩ := h
  cases ry
  obtain ⟨its, r, pl, hz⟩ := I.list hq
  obtain ⟨as, ra⟩ := h1.reads I rx
  obtain ⟨bs, rb⟩ := DpAll.reads I h2 r
  refine SeqAt.in_listAt (eqU2 s.heap d) pl.isList (fun w hw => ?_) ⟨.bl _, H, I, rfl, ?_⟩
  · obtain ⟨dw, hd, cs, rc⟩ := mem_reads rb w (by simpa using hw)
    rw [eqU2_of rc (l2 dw hd)]
    exact SeqAt.eqAt_reads dw d _ s w v cs as rc ra (low_lay (l2 dw hd)) (low_lay l1) (by have := low_depth l1; have := Nat.min_le_right dw.depth d.depth; show X.A.units + 1 + _ < _; omega)
  · rw [show its.toArray.any (eqU2 s.heap d) = its.any (eqU2 s.heap d) by simp, any_eqU2 rb l2]
    exact q
theorem op_notInD (hu : X.A.units + 64 < cLine) : OpR X (compareOp .NotIn) (rInD X.K true) := by
  intro pins s σ H x y v u Q I rx ry h
  obtain ⟨p, xs, d, ds, rfl, hq, h1, h2, l1, l2, q⟩ := h
  cases ry
  obtain ⟨its, r, pl, hz⟩ := I.list hq
  obtain ⟨as, ra⟩ := h1.reads I rx
  obtain ⟨bs, rb⟩ := DpAll.reads I h2 r
  refine SeqAt.notIn_listAt (eqU2 s.heap d) pl.isList (fun w hw => ?_) ⟨.bl _, H, I, rfl, ?_⟩
  · obtain ⟨dw, hd, cs, rc⟩ := mem_reads rb w (by simpa using hw)
    rw [eqU2_of rc (l2 dw hd)]
    exact SeqAt.eqAt_reads dw d _ s w v cs as rc ra (low_lay (l2 dw hd)) (low_lay l1) (by have := low_depth l1; have := Nat.min_le_right dw.depth d.depth; show X.A.units + 1 + _ < _; omega)
  · rw [show its.toArray.any (eqU2 s.heap d) = its.any (eqU2 s.heap d) by simp, any_eqU2 rb l2]
    exact q
theorem op_inDK (hK : X.K = K) (hu : X.A.units + 64 < cLine) : OpR X (compareOp .In) (rInD K false) := by subst hK; exact op_inD hu
theorem op_notInDK (hK : X.K = K) (hu : X.A.units + 64 < cLine) : OpR X (compareOp .NotIn) (rInD K true) := by subst hK; exact op_notInD hu
def rInsert : V → List V → Hp → VK → Prop := fun x vs H Q => ∃ l xs j y, x = .ref l ∧ vs = [.int j, y] ∧ H l = some (.lst xs) ∧ 0 ≤ j ∧ j ≤ (xs.length : Int) ∧ xs.length < sizeLine ∧ Q .non (upd H l (.lst (xs.take j.toNat ++ y :: xs.drop j.toNat)))
theorem mt_insert : MtM X "list.insert" rInsert := by
  intro pins s σ H x vs v us Q I rx rv h
  obtain ⟨l, xs, j, y, rfl, rfl, hH, h0, hj, hz, q⟩ := h
  cases rx
  cases rv with
  | cons ru rv' =>
    obtain ⟨t, rfl⟩ := ru
    obtain ⟨u, rfl, ry⟩ := Vals.one rv'
    obtain ⟨z, its, n, r, hl, e⟩ := I.lstM hH
    have hb : sizeLine < 2 ^ 62 := by decide
    have hf : Builtin.List.listFitsIndex j = true := fitsIndex_both (by omega) (by omega)
    have hs : its.toArray.size ≤ sizeLine := by rw [List.size_toArray]; omega
    have e1 : ¬ (j < 0) := by omega
    have e2 : min j.toNat its.length = j.toNat := by omega
    refine call_meets F.slot_list_insert ⟨_, e, rfl⟩ F.entry_list_insert (F.args_list_insert_3 _ _ _) (AutoSeq1.list_insert_list_int_val_1 l its.toArray n j t u (by rw [hf]; decide) hs) ⟨e, ?_⟩
    refine ⟨.non, _, I.lset (its' := its.take j.toNat ++ u :: its.drop j.toNat) hH e ?_ ((r.take j.toNat).append (.cons ry (r.drop j.toNat))) ?_, rfl, q⟩
    · simp only [e1, if_false, List.size_toArray, e2]
      apply Array.toList_inj.mp
      simp
      exact List.take_of_length_le (by rw [List.length_drop]; exact Nat.le_refl _)
    · rw [List.length_append, List.length_cons, List.length_take, List.length_drop]
      omega
end
end L2
namespace PD
open PySem L2
section
variable {K : PySem.W.Frag} {S S' : Sx} {κ κ' : Bool} {Γ Γ' Γ'' : Ctx} {P : Post}
theorem rpAll_ints {H0 F : Hp} (ns : List Int) : RpAll K κ S H0 F (ns.map V.int) (ns.map .int) := dpAll_immL (imm_ints ns) (dpAll_ints ns)
theorem evo_sorted {ta : TE} {ns : List Int} (h : EvL K S false ta Γ (ns.map .int)) (h64 : ns.length < 64) : EvO K S κ (tCB (rSorted K) (tCons ta tNil)) Γ ((srt ns).map .int) := fun H0 F0 H F σ e Q q =>
  h H0 F0 H F σ e _ fun a vs H1 F1 g1 p1 k1 => by
    cases dpAll_of_ints (rpAll_dp k1)
    exact ⟨a, ns, rfl, p1, h64, fun p hp => q p _ _ F1 (g1.trans (.newO g1.le hp _)) (g1.h.free hp) upd_same (g1.le.free hp) (rpAll_ints _)⟩
theorem ev_inD {neg : Bool} {ta tb : TE} {d : PyData} {ds : List PyData} (ha : EvE K S false ta Γ d) (hb : EvL K S false tb Γ ds) (l1 : low d = true) (l2 : ∀ e ∈ ds, low e = true) :
    EvE K S κ (tOp (rInD K neg) ta tb) Γ (.bool (if neg then !ds.any (PyData.eqv · d) else ds.any (PyData.eqv · d))) := fun H0 F0 H F σ e Q q =>
  ha H0 F0 H F σ e _ fun v H1 F1 g1 p1 => hb H0 F0 H1 F1 σ (e.mono g1) _ fun b ws H2 F2 g2 p2 k2 =>
    ⟨b, ws, d, ds, rfl, p2, dp_same (g1.le.trans g2.h) (rp_dp p1), dpAll_same g2.le (rpAll_dp k2), l1, l2, q _ H2 F2 (g1.trans g2) (.bl _)⟩
theorem ex_insert {te ti : TE} {i : Nat} {m : Int} {ds : List PyData} {d : PyData} (h : Γ[i]? = some (some (.ow κ ds))) (hi : EvE K S false ti Γ (.int m)) (he : EvE K S κ te Γ d) (h0 : 0 ≤ m) (h1 : m ≤ ds.length) (hz : ds.length < sizeLine) (k : P.nx (Γ.set i (some (.ow κ (ds.take m.toNat ++ d :: ds.drop m.toNat))))) :
    ExS K S (tDrop (tBM K "list" rInsert (tVar i) (tCons ti (tCons te tNil)))) Γ P := fun H0 F0 H F σ B e b _ D I => by
  obtain ⟨v0, q1, a, vs, rfl, w, q5⟩ := e.has i _ h
  refine ⟨_, q1, .inl ⟨rfl, _, SqL.of w.h⟩, hi H0 F0 H F σ e _ fun v1 H1 F1 g1 p1 => he H0 F0 H1 F1 σ (e.mono g1) _ fun v H' F' g2 p => ?_⟩
  cases rp_int p1
  have g := g1.trans g2
  have k' := rpAll_mono g.f q5
  have hl := RpAll.length q5
  refine ⟨a, vs, m, v, rfl, rfl, g.h _ _ w.h, h0, by rw [hl]; exact h1, by rw [hl]; exact hz, ?_⟩
  exact I.nx _ _ _ F' k (b.trans g.f) ((e.mono g).put (y := .ow κ (ds.take m.toNat ++ d :: ds.drop m.toNat)) h q1 (show Owns H' (.ref a) (.ow κ ds) a from rfl) ⟨a, _, rfl, ⟨upd_same, (w.mono g).f, w.n, w.s⟩, RpAll.append (RpAll.take _ k') (.cons p (RpAll.drop _ k'))⟩ fun _ z => z)
theorem exin {te ti : TE} {i : Nat} {m : Int} {ds : List PyData} {d : PyData} (h : GetC Γ i (.ow κ ds)) (hi : EvE K S false ti Γ (.int m)) (he : EvE K S κ te Γ d) (h0 : 0 ≤ m) (h1 : m ≤ ds.length) (hz : ds.length < sizeLine) (e : SetC Γ i (some (.ow κ (ds.take m.toNat ++ d :: ds.drop m.toNat))) Γ') (k : P.nx Γ') :
    ExS K S (tDrop (tBM K "list" rInsert (tVar i) (tCons ti (tCons te tNil)))) Γ P := ex_insert h.eq hi he h0 h1 hz (e.eq ▸ k)
theorem tup_drop {T : Addr → Prop} {F : Hp} {a : Addr} {xs : List V} (z : SqT K F a xs) : SqT K (drop T F) a xs := by
  rcases z with (z | ⟨o, z⟩) | z
  · exact .inl (.inl (drop_some.mpr ⟨z, fun c => nomatch c.2⟩))
  · exact .inl (.inr ⟨o, drop_some.mpr ⟨z, fun c => nomatch c.2⟩⟩)
  · exact .inr z
theorem drop_none {T : Addr → Prop} {F : Hp} {a : Addr} {xs : List V} (h : F a = some (.lst xs)) (t : T a) : drop T F a = none := by
  cases q : drop T F a with
  | none => rfl
  | some o =>
    obtain ⟨q1, q2⟩ := drop_some.mp q
    rw [h] at q1
    cases q1
    exact absurd ⟨t, rfl⟩ q2
end
end PD
namespace L2
open PySem PySem.Spec PyProof.Rows
section
variable {X : Cx} {K : PySem.W.Frag}
theorem vals_bl : ∀ {bs : List Bool} {us : List Value}, Vals (bs.map V.bl) us → us = bs.map Value.bool
  | [], _, .nil => rfl
  | _ :: _, _, .cons r t => by rw [vals_bl t, show _ = Value.bool _ from r]; rfl
theorem all_range : ∀ (bs : List Bool) (f : Nat → Bool), (∀ i b, bs[i]? = some b → f i = b) → (List.range bs.length).all f = bs.all fun b => b
  | [], _, _ => rfl
  | b :: r, f, h => by
    have ih := all_range r (fun i => f (i + 1)) fun i b' hb => h (i + 1) b' (by simpa using hb)
    rw [List.length_cons, List.range_succ_eq_map, List.all_cons, List.all_map, List.all_cons, h 0 b rfl, ← ih]
    rfl
def rAll (K : PySem.W.Frag) : List V → Hp → VK → Prop := fun xs H Q => ∃ p, ∃ bs : List Bool, xs = [.ref p] ∧ SqL K H p (bs.map V.bl) ∧ Q (.bl (bs.all fun b => b)) H
theorem call_all (hc : X.calm = true) : CallR X (.builtin "all") (rAll X.K) := by
  intro pins s σ H xs us Q I r h
  obtain ⟨p, bs, rfl, hq, q⟩ := h
  obtain ⟨u, rfl, rx⟩ := vals1 r
  cases rx
  obtain ⟨its, r', pl, hz⟩ := I.list hq
  have e := vals_bl r'
  subst e
  have hl := pl.isList
  refine call_all_walk (wpAny_pyIter_list hl ?_)
  have hne : p ≠ s.heap.objs.size := by
    obtain ⟨o, ho, _⟩ := hl
    exact Nat.ne_of_lt (Heap.lt_size ho)
  refine ⟨s.heap.objs.size, _, _, _, _, _, fun i => bs.getD i false, rfl, Walks.list (A := X.A.in1) (I.ok.hd hc) _ p hne (bs.map Value.bool).toArray, ⟨⟨_, Heap.get?_push_size _ rfl, rfl, rfl⟩, hl.push _⟩, fun i v s Q E hP hQ => ?_, fun h' tk hk => ?_⟩
  · have hP' : (bs.map Value.bool)[i]? = some v := by simpa using hP
    rw [List.getElem?_map] at hP'
    cases eb : bs[i]? with
    | none => rw [eb] at hP'; cases hP'
    | some b =>
      rw [eb] at hP'
      cases hP'
      have : bs.getD i false = b := by rw [List.getD_eq_getElem?_getD, eb]; rfl
      have hQ' : Q (bs.getD i false) s := hQ
      rw [this] at hQ'
      exact wpAny_truthy_bool hQ'
  · have e : (List.range (bs.map Value.bool).toArray.size).all (fun i => bs.getD i false) = bs.all fun b => b := by
      rw [List.size_toArray, List.length_map]
      exact all_range bs _ fun i b hb => by rw [List.getD_eq_getElem?_getD, hb]; rfl
    rw [e]
    exact ⟨.bl _, H, I.kept fun b o eb => hk b o (by simpa using Nat.ne_of_lt (Heap.lt_size eb)) (Heap.get?_push_of_some _ eb), rfl, q⟩
theorem call_allK (hK : X.K = K) (hc : X.calm = true) : CallR X (.builtin "all") (rAll K) := by subst hK; exact call_all hc
end
end L2
namespace PD
open PySem L2
section
variable {K : PySem.W.Frag} {S S' : Sx} {κ κ' : Bool} {Γ Γ' Γ'' : Ctx} {P : Post}
theorem dpAll_of_bls {F : Hp} : ∀ {vs : List V} {bs : List Bool}, DpAll K F vs (bs.map PyData.bool) → vs = bs.map V.bl
  | _, [], .nil => rfl
  | _, _ :: _, .cons h t => by rw [dp_bl h, dpAll_of_bls t]; rfl
theorem ev_all {ta : TE} {bs : List Bool} (h : EvL K S false ta Γ (bs.map .bool)) : EvE K S κ (tCB (rAll K) (tCons ta tNil)) Γ (.bool (bs.all fun b => b)) := fun H0 F0 H F σ e Q q =>
  h H0 F0 H F σ e _ fun a vs H1 F1 g1 p1 k1 => by
    cases dpAll_of_bls (rpAll_dp k1)
    exact ⟨a, bs, rfl, p1, q _ H1 F1 g1 (.bl _)⟩
theorem rpAll_of {H0 F : Hp} : ∀ {vs : List V} {ds : List PyData}, vs.length = ds.length → (∀ (j : Nat) v d, vs[j]? = some v → ds[j]? = some d → Rp K κ S H0 F v d) → RpAll K κ S H0 F vs ds
  | [], [], _, _ => .nil
  | [], _ :: _, h, _ => by cases h
  | _ :: _, [], h, _ => by cases h
  | v :: vs, d :: ds, h, k => .cons (k 0 v d rfl rfl) (rpAll_of (by simpa using h) fun j v' d' h1 h2 => k (j + 1) v' d' (by simpa using h1) (by simpa using h2))
theorem nodup_inj {α : Type} : ∀ {l : List α}, l.Nodup → ∀ {i j : Nat} {x : α}, l[i]? = some x → l[j]? = some x → i = j
  | [], _, i, j, x, h, _ => by simp at h
  | y :: r, n, 0, 0, x, _, _ => rfl
  | y :: r, n, 0, j + 1, x, h1, h2 => by
    have e : y = x := by simpa using h1
    exact absurd (List.mem_of_getElem? (show r[j]? = some x by simpa using h2)) (e ▸ (List.nodup_cons.mp n).1)
  | y :: r, n, i + 1, 0, x, h1, h2 => by
    have e : y = x := by simpa using h2
    exact absurd (List.mem_of_getElem? (show r[i]? = some x by simpa using h1)) (e ▸ (List.nodup_cons.mp n).1)
  | y :: r, n, i + 1, j + 1, x, h1, h2 => by rw [nodup_inj (List.nodup_cons.mp n).2 (show r[i]? = some x by simpa using h1) (show r[j]? = some x by simpa using h2)]
theorem exo2 {wi : TI} {i : Nat} {u : TS} {ds : List PyData} (hi : EvI K S κ' wi Γ ds) (hz : ds.length ≤ sizeLine) (es : SetC Γ i (some (.o2 none (List.replicate ds.length []))) Γ') (k : ExT K S S' u Γ' P) :
    ExT K S S' (tSeq (tAsg (tComp [none] wi (gName 0) tYes (tLst tNil)) (gName i)) u) Γ P := fun H0 F0 H F σ B e bb vv D I =>
  hi H0 F0 H F σ e _ fun J H1 F1 g1 I1 => by
    intro L hL
    have sdm : ∀ {H2 F2 : Hp}, Gr H1 F1 H2 F2 → ∀ a, S.has H0 a → ∃ o, H2 a = some o := fun g2 a c => let ⟨o, z⟩ := (e.mono g1).sd a c; ⟨o, g2.h _ _ z⟩
    refine ⟨fun n m ys H2 => m = ds.length - n ∧ n ≤ ds.length ∧ ∃ F2, Gr H1 F1 H2 F2 ∧ H2 L = some (.lst ys) ∧ F2 L = none ∧ V.ref L ∉ ys ∧ ys.Nodup ∧ ys.length = n ∧ ∀ (j : Nat) x, ys[j]? = some x → ∃ c, x = .ref c ∧ H1 c = none ∧ H2 c = some (.lst []) ∧ F2 c = none,
      ⟨_, rfl, Nat.zero_le _, F1, .newO g1.le hL _, upd_same, g1.le.free hL, by simp, List.nodup_nil, rfl, by simp⟩, ?_⟩
    rintro n m ys H2 ⟨rfl, hn, F2, g2, hl, fl, n1, n2, n3, hy⟩
    by_cases hlt : n < ds.length
    · refine .inr ⟨I1.go n H2 F2 g2.f g2.le hlt, fun zs H3 => n + 1 ≤ ds.length ∧ ∃ F2, Gr H1 F1 H3 F2 ∧ H3 L = some (.lst zs) ∧ F2 L = none ∧ V.ref L ∉ zs ∧ zs.Nodup ∧ zs.length = n + 1 ∧ ∀ (j : Nat) x, zs[j]? = some x → ∃ c, x = .ref c ∧ H1 c = none ∧ H3 c = some (.lst []) ∧ F2 c = none, fun zs H3 h3 => ⟨ds.length - (n + 1), by omega, rfl, h3⟩, fun x H3 y => ?_⟩
      obtain ⟨d, F3, hd, g3, p3⟩ := I1.yld n H2 F2 x H3 g2.f g2.le (sdm g2) hlt y
      have g := g2.trans g3
      have hl3 := g3.h _ _ hl
      have fl3 := g3.ap _ _ hl fl
      refine ⟨Sub.set rfl, ?_⟩
      unfold tYes
      dsimp only
      refine iteT ⟨Nat.zero_le _, fun p hp => ?_⟩
      have npL : p ≠ L := by rintro rfl; rw [hl3] at hp; cases hp
      have fp3 : F3 p = none := g3.le.free hp
      have hp1 : H1 p = none := g.h.free hp
      have np : V.ref p ∉ ys := fun hm => by
        obtain ⟨j, hj⟩ := List.mem_iff_getElem?.mp hm
        obtain ⟨c, ec, _, h2, _⟩ := hy j _ hj
        cases ec
        have := g3.h _ _ h2
        rw [hp] at this; cases this
      refine ⟨by rw [upd_ne npL.symm]; exact hl3, by omega, hlt, F3, ⟨fun b u z => ?_, g.f, fun b u z => ?_, g.ap⟩, upd_same, fl3, ?_, ?_, by rw [List.length_append, n3]; rfl, fun j x hx => ?_⟩
      · rw [upd_ne (ne_of_none z hL), upd_ne (ne_of_none z hp1)]
        exact g.h _ _ z
      · rw [upd_ne (by rintro rfl; rw [fl3] at z; cases z), upd_ne (by rintro rfl; rw [fp3] at z; cases z)]
        exact g3.le _ _ z
      · intro hm
        rcases List.mem_append.mp hm with hm | hm
        · exact n1 hm
        · have : V.ref L = .ref p := by simpa using hm
          cases this
          exact npL rfl
      · refine List.nodup_append.mpr ⟨n2, by simp, fun a ha b hb => ?_⟩
        have : b = .ref p := by simpa using hb
        rintro rfl
        exact np (this ▸ ha)
      · by_cases hj : j < ys.length
        · rw [List.getElem?_append_left hj] at hx
          obtain ⟨c, rfl, h1, h2, h3⟩ := hy j x hx
          have ncL : c ≠ L := by rintro rfl; exact n1 (List.mem_of_getElem? hx)
          have ncp : c ≠ p := by rintro rfl; exact np (List.mem_of_getElem? hx)
          exact ⟨c, rfl, h1, by rw [upd_ne ncL, upd_ne ncp]; exact g3.h _ _ h2, g3.ap _ _ h2 h3⟩
        · rw [List.getElem?_append_right (by omega)] at hx
          have : j - ys.length = 0 := by
            have := (List.getElem?_eq_some_iff.mp hx).1
            simp at this
            omega
          rw [this] at hx
          cases (show some (V.ref p) = some x from hx)
          exact ⟨p, rfl, hp1, by rw [upd_ne npL, upd_same], fp3⟩
    · have en : n = ds.length := by omega
      subst en
      have g := g1.trans g2
      have e2 := e.mono g
      have hHL : H L = none := g1.h.free hL
      refine .inl ⟨I1.stop H2 F2 g2.f g2.le, ?_⟩
      obtain rfl := es.eq
      have hv : HasV K S H0 H2 F2 (.ref L) (.o2 none (List.replicate ds.length [])) := ⟨L, ys, ⟨rfl, fun _ z => nomatch z⟩, ⟨hl, fl, e.gr.h.free hHL, e.out hHL⟩, n1, n2, by rw [List.length_replicate]; exact n3, fun j x hx => by
        obtain ⟨c, rfl, h1, h2, h3⟩ := hy j x hx
        have hHc : H c = none := g1.h.free h1
        have hj := (List.getElem?_eq_some_iff.mp hx).1
        exact ⟨c, [], [], rfl, ⟨h2, h3, e.gr.h.free hHc, e.out hHc⟩, by rw [List.getElem?_replicate, if_pos (by omega)], .nil⟩⟩
      refine k H0 F0 H2 F2 _ B (e2.set hv fun a oa j y w hj z hw o => ?_) (bb.trans g.f) vv D I
      obtain ⟨v, q1, q2⟩ := e.has j y z
      rw [hw] at q1
      cases q1
      obtain ⟨us, w1⟩ := q2.owns (o.back q2 fun _ _ z => g.h _ _ z.h)
      have ha := w1.h
      rcases oa with oa | ⟨p, vs, ep, hp, hm⟩
      · cases oa
        rw [hHL] at ha; cases ha
      · cases ep
        rw [hl] at hp
        cases hp
        obtain ⟨j', hj'⟩ := List.mem_iff_getElem?.mp hm
        obtain ⟨c, ec, h1, _⟩ := hy j' _ hj'
        cases ec
        rw [g1.h.free h1] at ha; cases ha
theorem evl_o2 {r : Option Addr} {ti : TE} {i j : Nat} {m : Int} {dss : List (List PyData)} {ds : List PyData} (h : GetC Γ i (.o2 r dss)) (hi : EvE K S false ti Γ (.int m)) (hm : ixN dss.length m = some j) (hd : dss[j]? = some ds) : EvL K S true (tOp (rIxL K) (tVar i) ti) Γ ds := fun H0 F0 H F σ e Q q => by
  obtain ⟨v0, q1, a, vs, ⟨rfl, hid⟩, w, n1, n2, n3, hk⟩ := e.has i _ h.eq
  refine ⟨_, q1, hi H0 F0 H F σ e _ fun w' H1 F1 g1 p1 => ?_⟩
  cases rp_int p1
  have hj := (List.getElem?_eq_some_iff.mp hd).1
  have hx : vs[j]? = some (vs[j]'(by omega)) := List.getElem?_eq_getElem (by omega)
  obtain ⟨b, us, ds', ex, ow, hd', kk⟩ := hk j _ hx
  rw [hd] at hd'
  cases hd'
  have hat : atI vs m = some (.ref b) := by
    unfold atI
    rw [n3, hm]
    show vs[j]? = _
    rw [hx, ex]
  exact ⟨a, vs, m, _, rfl, rfl, SqL.of (g1.h _ _ w.h), hat, q b us H1 F1 g1 (SqL.of (g1.h _ _ ow.h)) (rpAll_mono g1.f kk)⟩
theorem ex_o2app {r : Option Addr} {ti te : TE} {i j : Nat} {m : Int} {dss : List (List PyData)} {ds : List PyData} {d : PyData} (h : GetC Γ i (.o2 r dss)) (hi : EvE K S false ti Γ (.int m)) (hm : ixN dss.length m = some j) (hd : dss[j]? = some ds) (he : EvE K S true te Γ d) (hz : ds.length < sizeLine)
    (es : SetC Γ i (some (.o2 r (dss.set j (ds ++ [d])))) Γ') (k : P.nx Γ') : ExS K S (tDrop (tBM K "list" rAppend (tOp (rIxL K) (tVar i) ti) (tCons te tNil))) Γ P := fun H0 F0 H F σ B e bb _ D I => by
  obtain ⟨v0, q1, a, vs, ⟨rfl, hid⟩, w, n1, n2, n3, hk⟩ := e.has i _ h.eq
  refine ⟨_, q1, hi H0 F0 H F σ e _ fun w' H1 F1 g1 p1 => ?_⟩
  cases rp_int p1
  have hj := (List.getElem?_eq_some_iff.mp hd).1
  have hx : vs[j]? = some (vs[j]'(by omega)) := List.getElem?_eq_getElem (by omega)
  obtain ⟨b, us, ds', ex, ow, hd', kk⟩ := hk j _ hx
  rw [hd] at hd'
  cases hd'
  rw [ex] at hx
  have hat : atI vs m = some (.ref b) := by
    unfold atI
    rw [n3, hm]
    exact hx
  refine ⟨a, vs, m, _, rfl, rfl, SqL.of (g1.h _ _ w.h), hat, .inl ⟨rfl, _, SqL.of (g1.h _ _ ow.h)⟩, he H0 F0 H1 F1 σ (e.mono g1) _ fun v H2 F2 g2 p2 => ?_⟩
  have g := g1.trans g2
  have ow2 := ow.mono g
  have w2 := w.mono g
  have nba : b ≠ a := by rintro rfl; exact n1 (List.mem_of_getElem? hx)
  refine ⟨b, us, v, rfl, rfl, ow2.h, by rw [RpAll.length kk]; exact hz, ?_⟩
  obtain rfl := es.eq
  refine I.nx _ _ _ F2 k (bb.trans g.f) ((e.mono g).put (y := .o2 r (dss.set j (ds ++ [d]))) h.eq q1 (show Owns H2 (.ref a) (.o2 r dss) b from .inr ⟨a, vs, rfl, w2.h, List.mem_of_getElem? hx⟩) ?_ ?_)
  · refine ⟨a, vs, ⟨rfl, hid⟩, w2.other nba.symm, n1, n2, by rw [List.length_set]; exact n3, fun j' x hx' => ?_⟩
    by_cases hjj : j' = j
    · subst hjj
      rw [hx] at hx'
      cases hx'
      exact ⟨b, us ++ [v], ds ++ [d], rfl, ⟨upd_same, ow2.f, ow2.n, ow2.s⟩, by rw [List.getElem?_set_self hj], RpAll.append (rpAll_mono g.f kk) (.cons p2 .nil)⟩
    · obtain ⟨c, ws, ds', rfl, oc, hc, kc⟩ := hk j' x hx'
      have ncb : c ≠ b := by
        rintro rfl
        exact hjj (nodup_inj n2 hx' hx)
      exact ⟨c, ws, ds', rfl, (oc.mono g).other ncb, by rw [List.getElem?_set_ne (Ne.symm hjj)]; exact hc, rpAll_mono g.f kc⟩
  · rintro c (oc | ⟨p, xs, ep, hp, hm'⟩)
    · exact .inl oc
    · cases ep
      rw [upd_ne nba.symm, w2.h] at hp
      cases hp
      exact .inr ⟨a, vs, rfl, w2.h, hm'⟩
theorem HasV.frzG {H0 H F F' : Hp} {v : V} {x : DV} (h : HasV K S H0 H F v x) (s : Same F F') (n : ∀ c, Owns H v x c → F' c = none) : HasV K S H0 H F' v x := by
  cases x with
  | fz κ d => exact rp_mono s h
  | tn d => obtain ⟨T, eT, k⟩ := h; exact ⟨T, eT, rp_mono s k⟩
  | ow κ ds => obtain ⟨b, us, eb, wo, kk⟩ := h; exact ⟨b, us, eb, ⟨wo.h, n b eb, wo.n, wo.s⟩, rpAll_mono s kk⟩
  | ox => obtain ⟨b, us, eb, wo⟩ := h; exact ⟨b, us, eb, ⟨wo.h, n b eb, wo.n, wo.s⟩⟩
  | o2 r dss =>
    obtain ⟨b, us, eb, wo, n1, n2, l, k⟩ := h
    refine ⟨b, us, eb, ⟨wo.h, n b (.inl eb.eq), wo.n, wo.s⟩, n1, n2, l, fun j y hy => ?_⟩
    obtain ⟨c, ws, ds, e2, o2, h2, k2⟩ := k j y hy
    exact ⟨c, ws, ds, e2, ⟨o2.h, n c (.inr ⟨b, us, eb.eq, wo.h, by rw [← e2]; exact List.mem_of_getElem? hy⟩), o2.n, o2.s⟩, h2, rpAll_mono s k2⟩
  | fn a => exact h
  | xn φ => obtain ⟨b, e, k⟩ := h; exact ⟨b, e, s _ _ k⟩
  | oa b κ ds => obtain ⟨eb, us, wo, kk⟩ := h; exact ⟨eb, us, ⟨wo.h, n b eb, wo.n, wo.s⟩, rpAll_mono s kk⟩
  | xp φ => obtain ⟨F1, s1, k⟩ := h; exact ⟨F1, s1.trans s, k⟩
  | od u => obtain ⟨b, eb, wo⟩ := h; exact ⟨b, eb, ⟨wo.h, n b eb, wo.n, wo.s⟩⟩
  | og ad ψ =>
    obtain ⟨ok, w, p⟩ := h
    refine ⟨ok, fun b z => ?_, ok.ps S H0 H H F F' v (fun _ _ => rfl) s p⟩
    obtain ⟨o, y⟩ := w b z
    exact ⟨o, ⟨y.h, n b z, y.n, y.s⟩⟩
open Classical in
noncomputable def frzF (F H : Hp) (a : Addr) (vs : List V) : Hp := fun c => if c = a ∨ V.ref c ∈ vs then H c else F c
theorem DEnv.frz2 {r : Option Addr} {i : Nat} {dss : List (List PyData)} {H0 F0 H F : Hp} {σ : St} (e : DEnv K S H0 F0 H F σ Γ) (h : GetC Γ i (.o2 r dss)) (es : SetC Γ i (some (.fz true (.list (dss.map .list)))) Γ') :
    ∃ (Ff : Hp) (A : Addr → Prop), DEnv K S H0 F0 H Ff σ Γ' ∧ Same F Ff ∧ (∀ c, A c → F c = none ∧ ∃ vs, Ff c = some (.lst vs)) ∧ ∀ c, ¬ A c → Ff c = F c := by
  have h' := h.eq
  obtain ⟨v0, q1, a, vs, ⟨rfl, hid⟩, w, n1, n2, n3, hk⟩ := e.has i _ h'
  have inn : ∀ {c : Addr}, (c = a ∨ V.ref c ∈ vs) → ∃ us, OwnAt S H0 H F c us := fun {c} hc => by
    rcases hc with rfl | hc
    · exact ⟨_, w⟩
    · obtain ⟨j, hj⟩ := List.mem_iff_getElem?.mp hc
      obtain ⟨b, us, ds, eb, ow, _⟩ := hk j _ hj
      cases eb
      exact ⟨us, ow⟩
  have Fin : ∀ {c : Addr}, (c = a ∨ V.ref c ∈ vs) → frzF F H a vs c = H c := fun hc => if_pos hc
  have Fout : ∀ {c : Addr}, ¬ (c = a ∨ V.ref c ∈ vs) → frzF F H a vs c = F c := fun hc => if_neg hc
  have s : Same F (frzF F H a vs) := fun c o hc => by
    rw [Fout fun z => by obtain ⟨us, ow⟩ := inn z; rw [ow.f] at hc; cases hc]
    exact hc
  have le : Same (frzF F H a vs) H := fun c o hc => by
    by_cases z : c = a ∨ V.ref c ∈ vs
    · rw [Fin z] at hc; exact hc
    · rw [Fout z] at hc; exact e.le _ _ hc
  have li := (List.getElem?_eq_some_iff.mp h').1
  have own : ∀ {c : Addr}, (c = a ∨ V.ref c ∈ vs) → Owns H (.ref a) (.o2 r dss) c := fun {c} hc => by
    rcases hc with rfl | hc
    · exact .inl rfl
    · exact .inr ⟨a, vs, rfl, w.h, hc⟩
  obtain rfl := es.eq
  have hv : HasV K S H0 H (frzF F H a vs) (.ref a) (.fz true (.list (dss.map .list))) := by
    refine .lst ⟨by rw [Fin (.inl rfl)]; exact w.h, w.s⟩ (rpAll_of (by rw [List.length_map]; exact n3) fun j v d h1 h2 => ?_)
    obtain ⟨b, us, ds, rfl, ow, hd, kk⟩ := hk j v h1
    rw [List.getElem?_map, hd] at h2
    cases h2
    exact .lst ⟨by rw [Fin (.inr (List.mem_of_getElem? h1))]; exact ow.h, ow.s⟩ (rpAll_mono s kk)
  have eF : DEnv K S H0 F0 H (frzF F H a vs) σ (Γ.set i (some (.fz true (.list (dss.map .list))))) := by
    refine ⟨⟨e.gr.h, e.gr.f.trans s, le, fun c o hc hn => ?_⟩, e.l0, e.sd, e.s0, by simp [e.len], fun j f z => ?_, fun j k' x1 y1 v1 w1 b g1 g2 g3 g4 o1 o2 => ?_⟩
    · rw [Fout fun z => by obtain ⟨us, ow⟩ := inn z; rw [ow.n] at hc; cases hc]
      exact e.gr.ap c o hc hn
    · by_cases hj : j = i
      · subst hj
        rw [List.getElem?_set_self li] at z
        cases z
        exact ⟨_, q1, hv⟩
      · rw [List.getElem?_set_ne (Ne.symm hj)] at z
        obtain ⟨u, r1, r2⟩ := e.has j f z
        refine ⟨u, r1, r2.frzG s fun c oc => ?_⟩
        by_cases zc : c = a ∨ V.ref c ∈ vs
        · exact absurd (e.ne j i f _ u _ c z h' r1 q1 oc (own zc)) hj
        · rw [Fout zc]
          obtain ⟨us, wo⟩ := r2.owns oc
          exact wo.f
    · by_cases hj : j = i
      · subst hj
        rw [List.getElem?_set_self li] at g1
        cases g1
        exact o1.elim
      · by_cases hk' : k' = i
        · subst hk'
          rw [List.getElem?_set_self li] at g2
          cases g2
          exact o2.elim
        · rw [List.getElem?_set_ne (Ne.symm hj)] at g1
          rw [List.getElem?_set_ne (Ne.symm hk')] at g2
          exact e.ne j k' x1 y1 v1 w1 b g1 g2 g3 g4 o1 o2
  refine ⟨_, fun c => c = a ∨ V.ref c ∈ vs, eF, s, fun c hc => ?_, fun c hc => Fout hc⟩
  obtain ⟨us, ow⟩ := inn hc
  exact ⟨ow.f, us, by rw [Fin hc]; exact ow.h⟩
theorem exfz2 {r : Option Addr} {t : TS} (i : Nat) {dss : List (List PyData)} (h : GetC Γ i (.o2 r dss)) (es : SetC Γ i (some (.fz true (.list (dss.map .list)))) Γ') (k : ExT K S S' t Γ' P) : ExT K S S' t Γ P := fun H0 F0 H F σ B e bb vv D I => by
  obtain ⟨Ff, A, eF, s, _⟩ := e.frz2 h es
  exact k H0 F0 H _ σ B eF (bb.trans s) vv D I
theorem imm_drop {H0 F : Hp} {T : Addr → Prop} {vs : List V} {ds : List PyData} (h : ∀ d ∈ ds, imm d = true) (k : DpAll K F vs ds) : RpAll K κ S H0 (drop T F) vs ds :=
  dpAll_immL h (rpAll_dp (rpAll_map (κ := true) (κ' := true) (S := .spoil T) (S' := .fresh) (H0 := fun _ => none) (H0' := fun _ => none) (F := F) (F' := drop T F) (fun a xs z => ⟨drop_some.mpr ⟨z.1, fun c => z.2 (.inr c.1)⟩, fun c => z.2 (.inl c)⟩) (fun _ _ z => tup_drop z) (dpAll_immL h k)))
theorem thaw {H0 F0 H F : Hp} {σ : St} {i : Nat} {ds : List PyData} {Γf : Ctx} (e : DEnv K S H0 F0 H F σ Γ) (h : GetC Γ i (.ow κ ds)) (es : SetC Γ i (some (.fz κ (.list ds))) Γf) :
    ∃ a Ff, DEnv K S H0 F0 H Ff σ Γf ∧ ∀ H' F', Gr H Ff H' F' → Gr H F H' (drop (fun c => c = a) F') := by
  obtain ⟨v, q1, a, vs, rfl, w, q5⟩ := e.has i _ h.eq
  obtain ⟨s, e'⟩ := e.froz (y := .fz κ (.list ds)) h.eq q1 rfl w (.lst (LN.new w.s) (rpAll_mono (Same.new w.f _) q5)) fun _ z => z.elim
  rw [es.eq] at e'
  refine ⟨a, _, e', fun H' F' g => ⟨g.h, fun c o z => drop_some.mpr ⟨g.f _ _ (s _ _ z), ?_⟩, fun c o z => g.le _ _ (drop_some.mp z).1, fun c o z n => ?_⟩⟩
  · rintro ⟨rfl, _⟩
    rw [w.f] at z; cases z
  · by_cases hc : c = a
    · subst hc
      exact drop_none (g.f _ _ upd_same) rfl
    · cases q' : drop (fun c => c = a) F' c with
      | none => rfl
      | some o' =>
        have := (drop_some.mp q').1
        rw [g.ap _ _ z (by rw [upd_ne hc]; exact n)] at this; cases this
theorem et_thaw (i : Nat) {t : TT} {b : Bool} {ds : List PyData} {Γf : Ctx} (h : GetC Γ i (.ow κ ds)) (es : SetC Γ i (some (.fz κ (.list ds))) Γf) (k : EvT K S t Γf b) : EvT K S t Γ b := fun H0 F0 H F σ e Q q => by
  obtain ⟨a, Ff, e', g⟩ := thaw e h es
  exact k H0 F0 H Ff σ e' Q fun H' F' g' => q H' _ (g H' F' g')
theorem ev_thaw (i : Nat) {t : TE} {d : PyData} {ds : List PyData} {Γf : Ctx} (h : GetC Γ i (.ow κ ds)) (es : SetC Γ i (some (.fz κ (.list ds))) Γf) (k : EvE K S false t Γf d) (hi : imm d = true) : EvE K S κ' t Γ d := fun H0 F0 H F σ e Q q => by
  obtain ⟨a, Ff, e', g⟩ := thaw e h es
  refine k H0 F0 H Ff σ e' Q fun v H' F' g' p => q v H' _ (g H' F' g') ?_
  cases imm_drop (K := K) (κ := κ') (S := S) (H0 := H0) (T := fun c => c = a) (vs := [v]) (ds := [d]) (fun x hx => by rw [List.mem_singleton.mp hx]; exact hi) (.cons (rp_dp p) .nil) with
  | cons z _ => exact z
end
end PD
namespace PD
open PySem L2
section
variable {K : PySem.W.Frag} {S S' : Sx} {κ κ' : Bool} {Γ Γ' Γ'' : Ctx} {P : Post}
theorem evo_each {α : Type} {js : List (Option Nat)} {Γc : Ctx} {wi : TI} {g : TG} {te : TE} {is : List Nat} {xs : List α} (κ' : Bool) (u f : α → PyData) (hu : ∀ x ∈ xs, ∀ y ∈ xs, u x = u y → f x = f y) (hi : EvI K S κ' wi Γ (xs.map u)) (hc : CaptC js Γ Γc) (hjs : (is.all fun i => js[i]? == some none) = true)
    (hj : (js.filterMap id).Nodup) (hz : xs.length ≤ sizeLine) (hb : ∀ x ∈ xs, ExG K S κ' g is (u x) Γc fun Γ' => EvE K S κ te Γ' (f x)) : EvO K S κ (tComp js wi g tYes te) Γ (xs.map f) := by
  classical
  let F : PyData → PyData := fun d => if h : ∃ x, x ∈ xs ∧ u x = d then f h.choose else .none
  have hF : ∀ x ∈ xs, F (u x) = f x := fun x hx => by
    have h : ∃ y, y ∈ xs ∧ u y = u x := ⟨x, hx, rfl⟩
    show (if h : ∃ y, y ∈ xs ∧ u y = u x then f h.choose else .none) = _
    rw [dif_pos h]
    exact hu _ h.choose_spec.1 _ hx h.choose_spec.2
  refine EvO.eq (evo_map (κ := κ) κ' F hi hc hjs hj (by rw [List.length_map]; exact hz) fun d hd => ?_) ?_
  · obtain ⟨x, hx, rfl⟩ := List.mem_map.mp hd
    rw [hF x hx]
    exact hb x hx
  · rw [List.map_map]
    exact List.map_congr_left fun x hx => hF x hx
theorem line62 : sizeLine < 2 ^ 62 := by decide
theorem rg_len {α : Type} {f : Nat → α} {n : Nat} : ((List.range n).map f).length = n := by rw [List.length_map, List.length_range]
theorem rg_get {α : Type} {f : Nat → α} {n k : Nat} (h : k < n) : ((List.range n).map f)[k]? = some (f k) := by
  rw [List.getElem?_map, List.getElem?_range h]
  rfl
theorem rg_inv {α : Type} {f : Nat → α} {n k : Nat} {x : α} (h : ((List.range n).map f)[k]? = some x) : k < n ∧ x = f k := by
  have hk : k < n := by
    have := (List.getElem?_eq_some_iff.mp h).1
    rwa [rg_len] at this
  rw [rg_get hk] at h
  cases h
  exact ⟨hk, rfl⟩
end
end PD
namespace PD
open PySem L2
section
variable {K : PySem.W.Frag} {S S' : Sx} {κ κ' : Bool} {Γ Γ' Γ'' : Ctx} {P : Post} {E : XK}
end
end PD
namespace PD
open PySem L2
section
variable {K : PySem.W.Frag} {S S' : Sx} {κ κ' : Bool} {Γ Γ' Γ'' : Ctx} {P : Post} {E : XK}
end
end PD
namespace L2
open PySem PySem.Spec PyProof.Rows
section
variable {X : Cx}
end
end L2
namespace PD
open PySem L2
section
variable {K : PySem.W.Frag} {S S' : Sx} {κ κ' : Bool} {Γ Γ' Γ'' Γ3 : Ctx} {P : Post}
theorem evo_eachIf {α : Type} {js : List (Option Nat)} {Γc : Ctx} {wi : TI} {g : TG} {tt : TT} {te : TE} {is : List Nat} {xs : List α} (κ' : Bool) (u f : α → PyData) (p : α → Bool) (hu : ∀ x ∈ xs, ∀ y ∈ xs, u x = u y → f x = f y ∧ p x = p y) (hi : EvI K S κ' wi Γ (xs.map u)) (hc : CaptC js Γ Γc) (hjs : (is.all fun i => js[i]? == some none) = true)
    (hj : (js.filterMap id).Nodup) (hz : xs.length ≤ sizeLine) (hb : ∀ x ∈ xs, ExG K S κ' g is (u x) Γc fun Γ' => EvT K S tt Γ' (p x) ∧ (p x = true → EvE K S κ te Γ' (f x))) : EvO K S κ (tComp js wi g tt te) Γ ((xs.filter p).map f) := by
  classical
  let F : PyData → PyData := fun d => if h : ∃ x, x ∈ xs ∧ u x = d then f h.choose else .none
  let G : PyData → Bool := fun d => if h : ∃ x, x ∈ xs ∧ u x = d then p h.choose else false
  have ex : ∀ x ∈ xs, ∃ y, y ∈ xs ∧ u y = u x := fun x hx => ⟨x, hx, rfl⟩
  have hF : ∀ x ∈ xs, F (u x) = f x := fun x hx => by
    show (if h : ∃ y, y ∈ xs ∧ u y = u x then f h.choose else .none) = _
    rw [dif_pos (ex x hx)]
    exact (hu _ (ex x hx).choose_spec.1 _ hx (ex x hx).choose_spec.2).1
  have hG : ∀ x ∈ xs, G (u x) = p x := fun x hx => by
    show (if h : ∃ y, y ∈ xs ∧ u y = u x then p h.choose else false) = _
    rw [dif_pos (ex x hx)]
    exact (hu _ (ex x hx).choose_spec.1 _ hx (ex x hx).choose_spec.2).2
  refine EvO.eq (evo_comp' (κ := κ) κ' G F hi hc hjs hj (by rw [List.length_map]; exact hz) fun d hd => ?_) ?_
  · obtain ⟨x, hx, rfl⟩ := List.mem_map.mp hd
    rw [hF x hx, hG x hx]
    exact hb x hx
  · rw [List.filter_map, List.map_map]
    have e1 : xs.filter (G ∘ u) = xs.filter p := List.filter_congr fun x hx => hG x hx
    rw [e1]
    exact List.map_congr_left fun x hx => hF x (List.mem_filter.mp hx).1
theorem evo_rngIf {js : List (Option Nat)} {Γc : Ctx} {ta : TA} {g : TG} {tt : TT} {te : TE} {is : List Nat} {n : Nat} (f : Nat → PyData) (p : Nat → Bool) (hi : EvA K S false ta Γ [.int n]) (hn : n ≤ sizeLine) (hc : CaptC js Γ Γc) (hjs : (is.all fun i => js[i]? == some none) = true)
    (hj : (js.filterMap id).Nodup) (hb : ∀ k : Nat, k < n → ExG K S true g is (.int k) Γc fun Γ' => EvT K S tt Γ' (p k) ∧ (p k = true → EvE K S κ te Γ' (f k))) : EvO K S κ (tComp js (iRng1 ta) g tt te) Γ (((List.range n).filter p).map f) :=
  evo_eachIf true (fun k : Nat => .int (k : Int)) f p (fun x _ y _ h => by cases Int.ofNat.inj (PyData.int.inj h); exact ⟨rfl, rfl⟩) (ei_rng1 (n := (n : Int)) hi (by omega) (by have := line62; omega)) hc hjs hj (by rw [List.length_range]; exact hn) fun k hk => hb k (List.mem_range.mp hk)
end
end PD
namespace L2
open PySem PySem.Spec PyProof.Rows
section
variable {X : Cx} {K : PySem.W.Frag}
def dd (ns : List Int) : List Int := ns.foldl step_dedup []
theorem firstMet_all (ns : List Int) : firstMet (fun i => ns.getD i 0) ns.length = dd ns := by
  unfold firstMet dd
  congr 1
  refine List.ext_getElem? fun i => ?_
  rw [List.getElem?_map]
  by_cases h : i < ns.length
  · rw [List.getElem?_range h, List.getElem?_eq_getElem h]
    show some (ns.getD i 0) = _
    rw [List.getD_eq_getElem?_getD, List.getElem?_eq_getElem h]
    rfl
  · rw [List.getElem?_eq_none (by rw [List.length_range]; omega), List.getElem?_eq_none (by omega)]
    rfl
theorem dd_snoc (ns : List Int) (k : Int) : dd (ns ++ [k]) = step_dedup (dd ns) k := by
  unfold dd
  rw [List.foldl_append]
  rfl
theorem dd_mem (ns : List Int) : ∀ k, k ∈ dd ns ↔ k ∈ ns := by
  suffices h : ∀ n, ∀ k, k ∈ dd (ns.take n) ↔ k ∈ ns.take n by simpa using h ns.length
  intro n
  induction n with
  | zero => intro k; rfl
  | succ n ih =>
    intro k
    by_cases hn : n < ns.length
    · have e : ns.take (n + 1) = ns.take n ++ [ns[n]] := by rw [List.take_succ, List.getElem?_eq_getElem hn]; rfl
      rw [e, dd_snoc]
      unfold step_dedup
      split
      · rename_i h
        obtain ⟨x, hx, ex⟩ := List.any_eq_true.mp h
        have := eq_of_beq ex
        subst this
        rw [ih, List.mem_append]
        refine ⟨.inl, fun z => ?_⟩
        rcases z with z | z
        · exact z
        · rw [List.mem_singleton.mp z]
          exact (ih _).mp hx
      · rw [List.mem_append, List.mem_append, ih]
    · rw [List.take_of_length_le (by omega)]
      have := ih k
      rw [List.take_of_length_le (by omega)] at this
      exact this
theorem dd_len (ns : List Int) : (dd ns).length ≤ ns.length := by
  have := length_foldl_step_dedup_le ns ([] : List Int)
  simpa [dd] using this
end
end L2
namespace PD
open PySem L2
section
variable {K : PySem.W.Frag} {S S' : Sx} {κ κ' : Bool} {Γ Γ' Γ'' : Ctx} {P : Post}
theorem ex_popAt {ti : TE} {i : Nat} {m : Int} {ds : List PyData} (h : GetC Γ i (.ow κ ds)) (hi : EvE K S false ti Γ (.int m)) (h0 : 0 ≤ m) (hm : m < ds.length) (hb : ds.length ≤ 1000000) (e : SetC Γ i (some (.ow κ (ds.eraseIdx m.toNat))) Γ') (k : P.nx Γ') :
    ExS K S (tDrop (tBM K "list" rPopAt (tVar i) (tCons ti tNil))) Γ P := fun H0 F0 H F σ B e1 bb vv D I => by
  obtain ⟨v0, q1, a, vs, rfl, w, q5⟩ := e1.has i _ h.eq
  refine ⟨_, q1, .inl ⟨rfl, _, SqL.of w.h⟩, hi H0 F0 H F σ e1 _ fun v1 H1 F1 g p1 => ?_⟩
  cases rp_int p1
  have k' := rpAll_mono g.f q5
  have hl := RpAll.length q5
  have hk : m.toNat < vs.length := by omega
  have sx : seqIndex? m vs.length = some m.toNat := by
    unfold seqIndex?
    have e1 : ¬ m < 0 := by omega
    have e2 : (decide (0 ≤ m) && decide (m < (vs.length : Int))) = true := by
      rw [decide_eq_true h0, decide_eq_true (show m < (vs.length : Int) by omega)]
      rfl
    simp only [if_neg e1, e2]
    rfl
  refine ⟨a, vs, m, m.toNat, vs[m.toNat], rfl, rfl, g.h _ _ w.h, by omega, by omega, sx, List.getElem?_eq_getElem hk, ?_⟩
  obtain rfl := e.eq
  exact I.nx _ _ _ F1 k (bb.trans g.f) ((e1.mono g).put (y := .ow κ (ds.eraseIdx m.toNat)) h.eq q1 (show Owns H1 (.ref a) (.ow κ ds) a from rfl) ⟨a, _, rfl, ⟨upd_same, (w.mono g).f, w.n, w.s⟩, by
    rw [List.eraseIdx_eq_take_drop_succ, List.eraseIdx_eq_take_drop_succ]
    exact RpAll.append (RpAll.take _ k') (RpAll.drop _ k')⟩ fun _ z => z)
end
end PD
namespace PD
open PySem L2
section
variable {K : PySem.W.Frag} {S S' : Sx} {κ κ' : Bool} {Γ Γ' Γ'' : Ctx} {P : Post}
def EvG (K : PySem.W.Frag) (S : Sx) (κ : Bool) (t : TE) (Γ : Ctx) (G : PyData → Prop) : Prop := ∀ (H0 F0 H F : Hp) (σ : St), DEnv K S H0 F0 H F σ Γ → ∀ Q : VK, (∀ d v H' F', G d → Gr H F H' F' → Rp K κ S H0 F' v d → Q v H') → t σ H Q
theorem EvE.g {t : TE} {d : PyData} (h : EvE K S κ t Γ d) : EvG K S κ t Γ (· = d) := fun H0 F0 H F σ e Q q => h H0 F0 H F σ e Q fun v H' F' g p => q d v H' F' rfl g p
theorem EvI.eq {wi : TI} {ds ds' : List PyData} (h : EvI K S κ wi Γ ds) (e : ds = ds') : EvI K S κ wi Γ ds' := e ▸ h
def EvTU (K : PySem.W.Frag) (S : Sx) (t : TT) (Γ : Ctx) : Prop := ∀ (H0 F0 H F : Hp) (σ : St), DEnv K S H0 F0 H F σ Γ → ∀ Q : Bool → Hp → Prop, (∀ b H' F', Gr H F H' F' → Q b H') → t σ H Q
theorem EvT.u {t : TT} {b : Bool} (h : EvT K S t Γ b) : EvTU K S t Γ := fun H0 F0 H F σ e Q q => h H0 F0 H F σ e Q fun H' F' g => q b H' F' g
def spW (K : PySem.W.Frag) (κ : Bool) (pre : List PyData → (PyData → Prop) → Prop) : Sp := fun vs H Q _ => ∃ F ds G, Same F H ∧ DpAll K F vs ds ∧ pre ds G ∧ ∀ d v H' F', G d → Gr H F H' F' → Rp K κ .fresh H F' v d → Q v H'
theorem spW_len {pre : List PyData → (PyData → Prop) → Prop} {n : Nat} (h : ∀ ds G, pre ds G → ds.length = n) {vs : List V} {H : Hp} {Q : VK} {E : XK} (s : spW K κ pre vs H Q E) : vs.length = n := by
  obtain ⟨F, ds, d, _, k, p, _⟩ := s
  rw [DpAll.length k]
  exact h ds d p
theorem evg_call {pre : List PyData → (PyData → Prop) → Prop} {E : XK} {t : TA} {ds : List PyData} {G : PyData → Prop} (h : EvA K S false t Γ ds) (hp : pre ds G) : EvG K S κ (tCall (spW K true pre) [] E t) Γ G := fun H0 F0 H F σ e Q q =>
  h H0 F0 H F σ e _ fun vs H1 F1 g1 p1 => ⟨F1, ds, G, g1.le, by rw [List.append_nil]; exact rpAll_dp p1, hp, fun d v H2 F2 hd g2 p2 => q d v H2 F2 hd (g1.trans g2) (rp_weak (κ := true) (fun _ => rfl) (rp_map (κ := true) (κ' := true) (S' := S) (H0' := H0) (fun a xs z => ⟨z.1, fun c => by
    obtain ⟨u, hu⟩ := (e.mono g1).sd a c
    exact z.2 (by show H1 a ≠ none; rw [hu]; simp)⟩) (fun _ _ z => z) p2))⟩
theorem exg {te : TE} {u : TS} {i : Nat} {G : PyData → Prop} {Γ' : PyData → Ctx} (κ : Bool) (h : EvG K S κ te Γ G) (es : ∀ d, SetC Γ i (some (.fz κ d)) (Γ' d)) (k : ∀ d, G d → ExT K S S' u (Γ' d) P) : ExT K S S' (tSeq (tAsg te (gName i)) u) Γ P :=
  ex_seq (fun Γ1 => ∃ d, G d ∧ Γ1 = Γ' d) (fun H0 F0 H F σ B e b _ D I => h H0 F0 H F σ e _ fun d v H' F' hd g p => I.nx _ _ H' F' ⟨d, hd, rfl⟩ (b.trans g.f) (by rw [← (es d).eq]; exact (e.mono g).setF p)) fun Γ1 ⟨d, hd, z⟩ => z ▸ k d hd
def EvOG (K : PySem.W.Frag) (S : Sx) (κ : Bool) (t : TE) (Γ : Ctx) (G : List PyData → Prop) : Prop := ∀ (H0 F0 H F : Hp) (σ : St), DEnv K S H0 F0 H F σ Γ → ∀ Q : VK, (∀ ds a vs H' F', G ds → Gr H F H' F' → H a = none → H' a = some (.lst vs) → F' a = none → RpAll K κ S H0 F' vs ds → Q (.ref a) H') → t σ H Q
theorem evog_call {pre : List PyData → (PyData → Prop) → Prop} {E : XK} {t : TA} {ds : List PyData} {G : PyData → Prop} (h : EvA K S false t Γ ds) (hp : pre ds G) (hg : ∀ d, G d → ∃ xs, d = .list xs ∧ ∀ x ∈ xs, imm x = true) : EvOG K S κ (tCall (spW K true pre) [] E t) Γ (fun xs => G (.list xs)) := fun H0 F0 H F σ e Q q =>
  h H0 F0 H F σ e _ fun vs H1 F1 g1 p1 => ⟨F1, ds, _, g1.le, by rw [List.append_nil]; exact rpAll_dp p1, hp, fun d v H2 F2 hd g2 p2 => by
    obtain ⟨xs, rfl, him⟩ := hg d hd
    obtain ⟨a, us, rfl, hl, hk⟩ := rp_lst p2
    have h1 : H1 a = none := Classical.byContradiction fun z => hl.2 z
    have g := g1.trans g2
    refine q xs a us H2 (drop (fun c => c = a) F2) hd ⟨g.h, fun b o z => drop_some.mpr ⟨g.f _ _ z, ?_⟩, fun b o z => g.le _ _ (drop_some.mp z).1, fun b o z n => ?_⟩ (g1.h.free h1) (g2.le _ _ hl.1) (drop_none hl.1 rfl) (imm_drop him (rpAll_dp hk))
    · rintro ⟨rfl, _⟩
      have := e.le _ _ z
      rw [g1.h.free h1] at this; cases this
    · cases q' : drop (fun c => c = a) F2 b with
      | none => rfl
      | some o' =>
        have := (drop_some.mp q').1
        rw [g.ap _ _ z n] at this; cases this⟩
theorem run_defW {t : TS} {N : List Str} {n : Nat} {H F : Hp} {vs : List V} {ds : List PyData} {G : PyData → Prop} {Q : VK} {Γ : Ctx} (le : Same F H) (k : DpAll K F vs ds) (q : ∀ d v H' F', G d → Gr H F H' F' → Rp K κ .fresh H F' v d → Q v H') (hn : N.length = n) (hΓ : StartC n ds Γ)
    (h : ExS K .fresh t Γ { nx := fun _ => False, rt := G, kr := κ }) : t { nx := fun _ H' => Q .non H', rt := Q } (L2.start N vs) H := by
  have e := denv_start (N := N) le k
  rw [hn, hΓ.eq] at e
  exact h H F H F _ F e (.refl _) (.inl rfl) _ ⟨fun _ _ _ _ z => z.elim, fun d v H' F' r g p => q d v H' F' r g p, fun _ _ _ _ z => z.elim, fun _ _ _ _ z => z.elim⟩
end
end PD
namespace L2
open PySem
def Rise (xs : Array Nat) : Prop := xs.toList.Pairwise (· < ·)
theorem Rise.lt {xs : Array Nat} (r : Rise xs) {i j : Nat} (h : i < j) (hj : j < xs.size) : xs[i]'(by omega) < xs[j] := by
  have := List.pairwise_iff_getElem.mp r i j (by simp; omega) (by simpa using hj) h
  simpa using this
theorem below_go (xs : Array Nat) (r : Rise xs) (j : Nat) : ∀ (fuel lo hi : Nat), lo ≤ hi → hi ≤ xs.size → hi - lo ≤ fuel →
    (∀ i (h : i < xs.size), i < lo → xs[i] < j) → (∀ i (h : i < xs.size), hi ≤ i → j ≤ xs[i]) →
    SetTable.below.go xs j fuel lo hi ≤ xs.size ∧ (∀ i (h : i < xs.size), i < SetTable.below.go xs j fuel lo hi → xs[i] < j) ∧ ∀ i (h : i < xs.size), SetTable.below.go xs j fuel lo hi ≤ i → j ≤ xs[i]
  | 0, lo, hi, h1, h2, h3, a, b => by
    have : lo = hi := by omega
    subst this
    exact ⟨h2, a, b⟩
  | f + 1, lo, hi, h1, h2, h3, a, b => by
    unfold SetTable.below.go
    by_cases hl : lo < hi
    · rw [if_pos hl]
      dsimp only
      have hm : (lo + hi) / 2 < xs.size := by omega
      have eg : xs.getD ((lo + hi) / 2) j = xs[(lo + hi) / 2] := by simp [hm]
      rw [eg]
      by_cases hx : xs[(lo + hi) / 2] < j
      · rw [if_pos hx]
        refine below_go xs r j f _ _ (by omega) h2 (by omega) (fun i hi' hlt => ?_) b
        by_cases e : i = (lo + hi) / 2
        · subst e; exact hx
        · exact Nat.lt_trans (r.lt (show i < (lo + hi) / 2 by omega) hm) hx
      · rw [if_neg hx]
        refine below_go xs r j f _ _ (by omega) (by omega) (by omega) a fun i hi' hle => ?_
        by_cases e : i = (lo + hi) / 2
        · subst e; omega
        · have := r.lt (show (lo + hi) / 2 < i by omega) hi'
          omega
    · rw [if_neg hl]
      have : lo = hi := by omega
      subst this
      exact ⟨h2, a, b⟩
theorem below_ok (xs : Array Nat) (r : Rise xs) (j : Nat) : SetTable.below xs j ≤ xs.size ∧ (∀ i (h : i < xs.size), i < SetTable.below xs j → xs[i] < j) ∧ ∀ i (h : i < xs.size), SetTable.below xs j ≤ i → j ≤ xs[i] :=
  below_go xs r j _ _ _ (Nat.zero_le _) (Nat.le_refl _) (by omega) (fun _ _ h => by omega) fun i h z => by omega
theorem below_next {xs : Array Nat} (r : Rise xs) (i : Nat) (h : i < xs.size) : SetTable.below xs (xs[i] + 1) = i + 1 := by
  obtain ⟨a, b, c⟩ := below_ok xs r (xs[i] + 1)
  have h1 : ¬ SetTable.below xs (xs[i] + 1) ≤ i := fun z => by have := c i h z; omega
  have h2 : ¬ i + 1 < SetTable.below xs (xs[i] + 1) := fun z => by
    have := b (i + 1) (by omega) z
    have := r.lt (Nat.lt_succ_self i) (show i + 1 < xs.size by omega)
    simp only [Nat.succ_eq_add_one] at this
    omega
  omega
theorem below_zero {xs : Array Nat} (r : Rise xs) : SetTable.below xs 0 = 0 := by
  obtain ⟨a, b, c⟩ := below_ok xs r 0
  by_cases h : SetTable.below xs 0 = 0
  · exact h
  · have := b 0 (by omega) (by omega); omega
structure TOk (b : Bool) (t : SetTable) : Prop where
  led : t.led = b
  rise : Rise t.place
  dum : t.dummies = #[]
theorem TOk.fresh {b : Bool} {f m : Nat} : TOk b (.fresh f m b) := ⟨rfl, List.Pairwise.nil, rfl⟩
theorem TOk.plain {b c : Bool} {t : SetTable} (h : TOk b t) : TOk b { t with plain := c } := ⟨h.led, h.rise, h.dum⟩
theorem TOk.standIn {b : Bool} {t : SetTable} (h : TOk b t) (n : Nat) : TOk b (t.standIn n) := ⟨h.led, by
  show (Array.range n).toList.Pairwise (· < ·)
  rw [Array.toList_range]
  exact List.pairwise_lt_range, rfl⟩
theorem TOk.orStandIn {b : Bool} {t : SetTable} (h : TOk b t) (n : Nat) : TOk b (t.orStandIn n) := by
  unfold SetTable.orStandIn
  split
  · exact h
  · exact h.standIn n
theorem has_nil (j : Nat) : SetTable.has #[] j = false := rfl
theorem slot_ne {t : SetTable} {j : Nat} (h : t.slot j = .empty) : t.place[SetTable.below t.place j]? ≠ some j := by
  intro z
  unfold SetTable.slot at h
  simp [z] at h
theorem probe_empty {t : SetTable} {b : Bool} (ht : TOk b t) {g : Nat → Int} {h : Int} : ∀ (n : Nat) (p : SetTable.Probe) {j : Nat} {d : Option Nat}, p.dummy = none → SetTable.probe.go t g h n p = some (.empty j d) → d = none ∧ t.slot j = .empty
  | 0, p, j, d, _, e => by cases e
  | n + 1, p, j, d, hp, e => by
    unfold SetTable.probe.go at e
    split at e
    · rename_i hs
      injection e with e
      injection e with e1 e2
      subst e1
      exact ⟨e2 ▸ hp, hs⟩
    · rename_i hs
      exfalso
      unfold SetTable.slot at hs
      rw [ht.dum] at hs
      simp only [has_nil] at hs
      split at hs <;> simp at hs
    · split at e
      · cases e
      · refine probe_empty ht n _ ?_ e
        unfold SetTable.advance
        split
        · exact hp
        · exact hp
theorem put_ok {b : Bool} {t : SetTable} (h : TOk b t) {j : Nat} (hj : t.slot j = .empty) : TOk b (t.put j).1 := by
  refine ⟨h.led, ?_, by show (if SetTable.has t.dummies j = true then _ else _) = _; rw [h.dum, has_nil]; rfl⟩
  have hn := slot_ne hj
  obtain ⟨a, b, c⟩ := below_ok t.place h.rise j
  show (SetTable.insertAt t.place (SetTable.below t.place j) j).toList.Pairwise (· < ·)
  generalize SetTable.below t.place j = p at *
  rw [SetTable.toList_insertAt, List.pairwise_append]
  have hr : t.place.toList.Pairwise (· < ·) := h.rise
  refine ⟨hr.sublist (List.take_sublist _ _), ?_, ?_⟩
  · rw [List.pairwise_cons]
    refine ⟨fun x hx => ?_, hr.sublist (List.drop_sublist _ _)⟩
    obtain ⟨i, hi, rfl⟩ := List.mem_iff_getElem.mp hx
    rw [List.length_drop, Array.length_toList] at hi
    rw [List.getElem_drop, Array.getElem_toList]
    have := c (p + i) (by omega) (by omega)
    by_cases z : i = 0
    · subst z
      have h2 : t.place[p] ≠ j := fun q => hn (by rw [Array.getElem?_eq_getElem (by omega), q])
      simp only [Nat.add_zero] at this ⊢
      omega
    · have h3 := h.rise.lt (show p < p + i by omega) (show p + i < t.place.size by omega)
      have h4 := c p (by omega) (Nat.le_refl _)
      omega
  · intro x hx y hy
    obtain ⟨i, hi, rfl⟩ := List.mem_iff_getElem.mp hx
    rw [List.length_take, Array.length_toList] at hi
    rw [List.getElem_take, Array.getElem_toList]
    have h1 := b i (by omega) (by omega)
    rcases List.mem_cons.mp hy with rfl | hy
    · exact h1
    · obtain ⟨k, hk, rfl⟩ := List.mem_iff_getElem.mp hy
      rw [List.length_drop, Array.length_toList] at hk
      rw [List.getElem_drop, Array.getElem_toList]
      have := c (p + k) (by omega) (by omega)
      omega
theorem layNew_ok {b : Bool} {t : SetTable} (h : TOk b t) (es : Array (Int × Value)) (k : Int) (x : Value) : TOk b (layNew t es k x).2.1 := by
  unfold layNew
  split
  · rename_i slot wd e
    unfold SetTable.freeSlot at e
    split at e
    · rename_i j d e2
      obtain ⟨rfl, hs⟩ := probe_empty h _ _ rfl e2
      injection e with e
      injection e with e3 _
      have e3 : j = slot := e3
      subst e3
      exact (put_ok h hs).orStandIn _
    · cases e
  · exact h.standIn _
theorem relayAll_ok {b : Bool} {t : SetTable} (h : TOk b t) (es : Array (Int × Value)) (n : Nat) : TOk b (relayAll t es n).2.1 := by
  unfold relayAll
  split
  · rename_i t' order e
    dsimp only
    split
    · unfold SetTable.relaid SetTable.laid at e
      simp only [Option.bind_eq_bind] at e
      obtain ⟨ow, _, e⟩ := Option.bind_eq_some_iff.mp e
      injection e with e
      injection e with e1 e2
      subst e1
      refine ⟨h.led, ?_, rfl⟩
      show List.Pairwise (· < ·) _
      dsimp only
      rw [List.pairwise_map, List.pairwise_filterMap]
      refine List.pairwise_lt_range.imp fun {i j} hij x hx y hy => ?_
      obtain ⟨u, _, rfl⟩ := Option.map_eq_some_iff.mp hx
      obtain ⟨u', _, rfl⟩ := Option.map_eq_some_iff.mp hy
      exact hij
    · exact h.standIn _
  · exact h.standIn _
theorem pickOrder_perm {α : Type} (next : Nat → Nat) (xs : Array α) : (pickOrder next xs).toList.Perm xs.toList := by
  suffices h : ∀ (n k : Nat) (l : List α) (out : Array α), l.length = n → (pickOrder.go next n k l out).toList.Perm (out.toList ++ l) by
    have := h xs.size 0 xs.toList #[] (by simp)
    simpa [pickOrder] using this
  intro n
  induction n with
  | zero =>
    intro k l out hl
    have : l = [] := List.length_eq_zero_iff.mp hl
    subst this
    simp [pickOrder.go]
  | succ n ih =>
    intro k l out hl
    unfold pickOrder.go
    have hm : next k % l.length < l.length := Nat.mod_lt _ (by omega)
    rw [List.getElem?_eq_getElem hm]
    dsimp only
    refine (ih _ _ _ (by rw [List.length_eraseIdx_of_lt hm]; omega)).trans ?_
    rw [Array.toList_push, List.append_assoc]
    refine List.Perm.append_left _ ?_
    have e : l = l.take (next k % l.length) ++ l[next k % l.length] :: l.drop (next k % l.length + 1) := by
      rw [← List.drop_eq_getElem_cons hm, List.take_append_drop]
    conv => rhs; rw [e]
    rw [List.eraseIdx_eq_take_drop_succ, List.singleton_append]
    exact List.perm_middle.symm
end L2
namespace L2
open PySem PySem.Spec PyProof.Rows
def IsE (e : Int × Value) : Prop := ∃ k t, e = (hashInt k, .int k t)
def kOf (e : Int × Value) : Int := match e.2 with | .int k _ => k | _ => 0
def SetI (b : Bool) (a : Addr) (l : List Int) (h : Heap) : Prop :=
  ∃ o es ep t, h.get? a = some o ∧ o.ExactSet ∧ o.data = .set es ep t ∧ (∀ e ∈ es.toList, IsE e) ∧ (es.toList.map kOf).Perm l ∧ es.size < scanBound ∧ t.fits es.size = true ∧ TOk b t
section
variable {prog : Program} {w : World} {A : Around} {E : Value → Shared → Prop} {s : Shared} {b : Bool} {a : Addr} {l : List Int}
theorem SetI.at {h h' : Heap} (x : SetI b a l h) (e : ∀ o, h.get? a = some o → h'.get? a = some o) : SetI b a l h' :=
  let ⟨o, es, ep, t, ho, r⟩ := x
  ⟨o, es, ep, t, e o ho, r⟩
theorem IsE.elems {es : List (Int × Value)} (h : ∀ e ∈ es, IsE e) : ElemsOf (intKind prog w) es := fun e he => by
  obtain ⟨k, t, rfl⟩ := h e he
  exact ⟨⟨k, intKind_is _ _ k t, rfl⟩, rfl⟩
theorem IsE.is {e : Int × Value} (h : IsE e) (k : Int) : (intKind prog w).is k e.2 = true ↔ kOf e = k := by
  obtain ⟨j, t, rfl⟩ := h
  constructor
  · intro z
    exact ((intKind prog w).inj _ _ _ z (intKind_is _ _ j t)).symm
  · intro z
    have z : j = k := z
    subst z
    exact intKind_is _ _ j t
theorem IsE.ints : ∀ {es : List (Int × Value)}, (∀ e ∈ es, IsE e) → IntsAre (es.map (·.2)) (es.map kOf)
  | [], _ => .nil
  | e :: es, h => by
    obtain ⟨k, t, rfl⟩ := h e (.head _)
    exact .cons k t (IsE.ints fun x hx => h x (.tail _ hx))
theorem storeI {o : Obj} {es : Array (Int × Value)} {ep : Nat} {t : SetTable} {h : Heap} (ho : h.get? a = some o) (hd : o.data = .set es ep t) (es' : Array (Int × Value)) (t' : SetTable) :
    (h.update a (Obj.putSet es' t')).get? a = some { o with data := .set es' (ep + 1) t' } := by
  have q := Heap.get?_update_self (Obj.putSet es' t') ho (by rw [putSet_of _ _ hd]; rfl)
  rwa [putSet_of _ _ hd] at q
theorem tailI {g : Bool → Sem Unit} (hg : ∀ (c : Bool) (s₁ : Shared) (R : Unit → Shared → Prop), R () s₁ → wpAny (model prog w) A (g c) R E s₁)
    {o : Obj} {es : Array (Int × Value)} {ep : Nat} {t : SetTable} (ho : s.heap.get? a = some o) (hex : o.ExactSet) (hd : o.data = .set es ep t)
    {es1 : Array (Int × Value)} {t2 : SetTable} (he : ∀ e ∈ es1.toList, IsE e) (hp : (es1.toList.map kOf).Perm l) (hz : es1.size < scanBound) (hf : t2.fits es1.size = true) (ht : TOk b t2) {wd : Bool} {R : Option Bool → Shared → Prop}
    (k : ∀ h', Heap.SameBut a s.heap h' → SetI b a l h' → R (some true) { s with heap := h' }) :
    wpAny (model prog w) A (do
      storeSet a es1 t2
      if (!wd && t2.tooFull) = true then do
        g (relayAll t2 es1 (SetTable.grown es1.size)).2.2; storeSet a (relayAll t2 es1 (SetTable.grown es1.size)).1 (relayAll t2 es1 (SetTable.grown es1.size)).2.1; pure (some true)
      else pure (some true)) R E s := by
  refine wpAny_bind (wpAny_storeSet_of ho hd ?_ (fits_of_scanBound hz))
  have g1 := storeI ho hd es1 t2
  have u1 := Heap.SameBut.update s.heap a (Obj.putSet es1 t2)
  split
  · have hr := relayAll_perm t2 es1 (SetTable.grown es1.size)
    have hq := relayAll_fits t2 es1 (SetTable.grown es1.size)
    have hk := relayAll_ok ht es1 (SetTable.grown es1.size)
    generalize relayAll t2 es1 (SetTable.grown es1.size) = Z at hr hq hk ⊢
    obtain ⟨es2, t3, gv⟩ := Z
    dsimp only at hr hq hk ⊢
    have z2 : es2.size = es1.size := by have := hr.length_eq; simpa using this
    refine wpAny_bind (hg _ _ _ ?_)
    refine wpAny_bind (wpAny_storeSet_of g1 rfl ?_ (fits_of_scanBound (by rw [z2]; exact hz)))
    exact wpAny_pure (k _ (u1.trans (Heap.SameBut.update _ a _)) ⟨_, es2, _, t3, storeI g1 rfl es2 t3, hex, rfl, fun e x => he e (hr.mem_iff.mp x), (hr.map kOf).trans hp, by rw [z2]; exact hz, hq, hk⟩)
  · exact wpAny_pure (k _ u1 ⟨_, es1, _, t2, g1, hex, rfl, he, hp, hz, hf, ht⟩)
theorem addI {k : Int} {tk : Tok} {Q : Bool → Shared → Prop} (hS : SetI b a l s.heap) (hl : l.length + 1 < scanBound)
    (h : ∀ (r : Bool) h', Heap.SameBut a s.heap h' → SetI b a (step_dedup l k) h' → Q r { s with heap := h' }) :
    wpAny (model prog w) A (setAddHashed a (.int k tk) (hashInt k)) Q E s := by
  obtain ⟨o, es, ep, t, ho, hex, hd, hE, hp, hz, hf, ht⟩ := hS
  have hel : ElemsOf (intKind prog w) es.toList := IsE.elems hE
  have hn : es.size = l.length := by have := hp.length_eq; simpa using this
  have hm : ∀ k', k' ∈ l ↔ ∃ e ∈ es.toList, (intKind prog w).is k' e.2 = true := fun k' => by
    rw [← hp.mem_iff, List.mem_map]
    exact ⟨fun ⟨e, x, y⟩ => ⟨e, x, ((hE e x).is k').mpr y⟩, fun ⟨e, x, y⟩ => ⟨e, x, ((hE e x).is k').mp y⟩⟩
  unfold setAddHashed setAddHashedIn
  refine wpAny_holding (wpAny_bind (wpAny_setState_of ho hd hf ?_))
  dsimp only
  rw [byScan_of (knd := intKind prog w) (x := .int k tk) rfl hz hel]
  simp only [↓reduceIte]
  unfold setAddByScan
  refine wpAny_bind (wpAny_bind (wpAny_rule ?_))
  refine wpAny_bind (wpAny_setScan_of (knd := intKind prog w) (k := k) (intKind_is _ _ k tk) ho hd hf hel ?_)
  cases hr : List.findIdx? (fun e => (intKind prog w).is k e.2) es.toList with
  | some j =>
    dsimp only
    obtain ⟨hj, hpj, _⟩ := List.findIdx?_eq_some_iff_getElem.mp hr
    have hk : k ∈ l := (hm k).mpr ⟨es.toList[j], List.getElem_mem hj, hpj⟩
    have e1 : step_dedup l k = l := by unfold step_dedup; rw [if_pos (List.any_eq_true.mpr ⟨k, hk, by simp⟩)]
    have q := h false s.heap (Heap.SameBut.refl a s.heap) (e1.symm ▸ ⟨o, es, ep, t, ho, hex, hd, hE, hp, hz, hf, ht⟩)
    exact wpAny_pure (wpAny_pure q)
  | none =>
    dsimp only
    have hk : k ∉ l := fun z => by
      obtain ⟨e, he, hpe⟩ := (hm k).mp z
      have q := List.findIdx?_eq_none_iff.mp hr e he
      rw [hpe] at q; cases q
    have e1 : step_dedup l k = l ++ [k] := by
      unfold step_dedup
      refine if_neg fun z => ?_
      obtain ⟨x, hx, ex⟩ := List.any_eq_true.mp z
      exact hk (eq_of_beq ex ▸ hx)
    have hgw : ∀ (c : Bool) {s₁ : Shared} {R : Unit → Shared → Prop}, R () s₁ → wpAny (model prog w) A (match c with | true => rule "set.scan.the-table-gave-way" | false => pure ()) R E s₁ := fun c s₁ R q => by
      cases c
      · exact wpAny_pure q
      · exact wpAny_rule q
    have hperm := layNew_perm t es (hashInt k) (.int k tk)
    have hfits := layNew_fits t es (hashInt k) (.int k tk)
    have hok := layNew_ok ht es (hashInt k) (.int k tk)
    show wpAny _ _ (let (es, t, wasDummy, gave) := layNew t es (hashInt k) (.int k tk); _) _ _ _
    generalize layNew t es (hashInt k) (.int k tk) = Z at hperm hfits hok ⊢
    obtain ⟨es1, t1, wd, gv⟩ := Z
    dsimp only at hperm hfits hok ⊢
    rw [Array.toList_push] at hperm
    have hE1 : ∀ e ∈ es1.toList, IsE e := fun e he => by
      rcases List.mem_append.mp (hperm.mem_iff.mp he) with z | z
      · exact hE e z
      · rw [List.mem_singleton.mp z]; exact ⟨k, tk, rfl⟩
    have hp1 : (es1.toList.map kOf).Perm (l ++ [k]) := by
      refine (hperm.map kOf).trans ?_
      rw [List.map_append]
      exact hp.append_right _
    have hz1 : es1.size < scanBound := by
      have q := hp1.length_eq
      rw [List.length_map, Array.length_toList, List.length_append] at q
      have : es1.size = l.length + 1 := q
      omega
    refine wpAny_bind (hgw _ ?_)
    have kk : ∀ h', Heap.SameBut a s.heap h' → SetI b a (l ++ [k]) h' → Q true { s with heap := h' } := fun h' u v => h true h' u (e1.symm ▸ v)
    split
    · refine wpAny_bind ?_
      rw [hashByValue_scannable 8 (x := .int k tk) rfl]
      refine wpAny_pure ?_
      refine tailI ?_ ho hex hd hE1 hp1 hz1 ?_ ?_ fun h' u v => wpAny_pure (kk h' u v)
      · exact fun c s₁ R q => hgw c q
      · split
        · exact hfits
        · exact SetTable.fits_plain_off hfits
      · split
        · exact hok
        · exact hok.plain
    · refine wpAny_bind (wpAny_pure ?_)
      simp only [↓reduceIte]
      refine tailI ?_ ho hex hd hE1 hp1 hz1 hfits hok fun h' u v => wpAny_pure (kk h' u v)
      exact fun c s₁ R q => hgw c q
end
end L2
namespace L2
open PySem PySem.Spec PyProof.Rows
theorem setit_next : Slot "set_iterator" "__next__" "set_iterator.__next__" := .of (owner := "set_iterator") (n := "__next__")
  (by rw [typeLookup_type, builtinLookup_eq_fast]; kernel_rfl) (by decide +kernel) (by decide +kernel)
  (by decide +kernel) (by first | exact .inl (by decide +kernel) | exact .inr (by decide +kernel))
  (by rw [isSubtype_type]; kernel_rfl)
theorem setit_iter : Slot "set_iterator" "__iter__" "set_iterator.__iter__" := .of (owner := "set_iterator") (n := "__iter__")
  (by rw [typeLookup_type, builtinLookup_eq_fast]; kernel_rfl) (by decide +kernel) (by decide +kernel)
  (by decide +kernel) (by first | exact .inl (by decide +kernel) | exact .inr (by decide +kernel))
  (by rw [isSubtype_type]; kernel_rfl)
theorem setit_entry : entryFor table "set_iterator.__next__" = some Builtin.«set_iterator.__next__» := entryFor_of_tree (by kernel_rfl)
theorem setit_entryI : entryFor table "set_iterator.__iter__" = some Builtin.«dict_keyiterator.__iter__» := entryFor_alias (id' := "dict_keyiterator.__iter__") (by kernel_rfl) rfl (by decide +kernel) (by kernel_rfl)
theorem set_entryI : entryFor table "set.__iter__" = some Builtin.«frozenset.__iter__» := entryFor_alias (id' := "frozenset.__iter__") (by kernel_rfl) rfl (by decide +kernel) (by kernel_rfl)
theorem setit_args (a : Value) : argsOk "set_iterator.__next__" ⟨[a], []⟩ := by
  unfold argsOk
  kernel_rfl
theorem setit_argsI (a : Value) : argsOk "set_iterator.__iter__" ⟨[a], []⟩ := by
  unfold argsOk
  kernel_rfl
end L2
namespace L2
open PySem PySem.Spec PyProof.Rows
def ItO (first : Value) (i : Nat) (a : Addr) (n ep : Nat) : Obj := { cls := .type "set_iterator", data := .fields #[first, .int i 0, .ref a, .int n 0, .int ep 0] }
section
variable {prog : Program} {w : World} {A : Around} {E : Value → Shared → Prop} {s : Shared} {b : Bool} {a I : Addr} {l : List Int}
theorem chooseI {n : Nat} {src : Source} {Q : Nat → Shared → Prop} (hn : n ≠ 0) (h : ∀ i, i < n → ∀ d, Q i { s with drawn := d }) : wpAny (model prog w) A (choose src n) Q E s :=
  fun _ _ _ => ⟨hn, h _ (Nat.mod_lt _ (Nat.pos_of_ne_zero hn)) _⟩
theorem drawI {α : Type} : ∀ (n : Nat) (xs : List α) (s : Shared) {Q : List α → Shared → Prop}, xs.length = n → (∀ ys d, ys.Perm xs → Q ys { s with drawn := d }) → wpAny (model prog w) A (drawOrder n xs) Q E s
  | 0, xs, s, Q, hl, h => by
    have : xs = [] := List.length_eq_zero_iff.mp hl
    subst this
    unfold drawOrder
    exact wpAny_pure (h [] s.drawn .nil)
  | n + 1, [], s, Q, hl, h => by cases hl
  | n + 1, x :: xs, s, Q, hl, h => by
    unfold drawOrder
    refine wpAny_bind (chooseI (by simp) fun i hi d => ?_)
    rw [List.getElem?_eq_getElem hi]
    dsimp only
    refine wpAny_bind (drawI n _ _ (by rw [List.length_eraseIdx_of_lt hi]; omega) fun ys d' hp => wpAny_pure (h _ d' ?_))
    have e : (x :: xs) = (x :: xs).take i ++ (x :: xs)[i] :: (x :: xs).drop (i + 1) := by
      rw [← List.drop_eq_getElem_cons hi, List.take_append_drop]
    rw [List.eraseIdx_eq_take_drop_succ] at hp
    refine (hp.cons _).trans ?_
    conv => rhs; rw [e]
    exact List.perm_middle.symm
theorem nextI {first x : Value} {slot i n ep nx : Nat} {o : Obj} {es : Array (Int × Value)} {t : SetTable} {Q : Option Value → Shared → Prop} (hI : s.heap.get? I = some (ItO (.int slot 0) i a n ep))
    (ho : s.heap.get? a = some o) (hd : o.data = .set es ep t) (hf : t.fits es.size = true) (hn : es.size = n)
    (hN : ∀ (A : Around) (E : Value → Shared → Prop) (R : Option (Value × Nat) → Shared → Prop), R (some (x, nx)) s → wpAny (model prog w) A (setNext a slot i ep) R E s)
    (hQ : ∀ h', h'.get? I = some (ItO (.int nx 0) (i + 1) a n ep) → Heap.SameBut I s.heap h' → Q (some x) { s with heap := h' }) : wpAny (model prog w) A (pyNext (.ref I)) Q E s := by
  have hT : s.TypeIs (.ref I) "set_iterator" := ⟨_, hI, rfl⟩
  unfold pyNext
  refine wpAny_bind (wpAny_attempt (wpAny_callSpecial?_slot (name := Str.ofString "__next__") hT setit_next (wpAny_call_entry setit_next hT setit_entry ?_ (setit_args _))))
  unfold Builtin.«set_iterator.__next__»
  refine wpAny_bind (wpAny_pure ?_)
  refine wpAny_bind (wpAny_fieldsOf hI rfl ?_)
  refine wpAny_bind (wpAny_setEntries_of ho hd hf ?_)
  rw [if_neg (by rw [hn]; simp)]
  dsimp only
  refine wpAny_bind (m := setNext a _ _ _) ?_
  rw [Int.toNat_natCast, Int.toNat_natCast, Int.toNat_natCast]
  refine hN _ _ _ ?_
  dsimp only
  have g1 : (s.heap.update I (Obj.mapFields (·.setIfInBounds 0 (rawInt nx)))).get? I = some (ItO (.int nx 0) i a n ep) := Heap.get?_update_self _ hI rfl
  refine wpAny_bind (wpAny_setField hI rfl (Nat.zero_lt_succ _) ?_)
  have g2 : ((s.heap.update I (Obj.mapFields (·.setIfInBounds 0 (rawInt nx)))).update I (Obj.mapFields (·.setIfInBounds 1 (rawInt ((i : Int) + 1))))).get? I = some (ItO (.int nx 0) (i + 1) a n ep) := Heap.get?_update_self _ g1 rfl
  refine wpAny_bind (wpAny_setField (s := { s with heap := _ }) g1 rfl (Nat.succ_lt_succ (Nat.zero_lt_succ _)) ?_)
  exact wpAny_pure ⟨_, rfl, wpAny_pure (hQ _ g2 ((Heap.SameBut.update ..).trans (Heap.SameBut.update ..)))⟩
theorem stopI {h : Heap} {Q : Option Value → Shared → Prop} (hh : A.handled = none) (k : ∀ h', Heap.ExtBut I h h' → Q none { s with heap := h' }) :
    wpAny (model prog w) A.in1 (newExc (.type "StopIteration") [] >>= fun e => (raiseNew e : Sem Fin)) (fun fin s' => ∃ r, fin = .done (.ret r) ∧ False) (fun e s' => ∃ T, s'.TypeIs e T ∧ T = "StopIteration" ∧ Q none s') { s with heap := h } := by
  refine wpAny_bind ?_
  simp only [newExc, newTuple]
  refine wpAny_bind (wpAny_newObj_type (hd := by size_fits) (wpAny_bind (m := firstArgMember _ _) ?_))
  refine wpAny_of_eq (a := Value.none) (by first | rfl | (simp only [firstArgMember]; rfl)) (wpAny_newObj_type (hd := by size_fits) ?_)
  simp only [raiseNew]
  have h0 : A.in1.handled = none := hh
  apply wpAny_bind
  apply wpAny_handled
  rw [h0]
  exact wpAny_bind (wpAny_pure (wpAny_throw ⟨_, ⟨_, Heap.get?_push_size _ rfl, rfl⟩, rfl, k _ (((show Heap.ExtBut I h h from fun _ _ _ z => z).push _).push _)⟩))
theorem endI {first : Value} {slot i n ep : Nat} {o : Obj} {es : Array (Int × Value)} {t : SetTable} {Q : Option Value → Shared → Prop} (hh : A.handled = none) (hI : s.heap.get? I = some (ItO (.int slot 0) i a n ep))
    (ho : s.heap.get? a = some o) (hd : o.data = .set es ep t) (hf : t.fits es.size = true) (hn : es.size = n)
    (hN : ∀ (A : Around) (E : Value → Shared → Prop) (R : Option (Value × Nat) → Shared → Prop), R none s → wpAny (model prog w) A (setNext a slot i ep) R E s)
    (hQ : ∀ h', Heap.ExtBut I s.heap h' → Q none { s with heap := h' }) : wpAny (model prog w) A (pyNext (.ref I)) Q E s := by
  have hT : s.TypeIs (.ref I) "set_iterator" := ⟨_, hI, rfl⟩
  unfold pyNext
  refine wpAny_bind (wpAny_attempt (wpAny_callSpecial?_slot (name := Str.ofString "__next__") hT setit_next (wpAny_call_entry setit_next hT setit_entry ?_ (setit_args _))))
  unfold Builtin.«set_iterator.__next__»
  refine wpAny_bind (wpAny_pure ?_)
  refine wpAny_bind (wpAny_fieldsOf hI rfl ?_)
  refine wpAny_bind (wpAny_setEntries_of ho hd hf ?_)
  rw [if_neg (by rw [hn]; simp)]
  dsimp only
  refine wpAny_bind (m := setNext a _ _ _) ?_
  rw [Int.toNat_natCast, Int.toNat_natCast, Int.toNat_natCast]
  refine hN _ _ _ ?_
  dsimp only
  refine wpAny_bind (wpAny_setField hI rfl (Nat.succ_lt_succ (Nat.succ_lt_succ (Nat.zero_lt_succ _))) ?_)
  refine wpAny_mono (stopI (I := I) (s := s) hh fun h' u => hQ h' fun c o' n' z => u c o' n' ((Heap.SameBut.update ..).extBut c o' n' z)) (fun _ _ z => ?_) fun e s' z => ?_
  · obtain ⟨_, _, z⟩ := z; exact z.elim
  · obtain ⟨T, x1, rfl, x2⟩ := z
    exact wpAny_bind (wpAny_isInstance (T := "StopIteration") (b := true) x1 isSubtype_stop (wpAny_pure x2))
end
end L2
namespace L2
open PySem PySem.Spec PyProof.Rows
section
variable {prog : Program} {w : World} {A : Around} {E : Value → Shared → Prop} {s : Shared} {b : Bool} {a I : Addr} {l : List Int}
theorem goText {i ep : Nat} {o : Obj} {es : Array (Int × Value)} {t : SetTable} {R : Option (Value × Nat) → Shared → Prop} (hb : w.params.followText "set-order" = true)
    (ho : s.heap.get? a = some o) (hd : o.data = .set es ep t) (hf : t.fits es.size = true)
    (k : R (((pickOrder (w.params.setOrder a ep) es).toList.map (·.2))[i]?.map fun x => (x, 0)) s) : wpAny (model prog w) A (setNext a 0 i ep) R E s := by
  unfold setNext
  refine wpAny_bind (wpAny_setState_of ho hd hf ?_)
  dsimp only
  unfold setsByText
  refine wpAny_bind (wpAny_bind (wpAny_askSetting (wpAny_pure ?_)))
  rw [show (model prog w).w.params.followText "set-order" = true from hb]
  simp only [↓reduceIte]
  rw [if_neg (by simp)]
  unfold setWalk
  refine wpAny_bind (wpAny_bind (wpAny_setState_of ho hd hf ?_))
  dsimp only
  unfold setsByText
  refine wpAny_bind (wpAny_bind (wpAny_askSetting (wpAny_pure ?_)))
  rw [show (model prog w).w.params.followText "set-order" = true from hb]
  simp only [↓reduceIte]
  refine wpAny_bind (wpAny_askSetting (wpAny_pure (wpAny_pure ?_)))
  rw [List.getElem?_map, Option.map_map, Array.getElem?_toList] at k
  exact k
def slP (t : SetTable) : Nat → Nat
  | 0 => 0
  | j + 1 => t.place.getD j 0 + 1
theorem slP_below {t : SetTable} {c : Bool} (ht : TOk c t) {i : Nat} (hi : i ≤ t.place.size) : SetTable.below t.place (slP t i) = i := by
  cases i with
  | zero => exact below_zero ht.rise
  | succ j =>
    have : t.place.getD j 0 = t.place[j] := by simp [show j < t.place.size by omega]
    show SetTable.below t.place (t.place.getD j 0 + 1) = _
    rw [this]
    exact below_next ht.rise j (by omega)
theorem goPlace {i ep : Nat} {o : Obj} {es : Array (Int × Value)} {t : SetTable} {R : Option (Value × Nat) → Shared → Prop} (hb : w.params.followText "set-order" = false)
    (ho : s.heap.get? a = some o) (hd : o.data = .set es ep t) (hf : t.fits es.size = true) (ht : TOk true t) (hp : (!t.plain && decide (es.size > 1)) = false) (hi : i ≤ es.size)
    (k : R ((es.toList.map (·.2))[i]?.map fun x => (x, slP t (i + 1))) s) : wpAny (model prog w) A (setNext a (slP t i) i ep) R E s := by
  have hz : t.place.size = es.size := by
    simp only [SetTable.fits, Bool.and_eq_true, beq_iff_eq] at hf
    exact hf.1
  unfold setNext
  refine wpAny_bind (wpAny_setState_of ho hd hf ?_)
  dsimp only
  unfold setsByText
  refine wpAny_bind (wpAny_bind (wpAny_askSetting (wpAny_pure ?_)))
  rw [show (model prog w).w.params.followText "set-order" = false from hb]
  simp only [Bool.false_eq_true, ↓reduceIte]
  split
  · rename_i z
    exact absurd (hp.symm.trans z) (by decide)
  refine wpAny_bind (wpAny_of_eq (a := ()) ?_ ?_)
  · show (if (!t.led && !es.isEmpty) = true then _ else _) = _
    rw [ht.led]
    rfl
  rw [slP_below ht (by omega)]
  refine wpAny_pure ?_
  rw [List.getElem?_map, Array.getElem?_toList] at k
  by_cases hl : i < es.size
  · rw [Array.getElem?_eq_getElem hl] at k ⊢
    rw [Array.getElem?_eq_getElem (by omega)]
    have : slP t (i + 1) = t.place[i]'(by omega) + 1 := by
      show t.place.getD i 0 + 1 = _
      simp [show i < t.place.size by omega]
    rw [this] at k
    exact k
  · rw [Array.getElem?_eq_none (by omega)] at k ⊢
    exact k
theorem walkAB {ep : Nat} {o : Obj} {es : Array (Int × Value)} {t : SetTable} {us : List Value} {sl : Nat → Nat} (hd : o.data = .set es ep t) (hf : t.fits es.size = true) (hu : us.length = es.size) (hne : I ≠ a)
    (hN : ∀ (i : Nat) (s : Shared) (A : Around) (E : Value → Shared → Prop) (R : Option (Value × Nat) → Shared → Prop), s.heap.get? a = some o → i ≤ es.size → R (us[i]?.map fun x => (x, sl (i + 1))) s → wpAny (model prog w) A (setNext a (sl i) i ep) R E s)
    (hh : A.handled = none) : WalksS prog w A I [I, a] [I] (fun x y => y = x) es.size (fun i v => us[i]? = some v) (fun i s => s.heap.get? I = some (ItO (.int (sl i) 0) i a es.size ep) ∧ s.heap.get? a = some o) where
  sub := fun c hc => by rw [List.mem_singleton.mp hc]; exact .head _
  grefl := fun _ => rfl
  gtrans := fun _ _ _ x y => y.trans x
  frame := fun i s h' tk st _ hk => ⟨hk I (.head _) _ st.1, hk a (.tail _ (.head _)) _ st.2⟩
  item := fun i s Q E hi st hQ => by
    refine nextI (first := .none) (x := us[i]'(by omega)) (nx := sl (i + 1)) st.1 st.2 hd hf rfl (fun A E R r => hN i s A E R st.2 (by omega) (by rw [List.getElem?_eq_getElem (by omega)]; exact r)) fun h' g u => ?_
    refine hQ _ _ (List.getElem?_eq_getElem (by omega)) ⟨g, u.extBut a _ (Ne.symm hne) st.2⟩ ⟨fun c o' hc z => u.extBut c o' (fun q => hc (by rw [q]; exact .head _)) z, rfl, rfl, rfl, Nat.le_refl _⟩
  done := fun s Q E st hQ => by
    refine endI (first := .none) hh st.1 st.2 hd hf rfl (fun A E R r => hN es.size s A E R st.2 (Nat.le_refl _) (by rw [List.getElem?_eq_none (by omega)]; exact r)) fun h' u => ?_
    exact hQ _ ⟨fun c o' hc z => u c o' (fun q => hc (by rw [q]; exact .head _)) z, rfl, rfl, rfl, Nat.le_refl _⟩
  self := fun i s Q E st hQ => by
    have hT : s.TypeIs (.ref I) "set_iterator" := ⟨_, st.1, rfl⟩
    refine wpAny_pyIter_slot hT setit_iter (wpAny_call_entry setit_iter hT setit_entryI ?_ (setit_argsI _))
    show wpAny _ _ (ret (.ref I)) _ _ s
    exact wpAny_pure ⟨_, rfl, "set_iterator", _, hT, setit_next.lookup, hQ⟩
end
end L2
namespace L2
open PySem PySem.Spec PyProof.Rows
section
variable {prog : Program} {w : World} {A : Around} {E : Value → Shared → Prop} {s : Shared} {b : Bool} {a I T : Addr} {l : List Int}
theorem nextD {i n ep p : Nat} {x : Value} {oT o : Obj} {xs : Array Value} {m : Nat} {es : Array (Int × Value)} {t : SetTable} {Q : Option Value → Shared → Prop} (hI : s.heap.get? I = some (ItO (.ref T) i a n ep))
    (hT : s.heap.get? T = some oT) (hx : oT.data = .seq xs m) (hp : xs[i]? = some (.int p 0)) (he : (es.toList.map (·.2))[p]? = some x)
    (ho : s.heap.get? a = some o) (hd : o.data = .set es ep t) (hf : t.fits es.size = true) (hn : es.size = n)
    (hQ : ∀ h', h'.get? I = some (ItO (.ref T) (i + 1) a n ep) → Heap.SameBut I s.heap h' → Q (some x) { s with heap := h' }) : wpAny (model prog w) A (pyNext (.ref I)) Q E s := by
  have hT' : s.TypeIs (.ref I) "set_iterator" := ⟨_, hI, rfl⟩
  unfold pyNext
  refine wpAny_bind (wpAny_attempt (wpAny_callSpecial?_slot (name := Str.ofString "__next__") hT' setit_next (wpAny_call_entry setit_next hT' setit_entry ?_ (setit_args _))))
  unfold Builtin.«set_iterator.__next__»
  refine wpAny_bind (wpAny_pure ?_)
  refine wpAny_bind (wpAny_fieldsOf hI rfl ?_)
  refine wpAny_bind (wpAny_setEntries_of ho hd hf ?_)
  rw [if_neg (by rw [hn]; simp)]
  dsimp only
  refine wpAny_bind (wpAny_seqItems hT hx ?_)
  dsimp only
  rw [Int.toNat_natCast, hp]
  dsimp only
  rw [Int.toNat_natCast, Int.toNat_natCast]
  refine wpAny_bind ?_
  unfold setNextDrawn
  refine wpAny_bind (wpAny_setState_of ho hd hf ?_)
  dsimp only
  rw [if_neg (by simp)]
  rw [List.getElem?_map, Array.getElem?_toList] at he
  obtain ⟨e, q1, q2⟩ := Option.map_eq_some_iff.mp he
  rw [q1]
  obtain ⟨e1, e2⟩ := e
  have q2 : e2 = x := q2
  subst q2
  refine wpAny_pure ?_
  have g2 : (s.heap.update I (Obj.mapFields (·.setIfInBounds 1 (rawInt ((i : Int) + 1))))).get? I = some (ItO (.ref T) (i + 1) a n ep) := Heap.get?_update_self _ hI rfl
  refine wpAny_bind (wpAny_setField hI rfl (Nat.succ_lt_succ (Nat.zero_lt_succ _)) ?_)
  exact wpAny_pure ⟨_, rfl, wpAny_pure (hQ _ g2 (Heap.SameBut.update ..))⟩
theorem endD {i n ep : Nat} {oT o : Obj} {xs : Array Value} {m : Nat} {es : Array (Int × Value)} {t : SetTable} {Q : Option Value → Shared → Prop} (hh : A.handled = none) (hI : s.heap.get? I = some (ItO (.ref T) i a n ep))
    (hT : s.heap.get? T = some oT) (hx : oT.data = .seq xs m) (hp : xs[i]? = none)
    (ho : s.heap.get? a = some o) (hd : o.data = .set es ep t) (hf : t.fits es.size = true) (hn : es.size = n)
    (hQ : ∀ h', Heap.ExtBut I s.heap h' → Q none { s with heap := h' }) : wpAny (model prog w) A (pyNext (.ref I)) Q E s := by
  have hT' : s.TypeIs (.ref I) "set_iterator" := ⟨_, hI, rfl⟩
  unfold pyNext
  refine wpAny_bind (wpAny_attempt (wpAny_callSpecial?_slot (name := Str.ofString "__next__") hT' setit_next (wpAny_call_entry setit_next hT' setit_entry ?_ (setit_args _))))
  unfold Builtin.«set_iterator.__next__»
  refine wpAny_bind (wpAny_pure ?_)
  refine wpAny_bind (wpAny_fieldsOf hI rfl ?_)
  refine wpAny_bind (wpAny_setEntries_of ho hd hf ?_)
  rw [if_neg (by rw [hn]; simp)]
  dsimp only
  refine wpAny_bind (wpAny_seqItems hT hx ?_)
  dsimp only
  rw [Int.toNat_natCast, hp]
  dsimp only
  have g1 : (s.heap.update I (Obj.mapFields (·.setIfInBounds 0 (rawInt 0)))).get? I = some (ItO (.int 0 0) i a n ep) := Heap.get?_update_self _ hI rfl
  refine wpAny_bind (wpAny_setField hI rfl (Nat.zero_lt_succ _) ?_)
  refine wpAny_bind (wpAny_setField (s := { s with heap := _ }) g1 rfl (Nat.succ_lt_succ (Nat.succ_lt_succ (Nat.zero_lt_succ _))) ?_)
  refine wpAny_mono (stopI (I := I) (s := s) hh fun h' u => hQ h' fun c o' n' z => u c o' n' ((Heap.SameBut.update ..).extBut c o' n' ((Heap.SameBut.update ..).extBut c o' n' z))) (fun _ _ z => ?_) fun e s' z => ?_
  · obtain ⟨_, _, z⟩ := z; exact z.elim
  · obtain ⟨T, x1, rfl, x2⟩ := z
    exact wpAny_bind (wpAny_isInstance (T := "StopIteration") (b := true) x1 isSubtype_stop (wpAny_pure x2))
theorem walkD {ep m : Nat} {o oT : Obj} {es : Array (Int × Value)} {t : SetTable} {us : List Value} {js : List Nat} (hd : o.data = .set es ep t) (hf : t.fits es.size = true) (hne : I ≠ a) (hnT : I ≠ T)
    (hx : oT.data = .seq ((js.map fun (j : Nat) => rawInt j).toArray) m) (hjs : js.length = es.size) (hus : us = js.filterMap fun j => (es.toList.map (·.2))[j]?) (hlt : ∀ j ∈ js, j < es.size)
    (hh : A.handled = none) : WalksS prog w A I [I, a, T] [I] (fun x y => y = x) es.size (fun i v => us[i]? = some v) (fun i s => s.heap.get? I = some (ItO (.ref T) i a es.size ep) ∧ s.heap.get? a = some o ∧ s.heap.get? T = some oT) where
  sub := fun c hc => by rw [List.mem_singleton.mp hc]; exact .head _
  grefl := fun _ => rfl
  gtrans := fun _ _ _ x y => y.trans x
  frame := fun i s h' tk st _ hk => ⟨hk I (.head _) _ st.1, hk a (.tail _ (.head _)) _ st.2.1, hk T (.tail _ (.tail _ (.head _))) _ st.2.2⟩
  item := fun i s Q E hi st hQ => by
    have hj : i < js.length := by omega
    have hz : js[i] < es.size := hlt _ (List.getElem_mem hj)
    have hz' : js[i] < (es.toList.map (·.2)).length := by rw [List.length_map, Array.length_toList]; exact hz
    have hm : us = js.map fun j => (es.toList.map (·.2)).getD j .none := by
      rw [hus]
      have : ∀ (js : List Nat), (∀ j ∈ js, j < es.size) → (js.filterMap fun j => (es.toList.map (·.2))[j]?) = js.map fun j => (es.toList.map (·.2)).getD j .none := by
        intro js
        induction js with
        | nil => intro _; rfl
        | cons j r ih =>
          intro h
          have h1 : j < (es.toList.map (·.2)).length := by rw [List.length_map, Array.length_toList]; exact h j (.head _)
          rw [List.filterMap_cons_some (b := (es.toList.map (·.2))[j]) (List.getElem?_eq_getElem h1), List.map_cons, ih fun k hk => h k (.tail _ hk), List.getD_eq_getElem?_getD, List.getElem?_eq_getElem h1]
          rfl
      exact this js hlt
    have hu : us[i]? = some ((es.toList.map (·.2))[js[i]]) := by
      rw [hm, List.getElem?_map, List.getElem?_eq_getElem hj]
      show some ((es.toList.map (·.2)).getD js[i] .none) = _
      rw [List.getD_eq_getElem?_getD, List.getElem?_eq_getElem hz']
      rfl
    refine nextD (p := js[i]) (x := (es.toList.map (·.2))[js[i]]) st.1 st.2.2 hx ?_ (List.getElem?_eq_getElem hz') st.2.1 hd hf rfl fun h' g u => ?_
    · simp [List.getElem?_map, List.getElem?_eq_getElem hj, rawInt]
    · exact hQ _ _ hu ⟨g, u.extBut a _ (Ne.symm hne) st.2.1, u.extBut T _ (Ne.symm hnT) st.2.2⟩ ⟨fun c o' hc z => u.extBut c o' (fun q => hc (by rw [q]; exact .head _)) z, rfl, rfl, rfl, Nat.le_refl _⟩
  done := fun s Q E st hQ => by
    refine endD hh st.1 st.2.2 hx ?_ st.2.1 hd hf rfl fun h' u => ?_
    · simp [hjs]
    · exact hQ _ ⟨fun c o' hc z => u c o' (fun q => hc (by rw [q]; exact .head _)) z, rfl, rfl, rfl, Nat.le_refl _⟩
  self := fun i s Q E st hQ => by
    have hT : s.TypeIs (.ref I) "set_iterator" := ⟨_, st.1, rfl⟩
    refine wpAny_pyIter_slot hT setit_iter (wpAny_call_entry setit_iter hT setit_entryI ?_ (setit_argsI _))
    show wpAny _ _ (ret (.ref I)) _ _ s
    exact wpAny_pure ⟨_, rfl, "set_iterator", _, hT, setit_next.lookup, hQ⟩
theorem ints_perm {us vs : List Value} (p : us.Perm vs) : ∀ {ns : List Int}, IntsAre vs ns → ∃ ms, IntsAre us ms ∧ ms.Perm ns := by
  have key : ∀ {vs : List Value} {ns : List Int}, IntsAre vs ns → (∀ v ∈ vs, ∃ k t, v = .int k t) ∧ ns = vs.map fun v => kOf (0, v) := fun {vs ns} h => by
    induction h with
    | nil => exact ⟨fun _ z => (nomatch z), rfl⟩
    | cons n t _ ih =>
      refine ⟨fun v hv => ?_, ?_⟩
      · rcases List.mem_cons.mp hv with rfl | hv
        · exact ⟨n, t, rfl⟩
        · exact ih.1 v hv
      · rw [List.map_cons, ← ih.2]; rfl
  have back : ∀ us : List Value, (∀ v ∈ us, ∃ k t, v = .int k t) → IntsAre us (us.map fun v => kOf (0, v)) := fun us => by
    induction us with
    | nil => exact fun _ => .nil
    | cons v r ih =>
      intro h
      obtain ⟨k, t, rfl⟩ := h v (.head _)
      exact .cons k t (ih fun x hx => h x (.tail _ hx))
  intro ns h
  obtain ⟨h1, rfl⟩ := key h
  exact ⟨_, back us fun v hv => h1 v (p.mem_iff.mp hv), p.map _⟩
theorem iterI {Q : Value → Shared → Prop} (hb : w.params.followText "set-order" = b) (hS : SetI (!b) a l s.heap)
    (k : ∀ (us : List Value) (ns : List Int) (I : Addr) (fp : List Addr) (St : Nat → Shared → Prop) (h' : Heap) (d : Drawn), IntsAre us ns → ns.Perm l → us.length < scanBound → (∀ c o, s.heap.get? c = some o → h'.get? c = some o) → s.heap.objs.size ≤ I → (∀ c ∈ fp, c = a ∨ s.heap.objs.size ≤ c) →
      (∀ A : Around, A.handled = none → WalksS prog w A I fp [I] (fun x y => y = x) us.length (fun i v => us[i]? = some v) St) → St 0 { s with heap := h', drawn := d } → Q (.ref I) { s with heap := h', drawn := d }) :
    wpAny (model prog w) A (pyIter (.ref a)) Q E s := by
  obtain ⟨o, es, ep, t, ho, hex, hd, hE, hp, hz, hf, ht⟩ := hS
  have hT : s.TypeIs (.ref a) "set" := ⟨o, ho, hex.1⟩
  have ha : a < s.heap.objs.size := Heap.lt_size ho
  have hi0 : IntsAre (es.toList.map (·.2)) (es.toList.map kOf) := IsE.ints hE
  refine wpAny_pyIter_slot hT F.slot_set_iter (wpAny_call_entry F.slot_set_iter hT set_entryI ?_ (F.args_set_iter_1 _))
  unfold Builtin.«frozenset.__iter__» Builtin.Frozenset.slot0
  refine wpAny_bind (wpAny_bind (wpAny_pure ?_))
  unfold Builtin.Frozenset.addrOf Builtin.Frozenset.sizeOf
  refine wpAny_pure ?_
  refine wpAny_bind (wpAny_bind (wpAny_setEntries_of ho hd hf (wpAny_pure ?_)))
  unfold setDrawn
  refine wpAny_bind (wpAny_bind (wpAny_setState_of ho hd hf ?_))
  dsimp only
  unfold setsByText
  refine wpAny_bind (wpAny_bind (wpAny_askSetting (wpAny_pure (wpAny_pure ?_))))
  have fin : ∀ (first : Value) (hp1 : Heap) (d : Drawn) (o1 : hp1.get? a = some o), (∀ v s', s' = { s with heap := hp1.push (ItO first 0 a es.size ep), drawn := d } → v = .ref hp1.objs.size → Q v s') →
      wpAny (model prog w) A.in1 (do
        let __do_lift ← setEpoch a
        let __do_lift ← newFields "set_iterator" [first, rawInt 0, Value.ref a, rawInt ↑es.size, rawInt ↑__do_lift]
        ret __do_lift) (fun fin s' => ∃ v, fin = Fin.done (Flow.ret v) ∧ ∃ T' r, s'.TypeIs v T' ∧ typeLookup (Value.type T') (Str.ofString "__next__") = pure (some r) ∧ Q v s') E { s with heap := hp1, drawn := d } := fun first hp1 d o1 q => by
    refine wpAny_bind (wpAny_setEpoch_of o1 hd hf ?_)
    refine wpAny_bind (wpAny_newObj_type (hd := by size_fits) (wpAny_pure ⟨_, rfl, "set_iterator", _, ⟨_, Heap.get?_push_size _ rfl, rfl⟩, setit_next.lookup, q _ _ rfl rfl⟩))
  cases b with
  | true =>
    rw [show (model prog w).w.params.followText "set-order" = true from hb]
    simp only [Bool.not_true, Bool.false_and, Bool.false_eq_true, ↓reduceIte]
    refine wpAny_bind (wpAny_pure (fin (rawInt 0) s.heap s.drawn ho ?_))
    rintro _ _ rfl rfl
    have pm := pickOrder_perm (w.params.setOrder a ep) es
    obtain ⟨ms, im, pp⟩ := ints_perm (pm.map (·.2)) hi0
    have hu : ((pickOrder (w.params.setOrder a ep) es).toList.map (·.2)).length = es.size := by rw [(pm.map _).length_eq, List.length_map, Array.length_toList]
    refine k _ ms s.heap.objs.size [s.heap.objs.size, a] (fun i s' => s'.heap.get? s.heap.objs.size = some (ItO (.int ((fun _ => 0) i : Nat) 0) i a es.size ep) ∧ s'.heap.get? a = some o) _ s.drawn im (pp.trans hp) (by rw [hu]; exact hz)
      (fun c o' z => Heap.get?_push_of_some _ z) (Nat.le_refl _) (fun c hc => ?_) (fun A' h' => by rw [hu]; exact walkAB (sl := fun _ => 0) hd hf hu (Nat.ne_of_gt ha) (fun i s' A'' E' R z _ r => goText hb z hd hf r) h') ⟨Heap.get?_push_size _ rfl, Heap.get?_push_of_some _ ho⟩
    rcases List.mem_cons.mp hc with rfl | hc
    · exact .inr (Nat.le_refl _)
    · exact .inl (List.mem_singleton.mp hc)
  | false =>
    rw [show (model prog w).w.params.followText "set-order" = false from hb]
    simp only [Bool.not_false, Bool.true_and]
    split
    · rename_i hdr
      refine wpAny_bind (drawI es.size _ _ List.length_range fun js d hj => ?_)
      refine wpAny_bind (wpAny_newTuple ?_ (by rw [List.length_map, hj.length_eq, List.length_range]; exact fits_of_scanBound hz))
      refine fin _ _ d (Heap.get?_push_of_some _ ho) ?_
      rintro _ _ rfl rfl
      have hlt : ∀ j ∈ js, j < es.size := fun j z => List.mem_range.mp (hj.mem_iff.mp z)
      have pm : (js.filterMap fun j => (es.toList.map (·.2))[j]?).Perm (es.toList.map (·.2)) := by
        refine (hj.filterMap _).trans ?_
        have q := filterMap_getElem?_range (es.toList.map (·.2)).toArray
        simp only [List.size_toArray, List.length_map, Array.length_toList, List.getElem?_toArray] at q
        rw [q]
      obtain ⟨ms, im, pp⟩ := ints_perm pm hi0
      have hu : (js.filterMap fun j => (es.toList.map (·.2))[j]?).length = es.size := by rw [pm.length_eq, List.length_map, Array.length_toList]
      have z1 : (s.heap.push { cls := .type "tuple", data := .seq (js.map fun (i : Nat) => rawInt i).toArray }).objs.size = s.heap.objs.size + 1 := Heap.size_push _ _
      refine k _ ms _ [_, a, s.heap.objs.size] (fun i s' => s'.heap.get? _ = some (ItO (.ref s.heap.objs.size) i a es.size ep) ∧ s'.heap.get? a = some o ∧ s'.heap.get? s.heap.objs.size = some { cls := .type "tuple", data := .seq (js.map fun (i : Nat) => rawInt i).toArray }) _ d im (pp.trans hp) (by rw [hu]; exact hz)
        (fun c o' z => Heap.get?_push_of_some _ (Heap.get?_push_of_some _ z)) (by rw [z1]; exact Nat.le_succ _) (fun c hc => ?_) (fun A' h' => by rw [hu]; exact walkD hd hf (by rw [z1]; exact Nat.ne_of_gt (Nat.lt_succ_of_lt ha)) (by rw [z1]; exact Nat.succ_ne_self _) rfl (by rw [hj.length_eq, List.length_range]) rfl hlt h')
        ⟨Heap.get?_push_size _ rfl, Heap.get?_push_of_some _ (Heap.get?_push_of_some _ ho), Heap.get?_push_of_some _ (Heap.get?_push_size _ rfl)⟩
      rcases List.mem_cons.mp hc with rfl | hc
      · exact .inr (by rw [z1]; omega)
      · rcases List.mem_cons.mp hc with rfl | hc
        · exact .inl rfl
        · exact .inr (by rw [List.mem_singleton.mp hc]; exact Nat.le_refl _)
    · rename_i hdr
      have hdr : (!t.plain && decide (es.size > 1)) = false := by
        cases q : (!t.plain && decide (es.size > 1)) with
        | false => rfl
        | true => exact absurd q hdr
      refine wpAny_bind (wpAny_pure (fin (rawInt 0) s.heap s.drawn ho ?_))
      rintro _ _ rfl rfl
      have hu : (es.toList.map (·.2)).length = es.size := by rw [List.length_map, Array.length_toList]
      refine k _ _ s.heap.objs.size [s.heap.objs.size, a] (fun i s' => s'.heap.get? s.heap.objs.size = some (ItO (.int (slP t i) 0) i a es.size ep) ∧ s'.heap.get? a = some o) _ s.drawn hi0 hp (by rw [hu]; exact hz)
        (fun c o' z => Heap.get?_push_of_some _ z) (Nat.le_refl _) (fun c hc => ?_) (fun A' h' => by rw [hu]; exact walkAB (sl := slP t) hd hf hu (Nat.ne_of_gt ha) (fun i s' A'' E' R z hi r => goPlace hb z hd hf ht hdr hi r) h') ⟨Heap.get?_push_size _ rfl, Heap.get?_push_of_some _ ho⟩
      rcases List.mem_cons.mp hc with rfl | hc
      · exact .inr (Nat.le_refl _)
      · exact .inl (List.mem_singleton.mp hc)
end
end L2
namespace L2
open PySem PySem.Spec PyProof.Rows
theorem set_len_look : typeLookup (.type "set") "__len__" = pure (some (.builtin "set.__len__")) := by
  rw [typeLookup_type, builtinLookup_eq_fast]
  kernel_rfl
section
variable {prog : Program} {w : World} {A : Around} {E : Value → Shared → Prop} {s : Shared} {b : Bool} {a I T : Addr} {l : List Int}
theorem wiT {α : Type} {c : Prop} [Decidable c] {x y : Sem α} {Q : α → Shared → Prop} (hc : c) (h : wpAny (model prog w) A x Q E s) : wpAny (model prog w) A (if c then x else y) Q E s := by
  rw [if_pos hc]
  exact h
theorem collectI {Q : List Value → Shared → Prop} (hh : A.handled = none) (hb : w.params.followText "set-order" = b) (hS : SetI (!b) a l s.heap)
    (k : ∀ (us : List Value) (ns : List Int) (h' : Heap) (d : Drawn) (tk : Nat), IntsAre us ns → ns.Perm l → (∀ c o, s.heap.get? c = some o → h'.get? c = some o) → s.heap.objs.size ≤ h'.objs.size → Q us { s with heap := h', drawn := d, toks := tk }) :
    wpAny (model prog w) A (collect (.ref a)) Q E s := by
  obtain ⟨oa, _, _, _, hoa, hxa, _⟩ := id hS
  have ha : a < s.heap.objs.size := Heap.lt_size hoa
  unfold collect
  refine wpAny_bind (wpAny_runValue (codeAny_builtin F.entry_proto_collect ?_))
  rw [Around.under_plainId F.plain_proto_collect _]
  show wpAny _ A.in1 (newList [] >>= fun l => again (.builtin "list.__iadd__" ⟨[l, .ref a], []⟩)) _ _ s
  refine wpAny_bind (wpAny_newObj_type (wpAny_pure ⟨plainId_quiet F.plain_list_iadd _, codeAny_builtin F.entry_list_iadd ?_⟩))
  rw [Around.under_plainId F.plain_list_iadd _]
  have hL : (s.heap.push { cls := .type "list", data := .seq ([] : List Value).toArray }).get? s.heap.objs.size = some { cls := .type "list", data := .seq ([] : List Value).toArray } := Heap.get?_push_size _ rfl
  have z1 : (s.heap.push { cls := .type "list", data := .seq ([] : List Value).toArray }).objs.size = s.heap.objs.size + 1 := Heap.size_push _ _
  have hS1 : SetI (!b) a l (s.heap.push { cls := .type "list", data := .seq ([] : List Value).toArray }) := hS.at fun o z => Heap.get?_push_of_some _ z
  have hT1 : Shared.TypeIs { s with heap := s.heap.push { cls := .type "list", data := .seq ([] : List Value).toArray } } (.ref a) "set" := ⟨oa, Heap.get?_push_of_some _ hoa, hxa.1⟩
  show wpAny _ A.in1 (Builtin.List.listExtendWith (.ref s.heap.objs.size) (.ref a) (.ref s.heap.objs.size)) _ _ _
  unfold Builtin.List.listExtendWith
  refine wpAny_bind (wpAny_typeOf hT1 ?_)
  have h1 : Builtin.List.listSameRef (.ref s.heap.objs.size) (.ref a) = false := by simp [Builtin.List.listSameRef, Nat.ne_of_gt ha]
  rw [if_neg (by rw [h1]; decide)]
  refine wpAny_bind (iterI hb hS1 fun us ns I fp St h2 d hi hp hz hk hIz hfp W st => ?_)
  refine wpAny_bind (wpAny_holding ?_)
  unfold Builtin.List.listLengthHint
  have hT2 : Shared.TypeIs { s with heap := h2, drawn := d } (.ref a) "set" := ⟨oa, hk _ _ (Heap.get?_push_of_some _ hoa), hxa.1⟩
  refine wpAny_bind (wpAny_specialOf hT2 set_len_look ?_)
  dsimp only
  rw [show splitId "set.__len__" = some ("set", "__len__") from by decide +kernel]
  dsimp only
  refine wpAny_bind (wpAny_isInstance (b := true) hT2 (by rw [isSubtype_type]; kernel_rfl) ?_)
  rw [if_neg (by decide)]
  refine wiT (by decide +kernel) ?_
  refine wpAny_bind (wpAny_typeOf hT2 (wpAny_pure ?_))
  refine wiT (by decide +kernel) ?_
  refine wpAny_bind (wpAny_rule ?_)
  have hLf : s.heap.objs.size ∉ fp := fun z => by
    rcases hfp _ z with q | q
    · exact Nat.ne_of_gt ha q
    · have q : (s.heap.push { cls := .type "list", data := .seq ([] : List Value).toArray }).objs.size ≤ s.heap.objs.size := q
      rw [z1] at q
      exact Nat.not_succ_le_self _ q
  have hS2 := hk _ _ hL
  refine wpAny_bind ?_
  show wpAny _ A.in1 (updateSeq s.heap.objs.size (·.push .none) >>= fun _ => updateSeq s.heap.objs.size (·.pop)) _ _ _
  refine wpAny_bind (wpAny_updateSeq (s := { s with heap := h2, drawn := d }) hS2 rfl ?_)
  have hS3 := Heap.get?_update_self (Obj.mapSeq (·.push Value.none)) hS2 rfl
  refine wpAny_updateSeq (s := { s with heap := _, drawn := d }) hS3 rfl ?_
  have hS4 := Heap.get?_update_self (Obj.mapSeq (·.pop)) hS3 rfl
  have oth : ∀ c o, c ≠ s.heap.objs.size → h2.get? c = some o → ((h2.update s.heap.objs.size (Obj.mapSeq (·.push Value.none))).update s.heap.objs.size (Obj.mapSeq (·.pop))).get? c = some o :=
    fun c o n z => (Heap.get?_update_other _ _ (Ne.symm n)).trans ((Heap.get?_update_other _ _ (Ne.symm n)).trans z)
  have hA : A.in1.handled = none := hh
  have W1 := W A.in1 hA
  refine wpAny_pure ⟨plainId_quiet F.plain_extend_loop _, codeAny_extend_loopS W1 (fits_of_scanBound hz) _ hLf _ us.length 0 _ _ _ rfl (Nat.zero_le _)
    (W1.frame 0 { s with heap := h2, drawn := d } _ s.toks st (Nat.le_refl _) fun c hc o z => oth c o (fun q => hLf (q ▸ hc)) z) hS4 (ItemsOf.nil _) fun s' acc c' hm hS' ha' => ?_⟩
  show wpAny _ A (load s.heap.objs.size >>= _) _ _ s'
  refine wpAny_bind (wpAny_load hS' (wpAny_pure ?_))
  have e : acc.toList = us := by
    refine List.ext_getElem? fun i => ?_
    rw [Array.getElem?_toList]
    by_cases hi' : i < acc.size
    · rw [Array.getElem?_eq_getElem hi']
      exact (ha'.2 i _ (Array.getElem?_eq_getElem hi')).symm
    · rw [Array.getElem?_eq_none (by omega), List.getElem?_eq_none (by have := ha'.1; omega)]
  rw [e]
  obtain ⟨hx, gx, dx, tx, ox⟩ := s'
  have eg : gx = s.gens := hm.gens
  have ed : dx = d := hm.drawn
  have eo : ox = s.os := hm.os
  subst eg; subst ed; subst eo
  refine k us ns hx dx tx hi hp (fun c o z => ?_) (Nat.le_of_lt (Heap.lt_size hS'))
  have c1 : c < s.heap.objs.size := Heap.lt_size z
  refine hm.heap c o (fun q => ?_) (oth c o (Nat.ne_of_lt c1) (hk _ _ (Heap.get?_push_of_some _ z)))
  rcases List.mem_cons.mp q with q | q
  · exact Nat.ne_of_lt c1 q
  · have q := List.mem_singleton.mp q
    subst q
    have y : (s.heap.push { cls := .type "list", data := .seq ([] : List Value).toArray }).objs.size ≤ c := hIz
    rw [z1] at y
    exact Nat.not_lt.mpr (Nat.le_of_succ_le y) c1
end
end L2
namespace L2
open PySem PySem.Spec PyProof.Rows
section
variable {prog : Program} {w : World} {A : Around} {E : Value → Shared → Prop} {s : Shared} {b : Bool} {a I T : Addr} {l : List Int}
theorem sortedI {Q : Value → Shared → Prop} (hh : A.handled = none) (hb : w.params.followText "set-order" = b) (hS : SetI (!b) a l s.heap) (h64 : l.length < 64)
    (k : ∀ (out : Array Value) (ns : List Int) (c : Addr) (e : Nat) (h' : Heap) (d : Drawn) (tk : Nat), IntsAre out.toList ns → ns.Perm l → ns.Pairwise (· ≤ ·) → (∀ c o, s.heap.get? c = some o → h'.get? c = some o) → s.heap.objs.size ≤ c → h'.get? c = some (seqObj "list" out e) →
      Q (.ref c) { s with heap := h', drawn := d, toks := tk }) : wpAny (model prog w) A (call (.builtin "sorted") [.ref a]) Q E s := by
  refine Calls.call_function_entry kind_sorted plain_sorted entry_sorted (args_sorted1 _) ?_
  unfold Builtin.«sorted»
  refine wpAny_bind (m := checkCount "sorted" 1 1 _) (wpAny_pure ?_)
  refine wpAny_bind (collectI (A := A.in1) hh hb hS fun us ns h2 d tk hi hp hk le => ?_)
  have hz : us.length = l.length := by rw [IntsAre.length hi, hp.length_eq]
  refine wpAny_bind (wpAny_newList ?_ (by have := fits_of_scanBound (n := us.length) (by unfold scanBound; omega); exact this))
  have hL : (h2.push (seqObj "list" us.toArray 0)).get? h2.objs.size = some (seqObj "list" us.toArray 0) := Heap.get?_push_size _ rfl
  have hsz : (h2.push (seqObj "list" us.toArray 0)).objs.size = h2.objs.size + 1 := Heap.size_push _ _
  refine wpAny_bind (wpAny_holding (wpAny_call_entry (s := { s with heap := h2.push (seqObj "list" us.toArray 0), drawn := d, toks := tk }) slot_list_sort ⟨_, hL, rfl⟩ entry_list_sort (list_sort_tree hL hi (by omega) fun out ns' a1 a2 a3 => ⟨_, rfl, ?_⟩) (args_list_sort _)))
  obtain ⟨e, he⟩ := sortedHeap_at (out := out) hL
  refine wpAny_pure ⟨_, rfl, k out ns' h2.objs.size e _ d tk a1 (a2.trans hp) a3 (fun c o z => ?_) le he⟩
  have z2 := hk c o z
  rw [sortedHeap_old (Nat.ne_of_lt (Heap.lt_size z2)) (by rw [hsz]; exact Nat.lt_succ_of_lt (Heap.lt_size z2))]
  exact Heap.get?_push_of_some _ z2
theorem updateI {R : Result → Shared → Prop} {fp wr : List Addr} {G : Array GenState → Array GenState → Prop} {n : Nat} {P : Nat → Value → Prop} {St : Nat → Shared → Prop} (W : WalksS prog w A.in1 I fp wr G n P St) (S : Addr) (hSf : S ∉ fp)
    (val : Nat → Int) (hval : ∀ i v, P i v → ∃ t, v = .int (val i) t) (hz : n + 1 < scanBound) :
    ∀ (k i : Nat) (s : Shared), n - i = k → i ≤ n → St i s → SetI b S (firstMet val i) s.heap → (∀ s', Moved (S :: wr) G s s' → SetI b S (firstMet val n) s'.heap → R (.ok (.ret .none)) s') →
      codeAny (model prog w) A (.builtin "set.update.loop" ⟨[.ref S, .ref I], []⟩) R s := by
  have hSw : S ∉ wr := fun h => hSf (W.sub _ h)
  have sb : ∀ c ∈ wr, c ∈ S :: wr := fun c => List.mem_cons_of_mem _
  intro k
  induction k with
  | zero =>
    intro i s hk hi st hS hR
    obtain rfl : i = n := by omega
    refine codeAny_builtin F.entry_set_update_loop ?_
    rw [Around.under_plainId F.plain_set_update_loop _]
    show wpAny _ A.in1 (pyNext (.ref I) >>= _) _ _ s
    refine wpAny_bind (W.done s _ _ st fun s' hm => wpAny_pure (hR s' (hm.mono sb) (hS.at fun o z => hm.heap S o hSw z)))
  | succ k ih =>
    intro i s hk hi st hS hR
    have hlt : i < n := by omega
    refine codeAny_builtin F.entry_set_update_loop ?_
    rw [Around.under_plainId F.plain_set_update_loop _]
    show wpAny _ A.in1 (pyNext (.ref I) >>= _) _ _ s
    refine wpAny_bind (W.item i s _ _ hlt st fun v s' hP st' hm => ?_)
    obtain ⟨t, rfl⟩ := hval i v hP
    have hS' : SetI b S (firstMet val i) s'.heap := hS.at fun o z => hm.heap S o hSw z
    show wpAny _ A.in1 (holding [Value.int (val i) t] (setAdd S (.int (val i) t)) >>= _) _ _ s'
    refine wpAny_bind (wpAny_holding ?_)
    unfold setAdd
    refine wpAny_holding (wpAny_bind ((intKind prog w).pyHash (k := val i) (intKind_is _ _ _ _) ?_))
    have room : (firstMet val i).length + 1 < scanBound := by have := firstMet_length_le val i; omega
    refine addI (s := { s' with toks := s'.toks + 1 }) hS' room fun r h' u hS2 => ?_
    rw [← firstMet_succ] at hS2
    refine wpAny_pure ⟨plainId_quiet F.plain_set_update_loop _, ih (i + 1) _ (by omega) hlt (W.frame _ s' _ _ st' (Nat.le_succ _) fun c hc o z => ?_) hS2 fun s'' hm'' hS'' => ?_⟩
    · rw [u.2 c fun q : c = S => hSf (by rw [← q]; exact hc)]; exact z
    · refine hR s'' (Moved.trans W.gtrans ((hm.mono sb).then_heap (Nat.le_succ _) fun c o hc z => ?_) hm'') hS''
      rw [u.2 c fun q : c = S => hc (by rw [q]; exact .head _)]; exact z
theorem newI (x : Value) {Q₁ : Value → Shared → Prop} (hb : w.params.followText "set-order" = b)
    (h : Q₁ (.ref s.heap.objs.size) { s with heap := s.heap.push { cls := .type "set", dict := none, data := .set #[] 0 (.fresh 0 0 (!b)) } }) :
    codeAny (model prog w) A (.call (.builtin "set.__new__") ⟨[.type "set", x], []⟩) (wants Q₁ E) s := by
  refine codeAny_of_tree ?_
  show wpAny _ A.in1 (do checkBuiltinCall "set.__new__" ⟨[.type "set", x], []⟩; again (.builtin "set.__new__" ⟨[.type "set", x], []⟩)) _ _ s
  refine wpAny_bind (wpAny_of_eq (F.newCall_set_1 x) (wpAny_pure ⟨plainId_quiet F.plain_set_new _, codeAny_builtin F.entry_set_new ?_⟩))
  rw [Around.under_plainId F.plain_set_new _]
  unfold Builtin.«set.__new__» Builtin.Frozenset.newClass
  have hsub := sub_set_self
  obtain ⟨hp, g, d, tk, os⟩ := s
  dsimp only
  wp_walk
  refine wpAny_askSetting (wpAny_pure ?_)
  dsimp only
  simp only [newObj]
  refine wpAny_bind (wpAny_alloc (wpAny_pure (wpAny_pure ?_)))
  rw [show (model prog w).w.params.followText "set-order" = b from hb]
  exact h
end
end L2
namespace L2
open PySem PySem.Spec PyProof.Rows
section
variable {prog : Program} {w : World} {A : Around} {E : Value → Shared → Prop} {s : Shared} {b : Bool} {a I T : Addr} {l : List Int}
set_option maxHeartbeats 3200000 in
theorem setOfI {L : Addr} {items : Array Value} {ns : List Int} {Q : Value → Shared → Prop} (hh : A.handled = none) (hb : w.params.followText "set-order" = b) (hl : s.heap.IsList L items) (hi : IntsAre items.toList ns) (hz : items.size + 1 < scanBound)
    (k : ∀ (h' : Heap) (tk : Nat), SetI (!b) s.heap.objs.size (firstMet (fun i => ns.getD i 0) items.size) h' → (∀ c o, s.heap.get? c = some o → h'.get? c = some o) → Q (.ref s.heap.objs.size) { s with heap := h', toks := tk }) :
    wpAny (model prog w) A (call (.type "set") [.ref L]) Q E s := by
  obtain ⟨c, tl, hmro⟩ := F.called_set.mro
  have hmade := F.called_set.made
  have hsub := F.called_set.sub
  refine wpAny_call (codeAny_of_tree ?_)
  show wpAny _ _ (callAny (.type "set") _) _ _ _
  refine wpAny_pure ⟨Code.quiet_builtin _ (by decide +kernel), codeAny_builtin F.entry_type_call ?_⟩
  rw [Around.under_plain (weight_type_call_type "set" [.ref L] []) rfl]
  have h1 := F.called_set.notType
  have h2 := F.called_set.canCreate
  have hct := F.typeCall_set_1 (.ref L)
  repeat (any_goals (first | assumption | wp_step))
  refine codeAny_mono (newI (.ref L) (E := E) hb (Q₁ := fun x s₁ => x = .ref s.heap.objs.size ∧ s₁ = { s with heap := s.heap.push { cls := .type "set", dict := none, data := .set #[] 0 (.fresh 0 0 (!b)) } }) ⟨rfl, rfl⟩) fun r s₁ hr => ?_
  cases r with
  | error e => exact hr
  | ok fl =>
    cases fl with
    | ret obj =>
      obtain ⟨rfl, rfl⟩ := hr
      generalize ho0 : ({ cls := .type "set", dict := none, data := .set #[] 0 (.fresh 0 0 (!b)) } : Obj) = o0
      have hS : (s.heap.push o0).get? s.heap.objs.size = some o0 := Heap.get?_push_size _ (by rw [← ho0]; rfl)
      have hS0 : SetI (!b) s.heap.objs.size [] (s.heap.push o0) := ⟨o0, #[], 0, _, hS, by rw [← ho0]; exact ⟨rfl, rfl, rfl⟩, by rw [← ho0], (fun e z => by simp at z), .nil, by decide, by rfl, TOk.fresh⟩
      have hT : Shared.TypeIs { s with heap := s.heap.push o0 } (.ref s.heap.objs.size) "set" := ⟨_, hS, by rw [← ho0]⟩
      have hli := F.called_set.init.lookup
      have hbi := F.called_set.init.bind (.ref s.heap.objs.size)
      repeat (any_goals (first | assumption | wp_step))
      refine codeAny_mono (codeAny_call_builtin (R := wants (fun r s₂ => r = .none ∧ ∃ h' tk, s₂ = { s with heap := h', toks := tk } ∧ SetI (!b) s.heap.objs.size (firstMet (fun i => ns.getD i 0) items.size) h' ∧
          (∀ c o, s.heap.get? c = some o → h'.get? c = some o)) E) F.called_set.init.plain F.entry_set_init (check_set_init_1 hT ?_)) fun r₂ s₂ hr₂ => ?_
      · obtain ⟨ol, hol, hcl, nl, hdl⟩ := hl
        obtain ⟨oc, od, odt, osl⟩ := ol
        simp only at hcl hdl
        subst hcl; subst hdl
        have hol' : (s.heap.push o0).get? L = some { cls := .type "list", dict := od, data := .seq items nl, slots := osl } := Heap.get?_push_of_some _ hol
        have e1 := F.sub_list_set
        have e2 := F.sub_list_frozenset
        have hne : (Value.type "list" == Value.type "dict") = false := by decide
        have hl1 : (s.heap.push o0).IsList L items := ⟨_, hol', rfl, nl, rfl⟩
        have hz0 : (s.heap.push o0).objs.size = s.heap.objs.size + 1 := Heap.size_push _ _
        subst ho0
        unfold Builtin.«set.__init__» noKeywords Builtin.Frozenset.updateFrom
        generalize hPI : pyIter = PI
        wp_walk
        subst hPI
        refine wpAny_pyIter_list hl1 ?_
        refine wpAny_bind (wpAny_runValue ?_)
        have hlS : L < s.heap.objs.size := Heap.lt_size hol
        have hh3 : A.in1.in1.in1.handled = none := hh
        have hneI : L ≠ (s.heap.push { cls := .type "set", dict := none, data := .set #[] 0 (.fresh 0 0 (!b)) }).objs.size := by rw [hz0]; exact Nat.ne_of_lt (Nat.lt_succ_of_lt hlS)
        have hSf : s.heap.objs.size ∉ [(s.heap.push { cls := .type "set", dict := none, data := .set #[] 0 (.fresh 0 0 (!b)) }).objs.size, L] := by
          rw [hz0]
          intro z
          rcases List.mem_cons.mp z with z | z
          · exact Nat.ne_of_lt (Nat.lt_succ_self _) z
          · exact Nat.ne_of_gt hlS (List.mem_singleton.mp z)
        have hval : ∀ (i : Nat) (v : Value), items[i]? = some v → ∃ t, v = .int ((fun i => ns.getD i 0) i) t := fun i v hv => IntsAre.int_at hi i v (by rw [Array.getElem?_toList]; exact hv)
        refine updateI (b := !b) ((Walks.list hh3 _ L hneI items).toS) s.heap.objs.size hSf (fun i => ns.getD i 0) hval hz (items.size - 0) 0 _ (by omega) (Nat.zero_le _) ⟨⟨_, Heap.get?_push_size _ rfl, rfl, rfl⟩, (hl1.push _)⟩ ?hS0 ?hR
        case hS0 => exact hS0.at fun o z => Heap.get?_push_of_some _ z
        case hR =>
          intro s' hm hS'
          obtain ⟨h', g', d', tk', os'⟩ := s'
          have eg : g' = s.gens := hm.gens
          have ed : d' = s.drawn := hm.drawn
          have eo : os' = s.os := hm.os
          subst eg; subst ed; subst eo
          show wpAny _ _ _ _ _ _
          refine wpAny_pure ?_
          show wpAny _ _ (ret Value.none) _ _ _
          refine wpAny_pure ⟨rfl, h', tk', rfl, hS', fun c o z => ?_⟩
          have hc : c < s.heap.objs.size := Heap.lt_size z
          refine hm.heap c o (fun q => ?_) (Heap.get?_push_of_some _ (Heap.get?_push_of_some _ z))
          rcases List.mem_cons.mp q with q | q
          · exact Nat.ne_of_lt hc q
          · have q := List.mem_singleton.mp q
            rw [hz0] at q
            exact Nat.ne_of_lt (Nat.lt_succ_of_lt hc) q
      · cases r₂ with
        | error e => exact hr₂
        | ok fl₂ =>
          cases fl₂ with
          | ret r =>
            obtain ⟨rfl, h', tk, rfl, hS', hk'⟩ := hr₂
            repeat (any_goals (first | assumption | wp_step))
            exact k _ _ hS' hk'
          | _ => exact hr₂.elim
    | _ => exact hr.elim
end
end L2
namespace L2
open PySem PySem.Spec PyProof.Rows
section
variable {X : Cx} {K : PySem.W.Frag} {b : Bool}
def SetB (b : Bool) (a : Addr) (l : List Int) : HO := .ext (SetI (!b) a l)
theorem setB_ok {P : Program} {w : World} {H : Hp} {h : Heap} {a : Addr} {l : List Int} (x : SetI (!b) a l h) : ObjOk P w H h a (SetB b a l) :=
  ⟨x, (let ⟨o, _, _, _, ho, _⟩ := x; ⟨o, ho⟩), fun _ _ x1 k => x1.at k⟩
def rSetB (K : PySem.W.Frag) (b : Bool) : List V → Hp → VK → Prop := fun xs H Q => ∃ p ns, xs = [.ref p] ∧ SqL K H p (ns.map V.int) ∧ ns.length < 4000 ∧ ∀ l, H l = none → Q (.ref l) (upd H l (SetB b l (dd ns)))
theorem call_setB (hK : X.K = K) (hc : X.calm = true) (hb : X.w.params.followText "set-order" = b) : CallR X (.type "set") (rSetB K b) := by
  subst hK
  intro pins s σ H xs us Q I r h
  obtain ⟨p, ns, rfl, hq, hz, q⟩ := h
  obtain ⟨u, rfl, rx⟩ := vals1 r
  cases rx
  obtain ⟨its, r', pl, hy⟩ := I.list hq
  have hl := r'.length
  rw [List.length_map] at hl hy
  refine setOfI (ns := ns) (I.ok.hd hc) hb pl.isList (by simpa using intsAre_of r') (by rw [List.size_toArray]; unfold scanBound; omega) fun h' tk hS hk => ?_
  have z2 : its.toArray.size = ns.length := by rw [List.size_toArray, hl]
  rw [z2, firstMet_all] at hS
  exact ⟨.ref s.heap.objs.size, _, I.laid (t' := tk) hk (Nat.le_refl _) (setB_ok hS), rfl, q _ (I.hok.fresh (Nat.le_refl _))⟩
def rSortedB (b : Bool) : List V → Hp → VK → Prop := fun xs H Q => ∃ p l, xs = [.ref p] ∧ H p = some (SetB b p l) ∧ l.length < 64 ∧ ∀ c, H c = none → Q (.ref c) (upd H c (.lst ((srt l).map V.int)))
theorem call_sortedB (hc : X.calm = true) (hb : X.w.params.followText "set-order" = b) : CallR X (.builtin "sorted") (rSortedB b) := by
  intro pins s σ H xs us Q I r h
  obtain ⟨p, l, rfl, hH, h64, q⟩ := h
  obtain ⟨u, rfl, rx⟩ := vals1 r
  cases rx
  have hS : SetI (!b) p l s.heap := (I.hok p _ hH).1
  refine sortedI (I.ok.hd hc) hb hS h64 fun out ns c e h' d tk a1 a2 a3 hk hle he => ?_
  have e1 := srt_eq a2 a3
  subst e1
  have I1 : Inv X pins σ (upd H c (.lst ((srt l).map V.int))) { s with heap := h', toks := tk } := I.laid (t' := tk) hk hle (show ObjOk X.prog X.w _ _ _ (.lst ((srt l).map V.int)) from ⟨by rw [List.length_map, (srt_perm l).length_eq, sizeLine_eq]; omega, out.toList, e, vals_of_ints a1, by simpa using he⟩)
  have I2 := I1.call (ch := []) (h' := h') (g' := s.gens) (d' := d) (t' := tk) Un.refl I1.hok I1.bare (fun _ z => nomatch z)
  exact ⟨.ref c, _, I2, rfl, q _ (I.hok.fresh hle)⟩
end
end L2
namespace PD
open PySem L2
section
variable {K : PySem.W.Frag} {S S' : Sx} {κ κ' b : Bool} {Γ Γ' Γ'' : Ctx} {P : Post}
theorem evo_sortedSet {ta : TE} {ns : List Int} (h : EvL K S false ta Γ (ns.map .int)) (hz : ns.length < 64) : EvO K S κ (tCB (rSortedB b) (tCons (tCB (rSetB K b) (tCons ta tNil)) tNil)) Γ ((srt (dd ns)).map .int) := fun H0 F0 H F σ e Q q =>
  h H0 F0 H F σ e _ fun a vs H1 F1 g1 p1 k1 => by
    cases dpAll_of_ints (rpAll_dp k1)
    refine ⟨a, ns, rfl, p1, by omega, fun p hp => ⟨p, dd ns, rfl, upd_same, Nat.lt_of_le_of_lt (dd_len ns) hz, fun c hc => ?_⟩⟩
    have g2 := g1.trans (.newO g1.le hp (SetB b p (dd ns)))
    exact q c _ _ F1 (g2.trans (.newO g2.le hc _)) (g2.h.free hc) upd_same (g2.le.free hc) (rpAll_ints _)
end
end PD
namespace L2
open PySem PySem.Spec PyProof.Rows
section
variable {X : Cx} {K : PySem.W.Frag}
end
end L2
namespace PD
open PySem L2
section
variable {K : PySem.W.Frag} {S S' : Sx} {κ κ' : Bool} {Γ Γ' Γ'' : Ctx} {P : Post}
end
end PD
namespace L2
open PySem PySem.Spec PyProof.Rows
section
variable {X : Cx} {K : PySem.W.Frag} {e : Expr} {te : TE} {lo hi : Option Expr} {st : Expr} {tl th ts : TO} {p2 pos : Pos}
end
end L2
namespace PD
open PySem L2
section
variable {K : PySem.W.Frag} {S S' : Sx} {κ κ' : Bool} {Γ Γ' Γ'' : Ctx} {P : Post}
theorem RpAll.rev {H0 F : Hp} : ∀ {vs : List V} {ds : List PyData}, RpAll K κ S H0 F vs ds → RpAll K κ S H0 F vs.reverse ds.reverse
  | [], _, h => by cases h; exact .nil
  | v :: vs, _, h => by
    cases h with
    | cons r h => rw [List.reverse_cons, List.reverse_cons]; exact RpAll.append (RpAll.rev h) (.cons r .nil)
end
end PD
namespace PD
open PySem L2
section
variable {K : PySem.W.Frag} {S S' : Sx} {κ κ' : Bool} {Γ Γ' Γ'' : Ctx} {P : Post}
end
end PD
namespace PD
open PySem L2
section
variable {K : PySem.W.Frag} {S S' : Sx} {κ κ' : Bool} {Γ Γ' Γ'' : Ctx} {P : Post}
end
end PD
namespace L2
open PySem
def lcg (x : Nat) : Nat := 5 * x + 1
def lcgN : Nat → Nat → Nat
  | 0, x => x
  | n + 1, x => lcgN n (lcg x)
theorem lcgN_add : ∀ (m n x : Nat), lcgN (m + n) x = lcgN n (lcgN m x)
  | 0, n, x => by rw [Nat.zero_add]; rfl
  | m + 1, n, x => by rw [Nat.succ_add]; exact lcgN_add m n (lcg x)
theorem lcg_two : ∀ k : Nat, ∃ u : Nat, u % 2 = 1 ∧ ∀ x, lcgN (2 ^ k) x = x + 2 ^ k * u * (4 * x + 1)
  | 0 => ⟨1, rfl, fun x => by show lcg x = _; unfold lcg; omega⟩
  | k + 1 => by
    obtain ⟨u, hu, h⟩ := lcg_two k
    refine ⟨u * (1 + 2 * (2 ^ k * u)), by rw [Nat.mul_mod, hu]; omega, fun x => ?_⟩
    have e : 2 ^ (k + 1) = 2 ^ k + 2 ^ k := by rw [Nat.pow_succ]; omega
    rw [e, lcgN_add, h, h]
    generalize 2 ^ k = m
    have e1 : (m + m) * (u * (1 + 2 * (m * u))) * (4 * x + 1) = m * u * (4 * x + 1) * (2 + 4 * (m * u)) := by
      have a1 : (m + m) * (u * (1 + 2 * (m * u))) = m * u * (2 + 4 * (m * u)) := by
        rw [← Nat.mul_assoc, Nat.add_mul, ← Nat.two_mul, Nat.mul_assoc 2, Nat.mul_left_comm, Nat.mul_add 2]
        congr 1
        omega
      rw [a1, Nat.mul_right_comm]
    rw [e1]
    generalize hy : m * u * (4 * x + 1) = y
    have e2 : m * u * (4 * (x + y) + 1) = y + 4 * (m * u) * y := by
      have : m * u * (4 * (x + y) + 1) = m * u * (4 * x + 1) + m * u * (4 * y) := by rw [← Nat.mul_add]; congr 1; omega
      rw [this, hy]
      congr 1
      ac_nf
    rw [e2]
    have : y * (2 + 4 * (m * u)) = 2 * y + 4 * (m * u) * y := by
      rw [Nat.mul_add]
      congr 1
      · omega
      · ac_nf
    omega
theorem lcg_all : ∀ (k x y : Nat), ∃ n, n < 2 ^ k ∧ lcgN n x % 2 ^ k = y % 2 ^ k
  | 0, x, y => ⟨0, by decide, by rw [Nat.pow_zero, Nat.mod_one, Nat.mod_one]⟩
  | k + 1, x, y => by
    obtain ⟨n, hn, h⟩ := lcg_all k x y
    have e : 2 ^ (k + 1) = 2 ^ k * 2 := Nat.pow_succ ..
    by_cases c : lcgN n x % 2 ^ (k + 1) = y % 2 ^ (k + 1)
    · exact ⟨n, by rw [e]; omega, c⟩
    · refine ⟨n + 2 ^ k, by rw [e]; omega, ?_⟩
      obtain ⟨u, hu, hz⟩ := lcg_two k
      rw [lcgN_add, hz]
      generalize lcgN n x = z at h c
      obtain ⟨v, hv⟩ : ∃ v, u * (4 * z + 1) = 2 * v + 1 := ⟨u * (4 * z + 1) / 2, by
        have : u * (4 * z + 1) % 2 = 1 := by rw [Nat.mul_mod, hu]; omega
        omega⟩
      rw [Nat.mul_assoc, hv]
      have e3 : z + 2 ^ k * (2 * v + 1) = z + 2 ^ k + 2 ^ (k + 1) * v := by
        rw [e, Nat.mul_add, Nat.mul_one, ← Nat.mul_assoc]
        omega
      rw [e3, Nat.add_mul_mod_self_left]
      have p : 0 < 2 ^ k := Nat.pos_of_ne_zero (by simp)
      rw [e, Nat.mod_mul, Nat.mod_mul, h] at c
      rw [e, Nat.mod_mul, Nat.mod_mul, Nat.add_mod_right, Nat.add_div_right _ p, h]
      have d : ¬ z / 2 ^ k % 2 = y / 2 ^ k % 2 := fun w => c (by rw [w])
      have : (z / 2 ^ k).succ % 2 = y / 2 ^ k % 2 := by omega
      rw [this]
def walkN (mask : Nat) : Nat → Nat × Nat → Nat × Nat
  | 0, p => p
  | n + 1, p => walkN mask n (SetTable.leap mask p.1 p.2)
theorem walkN_zero (mask : Nat) : ∀ (n i : Nat), i < mask + 1 → walkN mask n (i, 0) = (lcgN n i % (mask + 1), 0)
  | 0, i, h => by show (i, 0) = _; rw [show lcgN 0 i = i from rfl, Nat.mod_eq_of_lt h]
  | n + 1, i, h => by
    show walkN mask n ((i * 5 + 1 + 0 / 32) % (mask + 1), 0 / 32) = _
    rw [Nat.zero_div, Nat.add_zero, walkN_zero mask n _ (Nat.mod_lt _ (Nat.succ_pos _))]
    have : ∀ (n x : Nat), lcgN n (x % (mask + 1)) % (mask + 1) = lcgN n x % (mask + 1) := by
      intro n
      induction n with
      | zero => intro x; exact Nat.mod_mod _ _
      | succ n ih =>
        intro x
        show lcgN n (lcg (x % (mask + 1))) % _ = lcgN n (lcg x) % _
        rw [← ih (lcg (x % (mask + 1))), ← ih (lcg x)]
        congr 2
        unfold lcg
        rw [Nat.add_mod, Nat.mul_mod, Nat.mod_mod, ← Nat.mul_mod, ← Nat.add_mod]
    rw [this, show i * 5 + 1 = lcg i by unfold lcg; omega]
    rfl
theorem walkN_add (mask : Nat) : ∀ (m n : Nat) (p : Nat × Nat), walkN mask (m + n) p = walkN mask n (walkN mask m p)
  | 0, n, p => by rw [Nat.zero_add]; rfl
  | m + 1, n, p => by rw [Nat.succ_add]; exact walkN_add mask m n _
theorem walkN_snd (mask : Nat) : ∀ (n i p : Nat), (walkN mask n (i, p)).2 = p / 32 ^ n
  | 0, i, p => by rw [Nat.pow_zero, Nat.div_one]; rfl
  | n + 1, i, p => by
    show (walkN mask n ((i * 5 + 1 + p / 32) % (mask + 1), p / 32)).2 = _
    rw [walkN_snd mask n, Nat.div_div_eq_div_mul, Nat.pow_succ, Nat.mul_comm 32]
theorem walkN_lt (mask : Nat) : ∀ (n : Nat) (p : Nat × Nat), p.1 < mask + 1 → (walkN mask n p).1 < mask + 1
  | 0, p, h => h
  | n + 1, p, h => walkN_lt mask n _ (Nat.mod_lt _ (Nat.succ_pos _))
theorem walk_hits {mask k : Nat} (hm : mask + 1 = 2 ^ k) {i p : Nat} (hi : i < mask + 1) (hp : p < 2 ^ 64) {j : Nat} (hj : j < mask + 1) : ∃ n, n < SetTable.turns mask ∧ (walkN mask n (i, p)).1 = j := by
  have z : (walkN mask 13 (i, p)).2 = 0 := by
    rw [walkN_snd]
    exact Nat.div_eq_of_lt (Nat.lt_trans hp (by decide))
  have l := walkN_lt mask 13 (i, p) hi
  generalize hw : walkN mask 13 (i, p) = q at z l
  obtain ⟨i', p'⟩ := q
  have z : p' = 0 := z
  subst z
  obtain ⟨n, hn, h⟩ := lcg_all k i' j
  refine ⟨13 + n, by unfold SetTable.turns; omega, ?_⟩
  rw [walkN_add, hw, walkN_zero mask n i' l, hm, h, ← hm, Nat.mod_eq_of_lt hj]
theorem hbits_lt (h : Int) : SetTable.bits h < 2 ^ 64 := by
  unfold SetTable.bits
  have h1 := Int.emod_nonneg h (show (2 ^ 64 : Int) ≠ 0 by decide)
  have h2 := Int.emod_lt_of_pos h (show (0 : Int) < 2 ^ 64 by decide)
  omega
theorem free_ok {mask : Nat} {owner : Array (Option Nat)} (hz : owner.size = mask + 1) : ∀ (fuel i p : Nat), i < mask + 1 → (∃ n, n < fuel ∧ owner.getD (walkN mask n (i, p)).1 (some 0) = none) → ∃ j, SetTable.layClean.free mask owner fuel i p = some j ∧ owner[j]? = some none
  | 0, i, p, _, ⟨n, h, _⟩ => absurd h (Nat.not_lt_zero _)
  | fuel + 1, i, p, hi, ⟨n, hn, h⟩ => by
    unfold SetTable.layClean.free
    have good : ∀ x, (owner.getD x (some 0)).isNone = true → owner[x]? = some none := fun x hx => by
      rw [Array.getD_eq_getD_getElem?] at hx
      cases e : owner[x]? with
      | none => rw [e] at hx; cases hx
      | some o =>
        rw [e] at hx
        have : o = none := Option.isNone_iff_eq_none.mp hx
        rw [this]
    split
    · rename_i k hk
      exact ⟨i + k, rfl, good _ (List.find?_some (p := fun k => (owner.getD (i + k) (some 0)).isNone) hk)⟩
    · rename_i hk
      dsimp only
      cases n with
      | zero =>
        have h0 := List.find?_eq_none.mp hk 0 (List.mem_range.mpr (by unfold SetTable.runEnd; split <;> omega))
        have h : owner.getD i (some 0) = none := h
        rw [Nat.add_zero, h] at h0
        exact absurd rfl h0
      | succ n => exact free_ok hz fuel _ _ (Nat.mod_lt _ (Nat.succ_pos _)) ⟨n, by omega, h⟩
end L2
namespace L2
open PySem
def somes (o : Array (Option Nat)) : List Nat := o.toList.filterMap id
theorem somes_set {o : Array (Option Nat)} {j k : Nat} (h : o[j]? = some none) : (somes (o.setIfInBounds j (some k))).Perm (k :: somes o) := by
  unfold somes
  have hj : j < o.size := (Array.getElem?_eq_some_iff.mp h).1
  rw [Array.toList_setIfInBounds]
  have hl : o.toList[j]? = some none := by rw [Array.getElem?_toList]; exact h
  have hj' : j < o.toList.length := by rw [Array.length_toList]; exact hj
  have e1 : o.toList.set j (some k) = o.toList.take j ++ some k :: o.toList.drop (j + 1) := List.set_eq_take_append_cons_drop .. ▸ by rw [if_pos hj']
  have e2 : o.toList = o.toList.take j ++ none :: o.toList.drop (j + 1) := by
    have : o.toList[j] = none := by have := List.getElem?_eq_getElem hj'; rw [hl] at this; exact (Option.some.inj this).symm
    rw [← this, ← List.drop_eq_getElem_cons hj', List.take_append_drop]
  rw [e1, List.filterMap_append, List.filterMap_cons_some (f := id) (a := some k) (b := k) rfl]
  conv => rhs; rw [e2, List.filterMap_append, List.filterMap_cons_none (f := id) (a := none) rfl]
  exact List.perm_middle
theorem free_slot {o : Array (Option Nat)} (h : (somes o).length < o.size) : ∃ j, j < o.size ∧ o[j]? = some none := by
  refine Classical.byContradiction fun z => ?_
  have all : ∀ x ∈ o.toList, x ≠ none := fun x hx e => by
    obtain ⟨j, hj, ej⟩ := List.mem_iff_getElem.mp hx
    rw [Array.length_toList] at hj
    refine z ⟨j, hj, ?_⟩
    rw [Array.getElem?_eq_getElem hj, ← Array.getElem_toList, ej, e]
  have : ∀ l : List (Option Nat), (∀ x ∈ l, x ≠ none) → (l.filterMap id).length = l.length := fun l => by
    induction l with
    | nil => intro _; rfl
    | cons x r ih =>
      intro hx
      cases e : x with
      | none => exact absurd e (hx x (.head _))
      | some v => rw [List.filterMap_cons_some (f := id) (a := some v) (b := v) rfl, List.length_cons, List.length_cons, ih fun y hy => hx y (.tail _ hy)]
  have e := this o.toList all
  unfold somes at h
  rw [e, Array.length_toList] at h
  exact Nat.lt_irrefl _ h
def layStep (mask : Nat) (acc : Option (Array (Option Nat) × Nat)) (h : Int) : Option (Array (Option Nat) × Nat) := do
  let (owner, k) ← acc
  let j ← SetTable.layClean.free mask owner (SetTable.turns mask) (SetTable.bits h % (mask + 1)) (SetTable.bits h)
  pure (owner.setIfInBounds j (some k), k + 1)
theorem layList {mask k : Nat} (hm : mask + 1 = 2 ^ k) : ∀ (hs : List Int) (o : Array (Option Nat)) (n : Nat), o.size = mask + 1 → (somes o).length = n → n + hs.length ≤ mask → ∃ o', hs.foldl (layStep mask) (some (o, n)) = some (o', n + hs.length) ∧ o'.size = mask + 1 ∧ (somes o').Perm (somes o ++ (List.range hs.length).map (n + ·))
  | [], o, n, h1, h2, h3 => ⟨o, rfl, h1, by simp⟩
  | h :: hs, o, n, h1, h2, h3 => by
    rw [List.length_cons] at h3
    obtain ⟨j0, hj0, ej0⟩ := free_slot (o := o) (by omega)
    have hi : SetTable.bits h % (mask + 1) < mask + 1 := Nat.mod_lt _ (Nat.succ_pos _)
    obtain ⟨m, hm1, hm2⟩ := walk_hits hm hi (hbits_lt h) (j := j0) (by omega)
    obtain ⟨j, ej, oj⟩ := free_ok h1 (SetTable.turns mask) _ (SetTable.bits h) hi ⟨m, hm1, by rw [hm2, Array.getD_eq_getD_getElem?, ej0]; rfl⟩
    have st : layStep mask (some (o, n)) h = some (o.setIfInBounds j (some n), n + 1) := by
      unfold layStep
      simp only [Option.bind_eq_bind, Option.bind_some, ej]
      rfl
    have pm := somes_set (k := n) oj
    obtain ⟨o', e1, e2, e3⟩ := layList hm hs (o.setIfInBounds j (some n)) (n + 1) (by rw [Array.size_setIfInBounds]; exact h1) (by rw [pm.length_eq, List.length_cons, h2]) (by omega)
    refine ⟨o', by rw [List.foldl_cons, st, e1, List.length_cons]; congr 2; omega, e2, e3.trans ?_⟩
    refine (pm.append_right _).trans ?_
    rw [List.length_cons, List.range_succ_eq_map, List.map_cons, List.map_map]
    refine (List.perm_middle (l₁ := somes o)).symm.trans ?_
    rw [Nat.add_zero]
    refine List.Perm.append_left _ (List.Perm.cons _ ?_)
    have : ((fun x => n + x) ∘ Nat.succ) = fun x => n + 1 + x := by funext x; show n + (x + 1) = _; omega
    rw [this]
theorem laid_ok {mask k : Nat} (hm : mask + 1 = 2 ^ k) (f m : Nat) (led plain : Bool) (hs : Array Int) (hz : hs.size ≤ mask) : ∃ t order, SetTable.laid mask f m led plain hs = some (t, order) ∧ TOk led t ∧ t.mask = mask ∧ t.plain = plain ∧ order.toList.Perm (List.range hs.size) ∧ t.place.size = hs.size := by
  obtain ⟨o, e1, e2, e3⟩ := layList hm hs.toList (Array.replicate (mask + 1) none) 0 (by simp) (by unfold somes; rw [Array.toList_replicate]; simp) (by rw [Array.length_toList]; omega)
  have lc : SetTable.layClean mask hs = some o := by
    unfold SetTable.layClean
    rw [← Array.foldl_toList]
    have : (List.foldl (layStep mask) (some (Array.replicate (mask + 1) none, 0)) hs.toList).map (·.1) = some o := by rw [e1]; rfl
    exact this
  have e4 : (somes o).Perm (List.range hs.size) := by
    refine e3.trans ?_
    unfold somes
    rw [Array.toList_replicate, Array.length_toList]
    simp
  have key : ((List.range (mask + 1)).filterMap fun j => (o.getD j none).map (j, ·)).map (·.2) = somes o := by
    rw [List.map_filterMap]
    unfold somes
    have : o.toList = (List.range (mask + 1)).map fun j => o.getD j none := by
      refine List.ext_getElem? fun i => ?_
      rw [Array.getElem?_toList, List.getElem?_map]
      by_cases hi : i < mask + 1
      · rw [List.getElem?_range hi, Array.getElem?_eq_getElem (by omega)]
        show _ = some (o.getD i none)
        rw [Array.getD_eq_getD_getElem?, Array.getElem?_eq_getElem (by omega)]
        rfl
      · rw [Array.getElem?_eq_none (by omega), List.getElem?_eq_none (by rw [List.length_range]; omega)]
        rfl
    rw [this, List.filterMap_map]
    refine congrArg (fun f => List.filterMap f (List.range (mask + 1))) (funext fun j => ?_)
    show Option.map _ (Option.map _ (o.getD j none)) = o.getD j none
    cases o.getD j none <;> rfl
  refine ⟨_, _, by unfold SetTable.laid; rw [lc]; rfl, ⟨rfl, ?_, rfl⟩, rfl, rfl, ?_, ?_⟩
  · show List.Pairwise (· < ·) _
    dsimp only
    rw [List.pairwise_map, List.pairwise_filterMap]
    refine List.pairwise_lt_range.imp fun {i j} hij x hx y hy => ?_
    obtain ⟨u, _, rfl⟩ := Option.map_eq_some_iff.mp hx
    obtain ⟨u', _, rfl⟩ := Option.map_eq_some_iff.mp hy
    exact hij
  · show (((List.range (mask + 1)).filterMap fun j => (o.getD j none).map (j, ·)).map (·.2)).Perm _
    rw [key]
    exact e4
  · show (((List.range (mask + 1)).filterMap fun j => (o.getD j none).map (j, ·)).map (·.1)).toArray.size = _
    rw [List.size_toArray, List.length_map, ← List.length_map (f := (·.2)), key, e4.length_eq, List.length_range]
theorem sizeAbove_go : ∀ (fuel k n : Nat), 2 ^ k ≤ 2 * n + 8 → n < 2 ^ (k + fuel) → ∃ j, SetTable.sizeAbove.go n fuel (2 ^ k) = 2 ^ j ∧ n < 2 ^ j ∧ 2 ^ j ≤ 2 * n + 8
  | 0, k, n, h1, h2 => ⟨k, rfl, h2, h1⟩
  | fuel + 1, k, n, h1, h2 => by
    unfold SetTable.sizeAbove.go
    by_cases h : 2 ^ k ≤ n
    · rw [if_pos h, show 2 ^ k * 2 = 2 ^ (k + 1) from (Nat.pow_succ ..).symm]
      exact sizeAbove_go fuel (k + 1) n (by rw [Nat.pow_succ]; omega) (by rw [show k + 1 + fuel = k + (fuel + 1) by omega]; exact h2)
    · rw [if_neg h]
      exact ⟨k, rfl, by omega, h1⟩
theorem sizeAbove_ok {n : Nat} (h : n < 100000) : ∃ j, SetTable.sizeAbove n = 2 ^ j ∧ n < 2 ^ j ∧ 2 ^ j ≤ 2 * n + 8 := by
  have := sizeAbove_go 64 3 n (by omega) (Nat.lt_trans h (by decide))
  exact this
end L2
namespace L2
open PySem PySem.Spec PyProof.Rows
theorem reorder_perm {order : Array Nat} {es : Array (Int × Value)} (h : order.toList.Perm (List.range es.size)) : (order.filterMap (es[·]?)).toList.Perm es.toList := by
  rw [Array.toList_filterMap]
  exact (h.filterMap _).trans (by rw [filterMap_getElem?_range])
def FreshI (b : Bool) (m : Nat) (a : Addr) (h : Heap) : Prop := ∃ o ep t, h.get? a = some o ∧ o.ExactSet ∧ o.data = .set #[] ep t ∧ TOk b t ∧ t.place = #[] ∧ (∃ k, t.mask + 1 = 2 ^ k) ∧ m ≤ t.mask
theorem FreshI.fits {t : SetTable} {b : Bool} (h : TOk b t) (e : t.place = #[]) : t.fits (#[] : Array (Int × Value)).size = true := by
  unfold SetTable.fits SetTable.fill
  rw [e, h.dum]
  simp
theorem FreshI.set {b : Bool} {m : Nat} {a : Addr} {h : Heap} (x : FreshI b m a h) : SetI b a [] h := by
  obtain ⟨o, ep, t, ho, hx, hd, ht, hp, _⟩ := x
  exact ⟨o, #[], ep, t, ho, hx, hd, (fun e z => by simp at z), .nil, by decide, FreshI.fits ht hp, ht⟩
section
variable {prog : Program} {w : World} {A : Around} {E : Value → Shared → Prop} {s : Shared} {b : Bool} {a r o : Addr} {l l1 l2 : List Int} {m : Nat}
theorem FreshI.at {h h' : Heap} (x : FreshI b m a h) (e : ∀ o, h.get? a = some o → h'.get? a = some o) : FreshI b m a h' :=
  let ⟨o, ep, t, ho, y⟩ := x
  ⟨o, ep, t, e o ho, y⟩
end
end L2
namespace L2
open PySem PySem.Spec PyProof.Rows
section
variable {prog : Program} {w : World} {A : Around} {E : Value → Shared → Prop} {s : Shared} {bt : Bool} {a r o : Addr} {l l1 l2 : List Int} {m : Nat}
end
end L2
namespace L2
open PySem PySem.Spec PyProof.Rows
section
variable {prog : Program} {w : World} {A : Around} {E : Value → Shared → Prop} {s : Shared} {bt : Bool} {a r o p q : Addr} {l l1 l2 : List Int} {m : Nat}
end
end L2
namespace L2
open PySem PySem.Spec PyProof.Rows
section
variable {X : Cx} {K : PySem.W.Frag} {b : Bool}
theorem dd_nd (ns : List Int) : (dd ns).Nodup := by
  suffices z : ∀ n, (dd (ns.take n)).Nodup by simpa using z ns.length
  intro n
  induction n with
  | zero => exact List.nodup_nil
  | succ n ih =>
    by_cases hn : n < ns.length
    · have e : ns.take (n + 1) = ns.take n ++ [ns[n]] := by rw [List.take_succ, List.getElem?_eq_getElem hn]; rfl
      rw [e, dd_snoc]
      unfold step_dedup
      split
      · exact ih
      · rename_i h
        rw [List.nodup_append]
        refine ⟨ih, by simp, fun x hx y hy => ?_⟩
        rw [List.mem_singleton.mp hy]
        rintro rfl
        exact h (List.any_eq_true.mpr ⟨_, hx, by simp⟩)
    · have e1 : ns.take (n + 1) = ns.take n := by rw [List.take_of_length_le (by omega), List.take_of_length_le (by omega)]
      rw [e1]
      exact ih
end
end L2
namespace PD
open PySem L2
section
variable {K : PySem.W.Frag} {S S' : Sx} {κ κ' b : Bool} {Γ Γ' Γ'' : Ctx} {P : Post}
end
end PD
namespace PD
open PySem L2
section
variable {K : PySem.W.Frag} {S S' : Sx} {κ κ' : Bool} {Γ Γ' Γ'' : Ctx} {P : Post}
end
end PD
namespace L2
open PySem PySem.Spec PyProof.Rows
section
variable {prog : Program} {w : World} {A : Around} {E : Value → Shared → Prop} {s : Shared}
end
section
variable {X : Cx} {K : PySem.W.Frag} {pos : Pos}
end
structure FunD (K : PySem.W.Frag) (x qual : Str) (st : Stmt) (f : Addr) (fd : FuncData) : Prop where
  ex : ∃ (oc : Value) (od : Option Addr) (dt : Addr) (kV doc pm : Value) (an : Option Addr) (cdv ct : Value) (osl : Array (Option Value)),
    fd = PySem.W.fnOf x qual (defArgs st) (defBody st) (defScope st) (.ref dt) kV doc pm an cdv ct ∧ K.lookup f = some ⟨oc, od, .func fd, osl⟩ ∧ PySem.W.codeIn K cdv qual = true ∧
    ∃ (o : Obj) (n : Nat), K.lookup dt = some o ∧ o.data = .seq #[.none] n
  kp : PySem.W.keepIn K (.ref f) = true
section
variable {P : Program} {w : World} {K : PySem.W.Frag} {mg : Str → Option Value} {base : Heap}
theorem FunD.ok {x qual : Str} {st : Stmt} {f : Addr} {fd : FuncData} {N ps : List Str} {k : Nat} {sp : Sp} (F : FunD K x qual st f fd) (S : FnScope N ps (defScope st)) (len : ∀ vs H Q E, sp vs H Q E → vs.length = ps.length)
    (hbody : ∀ (cdv : Value) (A : Around) (outer : List Env) (s : Shared) (H : Hp) (vs : List V) (Q : VK) (E : XK), Room k (A.deeper (envOfC qual (defScope st) s.heap.objs.size f cdv)) → sp vs H Q E →
      ∃ t, PSs (cxOf CX0 P w K mg base N qual (defScope st) f cdv A outer s H E).nox (defBody st) t ∧ t { nx := fun _ H' => Q .non H', rt := Q } (start N vs) H) : FnOk P w K mg base CX0 (k + 1) f fd ps sp := by
  obtain ⟨oc, od, dt, kV, doc, pm, an, cdv, ct, osl, rfl, lk, hcd, _⟩ := F.ex
  refine fn_of lk hcd S len fun A outer s H vs Q E hr hsp => ?_
  obtain ⟨t, h, q⟩ := hbody cdv A outer s H vs Q E hr hsp
  exact ⟨t, h.nox, q⟩
theorem FunD.binds {x qual : Str} {st : Stmt} {f : Addr} {fd : FuncData} {ps : List Str} {ds : List Value} (F : FunD K x qual st f fd)
    (h : ∀ (dt : Addr) (kV doc pm : Value) (an : Option Addr) (cdv ct : Value) (us : List Value), us.length + ds.length = ps.length →
      ∃ k : Option (Array Value) → Sem (List (Str × Value)), bindArgs (PySem.W.fnOf x qual (defArgs st) (defBody st) (defScope st) (.ref dt) kV doc pm an cdv ct) ⟨us, []⟩ = (seqItems? (.ref dt) >>= k) ∧ k (some #[.none]) = pure (ps.zip (us ++ ds))) : Binds K fd ps ds := by
  obtain ⟨oc, od, dt, kV, doc, pm, an, cdv, ct, osl, rfl, lk, hcd, o, n, hd, hs⟩ := F.ex
  intro s us KX hl
  obtain ⟨k, e1, e2⟩ := h dt kV doc pm an cdv ct us (by rw [← List.length_append]; exact hl)
  exact BindsTo.of_defaults (T := dt) rfl (KX dt o hd) hs e1 e2
structure CalleeN (P : Program) (w : World) (K : PySem.W.Frag) (mg : Str → Option Value) (base : Heap) (CX : CXT) (x : Str) (ps : List Str) (k : Nat) (sp : Sp) : Prop where
  ex : ∃ f fd, FnOk P w K mg base CX k f fd ps sp ∧ mg x = some (.ref f) ∧ PySem.W.keepIn K (.ref f) = true ∧ Binds K fd ps [] ∧ Binds K fd ps [.none]
end
section
variable {X : Cx} {CX : CXT} {k : Nat} {ps : List Str} {sp : Sp} {E : XK} {x : Str} {p pos : Pos} {e : Expr} {es : List Expr} {t : TA}
theorem CalleeN.all {P : Program} {w : World} {K : PySem.W.Frag} {mg : Str → Option Value} {base : Heap} (C : CalleeN P w K mg base CX x ps k sp) : Callee P w K mg base CX x ps k sp :=
  let ⟨f, fd, F, hm, hk, hb, _⟩ := C.ex
  ⟨f, fd, F, hm, hk, hb⟩
end
end L2
namespace Cm
open PySem L2
structure AtD (K : PySem.W.Frag) (x : Str) (st : Stmt) (f : Addr) (fd : FuncData) : Prop where
  ns : PySem.W.nsIn K mainGlobals x = some (some (.ref f))
  fn : FunD K x x st f fd
end Cm
namespace PD
open PySem L2
section
variable {K : PySem.W.Frag} {S S' : Sx} {κ κ' : Bool} {Γ Γ' Γ'' : Ctx} {P : Post}
end
end PD
namespace PD
open PySem L2
section
variable {K : PySem.W.Frag} {S S' : Sx} {κ : Bool} {Γ : Ctx} {P : Post}
end
end PD
namespace L2
open PySem PySem.Spec PyProof.Rows
section
variable {P : Program} {w : World} {K : PySem.W.Frag} {mg : Str → Option Value} {base : Heap}
end
end L2
namespace PD
open PySem L2
section
variable {K : PySem.W.Frag} {S S' : Sx} {κ κ' : Bool} {Γ Γ' Γ'' : Ctx} {P : Post} {E : XK} {C : Addr}
end
end PD
namespace PD
open PySem L2
section
variable {K : PySem.W.Frag} {S S' : Sx} {κ κ' : Bool} {Γ Γ' Γ'' : Ctx} {P : Post} {E : XK} {C : Addr}
theorem ev_ifE {c : TT} {t u : TE} {b : Bool} {d : PyData} (hc : EvT K S c Γ b) (h1 : b = true → EvE K S κ t Γ d) (h2 : b = false → EvE K S κ u Γ d) : EvE K S κ (tIf c t u) Γ d := fun H0 F0 H F σ e Q q =>
  hc H0 F0 H F σ e _ fun H1 F1 g => by
    cases b with
    | true => exact iteT (h1 rfl H0 F0 H1 F1 σ (e.mono g) Q fun v H2 F2 g2 p => q v H2 F2 (g.trans g2) p)
    | false => exact iteF (h2 rfl H0 F0 H1 F1 σ (e.mono g) Q fun v H2 F2 g2 p => q v H2 F2 (g.trans g2) p)
end
end PD
namespace PD
open PySem L2
section
variable {K : PySem.W.Frag} {S S' : Sx} {κ κ' : Bool} {Γ Γ' Γ'' : Ctx} {P : Post}
theorem cutT {α : Type} (g : α → PyData) (xs : List α) (k : Nat) : cutD (xs.map g) none (some (k : Int)) = (xs.take k).map g := by
  unfold cutD
  rw [HT.sIx_nat]
  show ((xs.map g).drop 0).take (min k (xs.map g).length - 0) = _
  rw [List.drop_zero, Nat.sub_zero, List.length_map, ← List.map_take]
  congr 1
  rcases Nat.le_total k xs.length with h | h
  · rw [Nat.min_eq_left h]
  · rw [Nat.min_eq_right h, List.take_of_length_le (Nat.le_refl _), List.take_of_length_le h]
theorem cutH {α : Type} (g : α → PyData) (xs : List α) (k : Nat) : cutD (xs.map g) (some (k : Int)) none = (xs.drop k).map g := by
  unfold cutD
  rw [HT.sIx_nat]
  show ((xs.map g).drop (min k (xs.map g).length)).take ((xs.map g).length - min k (xs.map g).length) = _
  rw [List.take_of_length_le (by rw [List.length_drop]; exact Nat.le_refl _), List.length_map, ← List.map_drop]
  congr 1
  rcases Nat.le_total k xs.length with h | h
  · rw [Nat.min_eq_left h]
  · rw [Nat.min_eq_right h, List.drop_of_length_le (Nat.le_refl _), List.drop_of_length_le h]
end
end PD
namespace PD
open PySem L2
section
variable {K : PySem.W.Frag} {S S' : Sx} {κ κ' : Bool} {Γ Γ' Γ'' : Ctx} {P : Post} {xs ys zs : List PyData}
structure T3 (K : PySem.W.Frag) (H0 H F : Hp) (p a b c : Addr) (us vs ws : List V) (xs ys zs : List PyData) : Prop where
  hp : F p = some (.tup [.ref a, .ref b, .ref c])
  oa : OwnAt .fresh H0 H F a us
  ob : OwnAt .fresh H0 H F b vs
  oc : OwnAt .fresh H0 H F c ws
  ab : a ≠ b
  ac : a ≠ c
  bc : b ≠ c
  ra : RpAll K true .fresh H0 F us xs
  rb : RpAll K true .fresh H0 F vs ys
  rc : RpAll K true .fresh H0 F ws zs
theorem DEnv.any {H0 F0 H F : Hp} {σ : St} {i : Nat} {v : Option V} (e : DEnv K S H0 F0 H F σ Γ) (hi : ∀ x, Γ[i]? ≠ some (some x)) : DEnv K S H0 F0 H F (σ.set i v) Γ := by
  have ne : ∀ {j : Nat} {x : DV}, Γ[j]? = some (some x) → i ≠ j := fun h z => hi _ (z ▸ h)
  refine ⟨e.gr, e.l0, e.sd, e.s0, by rw [List.length_set]; exact e.len, fun j x h => ?_, fun j k x y v w a h1 h2 h3 h4 o1 o2 => ?_⟩
  · rw [List.getElem?_set_ne (ne h)]
    exact e.has j x h
  · rw [List.getElem?_set_ne (ne h1)] at h3
    rw [List.getElem?_set_ne (ne h2)] at h4
    exact e.ne j k x y v w a h1 h2 h3 h4 o1 o2
end
end PD
namespace PD
open PySem L2
section
variable {K : PySem.W.Frag} {S S' : Sx} {κ κ' : Bool} {Γ Γ' Γ'' : Ctx} {P : Post} {E : XK}
end
end PD
namespace PD
open PySem L2
section
variable {K : PySem.W.Frag} {S S' : Sx} {κ κ' : Bool} {Γ Γ' Γ'' : Ctx} {P : Post}
end
end PD
namespace PD
open PySem L2
section
variable {K : PySem.W.Frag} {S S' : Sx} {κ κ' : Bool} {Γ Γ' Γ'' : Ctx} {P : Post}
end
end PD
namespace L2
open PySem PySem.Spec PyProof.Rows
section
variable {prog : Program} {w : World} {A : Around} {E : Value → Shared → Prop} {s : Shared} {b bt : Bool} {a r o p q : Addr} {l l1 l2 : List Int}
end
end L2
namespace L2
open PySem PySem.Spec PyProof.Rows
section
variable {X : Cx} {K : PySem.W.Frag} {b : Bool}
end
end L2
namespace PD
open PySem L2
section
variable {K : PySem.W.Frag} {S S' : Sx} {κ κ' b : Bool} {Γ Γ' Γ'' : Ctx} {P : Post}
end
end PD
namespace L2
open PySem PySem.Spec PyProof.Rows
section
variable {X : Cx} {K : PySem.W.Frag}
end
end L2
namespace PD
open PySem L2
section
variable {K : PySem.W.Frag} {S S' : Sx} {κ κ' : Bool} {Γ Γ' Γ'' : Ctx} {P : Post}
end
end PD
namespace L2
open PySem PySem.Spec PyProof.Rows
section
variable {X : Cx} {K : PySem.W.Frag}
def rm (k : Int) (ns : List Int) : List Int := ns.take (ns.idxOf k) ++ ns.drop (ns.idxOf k + 1)
end
end L2
namespace PD
open PySem L2
section
variable {K : PySem.W.Frag} {S S' : Sx} {κ κ' : Bool} {Γ Γ' Γ'' : Ctx} {P : Post}
end
end PD
namespace PD
open PySem L2
section
variable {K : PySem.W.Frag} {S S' S1 S2 : Sx} {κ κ' : Bool} {Γ Γ' Γ'' : Ctx} {P : Post} {C : List PyData → Prop}
mutual
inductive Tn (C : List PyData → Prop) : PyData → PyData → Prop
  | same {d : PyData} : Tn C d d
  | rev {ds : List PyData} : C ds → Tn C (.list ds) (.list ds.reverse)
  | lst {ds es : List PyData} : TnA C ds es → Tn C (.list ds) (.list es)
  | tup {ds es : List PyData} : TnA C ds es → Tn C (.tuple ds) (.tuple es)
inductive TnA (C : List PyData → Prop) : List PyData → List PyData → Prop
  | nil : TnA C [] []
  | cons {d e : PyData} {ds es : List PyData} : Tn C d e → TnA C ds es → TnA C (d :: ds) (e :: es)
end
theorem rpAll_ints' {S : Sx} {H0 F : Hp} : ∀ {ns : List Int} {ds : List PyData}, RpAll K κ S H0 F (ns.map V.int) ds → ds = ns.map PyData.int
  | [], _, h => by cases h; rfl
  | n :: r, _, h => by
    cases h with
    | cons h1 h2 => cases h1; rw [rpAll_ints' h2]; rfl
section
variable {H1 H2 F : Hp} {b : Addr} {ns : List Int}
mutual
theorem rp_turn (hb : F b = some (.lst (ns.map V.int))) (hC : C (ns.map PyData.int)) : ∀ {v : V} {d : PyData}, Rp K true S1 H1 F v d → ∃ d', Tn C d d' ∧ Rp K true S1 H1 (upd F b (.lst (ns.map V.int).reverse)) v d'
  | _, _, .non => ⟨_, .same, .non⟩
  | _, _, .bl x => ⟨_, .same, .bl x⟩
  | _, _, .int x => ⟨_, .same, .int x⟩
  | _, _, .str x => ⟨_, .same, .str x⟩
  | _, _, @Rp.lst _ _ _ _ _ a xs ds h k => by
    by_cases e : a = b
    · subst e
      have h1 := h.1
      rw [hb] at h1
      cases h1
      cases rpAll_ints' k
      exact ⟨_, .rev hC, .lst ⟨upd_same, h.2⟩ (RpAll.reverse (dpAll_immL (fun d hd => by obtain ⟨i, _, rfl⟩ := List.mem_map.mp hd; rfl) (dpAll_ints ns)))⟩
    · obtain ⟨es, t, q⟩ := rpAll_turn hb hC k
      exact ⟨_, .lst t, .lst ⟨by rw [upd_ne e]; exact h.1, h.2⟩ q⟩
  | _, _, @Rp.tup _ _ _ _ _ a xs ds h k => by
    obtain ⟨es, t, q⟩ := rpAll_turn hb hC k
    refine ⟨_, .tup t, .tup ?_ q⟩
    have ne : ∀ {o : HO}, F a = some o → isLst (some o) = false → upd F b (.lst (ns.map V.int).reverse) a = some o := fun {o} z n => by
      rw [upd_ne fun c => by rw [c, hb] at z; cases z; cases n]
      exact z
    rcases h with (z | ⟨o, z⟩) | z
    · exact .inl (.inl (ne z rfl))
    · exact .inl (.inr ⟨o, ne z rfl⟩)
    · exact .inr z
theorem rpAll_turn (hb : F b = some (.lst (ns.map V.int))) (hC : C (ns.map PyData.int)) : ∀ {vs : List V} {ds : List PyData}, RpAll K true S1 H1 F vs ds → ∃ es, TnA C ds es ∧ RpAll K true S1 H1 (upd F b (.lst (ns.map V.int).reverse)) vs es
  | _, _, .nil => ⟨_, .nil, .nil⟩
  | _, _, .cons h k => by
    obtain ⟨d, t, q⟩ := rp_turn hb hC h
    obtain ⟨es, t', q'⟩ := rpAll_turn hb hC k
    exact ⟨_, .cons t t', .cons q q'⟩
end
end
theorem DEnv.mend {T : Addr → Prop} {S2 : Sx} {H0 F0 H F H' F' : Hp} {σ : St} (e : DEnv K (.spoil T) H0 F0 H F σ Γ) (hS : ∀ a, S2.has H0 a → (Sx.spoil T).has H0 a) (hS0 : ∀ T', S2 = .spoil T' → ∀ a, T' a → H0 a = none)
    (h1 : ∀ c o, F c = some o → isLst (some o) = false ∨ ¬ T c → F' c = some o) (h2 : ∀ c o, H c = some o → isLst (some o) = false ∨ ¬ T c → H' c = some o) (h3 : Same F' H') (h4 : ∀ c, F c = none → ¬ T c → F' c = none) (h5 : ∀ c o, H c = some o → ∃ o', H' c = some o')
    (hl : Γ.length = Γ'.length) (hm : ∀ (j : Nat) (x : DV), Γ'[j]? = some (some x) → ∃ y, Γ[j]? = some (some y) ∧ SpD y x) (hn : ∀ (j : Nat) ds, Γ[j]? ≠ some (some (.tn (.list ds)))) : DEnv K S2 H0 F0 H' F' σ Γ' := by
  have s0 : ∀ {a : Addr} {o : HO}, H0 a = some o → ¬ T a := fun {a o} z c => by
    rw [e.s0 T rfl a c] at z; cases z
  have tup : ∀ (a : Addr) (xs : List V), SqT K F a xs → SqT K F' a xs := fun a xs z => by
    rcases z with (z | ⟨o, z⟩) | z
    · exact .inl (.inl (h1 _ _ z (.inl rfl)))
    · exact .inl (.inr ⟨o, h1 _ _ z (.inl rfl)⟩)
    · exact .inr z
  have ln : ∀ (a : Addr) (xs : List V), LN K true (.spoil T) H0 F a xs → LN K true S2 H0 F' a xs := fun a xs z => ⟨h1 _ _ z.1 (.inr fun c => z.2 (.inr c)), fun c => z.2 (hS _ c)⟩
  have own : ∀ {a : Addr} {vs : List V}, OwnAt (.spoil T) H0 H F a vs → OwnAt S2 H0 H' F' a vs := fun {a vs} w => by
    have n : ¬ T a := fun c => w.s (.inr c)
    exact ⟨h2 _ _ w.h (.inr n), h4 _ w.f n, w.n, fun c => w.s (hS _ c)⟩
  refine ⟨⟨fun c o z => h2 _ _ (e.gr.h _ _ z) (.inr (s0 z)), fun c o z => h1 _ _ (e.gr.f _ _ z) (.inr (s0 (e.l0 _ _ z))), h3, fun c o z n => h4 _ (e.gr.ap _ _ z n) (s0 z)⟩, e.l0, fun a c => ?_, hS0, by rw [e.len, hl], fun j x hx => ?_, fun m n x y v w a g1 g2 g3 g4 o1 o2 => ?_⟩
  · obtain ⟨o, q⟩ := e.sd a (hS _ c)
    exact h5 a o q
  · obtain ⟨y, hy, my⟩ := hm j x hx
    obtain ⟨v, hv, h⟩ := e.has j y hy
    refine ⟨v, hv, ?_⟩
    cases my with
    | fz => exact rp_map ln tup h
    | im hi => exact rp_map (κ := true) ln tup (dp_imm hi (rp_dp h))
    | ow => obtain ⟨a, vs, ea, wo, kk⟩ := h; exact ⟨a, vs, ea, own wo, rpAll_map ln tup kk⟩
    | oi hi => obtain ⟨a, vs, ea, wo, kk⟩ := h; exact ⟨a, vs, ea, own wo, rpAll_map (κ := true) ln tup (dpAll_immL hi (rpAll_dp kk))⟩
    | ox => obtain ⟨a, vs, ea, wo⟩ := h; exact ⟨a, vs, ea, own wo⟩
    | tn => exact absurd hy (hn _ _)
  · obtain ⟨x', e1', m1⟩ := hm _ _ g1
    obtain ⟨y', e2', m2⟩ := hm _ _ g2
    have cs : ∀ {x x' : DV} {i : Nat} {v : V}, Γ[i]? = some (some x') → SpD x' x → Owns H' v x a → Owns H v x' a := fun {x x' i v} hi m o => by
      cases m with
      | fz => exact o.elim
      | im _ => exact o.elim
      | ow => exact o
      | oi _ => exact o
      | ox => exact o
      | tn => exact absurd hi (hn _ _)
    exact e.ne m n x' y' v w a e1' e2' g3 g4 (cs e1' m1 o1) (cs e2' m2 o2)
theorem DEnv.turn {T : Addr → Prop} {S2 : Sx} {H0 F0 H F : Hp} {σ : St} {b : Addr} {us ws : List V} (e : DEnv K (.spoil T) H0 F0 H F σ Γ) (hS : ∀ a, S2.has H0 a → (Sx.spoil T).has H0 a) (hS0 : ∀ T', S2 = .spoil T' → ∀ a, T' a → H0 a = none) (hb : F b = some (.lst us)) (Tb : T b)
    (hl : Γ.length = Γ'.length) (hm : ∀ (j : Nat) (x : DV), Γ'[j]? = some (some x) → ∃ y, Γ[j]? = some (some y) ∧ SpD y x) (hn : ∀ (j : Nat) ds, Γ[j]? ≠ some (some (.tn (.list ds)))) :
    DEnv K S2 H0 F0 (upd H b (.lst ws)) (upd F b (.lst ws)) σ Γ' := by
  have nb : ∀ {c : Addr} {o : HO} {G : Hp}, G b = some (.lst us) → G c = some o → isLst (some o) = false ∨ ¬ T c → c ≠ b := fun {c o G} g z h q => by
    subst q
    rcases h with h | h
    · rw [g] at z; cases z; cases h
    · exact h Tb
  refine e.mend hS hS0 (fun c o z h => by rw [upd_ne (nb hb z h)]; exact z) (fun c o z h => by rw [upd_ne (nb (e.le _ _ hb) z h)]; exact z) (fun c o z => ?_) (fun c z n => by rw [upd_ne (show c ≠ b from fun q => n (by rw [q]; exact Tb))]; exact z) (fun c o z => ?_) hl hm hn
  · by_cases q : c = b
    · subst q; rw [upd_same] at z ⊢; exact z
    · rw [upd_ne q] at z ⊢; exact e.le _ _ z
  · by_cases q : c = b
    · subst q; exact ⟨_, upd_same⟩
    · exact ⟨o, by rw [upd_ne q]; exact z⟩
end
end PD
namespace L2
open PySem PySem.Spec PyProof.Rows PySem.W
section
variable {X : Cx} {k : Nat} {ps : List Str} {sp : Sp} {x : Str} {p cpos pos : Pos} {e : Expr} {es : List Expr} {ta : TA} {te : TE}
end
section
variable {X : Cx} {k : Nat} {y n : Str} {np epos hpos tpos : Pos} {e : Expr} {te : XK → TE} {C D : Addr} {i : Nat} {b0 : Stmt} {suite : List Stmt} {th : TS}
end
end L2
namespace L2
open PySem PySem.Spec PyProof.Rows PySem.W
section
variable {X : Cx} {k k2 : Nat} {ps : List Str} {sp sp2 : Sp} {x : Str} {p cpos pos : Pos} {e : Expr} {es : List Expr} {ta : TA}
end
end L2
namespace L2
open PySem PySem.Spec PyProof.Rows PySem.W
section
variable {X : Cx} {K : PySem.W.Frag}
end
end L2
namespace PD
open PySem L2
section
variable {K : PySem.W.Frag} {S S' : Sx} {κ κ' : Bool} {Γ Γ' Γ'' : Ctx} {P : Post} {E : XK} {C : Addr}
end
end PD
namespace L2
open PySem PySem.Spec PyProof.Rows PySem.W
abbrev knw (o : Obj) : HO := .frz o (.ext fun _ => True)
def CelAt (H : Hp) (c : Addr) (v : V) : Prop := ∃ o u, H c = some (knw o) ∧ o.data = .cell (some u) ∧ RelV v u
structure LamScope (x : Str) (ys : List Str) (sc : Scope) : Prop where
  kind : sc.kind = .function
  co : sc.isCoroutine = false
  gen : sc.isGenerator = false
  nd : (x :: ys).Nodup
  par : sc.names.lookup x = some .local
  nocell : ∀ y ∈ sc.names, y.2 ≠ .cell
  fre : ∀ y, sc.names.lookup y = some .free → y ∈ ys
  isf : ∀ y ∈ ys, sc.names.lookup y = some .free
structure ClosOk (H : Hp) (ys : List Str) (va : Str → V) (cl : List (Str × Addr)) : Prop where
  has : ∀ y ∈ ys, ∃ c, cl.lookup y = some c
  cel : ∀ y c, cl.lookup y = some c → y ∈ ys ∧ CelAt H c (va y)
  inj : ∀ y z c, cl.lookup y = some c → cl.lookup z = some c → y = z
section
variable {P : Program} {w : World} {K : PySem.W.Frag} {mg : Str → Option Value} {base : Heap} {x : Str} {ys : List Str} {va : Str → V} {qual : Str} {scope : Scope} {f : Addr} {cd : Value} {cl : List (Str × Addr)} {A : Around} {outer : List Env} {s : Shared} {H : Hp}
end
end L2
namespace L2
open PySem PySem.Spec PyProof.Rows PySem.W
section
variable {X : Cx} {pins : List (Addr × Obj)} {σ : St} {H : Hp} {s : Shared}
theorem Inv.tb (I : Inv X pins σ H s) : TbOk X.K H := I.ok.tb.un I.base
end
end L2
namespace L2
open PySem PySem.Spec PyProof.Rows PySem.W
section
variable {X : Cx} {k : Nat} {ps : List Str} {sp : Sp} {g : Str} {p cpos lpos : Pos} {e : Expr} {te : TE} {params : Arguments} {body : Expr} {lsc : Scope} {q : Str} {c P : Addr} {clos : List (Str × Addr)} {caps : List (Str × Nat)}
end
end L2
namespace L2
open PySem PySem.Spec PyProof.Rows PySem.W
section
variable {X : Cx} {k : Nat} {ps : List Str} {sp : Sp} {x : Str} {p pos : Pos} {e : Expr} {es : List Expr} {t : TA}
end
end L2
namespace PD
open PySem L2 PySem.W
section
variable {P : Program} {w : World} {K : PySem.W.Frag} {mg : Str → Option Value} {base : Heap} {S S' : Sx} {κ κ' : Bool} {Γ Γ' Γ'' : Ctx}
def LamD (P : Program) (w : World) (K : PySem.W.Frag) (mg : Str → Option Value) (base : Heap) (kk : Nat) (p1 : PyData → PyData → Prop) (F : Hp) (a : Addr) : Prop := ∃ fd x spl nm q params body lsc cl pm c' ctv, FnOk P w K mg base CX0 kk a fd [x] spl ∧ Binds K fd [x] [] ∧ F a = some (knw (kla_obj nm q params body lsc cl pm c' ctv)) ∧
  ∀ (H' F' : Hp) (v : V) (d r : PyData) (Q : VK), Same F F' → Same F' H' → Dp K F' v d → p1 d r → (∀ v' H'' F'', Gr H' F' H'' F'' → Rp K false .fresh H' F'' v' r → Q v' H'') → spl [v] H' Q E0
end
end PD
namespace L2
open PySem PySem.Spec PyProof.Rows PySem.W
def lamIn (K : Frag) (f : Addr) (x : Str) : Bool := match K.lookup f with
  | some ⟨_, _, .func fd, _⟩ => (match fd.code with
    | .ref c => (match (K.lookup c).bind tabAt with
      | some (P, q) => codeHdIn K c P && decide (q = x ++ ".<locals>.<lambda>")
      | none => false)
    | _ => false)
  | _ => false
section
variable {P : Program} {w : World} {K : PySem.W.Frag} {mg : Str → Option Value} {base : Heap}
end
end L2
namespace Cm
open PySem L2
structure AtL (K : PySem.W.Frag) (x : Str) (st : Stmt) (f : Addr) (fd : FuncData) : Prop where
  a : PySem.W.nsIn K mainGlobals x = some (some (.ref f))
  F : Fun K x x st f fd
  L : lamIn K f x = true
end Cm
namespace L2
open PySem
theorem tabs_no {K : PySem.W.Frag} {h : Heap} (e : (tabsOf K).isEmpty = true) : ∀ p ∈ tabsOf K, h.get? p.1 = some (PySem.W.tabObj #[]) := fun p hp => by
  rw [List.isEmpty_iff.mp e] at hp
  cases hp
end L2
namespace L2
open PySem
end L2
namespace PD
open PySem L2
end PD
namespace L2
open PySem PySem.Spec PyProof.Rows PySem.AutoSeq1
section
variable {X : Cx} {K : PySem.W.Frag}
end
end L2
namespace PD
open PySem L2
section
variable {K : PySem.W.Frag} {S S' : Sx} {κ κ' : Bool} {Γ Γ' Γ'' : Ctx} {P : Post}
end
end PD
namespace L2
open PySem PySem.Spec PyProof.Rows
section
variable {X : Cx} {K : PySem.W.Frag}
end
end L2
namespace PD
open PySem L2
section
variable {K : PySem.W.Frag} {S S' : Sx} {κ κ' : Bool} {Γ Γ' Γ'' : Ctx} {P : Post} {E : XK}
end
end PD
namespace PD
open PySem L2
section
variable {K : PySem.W.Frag} {S S' : Sx} {κ κ' : Bool} {Γ Γ' Γ'' : Ctx} {P : Post} {E : XK}
theorem evog_thaw (i : Nat) {κ0 : Bool} {t : TE} {G : List PyData → Prop} {ds0 : List PyData} {Γf : Ctx} (h : GetC Γ i (.ow κ0 ds0)) (es : SetC Γ i (some (.fz κ0 (.list ds0))) Γf) (k : EvOG K S κ t Γf G) (him : ∀ ds, G ds → ∀ d ∈ ds, imm d = true) : EvOG K S κ t Γ G := fun H0 F0 H F σ e Q q => by
  obtain ⟨a, Ff, e', g⟩ := thaw e h es
  refine k H0 F0 H Ff σ e' Q fun ds b vs H' F' hd g' n p f q' => q ds b vs H' _ hd (g H' F' g') n p ?_ (imm_drop (him ds hd) (rpAll_dp q'))
  cases z : drop (fun c => c = a) F' b with
  | none => rfl
  | some o => rw [(drop_some.mp z).1] at f; cases f
def Rows (xs : List PyData) : Prop := ∀ d ∈ xs, ∃ ns : List Int, d = .list (ns.map .int)
theorem exog1 {te : TE} {i : Nat} {G : List PyData → Prop} {Γ' : List PyData → Ctx} (κ : Bool) (h : EvOG K S κ te Γ G) (es : ∀ ds, SetC Γ i (some (.ow κ ds)) (Γ' ds)) (k : ∀ ds, G ds → P.nx (Γ' ds)) : ExS K S (tAsg te (gName i)) Γ P := fun H0 F0 H F σ B e b _ D I => h H0 F0 H F σ e _ fun ds a vs H' F' hd g n p f q => I.nx _ _ H' F' (k ds hd) (b.trans g.f) (by
    rw [← (es ds).eq]
    exact (e.mono g).set (x := .ow κ ds) ⟨a, vs, rfl, ⟨p, f, e.gr.h.free n, e.out n⟩, q⟩ fun c oc j y w hj z hw o => by
      cases (show V.ref a = .ref c from oc)
      obtain ⟨v, q1, q2⟩ := e.has j y z
      rw [hw] at q1
      cases q1
      obtain ⟨us, w1⟩ := q2.owns (o.back q2 fun _ _ z => g.h _ _ z.h)
      have := w1.h
      rw [n] at this; cases this)
end
end PD
namespace L2
open PySem PySem.Spec PyProof.Rows
section
variable {X : Cx} {K : PySem.W.Frag}
end
end L2
namespace PD
open PySem L2
section
variable {K : PySem.W.Frag} {S S' : Sx} {κ κ' : Bool} {Γ Γ' Γ'' : Ctx} {P : Post}
end
end PD
namespace L2
open PySem PySem.Spec PyProof.Rows PySem.Calls
section
variable {κ : Type} [DecidableEq κ]
def valV (kvs : List (κ × V)) (k : κ) : Option V := (kvs.find? fun kv => decide (kv.1 = k)).map (·.2)
def putK (kvs : List (κ × V)) (k : κ) (v : V) : List (κ × V) :=
  if (kvs.any fun kv => decide (kv.1 = k)) = true then kvs.map (fun kv => if kv.1 = k then (kv.1, v) else kv) else kvs ++ [(k, v)]
def dropK (kvs : List (κ × V)) (k : κ) : List (κ × V) := kvs.filter fun kv => decide (kv.1 ≠ k)
theorem valV_pos {p : κ × V} {r : List (κ × V)} {k : κ} (e : p.1 = k) : valV (p :: r) k = some p.2 := by simp [valV, List.find?_cons, e]
theorem valV_neg {p : κ × V} {r : List (κ × V)} {k : κ} (e : ¬ p.1 = k) : valV (p :: r) k = valV r k := by simp [valV, List.find?_cons, e]
theorem valV_any (k : κ) : ∀ kvs : List (κ × V), (kvs.any fun kv => decide (kv.1 = k)) = (valV kvs k).isSome
  | [] => rfl
  | p :: r => by
    rw [List.any_cons]
    by_cases e : p.1 = k
    · simp only [valV_pos e, decide_eq_true e, Bool.true_or, Option.isSome_some]
    · rw [valV_neg e, decide_eq_false e, Bool.false_or]; exact valV_any k r
theorem RelO.isSome_eq {o : Option V} {u : Option Value} (r : RelO o u) : o.isSome = u.isSome := by
  cases o with
  | none => cases u with
    | none => rfl
    | some _ => exact (show False from r).elim
  | some _ => cases u with
    | none => exact (show False from r).elim
    | some _ => rfl
theorem RelO.getD {o : Option V} {u : Option Value} {d : V} {d' : Value} (r : RelO o u) (rd : RelV d d') : RelV (o.getD d) (u.getD d') := by
  cases o with
  | none => cases u with
    | none => exact rd
    | some _ => exact (show False from r).elim
  | some _ => cases u with
    | none => exact (show False from r).elim
    | some _ => exact r
theorem KV.val {kvs : List (κ × V)} {vs : List (κ × Value)} (r : KV kvs vs) (k : κ) : RelO (valV kvs k) (valueAt vs k) := by
  unfold KV at r
  induction r with
  | nil => exact True.intro
  | @cons p q ps qs h t ih =>
    obtain ⟨h1, h2⟩ := h
    by_cases e : p.1 = k
    · have e' : q.1 = k := h1.symm.trans e
      have b : valueAt (q :: qs) k = some q.2 := by simp [valueAt, List.find?_cons, e']
      rw [valV_pos e, b]; exact h2
    · have e' : ¬ q.1 = k := fun z => e (h1.trans z)
      have b : valueAt (q :: qs) k = valueAt qs k := by simp [valueAt, List.find?_cons, e']
      rw [valV_neg e, b]; exact ih
theorem KV.any {kvs : List (κ × V)} {vs : List (κ × Value)} (r : KV kvs vs) (k : κ) : (kvs.any fun kv => decide (kv.1 = k)) = vs.any fun kv => decide (kv.1 = k) := by
  unfold KV at r
  induction r with
  | nil => rfl
  | cons h t ih => rw [List.any_cons, List.any_cons, ih, h.1]
theorem KV.repl {kvs : List (κ × V)} {vs : List (κ × Value)} (r : KV kvs vs) (k : κ) {y : V} {u : Value} (ry : RelV y u) :
    KV (kvs.map fun kv => if kv.1 = k then (kv.1, y) else kv) (vs.map fun kv => if kv.1 = k then (kv.1, u) else kv) := by
  unfold KV at r ⊢
  induction r with
  | nil => exact .nil
  | @cons p q ps qs h t ih =>
    rw [List.map_cons, List.map_cons]
    refine .cons ?_ ih
    obtain ⟨h1, h2⟩ := h
    by_cases e : p.1 = k
    · rw [if_pos e, if_pos (h1.symm.trans e)]; exact ⟨h1, ry⟩
    · rw [if_neg e, if_neg (fun z => e (h1.trans z))]; exact ⟨h1, h2⟩
theorem KV.put {kvs : List (κ × V)} {vs : List (κ × Value)} (r : KV kvs vs) (k : κ) {y : V} {u : Value} (ry : RelV y u) : KV (putK kvs k y) (stored vs k u) := by
  unfold putK stored
  rw [r.any k]
  by_cases e : (vs.any fun kv => decide (kv.1 = k)) = true
  · rw [if_pos e, if_pos e]; exact r.repl k ry
  · rw [if_neg e, if_neg e]; exact Paired.snoc r ⟨rfl, ry⟩
theorem KV.drop {kvs : List (κ × V)} {vs : List (κ × Value)} (r : KV kvs vs) (k : κ) : KV (dropK kvs k) (without vs k) := by
  unfold KV at r ⊢
  unfold dropK without
  induction r with
  | nil => exact .nil
  | @cons p q ps qs h t ih =>
    obtain ⟨h1, h2⟩ := h
    rw [List.filter_cons, List.filter_cons]
    by_cases e : p.1 = k
    · have a : ¬ decide (p.1 ≠ k) = true := by simp [e]
      have b : ¬ decide (q.1 ≠ k) = true := by simp [h1.symm.trans e]
      rw [if_neg a, if_neg b]; exact ih
    · have e' : ¬ q.1 = k := fun z => e (h1.trans z)
      have a : decide (p.1 ≠ k) = true := by simp [e]
      have b : decide (q.1 ≠ k) = true := by simp [e']
      rw [if_pos a, if_pos b]; exact .cons ⟨h1, h2⟩ ih
theorem KV.length {kvs : List (κ × V)} {vs : List (κ × Value)} (r : KV kvs vs) : kvs.length = vs.length := Paired.length r
end
abbrev KT (H : Hp) : List (List Key × V) → List (List Key × Addr × Value) → Prop := Paired fun p q => p.1 = q.1 ∧ TupAt H q.2.1 (p.1.map kV) ∧ RelV p.2 q.2.2
theorem KT.val {H : Hp} {kvs : List (List Key × V)} {xs : List (List Key × Addr × Value)} (r : KT H kvs xs) (k : List Key) : RelO (valV kvs k) ((atKey xs k).map (·.2)) := by
  induction r with
  | nil => exact True.intro
  | @cons p q ps qs h t ih =>
    obtain ⟨h1, _, h2⟩ := h
    by_cases e : p.1 = k
    · have e' : q.1 = k := h1.symm.trans e
      have b : atKey (q :: qs) k = some q.2 := by simp [atKey, List.find?_cons, e']
      rw [valV_pos e, b]; exact h2
    · have e' : ¬ q.1 = k := fun z => e (h1.trans z)
      have b : atKey (q :: qs) k = atKey qs k := by simp [atKey, List.find?_cons, e']
      rw [valV_neg e, b]; exact ih
theorem KT.repl {H : Hp} {kvs : List (List Key × V)} {xs : List (List Key × Addr × Value)} (r : KT H kvs xs) (k : List Key) {y : V} {u : Value} (ry : RelV y u) :
    KT H (kvs.map fun kv => if kv.1 = k then (kv.1, y) else kv) (xs.map (putAt k u)) := by
  induction r with
  | nil => exact .nil
  | @cons p q ps qs h t ih =>
    rw [List.map_cons, List.map_cons]
    refine .cons ?_ ih
    obtain ⟨h1, h2, h3⟩ := h
    unfold putAt
    by_cases e : p.1 = k
    · rw [if_pos e, if_pos (h1.symm.trans e)]; exact ⟨h1, h2, ry⟩
    · rw [if_neg e, if_neg (fun z => e (h1.trans z))]; exact ⟨h1, h2, h3⟩
theorem KT.put {H : Hp} {kvs : List (List Key × V)} {xs : List (List Key × Addr × Value)} (r : KT H kvs xs) (k : List Key) {b : Addr} {y : V} {u : Value} (hb : TupAt H b (k.map kV)) (ry : RelV y u) :
    KT H (putK kvs k y) (storedH xs k b u) := by
  have e : (kvs.any fun kv => decide (kv.1 = k)) = (atKey xs k).isSome := by
    rw [valV_any, (r.val k).isSome_eq, Option.isSome_map]
  unfold putK storedH
  rw [e]
  by_cases q : (atKey xs k).isSome = true
  · rw [if_pos q, if_pos q]; exact r.repl k ry
  · rw [if_neg q, if_neg q]; exact Paired.snoc r ⟨rfl, hb, ry⟩
theorem KT.keeps {H H' : Hp} {kvs : List (List Key × V)} {xs : List (List Key × Addr × Value)} (r : KT H kvs xs) (ht : ∀ b ys, TupAt H b ys → TupAt H' b ys) : KT H' kvs xs :=
  Paired.mapP r fun _ _ z => ⟨z.1, ht _ _ z.2.1, z.2.2⟩
section
variable {P : Program} {w : World} {H : Hp} {h : Heap} {a : Addr}
theorem TupAt.rd {ys : List V} (e : TupAt H a ys) : Rd H a (.tup ys) := e.imp id fun ⟨o, _, q⟩ => ⟨o, q⟩
end
def DGet (H : Hp) (a : Addr) (y : V) (r : Option V) : Prop :=
  (∃ kvs k, Rd H a (.dK kvs) ∧ y = kV k ∧ r = valV kvs k) ∨ ∃ kvs k b, Rd H a (.dT kvs) ∧ y = .ref b ∧ Rd H b (.tup (k.map kV)) ∧ r = valV kvs k
def DPut (H : Hp) (a : Addr) (y v : V) (H' : Hp) : Prop :=
  (∃ kvs k, H a = some (.dK kvs) ∧ y = kV k ∧ kvs.length < sizeLine ∧ H' = upd H a (.dK (putK kvs k v))) ∨
  ∃ kvs k b, H a = some (.dT kvs) ∧ y = .ref b ∧ Rd H b (.tup (k.map kV)) ∧ kvs.length < sizeLine ∧ H' = upd H a (.dT (putK kvs k v))
theorem DGet.k {H : Hp} {a : Addr} {kvs : List (Key × V)} {k : Key} (e : H a = some (.dK kvs)) : DGet H a (kV k) (valV kvs k) := .inl ⟨kvs, k, .inl e, rfl, rfl⟩
theorem DGet.t {H : Hp} {a b : Addr} {kvs : List (List Key × V)} {k : List Key} (e : H a = some (.dT kvs)) (eb : Rd H b (.tup (k.map kV))) : DGet H a (.ref b) (valV kvs k) := .inr ⟨kvs, k, b, .inl e, rfl, eb, rfl⟩
theorem DPut.k {H : Hp} {a : Addr} {kvs : List (Key × V)} {k : Key} {v : V} (e : H a = some (.dK kvs)) (hl : kvs.length < sizeLine) : DPut H a (kV k) v (upd H a (.dK (putK kvs k v))) := .inl ⟨kvs, k, e, rfl, hl, rfl⟩
theorem DPut.t {H : Hp} {a b : Addr} {kvs : List (List Key × V)} {k : List Key} {v : V} (e : H a = some (.dT kvs)) (eb : Rd H b (.tup (k.map kV))) (hl : kvs.length < sizeLine) :
    DPut H a (.ref b) v (upd H a (.dT (putK kvs k v))) := .inr ⟨kvs, k, b, e, rfl, eb, hl, rfl⟩
section
variable {X : Cx} {pins : List (Addr × Obj)} {σ : St} {H : Hp} {s : Shared} {a : Addr} {y v : V} {u r : Value} {o : Option V} {A : Around} {E : Value → Shared → Prop}
theorem Inv.big (I : Inv X pins σ H s) : sysModules < s.heap.objs.size := by
  have h : mainGlobals < s.heap.objs.size := (I.mod.glob.keeps I.bk).lt
  exact Nat.lt_trans (by decide) h
end
section
variable {X : Cx} {pins : List (Addr × Obj)} {σ : St} {H : Hp} {s : Shared} {a : Addr} {kvs : List (Key × V)} {k : Key} {u : Value} {A : Around} {E : Value → Shared → Prop}
end
section
variable {X : Cx} {o i e value : Expr} {pos pos' tpos : Pos} {td ty tv : TE}
end
section
variable {X : Cx} {pos : Pos}
end
structure M1 (X : Cx) (o : Expr) (m : Str) (apos : Pos) (e : Expr) (cpos : Pos) : Prop where
  base : attributeBase o m X.env (eval o X.env) = eval o X.env
  few : ((backTo cpos (starEach [e] X.env)).all (fun x => !x.1) && (backToKw cpos (keywordEach [] X.env)).all (fun x => x.1.isSome)
    && decide (([e] : List Expr).length + ([] : List Keyword).length + (if ([] : List Keyword).isEmpty then 0 else 1) < 30)) = true
  line : (apos.endLine == cpos.line) = true
  trees : backTo cpos (starEach [e] X.env) = [(false, eval e X.env)]
structure M2 (X : Cx) (o : Expr) (m : Str) (apos : Pos) (e f : Expr) (cpos : Pos) : Prop where
  base : attributeBase o m X.env (eval o X.env) = eval o X.env
  few : ((backTo cpos (starEach [e, f] X.env)).all (fun x => !x.1) && (backToKw cpos (keywordEach [] X.env)).all (fun x => x.1.isSome)
    && decide (([e, f] : List Expr).length + ([] : List Keyword).length + (if ([] : List Keyword).isEmpty then 0 else 1) < 30)) = true
  line : (apos.endLine == cpos.line) = true
  trees : backTo cpos (starEach [e, f] X.env) = [(false, eval e X.env), (false, eval f X.env)]
section
variable {X : Cx} {pins : List (Addr × Obj)} {σ : St} {H : Hp} {s : Shared} {a : Addr} {y d : V} {u r : Value} {o : Option V} {A : Around} {E : Value → Shared → Prop}
end
section
variable {X : Cx} {o e f : Expr} {apos cpos : Pos} {td ty tx : TE}
end
section
variable {X : Cx} {pins : List (Addr × Obj)} {σ : St} {H : Hp} {s : Shared} {a : Addr} {kvs : List (Key × V)} {A : Around} {E : Value → Shared → Prop}
end
section
variable {X : Cx} {pins : List (Addr × Obj)} {σ : St} {H : Hp} {s : Shared} {a : Addr} {y : V} {u : Value} {A : Around} {E : Value → Shared → Prop}
end
end L2
namespace PD
open PySem L2
section
variable {K : PySem.W.Frag} {S S' : Sx} {κ κ' : Bool} {Γ Γ' Γ'' : Ctx} {P : Post} {E : XK}
end
end PD
namespace L2
open PySem PySem.Spec PyProof.Rows PySem.W
def clsOf (cells : List (Str × Addr)) : List (Str × NameKind) → List (Str × Addr) → List (Str × Addr)
  | [], acc => acc
  | (n, k) :: r, acc => clsOf cells r (if k == NameKind.free then (n, (cells.lookup n).getD 0) :: acc else acc)
theorem cls_loop {env : Env} : ∀ (l : List (Str × NameKind)) (acc : List (Str × Addr)), (∀ p ∈ l, p.2 = .free → (env.cells.lookup p.1).isSome = true) →
    (forIn l acc fun (p : Str × NameKind) (cs : List (Str × Addr)) => (if (p.2 == NameKind.free) = true then (do let c ← cellOf env p.1; pure (ForInStep.yield ((p.1, c) :: cs))) else pure (ForInStep.yield cs) : Sem (ForInStep (List (Str × Addr))))) = pure (clsOf env.cells l acc)
  | [], acc, _ => by rw [List.forIn_nil]; rfl
  | (n, k) :: r, acc, h => by
    rw [List.forIn_cons]
    have ih := fun acc => cls_loop r acc fun p hp => h p (List.mem_cons_of_mem _ hp)
    by_cases hk : (k == NameKind.free) = true
    · have hk' : k = .free := by simpa using hk
      obtain ⟨c, hc⟩ := Option.isSome_iff_exists.mp (h (n, k) List.mem_cons_self hk')
      have e : cellOf env n = pure c := by unfold cellOf; rw [show env.cells.lookup n = some c from hc]
      simp only [hk, if_true]
      rw [e]
      show ((pure c >>= fun c => pure (ForInStep.yield ((n, c) :: acc)) : Sem _) >>= _) = _
      rw [pure_bind, pure_bind]
      show forIn r ((n, c) :: acc) _ = _
      rw [ih]
      show _ = pure (clsOf env.cells r (if (k == NameKind.free) = true then (n, (env.cells.lookup n).getD 0) :: acc else acc))
      rw [if_pos hk, show env.cells.lookup n = some c from hc]
      rfl
    · show ((if (k == NameKind.free) = true then _ else _) >>= _) = _
      rw [if_neg hk, pure_bind]
      show forIn r acc _ = _
      rw [ih]
      show _ = pure (clsOf env.cells r (if (k == NameKind.free) = true then (n, (env.cells.lookup n).getD 0) :: acc else acc))
      rw [if_neg hk]
theorem cls_clos {scope : Scope} {env : Env} (h : ∀ p ∈ scope.names, p.2 = .free → (env.cells.lookup p.1).isSome = true) : closureFor scope env = pure (clsOf env.cells scope.names []) := by
  unfold closureFor
  show (forIn scope.names [] _ >>= fun cs => pure cs) = _
  rw [bind_pure]
  exact cls_loop scope.names [] h
theorem cls_mem {cells : List (Str × Addr)} : ∀ (l : List (Str × NameKind)) (acc : List (Str × Addr)), (∀ p ∈ l, p.2 = .free → (cells.lookup p.1).isSome = true) → (∀ p ∈ acc, cells.lookup p.1 = some p.2) → ∀ p ∈ clsOf cells l acc, cells.lookup p.1 = some p.2
  | [], _, _, ha => ha
  | (n, k) :: r, acc, h, ha => by
    refine cls_mem r _ (fun p hp => h p (List.mem_cons_of_mem _ hp)) fun p hp => ?_
    by_cases hk : (k == NameKind.free) = true
    · rw [if_pos hk] at hp
      rcases List.mem_cons.mp hp with e | hp
      · obtain ⟨c, hc⟩ := Option.isSome_iff_exists.mp (h (n, k) List.mem_cons_self (by simpa using hk))
        rw [e]
        show cells.lookup n = some ((cells.lookup n).getD 0)
        rw [show cells.lookup n = some c from hc]
        rfl
      · exact ha p hp
    · rw [if_neg hk] at hp
      exact ha p hp
theorem cls_keep {cells : List (Str × Addr)} {y : Str} : ∀ (l : List (Str × NameKind)) (acc : List (Str × Addr)), ((∃ p ∈ l, p.1 = y ∧ p.2 = .free) ∨ (acc.lookup y).isSome = true) → ((clsOf cells l acc).lookup y).isSome = true
  | [], acc, h => by
    rcases h with ⟨p, hp, _⟩ | h
    · cases hp
    · exact h
  | (n, k) :: r, acc, h => by
    have up : ∀ {v : Addr}, (acc.lookup y).isSome = true → (((n, v) :: acc).lookup y).isSome = true := fun {v} z => by
      rw [List.lookup_cons]
      cases hx : y == n with
      | true => rfl
      | false => exact z
    refine cls_keep r _ ?_
    rcases h with ⟨p, hp, e1, e2⟩ | h
    · rcases List.mem_cons.mp hp with e | hp
      · right
        rw [e] at e1 e2
        have e2 : k = .free := e2
        have e1 : n = y := e1
        rw [e2, if_pos (show (NameKind.free == NameKind.free) = true from rfl), e1, List.lookup_cons, beq_self_eq_true]
        rfl
      · exact .inl ⟨p, hp, e1, e2⟩
    · right
      by_cases hk : (k == NameKind.free) = true
      · rw [if_pos hk]; exact up h
      · rw [if_neg hk]; exact h
theorem CompOk.lam {X : Cx} {N : List Str} {scope : Scope} {js : List (Option Nat)} {ys : List Str} (hcl : ∀ y ∈ ys, (X.env.cells.lookup y).isSome = true) (nc : (scope.names.all fun y => y.2 != .cell) = true) (kind : scope.kind = .function)
    (nm : (scope.names.all fun y => y.2 != .local || (scope.names.lookup y.1 == some .local)) = true) (has : (scope.names.all fun y => y.2 != .free || ys.contains y.1) = true)
    (len : js.length = N.length) (cap : ((js.zip N).all fun p => match p.1 with | none => true | some j => (X.N[j]? == some p.2) && (scope.names.lookup p.2 == some .free) && (X.env.scope.names.lookup p.2 == some .cell || X.env.scope.names.lookup p.2 == some .free)) = true) : CompOk X N scope (clsOf X.env.cells scope.names []) js := by
  have hf : ∀ p ∈ scope.names, p.2 = .free → (X.env.cells.lookup p.1).isSome = true := fun p hp e => by
    have q := List.all_eq_true.mp has p hp
    rw [e] at q
    exact hcl _ (by simpa using q)
  refine CompOk.of (cls_clos hf) nc kind nm (cls_mem scope.names [] hf fun _ z => nomatch z) ?_ len cap
  rw [List.all_eq_true]
  intro y hy
  cases e : y.2 with
  | free => rw [cls_keep scope.names [] (.inl ⟨y, hy, rfl, e⟩)]; rfl
  | _ => rfl
end L2
namespace PD
open PySem L2
section
variable {K : PySem.W.Frag} {S S' : Sx} {κ κ' : Bool} {Γ Γ' Γ'' : Ctx} {P : Post} {E : XK}
theorem DEnv.sub {js : List Nat} {Γx : Ctx} {H0 F0 H F : Hp} {σ σ2 : St} (e : DEnv K S H0 F0 H F σ Γ) (hl : σ2.length = σ.length) (hs : ∀ j, j ∉ js → σ2[j]? = σ[j]?) (hx : Γx.length = Γ.length) (hf : ∀ (j : Nat) x, Γx[j]? = some (some x) → j ∉ js ∧ Γ[j]? = some (some x)) : DEnv K S H0 F0 H F σ2 Γx where
  gr := e.gr
  l0 := e.l0
  sd := e.sd
  s0 := e.s0
  len := by rw [hl, hx]; exact e.len
  has := fun j x z => by
    obtain ⟨h1, h2⟩ := hf j x z
    obtain ⟨v, q1, q2⟩ := e.has j x h2
    exact ⟨v, by rw [hs j h1]; exact q1, q2⟩
  ne := fun i j x y v w a g1 g2 g3 g4 o1 o2 => by
    obtain ⟨h1, h2⟩ := hf i x g1
    obtain ⟨h3, h4⟩ := hf j y g2
    rw [hs i h1] at g3
    rw [hs j h3] at g4
    exact e.ne i j x y v w a h2 h4 g3 g4 o1 o2
end
end PD
namespace PD
open PySem L2
section
variable {K : PySem.W.Frag} {S S' : Sx} {κ κ' : Bool} {Γ Γ' Γ'' : Ctx} {P : Post} {E : XK}
end
end PD
namespace PD
open PySem L2
section
variable {K : PySem.W.Frag} {S S' : Sx} {κ κ' : Bool} {Γ Γ' Γ'' : Ctx} {P : Post} {E : XK}
end
end PD
namespace So
open PySem PySem.W PyProof.Rows
section
variable {α β : Type} {lt : Nat → Nat → Bool} {n : Nat} {key : Nat → Int}
def ev (lt : Nat → Nat → Bool) : KasT α → α
  | .ret a => a
  | .ask i j k => ev lt (k (lt i j))
theorem ev_bind (f : α → KasT β) : ∀ t : KasT α, ev lt (t.bind f) = ev lt (f (ev lt t))
  | .ret _ => rfl
  | .ask i j k => ev_bind f (k (lt i j))
def Asks (n : Nat) : KasT α → Prop
  | .ret _ => True
  | .ask i j k => i < n ∧ j < n ∧ ∀ b, Asks n (k b)
theorem asks_bind {f : α → KasT β} : ∀ {t : KasT α}, Asks n t → (∀ a, Asks n (f a)) → Asks n (t.bind f)
  | .ret a, _, h => h a
  | .ask _ _ _, h, g => ⟨h.1, h.2.1, fun b => asks_bind (h.2.2 b) g⟩
theorem wp_of {cmp : Nat → Nat → (Bool → Shared → Prop) → Shared → Prop} {s : Shared} (hc : ∀ i j C, i < n → j < n → C (lt i j) s → cmp i j C s) {Q : α → Shared → Prop} : ∀ (t : KasT α), Asks n t → Q (ev lt t) s → t.kasWp cmp Q s
  | .ret _, _, h => h
  | .ask i j k, a, h => hc i j _ a.1 a.2.1 (wp_of hc (k (lt i j)) (a.2.2 _) h)
abbrev at' (p : Array Nat) (i : Nat) : Nat := p.getD i 0
theorem at_some {p : Array Nat} {i : Nat} (h : i < p.size) : p[i]? = some (at' p i) := by simp [at', h]
theorem at_of {p q : Array Nat} {i j : Nat} (h : p[i]? = q[j]?) : at' p i = at' q j := by
  show p.getD i 0 = q.getD j 0
  rw [Array.getD_eq_getD_getElem?, Array.getD_eq_getD_getElem?, h]
structure PO (n : Nat) (p : Array Nat) : Prop where
  z : p.size = n
  nd : p.toList.Nodup
  lt : ∀ x ∈ p.toList, x < n
theorem PO.perm {p q : Array Nat} (h : PO n p) (e : q.Perm p) : PO n q := ⟨e.size_eq.trans h.z, (Array.perm_iff_toList_perm.mp e).nodup_iff.mpr h.nd, fun x hx => h.lt x ((Array.perm_iff_toList_perm.mp e).mem_iff.mp hx)⟩
theorem PO.at {p : Array Nat} (h : PO n p) (i : Nat) (n0 : 0 < n) : at' p i < n := by
  by_cases c : i < p.size
  · refine h.lt _ (List.mem_of_getElem? (i := i) ?_)
    rw [Array.getElem?_toList]
    exact at_some c
  · show p.getD i 0 < n
    rw [Array.getD_eq_getD_getElem?, Array.getElem?_eq_none (by omega)]
    exact n0
theorem PO.ne {p : Array Nat} (h : PO n p) {i j : Nat} (hi : i < n) (hj : j < n) (hij : i ≠ j) : at' p i ≠ at' p j := fun e => by
  have h1 := at_some (p := p) (i := i) (by rw [h.z]; exact hi)
  have h2 := at_some (p := p) (i := j) (by rw [h.z]; exact hj)
  rw [← e] at h2
  rw [← Array.getElem?_toList] at h1 h2
  obtain ⟨a1, b1⟩ := List.getElem?_eq_some_iff.mp h1
  obtain ⟨a2, b2⟩ := List.getElem?_eq_some_iff.mp h2
  exact hij ((List.getElem_inj h.nd).mp (b1.trans b2.symm))
theorem rev_perm (p : Array Nat) (i j : Nat) : (kas_rev p i j).Perm p := mirror_perm ..
theorem asc_asks {p : Array Nat} (h : PO n p) (n0 : 0 < n) : ∀ f m, Asks n (kas_asc p f m)
  | 0, _ => trivial
  | f + 1, m => ⟨h.at _ n0, h.at _ n0, fun b => by cases b <;> first | exact trivial | exact asc_asks h n0 f (m + 1)⟩
theorem tail_asks {p : Array Nat} (h : PO n p) (n0 : 0 < n) (m r : Nat) : Asks n (kas_tail3 m r p) := asks_bind (asc_asks (h.perm (rev_perm ..)) n0 _ _) fun _ => trivial
theorem desc_asks (n0 : 0 < n) : ∀ (f : Nat) (p : Array Nat) (m q : Nat), PO n p → Asks n (kas_desc f p m q)
  | 0, _, _, _, _ => trivial
  | f + 1, p, m, q, h => ⟨h.at _ n0, h.at _ n0, fun b => by
    cases b with
    | true =>
      show Asks n (if q > 0 then _ else _)
      split
      · exact desc_asks n0 f _ _ _ (h.perm (rev_perm ..))
      · exact desc_asks n0 f _ _ _ h
    | false => exact ⟨h.at _ n0, h.at _ n0, fun d => by cases d <;> first | exact trivial | exact desc_asks n0 f _ _ _ h⟩⟩
def All (φ : α → Prop) : KasT α → Prop
  | .ret a => φ a
  | .ask _ _ k => ∀ b, All φ (k b)
theorem all_bind {φ : α → Prop} {ψ : β → Prop} {f : α → KasT β} : ∀ {t : KasT α}, All φ t → (∀ a, φ a → All ψ (f a)) → All ψ (t.bind f)
  | .ret a, h, g => g a h
  | .ask _ _ _, h, g => fun b => all_bind (h b) g
theorem asks_all {φ : α → Prop} {f : α → KasT β} : ∀ {t : KasT α}, Asks n t → All φ t → (∀ a, φ a → Asks n (f a)) → Asks n (t.bind f)
  | .ret a, _, h, g => g a h
  | .ask _ _ _, h, k, g => ⟨h.1, h.2.1, fun b => asks_all (h.2.2 b) (k b) g⟩
theorem desc_all : ∀ (f : Nat) (p : Array Nat) (m q : Nat), PO n p → All (fun r : Array Nat × Nat × Nat => PO n r.1) (kas_desc f p m q)
  | 0, _, _, _, h => h
  | f + 1, p, m, q, h => fun b => by
    cases b with
    | true =>
      show All _ (if q > 0 then _ else _)
      split
      · exact desc_all f _ _ _ (h.perm (rev_perm ..))
      · exact desc_all f _ _ _ h
    | false => exact fun d => by cases d <;> first | exact h | exact desc_all f _ _ _ h
theorem all_true {φ : α → Prop} (h : ∀ a, φ a) : ∀ t : KasT α, All φ t
  | .ret a => h a
  | .ask _ _ k => fun b => all_true h (k b)
theorem tail_all {p : Array Nat} (h : PO n p) (m r : Nat) : All (fun r : Nat × Array Nat => PO n r.2) (kas_tail3 m r p) := all_bind (all_true (φ := fun _ => True) (fun _ => trivial) _) fun _ _ => h.perm (rev_perm ..)
theorem part_asks {p : Array Nat} (h : PO n p) (n0 : 0 < n) (m r : Nat) : Asks n (kas_descPart m r p) ∧ All (fun r : Nat × Array Nat => PO n r.2) (kas_descPart m r p) := by
  refine ⟨asks_all (desc_asks n0 _ _ _ _ h) (desc_all _ _ _ _ h) fun a ha => ?_, all_bind (desc_all _ _ _ _ h) fun a ha => ?_⟩
  · split
    · exact tail_asks (ha.perm (rev_perm ..)) n0 _ _
    · exact tail_asks ha n0 _ _
  · split
    · exact tail_all (ha.perm (rev_perm ..)) _ _
    · exact tail_all ha _ _
theorem count_asks {p : Array Nat} (h : PO n p) (n0 : 0 < n) (r : Nat) : Asks n (kas_count r p) ∧ All (fun r : Nat × Array Nat => PO n r.2) (kas_count r p) := by
  refine ⟨asks_bind (asc_asks h n0 _ _) fun a => ?_, all_bind (all_true (φ := fun _ => True) (fun _ => trivial) _) fun a _ => ?_⟩
  · split
    · exact trivial
    · split
      · exact ⟨h.at _ n0, h.at _ n0, fun b => by cases b <;> first | exact trivial | exact (part_asks (h.perm (rev_perm ..)) n0 _ _).1⟩
      · exact (part_asks h n0 _ _).1
  · split
    · exact h
    · split
      · exact fun b => by cases b <;> first | exact h | exact (part_asks (h.perm (rev_perm ..)) n0 _ _).2
      · exact (part_asks h n0 _ _).2
theorem place_asks {p : Array Nat} (h : PO n p) (n0 : 0 < n) (k : Nat) : ∀ f l r, Asks n (kas_place p k f l r)
  | 0, _, _ => trivial
  | f + 1, l, r => by
    show Asks n (if l ≥ r then _ else _)
    split
    · exact trivial
    · exact ⟨h.at _ n0, h.at _ n0, fun b => by cases b <;> first | exact place_asks h n0 k f _ _⟩
theorem bin_asks (n0 : 0 < n) : ∀ (f : Nat) (p : Array Nat) (k : Nat), PO n p → Asks n (kas_bin f p k)
  | 0, _, _, _ => trivial
  | f + 1, p, k, h => asks_bind (place_asks h n0 k _ _ _) fun l => bin_asks n0 f _ _ (h.perm (bubble_perm ..))
theorem range_po (n : Nat) : PO n (List.toArray (List.range n)) := ⟨by simp, List.nodup_range, fun x hx => List.mem_range.mp hx⟩
theorem sort_asks (n0 : 0 < n) : Asks n (kas_sort n) := asks_all (count_asks (range_po n) n0 n).1 (count_asks (range_po n) n0 n).2 fun a ha => by
  split
  · exact bin_asks n0 _ _ _ ha
  · exact trivial
end
section
variable {n : Nat} {key : Nat → Int}
def ltK (key : Nat → Int) (i j : Nat) : Bool := decide (key i < key j)
theorem lt_yes {a b : Nat} (h : key a < key b) : ltK key a b = true := decide_eq_true h
theorem lt_no {a b : Nat} (h : ¬ key a < key b) : ¬ ltK key a b = true := by unfold ltK; rw [decide_eq_false h]; simp
structure Inj (n : Nat) (key : Nat → Int) : Prop where
  i : ∀ i j, i < n → j < n → key i = key j → i = j
def Up (key : Nat → Int) (p : Array Nat) (k : Nat) : Prop := ∀ i j, i < j → j < k → key (at' p i) < key (at' p j)
def Dn (key : Nat → Int) (p : Array Nat) (k : Nat) : Prop := ∀ i j, i < j → j < k → key (at' p j) < key (at' p i)
theorem PO.kne {p : Array Nat} (h : PO n p) (hi : Inj n key) {i j : Nat} (h1 : i < n) (h2 : j < n) (h3 : i ≠ j) : key (at' p i) ≠ key (at' p j) := fun e => h.ne h1 h2 h3 (hi.i _ _ (h.at _ (by omega)) (h.at _ (by omega)) e)
theorem asc_up {p : Array Nat} (h : PO n p) (hi : Inj n key) : ∀ f m, 1 ≤ m → m + f ≤ n → Up key p m → m ≤ ev (ltK key) (kas_asc p f m) ∧ ev (ltK key) (kas_asc p f m) ≤ m + f ∧ Up key p (ev (ltK key) (kas_asc p f m)) ∧ (ev (ltK key) (kas_asc p f m) < m + f → key (at' p (ev (ltK key) (kas_asc p f m))) < key (at' p (ev (ltK key) (kas_asc p f m) - 1)))
  | 0, m, _, _, u => ⟨Nat.le_refl _, Nat.le_refl _, u, fun z => absurd z (Nat.lt_irrefl _)⟩
  | f + 1, m, m1, ml, u => by
    have e : ev (ltK key) (kas_asc p (f + 1) m) = ev (ltK key) (if ltK key (at' p m) (at' p (m - 1)) = true then .ret m else kas_asc p f (m + 1)) := rfl
    rw [e]
    by_cases c : key (at' p m) < key (at' p (m - 1))
    · rw [if_pos (lt_yes c)]
      exact ⟨Nat.le_refl _, by show m ≤ _; omega, u, fun _ => c⟩
    · rw [if_neg (lt_no c)]
      have ne := h.kne hi (i := m - 1) (j := m) (by omega) (by omega) (by omega)
      have ih := asc_up h hi f (m + 1) (by omega) (by omega) fun i j ij jm => by
        by_cases y : j = m
        · subst y
          by_cases x : i = j - 1
          · subst x; omega
          · have := u i (j - 1) (by omega) (by omega)
            omega
        · exact u i j ij (by omega)
      refine ⟨by omega, by omega, ih.2.2.1, fun z => ih.2.2.2 (by omega)⟩
theorem desc_dn {p : Array Nat} (h : PO n p) (hi : Inj n key) : ∀ f m, 1 ≤ m → m + f ≤ n → Dn key p m → ∃ r, ev (ltK key) (kas_desc f p m 0) = (p, r, 0) ∧ m ≤ r ∧ r ≤ m + f ∧ Dn key p r
  | 0, m, _, _, u => ⟨m, rfl, Nat.le_refl _, Nat.le_refl _, u⟩
  | f + 1, m, m1, ml, u => by
    have e : ev (ltK key) (kas_desc (f + 1) p m 0) = ev (ltK key) (if ltK key (at' p m) (at' p (m - 1)) = true then kas_desc f p (m + 1) 0 else .ask (at' p (m - 1)) (at' p m) fun d => if d = true then .ret (p, m, 0) else kas_desc f p (m + 1) (0 + 1)) := rfl
    rw [e]
    have ne := h.kne hi (i := m - 1) (j := m) (by omega) (by omega) (by omega)
    by_cases c : key (at' p m) < key (at' p (m - 1))
    · rw [if_pos (lt_yes c)]
      obtain ⟨r, h1, h2, h3, h4⟩ := desc_dn h hi f (m + 1) (by omega) (by omega) fun i j ij jm => by
        by_cases y : j = m
        · subst y
          by_cases x : i = j - 1
          · subst x; omega
          · have := u i (j - 1) (by omega) (by omega)
            omega
        · exact u i j ij (by omega)
      exact ⟨r, h1, by omega, by omega, h4⟩
    · rw [if_neg (lt_no c)]
      refine ⟨m, ?_, Nat.le_refl _, by omega, u⟩
      show ev (ltK key) (if ltK key (at' p (m - 1)) (at' p m) = true then .ret (p, m, 0) else _) = _
      rw [if_pos (lt_yes (by omega))]
      rfl
theorem rev_at {p : Array Nat} {m k : Nat} (hm : m ≤ p.size) (hk : k < m) : at' (kas_rev p 0 m) k = at' p (m - 1 - k) := by
  refine at_of ?_
  show (mirror p 0 m ((m - 0) / 2))[k]? = _
  rw [getElem?_mirror_all hm, if_pos ⟨Nat.zero_le _, hk⟩, Nat.zero_add]
theorem rev_up {p : Array Nat} {m : Nat} (hm : m ≤ p.size) (u : Dn key p m) : Up key (kas_rev p 0 m) m := fun i j ij jm => by
  rw [rev_at hm (by omega), rev_at hm jm]
  exact u _ _ (by omega) (by omega)
structure CR (n : Nat) (key : Nat → Int) (r : Nat × Array Nat) : Prop where
  p : PO n r.2
  u : Up key r.2 r.1
  l : r.1 ≤ n
  o : 1 ≤ r.1
theorem tail_up {p : Array Nat} (h : PO n p) (hi : Inj n key) {m : Nat} (m1 : 1 ≤ m) (ml : m ≤ n) (u : Dn key p m) : CR n key (ev (ltK key) (kas_tail3 m n p)) := by
  have hr := h.perm (rev_perm p 0 m)
  have a := asc_up hr hi (n - m) m m1 (by omega) (rev_up (by rw [h.z]; exact ml) u)
  unfold kas_tail3
  rw [ev_bind]
  exact ⟨hr, a.2.2.1, by have := a.2.1; show ev _ _ ≤ n; omega, by show 1 ≤ ev _ _; omega⟩
theorem count_up {p : Array Nat} (h : PO n p) (hi : Inj n key) (n1 : 1 ≤ n) : CR n key (ev (ltK key) (kas_count n p)) := by
  have a := asc_up h hi (n - 1) 1 (Nat.le_refl _) (by omega) (fun i j ij jm => absurd jm (by omega))
  unfold kas_count
  rw [ev_bind]
  generalize ev (ltK key) (kas_asc p (n - 1) 1) = m at a
  by_cases c : m = n
  · rw [if_pos (by simp [c])]
    exact ⟨h, a.2.2.1, by show m ≤ n; omega, a.1⟩
  · rw [if_neg (by simpa using c)]
    by_cases d : m > 1
    · rw [if_pos d]
      have : key (at' p 0) < key (at' p (m - 1)) := a.2.2.1 0 (m - 1) (by omega) (by omega)
      show CR n key (ev (ltK key) (if ltK key (at' p 0) (at' p (m - 1)) = true then .ret (m, p) else _))
      rw [if_pos (lt_yes this)]
      exact ⟨h, a.2.2.1, by show m ≤ n; omega, a.1⟩
    · rw [if_neg d]
      obtain rfl : m = 1 := by omega
      have lt1 := a.2.2.2 (by omega)
      unfold kas_descPart
      rw [ev_bind]
      obtain ⟨r, h1, h2, h3, h4⟩ := desc_dn h hi (n - (1 + 1)) (1 + 1) (by omega) (by omega) fun i j ij jm => by
        obtain rfl : j = 1 := by omega
        obtain rfl : i = 0 := by omega
        exact lt1
      rw [h1]
      show CR n key (ev (ltK key) (if 0 > 0 then _ else kas_tail3 r n p))
      rw [if_neg (Nat.lt_irrefl 0)]
      exact tail_up h hi (by omega) (by omega) h4
structure PL (key : Nat → Int) (p : Array Nat) (k l : Nat) : Prop where
  c : l ≤ k
  a : ∀ i, i < l → key (at' p i) < key (at' p k)
  b : ∀ i, l ≤ i → i < k → key (at' p k) < key (at' p i)
theorem place_ok {p : Array Nat} (h : PO n p) (hi : Inj n key) {k : Nat} (kn : k < n) (u : Up key p k) : ∀ f l r, r - l ≤ f → l ≤ r → r ≤ k → (∀ i, i < l → key (at' p i) < key (at' p k)) → (∀ i, r ≤ i → i < k → key (at' p k) < key (at' p i)) → PL key p k (ev (ltK key) (kas_place p k f l r))
  | 0, l, r, hf, lr, rk, ha, hb => ⟨by show l ≤ k; omega, ha, fun i (h1 : l ≤ i) h2 => hb i (by omega) h2⟩
  | f + 1, l, r, hf, lr, rk, ha, hb => by
    show PL key p k (ev (ltK key) (if l ≥ r then _ else _))
    by_cases c : l ≥ r
    · rw [if_pos c]
      exact ⟨by show l ≤ k; omega, ha, fun i (h1 : l ≤ i) h2 => hb i (by omega) h2⟩
    · rw [if_neg c]
      show PL key p k (ev (ltK key) (if ltK key (at' p k) (at' p ((l + r) / 2)) = true then _ else _))
      have ne := h.kne hi (i := k) (j := (l + r) / 2) (by omega) (by omega) (by omega)
      by_cases d : key (at' p k) < key (at' p ((l + r) / 2))
      · rw [if_pos (lt_yes d)]
        refine place_ok h hi kn u f l _ (by omega) (by omega) (by omega) ha fun i h1 h2 => ?_
        by_cases y : i = (l + r) / 2
        · rw [y]; exact d
        · have := u ((l + r) / 2) i (by omega) h2
          omega
      · rw [if_neg (lt_no d)]
        refine place_ok h hi kn u f _ r (by omega) (by omega) rk (fun i h1 => ?_) hb
        by_cases y : i = (l + r) / 2
        · rw [y]; omega
        · have := u i ((l + r) / 2) (by omega) (by omega)
          omega
theorem bub_at {p : Array Nat} {k l : Nat} (hk : k < p.size) (hl : l ≤ k) (j : Nat) : at' (bubble p k (k - l)) j = if j = l then at' p k else if l < j ∧ j ≤ k then at' p (j - 1) else at' p j := by
  have := getElem?_bubble hk (k - l) (by omega) j
  rw [show k - (k - l) = l by omega] at this
  by_cases c : j = l
  · rw [if_pos c] at this ⊢
    exact at_of this
  · rw [if_neg c] at this ⊢
    by_cases d : l < j ∧ j ≤ k
    · rw [if_pos d] at this ⊢
      exact at_of this
    · rw [if_neg d] at this ⊢
      exact at_of this
theorem bub_up {p : Array Nat} {k l : Nat} (hk : k < p.size) (u : Up key p k) (h : PL key p k l) : Up key (bubble p k (k - l)) (k + 1) := fun i j ij jk => by
  have hl := h.c
  rw [bub_at hk hl i, bub_at hk hl j]
  by_cases c : i = l
  · rw [if_pos c, if_neg (by omega), if_pos (by omega)]
    exact h.b _ (by omega) (by omega)
  · rw [if_neg c]
    by_cases d : l < i ∧ i ≤ k
    · rw [if_pos d, if_neg (by omega), if_pos (by omega)]
      exact u _ _ (by omega) (by omega)
    · rw [if_neg d]
      by_cases e : j = l
      · rw [if_pos e]
        exact h.a i (by omega)
      · rw [if_neg e]
        by_cases f : l < j ∧ j ≤ k
        · rw [if_pos f]
          by_cases g : j - 1 = i
          · omega
          · exact u _ _ (by omega) (by omega)
        · rw [if_neg f]
          exact u _ _ ij (by omega)
theorem bin_up (hi : Inj n key) : ∀ (f : Nat) (p : Array Nat) (k : Nat), PO n p → k + f ≤ n → Up key p k → PO n (ev (ltK key) (kas_bin f p k)) ∧ Up key (ev (ltK key) (kas_bin f p k)) (k + f)
  | 0, _, _, h, _, u => ⟨h, u⟩
  | f + 1, p, k, h, hk, u => by
    have pl := place_ok h hi (k := k) (by omega) u k 0 k (by omega) (Nat.zero_le _) (Nat.le_refl _) (fun i z => absurd z (Nat.not_lt_zero i)) fun i h1 h2 => absurd h2 (by omega)
    have e : ev (ltK key) (kas_bin (f + 1) p k) = ev (ltK key) (kas_bin f (bubble p k (k - ev (ltK key) (kas_place p k k 0 k))) (k + 1)) := ev_bind _ _
    rw [e]
    have := bin_up hi f _ (k + 1) (h.perm (bubble_perm p k (k - ev (ltK key) (kas_place p k k 0 k)))) (by omega) (bub_up (by rw [h.z]; omega) u pl)
    rw [show k + (f + 1) = k + 1 + f by omega]
    exact this
theorem sort_up (hi : Inj n key) (n1 : 1 ≤ n) : PO n (ev (ltK key) (kas_sort n)) ∧ Up key (ev (ltK key) (kas_sort n)) n := by
  have c := count_up (range_po n) hi n1
  unfold kas_sort
  rw [ev_bind]
  generalize ev (ltK key) (kas_count n (List.toArray (List.range n))) = r at c
  by_cases d : r.1 < n
  · rw [if_pos d]
    have m := c.o
    have := bin_up hi (n - max r.1 1) r.2 (max r.1 1) c.p (by omega) (by rw [Nat.max_eq_left m]; exact c.u)
    rw [show max r.1 1 + (n - max r.1 1) = n by omega] at this
    exact this
  · rw [if_neg d]
    have := c.l
    exact ⟨c.p, by rw [show n = r.1 by omega]; exact c.u⟩
end
end So
namespace L2
open PySem PySem.Spec PySem.W PyProof.Rows
inductive Prs (h : Heap) : List Value → List (Int × Int) → Prop
  | nil : Prs h [] []
  | cons {a : Addr} {o : Obj} {n : Nat} {x y : Int} {t u : Tok} {vs : List Value} {ps : List (Int × Int)} : h.get? a = some o → o.cls = .type "tuple" → o.data = .seq #[.int x t, .int y u] n → Prs h vs ps → Prs h (.ref a :: vs) ((x, y) :: ps)
theorem Prs.keep {h h' : Heap} (k : ∀ b o, h.get? b = some o → o.cls = .type "tuple" → h'.get? b = some o) : ∀ {vs : List Value} {ps : List (Int × Int)}, Prs h vs ps → Prs h' vs ps
  | _, _, .nil => .nil
  | _, _, .cons h1 h2 h3 r => .cons (k _ _ h1 h2) h2 h3 (r.keep k)
theorem Prs.len {h : Heap} : ∀ {vs : List Value} {ps : List (Int × Int)}, Prs h vs ps → vs.length = ps.length
  | _, _, .nil => rfl
  | _, _, .cons _ _ _ r => congrArg (· + 1) r.len
theorem Prs.get {h : Heap} : ∀ {vs : List Value} {ps : List (Int × Int)} {i : Nat}, Prs h vs ps → i < vs.length → ∃ a o n t u, vs.getD i .none = .ref a ∧ h.get? a = some o ∧ o.data = .seq #[.int (ps.getD i (0, 0)).1 t, .int (ps.getD i (0, 0)).2 u] n
  | _, _, _, .nil, hi => absurd hi (Nat.not_lt_zero _)
  | _, _, 0, .cons h1 _ h3 _, _ => ⟨_, _, _, _, _, rfl, h1, h3⟩
  | _, _, i + 1, .cons _ _ _ r, hi => r.get (i := i) (Nat.lt_of_succ_lt_succ hi)
theorem Prs.tups {h : Heap} : ∀ {vs : List Value} {ps : List (Int × Int)}, Prs h vs ps → ∃ fs, KatTups h vs fs ∧ fs.length = vs.length ∧ ∀ v ∈ fs, ∃ x t, v = .int x t
  | _, _, .nil => ⟨[], .nil, rfl, fun _ z => by cases z⟩
  | _, _, .cons h1 h2 h3 r => by
    obtain ⟨fs, t, l, e⟩ := r.tups
    exact ⟨_ :: fs, .cons h1 h2 h3 rfl t, congrArg (· + 1) l, List.forall_mem_cons.mpr ⟨⟨_, _, rfl⟩, e⟩⟩
def pk (q : Int × Int) : Int := q.1 * 1000 + q.2
def pkAt (ps : List (Int × Int)) (i : Nat) : Int := pk (ps.getD i (0, 0))
structure Small (ps : List (Int × Int)) : Prop where
  s : ∀ q ∈ ps, 0 ≤ q.2 ∧ q.2 < 1000
theorem Small.at {ps : List (Int × Int)} (h : Small ps) {i : Nat} (hi : i < ps.length) : 0 ≤ (ps.getD i (0, 0)).2 ∧ (ps.getD i (0, 0)).2 < 1000 := by
  rw [List.getD_eq_getElem?_getD, List.getElem?_eq_getElem hi]
  exact h.s _ (List.getElem_mem hi)
theorem pk_lt {a b c d : Int} (h1 : 0 ≤ b ∧ b < 1000) (h2 : 0 ≤ d ∧ d < 1000) : pk (a, b) < pk (c, d) ↔ a < c ∨ a = c ∧ b < d := by
  unfold pk
  show a * 1000 + b < c * 1000 + d ↔ _
  omega
section
variable {prog : Program} {w : World} {A : Around} {E : Value → Shared → Prop} {s : Shared} {vs : List Value} {ps : List (Int × Int)}
theorem prs_ask (T : Prs s.heap vs ps) (sm : Small ps) {i j : Nat} {C : Bool → Shared → Prop} (hi : i < vs.length) (hj : j < vs.length) (h : C (So.ltK (pkAt ps) i j) s) : kas_ask prog w A (tuples' true) vs i j C s := by
  obtain ⟨a, o, n, t, u, e1, e2, e3⟩ := T.get hi
  obtain ⟨a', o', n', t', u', f1, f2, f3⟩ := T.get hj
  have s1 := sm.at (i := i) (by rw [← T.len]; exact hi)
  have s2 := sm.at (i := j) (by rw [← T.len]; exact hj)
  unfold So.ltK pkAt at h
  unfold kas_ask
  rw [e1, f1]
  generalize ps.getD i (0, 0) = q at *
  generalize ps.getD j (0, 0) = r at *
  obtain ⟨q1, q2⟩ := q
  obtain ⟨r1, r2⟩ := r
  have lx := pk_lt (a := q1) (c := r1) s1 s2
  refine kat_lt e2 e3 f2 f3 (kat_cons (wpAny_eqBool_int ?_))
  by_cases c : q1 = r1
  · rw [show (q1 == r1) = true by simp [c]]
    refine kat_yes (kat_cons (wpAny_eqBool_int ?_))
    by_cases d : q2 = r2
    · rw [show (q2 == r2) = true by simp [d]]
      refine kat_yes (kat_nil ?_)
      rw [decide_eq_false (by rw [lx]; omega)] at h
      exact h
    · rw [show (q2 == r2) = false by simp [d]]
      refine kat_no (kat_one _ _ (wpAny_lt_int (show C _ s from ?_)))
      rw [show decide (pk (q1, q2) < pk (r1, r2)) = decide (q2 < r2) from decide_eq_decide.mpr (by rw [lx]; omega)] at h
      exact h
  · rw [show (q1 == r1) = false by simp [c]]
    refine kat_no (oneLt_int ?_)
    rw [show decide (pk (q1, q2) < pk (r1, r2)) = decide (q1 < r1) from decide_eq_decide.mpr (by rw [lx]; omega)] at h
    exact h
theorem pk_inj (sm : Small ps) (nd : ps.Nodup) : So.Inj ps.length (pkAt ps) := ⟨fun i j hi hj e => by
  have s1 := sm.at hi
  have s2 := sm.at hj
  unfold pkAt pk at e
  have e' : ps.getD i (0, 0) = ps.getD j (0, 0) := Prod.ext (by omega) (by omega)
  rw [List.getD_eq_getElem?_getD, List.getD_eq_getElem?_getD, List.getElem?_eq_getElem hi, List.getElem?_eq_getElem hj] at e'
  exact (List.getElem_inj nd).mp e'⟩
def outP (vs : List Value) (p : Array Nat) : Array Value := List.toArray (p.toList.map fun i => vs.getD i .none)
theorem lsort_prs {a : Addr} {n : Nat} {P : PySem.Fin → Shared → Prop} (ho : s.heap.get? a = some (seqObj "list" vs.toArray n)) (T : Prs s.heap vs ps) (sm : Small ps) (nd : ps.Nodup) (h64 : vs.length < 64)
    (fin : ∀ p : Array Nat, So.PO vs.length p → So.Up (pkAt ps) p vs.length → P (.done (.ret .none)) { s with heap := sortedHeap s.heap a vs (outP vs p) }) : wpAny (model prog w) A (Builtin.«list.sort» ⟨[.ref a], []⟩) P E s := by
  have hla := Heap.lt_size ho
  rw [list_sort_plain]
  refine wpAny_bind (listItems_at ho rfl (wpAny_bind (listUpdate_at ho rfl ?_)))
  obtain ⟨ep, he⟩ : ∃ ep, (s.heap.update a (Obj.mapSeq fun _ => #[])).get? a = some (seqObj "list" #[] ep) := ⟨_, get?_update_seq ho _⟩
  refine wpAny_bind (seqEpoch_at he rfl (wpAny_bind (wpAny_newTuple (wpAny_bind (wpAny_newList (wpAny_holding ?_))))))
  generalize hH : ((s.heap.update a (Obj.mapSeq fun _ => #[])).push (seqObj "tuple" vs.toArray 0)).push (seqObj "list" #[] 0) = H
  have hHa : H.get? a = some (seqObj "list" #[] ep) := by
    rw [← hH, Heap.get?_push_ne _ _ _ (by rw [size_push', Heap.size_update]; exact Nat.ne_of_lt (Nat.lt_succ_of_lt hla))]
    rw [Heap.get?_push_ne _ _ _ (by rw [Heap.size_update]; exact Nat.ne_of_lt hla)]
    exact he
  have T' : Prs H vs ps := T.keep fun b o z hc => by
    have hb : b ≠ a := by
      rintro rfl
      rw [ho] at z
      cases z
      have hc : Value.type "list" = Value.type "tuple" := hc
      injection hc with hc
      exact absurd hc (by decide)
    rw [← hH]
    refine Heap.get?_push_of_some _ (Heap.get?_push_of_some _ ?_)
    rw [Heap.get?_update_ne _ _ _ _ hb]
    exact z
  have sh : ∀ out, sortedHeap s.heap a vs out = H.update a (Obj.mapSeq fun _ => out) := fun out => by rw [← hH]; rfl
  show wpAny (model prog w) A _ P E { s with heap := H }
  dsimp only
  have hsz : vs.toArray.size = vs.length := by simp
  by_cases h2 : vs.toArray.size < 2
  · rw [if_pos h2, if_pos h2]
    refine wpAny_bind (wpAny_pure ?_)
    rw [StateT.run_pure]
    refine wpAny_bind (wpAny_pure ?_)
    dsimp only
    have ov : (Array.map (fun x : Keyed => x.2) (vs.toArray.zip vs.toArray)) = outP vs (List.toArray (List.range vs.length)) := by
      unfold outP
      match vs, h2 with
      | [], _ => simp
      | [v], _ => simp
      | _ :: _ :: _, h2 => exact absurd h2 (by simp)
    refine wpAny_bind (seqEpoch_at hHa rfl (wpAny_bind (listUpdate_at hHa rfl ?_ (hsz2 := ?_))))
    · simp only [bne_self_eq_false, Bool.false_eq_true, if_false]
      refine wpAny_pure ?_
      have := fin _ (So.range_po vs.length) fun i j h1 h3 => absurd h3 (by omega)
      rw [sh, ← ov] at this
      exact this
    · show (Array.map (fun x : Keyed => x.2) (vs.toArray.zip vs.toArray)).size ≤ _
      rw [ov]
      unfold outP
      simp [sizeLine_eq]
      omega
  · rw [if_neg h2, if_neg h2]
    obtain ⟨fs, t, fl, fi⟩ := T'.tups
    have kd : wpAny (model prog w) A (keyKind' vs.toArray) (fun κ s' => κ = tuples' true ∧ s' = { s with heap := H }) (fun _ _ => False) { s with heap := H } :=
      kat_kind (T := .type "int") t (by omega) (fun v hv => by
        obtain ⟨x, tk, rfl⟩ := fi v hv
        exact Looks.of_pure rfl) (by decide) ⟨rfl, rfl⟩
    refine wpAny_bind (wpAny_mono kd (fun κ s0 hk => ?_) fun _ _ z => z.elim)
    obtain ⟨rfl, rfl⟩ := hk
    have ru := kat_run (prog := prog) (w := w) (A := A) (E := E) (s := { s with heap := H }) (κ := tuples' true) (vs := vs) (ks := vs) (Q := fun st' s' => s' = { s with heap := H } ∧ failedOf st' = none ∧ ∃ p, arrOf st' = p.map (kas_item (vs.toArray.zip vs.toArray)) ∧ So.PO vs.length p ∧ So.Up (pkAt ps) p vs.length) (G := fun p s' => s' = { s with heap := H } ∧ p = So.ev (So.ltK (pkAt ps)) (kas_sort vs.length)) rfl (by omega) h64 (fun p st' s' _ b1 b2 ⟨b3, b4⟩ => by
        have so := So.sort_up (n := vs.length) (by rw [T.len]; exact pk_inj sm nd) (by omega)
        rw [← b4] at so
        exact ⟨b3, b2, p, b1, so.1, so.2⟩) (So.wp_of (n := vs.length) (lt := So.ltK (pkAt ps)) (fun i j C h1 h2 hC => prs_ask T' sm h1 h2 hC) _ (So.sort_asks (by omega)) ⟨rfl, rfl⟩)
    refine wpAny_bind (wpAny_mono ru ?_ fun _ _ e => e)
    rintro ⟨⟨⟩, st⟩ s' ⟨rfl, hf, p, har, po, up⟩
    dsimp only
    have ov : (arrOf st).map (fun x : Keyed => x.2) = outP vs p := kat_snds rfl har
    refine wpAny_bind (seqEpoch_at hHa rfl (wpAny_bind (listUpdate_at hHa rfl ?_ (hsz2 := ?_))))
    · rw [hf]
      simp only [bne_self_eq_false, Bool.false_eq_true, if_false]
      refine wpAny_pure ?_
      have := fin p po up
      rw [sh, ← ov] at this
      exact this
    · show ((arrOf st).map (fun x : Keyed => x.2)).size ≤ _
      rw [ov]
      unfold outP
      have := po.z
      simp [sizeLine_eq]
      omega
end
end L2
namespace L2
open PySem PySem.Spec PySem.W PyProof.Rows
inductive PsV (K : PySem.W.Frag) (H : Hp) : List V → List (Int × Int) → Prop
  | nil : PsV K H [] []
  | cons {a : Addr} {x y : Int} {ws : List V} {ps : List (Int × Int)} : SqT K H a [.int x, .int y] → PsV K H ws ps → PsV K H (.ref a :: ws) ((x, y) :: ps)
theorem PsV.len {K : PySem.W.Frag} {H : Hp} : ∀ {ws : List V} {ps : List (Int × Int)}, PsV K H ws ps → ws.length = ps.length
  | _, _, .nil => rfl
  | _, _, .cons _ r => congrArg (· + 1) r.len
theorem prs_of {X : Cx} {pins : List (Addr × Obj)} {σ : St} {H : Hp} {s : Shared} (I : Inv X pins σ H s) : ∀ {ws : List V} {ps : List (Int × Int)} {its : List Value}, PsV X.K H ws ps → Vals ws its → Prs s.heap its ps
  | _, _, _, .nil, .nil => .nil
  | _, _, _, .cons h r, .cons rx rs => by
    cases rx
    obtain ⟨js, v, ⟨o, e1, e2, n, e3⟩, _⟩ := I.tuple h
    cases v with
    | cons r1 v =>
      cases v with
      | cons r2 v =>
        cases v
        obtain ⟨t, rfl⟩ := r1
        obtain ⟨u, rfl⟩ := r2
        exact .cons e1 e2 e3 (prs_of I r rs)
theorem vals_at : ∀ {ws : List V} {its : List Value} {i : Nat}, Vals ws its → i < ws.length → RelV (ws.getD i .non) (its.getD i .none)
  | _, _, _, .nil, h => absurd h (Nat.not_lt_zero _)
  | _, _, 0, .cons r _, _ => r
  | _, _, i + 1, .cons _ t, h => vals_at (i := i) t (Nat.lt_of_succ_lt_succ h)
theorem vals_pick {ws : List V} {its : List Value} (v : Vals ws its) : ∀ l : List Nat, (∀ i ∈ l, i < ws.length) → Vals (l.map fun i => ws.getD i .non) (l.map fun i => its.getD i .none)
  | [], _ => .nil
  | i :: l, h => .cons (vals_at v (h i List.mem_cons_self)) (vals_pick v l fun j hj => h j (List.mem_cons_of_mem _ hj))
section
variable {X : Cx} {K : PySem.W.Frag}
end
end L2
namespace PD
open PySem L2
def prD (q : Int × Int) : PyData := .tuple [.int q.1, .int q.2]
def srtP (ps : List (Int × Int)) : List (Int × Int) := ps.mergeSort fun a b => decide (pk a ≤ pk b)
theorem srtP_perm (ps : List (Int × Int)) : (srtP ps).Perm ps := List.mergeSort_perm ps _
theorem srtP_sorted (ps : List (Int × Int)) : (srtP ps).Pairwise fun a b => pk a ≤ pk b := by
  have := List.pairwise_mergeSort (le := fun a b : Int × Int => decide (pk a ≤ pk b)) (fun a b c h1 h2 => by simp at *; omega) (fun a b => by simp; omega) ps
  exact this.imp fun h => by simpa using h
theorem perm_sortedP : ∀ {a b : List (Int × Int)}, Small a → a.Perm b → (a.Pairwise fun x y => pk x ≤ pk y) → (b.Pairwise fun x y => pk x ≤ pk y) → a = b
  | [], b, _, p, _, _ => p.nil_eq
  | x :: r, [], _, p, _, _ => absurd p.length_eq (by simp)
  | x :: r, y :: t, sm, p, h1, h2 => by
    have a1 := List.pairwise_cons.mp h1
    have a2 := List.pairwise_cons.mp h2
    have hx : x ∈ y :: t := p.mem_iff.mp List.mem_cons_self
    have hy : y ∈ x :: r := p.mem_iff.mpr List.mem_cons_self
    have s1 := sm.s x List.mem_cons_self
    have s2 := sm.s y hy
    have e : x = y := by
      rcases List.mem_cons.mp hx with e | hx
      · exact e
      · rcases List.mem_cons.mp hy with e | hy
        · exact e.symm
        · have q1 := a2.1 x hx
          have q2 := a1.1 y hy
          unfold pk at q1 q2
          exact Prod.ext (by omega) (by omega)
    subst e
    rw [perm_sortedP ⟨fun q hq => sm.s q (List.mem_cons_of_mem _ hq)⟩ p.cons_inv a1.2 a2.2]
theorem pick_all {α : Type} (d : α) (l : List α) : (List.range l.length).map (fun i => l.getD i d) = l := by
  refine List.ext_getElem (by simp) fun i h1 h2 => ?_
  rw [List.getElem_map, List.getElem_range, List.getD_eq_getElem?_getD, List.getElem?_eq_getElem h2]
  rfl
theorem nd_full {l : List Nat} {n : Nat} (nd : l.Nodup) (lt : ∀ x ∈ l, x < n) (hl : l.length = n) : l.Perm (List.range n) := by
  refine (List.perm_ext_iff_of_nodup nd List.nodup_range).mpr fun x => ⟨fun h => List.mem_range.mpr (lt x h), fun h => ?_⟩
  have hx := List.mem_range.mp h
  by_cases c : x ∈ l
  · exact c
  · exfalso
    have cnt : ∀ (m : Nat) (l : List Nat), l.Nodup → (∀ x ∈ l, x < m) → l.length ≤ m := fun m => by
      induction m with
      | zero => intro l _ h; cases l with
        | nil => exact Nat.le_refl _
        | cons a t => exact absurd (h a List.mem_cons_self) (Nat.not_lt_zero _)
      | succ m ih =>
        intro l nd h
        have e := ih (l.erase m) (nd.erase m) fun x hx => by
          have h1 := h x (List.mem_of_mem_erase hx)
          have h2 : x ≠ m := fun z => by subst z; exact (List.Nodup.not_mem_erase nd) hx
          omega
        have := List.length_erase (a := m) (l := l)
        split at this <;> omega
    have := cnt n (x :: l) (List.nodup_cons.mpr ⟨c, nd⟩) fun y hy => by
      rcases List.mem_cons.mp hy with rfl | hy
      · exact hx
      · exact lt y hy
    have : l.length + 1 ≤ n := this
    omega
theorem pick_srtP {ps : List (Int × Int)} {y : Array Nat} (sm : Small ps) (po : So.PO ps.length y) (up : So.Up (pkAt ps) y ps.length) : (y.toList.map fun i => ps.getD i (0, 0)) = srtP ps := by
  have pm : (y.toList.map fun i => ps.getD i (0, 0)).Perm ps := by
    have := (nd_full po.nd po.lt (by rw [Array.length_toList]; exact po.z)).map fun i => ps.getD i ((0 : Int), (0 : Int))
    rwa [pick_all] at this
  refine perm_sortedP ⟨fun q hq => sm.s q (pm.mem_iff.mp hq)⟩ (pm.trans (srtP_perm ps).symm) ?_ (srtP_sorted ps)
  rw [List.pairwise_iff_getElem]
  intro i j hi hj ij
  rw [List.length_map, Array.length_toList, po.z] at hi hj
  rw [List.getElem_map, List.getElem_map]
  have h := up i j ij hj
  have e1 : So.at' y i = y.toList[i]'(by rw [Array.length_toList, po.z]; exact hi) := by simp [So.at', po.z, hi]
  have e2 : So.at' y j = y.toList[j]'(by rw [Array.length_toList, po.z]; exact hj) := by simp [So.at', po.z, hj]
  rw [e1, e2] at h
  exact Int.le_of_lt h
section
variable {K : PySem.W.Frag} {S S' : Sx} {κ κ' : Bool} {Γ Γ' : Ctx}
theorem rp_prs {H0 F : Hp} : ∀ {vs : List V} {ps : List (Int × Int)}, RpAll K κ S H0 F vs (ps.map prD) → PsV K F vs ps
  | _, [], .nil => .nil
  | _, q :: ps, .cons h t => by
    obtain ⟨a, xs, rfl, h1, h2⟩ := rp_tup h
    cases h2 with
    | cons r1 h2 =>
      cases h2 with
      | cons r2 h2 =>
        cases h2
        cases rp_int r1
        cases rp_int r2
        exact .cons h1 (rp_prs t)
theorem psv_same {F H : Hp} (s : Same F H) : ∀ {vs : List V} {ps : List (Int × Int)}, PsV K F vs ps → PsV K H vs ps
  | _, _, .nil => .nil
  | _, _, .cons h t => .cons (Same.seqT s h) (psv_same s t)
theorem psv_at {F : Hp} : ∀ {vs : List V} {ps : List (Int × Int)} {i : Nat}, PsV K F vs ps → i < vs.length → Dp K F (vs.getD i .non) (prD (ps.getD i (0, 0)))
  | _, _, _, .nil, h => absurd h (Nat.not_lt_zero _)
  | _, _, 0, .cons h _, _ => .tup h (.cons (.int _) (.cons (.int _) .nil))
  | _, _, i + 1, .cons _ t, h => psv_at (i := i) t (Nat.lt_of_succ_lt_succ h)
theorem psv_pick {F : Hp} {vs : List V} {ps : List (Int × Int)} (h : PsV K F vs ps) : ∀ l : List Nat, (∀ i ∈ l, i < vs.length) → DpAll K F (l.map fun i => vs.getD i .non) ((l.map fun i => ps.getD i (0, 0)).map prD)
  | [], _ => .nil
  | i :: l, g => .cons (psv_at h (g i List.mem_cons_self)) (psv_pick h l fun j hj => g j (List.mem_cons_of_mem _ hj))
end
end PD
namespace Dsp
inductive Anc (pa : Nat → Nat → Prop) : Nat → Nat → Prop
  | refl (v : Nat) : Anc pa v v
  | step {a b c : Nat} : pa a b → Anc pa b c → Anc pa a c
def Hi (pa : Nat → Nat → Prop) (Z : Nat → Prop) (v : Nat) : Prop := ∃ z, Z z ∧ Anc pa v z
inductive Bb (pa : Nat → Nat → Prop) (Z : Nat → Prop) (x : Nat) : Nat → Bool → Prop
  | start : Bb pa Z x x false
  | up {v u : Nat} {w : Bool} : Bb pa Z x v w → pa u v → (w = true ↔ Z v) → Bb pa Z x u false
  | down {v u : Nat} {w : Bool} : Bb pa Z x v w → pa v u → ¬ Z v → Bb pa Z x u true
def Cd (pa : Nat → Nat → Prop) (Z : Nat → Prop) (t v u : Nat) : Prop := (pa t v ∧ pa u v → Hi pa Z v) ∧ (¬ (pa t v ∧ pa u v) → ¬ Z v)
def Adj (pa : Nat → Nat → Prop) (a b : Nat) : Prop := pa a b ∨ pa b a
def Ok (pa : Nat → Nat → Prop) (Z : Nat → Prop) : List Nat → Prop
  | [] => True
  | u :: r => match r with
    | [] => True
    | v :: s => Adj pa v u ∧ (∀ t, s.head? = some t → Cd pa Z t v u) ∧ Ok pa Z r
section
variable {pa : Nat → Nat → Prop} {Z : Nat → Prop} {x y : Nat} {rk : Nat → Nat}
theorem ok_cons {u v : Nat} {s : List Nat} : Ok pa Z (u :: v :: s) ↔ Adj pa v u ∧ (∀ t, s.head? = some t → Cd pa Z t v u) ∧ Ok pa Z (v :: s) := by
  rw [Ok]
theorem ok_one {u : Nat} : Ok pa Z [u] := by rw [Ok]; trivial
theorem Ok.tail {u : Nat} {r : List Nat} (h : Ok pa Z (u :: r)) : Ok pa Z r := by
  cases r with
  | nil => rw [Ok]; trivial
  | cons v s => exact (ok_cons.mp h).2.2
theorem Ok.suf {B : List Nat} : ∀ {A : List Nat}, Ok pa Z (A ++ B) → Ok pa Z B
  | [], h => h
  | _ :: A, h => Ok.suf (A := A) (Ok.tail h)
theorem Ok.pre {B : List Nat} : ∀ {A : List Nat}, Ok pa Z (A ++ B) → Ok pa Z A
  | [], _ => by rw [Ok]; trivial
  | [u], _ => ok_one
  | u :: v :: s, h => by
    have h' := ok_cons.mp h
    refine ok_cons.mpr ⟨h'.1, fun t ht => h'.2.1 t ?_, Ok.pre (A := v :: s) h'.2.2⟩
    cases s with
    | nil => cases ht
    | cons c s => exact ht
theorem Ok.at {v a t : Nat} {T : List Nat} (hT : T.head? = some t) : ∀ {A : List Nat}, Ok pa Z (A ++ v :: T) → A.getLast? = some a → Cd pa Z t v a
  | [], _, e => by cases e
  | [b], h, e => by cases e; exact (ok_cons.mp h).2.1 t hT
  | b :: c :: A, h, e => Ok.at hT (A := c :: A) (Ok.tail h) (by rw [List.getLast?_cons_cons] at e; exact e)
theorem Ok.splice {v : Nat} {B D : List Nat} (hD : Ok pa Z (v :: D)) : ∀ {A : List Nat}, Ok pa Z (A ++ v :: B) → (∀ a d, A.getLast? = some a → D.head? = some d → Cd pa Z d v a) → Ok pa Z (A ++ v :: D)
  | [], _, _ => hD
  | [b], h, j => ok_cons.mpr ⟨(ok_cons.mp h).1, fun t ht => j b t rfl ht, hD⟩
  | b :: c :: A, h, j => by
    have h' := (ok_cons (s := A ++ v :: B)).mp h
    have ih := Ok.splice hD (A := c :: A) h'.2.2 fun a d ha hd => j a d (by rw [List.getLast?_cons_cons]; exact ha) hd
    refine (ok_cons (s := A ++ v :: D)).mpr ⟨h'.1, fun t ht => h'.2.1 t ?_, ih⟩
    cases A with
    | nil => exact ht
    | cons e A => exact ht
theorem Hi.up {a b : Nat} (h : Hi pa Z b) (p : pa a b) : Hi pa Z a := let ⟨z, hz, q⟩ := h; ⟨z, hz, .step p q⟩
end
section
variable {pa : Nat → Nat → Prop} {Z : Nat → Prop} {x y : Nat} {rk : Nat → Nat}
theorem Cd.sy {t v u : Nat} (h : Cd pa Z t v u) : Cd pa Z u v t := ⟨fun c => h.1 ⟨c.2, c.1⟩, fun c => h.2 fun z => c ⟨z.2, z.1⟩⟩
theorem Ok.rev : ∀ {l : List Nat}, Ok pa Z l → Ok pa Z l.reverse
  | [], h => h
  | [_], h => h
  | u :: v :: s, h => by
    obtain ⟨h1, h2, h3⟩ := ok_cons.mp h
    have ih := Ok.rev h3
    rw [List.reverse_cons] at ih ⊢
    rw [List.reverse_cons, List.append_assoc]
    refine Ok.splice (B := []) (D := [u]) (ok_cons.mpr ⟨h1.symm, fun t ht => (by cases ht), ok_one⟩) ih fun a d ha hd => ?_
    cases hd
    rw [List.getLast?_reverse] at ha
    exact (h2 a ha).sy
theorem Anc.trans {a b c : Nat} (h : Anc pa a b) (k : Anc pa b c) : Anc pa a c := by
  induction h with
  | refl _ => exact k
  | step p _ ih => exact .step p (ih k)
theorem Anc.lt (dag : ∀ a b, pa a b → rk a < rk b) {a b : Nat} (h : Anc pa a b) : a = b ∨ rk a < rk b := by
  induction h with
  | refl _ => exact .inl rfl
  | step p _ ih =>
    have := dag _ _ p
    rcases ih with rfl | z
    · exact .inr this
    · exact .inr (by omega)
theorem Ok.conv {Z' : Nat → Prop} (hi : ∀ v, Hi pa Z v → Hi pa Z' v) : ∀ {l : List Nat}, (∀ v ∈ l, Z' v → Z v) → Ok pa Z l → Ok pa Z' l
  | [], _, _ => by rw [Ok]; trivial
  | [_], _, _ => ok_one
  | u :: v :: s, hz, h => by
    obtain ⟨h1, h2, h3⟩ := ok_cons.mp h
    exact ok_cons.mpr ⟨h1, fun t ht => ⟨fun c => hi _ ((h2 t ht).1 c), fun c z => (h2 t ht).2 c (hz v (List.mem_cons_of_mem _ List.mem_cons_self) z)⟩, Ok.conv hi (fun w hw => hz w (List.mem_cons_of_mem _ hw)) h3⟩
end
end Dsp
namespace PD
open PySem L2
section
variable {K : PySem.W.Frag} {S S' : Sx} {κ κ' : Bool} {Γ Γ' Γ'' Γ3 Γ4 : Ctx} {P : Post}
end
end PD
namespace L2
open PySem PySem.Spec PyProof.Rows
structure CompOkC (X : Cx) (y : Str) (N : List Str) (scope : Scope) (cl : List (Str × Addr)) (js : List (Option Nat)) : Prop where
  clos : closureFor scope X.env = pure cl
  lay : ∀ (n : Nat) (acc : List (Str × Addr)), cellsFrom n scope.names acc = (y, n) :: acc
  own : ∀ z ∈ scope.names, z.2 = .cell → z.1 = y
  look : scope.names.lookup y = some .cell
  ny : ¬ ∃ c, cl.lookup y = some c
  kind : scope.kind = .function
  names : ∀ y ∈ scope.names, y.2 = .local → scope.names.lookup y.1 = some .local
  cells : ∀ p ∈ cl, X.env.cells.lookup p.1 = some p.2
  has : ∀ y ∈ scope.names, y.2 = .free → (cl.lookup y.1).isSome = true
  len : js.length = N.length
  cap : ∀ (i j : Nat), js[i]? = some (some j) → ∃ x, N[i]? = some x ∧ X.N[j]? = some x ∧ scope.names.lookup x = some .free ∧ (X.env.scope.names.lookup x = some .cell ∨ X.env.scope.names.lookup x = some .free)
section
variable {X : Cx} {y : Str} {N : List Str} {scope : Scope} {cl : List (Str × Addr)} {js : List (Option Nat)} {pins : List (Addr × Obj)} {σ : St} {H : Hp} {s : Shared} {fp : List Addr}
end
section
variable {X : Cx} {y : Str} {N : List Str} {scope : Scope} {cl : List (Str × Addr)} {js : List (Option Nat)} {pins : List (Addr × Obj)} {σ : St} {H : Hp} {s : Shared}
end
theorem CompOkC.of {X : Cx} {y : Str} {N : List Str} {scope : Scope} {cl : List (Str × Addr)} {js : List (Option Nat)} (clos : closureFor scope X.env = pure cl) (lay : ∀ (n : Nat) (acc : List (Str × Addr)), cellsFrom n scope.names acc = (y, n) :: acc) (own : (scope.names.all fun z => z.2 != .cell || z.1 == y) = true) (look : scope.names.lookup y = some .cell) (ny : cl.lookup y = none) (kind : scope.kind = .function)
    (nm : (scope.names.all fun y => y.2 != .local || (scope.names.lookup y.1 == some .local)) = true) (cells : ∀ p ∈ cl, X.env.cells.lookup p.1 = some p.2) (has : (scope.names.all fun y => y.2 != .free || (cl.lookup y.1).isSome) = true)
    (len : js.length = N.length) (cap : ((js.zip N).all fun p => match p.1 with | none => true | some j => (X.N[j]? == some p.2) && (scope.names.lookup p.2 == some .free) && (X.env.scope.names.lookup p.2 == some .cell || X.env.scope.names.lookup p.2 == some .free)) = true) : CompOkC X y N scope cl js := by
  rw [List.all_eq_true] at own nm has cap
  refine ⟨clos, lay, fun z hz e => ?_, look, fun ⟨c, e⟩ => (by rw [ny] at e; cases e), kind, fun y hy e => ?_, cells, fun y hy e => ?_, len, fun i j e => ?_⟩
  · have q := own z hz
    rw [e] at q
    simpa using q
  · have q := nm y hy
    rw [e] at q
    simpa using q
  · have q := has y hy
    rw [e] at q
    simpa using q
  · have hi : i < js.length := (List.getElem?_eq_some_iff.mp e).1
    have hx : N[i]? = some (N[i]'(by omega)) := List.getElem?_eq_getElem (by omega)
    have hz : (js.zip N)[i]? = some (some j, N[i]'(by omega)) := by
      rw [List.getElem?_zip_eq_some]
      exact ⟨e, hx⟩
    have q := cap _ (List.mem_of_getElem? hz)
    simp only [Bool.and_eq_true, Bool.or_eq_true, beq_iff_eq] at q
    exact ⟨_, hx, q.1.1, q.1.2, q.2⟩
end L2
namespace L2
open PySem PySem.Spec PyProof.Rows
section
variable {X : Cx} {K : PySem.W.Frag}
end
end L2
namespace PD
open PySem L2
section
variable {K : PySem.W.Frag} {S S' : Sx} {κ κ' : Bool} {Γ Γ' Γ'' : Ctx} {P : Post}
end
section
open PySem.W PyProof.Rows
variable {K : PySem.W.Frag} {P : Program} {w : World} {mg : Str → Option Value} {base : Heap} {S : Sx} {κ : Bool} {Γ : Ctx}
theorem LamD.mono {kk : Nat} {p1 : PyData → PyData → Prop} {F F' : Hp} {a : Addr} (s : Same F F') (h : LamD P w K mg base kk p1 F a) : LamD P w K mg base kk p1 F' a := by
  obtain ⟨fd, x, spl, nm, q, pr, bd, ls, cl, pm, c', ct, h1, h2, h3, h4⟩ := h
  exact ⟨fd, x, spl, nm, q, pr, bd, ls, cl, pm, c', ct, h1, h2, s _ _ h3, fun H' F2 v d r Q z => h4 H' F2 v d r Q (s.trans z)⟩
end
end PD
namespace L2
open PySem PySem.Spec PyProof.Rows PySem.Calls
abbrev pkey (i j : Int) : List Key := [.inl i, .inl j]
end L2
namespace PD
open PySem L2
section
variable {K : PySem.W.Frag} {S S' : Sx} {κ κ' : Bool} {Γ Γ' Γ'' : Ctx} {P : Post}
abbrev PTab := List (List Key × V)
def tGet (m : PTab) (i j : Int) : Option V := valV m (pkey i j)
end
end PD
namespace PD
open PySem L2
section
open PySem.W PyProof.Rows
variable {K : PySem.W.Frag} {P : Program} {w : World} {mg : Str → Option Value} {base : Heap} {S S' : Sx} {κ : Bool} {Γ Γ' : Ctx} {Po : Post}
end
end PD
namespace L2
open PySem PySem.Spec PyProof.Rows PySem.Calls
section
variable {prog : Program} {w : World} {κ : Type} [DecidableEq κ] {kd : HeapKind prog w κ} {A : Around} {E : Value → Shared → Prop} {s : Shared}
end
section
variable {X : Cx} {o e f : Expr} {apos cpos : Pos} {td ty tx : TE}
end
end L2
namespace PD
open PySem L2
section
variable {K : PySem.W.Frag} {S S' : Sx} {κ κ' : Bool} {Γ Γ' Γ'' : Ctx} {P : Post} {E : XK}
abbrev LTab := Int → Int → Option (Bool × List PyData)
def LTab.put (T : LTab) (i j : Int) (e : Bool × List PyData) : LTab := fun k l => if k = i ∧ l = j then some e else T k l
def LTab.frz (T : LTab) (i j : Int) : LTab := fun k l => if k = i ∧ l = j then (T i j).map (fun e => (false, e.2)) else T k l
def LTab.at (T : LTab) (i j : Int) : List PyData := match T i j with | some e => e.2 | none => []
def EnP (K : PySem.W.Frag) (S : Sx) (H0 H F : Hp) (b : Addr) : Bool × List PyData → Prop
  | (true, ds) => ∃ us, H b = some (.lst us) ∧ RpAll K true S H0 F us ds
  | (false, ds) => Rp K true S H0 F (.ref b) (.list ds)
structure LtOk (K : PySem.W.Frag) (T : LTab) (n : Nat) (S : Sx) (H0 H F : Hp) (p : Addr) (tab : PTab) : Prop where
  h : H p = some (.dT tab)
  l : tab.length ≤ n
  no : ∀ i j, T i j = none → tGet tab i j = none
  en : ∀ i j e, T i j = some e → ∃ b, tGet tab i j = some (.ref b) ∧ EnP K S H0 H F b e
  ap : ∀ i j k l d1 d2 b, T i j = some (true, d1) → T k l = some (true, d2) → tGet tab i j = some (.ref b) → tGet tab k l = some (.ref b) → k = i ∧ l = j
theorem EnP.mono {H0 H F H' F' : Hp} {b : Addr} {e : Bool × List PyData} (h : EnP K S H0 H F b e) (s : Same F F') (q : e.1 = true → H' b = H b) : EnP K S H0 H' F' b e := by
  obtain ⟨fl, ds⟩ := e
  cases fl with
  | true =>
    obtain ⟨us, h1, h2⟩ := h
    exact ⟨us, by rw [q rfl]; exact h1, rpAll_mono s h2⟩
  | false => exact rp_mono s h
end
end PD
namespace L2
open PySem PySem.Spec PyProof.Rows PySem.SeqAt PySem.MeetsSeq PySem.MeetsSeq2 PySem.MeetsSeq3
open AutoSeq1 (wpAny_loadPart')
section
variable {prog : Program} {w : World} {A : Around} {E : Value → Shared → Prop} {s : Shared}
end
section
variable {prog : Program} {w : World} {A : Around} {E : Value → Shared → Prop} {s : Shared}
end
section
variable {prog : Program} {w : World} {A : Around} {R : Result → Shared → Prop} {T S l : Addr} {xs : Array Value} {bt : Nat → Nat → Bool} {h0 : Heap}
end
section
variable {prog : Program} {w : World} {A : Around} {E : Value → Shared → Prop} {s : Shared}
def IsLs (h : Heap) (v : Value) (ns : List Int) : Prop := ∃ a ys, v = .ref a ∧ h.IsList a ys ∧ IntsAre ys.toList ns
theorem IsLs.keep {h h' : Heap} {v : Value} {ns : List Int} (x : IsLs h v ns) (k : ∀ b o, h.get? b = some o → h'.get? b = some o) : IsLs h' v ns := by
  obtain ⟨a, ys, rfl, ⟨o, e, r⟩, i⟩ := x
  exact ⟨a, ys, rfl, ⟨o, k _ _ e, r⟩, i⟩
end
end L2
namespace L2
open PySem PySem.Spec PyProof.Rows
section
variable {X : Cx} {K : PySem.W.Frag}
end
end L2
namespace PD
open PySem L2
section
variable {K : PySem.W.Frag} {S S' : Sx} {κ κ' : Bool} {Γ Γ' Γ'' : Ctx} {P : Post}
end
end PD
namespace PD
open PySem L2
section
variable {K : PySem.W.Frag} {S S' : Sx} {κ κ' : Bool} {Γ Γ' Γ'' : Ctx} {P : Post} {E : XK}
end
end PD
namespace PD
open PySem L2
section
variable {K : PySem.W.Frag} {S S' : Sx} {κ κ' : Bool} {Γ Γ' Γ'' Γ3 : Ctx} {P : Post} {E : XK}
end
end PD
namespace PD
open PySem L2
section
variable {K : PySem.W.Frag} {S S' : Sx} {κ κ' : Bool} {Γ Γ' Γ'' Γ3 : Ctx} {P : Post} {E : XK}
end
end PD
namespace PD
open PySem L2
section
variable {K : PySem.W.Frag} {S S' : Sx} {κ κ' : Bool} {Γ Γ' Γ'' Γ3 : Ctx} {P : Post} {E : XK}
end
end PD
namespace Dsp
variable {pa : Nat → Nat → Prop} {Z : Nat → Prop} {rk : Nat → Nat} {q : Nat → Nat → Nat → Bool} {x y : Nat}
def vv (q : Nat → Nat → Nat → Bool) : Option Nat → Nat → Option Nat → Nat
  | some a, v, some b => if q a v b = true then 1 else 0
  | _, _, _ => 0
def Dn (pa : Nat → Nat → Prop) : Nat → List Nat → Nat → Prop
  | v, [], w => pa v w
  | v, d :: D, w => pa v d ∧ Dn pa d D w
theorem Dn.lt (dag : ∀ a b, pa a b → rk a < rk b) : ∀ {D : List Nat} {v w : Nat}, Dn pa v D w → rk v < rk w ∧ ∀ d ∈ D, rk v < rk d ∧ rk d < rk w
  | [], v, w, h => ⟨dag _ _ h, fun _ z => (nomatch z)⟩
  | d :: D, v, w, h => by
    have ih := Dn.lt dag h.2
    have := dag _ _ h.1
    refine ⟨by omega, fun e he => ?_⟩
    rcases List.mem_cons.mp he with rfl | he
    · exact ⟨this, ih.1⟩
    · have := ih.2 e he
      omega
theorem Dn.nd (dag : ∀ a b, pa a b → rk a < rk b) : ∀ {D : List Nat} {v w : Nat}, Dn pa v D w → D.Nodup
  | [], _, _, _ => List.nodup_nil
  | d :: D, v, w, h => List.nodup_cons.mpr ⟨fun z => by have := (Dn.lt dag h.2).2 d z; omega, Dn.nd dag h.2⟩
theorem Dn.head {D C : List Nat} {v w b : Nat} (h : Dn pa v D w) (hb : (D ++ w :: C).head? = some b) : pa v b := by
  cases D with
  | nil => cases hb; exact h
  | cons d D => cases hb; exact h.1
theorem no_back (dag : ∀ a b, pa a b → rk a < rk b) {a b : Nat} (h : pa a b) : ¬ pa b a := fun z => by
  have := dag _ _ h
  have := dag _ _ z
  omega
theorem Dn.ok (dag : ∀ a b, pa a b → rk a < rk b) : ∀ {D : List Nat} {v w : Nat}, Dn pa v D w → (∀ d ∈ D, ¬ Z d) → Ok pa Z (v :: (D ++ [w]))
  | [], v, w, h, _ => ok_cons.mpr ⟨.inr h, fun t ht => (by cases ht), ok_one⟩
  | d :: D, v, w, h, nz => ok_cons.mpr ⟨.inr h.1, fun t ht => by
      have dt : pa d t := Dn.head (C := []) h.2 ht
      exact ⟨fun c => absurd c.1 (no_back dag dt), fun _ => nz d List.mem_cons_self⟩, Dn.ok dag h.2 fun e he => nz e (List.mem_cons_of_mem _ he)⟩
structure Rt (pa : Nat → Nat → Prop) (Z : Nat → Prop) (x y : Nat) (l : List Nat) : Prop where
  ok : Ok pa Z l
  nd : l.Nodup
  hd : l.head? = some x
  la : l.getLast? = some y
theorem Rt.rev {l : List Nat} (h : Rt pa Z x y l) : Rt pa Z y x l.reverse := ⟨h.ok.rev, by
  exact List.pairwise_reverse.mpr (h.nd.imp fun hn e => hn e.symm), by rw [List.head?_reverse]; exact h.la, by rw [List.getLast?_reverse]; exact h.hd⟩
def Wy (pa : Nat → Nat → Prop) (Z : Nat → Prop) : Nat → List Nat → Prop
  | v, [] => Z v
  | v, d :: T => ¬ Z v ∧ pa v d ∧ Wy pa Z d T
theorem Wy.split : ∀ {D T : List Nat} {v w : Nat}, Wy pa Z v (D ++ w :: T) → Dn pa v D w ∧ ¬ Z v ∧ (∀ d ∈ D, ¬ Z d) ∧ Wy pa Z w T
  | [], T, v, w, h => ⟨h.2.1, h.1, fun _ z => (nomatch z), h.2.2⟩
  | d :: D, T, v, w, h => by
    obtain ⟨a, b, c, e⟩ := Wy.split (D := D) h.2.2
    refine ⟨⟨h.2.1, a⟩, h.1, fun f hf => ?_, e⟩
    rcases List.mem_cons.mp hf with rfl | hf
    · exact b
    · exact c f hf
theorem Wy.hi : ∀ {T : List Nat} {v : Nat}, Wy pa Z v T → Hi pa Z v
  | [], v, h => ⟨v, h, .refl _⟩
  | d :: T, v, h => Hi.up (Wy.hi h.2.2) h.2.1
theorem Wy.lt (dag : ∀ a b, pa a b → rk a < rk b) : ∀ {T : List Nat} {v : Nat}, Wy pa Z v T → T.Nodup ∧ ∀ t ∈ T, rk v < rk t
  | [], v, h => ⟨List.nodup_nil, fun _ z => (nomatch z)⟩
  | d :: T, v, h => by
    obtain ⟨a, b⟩ := Wy.lt dag h.2.2
    have := dag _ _ h.2.1
    refine ⟨List.nodup_cons.mpr ⟨fun z => by have := b d z; omega, a⟩, fun t ht => ?_⟩
    rcases List.mem_cons.mp ht with rfl | ht
    · exact this
    · have := b t ht
      omega
structure VeeAt (pa : Nat → Nat → Prop) (r : List Nat) (v : Nat) (A B : List Nat) : Prop where
  eq : r = A ++ v :: B
  l : ∃ a, A.getLast? = some a ∧ pa a v
  r : ∃ b, B.head? = some b ∧ pa b v
theorem VeeAt.rev {r : List Nat} {v : Nat} {A B : List Nat} (h : VeeAt pa r v A B) : VeeAt pa r.reverse v B.reverse A.reverse := ⟨by rw [h.eq]; simp, by
  obtain ⟨b, h1, h2⟩ := h.r
  exact ⟨b, by rw [List.getLast?_reverse]; exact h1, h2⟩, by
  obtain ⟨a, h1, h2⟩ := h.l
  exact ⟨a, by rw [List.head?_reverse]; exact h1, h2⟩⟩
section
variable (dag : ∀ a b, pa a b → rk a < rk b) (hq : ∀ a v b, q a v b = true ↔ pa a v ∧ pa b v)
include dag hq
end
end Dsp
namespace PD
open PySem L2
section
variable {K : PySem.W.Frag} {S S' : Sx} {κ κ' : Bool} {Γ Γ' Γ'' Γ3 : Ctx} {P : Post}
def EvC (K : PySem.W.Frag) (S : Sx) (t : TE) (Γ : Ctx) (d : PyData) : Prop := ∀ (H0 F0 H F : Hp) (σ : St), DEnv K S H0 F0 H F σ Γ → ∀ Q : VK, (∀ v H' F', Gr H F H' F' → Rp K true .fresh H F' v d → Q v H') → t σ H Q
theorem EvC.toE {t : TE} {d : PyData} (h : EvC K S t Γ d) : EvE K S κ t Γ d := fun H0 F0 H F σ e Q q => h H0 F0 H F σ e Q fun v H' F' g p => q v H' F' g (rp_weak (κ := true) (fun _ => rfl) (rp_map (κ := true) (κ' := true) (S' := S) (H0' := H0) (fun a xs z => ⟨z.1, fun c => by
    obtain ⟨u, hu⟩ := e.sd a c
    exact z.2 (by show H a ≠ none; rw [hu]; simp)⟩) (fun _ _ z => z) p))
end
end PD
namespace PD
open PySem L2
section
variable {K : PySem.W.Frag} {S S' : Sx} {κ κ' : Bool} {Γ Γ' Γ'' Γ3 : Ctx} {P : Post}
end
end PD
namespace L2
open PySem
theorem sub_lenQ : ∀ (l p : List Nat), l.Nodup → (∀ k ∈ l, k ∈ p) → l.length ≤ p.length
  | [], _, _, _ => Nat.zero_le _
  | a :: l, p, nd, h => by
    obtain ⟨n1, n2⟩ := List.nodup_cons.mp nd
    have ap := h a List.mem_cons_self
    have ih := sub_lenQ l (p.erase a) n2 fun k hk => (List.mem_erase_of_ne (fun e : k = a => n1 (e ▸ hk))).mpr (h k (List.mem_cons_of_mem _ hk))
    rw [List.length_erase_of_mem ap] at ih
    have := List.length_pos_of_mem ap
    rw [List.length_cons]
    omega
theorem free_place {t : SetTable} {b : Bool} (ht : TOk b t) (hz : t.place.size ≤ t.mask) : ∃ j, j < t.mask + 1 ∧ t.slot j = .empty := by
  have key : ∃ j, j < t.mask + 1 ∧ j ∉ t.place.toList := by
    refine Classical.byContradiction fun z => ?_
    have all : ∀ j ∈ List.range (t.mask + 1), j ∈ t.place.toList := fun j hj => Classical.byContradiction fun q => z ⟨j, List.mem_range.mp hj, q⟩
    have := sub_lenQ _ _ List.nodup_range all
    rw [List.length_range, Array.length_toList] at this
    omega
  obtain ⟨j, h1, h2⟩ := key
  refine ⟨j, h1, ?_⟩
  unfold SetTable.slot
  dsimp only
  rw [ht.dum, has_nil]
  have : t.place[SetTable.below t.place j]? ≠ some j := fun q => h2 (by rw [← Array.getElem?_toList] at q; exact List.mem_of_getElem? q)
  simp [this]
theorem slot_live {t : SetTable} {b : Bool} (ht : TOk b t) {j : Nat} (h : t.slot j ≠ .empty) : ∃ i, t.slot j = .live i ∧ i < t.place.size := by
  unfold SetTable.slot at h ⊢
  dsimp only at h ⊢
  rw [ht.dum, has_nil] at h ⊢
  by_cases e : t.place[SetTable.below t.place j]? = some j
  · refine ⟨SetTable.below t.place j, by simp [e], ?_⟩
    exact Classical.byContradiction fun q => by
      rw [Array.getElem?_eq_none (by omega)] at e
      cases e
  · simp [e] at h
theorem go_free {t : SetTable} {b : Bool} (ht : TOk b t) {g : Nat → Int} {h : Int} (hg : ∀ i, i < t.place.size → g i ≠ h) {j0 : Nat} (h0 : t.slot j0 = .empty) :
    ∀ (n m fuel j i pt : Nat), m ≤ 9 → ((walkN t.mask n (i, pt)).1 = j0) → (n = 0 → j = j0) → (n ≠ 0 → m + 10 * n ≤ fuel + 8) → fuel ≠ 0 →
      ∃ j', SetTable.probe.go t g h fuel { j, more := m, i, perturb := pt, dummy := none } = some (.empty j' none) ∧ t.slot j' = .empty
  | n, m, 0, j, i, pt, _, _, _, _, hf => absurd rfl hf
  | 0, m, fuel + 1, j, i, pt, _, _, hj, _, _ => by
    refine ⟨j0, ?_, h0⟩
    unfold SetTable.probe.go
    dsimp only
    rw [hj rfl, h0]
  | n + 1, m, fuel + 1, j, i, pt, hm, hw, hj, hf, _ => by
    have hf := hf (Nat.succ_ne_zero _)
    by_cases he : t.slot j = .empty
    · refine ⟨j, ?_, he⟩
      unfold SetTable.probe.go
      dsimp only
      rw [he]
    · obtain ⟨k, e, hk⟩ := slot_live ht he
      have st : SetTable.probe.go t g h (fuel + 1) { j, more := m, i, perturb := pt, dummy := none } = SetTable.probe.go t g h fuel (t.advance { j, more := m, i, perturb := pt, dummy := none }) := by
        conv => lhs; unfold SetTable.probe.go
        dsimp only
        rw [e]
        dsimp only
        rw [if_neg (by simpa using hg k hk)]
      rw [st]
      unfold SetTable.advance
      dsimp only
      by_cases hm0 : m > 0
      · rw [if_pos hm0]
        exact go_free ht hg h0 (n + 1) (m - 1) fuel (j + 1) i pt (by omega) hw (fun z => absurd z (Nat.succ_ne_zero _)) (fun _ => by omega) (by omega)
      · rw [if_neg hm0]
        refine go_free ht hg h0 n _ fuel (SetTable.leap t.mask i pt).1 _ _ ?_ hw (fun z => ?_) (fun z => ?_) (by omega)
        · unfold SetTable.runEnd
          split <;> omega
        · subst z
          exact hw
        · have : SetTable.runEnd t.mask (SetTable.leap t.mask i pt).1 - (SetTable.leap t.mask i pt).1 ≤ 9 := by
            unfold SetTable.runEnd
            split <;> omega
          omega
theorem probe_free {t : SetTable} {b : Bool} (ht : TOk b t) {k : Nat} (hm : t.mask + 1 = 2 ^ k) (hz : t.place.size ≤ t.mask) {g : Nat → Int} {h : Int} (hg : ∀ i, i < t.place.size → g i ≠ h) :
    ∃ j, t.probe g h (t.probeStart h) = some (.empty j none) ∧ t.slot j = .empty := by
  obtain ⟨j0, h1, h0⟩ := free_place ht hz
  have hi : SetTable.bits h % (t.mask + 1) < t.mask + 1 := Nat.mod_lt _ (Nat.succ_pos _)
  obtain ⟨n, hn, hw⟩ := walk_hits hm hi (hbits_lt h) h1
  have r9 : SetTable.runEnd t.mask (SetTable.bits h % (t.mask + 1)) - SetTable.bits h % (t.mask + 1) ≤ 9 := by
    unfold SetTable.runEnd
    split <;> omega
  refine go_free ht hg h0 n _ (10 * SetTable.turns t.mask) _ _ _ r9 hw (fun z => ?_) (fun z => ?_) ?_
  · subst z
    exact hw
  · omega
  · unfold SetTable.turns
    omega
end L2
namespace L2
open PySem PySem.Spec PyProof.Rows
structure Roomy (t : SetTable) : Prop where
  pw : ∃ k, t.mask + 1 = 2 ^ k
  big : 7 ≤ t.mask
  few : t.place.size * 5 < t.mask * 3
theorem Roomy.odd {t : SetTable} (h : Roomy t) : t.gaveWay = false := by
  obtain ⟨k, e⟩ := h.pw
  have := h.big
  unfold SetTable.gaveWay
  cases k with
  | zero => simp at e; omega
  | succ k =>
    rw [Nat.pow_succ] at e
    have : t.mask % 2 = 1 := by omega
    rw [this]
    rfl
def SetV (b : Bool) (a : Addr) (l : List (Int × Value)) (h : Heap) : Prop :=
  ∃ o es ep t, h.get? a = some o ∧ o.ExactSet ∧ o.data = .set es ep t ∧ es.toList.Perm l ∧ es.size < scanBound ∧ t.fits es.size = true ∧ TOk b t ∧ Roomy t
section
variable {prog : Program} {w : World} {A : Around} {E : Value → Shared → Prop} {s : Shared} {b : Bool} {a : Addr} {l : List (Int × Value)}
theorem SetV.at {h h' : Heap} (x : SetV b a l h) (e : ∀ o, h.get? a = some o → h'.get? a = some o) : SetV b a l h' :=
  let ⟨o, es, ep, t, ho, r⟩ := x
  ⟨o, es, ep, t, e o ho, r⟩
theorem fits_place {t : SetTable} {n : Nat} (h : t.fits n = true) : t.place.size = n := by
  simp only [SetTable.fits, Bool.and_eq_true, beq_iff_eq] at h
  exact h.1
theorem relayV {wanted : Nat} {o : Obj} {es : Array (Int × Value)} {ep : Nat} {t : SetTable} {Q : Unit → Shared → Prop} (ho : s.heap.get? a = some o) (hex : o.ExactSet) (hd : o.data = .set es ep t) (hp : es.toList.Perm l)
    (hz : es.size < scanBound) (hf : t.fits es.size = true) (ht : TOk b t) (hw : 4 * es.size ≤ wanted) (hw2 : 7 ≤ wanted) (h1 : wanted < 100000)
    (k : ∀ h', Heap.SameBut a s.heap h' → SetV b a l h' → Q () { s with heap := h' }) : wpAny (model prog w) A (setRelay a wanted) Q E s := by
  obtain ⟨j, ej, j1, j2⟩ := sizeAbove_ok h1
  unfold setRelay
  refine wpAny_bind (wpAny_setState_of ho hd hf ?_)
  dsimp only
  rw [if_neg (by rw [ej, sizeLine_eq]; omega)]
  have m1 : SetTable.sizeAbove wanted - 1 + 1 = 2 ^ j := by rw [ej]; omega
  obtain ⟨t', order, e1, e2, e3, e4, e5, e6⟩ := laid_ok m1 t.finger (t.movedTo (SetTable.sizeAbove wanted - 1)) t.led t.plain (es.map (·.1)) (by rw [Array.size_map, ej]; omega)
  rw [Array.size_map] at e5 e6
  have er : t.relaid (es.map (·.1)) wanted = some (t', order) := e1
  have pm := reorder_perm e5
  have sz : (order.filterMap (es[·]?)).size = es.size := by rw [← Array.length_toList, pm.length_eq, Array.length_toList]
  rw [ht.led] at e2
  rw [er]
  refine wpAny_bind ?_
  show wpAny _ _ (ite ((order.filterMap (es[·]?)).size != es.size) _ _) _ _ _
  rw [if_neg (by rw [sz]; simp)]
  refine wpAny_pure ?_
  have ft : t'.fits (order.filterMap (es[·]?)).size = true := by
    unfold SetTable.fits SetTable.fill
    rw [e2.dum, e6, sz, e3]
    simp
    rw [ej]
    omega
  have mk : t'.mask + 1 = 2 ^ j := by rw [e3]; exact m1
  have rm : Roomy t' := ⟨⟨j, mk⟩, by omega, by rw [e6]; omega⟩
  refine wpAny_storeSet_of ho hd ?_ (fits_of_scanBound (by rw [sz]; exact hz))
  exact k _ (Heap.SameBut.update ..) ⟨_, _, _, _, storeI ho hd _ _, hex, rfl, pm.trans hp, by rw [sz]; exact hz, ft, e2, rm⟩
theorem insertAt_perm {α : Type} (xs : Array α) (p : Nat) (x : α) : (SetTable.insertAt xs p x).toList.Perm (xs.toList ++ [x]) := by
  rw [SetTable.toList_insertAt]
  refine List.perm_middle.trans ?_
  rw [List.take_append_drop]
  exact (List.perm_append_singleton x xs.toList).symm
theorem insertAt_size {α : Type} (xs : Array α) (p : Nat) (x : α) : (SetTable.insertAt xs p x).size = xs.size + 1 := by
  have := (insertAt_perm xs p x).length_eq
  simpa using this
theorem addV {c : Addr} {hx : Int} {Q : Bool → Shared → Prop} (hS : SetV b a l s.heap) (hl : l.length + 1 < 1000) (hne : ∀ e ∈ l, e.1 ≠ hx)
    (hv : ∀ (A : Around) (E : Value → Shared → Prop) (R : Bool → Shared → Prop), (∀ v, R v s) → wpAny (model prog w) A (hashByValue 8 (.ref c)) R E s)
    (k : ∀ h', Heap.SameBut a s.heap h' → SetV b a (l ++ [(hx, .ref c)]) h' → Q true { s with heap := h' }) :
    wpAny (model prog w) A (setAddHashed a (.ref c) hx) Q E s := by
  obtain ⟨o, es, ep, t, ho, hex, hd, hp, hz, hf, ht, hr⟩ := hS
  have hn : es.size = l.length := by have := hp.length_eq; simpa using this
  have hps := fits_place hf
  obtain ⟨kk, hkk⟩ := hr.pw
  have b1 := hr.big
  have b2 := hr.few
  have hg : ∀ i, i < t.place.size → (es[i]?.map (·.1)).getD 0 ≠ hx := fun i hi => by
    rw [Array.getElem?_eq_getElem (by omega)]
    exact hne _ (hp.mem_iff.mp (Array.getElem_mem_toList (by omega)))
  obtain ⟨j, ej, hj⟩ := probe_free ht hkk (by omega) (g := fun i => (es[i]?.map (·.1)).getD 0) (h := hx) hg
  unfold setAddHashed setAddHashedIn
  refine wpAny_holding (wpAny_bind (wpAny_setState_of ho hd hf ?_))
  dsimp only
  rw [show byScan (.ref c) es = false from rfl]
  simp only [Bool.false_eq_true, ↓reduceIte]
  unfold setSearch setSearchFrom
  refine wpAny_bind (m := setState a >>= _) (wpAny_bind (wpAny_setState_of ho hd hf ?_))
  dsimp only
  rw [hr.odd]
  simp only [Bool.false_eq_true, ↓reduceIte]
  generalize hq : SetTable.probe t _ hx _ = q
  have eq : q = some (.empty j none) := hq.symm.trans ej
  subst eq
  refine wpAny_pure ?_
  dsimp only
  refine wpAny_bind (wpAny_setState_of ho hd hf ?_)
  dsimp only
  have pok := put_ok ht hj
  have psz : (t.put j).1.place.size = t.place.size + 1 := insertAt_size _ _ _
  have pmk : (t.put j).1.mask = t.mask := rfl
  have pd := pok.dum
  generalize ht1 : (t.put j).1 = t1 at *
  generalize (t.put j).2 = p at *
  have ep1 := insertAt_perm es p (hx, Value.ref c)
  have es1 := insertAt_size es p (hx, Value.ref c)
  generalize SetTable.insertAt es p (hx, Value.ref c) = e1 at *
  have fin : ∀ t2 : SetTable, t2.place = t1.place → t2.mask = t1.mask → t2.dummies = t1.dummies → TOk b t2 → wpAny (model prog w) A (do
      storeSet a e1 t2
      if (!false && t2.tooFull) = true then do
        setRelay a (SetTable.grown (es.size + 1))
        pure true
      else pure true) Q E s := fun t2 q1 q2 q3 q4 => by
    have f2 : t2.fits e1.size = true := by
      unfold SetTable.fits SetTable.fill
      rw [q1, q2, q3, pd, psz, pmk, es1]
      simp
      omega
    have hz1 : e1.size < scanBound := by rw [es1]; unfold scanBound; omega
    refine wpAny_bind (wpAny_storeSet_of ho hd ?_ (fits_of_scanBound hz1))
    have g1 := storeI ho hd e1 t2
    have u1 := Heap.SameBut.update s.heap a (Obj.putSet e1 t2)
    have pl : e1.toList.Perm (l ++ [(hx, .ref c)]) := ep1.trans (hp.append_right _)
    split
    · rename_i hfull
      have hfull : t2.fill * 5 ≥ t2.mask * 3 := by simpa [SetTable.tooFull] using hfull
      unfold SetTable.fill at hfull
      rw [q1, q2, q3, pd, psz, pmk] at hfull
      have gr : SetTable.grown (es.size + 1) = (es.size + 1) * 4 := by unfold SetTable.grown; rw [if_neg (by omega)]
      have h0 : (#[] : Array Nat).size = 0 := rfl
      refine wpAny_bind (relayV (s := { s with heap := _ }) g1 hex rfl pl hz1 f2 q4 (by rw [gr, es1]; omega) (by rw [gr]; omega) (by rw [gr]; omega) fun h' u v => ?_)
      exact wpAny_pure (k h' (u1.trans u) v)
    · rename_i hfull
      have hfull : ¬ t2.fill * 5 ≥ t2.mask * 3 := by simpa [SetTable.tooFull] using hfull
      unfold SetTable.fill at hfull
      rw [q3, pd] at hfull
      have h0 : (#[] : Array Nat).size = 0 := rfl
      refine wpAny_pure (k _ u1 ⟨_, e1, _, t2, g1, hex, rfl, pl, hz1, f2, q4, ⟨kk, by rw [q2, pmk]; exact hkk⟩, by rw [q2, pmk]; exact b1, by omega⟩)
  split
  · refine wpAny_bind (hv _ _ _ fun v => ?_)
    cases v
    · exact fin { t1 with plain := false } rfl rfl rfl pok.plain
    · exact fin t1 rfl rfl rfl pok
  · refine wpAny_bind (wpAny_pure ?_)
    exact fin t1 rfl rfl rfl pok
end
end L2
namespace L2
open PySem PySem.Spec PySem.W PyProof.Rows
section
variable {prog : Program} {w : World} {A : Around} {E : Value → Shared → Prop} {s : Shared} {b : Bool} {a I T : Addr} {l : List (Int × Value)}
theorem iterV {Q : Value → Shared → Prop} (hb : w.params.followText "set-order" = b) (hS : SetV (!b) a l s.heap)
    (k : ∀ (us : List Value) (I : Addr) (fp : List Addr) (St : Nat → Shared → Prop) (h' : Heap) (d : Drawn), us.Perm (l.map (·.2)) → us.length < scanBound → (∀ c o, s.heap.get? c = some o → h'.get? c = some o) → s.heap.objs.size ≤ I → (∀ c ∈ fp, c = a ∨ s.heap.objs.size ≤ c) →
      (∀ A : Around, A.handled = none → WalksS prog w A I fp [I] (fun x y => y = x) us.length (fun i v => us[i]? = some v) St) → St 0 { s with heap := h', drawn := d } → Q (.ref I) { s with heap := h', drawn := d }) :
    wpAny (model prog w) A (pyIter (.ref a)) Q E s := by
  obtain ⟨o, es, ep, t, ho, hex, hd, hp, hz, hf, ht, _⟩ := hS
  have hT : s.TypeIs (.ref a) "set" := ⟨o, ho, hex.1⟩
  have ha : a < s.heap.objs.size := Heap.lt_size ho
  have hi0 : (es.toList.map (·.2)).Perm (l.map (·.2)) := hp.map _
  refine wpAny_pyIter_slot hT F.slot_set_iter (wpAny_call_entry F.slot_set_iter hT set_entryI ?_ (F.args_set_iter_1 _))
  unfold Builtin.«frozenset.__iter__» Builtin.Frozenset.slot0
  refine wpAny_bind (wpAny_bind (wpAny_pure ?_))
  unfold Builtin.Frozenset.addrOf Builtin.Frozenset.sizeOf
  refine wpAny_pure ?_
  refine wpAny_bind (wpAny_bind (wpAny_setEntries_of ho hd hf (wpAny_pure ?_)))
  unfold setDrawn
  refine wpAny_bind (wpAny_bind (wpAny_setState_of ho hd hf ?_))
  dsimp only
  unfold setsByText
  refine wpAny_bind (wpAny_bind (wpAny_askSetting (wpAny_pure (wpAny_pure ?_))))
  have fin : ∀ (first : Value) (hp1 : Heap) (d : Drawn) (o1 : hp1.get? a = some o), (∀ v s', s' = { s with heap := hp1.push (ItO first 0 a es.size ep), drawn := d } → v = .ref hp1.objs.size → Q v s') →
      wpAny (model prog w) A.in1 (do
        let __do_lift ← setEpoch a
        let __do_lift ← newFields "set_iterator" [first, rawInt 0, Value.ref a, rawInt ↑es.size, rawInt ↑__do_lift]
        ret __do_lift) (fun fin s' => ∃ v, fin = Fin.done (Flow.ret v) ∧ ∃ T' r, s'.TypeIs v T' ∧ typeLookup (Value.type T') (Str.ofString "__next__") = pure (some r) ∧ Q v s') E { s with heap := hp1, drawn := d } := fun first hp1 d o1 q => by
    refine wpAny_bind (wpAny_setEpoch_of o1 hd hf ?_)
    refine wpAny_bind (wpAny_newObj_type (hd := by size_fits) (wpAny_pure ⟨_, rfl, "set_iterator", _, ⟨_, Heap.get?_push_size _ rfl, rfl⟩, setit_next.lookup, q _ _ rfl rfl⟩))
  cases b with
  | true =>
    rw [show (model prog w).w.params.followText "set-order" = true from hb]
    simp only [Bool.not_true, Bool.false_and, Bool.false_eq_true, ↓reduceIte]
    refine wpAny_bind (wpAny_pure (fin (rawInt 0) s.heap s.drawn ho ?_))
    rintro _ _ rfl rfl
    have pm := pickOrder_perm (w.params.setOrder a ep) es
    have hu : ((pickOrder (w.params.setOrder a ep) es).toList.map (·.2)).length = es.size := by rw [(pm.map _).length_eq, List.length_map, Array.length_toList]
    refine k _ s.heap.objs.size [s.heap.objs.size, a] (fun i s' => s'.heap.get? s.heap.objs.size = some (ItO (.int ((fun _ => 0) i : Nat) 0) i a es.size ep) ∧ s'.heap.get? a = some o) _ s.drawn ((pm.map (·.2)).trans hi0) (by rw [hu]; exact hz)
      (fun c o' z => Heap.get?_push_of_some _ z) (Nat.le_refl _) (fun c hc => ?_) (fun A' h' => by rw [hu]; exact walkAB (sl := fun _ => 0) hd hf hu (Nat.ne_of_gt ha) (fun i s' A'' E' R z _ r => goText hb z hd hf r) h') ⟨Heap.get?_push_size _ rfl, Heap.get?_push_of_some _ ho⟩
    rcases List.mem_cons.mp hc with rfl | hc
    · exact .inr (Nat.le_refl _)
    · exact .inl (List.mem_singleton.mp hc)
  | false =>
    rw [show (model prog w).w.params.followText "set-order" = false from hb]
    simp only [Bool.not_false, Bool.true_and]
    split
    · rename_i hdr
      refine wpAny_bind (drawI es.size _ _ List.length_range fun js d hj => ?_)
      refine wpAny_bind (wpAny_newTuple ?_ (by rw [List.length_map, hj.length_eq, List.length_range]; exact fits_of_scanBound hz))
      refine fin _ _ d (Heap.get?_push_of_some _ ho) ?_
      rintro _ _ rfl rfl
      have hlt : ∀ j ∈ js, j < es.size := fun j z => List.mem_range.mp (hj.mem_iff.mp z)
      have pm : (js.filterMap fun j => (es.toList.map (·.2))[j]?).Perm (es.toList.map (·.2)) := by
        refine (hj.filterMap _).trans ?_
        have q := filterMap_getElem?_range (es.toList.map (·.2)).toArray
        simp only [List.size_toArray, List.length_map, Array.length_toList, List.getElem?_toArray] at q
        rw [q]
      have hu : (js.filterMap fun j => (es.toList.map (·.2))[j]?).length = es.size := by rw [pm.length_eq, List.length_map, Array.length_toList]
      have z1 : (s.heap.push { cls := .type "tuple", data := .seq (js.map fun (i : Nat) => rawInt i).toArray }).objs.size = s.heap.objs.size + 1 := Heap.size_push _ _
      refine k _ _ [_, a, s.heap.objs.size] (fun i s' => s'.heap.get? _ = some (ItO (.ref s.heap.objs.size) i a es.size ep) ∧ s'.heap.get? a = some o ∧ s'.heap.get? s.heap.objs.size = some { cls := .type "tuple", data := .seq (js.map fun (i : Nat) => rawInt i).toArray }) _ d (pm.trans hi0) (by rw [hu]; exact hz)
        (fun c o' z => Heap.get?_push_of_some _ (Heap.get?_push_of_some _ z)) (by rw [z1]; exact Nat.le_succ _) (fun c hc => ?_) (fun A' h' => by rw [hu]; exact walkD hd hf (by rw [z1]; exact Nat.ne_of_gt (Nat.lt_succ_of_lt ha)) (by rw [z1]; exact Nat.succ_ne_self _) rfl (by rw [hj.length_eq, List.length_range]) rfl hlt h')
        ⟨Heap.get?_push_size _ rfl, Heap.get?_push_of_some _ (Heap.get?_push_of_some _ ho), Heap.get?_push_of_some _ (Heap.get?_push_size _ rfl)⟩
      rcases List.mem_cons.mp hc with rfl | hc
      · exact .inr (by rw [z1]; omega)
      · rcases List.mem_cons.mp hc with rfl | hc
        · exact .inl rfl
        · exact .inr (by rw [List.mem_singleton.mp hc]; exact Nat.le_refl _)
    · rename_i hdr
      have hdr : (!t.plain && decide (es.size > 1)) = false := by
        cases q : (!t.plain && decide (es.size > 1)) with
        | false => rfl
        | true => exact absurd q hdr
      refine wpAny_bind (wpAny_pure (fin (rawInt 0) s.heap s.drawn ho ?_))
      rintro _ _ rfl rfl
      have hu : (es.toList.map (·.2)).length = es.size := by rw [List.length_map, Array.length_toList]
      refine k _ s.heap.objs.size [s.heap.objs.size, a] (fun i s' => s'.heap.get? s.heap.objs.size = some (ItO (.int (slP t i) 0) i a es.size ep) ∧ s'.heap.get? a = some o) _ s.drawn hi0 (by rw [hu]; exact hz)
        (fun c o' z => Heap.get?_push_of_some _ z) (Nat.le_refl _) (fun c hc => ?_) (fun A' h' => by rw [hu]; exact walkAB (sl := slP t) hd hf hu (Nat.ne_of_gt ha) (fun i s' A'' E' R z hi r => goPlace hb z hd hf ht hdr hi r) h') ⟨Heap.get?_push_size _ rfl, Heap.get?_push_of_some _ ho⟩
      rcases List.mem_cons.mp hc with rfl | hc
      · exact .inr (Nat.le_refl _)
      · exact .inl (List.mem_singleton.mp hc)
theorem collectV {Q : List Value → Shared → Prop} (hh : A.handled = none) (hb : w.params.followText "set-order" = b) (hS : SetV (!b) a l s.heap)
    (k : ∀ (us : List Value) (h' : Heap) (d : Drawn) (tk : Nat), us.Perm (l.map (·.2)) → (∀ c o, s.heap.get? c = some o → h'.get? c = some o) → s.heap.objs.size ≤ h'.objs.size → Q us { s with heap := h', drawn := d, toks := tk }) :
    wpAny (model prog w) A (collect (.ref a)) Q E s := by
  obtain ⟨oa, _, _, _, hoa, hxa, _⟩ := id hS
  have ha : a < s.heap.objs.size := Heap.lt_size hoa
  unfold collect
  refine wpAny_bind (wpAny_runValue (codeAny_builtin F.entry_proto_collect ?_))
  rw [Around.under_plainId F.plain_proto_collect _]
  show wpAny _ A.in1 (newList [] >>= fun l => again (.builtin "list.__iadd__" ⟨[l, .ref a], []⟩)) _ _ s
  refine wpAny_bind (wpAny_newObj_type (wpAny_pure ⟨plainId_quiet F.plain_list_iadd _, codeAny_builtin F.entry_list_iadd ?_⟩))
  rw [Around.under_plainId F.plain_list_iadd _]
  have hL : (s.heap.push { cls := .type "list", data := .seq ([] : List Value).toArray }).get? s.heap.objs.size = some { cls := .type "list", data := .seq ([] : List Value).toArray } := Heap.get?_push_size _ rfl
  have z1 : (s.heap.push { cls := .type "list", data := .seq ([] : List Value).toArray }).objs.size = s.heap.objs.size + 1 := Heap.size_push _ _
  have hS1 : SetV (!b) a l (s.heap.push { cls := .type "list", data := .seq ([] : List Value).toArray }) := hS.at fun o z => Heap.get?_push_of_some _ z
  have hT1 : Shared.TypeIs { s with heap := s.heap.push { cls := .type "list", data := .seq ([] : List Value).toArray } } (.ref a) "set" := ⟨oa, Heap.get?_push_of_some _ hoa, hxa.1⟩
  show wpAny _ A.in1 (Builtin.List.listExtendWith (.ref s.heap.objs.size) (.ref a) (.ref s.heap.objs.size)) _ _ _
  unfold Builtin.List.listExtendWith
  refine wpAny_bind (wpAny_typeOf hT1 ?_)
  have h1 : Builtin.List.listSameRef (.ref s.heap.objs.size) (.ref a) = false := by simp [Builtin.List.listSameRef, Nat.ne_of_gt ha]
  rw [if_neg (by rw [h1]; decide)]
  refine wpAny_bind (iterV hb hS1 fun us I fp St h2 d hp hz hk hIz hfp W st => ?_)
  refine wpAny_bind (wpAny_holding ?_)
  unfold Builtin.List.listLengthHint
  have hT2 : Shared.TypeIs { s with heap := h2, drawn := d } (.ref a) "set" := ⟨oa, hk _ _ (Heap.get?_push_of_some _ hoa), hxa.1⟩
  refine wpAny_bind (wpAny_specialOf hT2 set_len_look ?_)
  dsimp only
  rw [show splitId "set.__len__" = some ("set", "__len__") from by decide +kernel]
  dsimp only
  refine wpAny_bind (wpAny_isInstance (b := true) hT2 (by rw [isSubtype_type]; kernel_rfl) ?_)
  rw [if_neg (by decide)]
  refine wiT (by decide +kernel) ?_
  refine wpAny_bind (wpAny_typeOf hT2 (wpAny_pure ?_))
  refine wiT (by decide +kernel) ?_
  refine wpAny_bind (wpAny_rule ?_)
  have hLf : s.heap.objs.size ∉ fp := fun z => by
    rcases hfp _ z with q | q
    · exact Nat.ne_of_gt ha q
    · have q : (s.heap.push { cls := .type "list", data := .seq ([] : List Value).toArray }).objs.size ≤ s.heap.objs.size := q
      rw [z1] at q
      exact Nat.not_succ_le_self _ q
  have hS2 := hk _ _ hL
  refine wpAny_bind ?_
  show wpAny _ A.in1 (updateSeq s.heap.objs.size (·.push .none) >>= fun _ => updateSeq s.heap.objs.size (·.pop)) _ _ _
  refine wpAny_bind (wpAny_updateSeq (s := { s with heap := h2, drawn := d }) hS2 rfl ?_)
  have hS3 := Heap.get?_update_self (Obj.mapSeq (·.push Value.none)) hS2 rfl
  refine wpAny_updateSeq (s := { s with heap := _, drawn := d }) hS3 rfl ?_
  have hS4 := Heap.get?_update_self (Obj.mapSeq (·.pop)) hS3 rfl
  have oth : ∀ c o, c ≠ s.heap.objs.size → h2.get? c = some o → ((h2.update s.heap.objs.size (Obj.mapSeq (·.push Value.none))).update s.heap.objs.size (Obj.mapSeq (·.pop))).get? c = some o :=
    fun c o n z => (Heap.get?_update_other _ _ (Ne.symm n)).trans ((Heap.get?_update_other _ _ (Ne.symm n)).trans z)
  have hA : A.in1.handled = none := hh
  have W1 := W A.in1 hA
  refine wpAny_pure ⟨plainId_quiet F.plain_extend_loop _, codeAny_extend_loopS W1 (fits_of_scanBound hz) _ hLf _ us.length 0 _ _ _ rfl (Nat.zero_le _)
    (W1.frame 0 { s with heap := h2, drawn := d } _ s.toks st (Nat.le_refl _) fun c hc o z => oth c o (fun q => hLf (q ▸ hc)) z) hS4 (ItemsOf.nil _) fun s' acc c' hm hS' ha' => ?_⟩
  show wpAny _ A (load s.heap.objs.size >>= _) _ _ s'
  refine wpAny_bind (wpAny_load hS' (wpAny_pure ?_))
  have e : acc.toList = us := by
    refine List.ext_getElem? fun i => ?_
    rw [Array.getElem?_toList]
    by_cases hi' : i < acc.size
    · rw [Array.getElem?_eq_getElem hi']
      exact (ha'.2 i _ (Array.getElem?_eq_getElem hi')).symm
    · rw [Array.getElem?_eq_none (by omega), List.getElem?_eq_none (by have := ha'.1; omega)]
  rw [e]
  obtain ⟨hx, gx, dx, tx, ox⟩ := s'
  have eg : gx = s.gens := hm.gens
  have ed : dx = d := hm.drawn
  have eo : ox = s.os := hm.os
  subst eg; subst ed; subst eo
  refine k us hx dx tx hp (fun c o z => ?_) (Nat.le_of_lt (Heap.lt_size hS'))
  have c1 : c < s.heap.objs.size := Heap.lt_size z
  refine hm.heap c o (fun q => ?_) (oth c o (Nat.ne_of_lt c1) (hk _ _ (Heap.get?_push_of_some _ z)))
  rcases List.mem_cons.mp q with q | q
  · exact Nat.ne_of_lt c1 q
  · have q := List.mem_singleton.mp q
    subst q
    have y : (s.heap.push { cls := .type "list", data := .seq ([] : List Value).toArray }).objs.size ≤ c := hIz
    rw [z1] at y
    exact Nat.not_lt.mpr (Nat.le_of_succ_le y) c1
theorem Prs.perm {h : Heap} {us vs : List Value} (p : us.Perm vs) : ∀ {ps : List (Int × Int)}, Prs h vs ps → ∃ qs, qs.Perm ps ∧ Prs h us qs := by
  induction p with
  | nil => intro ps T; cases T; exact ⟨[], .nil, .nil⟩
  | cons x _ ih =>
    intro ps T
    cases T with
    | cons h1 h2 h3 r =>
      obtain ⟨qs, q1, q2⟩ := ih r
      exact ⟨_ :: qs, q1.cons _, .cons h1 h2 h3 q2⟩
  | swap x y r =>
    intro ps T
    cases T with
    | cons h1 h2 h3 r1 =>
      cases r1 with
      | cons g1 g2 g3 r2 => exact ⟨_, .swap _ _ _, .cons g1 g2 g3 (.cons h1 h2 h3 r2)⟩
  | trans _ _ ih1 ih2 =>
    intro ps T
    obtain ⟨qs, q1, q2⟩ := ih2 T
    obtain ⟨rs, r1, r2⟩ := ih1 q2
    exact ⟨rs, r1.trans q1, r2⟩
theorem sortedV {ps : List (Int × Int)} {Q : Value → Shared → Prop} (hh : A.handled = none) (hb : w.params.followText "set-order" = b) (hS : SetV (!b) a l s.heap) (T : Prs s.heap (l.map (·.2)) ps) (sm : Small ps) (nd : ps.Nodup) (h64 : l.length < 64)
    (k : ∀ (vs : List Value) (qs : List (Int × Int)) (p : Array Nat) (c : Addr) (e : Nat) (h' : Heap) (d : Drawn) (tk : Nat), vs.Perm (l.map (·.2)) → qs.Perm ps → Prs s.heap vs qs → So.PO vs.length p → So.Up (pkAt qs) p vs.length → (∀ c o, s.heap.get? c = some o → h'.get? c = some o) → s.heap.objs.size ≤ c → h'.get? c = some (seqObj "list" (outP vs p) e) →
      Q (.ref c) { s with heap := h', drawn := d, toks := tk }) : wpAny (model prog w) A (call (.builtin "sorted") [.ref a]) Q E s := by
  refine Calls.call_function_entry kind_sorted plain_sorted entry_sorted (args_sorted1 _) ?_
  unfold Builtin.«sorted»
  refine wpAny_bind (m := checkCount "sorted" 1 1 _) (wpAny_pure ?_)
  refine wpAny_bind (collectV (A := A.in1) hh hb hS fun us h2 d tk hp hk le => ?_)
  obtain ⟨qs, qp, Tq⟩ := T.perm hp
  have hz : us.length = l.length := by rw [hp.length_eq, List.length_map]
  refine wpAny_bind (wpAny_newList ?_ (by have := fits_of_scanBound (n := us.length) (by unfold scanBound; omega); exact this))
  have hL : (h2.push (seqObj "list" us.toArray 0)).get? h2.objs.size = some (seqObj "list" us.toArray 0) := Heap.get?_push_size _ rfl
  have hsz : (h2.push (seqObj "list" us.toArray 0)).objs.size = h2.objs.size + 1 := Heap.size_push _ _
  have T' : Prs (h2.push (seqObj "list" us.toArray 0)) us qs := Tq.keep fun b o z _ => Heap.get?_push_of_some _ (hk _ _ z)
  refine wpAny_bind (wpAny_holding (wpAny_call_entry (s := { s with heap := h2.push (seqObj "list" us.toArray 0), drawn := d, toks := tk }) slot_list_sort ⟨_, hL, rfl⟩ entry_list_sort (lsort_prs hL T' ⟨fun q hq => sm.s q (qp.mem_iff.mp hq)⟩ (qp.nodup_iff.mpr nd) (by omega) fun p po up => ⟨_, rfl, ?_⟩) (args_list_sort _)))
  obtain ⟨e, he⟩ := sortedHeap_at (out := outP us p) hL
  refine wpAny_pure ⟨_, rfl, k us qs p h2.objs.size e _ d tk hp qp Tq po up (fun c o z => ?_) le he⟩
  have z2 := hk c o z
  rw [sortedHeap_old (Nat.ne_of_lt (Heap.lt_size z2)) (by rw [hsz]; exact Nat.lt_succ_of_lt (Heap.lt_size z2))]
  exact Heap.get?_push_of_some _ z2
end
end L2
namespace L2
open PySem PySem.Spec PySem.W PyProof.Rows
def hP (q : Int × Int) : Int := reduceHash (Builtin.Tuple.tupleHashOf [hashInt q.1, hashInt q.2])
theorem Prs.keepIn {h h' : Heap} : ∀ {vs : List Value} {ps : List (Int × Int)}, Prs h vs ps → (∀ b o, Value.ref b ∈ vs → h.get? b = some o → h'.get? b = some o) → Prs h' vs ps
  | _, _, .nil, _ => .nil
  | _, _, .cons h1 h2 h3 r, k => .cons (k _ _ List.mem_cons_self h1) h2 h3 (r.keepIn fun b o m => k b o (List.mem_cons_of_mem _ m))
theorem Prs.one {h : Heap} : ∀ {vs : List Value} {ps : List (Int × Int)} {i : Nat} {v : Value}, Prs h vs ps → vs[i]? = some v → ∃ a o n x y t u, v = .ref a ∧ ps[i]? = some (x, y) ∧ h.get? a = some o ∧ o.cls = .type "tuple" ∧ o.data = .seq #[.int x t, .int y u] n
  | _, _, _, _, .nil, e => by simp at e
  | _, _, 0, v, .cons h1 h2 h3 _, e => by
    simp at e
    exact ⟨_, _, _, _, _, _, _, e.symm, rfl, h1, h2, h3⟩
  | _, _, i + 1, v, .cons _ _ _ r, e => r.one (i := i) (by simpa using e)
section
variable {prog : Program} {w : World} {A : Around} {E : Value → Shared → Prop} {s : Shared} {b : Bool} {a I T : Addr}
theorem hbv {c : Addr} {o : Obj} {n : Nat} {x y : Int} {t u : Tok} {Q : Bool → Shared → Prop} (ho : s.heap.get? c = some o) (hc : o.cls = .type "tuple") (hd : o.data = .seq #[.int x t, .int y u] n) (k : ∀ v, Q v s) :
    wpAny (model prog w) A (hashByValue 8 (.ref c)) Q E s := by
  have hT : s.TypeIs (.ref c) "tuple" := ⟨o, ho, hc⟩
  unfold hashByValue
  refine wpAny_bind (wpAny_specialOf hT F.slot_tuple_hash.lookup ?_)
  dsimp only
  refine wpAny_bind (wpAny_seqItems ho hd ?_)
  simp only [Option.getD_some, ← Array.forIn_toList, List.forIn_cons, List.forIn_nil]
  unfold hashByValue
  refine wpAny_bind (wpAny_bind (wpAny_bind (wpAny_pure ?_)))
  simp only [Bool.not_true, Bool.false_eq_true, ↓reduceIte]
  refine wpAny_pure ?_
  dsimp only
  refine wpAny_bind (wpAny_bind (wpAny_pure ?_))
  simp only [Bool.not_true, Bool.false_eq_true, ↓reduceIte]
  exact wpAny_pure (wpAny_pure (wpAny_pure (k _)))
def zipP (vs : List Value) (ps : List (Int × Int)) : List (Int × Value) := List.zip (ps.map hP) vs
theorem zipP_snd {vs : List Value} {ps : List (Int × Int)} (h : vs.length = ps.length) : (zipP vs ps).map (·.2) = vs := by
  unfold zipP
  exact List.map_snd_zip (by rw [List.length_map]; omega)
theorem zipP_fst {vs : List Value} {ps : List (Int × Int)} (h : vs.length = ps.length) : (zipP vs ps).map (·.1) = ps.map hP := by
  unfold zipP
  exact List.map_fst_zip (by rw [List.length_map]; omega)
theorem zipP_at {vs : List Value} {ps : List (Int × Int)} {i : Nat} {v : Value} {q : Int × Int} (h1 : vs[i]? = some v) (h2 : ps[i]? = some q) : (zipP vs ps)[i]? = some (hP q, v) := by
  unfold zipP
  rw [List.getElem?_zip_eq_some]
  exact ⟨by rw [List.getElem?_map, h2]; rfl, h1⟩
theorem updateV {R : Result → Shared → Prop} {fp wr : List Addr} {G : Array GenState → Array GenState → Prop} {n : Nat} {P : Nat → Value → Prop} {St : Nat → Shared → Prop} (W : WalksS prog w A.in1 I fp wr G n P St) (S : Addr) (hSf : S ∉ fp) (hu : A.in1.units < cLine)
    {vs : List Value} {ps : List (Int × Int)} (hn : vs.length = n) (hval : ∀ i v, P i v → vs[i]? = some v) (nd : (ps.map hP).Nodup) (hz : n + 1 < 1000) (hlow : ∀ c, Value.ref c ∈ vs → c ∉ S :: wr) :
    ∀ (k i : Nat) (s : Shared), n - i = k → i ≤ n → St i s → Prs s.heap vs ps → SetV b S ((zipP vs ps).take i) s.heap → (∀ s', Moved (S :: wr) G s s' → SetV b S (zipP vs ps) s'.heap → R (.ok (.ret .none)) s') →
      codeAny (model prog w) A (.builtin "set.update.loop" ⟨[.ref S, .ref I], []⟩) R s := by
  have hSw : S ∉ wr := fun h => hSf (W.sub _ h)
  have sb : ∀ c ∈ wr, c ∈ S :: wr := fun c => List.mem_cons_of_mem _
  intro k
  induction k with
  | zero =>
    intro i s hk hi st T hS hR
    obtain rfl : i = n := by omega
    have hl := T.len
    have ez : (zipP vs ps).take i = zipP vs ps := List.take_of_length_le (by unfold zipP; rw [List.length_zip, List.length_map]; omega)
    rw [ez] at hS
    refine codeAny_builtin F.entry_set_update_loop ?_
    rw [Around.under_plainId F.plain_set_update_loop _]
    show wpAny _ A.in1 (pyNext (.ref I) >>= _) _ _ s
    refine wpAny_bind (W.done s _ _ st fun s' hm => wpAny_pure (hR s' (hm.mono sb) (hS.at fun o z => hm.heap S o hSw z)))
  | succ k ih =>
    intro i s hk hi st T hS hR
    have hlt : i < n := by omega
    have hl := T.len
    refine codeAny_builtin F.entry_set_update_loop ?_
    rw [Around.under_plainId F.plain_set_update_loop _]
    show wpAny _ A.in1 (pyNext (.ref I) >>= _) _ _ s
    refine wpAny_bind (W.item i s _ _ hlt st fun v s' hP' st' hm => ?_)
    have hv := hval i v hP'
    have T' : Prs s'.heap vs ps := T.keepIn fun c o m z => hm.heap c o (fun q => hlow c m (sb c q)) z
    obtain ⟨c, o, m, x, y, t, u, rfl, e1, e2, e3, e4⟩ := T'.one hv
    have hS' : SetV b S ((zipP vs ps).take i) s'.heap := hS.at fun o z => hm.heap S o hSw z
    show wpAny _ A.in1 (holding [Value.ref c] (setAdd S (.ref c)) >>= _) _ _ s'
    refine wpAny_bind (wpAny_holding ?_)
    unfold setAdd
    have hk1 : IsTupleKey (intKind prog w) s'.heap [x, y] c := ⟨o, _, _, e2, e3, e4, .cons (intKind_is _ _ _ _) (.cons (intKind_is _ _ _ _) .nil)⟩
    refine wpAny_holding (wpAny_bind (wpAny_pyHash_tuple hu hk1 ?_))
    have ea : (zipP vs ps)[i]? = some (hP (x, y), .ref c) := zipP_at hv e1
    have et : (zipP vs ps).take (i + 1) = (zipP vs ps).take i ++ [(hP (x, y), .ref c)] := by rw [List.take_succ, ea]; rfl
    have hne : ∀ e ∈ (zipP vs ps).take i, e.1 ≠ hP (x, y) := fun e he q => by
      have n1 : ((zipP vs ps).map (·.1)).Nodup := by rw [zipP_fst hl]; exact nd
      have n2 : (((zipP vs ps).take (i + 1)).map (·.1)).Nodup := n1.sublist ((List.take_sublist _ _).map _)
      rw [et, List.map_append, List.nodup_append] at n2
      exact n2.2.2 e.1 (List.mem_map_of_mem he) (hP (x, y)) (by simp) q
    show wpAny _ _ (setAddHashed S (.ref c) (hP (x, y))) _ _ _
    refine addV (s := { s' with toks := _ }) hS' (by have := List.length_take_le i (zipP vs ps); omega) hne (fun A E R r => hbv e2 e3 e4 r) fun h' uu hS2 => ?_
    rw [← et] at hS2
    have T2 : Prs h' vs ps := T'.keepIn fun c' o' m' z => (uu.2 c' fun q => hlow c' m' (by rw [q]; exact .head _)).trans z
    refine wpAny_pure ⟨plainId_quiet F.plain_set_update_loop _, ih (i + 1) _ (by omega) hlt (W.frame _ s' _ _ st' (Nat.le_add_right _ _) fun c hc o z => ?_) T2 hS2 fun s'' hm'' hS'' => ?_⟩
    · rw [uu.2 c fun q : c = S => hSf (by rw [← q]; exact hc)]; exact z
    · refine hR s'' (Moved.trans W.gtrans ((hm.mono sb).then_heap (Nat.le_add_right _ _) fun c o hc z => ?_) hm'') hS''
      rw [uu.2 c fun q : c = S => hc (by rw [q]; exact .head _)]; exact z
end
end L2
namespace L2
open PySem PySem.Spec PySem.W PyProof.Rows
section
variable {prog : Program} {w : World} {A : Around} {E : Value → Shared → Prop} {s : Shared} {b : Bool} {a I T : Addr}
set_option maxHeartbeats 3200000 in
theorem setOfV {L : Addr} {items : Array Value} {ps : List (Int × Int)} {Q : Value → Shared → Prop} (hh : A.handled = none) (hb : w.params.followText "set-order" = b) (hl : s.heap.IsList L items) (hu : A.units + 9 < cLine) (T : Prs s.heap items.toList ps) (nd : (ps.map hP).Nodup) (hz : items.size + 1 < 1000)
    (k : ∀ (h' : Heap) (tk : Nat), SetV (!b) s.heap.objs.size (zipP items.toList ps) h' → (∀ c o, s.heap.get? c = some o → h'.get? c = some o) → Q (.ref s.heap.objs.size) { s with heap := h', toks := tk }) :
    wpAny (model prog w) A (call (.type "set") [.ref L]) Q E s := by
  obtain ⟨c, tl, hmro⟩ := F.called_set.mro
  have hmade := F.called_set.made
  have hsub := F.called_set.sub
  refine wpAny_call (codeAny_of_tree ?_)
  show wpAny _ _ (callAny (.type "set") _) _ _ _
  refine wpAny_pure ⟨Code.quiet_builtin _ (by decide +kernel), codeAny_builtin F.entry_type_call ?_⟩
  rw [Around.under_plain (weight_type_call_type "set" [.ref L] []) rfl]
  have h1 := F.called_set.notType
  have h2 := F.called_set.canCreate
  have hct := F.typeCall_set_1 (.ref L)
  repeat (any_goals (first | assumption | wp_step))
  refine codeAny_mono (newI (.ref L) (E := E) hb (Q₁ := fun x s₁ => x = .ref s.heap.objs.size ∧ s₁ = { s with heap := s.heap.push { cls := .type "set", dict := none, data := .set #[] 0 (.fresh 0 0 (!b)) } }) ⟨rfl, rfl⟩) fun r s₁ hr => ?_
  cases r with
  | error e => exact hr
  | ok fl =>
    cases fl with
    | ret obj =>
      obtain ⟨rfl, rfl⟩ := hr
      generalize ho0 : ({ cls := .type "set", dict := none, data := .set #[] 0 (.fresh 0 0 (!b)) } : Obj) = o0
      have hS : (s.heap.push o0).get? s.heap.objs.size = some o0 := Heap.get?_push_size _ (by rw [← ho0]; rfl)
      have hS0 : SetV (!b) s.heap.objs.size [] (s.heap.push o0) := ⟨o0, #[], 0, _, hS, by rw [← ho0]; exact ⟨rfl, rfl, rfl⟩, by rw [← ho0], .nil, by decide, by rfl, TOk.fresh, ⟨3, rfl⟩, (show 7 ≤ 7 from Nat.le_refl _), (show 0 * 5 < 7 * 3 by decide)⟩
      have hT : Shared.TypeIs { s with heap := s.heap.push o0 } (.ref s.heap.objs.size) "set" := ⟨_, hS, by rw [← ho0]⟩
      have hli := F.called_set.init.lookup
      have hbi := F.called_set.init.bind (.ref s.heap.objs.size)
      repeat (any_goals (first | assumption | wp_step))
      refine codeAny_mono (codeAny_call_builtin (R := wants (fun r s₂ => r = .none ∧ ∃ h' tk, s₂ = { s with heap := h', toks := tk } ∧ SetV (!b) s.heap.objs.size (zipP items.toList ps) h' ∧
          (∀ c o, s.heap.get? c = some o → h'.get? c = some o)) E) F.called_set.init.plain F.entry_set_init (check_set_init_1 hT ?_)) fun r₂ s₂ hr₂ => ?_
      · obtain ⟨ol, hol, hcl, nl, hdl⟩ := hl
        obtain ⟨oc, od, odt, osl⟩ := ol
        simp only at hcl hdl
        subst hcl; subst hdl
        have hol' : (s.heap.push o0).get? L = some { cls := .type "list", dict := od, data := .seq items nl, slots := osl } := Heap.get?_push_of_some _ hol
        have e1 := F.sub_list_set
        have e2 := F.sub_list_frozenset
        have hne : (Value.type "list" == Value.type "dict") = false := by decide
        have hl1 : (s.heap.push o0).IsList L items := ⟨_, hol', rfl, nl, rfl⟩
        have hz0 : (s.heap.push o0).objs.size = s.heap.objs.size + 1 := Heap.size_push _ _
        subst ho0
        unfold Builtin.«set.__init__» noKeywords Builtin.Frozenset.updateFrom
        generalize hPI : pyIter = PI
        wp_walk
        subst hPI
        refine wpAny_pyIter_list hl1 ?_
        refine wpAny_bind (wpAny_runValue ?_)
        have hlS : L < s.heap.objs.size := Heap.lt_size hol
        have hh3 : A.in1.in1.in1.handled = none := hh
        have hneI : L ≠ (s.heap.push { cls := .type "set", dict := none, data := .set #[] 0 (.fresh 0 0 (!b)) }).objs.size := by rw [hz0]; exact Nat.ne_of_lt (Nat.lt_succ_of_lt hlS)
        have hSf : s.heap.objs.size ∉ [(s.heap.push { cls := .type "set", dict := none, data := .set #[] 0 (.fresh 0 0 (!b)) }).objs.size, L] := by
          rw [hz0]
          intro z
          rcases List.mem_cons.mp z with z | z
          · exact Nat.ne_of_lt (Nat.lt_succ_self _) z
          · exact Nat.ne_of_gt hlS (List.mem_singleton.mp z)
        have hval : ∀ (i : Nat) (v : Value), items[i]? = some v → items.toList[i]? = some v := fun i v hv => by rw [Array.getElem?_toList]; exact hv
        have hlow : ∀ c, Value.ref c ∈ items.toList → c ∉ s.heap.objs.size :: [(s.heap.push { cls := .type "set", dict := none, data := .set #[] 0 (.fresh 0 0 (!b)) }).objs.size] := fun c hc z => by
          obtain ⟨i, hi⟩ := List.getElem?_of_mem hc
          obtain ⟨c', o', _, _, _, _, _, e, _, g, _⟩ := T.one hi
          cases e
          have hc := Heap.lt_size g
          rw [hz0] at z
          rcases List.mem_cons.mp z with z | z
          · exact Nat.ne_of_lt hc z
          · exact Nat.ne_of_lt (Nat.lt_succ_of_lt hc) (List.mem_singleton.mp z)
        refine updateV (b := !b) ((Walks.list hh3 _ L hneI items).toS) s.heap.objs.size hSf (by show A.units + 1 + 1 + 1 < cLine; omega) (by rw [Array.length_toList]) hval nd hz hlow (items.size - 0) 0 _ (by omega) (Nat.zero_le _) ⟨⟨_, Heap.get?_push_size _ rfl, rfl, rfl⟩, (hl1.push _)⟩ ?hT0 ?hS0 ?hR
        case hT0 => exact T.keep fun _ _ z _ => Heap.get?_push_of_some _ (Heap.get?_push_of_some _ z)
        case hS0 => exact hS0.at fun o z => Heap.get?_push_of_some _ z
        case hR =>
          intro s' hm hS'
          obtain ⟨h', g', d', tk', os'⟩ := s'
          have eg : g' = s.gens := hm.gens
          have ed : d' = s.drawn := hm.drawn
          have eo : os' = s.os := hm.os
          subst eg; subst ed; subst eo
          show wpAny _ _ _ _ _ _
          refine wpAny_pure ?_
          show wpAny _ _ (ret Value.none) _ _ _
          refine wpAny_pure ⟨rfl, h', tk', rfl, hS', fun c o z => ?_⟩
          have hc : c < s.heap.objs.size := Heap.lt_size z
          refine hm.heap c o (fun q => ?_) (Heap.get?_push_of_some _ (Heap.get?_push_of_some _ z))
          rcases List.mem_cons.mp q with q | q
          · exact Nat.ne_of_lt hc q
          · have q := List.mem_singleton.mp q
            rw [hz0] at q
            exact Nat.ne_of_lt (Nat.lt_succ_of_lt hc) q
      · cases r₂ with
        | error e => exact hr₂
        | ok fl₂ =>
          cases fl₂ with
          | ret r =>
            obtain ⟨rfl, h', tk, rfl, hS', hk'⟩ := hr₂
            repeat (any_goals (first | assumption | wp_step))
            exact k _ _ hS' hk'
          | _ => exact hr₂.elim
    | _ => exact hr.elim
end
end L2
namespace L2
open PySem PySem.Spec PySem.W PyProof.Rows
def vv : V → Value
  | .ref a => .ref a
  | _ => .none
theorem PsV.vv {K : PySem.W.Frag} {H : Hp} : ∀ {ws : List V} {ps : List (Int × Int)} {its : List Value}, PsV K H ws ps → Vals ws its → its = ws.map vv
  | _, _, _, .nil, .nil => rfl
  | _, _, _, .cons _ r, .cons rx rs => by
    cases rx
    rw [List.map_cons, ← r.vv rs]
    rfl
theorem PsV.vals {K : PySem.W.Frag} {H : Hp} : ∀ {ws : List V} {ps : List (Int × Int)}, PsV K H ws ps → Vals ws (ws.map L2.vv)
  | _, _, .nil => .nil
  | _, _, .cons _ r => .cons rfl r.vals
theorem PsV.perm {K : PySem.W.Frag} {H : Hp} {us vs : List V} (p : us.Perm vs) : ∀ {ps : List (Int × Int)}, PsV K H vs ps → ∃ qs, qs.Perm ps ∧ PsV K H us qs := by
  induction p with
  | nil => intro ps T; cases T; exact ⟨[], .nil, .nil⟩
  | cons x _ ih =>
    intro ps T
    cases T with
    | cons h1 r =>
      obtain ⟨qs, q1, q2⟩ := ih r
      exact ⟨_ :: qs, q1.cons _, .cons h1 q2⟩
  | swap x y r =>
    intro ps T
    cases T with
    | cons h1 r1 =>
      cases r1 with
      | cons g1 r2 => exact ⟨_, .swap _ _ _, .cons g1 (.cons h1 r2)⟩
  | trans _ _ ih1 ih2 =>
    intro ps T
    obtain ⟨qs, q1, q2⟩ := ih2 T
    obtain ⟨rs, r1, r2⟩ := ih1 q2
    exact ⟨rs, r1.trans q1, r2⟩
theorem perm_map_inv {α β : Type} {f : α → β} {us vs : List β} (p : us.Perm vs) : ∀ {ws : List α}, vs = ws.map f → ∃ ws2 : List α, ws2.Perm ws ∧ us = ws2.map f := by
  induction p with
  | nil => intro ws e; exact ⟨[], by rw [List.map_eq_nil_iff.mp e.symm], rfl⟩
  | cons x _ ih =>
    intro ws e
    cases ws with
    | nil => cases e
    | cons w ws =>
      rw [List.map_cons] at e
      injection e with e1 e2
      obtain ⟨w2, p2, q2⟩ := ih e2
      exact ⟨w :: w2, p2.cons _, by rw [List.map_cons, e1, q2]⟩
  | swap x y r =>
    intro ws e
    match ws, e with
    | w1 :: w2 :: ws, e =>
      rw [List.map_cons, List.map_cons] at e
      injection e with e1 e2
      injection e2 with e2 e3
      exact ⟨w2 :: w1 :: ws, .swap _ _ _, by rw [List.map_cons, List.map_cons, e1, e2, e3]⟩
  | trans _ _ ih1 ih2 =>
    intro ws e
    obtain ⟨w2, p2, q2⟩ := ih2 e
    obtain ⟨w3, p3, q3⟩ := ih1 q2
    exact ⟨w3, p3.trans p2, q3⟩
theorem Prs.inj {h : Heap} : ∀ {vs : List Value} {ps qs : List (Int × Int)}, Prs h vs ps → Prs h vs qs → ps = qs
  | _, _, _, .nil, .nil => rfl
  | _, _, _, .cons h1 _ h3 r, .cons g1 _ g3 r' => by
    rw [h1] at g1
    cases g1
    rw [h3] at g3
    injection g3 with g3 _
    simp at g3
    rw [g3.1.1, g3.2.1, r.inj r']
section
variable {X : Cx} {K : PySem.W.Frag} {b : Bool}
def SetPB (b : Bool) (a : Addr) (ws : List V) (ps : List (Int × Int)) : HO := .ext (SetV (!b) a (zipP (ws.map vv) ps))
theorem setPB_ok {P : Program} {w : World} {H : Hp} {h : Heap} {a : Addr} {ws : List V} {ps : List (Int × Int)} (x : SetV (!b) a (zipP (ws.map vv) ps) h) : ObjOk P w H h a (SetPB b a ws ps) :=
  ⟨x, (let ⟨o, _, _, _, ho, _⟩ := x; ⟨o, ho⟩), fun _ _ x1 k => x1.at k⟩
def rSetP (K : PySem.W.Frag) (b : Bool) : List V → Hp → VK → Prop := fun xs H Q => ∃ p ws ps, xs = [.ref p] ∧ SqL K H p ws ∧ PsV K H ws ps ∧ (ps.map hP).Nodup ∧ ws.length < 900 ∧ ∀ l, H l = none → Q (.ref l) (upd H l (SetPB b l ws ps))
theorem call_setP (hK : X.K = K) (hc : X.calm = true) (hu : X.A.units + 64 < cLine) (hb : X.w.params.followText "set-order" = b) : CallR X (.type "set") (rSetP K b) := by
  subst hK
  intro pins s σ H xs us Q I r h
  obtain ⟨p, ws, ps, rfl, hq, pv, nd, hz, q⟩ := h
  obtain ⟨u, rfl, rx⟩ := vals1 r
  cases rx
  obtain ⟨its, r', pl, hy⟩ := I.list hq
  have hl := r'.length
  refine setOfV (ps := ps) (I.ok.hd hc) hb pl.isList (by omega) (by simpa using prs_of I pv r') nd (by rw [List.size_toArray]; omega) fun h' tk hS hk => ?_
  rw [List.toList_toArray, pv.vv r'] at hS
  exact ⟨.ref s.heap.objs.size, _, I.laid (t' := tk) hk (Nat.le_refl _) (setPB_ok hS), rfl, q _ (I.hok.fresh (Nat.le_refl _))⟩
def rSortedSP (K : PySem.W.Frag) (b : Bool) : List V → Hp → VK → Prop := fun xs H Q => ∃ p ws ps, xs = [.ref p] ∧ H p = some (SetPB b p ws ps) ∧ PsV K H ws ps ∧ Small ps ∧ ps.Nodup ∧ ws.length < 64 ∧
  ∀ (ws2 : List V) (y : Array Nat), ws2.Perm ws → (∀ qs, PsV K H ws2 qs → So.PO ws2.length y ∧ So.Up (pkAt qs) y ws2.length) → ∀ l, H l = none → Q (.ref l) (upd H l (.lst (y.toList.map fun i => ws2.getD i .non)))
theorem call_sortedSP (hK : X.K = K) (hc : X.calm = true) (hb : X.w.params.followText "set-order" = b) : CallR X (.builtin "sorted") (rSortedSP K b) := by
  subst hK
  intro pins s σ H xs us Q I r h
  obtain ⟨p, ws, ps, rfl, hH, pv, sm, nd, h64, q⟩ := h
  obtain ⟨u, rfl, rx⟩ := vals1 r
  cases rx
  have hS : SetV (!b) p (zipP (ws.map vv) ps) s.heap := (I.hok p _ hH).1
  have hl : (ws.map vv).length = ps.length := by rw [List.length_map]; exact pv.len
  have hl2 : (zipP (ws.map vv) ps).length = ws.length := by have := congrArg List.length (zipP_snd hl); simpa using this
  refine sortedV (ps := ps) (I.ok.hd hc) hb hS (by rw [zipP_snd hl]; exact prs_of I pv pv.vals) sm nd (by omega) fun vs qs y c e h' d tk hp qp Tq po up hk hle he => ?_
  rw [zipP_snd hl] at hp
  obtain ⟨ws2, wp, rfl⟩ := perm_map_inv hp rfl
  obtain ⟨qs2, qp2, pv2⟩ := pv.perm wp
  cases Tq.inj (prs_of I pv2 pv2.vals)
  rw [List.length_map] at po up
  have vy := vals_pick pv2.vals y.toList po.lt
  have yl : (y.toList.map fun i => ws2.getD i V.non).length ≤ sizeLine := by
    rw [List.length_map, Array.length_toList, po.z, wp.length_eq, sizeLine_eq]
    omega
  have I1 : Inv X pins σ (upd H c (.lst (y.toList.map fun i => ws2.getD i V.non))) { s with heap := h', toks := tk } := I.laid (t' := tk) hk hle (show ObjOk X.prog X.w _ _ _ (.lst (y.toList.map fun i => ws2.getD i V.non)) from ⟨yl, _, e, vy, by simpa [outP] using he⟩)
  have I2 := I1.call (ch := []) (h' := h') (g' := s.gens) (d' := d) (t' := tk) Un.refl I1.hok I1.bare (fun _ z => nomatch z)
  exact ⟨.ref c, _, I2, rfl, q ws2 y wp (fun qs' pv' => ⟨po, by cases (prs_of I pv2 pv2.vals).inj (prs_of I pv' pv'.vals); exact up⟩) _ (I.hok.fresh hle)⟩
end
end L2
namespace PD
open PySem L2
section
variable {K : PySem.W.Frag} {S S' : Sx} {κ κ' b : Bool} {Γ Γ' Γ'' : Ctx}
theorem srtP_of_perm {ps qs : List (Int × Int)} (sm : Small ps) (p : qs.Perm ps) : srtP qs = srtP ps :=
  perm_sortedP ⟨fun q hq => sm.s q (p.mem_iff.mp ((srtP_perm qs).mem_iff.mp hq))⟩ ((srtP_perm qs).trans (p.trans (srtP_perm ps).symm)) (srtP_sorted qs) (srtP_sorted ps)
theorem evo_sortedSetP {ta : TE} {ps : List (Int × Int)} (h : EvL K S false ta Γ (ps.map prD)) (sm : Small ps) (nh : (ps.map hP).Nodup) (h64 : ps.length < 64) :
    EvO K S κ (tCB (rSortedSP K b) (tCons (tCB (rSetP K b) (tCons ta tNil)) tNil)) Γ ((srtP ps).map prD) := fun H0 F0 H F σ e Q q =>
  h H0 F0 H F σ e _ fun a vs H1 F1 g1 p1 k1 => by
    have pv := rp_prs k1
    have vl := pv.len
    have nd : ps.Nodup := List.Pairwise.of_map hP (fun a b h e => h (e ▸ rfl)) nh
    refine ⟨a, vs, ps, rfl, p1, psv_same g1.le pv, nh, by omega, fun p hp => ?_⟩
    have g2 := g1.trans (.newO g1.le hp (SetPB b p vs ps))
    refine ⟨p, vs, ps, rfl, upd_same, psv_same g2.le pv, sm, nd, by omega, fun ws2 y wp pu l hl => ?_⟩
    obtain ⟨qs, qp, pv3⟩ := pv.perm wp
    obtain ⟨po, up⟩ := pu qs (psv_same g2.le pv3)
    have pk' := psv_pick pv3 y.toList po.lt
    rw [pv3.len] at po up
    rw [pick_srtP ⟨fun z hz => sm.s z (qp.mem_iff.mp hz)⟩ po up, srtP_of_perm sm qp] at pk'
    refine q l _ _ F1 (g2.trans (.newO g2.le hl _)) (g2.h.free hl) upd_same (g2.le.free hl) (dpAll_immL (fun d hd => ?_) pk')
    obtain ⟨z, _, rfl⟩ := List.mem_map.mp hd
    rfl
end
end PD
open PySem L2 PD
local macro_rules | `(tactic| walk_at "comp_ok") => `(tactic| (refine CompOk.of (by with_unfolding_all rfl) (by decide +kernel) rfl (by decide +kernel) ?_ (by with_unfolding_all rfl) rfl (by with_unfolding_all rfl); (repeat (with_unfolding_all refine List.forall_mem_cons.mpr ⟨by with_unfolding_all rfl, ?_⟩)); exact List.forall_mem_nil _))
local macro_rules | `(tactic| walk_at "comp_okC") => `(tactic| (refine CompOkC.of (by with_unfolding_all rfl) (fun _ _ => by with_unfolding_all rfl) (by decide +kernel) rfl rfl rfl (by decide +kernel) ?_ (by with_unfolding_all rfl) rfl (by with_unfolding_all rfl); (repeat (with_unfolding_all refine List.forall_mem_cons.mpr ⟨by with_unfolding_all rfl, ?_⟩)); exact List.forall_mem_nil _))
local macro_rules | `(tactic| walk_at "comp_lam") => `(tactic| exact CompOk.lam (by assumption) (by decide +kernel) rfl (by decide +kernel) (by decide +kernel) rfl (by with_unfolding_all rfl))
local macro_rules | `(tactic| walk_at "gc") => `(tactic| ((repeat ((with_reducible apply GetC.succ))) ; (with_reducible exact GetC.zero)))
local macro_rules | `(tactic| walk_at "sc") => `(tactic| ((repeat ((with_reducible apply SetC.succ))) ; (with_reducible exact SetC.zero)))
local macro_rules | `(tactic| walk_at "st") => `(tactic| ((repeat (first | (with_reducible apply StartC.got) | ((with_reducible apply StartC.no)))) ; (with_reducible exact StartC.z)))
local macro_rules | `(tactic| walk_at "cc") => `(tactic| ((repeat (first | (with_reducible apply CaptC.no) | ((with_reducible apply CaptC.got) ; focus walk_at "gc"))); (with_reducible exact CaptC.nil)))
local macro_rules | `(tactic| walk_at "mk") => `(tactic| ((repeat (first | ((with_reducible apply MarkC.got); focus (first | exact MkD.fz | exact MkD.ow | exact MkD.im rfl | exact MkD.ox)) | (with_reducible apply MarkC.no))); (with_reducible exact MarkC.nil)))
local macro_rules | `(tactic| walk_at "sp") => `(tactic| ((repeat (first | ((with_reducible apply SpC.got); focus (first | exact SpD.fz | exact SpD.ow | exact SpD.im rfl | exact SpD.ox | exact SpD.tn)) | (with_reducible apply SpC.no))); (with_reducible exact SpC.nil)))
local macro_rules | `(tactic| walk_at "sd") => `(tactic| first | ((with_reducible apply asm) ; assumption) | decide | omega | skip)
local macro_rules | `(tactic| walk_at "ln") => `(tactic| (simp only [List.length_cons, List.length_nil]; decide))
local macro_rules | `(tactic| walk_at "ev") => `(tactic| first
  | (with_reducible exact ev_int)
  | (with_reducible exact ev_non)
  | (with_reducible exact ev_bl)
  | (with_reducible exact ev_str)
  | (with_reducible exact et_yes)
  | (with_reducible exact ea_nil)
  | (with_reducible exact ep_none)
  | ((with_reducible apply asm) ; (with_reducible assumption))
  | ((with_reducible apply evv) ; walk_at "gc"; decide)
  | ((with_reducible apply evi) ; walk_at "gc"; rfl)
  | ((with_reducible apply evtn) ; walk_at "gc"; done)
  | ((with_reducible apply evw) ; walk_at "gc"; decide)
  | ((with_reducible apply ev_add) <;> walk_at "ev")
  | ((with_reducible apply ev_sub) <;> walk_at "ev")
  | ((with_reducible apply ev_lt) <;> walk_at "ev")
  | ((with_reducible apply ev_le) <;> walk_at "ev")
  | ((with_reducible apply ev_gt) <;> walk_at "ev")
  | ((with_reducible apply ev_ge) <;> walk_at "ev")
  | ((with_reducible apply ev_mul) <;> walk_at "ev")
  | ((with_reducible apply ev_fdiv) <;> walk_at "ev")
  | ((with_reducible apply ev_fdivB) <;> walk_at "ev")
  | ((with_reducible apply ev_mod) <;> walk_at "ev")
  | ((with_reducible apply ev_pow) <;> walk_at "ev")
  | ((with_reducible apply ev_neg) <;> walk_at "ev")
  | ((with_reducible refine' ev_isN (EvE.toD (κ := false) ?_)) <;> walk_at "ev")
  | ((with_reducible refine' ev_notN (EvE.toD (κ := false) ?_)) <;> walk_at "ev")
  | ((with_reducible apply ev_ixL) <;> walk_at "ev")
  | ((with_reducible apply ev_ixT) <;> walk_at "ev")
  | ((with_reducible apply ev_eqI) <;> walk_at "ev" <;> done)
  | ((with_reducible apply ev_neI) <;> walk_at "ev" <;> done)
  | ((with_reducible apply ev_eqB) <;> walk_at "ev" <;> done)
  | ((with_reducible apply ev_neB) <;> walk_at "ev" <;> done)
  | ((with_reducible apply ev_eqS) <;> walk_at "ev" <;> done)
  | ((with_reducible apply ev_neS) <;> walk_at "ev" <;> done)
  | ((with_reducible apply ev_and) <;> (try (with_reducible intro _)) <;> walk_at "ev")
  | ((with_reducible apply ev_or) <;> (try (with_reducible intro _)) <;> walk_at "ev")
  | ((with_reducible apply ev_not) <;> walk_at "ev")
  | ((with_reducible apply et_test) <;> walk_at "ev")
  | ((with_reducible apply et_B) <;> walk_at "ev")
  | ((with_reducible apply et_and) <;> (try (with_reducible intro _)) <;> walk_at "ev")
  | ((with_reducible apply et_or) <;> (try (with_reducible intro _)) <;> walk_at "ev")
  | ((with_reducible apply et_not) <;> walk_at "ev")
  | ((with_reducible apply ea_cons) <;> walk_at "ev")
  | ((with_reducible apply ev_tup) <;> walk_at "ev")
  | ((with_reducible apply EvO.toE) ; ((with_reducible apply evo_lst)) <;> walk_at "ev")
  | ((with_reducible apply evo_lst) <;> walk_at "ev")
  | ((with_reducible apply ev_len) <;> walk_at "ev" <;> done)
  | ((with_reducible apply ev_lenT) <;> walk_at "ev")
  | ((with_reducible apply EvO.toE) ; ((with_reducible apply evo_list)) <;> walk_at "ev")
  | ((with_reducible apply evo_list) <;> walk_at "ev")
  | ((with_reducible apply ev_abs) <;> walk_at "ev")
  | ((with_reducible apply ep_some) <;> walk_at "ev")
  | ((with_reducible apply EvO.toE) ; ((with_reducible apply evo_slice)) <;> walk_at "ev")
  | ((with_reducible apply evo_slice) <;> walk_at "ev")
  | ((with_reducible apply EvO.toE) ; ((with_reducible apply evo_cat)) <;> walk_at "ev")
  | ((with_reducible apply evo_cat) <;> walk_at "ev")
  | ((with_reducible apply EvO.toE) ; ((with_reducible apply evo_rep)) <;> walk_at "ev")
  | ((with_reducible apply evo_rep) <;> walk_at "ev")
  | ((with_reducible apply EvO.toE) ; ((with_reducible apply evo_listRev)) <;> walk_at "ev")
  | ((with_reducible apply evo_listRev) <;> walk_at "ev")
  | ((with_reducible refine' ev_isi (EvE.toD (κ := false) ?_) ?_) <;> walk_at "ev")
  | ((with_reducible apply ev_callF) <;> walk_at "ev")
  | ((with_reducible apply ev_callN) <;> walk_at "ev")
  | ((with_reducible apply evl_ints) ; walk_at "ev"; done)
  | ((with_reducible apply evl_opts) ; walk_at "ev"; done)
  | ((with_reducible apply EvE.toL) ; walk_at "ev"; done)
  | ((with_reducible apply EvO.toL) ; walk_at "ev"; done)
  | (with_reducible apply isE)
  | (with_reducible apply isL)
  | (with_reducible apply isT)
  | (with_reducible apply isA)
  | (with_reducible apply isO)
  | (with_reducible apply isD)
  | (with_reducible apply isI)
  | (with_reducible exact atI0)
  | (with_reducible exact atI1)
  | ((with_reducible apply asm) ; (with_reducible assumption))
  | ((with_reducible apply kit_of) ; with_unfolding_all rfl)
  | (simp only [List.length_cons, List.length_nil]; decide)
  | decide
  | omega
  | skip)
local macro_rules | `(tactic| walk_at "go") => `(tactic| repeat (first
  | ((with_reducible apply exo (te := tLst tNil) true) ; (focus (walk_at "ev"; done)); (focus walk_at "sc"))
  | ((with_reducible apply exs true) ; (focus (walk_at "ev"; done)); (focus walk_at "sc"))
  | ((with_reducible apply exs false) ; (focus (walk_at "ev"; done)); (focus walk_at "sc"))
  | ((with_reducible apply exa) ; (focus walk_at "gc"); (focus (walk_at "ev"; done)); (focus walk_at "sc"); (focus (walk_at "sd"; done)))
  | (with_reducible apply exn)))
local macro_rules | `(tactic| walk_at "run") => `(tactic| (apply run_def; assumption; assumption; assumption; assumption; focus walk_at "st"))
local macro_rules | `(tactic| walk_at "ot") => `(tactic| first | exact oneT_of (Nat.le_refl 1) | exact oneT_of (Nat.zero_le 1))
local macro_rules | `(tactic| walk_at "sv") => `(tactic| ((repeat (first | (with_reducible apply StartV.got) | ((with_reducible apply StartV.no)))) ; (with_reducible exact StartV.z)))
local macro_rules | `(tactic| walk_at "runv") => `(tactic| (apply run_defV; assumption; assumption; assumption; assumption; focus walk_at "sv"))
namespace K32
open PySem L2 PD Cm
def top (i : Nat) : Stmt := PySem.Challenge.pw_causebook_k32_closed.main.body.getD i (.Pass ⟨0, 0, 0, 0⟩)
structure Bs (mg : Str → Option Value) : Prop where
  range : mg "range" = none
  len : mg "len" = none
  sorted : mg "sorted" = none
  set : mg "set" = none
  all : mg "all" = none
  list : mg "list" = none
  isinstance : mg "isinstance" = none
  bool : mg "bool" = none
structure Cs (K : PySem.W.Frag) (mg : Str → Option Value) (t_AGAINST t_ALONG : Tok) : Prop where
  n_AGAINST : mg "AGAINST" = some (.int 0 t_AGAINST)
  n_ALONG : mg "ALONG" = some (.int 1 t_ALONG)
section
variable {P : Program} {w : World} {K : PySem.W.Frag} {mg : Str → Option Value} {base : Heap} {f : Addr} {fd : FuncData} {t_AGAINST t_ALONG : Tok}
open Wd Sh Sx2
theorem line_big : 200000 < sizeLine := by decide
abbrev nl (ks : List Nat) : PyData := .list (ks.map fun k : Nat => .int (k : Int))
theorem nl_imm (ks : List Nat) : ∀ d ∈ ks.map (fun k : Nat => PyData.int (k : Int)), imm d = true := fun d hd => by
  obtain ⟨n, _, rfl⟩ := List.mem_map.mp hd
  rfl
abbrev nls (cs : List (List Nat)) : PyData := .list (cs.map nl)
def zl (ks : List Nat) : List Int := ks.map fun k : Nat => (k : Int)
theorem nl_zl (ks : List Nat) : nl ks = il (zl ks) := by
  unfold zl
  show PyData.list _ = .list _
  rw [List.map_map]
  rfl
theorem zl_back (ks : List Nat) : (srt (zl ks)) = zl ((srt (zl ks)).map Int.toNat) := by
  unfold zl
  rw [List.map_map]
  refine ((List.map_congr_left fun x hx => ?_).trans (List.map_id _)).symm
  obtain ⟨k, _, rfl⟩ := List.mem_map.mp ((srt_perm _).mem_iff.mp hx)
  rfl
def srtN (cs : List Nat) : List Nat := (srt (zl cs)).map Int.toNat
theorem srtN_perm (cs : List Nat) : (srtN cs).Perm cs := by
  have pr : (zl (srtN cs)).Perm (zl cs) := by
    unfold srtN
    rw [← zl_back]
    exact srt_perm _
  have := pr.map Int.toNat
  unfold zl at this
  rw [List.map_map, List.map_map] at this
  have e : (Int.toNat ∘ fun k : Nat => (k : Int)) = id := by funext k; rfl
  rw [e, List.map_id, List.map_id] at this
  exact this
theorem getD_some {α : Type} {l : List α} {k : Nat} {d : α} (h : k < l.length) : l[k]? = some (l.getD k d) := by
  rw [List.getD_eq_getElem?_getD, List.getElem?_eq_getElem h]
  rfl
def unN : PyData → List Nat
  | .list ds => ds.map fun d => match d with | .int i => i.toNat | _ => 0
  | _ => []
theorem unN_nl (cs : List Nat) : unN (nl cs) = cs := by
  show (cs.map fun k : Nat => PyData.int (k : Int)).map _ = cs
  rw [List.map_map]
  exact List.map_id' _
theorem mem_zl {k : Nat} {r : List Nat} : decide ((k : Int) ∈ zl r) = decide (k ∈ r) := by
  unfold zl
  by_cases h : k ∈ r
  · rw [decide_eq_true h, decide_eq_true (List.mem_map.mpr ⟨k, h, rfl⟩)]
  · rw [decide_eq_false h, decide_eq_false fun z => ?_]
    obtain ⟨j, hj, e⟩ := List.mem_map.mp z
    have : j = k := by omega
    exact h (this ▸ hj)
theorem srtN_rise {cs : List Nat} (h : cs.Nodup) : (srtN cs).Pairwise (· < ·) := by
  have h1 : (srtN cs).Nodup := (srtN_perm cs).nodup_iff.mpr h
  have h2 : (srtN cs).Pairwise (· ≤ ·) := by
    have := srt_sorted (zl cs)
    unfold srtN
    rw [List.pairwise_map]
    refine this.imp fun {a b} hab => ?_
    omega
  rw [List.nodup_iff_pairwise_ne] at h1
  exact (h1.and h2).imp fun {a b} z => by omega
def kD (ks : List Nat) : List PyData := ks.map fun k : Nat => .int (k : Int)
theorem kD_len (ks : List Nat) : (kD ks).length = ks.length := List.length_map ..
theorem srt_zl (ks : List Nat) : (srt (zl ks)).map PyData.int = kD (srtN ks) := by
  have := zl_back ks
  have e : (srt (zl ks)).map PyData.int = (zl (srtN ks)).map PyData.int := congrArg (List.map PyData.int) this
  rw [e]
  show (List.map _ (srtN ks)).map PyData.int = _
  rw [List.map_map]
  rfl
def effF (cs : List (List Nat)) (k : Nat) : List Nat := (List.range cs.length).filter fun o => decide (k ∈ cs.getD o [])
def pre_effects (ds : List PyData) (d : PyData) : Prop := ∃ (cs : List (List Nat)) (k : Nat), ds = [nls cs, .int k] ∧ cs.length ≤ 1000 ∧ d = nl (effF cs k)
theorem len_effects (ds : List PyData) (d : PyData) (h : pre_effects ds d) : ds.length = 2 := by obtain ⟨a, b, rfl, _⟩ := h; rfl
theorem sc_effects : FnScope ["causes", "k"] ["causes", "k"] (defScope (top 1)) := ⟨rfl, rfl, rfl, by decide +kernel, rfl, by decide +kernel, by decide +kernel⟩
theorem ok_effects (F : Fun K "effects" "effects" (top 1) f fd) (B : Bs mg) (Z : Cs K mg t_AGAINST t_ALONG)  : FnOk P w K mg base CX0 1 f fd ["causes", "k"] (spD K true pre_effects) := by
  have sc := sc_effects
  refine F.ok sc (fun vs H Q E h => spD_len len_effects h) (fun cdv A outer s H vs Q E hr h => ?_)
  obtain ⟨Fh, ds, d, le, dp, p, q⟩ := h
  refine ⟨_, (pss_one (ps_ret (pe_comp rfl (N := ["other", "k", "causes"]) (js := [none, some 1, some 0]) (by walk_at "comp_ok") (pi_range1 rfl B.range (pa_cons (pe_callB (call_len_seqK (K := K) rfl) rfl B.len (by decide +kernel) (pa_cons (pv 0) pa_nil)) pa_nil)) (fun _ _ _ _ => (pg_name (i := 0) (show List.Nodup (["other", "k", "causes"] : List PySem.Str) by decide +kernel) rfl (Or.inl rfl))) (fun _ _ _ _ => (pif_one (pt_cmpR (op_in_seqK (K := K) rfl) (pv 1) (pe_ix (ix_listK (K := K) rfl) (pv 2) (pv 0) (fun _ _ => rfl)) (rfl)))) (fun _ _ _ _ => (pv 0))))), ?_⟩
  have hN : (["causes", "k"] : List Str).length = 2 := rfl
  obtain ⟨cs, k, rfl, hl, rfl⟩ := p
  have big := line_big
  have el : (((cs.map nl).length : Nat) : Int) = (cs.length : Int) := by rw [List.length_map]
  walk_at "run"
  refine ex_ret true (EvO.toE (evo_rngIf (is := [0]) (n := cs.length) (fun o => .int (o : Int)) (fun o => decide (k ∈ cs.getD o [])) (ea_cons (EvE.eq (ev_len (ds := cs.map nl) (by walk_at "ev")) (congrArg PyData.int el)) ea_nil) (by omega) (by walk_at "cc") rfl (by decide) ?_)) rfl (.inl ⟨rfl, rfl⟩)
  intro o ho
  have a1 : atI (cs.map nl) (o : Int) = some (nl (cs.getD o [])) := atI_map (getD_some ho)
  refine egn (by walk_at "sc") ⟨EvT.eq (et_test (ev_inI (neg := false) (i := (k : Int)) (ns := zl (cs.getD o [])) (by walk_at "ev") (EvE.toL (EvE.eq (ev_ixL (κ := false) (ds := cs.map nl) (by walk_at "ev") (by walk_at "ev") a1) (nl_zl _))))) ?_, fun _ => by walk_at "ev"⟩
  show decide _ = _
  exact mem_zl
theorem nl_inj {x y : Nat} (h : PyData.int (x : Int) = .int (y : Int)) : x = y := Int.ofNat.inj (PyData.int.inj h)
structure ShOk (n : Nat) (cs : List (List Nat)) : Prop where
  l : cs.length = n
  e : ∀ r ∈ cs, (∀ x ∈ r, x < n) ∧ r.length ≤ 60
theorem ShOk.at {n : Nat} {cs : List (List Nat)} (h : ShOk n cs) {k : Nat} (hk : k < n) : cs[k]? = some (cs.getD k []) ∧ (∀ x ∈ cs.getD k [], x < n) ∧ (cs.getD k []).length ≤ 60 := by
  have z : cs[k]? = some (cs.getD k []) := getD_some (by rw [h.l]; exact hk)
  have := h.e _ (List.mem_of_getElem? z)
  exact ⟨z, this.1, this.2⟩
theorem evl_eq {S : Sx} {κ : Bool} {Γ : PD.Ctx} {t : TE} {a b : List PyData} (h : EvL K S κ t Γ a) (e : a = b) : EvL K S κ t Γ b := e ▸ h
inductive Rch (nx : Nat → List Nat) (sm : List Nat) : Nat → Prop
  | base {x : Nat} : x ∈ sm → Rch nx sm x
  | step {x y : Nat} : Rch nx sm x → y ∈ nx x → Rch nx sm y
open Classical in
noncomputable def rchL (n : Nat) (nx : Nat → List Nat) (sm : List Nat) : List Nat := (List.range n).filter fun x => decide (Rch nx sm x)
theorem rchL_rise (n : Nat) (nx : Nat → List Nat) (sm : List Nat) : (rchL n nx sm).Pairwise (· < ·) := List.Pairwise.sublist List.filter_sublist List.pairwise_lt_range
theorem mem_rchL {n : Nat} {nx : Nat → List Nat} {sm : List Nat} {x : Nat} : x ∈ rchL n nx sm ↔ x < n ∧ Rch nx sm x := by
  unfold rchL
  rw [List.mem_filter, List.mem_range]
  simp
structure NxOk (n : Nat) (nx : Nat → List Nat) : Prop where
  n12 : n ≤ 24
  lt : ∀ x, x < n → ∀ y ∈ nx x, y < n
  l : ∀ x, x < n → (nx x).length ≤ 80
structure SmOk (n : Nat) (sm : List Nat) : Prop where
  lt : ∀ x ∈ sm, x < n
  l : sm.length ≤ 80
theorem Rch.lt {n : Nat} {nx : Nat → List Nat} {sm : List Nat} (h : NxOk n nx) (hs : SmOk n sm) {x : Nat} (r : Rch nx sm x) : x < n := by
  induction r with
  | base z => exact hs.lt _ z
  | step _ z ih => exact h.lt _ ih _ z
theorem rise_ext : ∀ {a b : List Nat}, a.Pairwise (· < ·) → b.Pairwise (· < ·) → (∀ x, x ∈ a ↔ x ∈ b) → a = b
  | [], [], _, _, _ => rfl
  | [], y :: b, _, _, h => by have := (h y).mpr List.mem_cons_self; cases this
  | x :: a, [], _, _, h => by have := (h x).mp List.mem_cons_self; cases this
  | x :: a, y :: b, ha, hb, h => by
    obtain ⟨a1, a2⟩ := List.pairwise_cons.mp ha
    obtain ⟨b1, b2⟩ := List.pairwise_cons.mp hb
    have e : x = y := by
      rcases List.mem_cons.mp ((h x).mp List.mem_cons_self) with z | z
      · exact z
      · rcases List.mem_cons.mp ((h y).mpr List.mem_cons_self) with w | w
        · exact w.symm
        · have := b1 x z
          have := a1 y w
          omega
    subst e
    refine congrArg (x :: ·) (rise_ext a2 b2 fun z => ⟨fun hz => ?_, fun hz => ?_⟩)
    · rcases List.mem_cons.mp ((h z).mp (List.mem_cons_of_mem _ hz)) with w | w
      · subst w
        have := a1 z hz
        omega
      · exact w
    · rcases List.mem_cons.mp ((h z).mpr (List.mem_cons_of_mem _ hz)) with w | w
      · subst w
        have := b1 z hz
        omega
      · exact w
theorem nd_len : ∀ (n : Nat) (l : List Nat), l.Nodup → (∀ x ∈ l, x < n) → l.length ≤ n
  | 0, [], _, _ => Nat.le_refl _
  | 0, x :: l, _, h => absurd (h x List.mem_cons_self) (Nat.not_lt_zero _)
  | n + 1, l, nd, h => by
    have e := nd_len n (l.erase n) (nd.erase n) fun x hx => by
      have h1 := h x (List.mem_of_mem_erase hx)
      have h2 : x ≠ n := fun z => by subst z; exact (List.Nodup.not_mem_erase nd) hx
      omega
    have := List.length_erase (a := n) (l := l)
    split at this <;> omega
structure GI (n : Nat) (nx : Nat → List Nat) (sm fo wa : List Nat) : Prop where
  nd : fo.Nodup
  fl : ∀ x ∈ fo, Rch nx sm x
  wl : ∀ x ∈ wa, Rch nx sm x
  cl : ∀ x ∈ fo, ∀ y ∈ nx x, y ∈ fo ∨ y ∈ wa
  sm : ∀ x ∈ sm, x ∈ fo ∨ x ∈ wa
  ll : wa.length ≤ 80 + 80 * fo.length
theorem GI.old {n : Nat} {nx : Nat → List Nat} {sm fo wa : List Nat} {k : Nat} (h : GI n nx sm fo (wa ++ [k])) (hk : k ∈ fo) : GI n nx sm fo wa := by
  have out : ∀ {x : Nat}, x ∈ fo ∨ x ∈ wa ++ [k] → x ∈ fo ∨ x ∈ wa := fun {x} z => by
    rcases z with z | z
    · exact .inl z
    · rcases List.mem_append.mp z with z | z
      · exact .inr z
      · rw [List.mem_singleton.mp z]; exact .inl hk
  have l := h.ll
  rw [List.length_append] at l
  exact ⟨h.nd, h.fl, fun x hx => h.wl x (List.mem_append_left _ hx), fun x hx y hy => out (h.cl x hx y hy), fun x hx => out (h.sm x hx), by omega⟩
theorem GI.new {n : Nat} {nx : Nat → List Nat} {sm fo wa : List Nat} {k : Nat} (h : GI n nx sm fo (wa ++ [k])) (hl : (nx k).length ≤ 80) (hk : k ∉ fo) : GI n nx sm (fo ++ [k]) (wa ++ nx k) := by
  have rk := h.wl k (List.mem_append_right _ (List.mem_singleton.mpr rfl))
  have out : ∀ {x : Nat}, x ∈ fo ∨ x ∈ wa ++ [k] → x ∈ fo ++ [k] ∨ x ∈ wa ++ nx k := fun {x} z => by
    rcases z with z | z
    · exact .inl (List.mem_append_left _ z)
    · rcases List.mem_append.mp z with z | z
      · exact .inr (List.mem_append_left _ z)
      · exact .inl (List.mem_append_right _ z)
  have l := h.ll
  rw [List.length_append] at l
  have l : wa.length + 1 ≤ _ := l
  refine ⟨?_, fun x hx => ?_, fun x hx => ?_, fun x hx y hy => ?_, fun x hx => out (h.sm x hx), ?_⟩
  · rw [List.nodup_append]
    exact ⟨h.nd, by simp, fun a ha b hb => by rw [List.mem_singleton.mp hb]; rintro rfl; exact hk ha⟩
  · rcases List.mem_append.mp hx with hx | hx
    · exact h.fl x hx
    · rw [List.mem_singleton.mp hx]; exact rk
  · rcases List.mem_append.mp hx with hx | hx
    · exact h.wl x (List.mem_append_left _ hx)
    · exact .step rk hx
  · rcases List.mem_append.mp hx with hx | hx
    · exact out (h.cl x hx y hy)
    · rw [List.mem_singleton.mp hx] at hy
      exact .inr (List.mem_append_right _ hy)
  · rw [List.length_append, List.length_append]
    show _ ≤ 80 + 80 * (fo.length + 1)
    omega
theorem GI.end {n : Nat} {nx : Nat → List Nat} {sm fo : List Nat} (no : NxOk n nx) (so : SmOk n sm) (h : GI n nx sm fo []) : srtN fo = rchL n nx sm := by
  refine rise_ext (srtN_rise h.nd) (rchL_rise n nx sm) fun x => ?_
  rw [(srtN_perm fo).mem_iff, mem_rchL]
  refine ⟨fun z => ⟨(h.fl x z).lt no so, h.fl x z⟩, fun z => ?_⟩
  have cl : ∀ {y : Nat}, y ∈ fo ∨ y ∈ ([] : List Nat) → y ∈ fo := fun z => z.elim (fun z => z) fun z => nomatch z
  have r := z.2
  clear z
  induction r with
  | base z => exact cl (h.sm _ z)
  | step _ z ih => exact cl (h.cl _ ih _ z)
def cP (c : Nat) : Int × Int := (((c / 2 : Nat) : Int), ((c % 2 : Nat) : Int))
def cD (c : Nat) : PyData := .tuple [.int ((c / 2 : Nat) : Int), .int ((c % 2 : Nat) : Int)]
abbrev pl (cs : List Nat) : PyData := .list (cs.map cD)
theorem cD_low (c : Nat) : low (cD c) = true := rfl
theorem cDs_low (cs : List Nat) : ∀ e ∈ cs.map cD, low e = true := fun e he => by
  obtain ⟨c, _, rfl⟩ := List.mem_map.mp he
  exact cD_low c
theorem pl_imm (cs : List Nat) : ∀ d ∈ cs.map cD, imm d = true := fun d hd => by
  obtain ⟨c, _, rfl⟩ := List.mem_map.mp hd
  rfl
theorem cD_inj {a b : Nat} (h : cD a = cD b) : a = b := by
  injection h with h
  injection h with h1 h2
  injection h2 with h2 _
  injection h1 with h1
  injection h2 with h2
  omega
theorem cD_eqv (a b : Nat) : PyData.eqv (cD a) (cD b) = decide (a = b) := by
  have e : PyData.eqv (cD a) (cD b) = ((((a / 2 : Nat) : Int) == ((b / 2 : Nat) : Int)) && (((a % 2 : Nat) : Int) == ((b % 2 : Nat) : Int))) := by
    unfold cD
    simp [PyData.eqv, PyData.eqvAll]
  rw [e]
  by_cases c : a = b
  · subst c
    rw [decide_eq_true rfl]
    simp
  · rw [decide_eq_false c]
    refine Bool.eq_false_iff.mpr fun z => c ?_
    have z := (Bool.and_eq_true _ _).mp z
    have z1 := eq_of_beq z.1
    have z2 := eq_of_beq z.2
    omega
theorem any_cD (cs : List Nat) (k : Nat) : ((cs.map cD).any fun e => PyData.eqv e (cD k)) = decide (k ∈ cs) := by
  induction cs with
  | nil => rfl
  | cons x r ih =>
    rw [List.map_cons, List.any_cons, ih, cD_eqv]
    by_cases h : x = k
    · subst h
      rw [decide_eq_true rfl, decide_eq_true List.mem_cons_self]
      rfl
    · rw [decide_eq_false h]
      refine (Bool.false_or _).trans (decide_eq_decide.mpr ⟨List.mem_cons_of_mem _, fun z => ?_⟩)
      rcases List.mem_cons.mp z with z | z
      · exact absurd z.symm h
      · exact z
theorem cDs_map (cs : List Nat) : cs.map cD = (cs.map cP).map prD := by rw [List.map_map]; rfl
theorem cP_small (cs : List Nat) : Small (cs.map cP) := ⟨fun q hq => by
  obtain ⟨c, _, rfl⟩ := List.mem_map.mp hq
  show 0 ≤ ((c % 2 : Nat) : Int) ∧ ((c % 2 : Nat) : Int) < 1000
  omega⟩
theorem srtP_c {cs : List Nat} (nd : cs.Nodup) : srtP (cs.map cP) = (srtN cs).map cP := by
  refine (perm_sortedP (cP_small (srtN cs)) (((srtN_perm cs).map cP).trans (srtP_perm _).symm) ?_ (srtP_sorted _)).symm
  rw [List.pairwise_map]
  refine (srtN_rise nd).imp fun {a b} h => ?_
  show ((a / 2 : Nat) : Int) * 1000 + ((a % 2 : Nat) : Int) ≤ ((b / 2 : Nat) : Int) * 1000 + ((b % 2 : Nat) : Int)
  omega
def upC (cs : List (List Nat)) (k : Nat) : List Nat := (cs.getD k []).map fun c => 2 * c
def dnC (cs : List (List Nat)) (k : Nat) : List Nat := (effF cs k).map fun e => 2 * e + 1
def stC (cs : List (List Nat)) (kn : List Nat) (c : Nat) : List Nat := if c / 2 ∈ kn then (if c % 2 = 1 then upC cs (c / 2) else []) else (if c % 2 = 1 then dnC cs (c / 2) else upC cs (c / 2) ++ dnC cs (c / 2))
def pre_steps_from (ds : List PyData) (d : PyData) : Prop := ∃ (n : Nat) (cs : List (List Nat)) (kn : List Nat) (c : Nat), ds = [nls cs, nl kn, cD c] ∧ ShOk n cs ∧ n ≤ 12 ∧ c / 2 < n ∧ d = pl (stC cs kn c)
theorem len_steps_from (ds : List PyData) (d : PyData) (h : pre_steps_from ds d) : ds.length = 3 := by obtain ⟨a, b, c, e, rfl, _⟩ := h; rfl
theorem sc_steps_from : FnScope ["causes", "known", "pair", "k", "way", "ups", "downs"] ["causes", "known", "pair"] (defScope (top 5)) := ⟨rfl, rfl, rfl, by decide +kernel, rfl, by decide +kernel, by decide +kernel⟩
theorem ok_steps_from (F : Fun K "steps_from" "steps_from" (top 5) f fd) (B : Bs mg) (Z : Cs K mg t_AGAINST t_ALONG) (c_effects : Callee P w K mg base CX0 "effects" ["causes", "k"] 1 (spD K true pre_effects)) : FnOk P w K mg base CX0 2 f fd ["causes", "known", "pair"] (spD K true pre_steps_from) := by
  have sc := sc_steps_from
  refine F.ok sc (fun vs H Q E h => spD_len len_steps_from h) (fun cdv A outer s H vs Q E hr h => ?_)
  obtain ⟨Fh, ds, d, le, dp, p, q⟩ := h
  refine ⟨_, (pss_cons (ps_set (i := 3) sc.nd rfl (Or.inl rfl) (pe_ix (ix_tupK (K := K) rfl) (pv 2) pe_int (fun _ _ => rfl)))
      (pss_cons (ps_set (i := 4) sc.nd rfl (Or.inl rfl) (pe_ix (ix_tupK (K := K) rfl) (pv 2) pe_int (fun _ _ => rfl)))
      (pss_cons (ps_setComp (i := 5) rfl sc.nd rfl rfl (N := ["c"]) (js := [none]) (by walk_at "comp_ok") (pi_listK (K := K) rfl (pe_ix (ix_listK (K := K) rfl) (pv 0) (pv 3) (fun _ _ => rfl))) (fun _ _ _ _ => (pg_name (i := 0) (show List.Nodup (["c"] : List PySem.Str) by decide +kernel) rfl (Or.inl rfl))) (fun _ _ _ _ => pif_nil) (fun _ _ _ _ => (pe_tup (pa_cons (pv 0) (pa_cons (pe_glob (v := .int 0) rfl Z.n_AGAINST ⟨_, rfl⟩) pa_nil)))))
      (pss_cons (ps_setComp (i := 6) rfl sc.nd rfl rfl (N := ["e"]) (js := [none]) (by walk_at "comp_ok") (pi_listK (K := K) rfl (pe_fn c_effects (hr.mono (by decide)) rfl pass0 (pa_cons (pv 0) (pa_cons (pv 3) pa_nil)))) (fun _ _ _ _ => (pg_name (i := 0) (show List.Nodup (["e"] : List PySem.Str) by decide +kernel) rfl (Or.inl rfl))) (fun _ _ _ _ => pif_nil) (fun _ _ _ _ => (pe_tup (pa_cons (pv 0) (pa_cons (pe_glob (v := .int 1) rfl Z.n_ALONG ⟨_, rfl⟩) pa_nil)))))
      (pss_cons (ps_if (pt_cmpR (op_in_seqK (K := K) rfl) (pv 3) (pv 1) (rfl)) (pss_one (ps_ret (pe_ifExp (pt_cmpR op_eq (pv 4) (pe_glob (v := .int 1) rfl Z.n_ALONG ⟨_, rfl⟩) (nomark _)) (pv 5) (pe_lst pa_nil)))) pss_nil)
      (pss_one (ps_ret (pe_ifExp (pt_cmpR op_eq (pv 4) (pe_glob (v := .int 1) rfl Z.n_ALONG ⟨_, rfl⟩) (nomark _)) (pv 6) (pe_op (op_catSK (K := K) rfl) (pv 5) (pv 6)))))))))), ?_⟩
  have hN : (["causes", "known", "pair", "k", "way", "ups", "downs"] : List Str).length = 7 := rfl
  obtain ⟨n, cs, kn, c, rfl, ok, n12, hc, rfl⟩ := p
  have big := line_big
  have A := ok.at hc
  have A2 := A.2.2
  have cl := ok.l
  have ak : atI (cs.map nl) ((c / 2 : Nat) : Int) = some (nl (cs.getD (c / 2) [])) := atI_map A.1
  have el : (effF cs (c / 2)).length ≤ 12 := by
    have := List.length_filter_le (fun o => decide (c / 2 ∈ cs.getD o [])) (List.range cs.length)
    rw [List.length_range] at this
    unfold effF
    omega
  walk_at "run"
  refine exs false (d := .int ((c / 2 : Nat) : Int)) (ev_ixT (κ := false) (ds := [.int ((c / 2 : Nat) : Int), .int ((c % 2 : Nat) : Int)]) (i := 0) (EvE.eq (a := cD c) (by walk_at "ev") rfl) (by walk_at "ev") rfl) (by walk_at "sc") ?_
  refine exs false (d := .int ((c % 2 : Nat) : Int)) (ev_ixT (κ := false) (ds := [.int ((c / 2 : Nat) : Int), .int ((c % 2 : Nat) : Int)]) (i := 1) (EvE.eq (a := cD c) (by walk_at "ev") rfl) (by walk_at "ev") rfl) (by walk_at "sc") ?_
  have tw : ∀ k : Nat, 2 * k / 2 = k ∧ 2 * k % 2 = 0 ∧ (2 * k + 1) / 2 = k ∧ (2 * k + 1) % 2 = 1 := fun k => by omega
  have d0 : ∀ k : Nat, PyData.tuple [.int (k : Int), .int 0] = cD (2 * k) := fun k => by unfold cD; rw [(tw k).1, (tw k).2.1]; rfl
  have d1 : ∀ k : Nat, PyData.tuple [.int (k : Int), .int 1] = cD (2 * k + 1) := fun k => by unfold cD; rw [(tw k).2.2.1, (tw k).2.2.2]; rfl
  refine exs true (d := pl (upC cs (c / 2))) (EvO.toE (EvO.eq (evo_each (κ := true) (is := [0]) (xs := cs.getD (c / 2) []) false (fun k : Nat => .int (k : Int)) (fun k => cD (2 * k)) (fun x _ y _ h => by cases nl_inj h; rfl) (ei_list (ev_ixL (κ := false) (by walk_at "ev") (by walk_at "ev") ak)) (by walk_at "cc") rfl (by decide) (by omega) ?_) (by unfold upC; rw [List.map_map]; rfl))) (by walk_at "sc") ?_
  · intro k hk
    exact egn (by walk_at "sc") (EvE.eq (ev_tup (ds := [.int (k : Int), .int 0]) (by walk_at "ev") (by show 2 ≤ _; omega)) (d0 k))
  refine exs true (d := pl (dnC cs (c / 2))) (EvO.toE (EvO.eq (evo_each (κ := true) (is := [0]) (xs := effF cs (c / 2)) false (fun k : Nat => .int (k : Int)) (fun k => cD (2 * k + 1)) (fun x _ y _ h => by cases nl_inj h; rfl) (ei_list (ev_callF (by walk_at "ev") ⟨cs, c / 2, rfl, by omega, rfl⟩)) (by walk_at "cc") rfl (by decide) (by omega) ?_) (by unfold dnC; rw [List.map_map]; rfl))) (by walk_at "sc") ?_
  · intro k hk
    exact egn (by walk_at "sc") (EvE.eq (ev_tup (ds := [.int (k : Int), .int 1]) (by walk_at "ev") (by show 2 ≤ _; omega)) (d1 k))
  have ul : (upC cs (c / 2)).length ≤ 60 := by unfold upC; rw [List.length_map]; exact A2
  have dl : (dnC cs (c / 2)).length ≤ 12 := by unfold dnC; rw [List.length_map]; exact el
  unfold stC
  generalize upC cs (c / 2) = up at ul
  generalize dnC cs (c / 2) = dn at dl
  generalize c / 2 = k
  refine exif2 (b := decide (k ∈ kn)) (EvT.eq (et_test (ev_inI (neg := false) (i := (k : Int)) (ns := zl kn) (by walk_at "ev") (EvE.toL (EvE.eq (κ := false) (by walk_at "ev") (nl_zl _))))) mem_zl) (fun h => ?_) (fun h => ?_)
  · rw [if_pos (of_decide_eq_true h)]
    refine exrs true (ev_ifE (b := decide (((c % 2 : Nat) : Int) = 1)) (et_test (ev_eqI (by walk_at "ev") (by walk_at "ev"))) (fun z => ?_) (fun z => ?_)) rfl (.inl ⟨rfl, rfl⟩)
    · rw [if_pos (by have := of_decide_eq_true z; omega)]
      walk_at "ev"
    · rw [if_neg (by have := of_decide_eq_false z; omega)]
      exact EvO.toE (evo_lst (ds := []) ea_nil (by decide))
  · refine exn ?_
    rw [if_neg (of_decide_eq_false h)]
    refine ex_ret true (ev_ifE (b := decide (((c % 2 : Nat) : Int) = 1)) (et_test (ev_eqI (by walk_at "ev") (by walk_at "ev"))) (fun z => ?_) (fun z => ?_)) rfl (.inl ⟨rfl, rfl⟩)
    · rw [if_pos (by have := of_decide_eq_true z; omega)]
      walk_at "ev"
    · rw [if_neg (by have := of_decide_eq_false z; omega)]
      exact EvO.toE (EvO.eq (evo_cat (xs := up.map cD) (ys := dn.map cD) (by walk_at "ev") (by walk_at "ev") (by rw [List.length_map, List.length_map]; omega)) (by rw [List.map_append]))
theorem st_ok {n : Nat} {cs : List (List Nat)} (ok : ShOk n cs) (n12 : n ≤ 12) (kn : List Nat) : NxOk (2 * n) (stC cs kn) := by
  have up : ∀ x, x < 2 * n → ∀ y ∈ upC cs (x / 2), y < 2 * n := fun x hx y hy => by
    obtain ⟨c, hc, rfl⟩ := List.mem_map.mp hy
    have := (ok.at (k := x / 2) (by omega)).2.1 c hc
    omega
  have dn : ∀ x, ∀ y ∈ dnC cs (x / 2), y < 2 * n := fun x y hy => by
    obtain ⟨e, he, rfl⟩ := List.mem_map.mp hy
    have := List.mem_range.mp (List.mem_filter.mp he).1
    rw [ok.l] at this
    omega
  refine ⟨by omega, fun x hx y hy => ?_, fun x hx => ?_⟩
  · unfold stC at hy
    split at hy
    · split at hy
      · exact up x hx y hy
      · cases hy
    · split at hy
      · exact dn x y hy
      · rcases List.mem_append.mp hy with hy | hy
        · exact up x hx y hy
        · exact dn x y hy
  · have a := (ok.at (k := x / 2) (by omega)).2.2
    have c : (dnC cs (x / 2)).length ≤ 12 := by
      have b := List.length_filter_le (fun o => decide (x / 2 ∈ cs.getD o [])) (List.range cs.length)
      rw [List.length_range] at b
      have := ok.l
      unfold dnC effF
      rw [List.length_map]
      omega
    have d : (upC cs (x / 2)).length ≤ 60 := by
      unfold upC
      rw [List.length_map]
      exact a
    unfold stC
    split
    · split
      · omega
      · exact Nat.zero_le _
    · split
      · omega
      · rw [List.length_append]
        omega
def hTab : List Int := [-8458139203682520985, -1950498447580522560, -5164621852614943976, 8389048192121911274, 4685526799349444076, 6794810172467074373, 2248468952609198383, 8756109708711196808, -6348126469135965181, 159514286966033244, -3054609118068388172, 3453031638033610253, -5491666964808633865, 8062003079928221385, 4358481687155754187, -7580621630451799004, 1921423840415508494, 8429064596517506919, -6675171581329655070, -167530825227656645, -3381654230262078061, 3125986525839920364, 6468494421702309991, -5470608895905243200]
theorem hP_tab : ∀ a, a < 24 → hP (cP a) = hTab.getD a 0 := by decide +kernel
theorem hT_inj : ∀ a, a < 24 → ∀ b, b < 24 → hTab.getD a 0 = hTab.getD b 0 → a = b := by decide +kernel
theorem hP_inj24 (a : Nat) (ha : a < 24) (b : Nat) (hb : b < 24) (h : hP (cP a) = hP (cP b)) : a = b := hT_inj a ha b hb (by rw [← hP_tab a ha, ← hP_tab b hb, h])
theorem hP_nd {fs : List Nat} (nd : fs.Nodup) (lt : ∀ y ∈ fs, y < 24) : ((fs.map cP).map hP).Nodup :=
  List.pairwise_map.mpr (List.pairwise_map.mpr (List.Pairwise.imp_of_mem (fun ha hb z e => z (hP_inj24 _ (lt _ ha) _ (lt _ hb) e)) nd))
def clB (cs : List (List Nat)) (kn fs : List Nat) : Bool := fs.all fun z => (stC cs kn z).all fun y => decide (y ∈ fs)
theorem clB_iff {cs : List (List Nat)} {kn fs : List Nat} : clB cs kn fs = true ↔ ∀ z ∈ fs, ∀ y ∈ stC cs kn z, y ∈ fs := by
  unfold clB
  simp
def pre_is_closed (ds : List PyData) (d : PyData) : Prop := ∃ (n : Nat) (cs : List (List Nat)) (kn fs : List Nat), ds = [nls cs, nl kn, pl fs] ∧ ShOk n cs ∧ n ≤ 12 ∧ fs.Nodup ∧ (∀ y ∈ fs, y < 2 * n) ∧ d = .bool (clB cs kn fs)
theorem len_is_closed (ds : List PyData) (d : PyData) (h : pre_is_closed ds d) : ds.length = 3 := by obtain ⟨a, b, c, e, rfl, _⟩ := h; rfl
theorem sc_is_closed : FnScope ["causes", "known", "pairs", "each", "pair"] ["causes", "known", "pairs"] (defScope (top 6)) := ⟨rfl, rfl, rfl, by decide +kernel, rfl, by decide +kernel, by decide +kernel⟩
theorem ok_is_closed (F : Fun K "is_closed" "is_closed" (top 6) f fd) (B : Bs mg) (Z : Cs K mg t_AGAINST t_ALONG) (c_steps_from : Callee P w K mg base CX0 "steps_from" ["causes", "known", "pair"] 2 (spD K true pre_steps_from)) : FnOk P w K mg base CX0 3 f fd ["causes", "known", "pairs"] (spD K true pre_is_closed) := by
  have sc := sc_is_closed
  refine F.ok sc (fun vs H Q E h => spD_len len_is_closed h) (fun cdv A outer s H vs Q E hr h => ?_)
  obtain ⟨Fh, ds, d, le, dp, p, q⟩ := h
  refine ⟨_, (pss_cons (ps_set (i := 3) sc.nd rfl (Or.inr rfl) (pe_callB (call_sortedSP (K := K) rfl rfl rfl) rfl B.sorted (by decide +kernel) (pa_cons (pe_callTy (call_setP (K := K) rfl rfl hr.units rfl) rfl B.set (by decide +kernel) (pa_cons (pv 2) pa_nil)) pa_nil)))
      (pss_cons (ps_for PassesOwn.never rfl (pi_listK (K := K) rfl (pv 3)) (pg_name (i := 4) sc.nd rfl (Or.inl rfl)) (pss_one (ps_if (pt_not (pt_val (pe_callB (call_allK (K := K) rfl rfl) rfl B.all (by decide +kernel) (pa_cons (pe_comp rfl (N := ["step", "each"]) (js := [none, some 3]) (by walk_at "comp_ok") (pi_listK (K := K) rfl (pe_fn c_steps_from (hr.mono (by decide)) rfl pass0 (pa_cons (pv 0) (pa_cons (pv 1) (pa_cons (pv 4) pa_nil))))) (fun _ _ _ _ => (pg_name (i := 0) (show List.Nodup (["step", "each"] : List PySem.Str) by decide +kernel) rfl (Or.inl rfl))) (fun _ _ _ _ => pif_nil) (fun _ _ _ _ => (pe_cmpR (op_inDK (K := K) rfl hr.units) (pv 0) (pv 1) (rfl)))) pa_nil)))) (pss_one (ps_ret pe_bl)) pss_nil)))
      (pss_one (ps_ret pe_bl)))), ?_⟩
  have hN : (["causes", "known", "pairs", "each", "pair"] : List Str).length = 5 := rfl
  obtain ⟨n, cs, kn, fs, rfl, ok, n12, nd, lt, rfl⟩ := p
  have big := line_big
  have fl := nd_len (2 * n) fs nd lt
  have no := st_ok ok n12 kn
  walk_at "run"
  refine exs true (d := pl (srtN fs)) (EvO.toE (EvO.eq (evo_sortedSetP (ps := fs.map cP) (evl_eq (by walk_at "ev") (cDs_map fs)) (cP_small fs) (hP_nd nd fun y hy => by have := lt y hy; omega) (by rw [List.length_map]; omega)) (by rw [srtP_c nd, ← cDs_map]))) (by walk_at "sc") ?_
  have mem : ∀ y, y ∈ srtN fs ↔ y ∈ fs := fun y => (srtN_perm fs).mem_iff
  have e1 : clB cs kn (srtN fs) = clB cs kn fs := by
    rw [Bool.eq_iff_iff, clB_iff, clB_iff]
    exact ⟨fun h z hz y hy => (mem y).mp (h z ((mem z).mpr hz) y hy), fun h z hz y hy => (mem y).mpr (h z ((mem z).mp hz) y hy)⟩
  have sl : ∀ y ∈ srtN fs, y < 2 * n := fun y hy => lt y ((mem y).mp hy)
  rw [← e1]
  generalize srtN fs = ss at sl
  refine exfor (ds := ss.map cD) true (fun i Γ => (∀ j z, j < i → ss[j]? = some z → ∀ y ∈ stC cs kn z, y ∈ ss) ∧ ∃ x, Γ = [some (.fz false (nls cs)), some (.fz false (nl kn)), some (.fz false (pl fs)), some (.fz true (pl ss)), x]) (ei_list (by walk_at "ev")) ⟨fun j z h => absurd h (Nat.not_lt_zero _), none, rfl⟩ ?_ ?_
  · rintro i d Γ' hd ⟨al, x, rfl⟩
    obtain ⟨c, hc, rfl⟩ := get_map hd
    have cn := sl c (List.mem_of_getElem? hc)
    have cl := no.l c cn
    refine ⟨_, egn (by walk_at "sc") ?_⟩
    refine ex_if (b := !((stC cs kn c).all fun y => decide (y ∈ ss))) (et_not (et_test (EvE.eq (ev_all (bs := (stC cs kn c).map fun y => decide (y ∈ ss)) (EvO.toL (EvO.eq (evo_each (κ := false) (is := [0]) (xs := stC cs kn c) true cD (fun y => .bool (decide (y ∈ ss))) (fun x _ y _ h => by cases cD_inj h; rfl) (ei_list (ev_callF (by walk_at "ev") ⟨n, cs, kn, c, rfl, ok, n12, by omega, rfl⟩)) (by walk_at "cc") rfl (by decide) (by omega) ?_) (by rw [List.map_map]; rfl)))) (by rw [List.all_map]; rfl)))) (fun h => ?_) fun h => ex_next ?_
    · intro y hy
      exact egn (by walk_at "sc") (EvE.eq (ev_inD (neg := false) (d := cD y) (ds := ss.map cD) (by walk_at "ev") (by walk_at "ev") (cD_low y) (cDs_low _)) (congrArg PyData.bool (any_cD ss y)))
    · refine ex_ret true (by walk_at "ev") ?_ (.inl ⟨rfl, rfl⟩)
      refine congrArg PyData.bool (Eq.symm ?_)
      rw [Bool.eq_false_iff]
      intro z
      have z := clB_iff.mp z c (List.mem_of_getElem? hc)
      rw [List.all_eq_true.mpr fun y hy => decide_eq_true (z y hy)] at h
      cases h
    · refine ⟨fun j z hj hz => ?_, _, rfl⟩
      by_cases e : j = i
      · subst e
        rw [hc] at hz
        cases hz
        have h : ((stC cs kn c).all fun y => decide (y ∈ ss)) = true := by simpa using h
        exact fun y hy => of_decide_eq_true (List.all_eq_true.mp h y hy)
      · exact al j z (by omega) hz
  · rintro Γ' ⟨al, x, rfl⟩
    rw [List.length_map] at al
    refine ex_ret true (by walk_at "ev") (congrArg PyData.bool (Eq.symm (clB_iff.mpr fun z hz => ?_))) (.inl ⟨rfl, rfl⟩)
    obtain ⟨j, hj⟩ := List.mem_iff_getElem?.mp hz
    exact al j z (List.getElem?_eq_some_iff.mp hj).1 hj
theorem at_ints {ns : List Int} {k : Nat} (h : k < ns.length) : atI (ns.map PyData.int) (k : Int) = some (.int (ns.getD k 0)) := by
  rw [List.getD_eq_getElem?_getD, List.getElem?_eq_getElem h]
  exact atI_map (List.getElem?_eq_getElem h)
theorem at_ex {ns : List Int} {i : Int} (h0 : 0 ≤ i) (h1 : i < ns.length) : ∃ v : Int, atI (ns.map PyData.int) i = some (.int v) := by
  have := at_ints (ns := ns) (k := i.toNat) (by omega)
  rw [Int.toNat_of_nonneg h0] at this
  exact ⟨_, this⟩
theorem mul_left {i j : Int} (h0 : -(2 ^ 64) < i) (h1 : i < 2 ^ 64) : IntMulOk i j := .of_left (intBits_le_64 h0 h1)
def pre_law_pool (ds : List PyData) (G : PyData → Prop) : Prop := ∃ ns : List Int, ds = [il ns, .int 63] ∧ ns.length ≤ 63 ∧ G = fun d => ∃ ps : List Int, ps.length = 63 ∧ d = il ps
theorem len_law_pool (ds : List PyData) (G : PyData → Prop) (h : pre_law_pool ds G) : ds.length = 2 := by obtain ⟨a, rfl, _⟩ := h; rfl
theorem sc_law_pool : FnScope ["_law_script", "_law_many", "_law_pool_here", "_law_k", "_law_seed", "_law_number"] ["_law_script", "_law_many"] (defScope (top 8)) := ⟨rfl, rfl, rfl, by decide +kernel, rfl, by decide +kernel, by decide +kernel⟩
theorem ok_law_pool (F : Fun K "_law_pool" "_law_pool" (top 8) f fd) (B : Bs mg) (Z : Cs K mg t_AGAINST t_ALONG)  : FnOk P w K mg base CX0 1 f fd ["_law_script", "_law_many"] (spW K true pre_law_pool) := by
  have sc := sc_law_pool
  refine F.ok sc (fun vs H Q E h => spW_len len_law_pool h) (fun cdv A outer s H vs Q E hr h => ?_)
  obtain ⟨Fh, ds, G, le, dp, p, q⟩ := h
  refine ⟨_, (pss_cons (ps_set (i := 2) sc.nd rfl (Or.inl rfl) (pe_callTy (call_list_ofK (K := K) rfl) rfl B.list (by decide +kernel) (pa_cons (pe_slice (sl_listK (K := K) rfl) (pv 0) po_none (po_some (pv 1))) pa_nil)))
      (pss_cons (ps_while PassesOwn.never (pt_cmpR op_lt (pe_callB (call_len_seqK (K := K) rfl) rfl B.len (by decide +kernel) (pa_cons (pv 2) pa_nil)) (pv 1) (nomark _)) (pss_cons (ps_set (i := 3) sc.nd rfl (Or.inl rfl) (pe_callB (call_len_seqK (K := K) rfl) rfl B.len (by decide +kernel) (pa_cons (pv 2) pa_nil)))
      (pss_cons (ps_set (i := 4) sc.nd rfl (Or.inl rfl) (pe_op op_add pe_int (pv 3)))
      (pss_cons (ps_if (pt_cmpR op_gt (pv 3) pe_int (nomark _)) (pss_one (ps_set (i := 4) sc.nd rfl (Or.inl rfl) (pe_op op_add (pe_ix (ix_listK (K := K) rfl) (pv 2) (pe_op op_fdiv (pv 3) pe_int) (fun _ _ => rfl)) (pe_op op_mulB pe_int (pe_ix (ix_listK (K := K) rfl) (pv 2) (pe_op op_sub (pv 3) pe_int) (fun _ _ => rfl)))))) pss_nil)
      (pss_cons (ps_set (i := 5) sc.nd rfl (Or.inl rfl) (pe_op op_add (pe_op op_add (pe_op op_mulB (pe_op op_mod (pv 4) pe_int) pe_int) (pe_op op_mulB (pe_op op_mulB (pv 3) (pv 3)) pe_int)) pe_int))
      (pss_one (ps_expr (pe_bmK (K := K) rfl PySem.F.plainAttrs_list PySem.F.slot_list_append PySem.F.type_list_append mt_append (pv 2) (pa_cons (pe_op op_mod (pe_op op_mulB (pv 5) (pv 5)) pe_int) pa_nil)))))))))
      (pss_one (ps_ret (pv 2))))), ?_⟩
  have hN : (["_law_script", "_law_many", "_law_pool_here", "_law_k", "_law_seed", "_law_number"] : List Str).length = 6 := rfl
  obtain ⟨ns, rfl, h63, rfl⟩ := p
  have big := line_big
  refine run_defW le dp q hN (by walk_at "st") ?_
  have et : ns.take 63 = ns := List.take_of_length_le h63
  refine exo true (ds := ns.map .int) (evo_list (EvO.toL (EvO.eq (evo_slice (ds := ns.map .int) (hi := some 63) (EvL.imm (κ := false) (by walk_at "ev") (imm_ints ns)) ep_none (ep_some (by walk_at "ev"))) (show cutD (ns.map .int) none (some ((63 : Nat) : Int)) = ns.map .int by rw [cut_ints, et])))) (by walk_at "sc") ?_
  refine ex_seq (fun Γ => ∃ (ps : List Int) (x y z : Option DV), ps.length = 63 ∧ Γ = [some (.fz false (il ns)), some (.fz false (.int 63)), some (.ow true (ps.map .int)), x, y, z]) (ex_while (fun m Γ => ∃ (ps : List Int) (x y z : Option DV), ps.length + m = 63 ∧ Γ = [some (.fz false (il ns)), some (.fz false (.int 63)), some (.ow true (ps.map .int)), x, y, z]) (63 - ns.length) ⟨ns, none, none, none, by omega, rfl⟩ ?_) ?_
  · rintro m Γ' ⟨ps, x, y, z, hm, rfl⟩
    have el : PyData.int (((ps.map PyData.int).length : Nat) : Int) = .int (ps.length : Int) := by rw [List.length_map]
    refine ⟨decide ((ps.length : Int) < 63), et_test (ev_lt (EvE.eq (ev_len (by walk_at "ev")) el) (by walk_at "ev")), fun h => ?_, fun h => ?_⟩
    · have h' : ps.length < 63 := by
        have : (ps.length : Int) < 63 := by simpa using h
        omega
      refine exs true (d := .int ps.length) (EvE.eq (ev_len (by walk_at "ev")) el) (by walk_at "sc") ?_
      refine exs true (d := .int (29 + ps.length)) (by walk_at "ev") (by walk_at "sc") ?_
      generalize hk : ps.length = k at *
      refine exif (b := decide ((0 : Int) < k)) (fun Γ => ∃ s : Int, Γ = [some (.fz false (il ns)), some (.fz false (.int 63)), some (.ow true (ps.map .int)), some (.fz true (.int k)), some (.fz true (.int s)), z]) (by walk_at "ev") (fun h2 => ?_) (fun h2 => ?_) ?_
      · have h3 : 0 < k := by
          have : (0 : Int) < k := by simpa using h2
          omega
        obtain ⟨u1, a1⟩ := at_ex (ns := ps) (i := (k : Int) / 2) (by omega) (by omega)
        obtain ⟨u2, a2⟩ := at_ex (ns := ps) (i := (k : Int) - 1) (by omega) (by omega)
        have c2 : CDiv (k : Int) 2 := ⟨by decide, by decide⟩
        refine exs1 true (ev_add (ev_ixL (κ := false) (by walk_at "ev") (by walk_at "ev") a1) (ev_mul (by walk_at "ev") (ev_ixL (κ := false) (by walk_at "ev") (by walk_at "ev") a2) (mul_left (by decide) (by decide)))) (by walk_at "sc") ⟨_, rfl⟩
      · exact ex_next ⟨_, rfl⟩
      · rintro Γ2 ⟨s, rfl⟩
        have kk : (k : Int) * k ≤ 63 * 63 := Int.mul_le_mul (by omega) (by omega) (by omega) (by omega)
        have kk0 : (0 : Int) ≤ (k : Int) * k := Int.mul_nonneg (by omega) (by omega)
        have s0 := Int.emod_nonneg s (show (1000003 : Int) ≠ 0 by decide)
        have s1 := Int.emod_lt_of_pos s (show (0 : Int) < 1000003 by decide)
        have m1 : IntMulOk (s % 1000003) 48271 := small_mul (by decide) (by decide)
        have m2 : IntMulOk (k : Int) (k : Int) := small_mul (by omega) (by omega)
        have m3 : IntMulOk ((k : Int) * k) 7919 := small_mul (by decide) (by decide)
        refine exs true (d := .int (s % 1000003 * 48271 + (k : Int) * k * 7919 + 13)) (by walk_at "ev") (by walk_at "sc") ?_
        have m4 : IntMulOk (s % 1000003 * 48271 + (k : Int) * k * 7919 + 13) (s % 1000003 * 48271 + (k : Int) * k * 7919 + 13) := small_mul (by omega) (by omega)
        refine exa1 (by walk_at "gc") (by walk_at "ev") (by walk_at "sc") (by rw [List.length_map]; omega) ?_
        exact ⟨m - 1, by omega, ps ++ [_], _, _, _, by rw [List.length_append, hk]; show _ + 1 + _ = _; omega, by rw [List.map_append]; rfl⟩
    · have h' : ¬ ps.length < 63 := by
        have : ¬ (ps.length : Int) < 63 := by simpa using h
        omega
      exact ⟨ps, x, y, z, by omega, rfl⟩
  · rintro Γ' ⟨ps, x, y, z, hp, rfl⟩
    exact exro (by walk_at "gc") ⟨ps, hp, rfl⟩ (.inl ⟨rfl, rfl⟩)
structure OrdOk (n : Nat) (ord : List Nat) : Prop where
  l : ord.length = n
  e : ∀ x ∈ ord, x < n
theorem OrdOk.at {n : Nat} {ord : List Nat} (h : OrdOk n ord) {k : Nat} (hk : k < n) : atI (ord.map fun k : Nat => PyData.int (k : Int)) (k : Int) = some (.int (ord.getD k 0 : Nat)) ∧ ord.getD k 0 < n := by
  have z : ord[k]? = some (ord.getD k 0) := getD_some (by rw [h.l]; exact hk)
  exact ⟨atI_map z, h.e _ (List.mem_of_getElem? z)⟩
def pre_law_order (ds : List PyData) (G : PyData → Prop) : Prop := ∃ (ps : List Int) (n : Nat), ds = [il ps, .int n] ∧ ps.length = 63 ∧ n ≤ 12 ∧ G = fun d => ∃ ord, OrdOk n ord ∧ d = nl ord
theorem len_law_order (ds : List PyData) (G : PyData → Prop) (h : pre_law_order ds G) : ds.length = 2 := by obtain ⟨a, b, rfl, _⟩ := h; rfl
theorem sc_law_order : FnScope ["_law_pool_here", "_law_many", "_law_order_here", "_law_k"] ["_law_pool_here", "_law_many"] (defScope (top 9)) := ⟨rfl, rfl, rfl, by decide +kernel, rfl, by decide +kernel, by decide +kernel⟩
theorem ok_law_order (F : Fun K "_law_order" "_law_order" (top 9) f fd) (B : Bs mg) (Z : Cs K mg t_AGAINST t_ALONG)  : FnOk P w K mg base CX0 1 f fd ["_law_pool_here", "_law_many"] (spW K true pre_law_order) := by
  have sc := sc_law_order
  refine F.ok sc (fun vs H Q E h => spW_len len_law_order h) (fun cdv A outer s H vs Q E hr h => ?_)
  obtain ⟨Fh, ds, G, le, dp, p, q⟩ := h
  refine ⟨_, (pss_cons (ps_set (i := 2) sc.nd rfl (Or.inl rfl) (pe_lst pa_nil))
      (pss_cons (ps_for PassesOwn.never rfl (pi_range1 rfl B.range (pa_cons (pv 1) pa_nil)) (pg_name (i := 3) sc.nd rfl (Or.inl rfl)) (pss_one (ps_expr (pe_bmK (K := K) rfl PySem.F.plainAttrs_list PySem.F.slot_list_insert PySem.F.type_list_insert mt_insert (pv 2) (pa_cons (pe_op op_mod (pe_op op_mod (pe_op op_mulB (pe_op op_mod (pe_ix (ix_listK (K := K) rfl) (pv 0) (pe_op op_add pe_int (pv 3)) (fun _ _ => rfl)) pe_int) pe_int) pe_int) (pe_op op_add (pv 3) pe_int)) (pa_cons (pv 3) pa_nil))))))
      (pss_one (ps_ret (pv 2))))), ?_⟩
  have hN : (["_law_pool_here", "_law_many", "_law_order_here", "_law_k"] : List Str).length = 4 := rfl
  obtain ⟨ps, n, rfl, hp, hn, rfl⟩ := p
  have big := line_big
  refine run_defW le dp q hN (by walk_at "st") ?_
  refine exo true (evo_lst (ds := []) ea_nil (by decide)) (by walk_at "sc") ?_
  refine exfor (ds := (List.range n).map fun i : Nat => .int (i : Int)) true (fun i Γ => ∃ (ord : List Nat) (x : Option DV), OrdOk i ord ∧ Γ = [some (.fz false (il ps)), some (.fz false (.int n)), some (.ow true (ord.map fun k : Nat => .int (k : Int))), x]) (ei_rng1 (n := (n : Int)) (by walk_at "ev") (by omega) (by omega)) ⟨[], none, ⟨rfl, fun x hx => by cases hx⟩, rfl⟩ ?_ ?_
  · rintro i d Γ' hd ⟨ord, x, ok, rfl⟩
    obtain ⟨hi, rfl⟩ := range_get hd
    have ol := ok.l
    refine ⟨_, egn (by walk_at "sc") ?_⟩
    obtain ⟨u, a1⟩ := at_ex (ns := ps) (i := 50 + (i : Int)) (by omega) (by omega)
    have m1 : IntMulOk (u % 1000003) 31 := small_mul (by decide) (by decide)
    generalize hv : u % 1000003 * 31 % 10007 % ((i : Int) + 1) = v
    have v0 : 0 ≤ v := by rw [← hv]; exact Int.emod_nonneg _ (by omega)
    have v1 : v < (i : Int) + 1 := by rw [← hv]; exact Int.emod_lt_of_pos _ (by omega)
    refine exin (m := v) (d := .int i) (by walk_at "gc") (EvE.eq (ev_mod (j := (i : Int) + 1) (ev_mod (ev_mul (ev_mod (ev_ixL (κ := false) (by walk_at "ev") (by walk_at "ev") a1) (by walk_at "ev") (by decide)) (by walk_at "ev") m1) (by walk_at "ev") (by decide)) (by walk_at "ev") (by omega)) (congrArg PyData.int hv)) (by walk_at "ev") v0 (by rw [List.length_map]; omega) (by rw [List.length_map]; omega) (by walk_at "sc") ?_
    refine ⟨ord.take v.toNat ++ i :: ord.drop v.toNat, some (.fz true (.int i)), ⟨?_, fun y hy => ?_⟩, ?_⟩
    · rw [List.length_append, List.length_cons, List.length_take, List.length_drop]
      omega
    · rcases List.mem_append.mp hy with h | h
      · have := ok.e y (List.mem_of_mem_take h); omega
      · rcases List.mem_cons.mp h with h | h
        · omega
        · have := ok.e y (List.mem_of_mem_drop h); omega
    · rw [List.map_append, List.map_cons, List.map_take, List.map_drop]
  · rintro Γ' ⟨ord, x, ok, rfl⟩
    rw [range_len] at ok
    exact exro (by walk_at "gc") ⟨ord, ok, rfl⟩ (.inl ⟨rfl, rfl⟩)
structure CO (n c : Nat) (css : List (List Nat)) : Prop where
  l : css.length = n
  e : ∀ r ∈ css, (∀ x ∈ r, x < n) ∧ r.length ≤ c
def addAt (kin : List (List Nat)) (o x : Nat) : List (List Nat) := kin.set o (kin.getD o [] ++ [x])
theorem addAt_D (kin : List (List Nat)) {o x : Nat} : (kin.map kD).set o (kD (kin.getD o []) ++ [.int (x : Int)]) = (addAt kin o x).map kD := by
  unfold addAt
  rw [List.map_set]
  congr 1
  unfold kD
  rw [List.map_append]
  rfl
theorem CO.mono {n c c' : Nat} {css : List (List Nat)} (h : CO n c css) (hc : c ≤ c') : CO n c' css := ⟨h.l, fun r hr => ⟨(h.e r hr).1, Nat.le_trans (h.e r hr).2 hc⟩⟩
theorem CO.at {n c : Nat} {css : List (List Nat)} (h : CO n c css) {o : Nat} (ho : o < n) : (css.map kD)[o]? = some (kD (css.getD o [])) ∧ ixN (css.map kD).length (o : Int) = some o ∧ (css.getD o []).length ≤ c := by
  have z : css[o]? = some (css.getD o []) := getD_some (by rw [h.l]; exact ho)
  exact ⟨by rw [List.getElem?_map, z]; rfl, ixN_nat (by rw [List.length_map, h.l]; exact ho), (h.e _ (List.mem_of_getElem? z)).2⟩
theorem CO.add {n c : Nat} {css : List (List Nat)} (h : CO n c css) {o x c' : Nat} (ho : o < n) (hx : x < n) (hc : c ≤ c') (hl : (css.getD o []).length + 1 ≤ c') : CO n c' (addAt css o x) := by
  unfold addAt
  refine ⟨by rw [List.length_set]; exact h.l, fun r hr => ?_⟩
  rcases List.mem_or_eq_of_mem_set hr with hr | hr
  · exact ⟨(h.e r hr).1, Nat.le_trans (h.e r hr).2 hc⟩
  · have z : css[o]? = some (css.getD o []) := getD_some (by rw [h.l]; exact ho)
    have g := h.e _ (List.mem_of_getElem? z)
    rw [hr]
    refine ⟨fun y hy => ?_, by rw [List.length_append]; exact hl⟩
    rcases List.mem_append.mp hy with hy | hy
    · exact g.1 y hy
    · rw [List.mem_singleton.mp hy]; exact hx
theorem CO.sort {n c : Nat} {css : List (List Nat)} (h : CO n c css) (hc : c ≤ 60) : ShOk n (css.map srtN) := by
  refine ⟨by rw [List.length_map]; exact h.l, fun r hr => ?_⟩
  obtain ⟨q, hq, rfl⟩ := List.mem_map.mp hr
  have := h.e q hq
  exact ⟨fun x hx => this.1 x ((srtN_perm q).mem_iff.mp hx), by rw [(srtN_perm q).length_eq]; omega⟩
theorem CO.nil (n c : Nat) : CO n c (List.replicate n []) := ⟨List.length_replicate .., fun r hr => by
  have : r = [] := List.eq_of_mem_replicate hr
  subst this
  exact ⟨(fun c hc => by cases hc), Nat.zero_le _⟩⟩
theorem rep_D (n : Nat) : List.replicate n ([] : List PyData) = (List.replicate n ([] : List Nat)).map kD := by
  rw [List.map_replicate]
  rfl
def pre_law_drawn (ds : List PyData) (G : PyData → Prop) : Prop := ∃ (ps : List Int) (n : Nat), ds = [il ps, .int n] ∧ ps.length = 63 ∧ 2 ≤ n ∧ n ≤ 12 ∧ G = fun d => ∃ cs, ShOk n cs ∧ d = nls cs
theorem len_law_drawn (ds : List PyData) (G : PyData → Prop) (h : pre_law_drawn ds G) : ds.length = 2 := by obtain ⟨a, b, rfl, _⟩ := h; rfl
theorem sc_law_drawn : FnScope ["_law_pool_here", "_law_many", "_law_order_here", "_law_causes", "_law_dense", "_law_at", "_law_j", "_law_i", "_law_cell"] ["_law_pool_here", "_law_many"] (defScope (top 10)) := ⟨rfl, rfl, rfl, by decide +kernel, rfl, by decide +kernel, by decide +kernel⟩
theorem ok_law_drawn (F : Fun K "_law_drawn" "_law_drawn" (top 10) f fd) (B : Bs mg) (Z : Cs K mg t_AGAINST t_ALONG) (c_law_order : Callee P w K mg base CX0 "_law_order" ["_law_pool_here", "_law_many"] 1 (spW K true pre_law_order)) : FnOk P w K mg base CX0 2 f fd ["_law_pool_here", "_law_many"] (spW K true pre_law_drawn) := by
  have sc := sc_law_drawn
  refine F.ok sc (fun vs H Q E h => spW_len len_law_drawn h) (fun cdv A outer s H vs Q E hr h => ?_)
  obtain ⟨Fh, ds, G, le, dp, p, q⟩ := h
  refine ⟨_, (pss_cons (ps_set (i := 2) sc.nd rfl (Or.inl rfl) (pe_fn c_law_order (hr.mono (by decide)) rfl pass0 (pa_cons (pv 0) (pa_cons (pv 1) pa_nil))))
      (pss_cons (ps_setComp (i := 3) rfl sc.nd rfl rfl (N := ["_law_k"]) (js := [none]) (by walk_at "comp_ok") (pi_range1 rfl B.range (pa_cons (pv 1) pa_nil)) (fun _ _ _ _ => (pg_name (i := 0) (show List.Nodup (["_law_k"] : List PySem.Str) by decide +kernel) rfl (Or.inl rfl))) (fun _ _ _ _ => pif_nil) (fun _ _ _ _ => (pe_lst pa_nil)))
      (pss_cons (ps_set (i := 4) sc.nd rfl (Or.inl rfl) (pe_op op_add pe_int (pe_op op_mod (pe_ix (ix_listK (K := K) rfl) (pv 0) pe_int (fun _ _ => rfl)) pe_int)))
      (pss_cons (ps_set (i := 5) sc.nd rfl (Or.inl rfl) pe_int)
      (pss_cons (ps_for PassesOwn.never rfl (pi_range2 rfl B.range (pa_cons pe_int (pa_cons (pv 1) pa_nil))) (pg_name (i := 6) sc.nd rfl (Or.inl rfl)) (pss_one (ps_for PassesOwn.never rfl (pi_range1 rfl B.range (pa_cons (pv 6) pa_nil)) (pg_name (i := 7) sc.nd rfl (Or.inl rfl)) (pss_cons (ps_set (i := 8) sc.nd rfl (Or.inl rfl) (pe_op op_fdiv (pe_ix (ix_listK (K := K) rfl) (pv 0) (pe_op op_add pe_int (pe_op op_mod (pv 5) pe_int)) (fun _ _ => rfl)) (pe_op op_add pe_int (pe_op op_mulB (pe_op op_fdiv (pv 5) pe_int) pe_int))))
      (pss_cons (ps_if (PW.pt (pw_and (pt_cmpR op_lt (pe_op op_mod (pv 8) pe_int) (pv 4) (nomark _)) (pw_and1 (pt_cmpR op_lt (pe_callB (call_len_seqK (K := K) rfl) rfl B.len (by decide +kernel) (pa_cons (pe_ix (ix_listK (K := K) rfl) (pv 3) (pe_ix (ix_listK (K := K) rfl) (pv 2) (pv 6) (fun _ _ => rfl)) (fun _ _ => rfl)) pa_nil)) pe_int (nomark _))))) (pss_one (ps_expr (pe_bmK (K := K) rfl PySem.F.plainAttrs_list PySem.F.slot_list_append PySem.F.type_list_append mt_append (pe_ix (ix_listK (K := K) rfl) (pv 3) (pe_ix (ix_listK (K := K) rfl) (pv 2) (pv 6) (fun _ _ => rfl)) (fun _ _ => rfl)) (pa_cons (pe_ix (ix_listK (K := K) rfl) (pv 2) (pv 7) (fun _ _ => rfl)) pa_nil)))) pss_nil)
      (pss_one (ps_set (i := 5) sc.nd rfl (Or.inl rfl) (pe_op op_add (pv 5) pe_int))))))))
      (pss_one (ps_ret (pe_comp rfl (N := ["_law_own"]) (js := [none]) (by walk_at "comp_ok") (pi_listK (K := K) rfl (pv 3)) (fun _ _ _ _ => (pg_name (i := 0) (show List.Nodup (["_law_own"] : List PySem.Str) by decide +kernel) rfl (Or.inl rfl))) (fun _ _ _ _ => pif_nil) (fun _ _ _ _ => (pe_callB (call_sortedK (K := K) rfl) rfl B.sorted (by decide +kernel) (pa_cons (pv 0) pa_nil))))))))))), ?_⟩
  have hN : (["_law_pool_here", "_law_many", "_law_order_here", "_law_causes", "_law_dense", "_law_at", "_law_j", "_law_i", "_law_cell"] : List Str).length = 9 := rfl
  obtain ⟨ps, n, rfl, hp, n2, hn, rfl⟩ := p
  have big := line_big
  refine run_defW le dp q hN (by walk_at "st") ?_
  refine exg true (evg_call (by walk_at "ev") ⟨ps, n, rfl, hp, hn, rfl⟩) (fun d => by walk_at "sc") ?_
  rintro d ⟨ord, ook, rfl⟩
  refine exo2 (ds := (List.range n).map fun i : Nat => .int (i : Int)) (κ' := true) (ei_rng1 (n := (n : Int)) (by walk_at "ev") (by omega) (by omega)) (by rw [range_len]; omega) (by walk_at "sc") ?_
  rw [range_len, rep_D]
  obtain ⟨u2, a2⟩ := at_ex (ns := ps) (i := 2) (by omega) (by omega)
  generalize hden : 1 + u2 % 4 = den
  refine exs true (d := .int den) (EvE.eq (ev_add (by walk_at "ev") (ev_mod (ev_ixL (κ := false) (by walk_at "ev") (by walk_at "ev") a2) (by walk_at "ev") (by decide))) (congrArg PyData.int hden)) (by walk_at "sc") ?_
  refine exs true (d := .int ((0 : Nat) : Int)) (show EvE K .fresh true _ _ (.int 0) by walk_at "ev") (by walk_at "sc") ?_
  refine exfor (ds := (List.range ((n : Int) - 1).toNat).map fun i : Nat => .int (1 + (i : Int))) true (fun t Γ => ∃ (css : List (List Nat)) (a : Nat) (x y z : Option DV), CO n 5 css ∧ a ≤ 12 * t ∧ Γ = [some (.fz false (il ps)), some (.fz false (.int n)), some (.fz true (nl ord)), some (.o2 none (css.map kD)), some (.fz true (.int den)), some (.fz true (.int a)), x, y, z]) (ei_rng2 (m := 1) (n := (n : Int)) (by walk_at "ev") (by omega)) ⟨_, 0, none, none, none, .nil n 5, Nat.zero_le _, rfl⟩ ?_ ?_
  · rintro t d Γ' hd ⟨css, a, x, y, z, co, ha, rfl⟩
    obtain ⟨ht, rfl⟩ := rg_inv hd
    refine ⟨_, egn (by walk_at "sc") ?_⟩
    obtain ⟨j, hj⟩ : ∃ j : Nat, 1 + (t : Int) = (j : Int) := ⟨1 + t, by omega⟩
    rw [hj]
    have jn : j < n := by omega
    have O := ook.at jn
    refine ex_for (ds := (List.range j).map fun i : Nat => .int (i : Int)) true (fun i Γ => ∃ (css : List (List Nat)) (a : Nat) (y z : Option DV), CO n 5 css ∧ a ≤ 12 * t + i ∧ Γ = [some (.fz false (il ps)), some (.fz false (.int n)), some (.fz true (nl ord)), some (.o2 none (css.map kD)), some (.fz true (.int den)), some (.fz true (.int a)), some (.fz true (.int j)), y, z]) (ei_rng1 (n := (j : Int)) (by walk_at "ev") (by omega) (by omega)) ⟨css, a, y, z, co, by omega, rfl⟩ ?_ ?_
    · clear co ha css a
      rintro i d Γ' hd ⟨css, a, y, z, co, ha, rfl⟩
      obtain ⟨hi, rfl⟩ := range_get hd
      have I := ook.at (show i < n by omega)
      have C := co.at O.2
      refine ⟨_, egn (by walk_at "sc") ?_⟩
      obtain ⟨u, au⟩ := at_ex (ns := ps) (i := 3 + (a : Int) % 47) (by omega) (by omega)
      have m1 : IntMulOk ((a : Int) / 47) 4 := small_mul (by decide) (by decide)
      have c47 : CDiv (a : Int) 47 := ⟨by decide, by decide⟩
      generalize hce : u / (1 + (a : Int) / 47 * 4) = ce
      refine exs true (d := .int ce) (EvE.eq (ev_fdiv (j := 1 + (a : Int) / 47 * 4) (ev_ixL (κ := false) (by walk_at "ev") (by walk_at "ev") au) (by walk_at "ev") ⟨by omega, by omega⟩) (congrArg PyData.int hce)) (by walk_at "sc") ?_
      have ll : PyData.int (((kD (css.getD (ord.getD j 0) [])).length : Nat) : Int) = .int ((css.getD (ord.getD j 0) []).length : Int) := by rw [kD_len]
      have oE : ∀ {κ : Bool} {Γ0 : PD.Ctx}, GetC Γ0 2 (.fz true (nl ord)) → GetC Γ0 6 (.fz true (.int j)) → EvE K .fresh κ (tOp (rIxL K) (tVar 2) (tVar 6)) Γ0 (.int (ord.getD j 0 : Nat)) := fun g1 g2 => EvE.imm (κ := false) (ev_ixL (EvE.toL (evv g1 (by decide))) (evv g2 (by decide)) O.1) rfl
      refine exif (b := decide (ce % 5 < den) && decide (((css.getD (ord.getD j 0) []).length : Int) < 5)) (fun Γ => ∃ css' : List (List Nat), CO n 5 css' ∧ Γ = [some (.fz false (il ps)), some (.fz false (.int n)), some (.fz true (nl ord)), some (.o2 none (css'.map kD)), some (.fz true (.int den)), some (.fz true (.int a)), some (.fz true (.int j)), some (.fz true (.int i)), some (.fz true (.int ce))]) (et_and (by walk_at "ev") fun _ => et_test (ev_lt (EvE.eq (ev_len (EvL.weak (evl_o2 (by walk_at "gc") (oE (by walk_at "gc") (by walk_at "gc")) C.2.1 C.1) fun h => nomatch h)) ll) (by walk_at "ev"))) (fun h => ?_) (fun h => ?_) ?_
      · have h' : (css.getD (ord.getD j 0) []).length < 5 := by
          have : ce % 5 < den ∧ ((css.getD (ord.getD j 0) []).length : Int) < 5 := by simpa using h
          omega
        refine ex_o2app (d := .int (ord.getD i 0 : Nat)) (by walk_at "gc") (oE (by walk_at "gc") (by walk_at "gc")) C.2.1 C.1 (EvE.imm (κ := false) (ev_ixL (κ := false) (by walk_at "ev") (by walk_at "ev") I.1) rfl) (by rw [kD_len]; omega) (by walk_at "sc") ?_
        exact ⟨addAt css (ord.getD j 0) (ord.getD i 0), co.add O.2 I.2 (Nat.le_refl _) (by omega), by rw [addAt_D]⟩
      · exact ex_next ⟨css, co, rfl⟩
      · rintro Γ2 ⟨css', co', rfl⟩
        exact exs1 true (d := .int ((a + 1 : Nat) : Int)) (EvE.eq (ev_add (by walk_at "ev") (by walk_at "ev")) (congrArg PyData.int (show (a : Int) + 1 = ((a + 1 : Nat) : Int) by omega))) (by walk_at "sc") ⟨css', a + 1, _, _, co', by omega, rfl⟩
    · rintro Γ' ⟨css, a, y, z, co, ha, rfl⟩
      rw [range_len] at ha
      exact ⟨css, a, _, _, _, co, by omega, rfl⟩
  · rintro Γ' ⟨css, a, x, y, z, co, ha, rfl⟩
    have e5 : (css.map kD).map PyData.list = css.map nl := by rw [List.map_map]; rfl
    refine exfz2 3 (by walk_at "gc") (by walk_at "sc") ?_
    rw [e5]
    refine ex_ret true (EvO.toE (evo_each (κ := true) (is := [0]) (xs := css) true nl (fun r => nl (srtN r)) (fun x _ y _ h => by rw [show x = y from by rw [← unN_nl x, h, unN_nl]]) (ei_list (by walk_at "ev")) (by walk_at "cc") rfl (by decide) (by rw [co.l]; omega) ?_)) ⟨css.map srtN, co.sort (by omega), by rw [nls, List.map_map]; rfl⟩ (.inl ⟨rfl, rfl⟩)
    intro r hr
    have k5 := (co.e r hr).2
    exact egn (by walk_at "sc") (EvE.eq (EvO.toE (evo_sorted (ns := zl r) (EvE.toL (EvE.eq (κ := false) (by walk_at "ev") (nl_zl r))) (by unfold zl; rw [List.length_map]; omega))) (congrArg PyData.list (srt_zl _)))
theorem shaped_nl (ks : List Nat) : SeqAt.shaped (nl ks) = true := shaped_of (lay_map (fun _ => rfl) ks) (by
  have := depth_map (g := fun k : Nat => PyData.int (k : Int)) (n := 0) (fun _ => Nat.le_refl _) ks
  show PyData.depthAll _ + 1 ≤ 50
  omega)
theorem shaped_nls (cs : List (List Nat)) : SeqAt.shaped (nls cs) = true := shaped_of (lay_map (g := nl) (fun k => lay_map (g := fun k : Nat => PyData.int (k : Int)) (fun _ => rfl) k) cs) (by
  have := depth_map (g := nl) (n := 1) (fun k => by
    have := depth_map (g := fun k : Nat => PyData.int (k : Int)) (n := 0) (fun _ => Nat.le_refl _) k
    show PyData.depthAll _ + 1 ≤ 1
    omega) cs
  show PyData.depthAll _ + 1 ≤ 50
  omega)
theorem pick_mod (u : Int) {n : Nat} (h : 0 < n) : ∃ m : Nat, u % (n : Int) = (m : Int) ∧ m < n := ⟨(u % (n : Int)).toNat, by
  have p0 := Int.emod_nonneg u (show (n : Int) ≠ 0 by omega)
  have p1 := Int.emod_lt_of_pos u (show (0 : Int) < n by omega)
  omega⟩
theorem mem_ins {r : List Nat} {p x n : Nat} (h : ∀ x ∈ r, x < n) (hx : x < n) : ∀ z ∈ r.take p ++ x :: r.drop p, z < n := fun z hz => by
  rcases List.mem_append.mp hz with hz | hz
  · exact h z (List.mem_of_mem_take hz)
  · rcases List.mem_cons.mp hz with hz | hz
    · rw [hz]; exact hx
    · exact h z (List.mem_of_mem_drop hz)
def pre_law_known (ds : List PyData) (G : PyData → Prop) : Prop := ∃ (ps : List Int) (n : Nat), ds = [il ps, .int n] ∧ ps.length = 63 ∧ n ≤ 12 ∧ G = fun d => ∃ kn : List Nat, (∀ x ∈ kn, x < n) ∧ kn.length ≤ 12 ∧ d = nl kn
theorem len_law_known (ds : List PyData) (G : PyData → Prop) (h : pre_law_known ds G) : ds.length = 2 := by obtain ⟨a, b, rfl, _⟩ := h; rfl
theorem sc_law_known : FnScope ["_law_pool_here", "_law_many", "_law_known_here", "_law_thin", "_law_k"] ["_law_pool_here", "_law_many"] (defScope (top 11)) := ⟨rfl, rfl, rfl, by decide +kernel, rfl, by decide +kernel, by decide +kernel⟩
theorem ok_law_known (F : Fun K "_law_known" "_law_known" (top 11) f fd) (B : Bs mg) (Z : Cs K mg t_AGAINST t_ALONG)  : FnOk P w K mg base CX0 1 f fd ["_law_pool_here", "_law_many"] (spW K true pre_law_known) := by
  have sc := sc_law_known
  refine F.ok sc (fun vs H Q E h => spW_len len_law_known h) (fun cdv A outer s H vs Q E hr h => ?_)
  obtain ⟨Fh, ds, G, le, dp, p, q⟩ := h
  refine ⟨_, (pss_cons (ps_set (i := 2) sc.nd rfl (Or.inl rfl) (pe_lst pa_nil))
      (pss_cons (ps_set (i := 3) sc.nd rfl (Or.inl rfl) (pe_op op_add pe_int (pe_op op_mod (pe_op op_fdiv (pe_ix (ix_listK (K := K) rfl) (pv 0) pe_int (fun _ _ => rfl)) pe_int) pe_int)))
      (pss_cons (ps_for PassesOwn.never rfl (pi_range1 rfl B.range (pa_cons (pv 1) pa_nil)) (pg_name (i := 4) sc.nd rfl (Or.inl rfl)) (pss_one (ps_if (pt_cmpR op_eq (pe_op op_mod (pe_op op_mod (pe_op op_mulB (pe_op op_mod (pe_ix (ix_listK (K := K) rfl) (pv 0) (pe_op op_add pe_int (pv 4)) (fun _ _ => rfl)) pe_int) pe_int) pe_int) (pv 3)) pe_int (nomark _)) (pss_one (ps_expr (pe_bmK (K := K) rfl PySem.F.plainAttrs_list PySem.F.slot_list_insert PySem.F.type_list_insert mt_insert (pv 2) (pa_cons (pe_op op_mod (pe_op op_fdiv (pe_ix (ix_listK (K := K) rfl) (pv 0) (pe_op op_add pe_int (pv 4)) (fun _ _ => rfl)) pe_int) (pe_op op_add (pe_callB (call_len_seqK (K := K) rfl) rfl B.len (by decide +kernel) (pa_cons (pv 2) pa_nil)) pe_int)) (pa_cons (pv 4) pa_nil))))) pss_nil)))
      (pss_one (ps_ret (pv 2)))))), ?_⟩
  have hN : (["_law_pool_here", "_law_many", "_law_known_here", "_law_thin", "_law_k"] : List Str).length = 5 := rfl
  obtain ⟨ps, n, rfl, hp, n12, rfl⟩ := p
  have big := line_big
  refine run_defW le dp q hN (by walk_at "st") ?_
  obtain ⟨u1, a1⟩ := at_ex (ns := ps) (i := 1) (by omega) (by omega)
  refine exo true (evo_lst (ds := []) ea_nil (by decide)) (by walk_at "sc") ?_
  generalize hth : 2 + u1 / 70 % 4 = th
  have t0 := Int.emod_nonneg (u1 / 70) (show (4 : Int) ≠ 0 by decide)
  have th2 : 2 ≤ th := by omega
  refine exs true (d := .int th) (EvE.eq (ev_add (by walk_at "ev") (ev_mod (ev_fdiv (ev_ixL (κ := false) (by walk_at "ev") (by walk_at "ev") a1) (by walk_at "ev") ⟨by decide, by decide⟩) (by walk_at "ev") (by decide))) (congrArg PyData.int hth)) (by walk_at "sc") ?_
  refine exfor (ds := (List.range n).map fun i : Nat => .int (i : Int)) true (fun i Γ => ∃ (kn : List Nat) (x : Option DV), (∀ x ∈ kn, x < n) ∧ kn.length ≤ i ∧ Γ = [some (.fz false (il ps)), some (.fz false (.int n)), some (.ow true (kn.map fun k : Nat => .int (k : Int))), some (.fz true (.int th)), x]) (ei_rng1 (n := (n : Int)) (by walk_at "ev") (by omega) (by omega)) ⟨[], none, fun _ z => (by cases z), Nat.le_refl _, rfl⟩ ?_ ?_
  · rintro i d Γ' hd ⟨kn, x, hk, kl, rfl⟩
    obtain ⟨hi, rfl⟩ := range_get hd
    refine ⟨_, egn (by walk_at "sc") ?_⟩
    obtain ⟨u, au⟩ := at_ex (ns := ps) (i := 30 + (i : Int)) (by omega) (by omega)
    have m1 : IntMulOk (u % 1000003) 40503 := small_mul (by decide) (by decide)
    refine ex_if (b := decide (u % 1000003 * 40503 % 65537 % th = 0)) (et_test (ev_eqI (ev_mod (j := th) (ev_mod (ev_mul (ev_mod (ev_ixL (κ := false) (by walk_at "ev") (by walk_at "ev") au) (by walk_at "ev") (by decide)) (by walk_at "ev") m1) (by walk_at "ev") (by decide)) (by walk_at "ev") (by omega)) (by walk_at "ev"))) (fun _ => ?_) (fun _ => ex_next ⟨kn, _, hk, by omega, rfl⟩)
    obtain ⟨v, ev, lv⟩ := pick_mod (u / 7) (n := kn.length + 1) (by omega)
    refine exin (m := (v : Int)) (d := .int i) (by walk_at "gc") (EvE.eq (ev_mod (j := ((kn.length + 1 : Nat) : Int)) (ev_fdiv (ev_ixL (κ := false) (by walk_at "ev") (by walk_at "ev") au) (by walk_at "ev") ⟨by decide, by decide⟩) (EvE.eq (ev_add (EvE.eq (ev_len (ds := kn.map fun k : Nat => .int (k : Int)) (by walk_at "ev")) (by rw [List.length_map])) (by walk_at "ev")) (congrArg PyData.int (by omega))) (by omega)) (congrArg PyData.int ev)) (by walk_at "ev") (by omega) (by rw [List.length_map]; omega) (by rw [List.length_map]; omega) (by walk_at "sc") ?_
    refine ⟨kn.take v ++ i :: kn.drop v, some (.fz true (.int i)), mem_ins hk hi, by rw [List.length_append, List.length_cons, List.length_take, List.length_drop]; omega, ?_⟩
    rw [Int.toNat_natCast, List.map_append, List.map_cons, List.map_take, List.map_drop]
  · rintro Γ' ⟨kn, x, hk, kl, rfl⟩
    rw [range_len] at kl
    exact exro (by walk_at "gc") ⟨kn, hk, by omega, rfl⟩ (.inl ⟨rfl, rfl⟩)
theorem mem_up {cs : List (List Nat)} {k b : Nat} : b ∈ upC cs k ↔ b % 2 = 0 ∧ b / 2 ∈ cs.getD k [] := by
  unfold upC
  rw [List.mem_map]
  constructor
  · rintro ⟨c, hc, rfl⟩
    rw [show 2 * c / 2 = c by omega]
    exact ⟨by omega, hc⟩
  · rintro ⟨h1, h2⟩
    exact ⟨b / 2, h2, by omega⟩
theorem mem_dn {n : Nat} {cs : List (List Nat)} (ok : ShOk n cs) {k b : Nat} (hb : b / 2 < n) : b ∈ dnC cs k ↔ b % 2 = 1 ∧ k ∈ cs.getD (b / 2) [] := by
  unfold dnC effF
  rw [List.mem_map]
  constructor
  · rintro ⟨c, hc, rfl⟩
    rw [show (2 * c + 1) / 2 = c by omega]
    exact ⟨by omega, of_decide_eq_true (List.mem_filter.mp hc).2⟩
  · rintro ⟨h1, h2⟩
    exact ⟨b / 2, List.mem_filter.mpr ⟨List.mem_range.mpr (by rw [ok.l]; exact hb), decide_eq_true h2⟩, by omega⟩
theorem mem_st {n : Nat} {cs : List (List Nat)} (ok : ShOk n cs) {kn : List Nat} {a b : Nat} (hb : b / 2 < n) : (b % 2 = 0 → (b ∈ stC cs kn a ↔ b / 2 ∈ cs.getD (a / 2) [] ∧ (a % 2 = 1 ↔ a / 2 ∈ kn))) ∧ (b % 2 = 1 → (b ∈ stC cs kn a ↔ a / 2 ∈ cs.getD (b / 2) [] ∧ a / 2 ∉ kn)) := by
  unfold stC
  by_cases c : a / 2 ∈ kn
  · rw [if_pos c]
    by_cases d : a % 2 = 1
    · rw [if_pos d, mem_up]
      exact ⟨fun z => ⟨fun y => ⟨y.2, fun _ => c, fun _ => d⟩, fun y => ⟨z, y.1⟩⟩, fun z => ⟨fun y => by omega, fun y => absurd c y.2⟩⟩
    · rw [if_neg d]
      exact ⟨fun z => ⟨fun y => (by cases y), fun y => absurd (y.2.mpr c) d⟩, fun z => ⟨fun y => (by cases y), fun y => absurd c y.2⟩⟩
  · rw [if_neg c]
    by_cases d : a % 2 = 1
    · rw [if_pos d, mem_dn ok hb]
      exact ⟨fun z => ⟨fun y => by omega, fun y => absurd (y.2.mp d) c⟩, fun z => ⟨fun y => ⟨y.2, c⟩, fun y => ⟨z, y.1⟩⟩⟩
    · rw [if_neg d, List.mem_append, mem_up, mem_dn ok hb]
      refine ⟨fun z => ⟨fun y => ⟨?_, fun w => absurd w d, fun w => absurd w c⟩, fun y => .inl ⟨z, y.1⟩⟩, fun z => ⟨fun y => ⟨?_, c⟩, fun y => .inr ⟨z, y.1⟩⟩⟩
      · rcases y with y | y
        · exact y.2
        · omega
      · rcases y with y | y
        · omega
        · exact y.2
def pre_law_leads (ds : List PyData) (d : PyData) : Prop := ∃ (n : Nat) (cs : List (List Nat)) (kn : List Nat) (a b : Nat), ds = [nls cs, nl kn, cD a, cD b] ∧ ShOk n cs ∧ a / 2 < n ∧ b / 2 < n ∧ d = .bool (decide (b ∈ stC cs kn a))
theorem len_law_leads (ds : List PyData) (d : PyData) (h : pre_law_leads ds d) : ds.length = 4 := by obtain ⟨a, b, c, e, f, rfl, _⟩ := h; rfl
theorem sc_law_leads : FnScope ["_law_causes", "_law_known_here", "_law_one", "_law_other", "_law_thing", "_law_way"] ["_law_causes", "_law_known_here", "_law_one", "_law_other"] (defScope (top 12)) := ⟨rfl, rfl, rfl, by decide +kernel, rfl, by decide +kernel, by decide +kernel⟩
theorem ok_law_leads (F : Fun K "_law_leads" "_law_leads" (top 12) f fd) (B : Bs mg) (Z : Cs K mg t_AGAINST t_ALONG)  : FnOk P w K mg base CX0 1 f fd ["_law_causes", "_law_known_here", "_law_one", "_law_other"] (spD K true pre_law_leads) := by
  have sc := sc_law_leads
  refine F.ok sc (fun vs H Q E h => spD_len len_law_leads h) (fun cdv A outer s H vs Q E hr h => ?_)
  obtain ⟨Fh, ds, d, le, dp, p, q⟩ := h
  refine ⟨_, (pss_cons (ps_asg (pv 2) (pg_tupK (K := K) (n := 2) rfl rfl (pgs_cons (pg_name (i := 4) sc.nd rfl (Or.inl rfl)) (pgs_cons (pg_name (i := 5) sc.nd rfl (Or.inl rfl)) pgs_nil))))
      (pss_cons (ps_if (pt_cmpR op_eq (pe_ix (ix_tupK (K := K) rfl) (pv 3) pe_int (fun _ _ => rfl)) pe_int (nomark _)) (pss_one (ps_ret (pe_and (pe_cmpR (op_in_seqK (K := K) rfl) (pe_ix (ix_tupK (K := K) rfl) (pv 3) pe_int (fun _ _ => rfl)) (pe_ix (ix_listK (K := K) rfl) (pv 0) (pv 4) (fun _ _ => rfl)) (rfl)) (pe_one (pe_cmpR op_eq (pe_cmpR op_eq (pv 5) pe_int (nomark _)) (pe_cmpR (op_in_seqK (K := K) rfl) (pv 4) (pv 1) (rfl)) (nomark _)))))) pss_nil)
      (pss_one (ps_ret (pe_and (pe_cmpR (op_in_seqK (K := K) rfl) (pv 4) (pe_ix (ix_listK (K := K) rfl) (pv 0) (pe_ix (ix_tupK (K := K) rfl) (pv 3) pe_int (fun _ _ => rfl)) (fun _ _ => rfl)) (rfl)) (pe_one (pe_cmpR (op_notIn_seqK (K := K) rfl) (pv 4) (pv 1) (rfl)))))))), ?_⟩
  have hN : (["_law_causes", "_law_known_here", "_law_one", "_law_other", "_law_thing", "_law_way"] : List Str).length = 6 := rfl
  obtain ⟨n, cs, kn, a, b, rfl, ok, ha, hb, rfl⟩ := p
  have big := line_big
  have ms := mem_st ok (kn := kn) (a := a) hb
  have aa : atI (cs.map nl) ((a / 2 : Nat) : Int) = some (nl (cs.getD (a / 2) [])) := atI_map (ok.at ha).1
  have ab : atI (cs.map nl) ((b / 2 : Nat) : Int) = some (nl (cs.getD (b / 2) [])) := atI_map (ok.at hb).1
  walk_at "run"
  refine ex_seq (· = [some (.fz false (nls cs)), some (.fz false (nl kn)), some (.fz false (cD a)), some (.fz false (cD b)), some (.fz false (.int ((a / 2 : Nat) : Int))), some (.fz false (.int ((a % 2 : Nat) : Int)))]) (ex_asg (κ := false) (EvE.eq (a := cD a) (by walk_at "ev") rfl) (egt (by walk_at "sc") (by walk_at "sc") rfl)) ?_
  rintro Γ' rfl
  have e0 : EvE K .fresh false (tOp (rIxT K) (tVar 3) (tC (.int 0))) [some (.fz false (nls cs)), some (.fz false (nl kn)), some (.fz false (cD a)), some (.fz false (cD b)), some (.fz false (.int ((a / 2 : Nat) : Int))), some (.fz false (.int ((a % 2 : Nat) : Int)))] (.int ((b / 2 : Nat) : Int)) := ev_ixT (κ := false) (ds := [.int ((b / 2 : Nat) : Int), .int ((b % 2 : Nat) : Int)]) (i := 0) (EvE.eq (a := cD b) (by walk_at "ev") rfl) (by walk_at "ev") rfl
  refine exif2 (b := decide (((b % 2 : Nat) : Int) = 0)) (et_test (ev_eqI (ev_ixT (κ := false) (ds := [.int ((b / 2 : Nat) : Int), .int ((b % 2 : Nat) : Int)]) (i := 1) (EvE.eq (a := cD b) (by walk_at "ev") rfl) (by walk_at "ev") rfl) (by walk_at "ev"))) (fun h => ?_) (fun h => ?_)
  · have h := of_decide_eq_true h
    refine exrs true (ev_and (EvE.eq (ev_inI (neg := false) (i := ((b / 2 : Nat) : Int)) (ns := zl (cs.getD (a / 2) [])) e0 (EvE.toL (EvE.eq (κ := false) (ev_ixL (κ := false) (by walk_at "ev") (by walk_at "ev") aa) (nl_zl _)))) (congrArg PyData.bool mem_zl)) fun _ => ev_eqB (i := decide (((a % 2 : Nat) : Int) = 1)) (j := decide (a / 2 ∈ kn)) (by walk_at "ev") (EvE.eq (ev_inI (neg := false) (i := ((a / 2 : Nat) : Int)) (ns := zl kn) (by walk_at "ev") (EvE.toL (EvE.eq (κ := false) (by walk_at "ev") (nl_zl _)))) (congrArg PyData.bool mem_zl))) ?_ (.inl ⟨rfl, rfl⟩)
    have m := ms.1 (by omega)
    refine congrArg PyData.bool ?_
    rw [show decide (((a % 2 : Nat) : Int) = 1) = decide (a % 2 = 1) from decide_eq_decide.mpr (by omega)]
    by_cases c1 : b / 2 ∈ cs.getD (a / 2) []
    · rw [decide_eq_true c1, Bool.true_and]
      by_cases c2 : a / 2 ∈ kn <;> by_cases c3 : a % 2 = 1
      · rw [decide_eq_true c2, decide_eq_true c3, decide_eq_true (m.mpr ⟨c1, fun _ => c2, fun _ => c3⟩)]; rfl
      · rw [decide_eq_true c2, decide_eq_false c3, decide_eq_false fun z => c3 ((m.mp z).2.mpr c2)]; rfl
      · rw [decide_eq_false c2, decide_eq_true c3, decide_eq_false fun z => c2 ((m.mp z).2.mp c3)]; rfl
      · rw [decide_eq_false c2, decide_eq_false c3, decide_eq_true (m.mpr ⟨c1, fun z => absurd z c3, fun z => absurd z c2⟩)]; rfl
    · rw [decide_eq_false c1, decide_eq_false fun z => c1 (m.mp z).1]
      rfl
  · have h := of_decide_eq_false h
    refine exn (ex_ret true (ev_and (EvE.eq (ev_inI (neg := false) (i := ((a / 2 : Nat) : Int)) (ns := zl (cs.getD (b / 2) [])) (by walk_at "ev") (EvE.toL (EvE.eq (κ := false) (ev_ixL (κ := false) (by walk_at "ev") e0 ab) (nl_zl _)))) (congrArg PyData.bool mem_zl)) fun _ => EvE.eq (ev_inI (neg := true) (i := ((a / 2 : Nat) : Int)) (ns := zl kn) (by walk_at "ev") (EvE.toL (EvE.eq (κ := false) (by walk_at "ev") (nl_zl _)))) (by show PyData.bool (!decide _) = _; rw [mem_zl])) ?_ (.inl ⟨rfl, rfl⟩))
    have m := ms.2 (by omega)
    refine congrArg PyData.bool ?_
    by_cases c1 : a / 2 ∈ cs.getD (b / 2) []
    · rw [decide_eq_true c1, Bool.true_and]
      by_cases c2 : a / 2 ∈ kn
      · rw [decide_eq_true c2, decide_eq_false fun z => (m.mp z).2 c2]; rfl
      · rw [decide_eq_false c2, decide_eq_true (m.mpr ⟨c1, c2⟩)]; rfl
    · rw [decide_eq_false c1, decide_eq_false fun z => c1 (m.mp z).1]
      rfl
def lfC (n : Nat) (fs : List Nat) : List Nat := (List.range n).filter fun c => !decide (c ∈ fs)
theorem mem_lf {n : Nat} {fs : List Nat} {c : Nat} : c ∈ lfC n fs ↔ c < n ∧ c ∉ fs := by
  unfold lfC
  rw [List.mem_filter, List.mem_range]
  simp
theorem lf_next {n : Nat} {fs : List Nat} (q : Nat → Bool) : ((lfC n fs).filter fun c => !decide (c ∈ (lfC n fs).filter q)) = lfC n (fs ++ (lfC n fs).filter q) := by
  have mem : ∀ c, c ∈ ((lfC n fs).filter q) ↔ (c < n ∧ c ∉ fs) ∧ q c = true := fun c => by rw [List.mem_filter, mem_lf]
  unfold lfC
  rw [List.filter_filter]
  refine List.filter_congr fun c hc => ?_
  have m := mem c
  unfold lfC at m
  by_cases c1 : c ∈ fs
  · rw [decide_eq_true c1, decide_eq_true (List.mem_append_left _ c1)]
    simp
  · by_cases c2 : q c = true
    · have := m.mpr ⟨⟨List.mem_range.mp hc, c1⟩, c2⟩
      rw [decide_eq_true this, decide_eq_true (List.mem_append_right _ this)]
      rfl
    · rw [decide_eq_false fun y => c2 (m.mp y).2, decide_eq_false c1, decide_eq_false fun y => (List.mem_append.mp y).elim c1 fun w => c2 (m.mp w).2]
      rfl
structure GW (n : Nat) (a : Nat) (fs : List Nat) : Prop where
  nd : fs.Nodup
  lt : ∀ y ∈ fs, y < n
  pos : fs ≠ []
  a : a ≤ fs.length
theorem GW.next {n a : Nat} {fs : List Nat} (h : GW n a fs) (q : Nat → Bool) (ha : a < fs.length) : GW n (a + 1) (fs ++ (lfC n fs).filter q) := by
  have mem : ∀ c, c ∈ ((lfC n fs).filter q) ↔ (c < n ∧ c ∉ fs) ∧ q c = true := fun c => by rw [List.mem_filter, mem_lf]
  refine ⟨?_, fun y hy => ?_, fun z => h.pos (List.append_eq_nil_iff.mp z).1, by rw [List.length_append]; omega⟩
  · rw [List.nodup_append]
    refine ⟨h.nd, (List.nodup_range.sublist List.filter_sublist).sublist List.filter_sublist, fun u hu v hv e => ?_⟩
    exact ((mem v).mp hv).1.2 (e ▸ hu)
  · rcases List.mem_append.mp hy with hy | hy
    · exact h.lt y hy
    · exact ((mem y).mp hy).1.1
theorem ev_lft {c : Nat} : PyData.tuple [.int ((c : Int) / 2), .int ((c : Int) % 2)] = cD c := by
  unfold cD
  rw [show (c : Int) / 2 = ((c / 2 : Nat) : Int) by omega, show (c : Int) % 2 = ((c % 2 : Nat) : Int) by omega]
def pre_law_grown (ds : List PyData) (G : PyData → Prop) : Prop := ∃ (n : Nat) (cs : List (List Nat)) (kn sm : List Nat), ds = [nls cs, nl kn, pl sm] ∧ ShOk n cs ∧ n ≤ 12 ∧ sm.Nodup ∧ (∀ y ∈ sm, y < 2 * n) ∧ sm ≠ [] ∧ G = fun d => ∃ fs : List Nat, fs.Nodup ∧ (∀ y ∈ fs, y < 2 * n) ∧ fs ≠ [] ∧ d = pl fs
theorem len_law_grown (ds : List PyData) (G : PyData → Prop) (h : pre_law_grown ds G) : ds.length = 3 := by obtain ⟨a, b, c, e, rfl, _⟩ := h; rfl
theorem sc_law_grown : FnScope ["_law_causes", "_law_known_here", "_law_some", "_law_found", "_law_left", "_law_at", "_law_more"] ["_law_causes", "_law_known_here", "_law_some"] (defScope (top 13)) := ⟨rfl, rfl, rfl, by decide +kernel, rfl, by decide +kernel, by decide +kernel⟩
theorem ok_law_grown (F : Fun K "_law_grown" "_law_grown" (top 13) f fd) (B : Bs mg) (Z : Cs K mg t_AGAINST t_ALONG) (c_law_leads : Callee P w K mg base CX0 "_law_leads" ["_law_causes", "_law_known_here", "_law_one", "_law_other"] 1 (spD K true pre_law_leads)) : FnOk P w K mg base CX0 2 f fd ["_law_causes", "_law_known_here", "_law_some"] (spW K true pre_law_grown) := by
  have sc := sc_law_grown
  refine F.ok sc (fun vs H Q E h => spW_len len_law_grown h) (fun cdv A outer s H vs Q E hr h => ?_)
  obtain ⟨Fh, ds, G, le, dp, p, q⟩ := h
  refine ⟨_, (pss_cons (ps_set (i := 3) sc.nd rfl (Or.inr rfl) (pe_callTy (call_list_ofK (K := K) rfl) rfl B.list (by decide +kernel) (pa_cons (pv 2) pa_nil)))
      (pss_cons (ps_setComp (i := 4) rfl sc.nd rfl rfl (N := ["_law_k", "_law_found"]) (js := [none, some 3]) (by walk_at "comp_ok") (pi_range1 rfl B.range (pa_cons (pe_op op_mulB pe_int (pe_callB (call_len_seqK (K := K) rfl) rfl B.len (by decide +kernel) (pa_cons (pv 0) pa_nil))) pa_nil)) (fun _ _ _ _ => (pg_name (i := 0) (show List.Nodup (["_law_k", "_law_found"] : List PySem.Str) by decide +kernel) rfl (Or.inl rfl))) (fun _ _ _ _ => (pif_one (pt_cmpR (op_notInDK (K := K) rfl hr.units) (pe_tup (pa_cons (pe_op op_fdiv (pv 0) pe_int) (pa_cons (pe_op op_mod (pv 0) pe_int) pa_nil))) (pv 1) (rfl)))) (fun _ _ _ _ => (pe_tup (pa_cons (pe_op op_fdiv (pv 0) pe_int) (pa_cons (pe_op op_mod (pv 0) pe_int) pa_nil)))))
      (pss_cons (ps_set (i := 5) sc.nd rfl (Or.inr rfl) pe_int)
      (pss_cons (ps_while PassesOwn.never (pt_cmpR op_lt (pv 5) (pe_callB (call_len_seqK (K := K) rfl) rfl B.len (by decide +kernel) (pa_cons (pv 3) pa_nil)) (nomark _)) (pss_cons (ps_set (i := 6) sc.nd rfl (Or.inr rfl) (pe_comp rfl (N := ["_law_one", "_law_causes", "_law_known_here", "_law_found", "_law_at"]) (js := [none, some 0, some 1, some 3, some 5]) (by walk_at "comp_ok") (pi_listK (K := K) rfl (pv 4)) (fun _ _ _ _ => (pg_name (i := 0) (show List.Nodup (["_law_one", "_law_causes", "_law_known_here", "_law_found", "_law_at"] : List PySem.Str) by decide +kernel) rfl (Or.inl rfl))) (fun _ _ _ _ => (pif_one (pt_val (pe_fn c_law_leads (hr.mono (by decide)) rfl pass0 (pa_cons (pv 1) (pa_cons (pv 2) (pa_cons (pe_ix (ix_listK (K := K) rfl) (pv 3) (pv 4) (fun _ _ => rfl)) (pa_cons (pv 0) pa_nil)))))))) (fun _ _ _ _ => (pv 0))))
      (pss_cons (ps_set (i := 3) sc.nd rfl (Or.inr rfl) (pe_op (op_catSK (K := K) rfl) (pv 3) (pv 6)))
      (pss_cons (ps_setComp (i := 4) rfl sc.nd rfl rfl (N := ["_law_one", "_law_more"]) (js := [none, some 6]) (by walk_at "comp_ok") (pi_listK (K := K) rfl (pv 4)) (fun _ _ _ _ => (pg_name (i := 0) (show List.Nodup (["_law_one", "_law_more"] : List PySem.Str) by decide +kernel) rfl (Or.inl rfl))) (fun _ _ _ _ => (pif_one (pt_cmpR (op_notInDK (K := K) rfl hr.units) (pv 0) (pv 1) (rfl)))) (fun _ _ _ _ => (pv 0)))
      (pss_one (ps_set (i := 5) sc.nd rfl (Or.inr rfl) (pe_op op_add (pv 5) pe_int)))))))
      (pss_one (ps_ret (pv 3))))))), ?_⟩
  have hN : (["_law_causes", "_law_known_here", "_law_some", "_law_found", "_law_left", "_law_at", "_law_more"] : List Str).length = 7 := rfl
  obtain ⟨n, cs, kn, sm, rfl, ok, n12, nd, lt, ne, rfl⟩ := p
  have big := line_big
  have el : PyData.int (((cs.map nl).length : Nat) : Int) = .int (n : Int) := by rw [List.length_map, ok.l]
  have lf : ∀ fs : List Nat, (lfC (2 * n) fs).length ≤ 2 * n := fun fs => by
    have := List.length_filter_le (fun c => !decide (c ∈ fs)) (List.range (2 * n))
    rw [List.length_range] at this
    exact this
  have m1 : IntMulOk 2 (n : Int) := small_mul (by omega) (by omega)
  refine run_defW le dp q hN (by walk_at "st") ?_
  refine exs true (d := pl sm) (EvO.toE (evo_list (EvL.imm (κ := false) (by walk_at "ev") (pl_imm sm)))) (by walk_at "sc") ?_
  refine exs true (d := pl (lfC (2 * n) sm)) (EvO.toE (evo_rngIf (κ := true) (is := [0]) (n := 2 * n) cD (fun c => !decide (c ∈ sm)) (ea_cons (EvE.eq (ev_mul (by walk_at "ev") (EvE.eq (ev_len (ds := cs.map nl) (by walk_at "ev")) el) m1) (congrArg PyData.int (by omega))) ea_nil) (by omega) (by walk_at "cc") rfl (by decide) ?_)) (by walk_at "sc") ?_
  · intro c hc
    exact egn (by walk_at "sc") ⟨EvT.eq (et_test (ev_inD (neg := true) (d := cD c) (ds := sm.map cD) (EvE.eq (ev_tup (ds := [.int ((c : Int) / 2), .int ((c : Int) % 2)]) (ea_cons (ev_fdiv (by walk_at "ev") (by walk_at "ev") ⟨by decide, by decide⟩) (ea_cons (ev_mod (by walk_at "ev") (by walk_at "ev") (by decide)) ea_nil)) (by show 2 ≤ _; omega)) ev_lft) (by walk_at "ev") (cD_low c) (cDs_low _))) (by show (!List.any _ _) = _; rw [any_cD]), fun _ => EvE.eq (ev_tup (ds := [.int ((c : Int) / 2), .int ((c : Int) % 2)]) (ea_cons (ev_fdiv (by walk_at "ev") (by walk_at "ev") ⟨by decide, by decide⟩) (ea_cons (ev_mod (by walk_at "ev") (by walk_at "ev") (by decide)) ea_nil)) (by show 2 ≤ _; omega)) ev_lft⟩
  refine exs true (d := .int ((0 : Nat) : Int)) (EvE.eq (a := .int 0) (by walk_at "ev") rfl) (by walk_at "sc") ?_
  refine ex_seq (fun Γ => ∃ fs x1 x2 x3, fs.Nodup ∧ (∀ y ∈ fs, y < 2 * n) ∧ fs ≠ [] ∧ Γ = [some (.fz false (nls cs)), some (.fz false (nl kn)), some (.fz false (pl sm)), some (.fz true (pl fs)), x1, x2, x3]) (ex_while (fun q Γ => ∃ (fs : List Nat) (a : Nat) (s : Option DV), GW (2 * n) a fs ∧ q = 2 * n - a ∧ Γ = [some (.fz false (nls cs)), some (.fz false (nl kn)), some (.fz false (pl sm)), some (.fz true (pl fs)), some (.fz true (pl (lfC (2 * n) fs))), some (.fz true (.int (a : Int))), s]) (2 * n) ⟨sm, 0, none, ⟨nd, lt, ne, Nat.zero_le _⟩, rfl, rfl⟩ ?_) ?_
  · rintro q Γ' ⟨fs, a, s, ld, rfl, rfl⟩
    have fl := nd_len (2 * n) fs ld.nd ld.lt
    have lfl := lf fs
    refine ⟨decide ((a : Int) < (fs.length : Int)), et_test (ev_lt (by walk_at "ev") (EvE.eq (ev_len (ds := fs.map cD) (by walk_at "ev")) (by rw [List.length_map]))), fun h => ?_, fun h => ?_⟩
    · have h : a < fs.length := by have := of_decide_eq_true h; omega
      have gz : fs[a]? = some (fs.getD a 0) := getD_some h
      generalize fs.getD a 0 = z at gz
      have az : atI (fs.map cD) (a : Int) = some (cD z) := atI_map gz
      have zn := ld.lt z (List.mem_of_getElem? gz)
      have nx := ld.next (fun c => decide (c ∈ stC cs kn z)) h
      have sl := List.length_filter_le (fun c => decide (c ∈ stC cs kn z)) (lfC (2 * n) fs)
      refine exs true (d := pl ((lfC (2 * n) fs).filter fun c => decide (c ∈ stC cs kn z))) (EvO.toE (evo_eachIf (κ := true) (is := [0]) (xs := lfC (2 * n) fs) true cD cD (fun c => decide (c ∈ stC cs kn z)) (fun x _ y _ h => by cases cD_inj h; exact ⟨rfl, rfl⟩) (ei_list (by walk_at "ev")) (by walk_at "cc") rfl (by decide) (by omega) ?_)) (by walk_at "sc") ?_
      · intro c hc
        have cn := (mem_lf.mp hc).1
        exact egn (by walk_at "sc") ⟨et_B (ev_callF (ea_cons (by walk_at "ev") (ea_cons (by walk_at "ev") (ea_cons (ev_ixL (κ := false) (by walk_at "ev") (by walk_at "ev") az) (ea_cons (by walk_at "ev") ea_nil)))) ⟨n, cs, kn, z, c, rfl, ok, by omega, by omega, rfl⟩), fun _ => by walk_at "ev"⟩
      refine exs true (d := pl (fs ++ (lfC (2 * n) fs).filter fun c => decide (c ∈ stC cs kn z))) (EvO.toE (EvO.eq (evo_cat (xs := fs.map cD) (ys := ((lfC (2 * n) fs).filter fun c => decide (c ∈ stC cs kn z)).map cD) (by walk_at "ev") (by walk_at "ev") (by rw [List.length_map, List.length_map]; omega)) (by rw [List.map_append]))) (by walk_at "sc") ?_
      refine exs true (d := pl (lfC (2 * n) (fs ++ (lfC (2 * n) fs).filter fun c => decide (c ∈ stC cs kn z)))) (EvO.toE (EvO.eq (evo_eachIf (κ := true) (is := [0]) (xs := lfC (2 * n) fs) true cD cD (fun c => !decide (c ∈ (lfC (2 * n) fs).filter fun c => decide (c ∈ stC cs kn z))) (fun x _ y _ h => by cases cD_inj h; exact ⟨rfl, rfl⟩) (ei_list (by walk_at "ev")) (by walk_at "cc") rfl (by decide) (by omega) ?_) (by rw [lf_next]))) (by walk_at "sc") ?_
      · intro c hc
        exact egn (by walk_at "sc") ⟨EvT.eq (et_test (ev_inD (neg := true) (d := cD c) (ds := ((lfC (2 * n) fs).filter fun c => decide (c ∈ stC cs kn z)).map cD) (by walk_at "ev") (by walk_at "ev") (cD_low c) (cDs_low _))) (by show (!List.any _ _) = _; rw [any_cD]), fun _ => by walk_at "ev"⟩
      refine exs1 true (d := .int ((a + 1 : Nat) : Int)) (EvE.eq (by walk_at "ev") (congrArg PyData.int (by omega))) (by walk_at "sc") ?_
      exact ⟨_, by omega, _, a + 1, _, nx, rfl, rfl⟩
    · exact ⟨fs, _, _, _, ld.nd, ld.lt, ld.pos, rfl⟩
  · rintro Γ' ⟨fs, x1, x2, x3, nd, lt, ne, rfl⟩
    exact ex_ret true (by walk_at "ev") ⟨fs, nd, lt, ne, rfl⟩ (.inl ⟨rfl, rfl⟩)
def pre_law_is_closed (ds : List PyData) (d : PyData) : Prop := ∃ (n : Nat) (cs : List (List Nat)) (kn fs : List Nat), ds = [nls cs, nl kn, pl fs] ∧ ShOk n cs ∧ n ≤ 12 ∧ fs.length ≤ 24 ∧ (∀ y ∈ fs, y < 2 * n) ∧ d = .bool (clB cs kn fs)
theorem len_law_is_closed (ds : List PyData) (d : PyData) (h : pre_law_is_closed ds d) : ds.length = 3 := by obtain ⟨a, b, c, e, rfl, _⟩ := h; rfl
theorem sc_law_is_closed : FnScope ["_law_causes", "_law_known_here", "_law_pairs_here", "_law_left", "_law_one", "_law_other"] ["_law_causes", "_law_known_here", "_law_pairs_here"] (defScope (top 14)) := ⟨rfl, rfl, rfl, by decide +kernel, rfl, by decide +kernel, by decide +kernel⟩
theorem ok_law_is_closed (F : Fun K "_law_is_closed" "_law_is_closed" (top 14) f fd) (B : Bs mg) (Z : Cs K mg t_AGAINST t_ALONG) (c_law_leads : Callee P w K mg base CX0 "_law_leads" ["_law_causes", "_law_known_here", "_law_one", "_law_other"] 1 (spD K true pre_law_leads)) : FnOk P w K mg base CX0 2 f fd ["_law_causes", "_law_known_here", "_law_pairs_here"] (spD K true pre_law_is_closed) := by
  have sc := sc_law_is_closed
  refine F.ok sc (fun vs H Q E h => spD_len len_law_is_closed h) (fun cdv A outer s H vs Q E hr h => ?_)
  obtain ⟨Fh, ds, d, le, dp, p, q⟩ := h
  refine ⟨_, (pss_cons (ps_setComp (i := 3) rfl sc.nd rfl rfl (N := ["_law_k", "_law_pairs_here"]) (js := [none, some 2]) (by walk_at "comp_ok") (pi_range1 rfl B.range (pa_cons (pe_op op_mulB pe_int (pe_callB (call_len_seqK (K := K) rfl) rfl B.len (by decide +kernel) (pa_cons (pv 0) pa_nil))) pa_nil)) (fun _ _ _ _ => (pg_name (i := 0) (show List.Nodup (["_law_k", "_law_pairs_here"] : List PySem.Str) by decide +kernel) rfl (Or.inl rfl))) (fun _ _ _ _ => (pif_one (pt_cmpR (op_notInDK (K := K) rfl hr.units) (pe_tup (pa_cons (pe_op op_fdiv (pv 0) pe_int) (pa_cons (pe_op op_mod (pv 0) pe_int) pa_nil))) (pv 1) (rfl)))) (fun _ _ _ _ => (pe_tup (pa_cons (pe_op op_fdiv (pv 0) pe_int) (pa_cons (pe_op op_mod (pv 0) pe_int) pa_nil)))))
      (pss_cons (ps_for PassesOwn.never rfl (pi_listK (K := K) rfl (pv 2)) (pg_name (i := 4) sc.nd rfl (Or.inl rfl)) (pss_one (ps_for PassesOwn.never rfl (pi_listK (K := K) rfl (pv 3)) (pg_name (i := 5) sc.nd rfl (Or.inl rfl)) (pss_one (ps_if (pt_val (pe_fn c_law_leads (hr.mono (by decide)) rfl pass0 (pa_cons (pv 0) (pa_cons (pv 1) (pa_cons (pv 4) (pa_cons (pv 5) pa_nil)))))) (pss_one (ps_ret pe_bl)) pss_nil)))))
      (pss_one (ps_ret pe_bl)))), ?_⟩
  have hN : (["_law_causes", "_law_known_here", "_law_pairs_here", "_law_left", "_law_one", "_law_other"] : List Str).length = 6 := rfl
  obtain ⟨n, cs, kn, fs, rfl, ok, n12, f24, lt, rfl⟩ := p
  have big := line_big
  have no := st_ok ok n12 kn
  have el : PyData.int (((cs.map nl).length : Nat) : Int) = .int (n : Int) := by rw [List.length_map, ok.l]
  have m1 : IntMulOk 2 (n : Int) := small_mul (by omega) (by omega)
  walk_at "run"
  refine exs true (d := pl (lfC (2 * n) fs)) (EvO.toE (evo_rngIf (κ := true) (is := [0]) (n := 2 * n) cD (fun c => !decide (c ∈ fs)) (ea_cons (EvE.eq (ev_mul (by walk_at "ev") (EvE.eq (ev_len (ds := cs.map nl) (by walk_at "ev")) el) m1) (congrArg PyData.int (by omega))) ea_nil) (by omega) (by walk_at "cc") rfl (by decide) ?_)) (by walk_at "sc") ?_
  · intro c hc
    exact egn (by walk_at "sc") ⟨EvT.eq (et_test (ev_inD (neg := true) (d := cD c) (ds := fs.map cD) (EvE.eq (ev_tup (ds := [.int ((c : Int) / 2), .int ((c : Int) % 2)]) (ea_cons (ev_fdiv (by walk_at "ev") (by walk_at "ev") ⟨by decide, by decide⟩) (ea_cons (ev_mod (by walk_at "ev") (by walk_at "ev") (by decide)) ea_nil)) (by show 2 ≤ _; omega)) ev_lft) (by walk_at "ev") (cD_low c) (cDs_low _))) (by show (!List.any _ _) = _; rw [any_cD]), fun _ => EvE.eq (ev_tup (ds := [.int ((c : Int) / 2), .int ((c : Int) % 2)]) (ea_cons (ev_fdiv (by walk_at "ev") (by walk_at "ev") ⟨by decide, by decide⟩) (ea_cons (ev_mod (by walk_at "ev") (by walk_at "ev") (by decide)) ea_nil)) (by show 2 ≤ _; omega)) ev_lft⟩
  refine exfor (ds := fs.map cD) false (fun i Γ => (∀ j z, j < i → fs[j]? = some z → ∀ y ∈ stC cs kn z, y ∈ fs) ∧ ∃ x1 x2, Γ = [some (.fz false (nls cs)), some (.fz false (nl kn)), some (.fz false (pl fs)), some (.fz true (pl (lfC (2 * n) fs))), x1, x2]) (ei_list (by walk_at "ev")) ⟨fun j z h => absurd h (Nat.not_lt_zero _), none, none, rfl⟩ ?_ ?_
  · rintro i d Γ' hd ⟨al, x1, x2, rfl⟩
    obtain ⟨c, hc, rfl⟩ := get_map hd
    have cm := List.mem_of_getElem? hc
    have cn := lt c cm
    refine ⟨_, egn (by walk_at "sc") ?_⟩
    refine ex_for (ds := (lfC (2 * n) fs).map cD) true (fun i' Γ => (∀ j y, j < i' → (lfC (2 * n) fs)[j]? = some y → y ∉ stC cs kn c) ∧ ∃ x2, Γ = [some (.fz false (nls cs)), some (.fz false (nl kn)), some (.fz false (pl fs)), some (.fz true (pl (lfC (2 * n) fs))), some (.fz false (cD c)), x2]) (ei_list (by walk_at "ev")) ⟨fun j z h => absurd h (Nat.not_lt_zero _), _, rfl⟩ ?_ ?_
    · rintro j d Γ' hd ⟨bl, x2, rfl⟩
      obtain ⟨y, hy, rfl⟩ := get_map hd
      have ym := mem_lf.mp (List.mem_of_getElem? hy)
      refine ⟨_, egn (by walk_at "sc") ?_⟩
      refine ex_if (b := decide (y ∈ stC cs kn c)) (et_B (ev_callF (by walk_at "ev") ⟨n, cs, kn, c, y, rfl, ok, by omega, by omega, rfl⟩)) (fun h => ?_) fun h => ex_next ?_
      · refine ex_ret true (by walk_at "ev") ?_ (.inl ⟨rfl, rfl⟩)
        refine congrArg PyData.bool (Eq.symm ?_)
        rw [Bool.eq_false_iff]
        exact fun z => ym.2 (clB_iff.mp z c cm y (of_decide_eq_true h))
      · refine ⟨fun j' z hj hz => ?_, _, rfl⟩
        by_cases e : j' = j
        · subst e
          rw [hy] at hz
          cases hz
          exact of_decide_eq_false h
        · exact bl j' z (by omega) hz
    · rintro Γ' ⟨bl, x2, rfl⟩
      rw [List.length_map] at bl
      refine ⟨fun j z hj hz => ?_, _, _, rfl⟩
      by_cases e : j = i
      · subst e
        rw [hc] at hz
        cases hz
        intro y hy
        by_cases yf : y ∈ fs
        · exact yf
        · obtain ⟨k, hk⟩ := List.mem_iff_getElem?.mp (mem_lf.mpr ⟨no.lt c cn y hy, yf⟩)
          exact absurd hy (bl k y (List.getElem?_eq_some_iff.mp hk).1 hk)
      · exact al j z (by omega) hz
  · rintro Γ' ⟨al, x1, x2, rfl⟩
    rw [List.length_map] at al
    refine ex_ret true (by walk_at "ev") (congrArg PyData.bool (Eq.symm (clB_iff.mpr fun z hz => ?_))) (.inl ⟨rfl, rfl⟩)
    obtain ⟨j, hj⟩ := List.mem_iff_getElem?.mp hz
    exact al j z (List.getElem?_eq_some_iff.mp hj).1 hj
theorem set_list (l : List Nat) : ∃ sm : List Nat, (srt (dd (zl l))).map PyData.int = sm.map (fun k : Nat => PyData.int (k : Int)) ∧ sm.Nodup ∧ ∀ y, y ∈ sm ↔ y ∈ l := by
  have nn : ∀ x ∈ srt (dd (zl l)), ∃ k : Nat, k ∈ l ∧ x = (k : Int) := fun x hx => by
    have := (dd_mem _ _).mp ((srt_perm _).mem_iff.mp hx)
    obtain ⟨k, hk, e⟩ := List.mem_map.mp this
    exact ⟨k, hk, e.symm⟩
  refine ⟨(srt (dd (zl l))).map Int.toNat, ?_, ?_, fun y => ?_⟩
  · rw [List.map_map]
    refine List.map_congr_left fun x hx => ?_
    obtain ⟨k, _, rfl⟩ := nn x hx
    rfl
  · refine List.pairwise_map.mpr (List.Pairwise.imp_of_mem (fun {a b} ha hb z e => z ?_) ((srt_perm _).nodup_iff.mpr (dd_nd _)))
    obtain ⟨i, _, rfl⟩ := nn a ha
    obtain ⟨j, _, rfl⟩ := nn b hb
    have e : i = j := by simpa using e
    rw [e]
  · rw [List.mem_map]
    constructor
    · rintro ⟨x, hx, rfl⟩
      obtain ⟨k, hk, rfl⟩ := nn x hx
      simpa using hk
    · intro hy
      refine ⟨(y : Int), (srt_perm _).mem_iff.mpr ((dd_mem _ _).mpr (List.mem_map.mpr ⟨y, hy, rfl⟩)), by simp⟩
structure PW (n : Nat) (fs : List Nat) : Prop where
  nd : fs.Nodup
  lt : ∀ y ∈ fs, y < n
theorem PW.len {n : Nat} {fs : List Nat} (h : PW n fs) : fs.length ≤ n := nd_len n fs h.nd h.lt
theorem PW.sub {n : Nat} {fs gs : List Nat} (h : PW n fs) (s : gs.Sublist fs) : PW n gs := ⟨h.nd.sublist s, fun y hy => h.lt y (s.subset hy)⟩
theorem PW.perm {n : Nat} {fs gs : List Nat} (h : PW n fs) (s : gs.Perm fs) : PW n gs := ⟨s.nodup_iff.mpr h.nd, fun y hy => h.lt y (s.mem_iff.mp hy)⟩
theorem turn_perm {α : Type} (l : List α) (k : Nat) : (l.drop k ++ l.take k).Perm l := by
  have := List.perm_append_comm (l₁ := l.drop k) (l₂ := l.take k)
  rwa [List.take_append_drop] at this
def pre_law_pairs (ds : List PyData) (G : PyData → Prop) : Prop := ∃ (n : Nat) (cs : List (List Nat)) (kn : List Nat) (ps : List Int), ds = [nls cs, nl kn, il ps] ∧ ShOk n cs ∧ 2 ≤ n ∧ n ≤ 12 ∧ ps.length = 63 ∧ G = fun d => ∃ fs : List Nat, PW (2 * n) fs ∧ d = pl fs
theorem len_law_pairs (ds : List PyData) (G : PyData → Prop) (h : pre_law_pairs ds G) : ds.length = 3 := by obtain ⟨a, b, c, e, rfl, _⟩ := h; rfl
theorem sc_law_pairs : FnScope ["_law_causes", "_law_known_here", "_law_pool_here", "_law_many", "_law_way", "_law_some", "_law_pairs_here", "_law_turn"] ["_law_causes", "_law_known_here", "_law_pool_here"] (defScope (top 15)) := ⟨rfl, rfl, rfl, by decide +kernel, rfl, by decide +kernel, by decide +kernel⟩
theorem ok_law_pairs (F : Fun K "_law_pairs" "_law_pairs" (top 15) f fd) (B : Bs mg) (Z : Cs K mg t_AGAINST t_ALONG) (c_law_grown : Callee P w K mg base CX0 "_law_grown" ["_law_causes", "_law_known_here", "_law_some"] 2 (spW K true pre_law_grown)) : FnOk P w K mg base CX0 3 f fd ["_law_causes", "_law_known_here", "_law_pool_here"] (spW K true pre_law_pairs) := by
  have sc := sc_law_pairs
  refine F.ok sc (fun vs H Q E h => spW_len len_law_pairs h) (fun cdv A outer s H vs Q E hr h => ?_)
  obtain ⟨Fh, ds, G, le, dp, p, q⟩ := h
  refine ⟨_, (pss_cons (ps_set (i := 3) sc.nd rfl (Or.inl rfl) (pe_op op_mulB pe_int (pe_callB (call_len_seqK (K := K) rfl) rfl B.len (by decide +kernel) (pa_cons (pv 0) pa_nil))))
      (pss_cons (ps_set (i := 4) sc.nd rfl (Or.inl rfl) (pe_op op_mod (pe_ix (ix_listK (K := K) rfl) (pv 2) pe_int (fun _ _ => rfl)) pe_int))
      (pss_cons (ps_set (i := 5) sc.nd rfl (Or.inl rfl) (pe_lst (pa_cons (pe_op op_mod (pe_op op_fdiv (pe_ix (ix_listK (K := K) rfl) (pv 2) pe_int (fun _ _ => rfl)) pe_int) (pv 3)) (pa_cons (pe_op op_mod (pe_op op_fdiv (pe_ix (ix_listK (K := K) rfl) (pv 2) pe_int (fun _ _ => rfl)) pe_int) (pv 3)) (pa_cons (pe_op op_mod (pe_op op_fdiv (pe_ix (ix_listK (K := K) rfl) (pv 2) pe_int (fun _ _ => rfl)) pe_int) (pv 3)) pa_nil)))))
      (pss_cons (ps_set (i := 5) sc.nd rfl (Or.inl rfl) (pe_callB (call_sortedB rfl rfl) rfl B.sorted (by decide +kernel) (pa_cons (pe_callTy (call_setB (K := K) rfl rfl rfl) rfl B.set (by decide +kernel) (pa_cons (pe_slice (sl_listK (K := K) rfl) (pv 5) po_none (po_some (pe_op op_add pe_int (pe_op op_mod (pe_op op_fdiv (pe_ix (ix_listK (K := K) rfl) (pv 2) pe_int (fun _ _ => rfl)) pe_int) pe_int)))) pa_nil)) pa_nil)))
      (pss_cons (ps_setComp (i := 6) rfl sc.nd rfl rfl (N := ["_law_k"]) (js := [none]) (by walk_at "comp_ok") (pi_listK (K := K) rfl (pv 5)) (fun _ _ _ _ => (pg_name (i := 0) (show List.Nodup (["_law_k"] : List PySem.Str) by decide +kernel) rfl (Or.inl rfl))) (fun _ _ _ _ => pif_nil) (fun _ _ _ _ => (pe_tup (pa_cons (pe_op op_fdiv (pv 0) pe_int) (pa_cons (pe_op op_mod (pv 0) pe_int) pa_nil)))))
      (pss_cons (ps_if (pt_cmpR op_le (pv 4) pe_int (nomark _)) (pss_one (ps_set (i := 6) sc.nd rfl (Or.inl rfl) (pe_fn c_law_grown (hr.mono (by decide)) rfl pass0 (pa_cons (pv 0) (pa_cons (pv 1) (pa_cons (pv 6) pa_nil)))))) pss_nil)
      (pss_cons (ps_if (PW.pt (pw_or (pt_cmpR op_eq (pv 4) pe_int (nomark _)) (pw_or1 (PW.pt (pw_and (pt_cmpR op_eq (pv 4) pe_int (nomark _)) (pw_and1 (pt_cmpR op_eq (pe_op op_mod (pe_ix (ix_listK (K := K) rfl) (pv 2) pe_int (fun _ _ => rfl)) pe_int) pe_int (nomark _)))))))) (pss_one (ps_expr (pe_bmK (K := K) rfl PySem.F.plainAttrs_list PySem.F.slot_list_pop PySem.F.type_list_pop mt_popAt (pv 6) (pa_cons (pe_op op_mod (pe_op op_fdiv (pe_ix (ix_listK (K := K) rfl) (pv 2) pe_int (fun _ _ => rfl)) pe_int) (pe_callB (call_len_seqK (K := K) rfl) rfl B.len (by decide +kernel) (pa_cons (pv 6) pa_nil))) pa_nil)))) pss_nil)
      (pss_cons (ps_if (pt_cmpR op_eq (pv 4) pe_int (nomark _)) (pss_one (ps_setComp (i := 6) rfl sc.nd rfl rfl (N := ["_law_k", "_law_pool_here"]) (js := [none, some 2]) (by walk_at "comp_ok") (pi_range1 rfl B.range (pa_cons (pv 3) pa_nil)) (fun _ _ _ _ => (pg_name (i := 0) (show List.Nodup (["_law_k", "_law_pool_here"] : List PySem.Str) by decide +kernel) rfl (Or.inl rfl))) (fun _ _ _ _ => (pif_one (pt_cmpR op_gt (pe_op op_mod (pe_op op_fdiv (pe_ix (ix_listK (K := K) rfl) (pv 1) (pe_op op_add pe_int (pv 0)) (fun _ _ => rfl)) pe_int) pe_int) pe_int (nomark _)))) (fun _ _ _ _ => (pe_tup (pa_cons (pe_op op_fdiv (pv 0) pe_int) (pa_cons (pe_op op_mod (pv 0) pe_int) pa_nil)))))) pss_nil)
      (pss_cons (ps_set (i := 7) sc.nd rfl (Or.inl rfl) (pe_op op_mod (pe_op op_fdiv (pe_ix (ix_listK (K := K) rfl) (pv 2) pe_int (fun _ _ => rfl)) pe_int) (pe_op op_add (pe_callB (call_len_seqK (K := K) rfl) rfl B.len (by decide +kernel) (pa_cons (pv 6) pa_nil)) pe_int)))
      (pss_one (ps_ret (pe_op (op_catSK (K := K) rfl) (pe_slice (sl_listK (K := K) rfl) (pv 6) (po_some (pv 7)) po_none) (pe_slice (sl_listK (K := K) rfl) (pv 6) po_none (po_some (pv 7))))))))))))))), ?_⟩
  have hN : (["_law_causes", "_law_known_here", "_law_pool_here", "_law_many", "_law_way", "_law_some", "_law_pairs_here", "_law_turn"] : List Str).length = 8 := rfl
  obtain ⟨n, cs, kn, ps, rfl, ok, n2, n12, hp, rfl⟩ := p
  have big := line_big
  have el : PyData.int (((cs.map nl).length : Nat) : Int) = .int (n : Int) := by rw [List.length_map, ok.l]
  have m1 : IntMulOk 2 (n : Int) := small_mul (by omega) (by omega)
  refine run_defW le dp q hN (by walk_at "st") ?_
  obtain ⟨u62, a62⟩ := at_ex (ns := ps) (i := 62) (by omega) (by omega)
  obtain ⟨u61, a61⟩ := at_ex (ns := ps) (i := 61) (by omega) (by omega)
  obtain ⟨u60, a60⟩ := at_ex (ns := ps) (i := 60) (by omega) (by omega)
  obtain ⟨u59, a59⟩ := at_ex (ns := ps) (i := 59) (by omega) (by omega)
  obtain ⟨u58, a58⟩ := at_ex (ns := ps) (i := 58) (by omega) (by omega)
  refine exs true (d := .int ((2 * n : Nat) : Int)) (EvE.eq (ev_mul (by walk_at "ev") (EvE.eq (ev_len (ds := cs.map nl) (by walk_at "ev")) el) m1) (congrArg PyData.int (by omega))) (by walk_at "sc") ?_
  generalize hw : u62 % 5 = wy
  refine exs true (d := .int wy) (EvE.eq (ev_mod (ev_ixL (κ := false) (by walk_at "ev") (by walk_at "ev") a62) (by walk_at "ev") (by decide)) (congrArg PyData.int hw)) (by walk_at "sc") ?_
  obtain ⟨x1, e1, l1⟩ := pick_mod (u62 / 5) (n := 2 * n) (by omega)
  obtain ⟨x2, e2, l2⟩ := pick_mod (u61 / 3) (n := 2 * n) (by omega)
  obtain ⟨x3, e3, l3⟩ := pick_mod (u60 / 3) (n := 2 * n) (by omega)
  refine exs true (d := nl [x1, x2, x3]) (EvO.toE (evo_lst (ds := [.int (x1 : Int), .int (x2 : Int), .int (x3 : Int)]) (ea_cons (EvE.eq (ev_mod (j := ((2 * n : Nat) : Int)) (ev_fdiv (ev_ixL (κ := false) (by walk_at "ev") (by walk_at "ev") a62) (by walk_at "ev") ⟨by decide, by decide⟩) (by walk_at "ev") (by omega)) (congrArg PyData.int e1)) (ea_cons (EvE.eq (ev_mod (j := ((2 * n : Nat) : Int)) (ev_fdiv (ev_ixL (κ := false) (by walk_at "ev") (by walk_at "ev") a61) (by walk_at "ev") ⟨by decide, by decide⟩) (by walk_at "ev") (by omega)) (congrArg PyData.int e2)) (ea_cons (EvE.eq (ev_mod (j := ((2 * n : Nat) : Int)) (ev_fdiv (ev_ixL (κ := false) (by walk_at "ev") (by walk_at "ev") a60) (by walk_at "ev") ⟨by decide, by decide⟩) (by walk_at "ev") (by omega)) (congrArg PyData.int e3)) ea_nil))) (by show 3 ≤ sizeLine; omega))) (by walk_at "sc") ?_
  have c0 := Int.emod_nonneg (u62 / 130) (show (3 : Int) ≠ 0 by decide)
  obtain ⟨j, hj⟩ : ∃ j : Nat, 1 + u62 / 130 % 3 = (j : Int) := ⟨(1 + u62 / 130 % 3).toNat, by omega⟩
  have j1 : 1 ≤ j := by omega
  obtain ⟨sm, se, snd, sme⟩ := set_list ([x1, x2, x3].take j)
  have slt : ∀ y ∈ sm, y < 2 * n := fun y hy => by
    have := List.mem_of_mem_take ((sme y).mp hy)
    simp at this
    omega
  have sne : sm ≠ [] := fun z => by
    have := (sme x1).mpr (by obtain ⟨k, rfl⟩ : ∃ k, j = k + 1 := ⟨j - 1, by omega⟩; simp)
    rw [z] at this
    cases this
  have sl : sm.length ≤ 2 * n := nd_len _ sm snd slt
  refine exs true (d := nl sm) (EvO.toE (EvO.eq (evo_sortedSet (ns := zl ([x1, x2, x3].take j)) (EvO.toL (EvO.eq (evo_slice (κ := false) (ds := [x1, x2, x3].map fun k : Nat => PyData.int (k : Int)) (hi := some (j : Int)) (by walk_at "ev") ep_none (ep_some (EvE.eq (ev_add (by walk_at "ev") (ev_mod (ev_fdiv (ev_ixL (κ := false) (by walk_at "ev") (by walk_at "ev") a62) (by walk_at "ev") ⟨by decide, by decide⟩) (by walk_at "ev") (by decide))) (congrArg PyData.int hj)))) (by rw [cutT]; exact PyData.list.inj (nl_zl _)))) (by unfold zl; rw [List.length_map, List.length_take]; have : [x1, x2, x3].length = 3 := rfl; omega)) se)) (by walk_at "sc") ?_
  refine exo true (ds := sm.map cD) (evo_each (κ := true) (is := [0]) (xs := sm) true (fun k : Nat => .int (k : Int)) cD (fun x _ y _ h => by cases nl_inj h; rfl) (ei_list (by walk_at "ev")) (by walk_at "cc") rfl (by decide) (by omega) ?_) (by walk_at "sc") ?_
  · intro k hk
    exact egn (by walk_at "sc") (EvE.eq (ev_tup (ds := [.int ((k : Int) / 2), .int ((k : Int) % 2)]) (ea_cons (ev_fdiv (by walk_at "ev") (by walk_at "ev") ⟨by decide, by decide⟩) (ea_cons (ev_mod (by walk_at "ev") (by walk_at "ev") (by decide)) ea_nil)) (by show 2 ≤ _; omega)) ev_lft)
  refine exif (b := decide (wy ≤ 2)) (fun Γ => ∃ fs : List Nat, PW (2 * n) fs ∧ fs ≠ [] ∧ Γ = [some (.fz false (nls cs)), some (.fz false (nl kn)), some (.fz false (il ps)), some (.fz true (.int ((2 * n : Nat) : Int))), some (.fz true (.int wy)), some (.fz true (nl sm)), some (.ow true (fs.map cD)), none]) (et_test (ev_le (by walk_at "ev") (by walk_at "ev"))) (fun _ => ?_) (fun _ => ex_next ⟨sm, ⟨snd, slt⟩, sne, rfl⟩) ?_
  · refine exog1 true (evog_thaw 6 (by walk_at "gc") (by walk_at "sc") (evog_call (by walk_at "ev") ⟨n, cs, kn, sm, rfl, ok, n12, snd, slt, sne, rfl⟩ (fun d ⟨r, _, _, _, e⟩ => ⟨_, e, pl_imm r⟩)) (fun ds ⟨r, _, _, _, e⟩ => by cases e; exact pl_imm r)) (fun d => by walk_at "sc") ?_
    rintro ds ⟨fs, f1, f2, f3, e⟩
    cases e
    exact ⟨fs, ⟨f1, f2⟩, f3, rfl⟩
  rintro Γ2 ⟨fs, fp, fne, rfl⟩
  have fl := fp.len
  have f0 : 0 < fs.length := List.length_pos_iff.mpr fne
  have er : ∀ r : List Nat, PyData.int (((r.map cD).length : Nat) : Int) = .int (r.length : Int) := fun r => by rw [List.length_map]
  refine exif (b := decide (wy = 1) || (decide (wy = 4) && decide (u62 % 2 = 1))) (fun Γ => ∃ fs : List Nat, PW (2 * n) fs ∧ Γ = [some (.fz false (nls cs)), some (.fz false (nl kn)), some (.fz false (il ps)), some (.fz true (.int ((2 * n : Nat) : Int))), some (.fz true (.int wy)), some (.fz true (nl sm)), some (.ow true (fs.map cD)), none]) (et_or (et_test (ev_eqI (by walk_at "ev") (by walk_at "ev"))) fun _ => et_and (et_test (ev_eqI (by walk_at "ev") (by walk_at "ev"))) fun _ => et_test (ev_eqI (ev_mod (ev_ixL (κ := false) (by walk_at "ev") (by walk_at "ev") a62) (by walk_at "ev") (by decide)) (by walk_at "ev"))) (fun _ => ?_) (fun _ => ex_next ⟨fs, fp, rfl⟩) ?_
  · obtain ⟨k, ek, lk⟩ := pick_mod (u59 / 3) f0
    refine ex_popAt (m := (k : Int)) (by walk_at "gc") (EvE.eq (ev_mod (j := (fs.length : Int)) (ev_fdiv (ev_ixL (κ := false) (by walk_at "ev") (by walk_at "ev") a59) (by walk_at "ev") ⟨by decide, by decide⟩) (EvE.eq (ev_len (by walk_at "ev")) (er fs)) (by omega)) (congrArg PyData.int ek)) (by omega) (by rw [List.length_map]; omega) (by rw [List.length_map]; omega) (by walk_at "sc") ?_
    refine ⟨fs.eraseIdx k, fp.sub (List.eraseIdx_sublist fs k), ?_⟩
    rw [Int.toNat_natCast, List.eraseIdx_eq_take_drop_succ, List.eraseIdx_eq_take_drop_succ, List.map_append, List.map_take, List.map_drop]
  clear fl f0 fne fp
  rintro Γ2 ⟨fs, fp, rfl⟩
  refine exif (b := decide (wy = 3)) (fun Γ => ∃ fs : List Nat, PW (2 * n) fs ∧ Γ = [some (.fz false (nls cs)), some (.fz false (nl kn)), some (.fz false (il ps)), some (.fz true (.int ((2 * n : Nat) : Int))), some (.fz true (.int wy)), some (.fz true (nl sm)), some (.ow true (fs.map cD)), none]) (et_test (ev_eqI (by walk_at "ev") (by walk_at "ev"))) (fun _ => ?_) (fun _ => ex_next ⟨fs, fp, rfl⟩) ?_
  · have au : ∀ c : Nat, c < 2 * n → ∃ u, atI (ps.map PyData.int) (3 + (c : Int)) = some (PyData.int u) := fun c hc => at_ex (ns := ps) (i := 3 + (c : Int)) (by omega) (by omega)
    have cu : ∀ c : Nat, ∃ b : Bool, ∀ u, c < 2 * n → atI (ps.map PyData.int) (3 + (c : Int)) = some (PyData.int u) → b = decide (u / 11 % 3 > 0) := fun c => by
      by_cases h : c < 2 * n
      · obtain ⟨u, hu⟩ := au c h
        exact ⟨decide (u / 11 % 3 > 0), fun v _ hv => by rw [hu] at hv; cases hv; rfl⟩
      · exact ⟨true, fun _ z => absurd z h⟩
    obtain ⟨f, hf⟩ := Classical.axiomOfChoice cu
    refine exo1 true (ds := ((List.range (2 * n)).filter f).map cD) (evo_rngIf (κ := true) (is := [0]) (n := 2 * n) cD f (ea_cons (by walk_at "ev") ea_nil) (by omega) (by walk_at "cc") rfl (by decide) ?_) (by walk_at "sc") ?_
    · intro c hc
      obtain ⟨u, hu⟩ := au c hc
      exact egn (by walk_at "sc") ⟨EvT.eq (et_test (ev_gt (ev_mod (ev_fdiv (ev_ixL (κ := false) (by walk_at "ev") (by walk_at "ev") hu) (by walk_at "ev") ⟨by decide, by decide⟩) (by walk_at "ev") (by decide)) (by walk_at "ev"))) (hf c u hc hu).symm, fun _ => EvE.eq (ev_tup (ds := [.int ((c : Int) / 2), .int ((c : Int) % 2)]) (ea_cons (ev_fdiv (by walk_at "ev") (by walk_at "ev") ⟨by decide, by decide⟩) (ea_cons (ev_mod (by walk_at "ev") (by walk_at "ev") (by decide)) ea_nil)) (by show 2 ≤ _; omega)) ev_lft⟩
    · exact ⟨_, ⟨List.nodup_range.sublist List.filter_sublist, fun y hy => List.mem_range.mp (List.mem_filter.mp hy).1⟩, rfl⟩
  clear fp
  rintro Γ2 ⟨fs, fp, rfl⟩
  have fl := fp.len
  obtain ⟨k, ek, lk⟩ := pick_mod (u58 / 3) (n := fs.length + 1) (by omega)
  refine exs true (d := .int (k : Int)) (EvE.eq (ev_mod (j := ((fs.length + 1 : Nat) : Int)) (ev_fdiv (ev_ixL (κ := false) (by walk_at "ev") (by walk_at "ev") a58) (by walk_at "ev") ⟨by decide, by decide⟩) (EvE.eq (ev_add (EvE.eq (ev_len (by walk_at "ev")) (er fs)) (by walk_at "ev")) (congrArg PyData.int (by omega))) (by omega)) (congrArg PyData.int ek)) (by walk_at "sc") ?_
  exact ex_ret true (EvO.toE (EvO.eq (evo_cat (xs := (fs.drop k).map cD) (ys := (fs.take k).map cD) (EvO.toL (EvO.eq (evo_slice (ds := fs.map cD) (lo := some (k : Int)) (by walk_at "ev") (ep_some (by walk_at "ev")) ep_none) (cutH cD fs k))) (EvO.toL (EvO.eq (evo_slice (ds := fs.map cD) (hi := some (k : Int)) (by walk_at "ev") ep_none (ep_some (by walk_at "ev"))) (cutT cD fs k))) (by rw [List.length_map, List.length_map, List.length_drop, List.length_take]; omega)) (by rw [List.map_append]))) ⟨_, fp.perm (turn_perm fs k), rfl⟩ (.inl ⟨rfl, rfl⟩)
theorem shaped_pl (cs : List Nat) : SeqAt.shaped (pl cs) = true := shaped_of (lay_map (g := cD) (fun _ => rfl) cs) (by
  have := depth_map (g := cD) (n := 1) (fun _ => Nat.le_refl _) cs
  show PyData.depthAll _ + 1 ≤ 50
  omega)
theorem eqv_pnil (r : List Nat) : PyData.eqv (pl r) (.list []) = decide (r = []) := by
  cases r with
  | nil => rfl
  | cons a t => rfl
theorem sc_law : FnScope ["_law_script", "_law_pool_here", "_law_causes", "_law_known_here", "_law_pairs_here", "_law_due", "_law_shape", "_law_asked", "_law_handed", "_law_found", "_law_fewer"] ["_law_script"] (defScope (top 16)) := ⟨rfl, rfl, rfl, by decide +kernel, rfl, by decide +kernel, by decide +kernel⟩
theorem ok_law (F : Fun K "law" "law" (top 16) f fd) (B : Bs mg) (Z : Cs K mg t_AGAINST t_ALONG) (c_law_pool : Callee P w K mg base CX0 "_law_pool" ["_law_script", "_law_many"] 1 (spW K true pre_law_pool)) (c_law_drawn : Callee P w K mg base CX0 "_law_drawn" ["_law_pool_here", "_law_many"] 2 (spW K true pre_law_drawn)) (c_law_known : Callee P w K mg base CX0 "_law_known" ["_law_pool_here", "_law_many"] 1 (spW K true pre_law_known)) (c_law_pairs : Callee P w K mg base CX0 "_law_pairs" ["_law_causes", "_law_known_here", "_law_pool_here"] 3 (spW K true pre_law_pairs)) (c_law_is_closed : Callee P w K mg base CX0 "_law_is_closed" ["_law_causes", "_law_known_here", "_law_pairs_here"] 2 (spD K true pre_law_is_closed)) (c_is_closed : Callee P w K mg base CX0 "is_closed" ["causes", "known", "pairs"] 3 (spD K true pre_is_closed)) : FnOk P w K mg base CX0 4 f fd ["_law_script"] (spLaw K) := by
  have sc := sc_law
  refine F.ok sc (fun vs H Q E h => ?_) (fun cdv A outer s H vs Q E hr h => ?_)
  · obtain ⟨a, ns, rfl, _⟩ := h
    rfl
  obtain ⟨a, ns, rfl, hS, h63, k⟩ := h
  have le : Same H H := Same.refl H
  have dp : DpAll K H [V.ref a] [PyData.list (ns.map .int)] := .cons (.lst hS (dpAll_ints ns)) .nil
  have q : ∀ v H' F', Gr H H H' F' → Rp K false .fresh H F' v (.bool true) → Q v H' := fun v H' F' _ z => by cases z; exact k H'
  refine ⟨_, (pss_cons (ps_set (i := 1) sc.nd rfl (Or.inl rfl) (pe_fn c_law_pool (hr.mono (by decide)) rfl pass0 (pa_cons (pv 0) (pa_cons pe_int pa_nil))))
      (pss_cons (ps_set (i := 2) sc.nd rfl (Or.inl rfl) (pe_fn c_law_drawn (hr.mono (by decide)) rfl pass0 (pa_cons (pv 1) (pa_cons (pe_op op_add pe_int (pe_op op_mod (pe_ix (ix_listK (K := K) rfl) (pv 1) pe_int (fun _ _ => rfl)) pe_int)) pa_nil))))
      (pss_cons (ps_set (i := 3) sc.nd rfl (Or.inl rfl) (pe_fn c_law_known (hr.mono (by decide)) rfl pass0 (pa_cons (pv 1) (pa_cons (pe_callB (call_len_seqK (K := K) rfl) rfl B.len (by decide +kernel) (pa_cons (pv 2) pa_nil)) pa_nil))))
      (pss_cons (ps_set (i := 4) sc.nd rfl (Or.inl rfl) (pe_fn c_law_pairs (hr.mono (by decide)) rfl pass0 (pa_cons (pv 2) (pa_cons (pv 3) (pa_cons (pv 1) pa_nil)))))
      (pss_cons (ps_set (i := 5) sc.nd rfl (Or.inl rfl) (pe_fn c_law_is_closed (hr.mono (by decide)) rfl pass0 (pa_cons (pv 2) (pa_cons (pv 3) (pa_cons (pv 4) pa_nil)))))
      (pss_cons (ps_setComp (i := 6) rfl sc.nd rfl rfl (N := ["_law_own"]) (js := [none]) (by walk_at "comp_ok") (pi_listK (K := K) rfl (pv 2)) (fun _ _ _ _ => (pg_name (i := 0) (show List.Nodup (["_law_own"] : List PySem.Str) by decide +kernel) rfl (Or.inl rfl))) (fun _ _ _ _ => pif_nil) (fun _ _ _ _ => (pe_callTy (call_list_ofK (K := K) rfl) rfl B.list (by decide +kernel) (pa_cons (pv 0) pa_nil))))
      (pss_cons (ps_set (i := 7) sc.nd rfl (Or.inl rfl) (pe_callTy (call_list_ofK (K := K) rfl) rfl B.list (by decide +kernel) (pa_cons (pv 3) pa_nil)))
      (pss_cons (ps_set (i := 8) sc.nd rfl (Or.inl rfl) (pe_callTy (call_list_ofK (K := K) rfl) rfl B.list (by decide +kernel) (pa_cons (pv 4) pa_nil)))
      (pss_cons (ps_set (i := 9) sc.nd rfl (Or.inl rfl) (pe_fn c_is_closed (hr.mono (by decide)) rfl pass0 (pa_cons (pv 6) (pa_cons (pv 7) (pa_cons (pv 8) pa_nil)))))
      (pss_cons (ps_if (PW.pt (pw_or (pt_not (pt_val (pe_callB (call_isiDK (K := K) rfl) rfl B.isinstance (by decide +kernel) (pa_cons (pv 9) (pa_cons (pe_bltn (v := .ty "bool") rfl B.bool (by decide +kernel) rfl) pa_nil))))) (pw_or1 (pt_cmpR op_ne (pv 9) (pv 5) (nomark _))))) (pss_one (ps_ret pe_bl)) pss_nil)
      (pss_cons (ps_if (PW.pt (pw_or (pt_cmpR (op_neSK (K := K) rfl hr.units) (pv 6) (pv 2) (nomark _)) (pw_or (pt_cmpR (op_neSK (K := K) rfl hr.units) (pv 7) (pv 3) (nomark _)) (pw_or1 (pt_cmpR (op_neSK (K := K) rfl hr.units) (pv 8) (pv 4) (nomark _)))))) (pss_one (ps_ret pe_bl)) pss_nil)
      (pss_cons (ps_if (pt_cmpR (op_neDK (K := K) rfl hr.units) (pv 8) (pe_lst pa_nil) (nomark _)) (pss_cons (ps_expr (pe_bmK (K := K) rfl PySem.F.plainAttrs_list PySem.F.slot_list_pop PySem.F.type_list_pop mt_popAt (pv 8) (pa_cons (pe_op op_mod (pe_op op_fdiv (pe_ix (ix_listK (K := K) rfl) (pv 1) pe_int (fun _ _ => rfl)) pe_int) (pe_callB (call_len_seqK (K := K) rfl) rfl B.len (by decide +kernel) (pa_cons (pv 8) pa_nil))) pa_nil)))
      (pss_cons (ps_set (i := 10) sc.nd rfl (Or.inl rfl) (pe_fn c_is_closed (hr.mono (by decide)) rfl pass0 (pa_cons (pv 6) (pa_cons (pv 7) (pa_cons (pv 8) pa_nil)))))
      (pss_one (ps_if (PW.pt (pw_or (pt_not (pt_val (pe_callB (call_isiDK (K := K) rfl) rfl B.isinstance (by decide +kernel) (pa_cons (pv 10) (pa_cons (pe_bltn (v := .ty "bool") rfl B.bool (by decide +kernel) rfl) pa_nil))))) (pw_or1 (pt_cmpR op_ne (pv 10) (pe_fn c_law_is_closed (hr.mono (by decide)) rfl pass0 (pa_cons (pv 2) (pa_cons (pv 3) (pa_cons (pv 8) pa_nil)))) (nomark _))))) (pss_one (ps_ret pe_bl)) pss_nil)))) pss_nil)
      (pss_one (ps_ret (pe_cmpR op_eq (pe_fn c_is_closed (hr.mono (by decide)) rfl pass0 (pa_cons (pv 6) (pa_cons (pv 7) (pa_cons (pe_callTy (call_list_ofK (K := K) rfl) rfl B.list (by decide +kernel) (pa_cons (pv 4) pa_nil)) pa_nil)))) (pv 5) (nomark _)))))))))))))))), ?_⟩
  have hN : (["_law_script", "_law_pool_here", "_law_causes", "_law_known_here", "_law_pairs_here", "_law_due", "_law_shape", "_law_asked", "_law_handed", "_law_found", "_law_fewer"] : List Str).length = 11 := rfl
  have big := line_big
  walk_at "run"
  refine exg true (evg_call (by walk_at "ev") (show pre_law_pool [il ns, .int 63] _ from ⟨ns, rfl, h63, rfl⟩)) (fun d => by walk_at "sc") ?_
  rintro d ⟨ps, hp, rfl⟩
  obtain ⟨u1, a1⟩ := at_ex (ns := ps) (i := 1) (by omega) (by omega)
  obtain ⟨u57, a57⟩ := at_ex (ns := ps) (i := 57) (by omega) (by omega)
  have f0 := Int.emod_nonneg u1 (show (11 : Int) ≠ 0 by decide)
  have f1 := Int.emod_lt_of_pos u1 (show (0 : Int) < 11 by decide)
  obtain ⟨n, hn⟩ : ∃ m : Nat, 2 + u1 % 11 = (m : Int) := ⟨(2 + u1 % 11).toNat, by omega⟩
  have n2 : 2 ≤ n := by omega
  have n12 : n ≤ 12 := by omega
  refine exg true (evg_call (ea_cons (by walk_at "ev") (ea_cons (EvE.eq (ev_add (by walk_at "ev") (ev_mod (ev_ixL (κ := false) (by walk_at "ev") (by walk_at "ev") a1) (by walk_at "ev") (by decide))) (congrArg PyData.int hn)) ea_nil)) ⟨ps, n, rfl, hp, n2, n12, rfl⟩) (fun d => by walk_at "sc") ?_
  rintro d ⟨cs, ok, rfl⟩
  have csl := ok.l
  have el : PyData.int (((cs.map nl).length : Nat) : Int) = .int (n : Int) := by rw [List.length_map, ok.l]
  refine exg true (evg_call (ea_cons (by walk_at "ev") (ea_cons (EvE.eq (ev_len (ds := cs.map nl) (by walk_at "ev")) el) ea_nil)) ⟨ps, n, rfl, hp, n12, rfl⟩) (fun d => by walk_at "sc") ?_
  rintro d ⟨kn, hk, kl, rfl⟩
  refine exg true (evg_call (by walk_at "ev") ⟨n, cs, kn, ps, rfl, ok, n2, n12, hp, rfl⟩) (fun d => by walk_at "sc") ?_
  rintro d ⟨fs, fp, rfl⟩
  have fl := fp.len
  have er : ∀ r : List Nat, PyData.int (((r.map cD).length : Nat) : Int) = .int (r.length : Int) := fun r => by rw [List.length_map]
  have pd : ∀ fs, PW (2 * n) fs → pre_law_is_closed [nls cs, nl kn, pl fs] (.bool (clB cs kn fs)) := fun fs fp => ⟨n, cs, kn, fs, rfl, ok, n12, by have := fp.len; omega, fp.lt, rfl⟩
  have pc : ∀ fs, PW (2 * n) fs → pre_is_closed [nls cs, nl kn, pl fs] (.bool (clB cs kn fs)) := fun fs fp => ⟨n, cs, kn, fs, rfl, ok, n12, fp.nd, fp.lt, rfl⟩
  refine exs true (d := .bool (clB cs kn fs)) (ev_callF (by walk_at "ev") (pd fs fp)) (by walk_at "sc") ?_
  refine exs true (d := nls cs) (EvO.toE (evo_each (κ := true) (κ' := false) (is := [0]) (xs := cs) nl nl (fun x _ y _ h => h) (ei_list (by walk_at "ev")) (by walk_at "cc") rfl (by decide) (by omega) ?_)) (by walk_at "sc") ?_
  · intro r hr
    exact egn (by walk_at "sc") (EvO.toE (evo_list (EvL.imm (κ := false) (by walk_at "ev") (nl_imm r))))
  refine exs true (d := nl kn) (EvO.toE (evo_list (by walk_at "ev"))) (by walk_at "sc") ?_
  refine exo true (ds := fs.map cD) (evo_list (by walk_at "ev")) (by walk_at "sc") ?_
  refine exs true (d := .bool (clB cs kn fs)) (ev_thaw 8 (by walk_at "gc") (by walk_at "sc") (ev_callF (by walk_at "ev") (pc fs fp)) rfl) (by walk_at "sc") ?_
  refine exifF (b := !true || !(clB cs kn fs == clB cs kn fs)) (et_or (by walk_at "ev") fun _ => et_test (ev_neB (by walk_at "ev") (by walk_at "ev"))) (by simp) ?_
  refine exifF (b := false || (false || false)) (et_thaw 8 (by walk_at "gc") (by walk_at "sc") (et_or (et_test (ev_neSm (EvE.toD (κ := true) (by walk_at "ev")) (EvE.toD (κ := true) (by walk_at "ev")) (shaped_nls cs))) fun _ => et_or (et_test (ev_neSm (EvE.toD (κ := true) (by walk_at "ev")) (EvE.toD (κ := true) (by walk_at "ev")) (shaped_nl kn))) fun _ => et_test (ev_neSm (d := pl fs) (EvE.toD (κ := true) (by walk_at "ev")) (EvE.toD (κ := true) (by walk_at "ev")) (shaped_pl fs)))) rfl ?_
  refine exif (b := !decide (fs = [])) (fun Γ => ∃ x y, Γ = [some (.fz false (il ns)), some (.fz true (il ps)), some (.fz true (nls cs)), some (.fz true (nl kn)), some (.fz true (pl fs)), some (.fz true (.bool (clB cs kn fs))), some (.fz true (nls cs)), some (.fz true (nl kn)), x, some (.fz true (.bool (clB cs kn fs))), y]) (EvT.eq (et_test (ev_eqD (neg := true) (d := pl fs) (f := .list []) (EvL.toD (κ := true) (by walk_at "ev")) (EvE.toD (κ := true) (EvO.toE (evo_lst (ds := []) ea_nil (by decide)))) (shaped_pl _) rfl)) (by show (!PyData.eqv _ _) = _; rw [eqv_pnil])) (fun h => ?_) (fun _ => ex_next ⟨_, _, rfl⟩) ?_
  · have ne : fs ≠ [] := by simpa using h
    obtain ⟨k, ek, lk⟩ := pick_mod (u57 / 3) (n := fs.length) (List.length_pos_iff.mpr ne)
    refine ex_seq (· = [some (.fz false (il ns)), some (.fz true (il ps)), some (.fz true (nls cs)), some (.fz true (nl kn)), some (.fz true (pl fs)), some (.fz true (.bool (clB cs kn fs))), some (.fz true (nls cs)), some (.fz true (nl kn)), some (.ow true ((fs.eraseIdx k).map cD)), some (.fz true (.bool (clB cs kn fs))), none]) (ex_popAt (m := (k : Int)) (by walk_at "gc") (EvE.eq (ev_mod (j := (fs.length : Int)) (ev_fdiv (ev_ixL (κ := false) (by walk_at "ev") (by walk_at "ev") a57) (by walk_at "ev") ⟨by decide, by decide⟩) (EvE.eq (ev_len (by walk_at "ev")) (er fs)) (by omega)) (congrArg PyData.int ek)) (by omega) (by rw [List.length_map]; omega) (by rw [List.length_map]; omega) (by walk_at "sc") ?_) ?_
    · show _ = _
      rw [Int.toNat_natCast, List.eraseIdx_eq_take_drop_succ, List.eraseIdx_eq_take_drop_succ, List.map_append, List.map_take, List.map_drop]
    rintro Γ2 rfl
    have f2 : PW (2 * n) (fs.eraseIdx k) := fp.sub (List.eraseIdx_sublist fs k)
    generalize fs.eraseIdx k = r2 at f2
    refine exs true (d := .bool (clB cs kn r2)) (ev_thaw 8 (by walk_at "gc") (by walk_at "sc") (ev_callF (by walk_at "ev") (pc r2 f2)) rfl) (by walk_at "sc") ?_
    exact ex_if (b := !true || !(clB cs kn r2 == clB cs kn r2)) (et_thaw 8 (by walk_at "gc") (by walk_at "sc") (et_or (by walk_at "ev") fun _ => et_test (ev_neB (by walk_at "ev") (ev_callF (by walk_at "ev") (pd r2 f2))))) (fun h => by simp at h) fun _ => ex_next ⟨_, _, rfl⟩
  · rintro Γ2 ⟨x, y, rfl⟩
    exact ex_ret true (d := .bool (clB cs kn fs == clB cs kn fs)) (ev_eqB (ev_callF (ea_cons (by walk_at "ev") (ea_cons (by walk_at "ev") (ea_cons (EvO.toE (evo_list (by walk_at "ev"))) ea_nil))) (pc fs fp)) (by walk_at "ev")) (by simp) (.inr rfl)
end
theorem all_ok {l : PySem.W.OpenLaw} {w : World} {K : PySem.W.Frag} {h : Heap} {mg : Str → Option Value} {fa : Addr} (X : K.In h) (G : h.Ns mainGlobals mg) (hfa : mg "law" = some (.ref fa))
    (d1 : ∃ f fd, At K "effects" (top 1) f fd) (d5 : ∃ f fd, At K "steps_from" (top 5) f fd) (d6 : ∃ f fd, At K "is_closed" (top 6) f fd) (d8 : ∃ f fd, At K "_law_pool" (top 8) f fd) (d9 : ∃ f fd, At K "_law_order" (top 9) f fd) (d10 : ∃ f fd, At K "_law_drawn" (top 10) f fd) (d11 : ∃ f fd, At K "_law_known" (top 11) f fd) (d12 : ∃ f fd, At K "_law_leads" (top 12) f fd) (d13 : ∃ f fd, At K "_law_grown" (top 13) f fd) (d14 : ∃ f fd, At K "_law_is_closed" (top 14) f fd) (d15 : ∃ f fd, At K "_law_pairs" (top 15) f fd)
    {f0 : Addr} {oc : Value} {od an : Option Addr} {osl : Array (Option Value)} {kV doc pm cdv ct : Value} (a0 : PySem.W.nsIn K mainGlobals "law" = some (some (.ref f0)))
    (l0 : K.lookup f0 = some ⟨oc, od, .func (PySem.W.fnOf "law" "law" (defArgs (top 16)) (defBody (top 16)) (defScope (top 16)) .none kV doc pm an cdv ct), osl⟩) (c0 : PySem.W.codeIn K cdv "law" = true) (k0 : PySem.W.keepIn K (.ref f0) = true)
    (z1 : PySem.W.nsIn K mainGlobals "range" = some none) (z2 : PySem.W.nsIn K mainGlobals "len" = some none) (z3 : PySem.W.nsIn K mainGlobals "sorted" = some none) (z4 : PySem.W.nsIn K mainGlobals "set" = some none) (z5 : PySem.W.nsIn K mainGlobals "all" = some none) (z6 : PySem.W.nsIn K mainGlobals "list" = some none) (z7 : PySem.W.nsIn K mainGlobals "isinstance" = some none) (z8 : PySem.W.nsIn K mainGlobals "bool" = some none)
    {t_AGAINST t_ALONG : Tok} (y_AGAINST : PySem.W.nsIn K mainGlobals "AGAINST" = some (some (.int 0 t_AGAINST))) (y_ALONG : PySem.W.nsIn K mainGlobals "ALONG" = some (some (.int 1 t_ALONG))) :
    ∃ fd : FuncData, (∀ (s : Shared) (v : Value), BindsTo s fd ⟨[v], []⟩ [("_law_script", v)]) ∧ ∀ base : Heap, K.In base → base.Ns mainGlobals mg → FnOk l.prog w K mg base CX0 4 fa fd ["_law_script"] (spLaw K) := by
  have e := hfa.symm.trans (PySem.W.mg_of X G a0)
  cases e
  have nn : ∀ {x : Str}, PySem.W.nsIn K mainGlobals x = some none → mg x = none := fun z => PySem.W.mg_none_of X G z
  have B : Bs mg := ⟨nn z1, nn z2, nn z3, nn z4, nn z5, nn z6, nn z7, nn z8⟩
  refine ⟨PySem.W.fnOf "law" "law" (defArgs (top 16)) (defBody (top 16)) (defScope (top 16)) .none kV doc pm an cdv ct, fun s v => .of_eq rfl, fun base _ _ => ?_⟩
  have mm : ∀ {x : Str} {f : Addr}, PySem.W.nsIn K mainGlobals x = some (some (.ref f)) → mg x = some (.ref f) := fun z => PySem.W.mg_of X G z
  have Z : Cs K mg t_AGAINST t_ALONG := ⟨PySem.W.mg_of X G y_AGAINST, PySem.W.mg_of X G y_ALONG⟩
  obtain ⟨f1, g1, a1, F1⟩ := d1
  have b1 := F1.binds (ps := ["causes", "k"]) fun _ _ _ _ _ _ us hl => match us, hl with | [_, _], _ => rfl
  have C_effects := callee (P := l.prog) (w := w) (base := base) F1 (mm a1) b1 (ok_effects F1 B Z)
  obtain ⟨f5, g5, a5, F5⟩ := d5
  have b5 := F5.binds (ps := ["causes", "known", "pair"]) fun _ _ _ _ _ _ us hl => match us, hl with | [_, _, _], _ => rfl
  have C_steps_from := callee (P := l.prog) (w := w) (base := base) F5 (mm a5) b5 (ok_steps_from F5 B Z C_effects)
  obtain ⟨f6, g6, a6, F6⟩ := d6
  have b6 := F6.binds (ps := ["causes", "known", "pairs"]) fun _ _ _ _ _ _ us hl => match us, hl with | [_, _, _], _ => rfl
  have C_is_closed := callee (P := l.prog) (w := w) (base := base) F6 (mm a6) b6 (ok_is_closed F6 B Z C_steps_from)
  obtain ⟨f8, g8, a8, F8⟩ := d8
  have b8 := F8.binds (ps := ["_law_script", "_law_many"]) fun _ _ _ _ _ _ us hl => match us, hl with | [_, _], _ => rfl
  have C__law_pool := callee (P := l.prog) (w := w) (base := base) F8 (mm a8) b8 (ok_law_pool F8 B Z)
  obtain ⟨f9, g9, a9, F9⟩ := d9
  have b9 := F9.binds (ps := ["_law_pool_here", "_law_many"]) fun _ _ _ _ _ _ us hl => match us, hl with | [_, _], _ => rfl
  have C__law_order := callee (P := l.prog) (w := w) (base := base) F9 (mm a9) b9 (ok_law_order F9 B Z)
  obtain ⟨f10, g10, a10, F10⟩ := d10
  have b10 := F10.binds (ps := ["_law_pool_here", "_law_many"]) fun _ _ _ _ _ _ us hl => match us, hl with | [_, _], _ => rfl
  have C__law_drawn := callee (P := l.prog) (w := w) (base := base) F10 (mm a10) b10 (ok_law_drawn F10 B Z C__law_order)
  obtain ⟨f11, g11, a11, F11⟩ := d11
  have b11 := F11.binds (ps := ["_law_pool_here", "_law_many"]) fun _ _ _ _ _ _ us hl => match us, hl with | [_, _], _ => rfl
  have C__law_known := callee (P := l.prog) (w := w) (base := base) F11 (mm a11) b11 (ok_law_known F11 B Z)
  obtain ⟨f12, g12, a12, F12⟩ := d12
  have b12 := F12.binds (ps := ["_law_causes", "_law_known_here", "_law_one", "_law_other"]) fun _ _ _ _ _ _ us hl => match us, hl with | [_, _, _, _], _ => rfl
  have C__law_leads := callee (P := l.prog) (w := w) (base := base) F12 (mm a12) b12 (ok_law_leads F12 B Z)
  obtain ⟨f13, g13, a13, F13⟩ := d13
  have b13 := F13.binds (ps := ["_law_causes", "_law_known_here", "_law_some"]) fun _ _ _ _ _ _ us hl => match us, hl with | [_, _, _], _ => rfl
  have C__law_grown := callee (P := l.prog) (w := w) (base := base) F13 (mm a13) b13 (ok_law_grown F13 B Z C__law_leads)
  obtain ⟨f14, g14, a14, F14⟩ := d14
  have b14 := F14.binds (ps := ["_law_causes", "_law_known_here", "_law_pairs_here"]) fun _ _ _ _ _ _ us hl => match us, hl with | [_, _, _], _ => rfl
  have C__law_is_closed := callee (P := l.prog) (w := w) (base := base) F14 (mm a14) b14 (ok_law_is_closed F14 B Z C__law_leads)
  obtain ⟨f15, g15, a15, F15⟩ := d15
  have b15 := F15.binds (ps := ["_law_causes", "_law_known_here", "_law_pool_here"]) fun _ _ _ _ _ _ us hl => match us, hl with | [_, _, _], _ => rfl
  have C__law_pairs := callee (P := l.prog) (w := w) (base := base) F15 (mm a15) b15 (ok_law_pairs F15 B Z C__law_grown)
  exact ok_law (fun_mk l0 c0 k0) B Z C__law_pool C__law_drawn C__law_known C__law_pairs C__law_is_closed C_is_closed
theorem walk {l : PySem.W.OpenLaw} {q : Program} {loose : List Str} {XP : (Str → Option Value) → Heap → Prop} {YP : World → Heap → Prop} {d : DefRec} {K : Params → PySem.W.Frag} (hn : l.most = some 63) (hdf : d.params.defaults = [])
    (hY : ∀ (w : World) (h : Heap), YP w h → (K w.params).In h) (hT : ∀ (w : World) (h : Heap), YP w h → (∀ p ∈ tabsOf (K w.params), h.get? p.1 = some (PySem.W.tabObj #[])) ∧ tabsUq (K w.params) = true)
    (F : ∀ (w : World) (mg : Str → Option Value) (fa : Addr) (h : Heap), (K w.params).In h → h.Ns mainGlobals mg → mg d.name = some (.ref fa) →
      ∃ fd : FuncData, (∀ (s : Shared) (u : Value), BindsTo s fd ⟨[u], []⟩ [("_law_script", u)]) ∧ ∀ base : Heap, (K w.params).In base → base.Ns mainGlobals mg → FnOk l.prog w (K w.params) mg base CX0 4 fa fd ["_law_script"] (spLaw (K w.params))) :
    PySem.W.WalkO q loose XP YP l.row.toRowW d [] (fun f vs => PySem.call f vs) :=
  L2.walk_of (n := 63) (k := 4) (x := "_law_script") (CX := fun _ => CX0) (sp := fun w => spLaw (K w.params)) hn (by decide) hdf ⟨rfl, by decide, by decide⟩ hY hT F (fun _ _ a ns hl hS => ⟨a, ns, rfl, hS, hl, fun _ => rfl⟩) fun _ _ _ _ _ z => z
end K32
open PySem PySem.W PyProof.Rows
set_option maxRecDepth 100000 in
set_option maxHeartbeats 0 in
theorem PySem.Challenge.cw_causebook_k32_closed_holds : PySem.Challenge.rw_causebook_k32_closed.Holds := by
  w_on; o_law; k_head; (case hw => w_witness2)
  k_fill
  refine K32.walk (l := PySem.Challenge.rw_causebook_k32_closed) rfl rfl (fun w h Y => PySem.W.kIn_of Y) (fun w h Y => ⟨tabs_no (by kernel_rfl), by kernel_rfl⟩) ?F
  case F =>
    intro w mg fa h KX G hmg
    refine' K32.all_ok KX G hmg ?d1 ?d5 ?d6 ?d8 ?d9 ?d10 ?d11 ?d12 ?d13 ?d14 ?d15 ?a0 ?l0 ?c0 ?k0 ?z1 ?z2 ?z3 ?z4 ?z5 ?z6 ?z7 ?z8 ?y_AGAINST ?y_ALONG
    (case d1 => (refine' Cm.top_mk ?a ?l ?c ?k; (case a => k_is); (case l => k_is); (case c => k_is); (case k => k_is)))
    (case d5 => (refine' Cm.top_mk ?a ?l ?c ?k; (case a => k_is); (case l => k_is); (case c => k_is); (case k => k_is)))
    (case d6 => (refine' Cm.top_mk ?a ?l ?c ?k; (case a => k_is); (case l => k_is); (case c => k_is); (case k => k_is)))
    (case d8 => (refine' Cm.top_mk ?a ?l ?c ?k; (case a => k_is); (case l => k_is); (case c => k_is); (case k => k_is)))
    (case d9 => (refine' Cm.top_mk ?a ?l ?c ?k; (case a => k_is); (case l => k_is); (case c => k_is); (case k => k_is)))
    (case d10 => (refine' Cm.top_mk ?a ?l ?c ?k; (case a => k_is); (case l => k_is); (case c => k_is); (case k => k_is)))
    (case d11 => (refine' Cm.top_mk ?a ?l ?c ?k; (case a => k_is); (case l => k_is); (case c => k_is); (case k => k_is)))
    (case d12 => (refine' Cm.top_mk ?a ?l ?c ?k; (case a => k_is); (case l => k_is); (case c => k_is); (case k => k_is)))
    (case d13 => (refine' Cm.top_mk ?a ?l ?c ?k; (case a => k_is); (case l => k_is); (case c => k_is); (case k => k_is)))
    (case d14 => (refine' Cm.top_mk ?a ?l ?c ?k; (case a => k_is); (case l => k_is); (case c => k_is); (case k => k_is)))
    (case d15 => (refine' Cm.top_mk ?a ?l ?c ?k; (case a => k_is); (case l => k_is); (case c => k_is); (case k => k_is)))
    (case a0 => k_is); (case l0 => k_is); (case c0 => k_is); (case k0 => k_is)
    (case z1 => k_is); (case z2 => k_is); (case z3 => k_is); (case z4 => k_is); (case z5 => k_is); (case z6 => k_is); (case z7 => k_is); (case z8 => k_is); (case y_AGAINST => k_is); (case y_ALONG => k_is)
#print axioms PySem.Challenge.cw_causebook_k32_closed_holds
