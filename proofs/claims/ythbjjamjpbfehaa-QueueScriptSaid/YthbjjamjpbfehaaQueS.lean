/- package queue: what its object holds; New, Has; of nil. -/
import Derived.Test.YthbjjamjpbfehaaQueL
import Derived.Test.YthbjjamjpbfehaaApp
import Derived.Maps.AppendAt
namespace Go.Proofs.Ythbjjamjpbfehaa
set_option linter.unusedVariables false
set_option linter.unusedSimpArgs false
open Go.ChangeShapes Go.WideShapes Go.ChangeAt Go.RowKit Go.Shelf
open Go.Maps (Keyed IsMap int_keyed keyOf_int_mk)

theorem lawI : Keyed Try.prog 3 := int_keyed Try.underlying3
theorem zeroI (w : World) : (zeroValue 3).run Try.prog w = .ok (.int .i64 0) w := by kernel_rfl
abbrev KI (x : Int) : Lit := .int .i64 x
def InI (x : Int) : Prop := -9223372036854775808 ≤ x ∧ x ≤ 9223372036854775807
theorem wf_in {x : Int} (h : InI x) : (Lit.int .i64 x).wf = true := by
  obtain ⟨a, b⟩ := h
  have e1 : IntKind.i64.min = -9223372036854775808 := by decide
  have e2 : IntKind.i64.max = 9223372036854775807 := by decide
  simp only [Lit.wf, e1, e2, Bool.and_eq_true, decide_eq_true_eq]
  exact ⟨a, b⟩
/-- Block m is a map of at most n entries that reads as f. -/
def MapIs (W : World) (m n : Nat) (f : Int → Option Int) : Prop :=
  ∃ D : DataW Unit, W.ownsMap Try.prog 3 (plainElem Try.prog 3) m n D ∧ ∀ x, InI x → Maps.has D (KI x) = (f x).isSome ∧ D.atKey (KI x) (.lit (.int .i64 0)) = .lit (.int .i64 ((f x).getD 0))
theorem MapIs.lt {W : World} {m n : Nat} {f : Int → Option Int} (h : MapIs W m n f) : m < W.heap.size := by
  obtain ⟨D, ho, _⟩ := h
  exact ho.lt
theorem MapIs.of_block {W W' : World} {m n : Nat} {f : Int → Option Int} (h : MapIs W m n f) (e : W'.heap[m]? = W.heap[m]?) : MapIs W' m n f := by
  obtain ⟨D, ⟨es, clock, hb, r⟩, hf⟩ := h
  exact ⟨D, ⟨es, clock, e.trans hb, r⟩, hf⟩
def fput (f : Int → Option Int) (k p : Int) : Int → Option Int := fun x => if x = k then some p else f x
def fdel (f : Int → Option Int) (k : Int) : Int → Option Int := fun x => if x = k then none else f x
theorem kI (x : Int) : WideAt.IsKeyLit (KI x) := by
  first | trivial | (simp [WideAt.IsKeyLit]; done) | exact ⟨_, _, rfl⟩
theorem MapIs.put {W' : World} {m n : Nat} {f : Int → Option Int} {k p : Int} {D : DataW Unit} (hm : IsMap D) (hf : ∀ x, InI x → Maps.has D (KI x) = (f x).isSome ∧ D.atKey (KI x) (.lit (.int .i64 0)) = .lit (.int .i64 ((f x).getD 0)))
    (ho : W'.ownsMap Try.prog 3 (plainElem Try.prog 3) m n (D.put (KI k) (.lit (.int .i64 p)))) : MapIs W' m n (fput f k p) := by
  refine ⟨_, ho, fun x hx => ?_⟩
  unfold fput
  by_cases e : x = k
  · subst e
    rw [if_pos rfl]
    exact ⟨Maps.has_put_same hm (kI _) _, Maps.atKey_put_same hm (kI _) _ _⟩
  · rw [if_neg e]
    have hne : KI x ≠ KI k := fun h => e (by injection h)
    exact ⟨(Maps.has_put_other hne _).trans (hf x hx).1, (Maps.atKey_put_other hne _ _).trans (hf x hx).2⟩
theorem MapIs.del {W' : World} {m n : Nat} {f : Int → Option Int} {k : Int} {D : DataW Unit} (hf : ∀ x, InI x → Maps.has D (KI x) = (f x).isSome ∧ D.atKey (KI x) (.lit (.int .i64 0)) = .lit (.int .i64 ((f x).getD 0)))
    (ho : W'.ownsMap Try.prog 3 (plainElem Try.prog 3) m n (D.del (KI k))) : MapIs W' m n (fdel f k) := by
  refine ⟨_, ho, fun x hx => ?_⟩
  unfold fdel
  by_cases e : x = k
  · subst e
    rw [if_pos rfl]
    exact ⟨Maps.has_del_same, Maps.atKey_del_same _⟩
  · rw [if_neg e]
    have hne : KI x ≠ KI k := fun h => e (by injection h)
    exact ⟨(Maps.has_del_other hne).trans (hf x hx).1, (Maps.atKey_del_other hne _).trans (hf x hx).2⟩
/-- The queue in block b, its map in block mb, its lists. -/
structure QueAt (W : World) (B b mb n : Nat) (vs : Nat → Value) (L : Nat → List Int) (f : Int → Option Int) : Prop where
  lt : B ≤ b ∧ b < W.heap.size
  mlt : B ≤ mb
  ne : b ≠ mb
  cell : ∀ k, k < 8 → W.cell? ⟨b, k, none⟩ = some (vs k)
  free : ∀ k, W.frozen? ⟨b, k, none⟩ = false
  mcell : W.cell? ⟨b, 8, none⟩ = some (.map (some mb))
  row : ∀ k, k < 8 → W.ownsRow B 3 1 (vs k) (L k).length ((L k).map (Value.int .i64))
  rb : ∀ k, k < 8 → (vs k).ownBlock ≠ some b ∧ (vs k).ownBlock ≠ some mb
  apart : ∀ i j, i < 8 → j < 8 → i ≠ j → (vs i).ownBlock = none ∨ (vs i).ownBlock ≠ (vs j).ownBlock
  len : ∀ k, k < 8 → (L k).length ≤ n
  map : MapIs W mb n f
def no8 (_ : Nat) : Value := .slice none 0 0
def noL (_ : Nat) : List Int := []
def noF (_ : Int) : Option Int := none
theorem new_any (w : World) : Calls Try.prog 8 #[] w fun e w' => e = .returned (.pointer (some ⟨w.heap.size + 1, 0, none⟩)) ∧ QueAt w' w.heap.size (w.heap.size + 1) w.heap.size 0 no8 noL noF ∧ Below w.heap.size w w' := by
  have hmm := @run_makeMap Try.prog
  go_enter Try.func8, Try.ntmps8
  go_wp2
  go_ret
  refine ⟨rfl, ⟨⟨by omega, by simp⟩, Nat.le_refl _, by omega, ?_, ?_, ?_, ?_, ?_, ?_, ?_, ?_⟩, bal (bal (Below.refl _ _) _) _⟩
  · intro k hk
    rcases (by omega : k = 0 ∨ k = 1 ∨ k = 2 ∨ k = 3 ∨ k = 4 ∨ k = 5 ∨ k = 6 ∨ k = 7) with rfl | rfl | rfl | rfl | rfl | rfl | rfl | rfl <;> go_simp <;> rfl
  · intro k
    have h := World.alloc_heap_new (w.alloc (.map #[] 0)) (.cells #[.slice none 0 0, .slice none 0 0, .slice none 0 0, .slice none 0 0, .slice none 0 0, .slice none 0 0, .slice none 0 0, .slice none 0 0, .map (some w.heap.size)] 49)
    rw [World.size_alloc] at h
    simp only [World.frozen?, h]
    simp
  · go_simp
  · intro k hk
    exact World.ownsRow_nil _ _ _ _
  · intro k hk
    exact ⟨by simp [no8, Value.ownBlock], by simp [no8, Value.ownBlock]⟩
  · intro i j _ _ _
    exact .inl rfl
  · intro k hk
    exact Nat.le_refl _
  · refine ⟨.map [], ?_, fun x hx => ⟨rfl, rfl⟩⟩
    exact (World.ownsMap_made w _ _ _).alloc _
theorem has_nil (w : World) (x : Int) : Calls Try.prog 19 #[.pointer none, .int .i64 x] w fun e w' => e = .returned (.bool false) ∧ w' = w := by
  go_enter Try.func19, Try.ntmps19
  go_wp2
  go_ret
  exact ⟨rfl, rfl⟩
theorem has_any (w : World) (B b mb n : Nat) (vs : Nat → Value) (L : Nat → List Int) (f : Int → Option Int) (x : Int) (hx : InI x) (h : QueAt w B b mb n vs L f) :
    Calls Try.prog 19 #[.pointer (some ⟨b, 0, none⟩), .int .i64 x] w fun e w' => e = .returned (.bool (f x).isSome) ∧ w' = w := by
  obtain ⟨D, ho, hf⟩ := h.map
  have hm := h.mcell
  have hkey : keyOf Try.prog 3 (.int .i64 x) = some (KI x) := keyOf_int_mk Try.underlying3 (wf_in hx)
  have hh := (hf x hx).1
  have HO := Lib.hid ho
  have HK := Lib.hid hkey
  have HH := Lib.hid hh
  clear h ho hf hkey hh
  go_enter Try.func19, Try.ntmps19
  go_wp2_with (at_lookup; refine wpList_lookup_own_ok_int _ rfl _ _ 46 rfl 3 3 .i64 lawI Try.underlying46 Try.underlying3 (zeroI _) mb n D rfl HO.out _ _ rfl HK.out ?_; intro c hat hwc; rw [HH.out])
  go_ret
  exact ⟨rfl, rfl⟩
theorem add_nil (w : World) (x p : Int) : Calls Try.prog 10 #[.pointer none, .int .i64 x, .int .i64 p] w fun e w' => e = .returned (.int .i64 1) ∧ w' = w := by
  go_enter Try.func10, Try.ntmps10
  go_wp2
  go_ret
  exact ⟨rfl, rfl⟩
theorem drop_nil (w : World) (x : Int) : Calls Try.prog 12 #[.pointer none, .int .i64 x] w fun e w' => e = .returned (.bool false) ∧ w' = w := by
  go_enter Try.func12, Try.ntmps12
  go_wp2_with (go_at_call 19; refine (has_nil _ _).mono ?_; rintro e w1 ⟨rfl, rfl⟩)
  go_ret
  exact ⟨rfl, rfl⟩
theorem back_nil (w : World) (x : Int) : Calls Try.prog 14 #[.pointer none, .int .i64 x] w fun e w' => e = .returned (.bool false) ∧ w' = w := by
  go_enter Try.func14, Try.ntmps14
  go_wp2_with (go_at_call 19; refine (has_nil _ _).mono ?_; rintro e w1 ⟨rfl, rfl⟩)
  go_ret
  exact ⟨rfl, rfl⟩
end Go.Proofs.Ythbjjamjpbfehaa
