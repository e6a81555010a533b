/- chapter 17's acts: played. -/
import Derived.Test.YtebgmphbkjpfcaaTrI
import Derived.Test.YtebgmphbkjpfcaaActs
namespace Go.Proofs.Ytebgmphbkjpfcaa
set_option linter.unusedVariables false
set_option linter.unusedSimpArgs false
open Go.ChangeShapes Go.WideShapes Go.ChangeAt Go.RowKit Go.Shelf

structure ActT where
  d : Int
  a : Int
  b : Int
  p : Int
  q : Int
/-- An act's cells. -/
def ActCells (w : World) (b o : Nat) (x : ActT) : Prop :=
  w.cell? ⟨b, o, none⟩ = some (.int .i64 x.d) ∧ w.cell? ⟨b, o + 1, none⟩ = some (.int .i64 x.a) ∧ w.cell? ⟨b, o + 2, none⟩ = some (.int .i64 x.b) ∧ w.cell? ⟨b, o + 3, none⟩ = some (.int .i64 x.p) ∧ w.cell? ⟨b, o + 4, none⟩ = some (.int .i64 x.q)
def ActT.Ok (x : ActT) : Prop := InS x.a ∧ InS x.b ∧ InS x.p ∧ InS x.q
/-- The acts that a slice holds. -/
def ActsAt (w : World) (p : Option Addr) (n : Nat) (D : Nat → ActT) : Prop :=
  ∃ b off, (0 < n → p = some ⟨b, off, none⟩ ∧ b < w.heap.size) ∧ ∀ k, k < n → ActCells w b (off + k * 5) (D k) ∧ (D k).Ok
theorem wf_S {n : Int} (h : (Lit.int .i64 n).wf = true) : InS n := by
  have e1 : IntKind.i64.min = -9223372036854775808 := by decide
  have e2 : IntKind.i64.max = 9223372036854775807 := by decide
  simp only [Lit.wf, e1, e2, Bool.and_eq_true, decide_eq_true_eq] at h
  exact h
theorem open_s22 {H : Type} {enc : TypeId × Value → H} {W : World} {base : Nat} {v : Value} {d : DataW H} {ps : List MemPlace} (hval : Value.okWide Try.prog W .any base 22 v) (hd : DataW.Trod enc Try.prog W 0 (fun _ => true) true 22 v d ps) :
    ∃ p n c, v = .slice p n c ∧ n ≤ c ∧ c ≤ maxLen ∧ ∃ D, ActsAt W p n D := by
  obtain ⟨p, n, c, rfl, h1, h2, b, off, h3, h4⟩ := open_rows (C := 5) Try.underlying22 (by kernel_rfl) (by kernel_rfl) (by decide) hval hd
  refine ⟨p, n, c, rfl, h1, h2, fun k => ⟨intAt W b (off + (k * 5 + 0)), intAt W b (off + (k * 5 + 1)), intAt W b (off + (k * 5 + 2)), intAt W b (off + (k * 5 + 3)), intAt W b (off + (k * 5 + 4))⟩, b, off, h3, fun k hk => ?_⟩
  obtain ⟨c0, o0⟩ := h4 k hk 0 (.i .i64) (by kernel_rfl)
  obtain ⟨c1, o1⟩ := h4 k hk 1 (.i .i64) (by kernel_rfl)
  obtain ⟨c2, o2⟩ := h4 k hk 2 (.i .i64) (by kernel_rfl)
  obtain ⟨c3, o3⟩ := h4 k hk 3 (.i .i64) (by kernel_rfl)
  obtain ⟨c4, o4⟩ := h4 k hk 4 (.i .i64) (by kernel_rfl)
  exact ⟨⟨by simpa using c0, by simpa [Nat.add_assoc] using c1, by simpa [Nat.add_assoc] using c2, by simpa [Nat.add_assoc] using c3, by simpa [Nat.add_assoc] using c4⟩, wf_S o1, wf_S o2, wf_S o3, wf_S o4⟩
theorem ActsAt.below {w w' : World} {p : Option Addr} {n : Nat} {D : Nat → ActT} (h : ActsAt w p n D) (hb : Below w.heap.size w w') : ActsAt w' p n D := by
  obtain ⟨b, off, h1, h2⟩ := h
  refine ⟨b, off, fun hn => ⟨(h1 hn).1, Nat.lt_of_lt_of_le (h1 hn).2 hb.size⟩, fun k hk => ?_⟩
  obtain ⟨⟨a0, a1, a2, a3, a4⟩, ok⟩ := h2 k hk
  have hl := (h1 (by omega)).2
  have q := fun o => hb.cell (p := ⟨b, o, none⟩) hl
  exact ⟨⟨(q _).trans a0, (q _).trans a1, (q _).trans a2, (q _).trans a3, (q _).trans a4⟩, ok⟩
/-- What an act makes of a list. -/
def stepA (l : List Nod) (x : ActT) : List Nod :=
  if x.d = 0 then (rootA l x.a x.b).1 else if x.d = 1 then (childA l x.a x.b x.p x.q).1 else if x.d = 2 then (removeA l x.a x.b).1 else if x.d = 3 then (moveA l x.a x.b x.p x.q).1 else if x.d = 4 then swapA l x.a x.b x.p x.q else l
def playL (D : Nat → ActT) : Nat → List Nod
  | 0 => []
  | k + 1 => stepA (playL D k) (D k)
theorem St.mono {w0 W : World} {b m n n' : Nat} {l : List Nod} (h : St w0 b m n l W) (hn : n ≤ n') : St w0 b m n' l W := by
  obtain ⟨ps, f, hT, hB⟩ := h
  exact ⟨ps, f, hT.mono hn, hB⟩
theorem St.move {w0 W : World} {b m n : Nat} {l : List Nod} {o i p j : Int} (h : St w0 b m n l W) (ho : InS o) (hi : InS i) (hp : InS p) (hj : InS j) (hn : n < 1000000) :
    Calls Try.prog 29 #[.pointer (some ⟨b, 0, none⟩), slV o i, slV p j] W fun e w' => e = .returned (.int .i64 (moveA l o i p j).2) ∧ St w0 b m (n + 1 + 1) (moveA l o i p j).1 w' := by
  obtain ⟨ps, f, hT, hB⟩ := h
  exact (move_any W _ b m n ps l f o i p j ho hi hp hj hT hn).mono fun e w' ⟨he, hL⟩ => ⟨he, .left hT hB hL⟩
theorem St.swap {w0 W : World} {b m n : Nat} {l : List Nod} {o i p j : Int} (h : St w0 b m n l W) (ho : InS o) (hi : InS i) (hp : InS p) (hj : InS j) (hn : n < 1000000) :
    Calls Try.prog 28 #[.pointer (some ⟨b, 0, none⟩), slV o i, slV p j] W fun e w' => e = .returned (.int .i64 0) ∧ St w0 b m (n + 1 + 1) (swapA l o i p j) w' := by
  obtain ⟨ps, f, hT, hB⟩ := h
  exact (swap_any W _ b m n ps l f o i p j ho hi hp hj hT hn).mono fun e w' ⟨he, hL⟩ => ⟨he, .left hT hB hL⟩
set_option maxRecDepth 100000 in
set_option maxHeartbeats 1000000 in
theorem played_any (W : World) (p : Option Addr) (n c : Nat) (D : Nat → ActT) (hD : ActsAt W p n D) (hn : n ≤ 100) :
    Calls Try.prog 24 #[.slice p n c] W fun e w' => e = .returned (.pointer (some ⟨W.heap.size + 1, 0, none⟩)) ∧ St W (W.heap.size + 1) W.heap.size (2 * n) (playL D n) w' := by
  have HD := Lib.hid hD
  clear hD
  go_enter Try.func24, Try.ntmps24
  go_wp2_with (go_at_call 11; refine (new_st _).mono ?_; rintro e w1 ⟨rfl, hS⟩)
  obtain ⟨B, hB⟩ : ∃ B, B = W.heap.size + 1 := ⟨_, rfl⟩
  rw [← hB] at hS ⊢
  have HS0 := Lib.hid hS
  have HB := Lib.hid hB
  clear hS hB
  go_loopw [4] (fun i wr => ∃ k : Nat, k ≤ n ∧ i = .int .i64 k ∧ Hid (St W B W.heap.size (2 * k) (playL D k) wr)) (fun i _ => n - (intOf i).toNat)
  case atStart => exact ⟨0, by omega, rfl, HS0⟩
  case round =>
    obtain ⟨k, hk, rfl, HS⟩ := hrel
    by_cases hlt : k < n
    · have hlt' : (k : Int) < n := by omega
      have HK2 : Hid (2 * k < 1000000) := Lib.hid (by omega)
      obtain ⟨b, off, hb, hcell⟩ := HD.out.below HS.out.below
      obtain ⟨rfl, hbl⟩ := hb (by omega)
      obtain ⟨⟨a0, a1, a2, a3, a4⟩, x1, x2, x3, x4⟩ := hcell k hlt
      have hstep : playL D (k + 1) = stepA (playL D k) (D k) := rfl
      generalize D k = x at *
      obtain ⟨d, o, i, p', j⟩ := x
      simp only at a0 a1 a2 a3 a4 x1 x2 x3 x4
      clear hb hcell
      have HST := Lib.hid hstep
      clear hstep
      have HA := Lib.hid (show St W B W.heap.size (2 * k) (playL D k) (wr.alloc (.cells #[.int .i64 d, .int .i64 o, .int .i64 i, .int .i64 p', .int .i64 j] 33)) from HS.out.call (bal (Below.refl _ _) _))
      rcases (by omega : d = 0 ∨ d = 1 ∨ d = 2 ∨ d = 3 ∨ d = 4 ∨ ¬ (0 ≤ d ∧ d ≤ 4)) with rfl | rfl | rfl | rfl | rfl | hd
      · go_wp2_with (go_at_call 30; with_reducible refine (HA.out.root x1 x2 HK2.out).mono ?_; rintro e w2 ⟨rfl, hS2⟩)
        go_roundw
        case rel => exact ⟨k + 1, by omega, by go_num, Lib.hid (by rw [HST.out]; exact hS2.mono (by omega))⟩
        case measure => simp [intOf]; omega
      · go_wp2_with (go_at_call 31; with_reducible refine (HA.out.child x1 x2 x3 x4 HK2.out).mono ?_; rintro e w2 ⟨rfl, hS2⟩)
        go_roundw
        case rel => exact ⟨k + 1, by omega, by go_num, Lib.hid (by rw [HST.out]; exact hS2.mono (by omega))⟩
        case measure => simp [intOf]; omega
      · go_wp2_with (go_at_call 26; with_reducible refine (HA.out.remove x1 x2 HK2.out).mono ?_; rintro e w2 ⟨rfl, hS2⟩)
        go_roundw
        case rel => exact ⟨k + 1, by omega, by go_num, Lib.hid (by rw [HST.out]; exact hS2.mono (by omega))⟩
        case measure => simp [intOf]; omega
      · go_wp2_with (go_at_call 29; with_reducible refine (HA.out.move x1 x2 x3 x4 HK2.out).mono ?_; rintro e w2 ⟨rfl, hS2⟩)
        go_roundw
        case rel => exact ⟨k + 1, by omega, by go_num, Lib.hid (by rw [HST.out]; exact hS2.mono (by omega))⟩
        case measure => simp [intOf]; omega
      · go_wp2_with (go_at_call 28; with_reducible refine (HA.out.swap x1 x2 x3 x4 HK2.out).mono ?_; rintro e w2 ⟨rfl, hS2⟩)
        go_roundw
        case rel => exact ⟨k + 1, by omega, by go_num, Lib.hid (by rw [HST.out]; exact hS2.mono (by omega))⟩
        case measure => simp [intOf]; omega
      · have d0 : ¬ d = 0 := by omega
        have d1 : ¬ d = 1 := by omega
        have d2 : ¬ d = 2 := by omega
        have d3 : ¬ d = 3 := by omega
        have d4 : ¬ d = 4 := by omega
        go_wp2
        go_roundw
        case rel => exact ⟨k + 1, by omega, by go_num, Lib.hid (by rw [HST.out]; unfold stepA; simp only [d0, d1, d2, d3, d4, if_false]; exact HA.out.mono (by omega))⟩
        case measure => simp [intOf]; omega
    · obtain rfl : k = n := by omega
      go_wp2
      go_ret
      have hB := HB.out
      have hfin := HS.out
      rw [← hB]
      exact ⟨rfl, hfin⟩
end Go.Proofs.Ytebgmphbkjpfcaa
