/- Package access: walks, locate, Load, Store. -/
import Derived.Test.YtgfidbjhihignaaCoM
import Derived.Test.YtgfidbjhihignaaAcV
namespace Go.Proofs.Ytgfidbjhihignaa
set_option linter.unusedVariables false
set_option linter.unusedSimpArgs false
open Go.ChangeShapes Go.WideShapes Go.ChangeAt Go.RowKit Go.Shelf

abbrev faultV (k va : Int) (wr : Bool) : Value := .agg #[.int .i64 k, .int .u64 va, .bool wr]
abbrev noF : Value := faultV 0 0 false
theorem cregs_ok (w : World) (b g n c k : Nat) (R Q : Nat → Int) (T : Nat → Nat) (S : Nat → TS) (h : CoresAt w b g n c R Q T S) (hk : k < n) :
    Calls Try.prog 49 #[.pointer (some ⟨b, 0, none⟩), .int .i64 k] w fun e w' => e = .returned (.tuple #[.int .i64 (R k), .int .i64 (Q k), .int .i64 0]) ∧ Below w.heap.size w w' := by
  have H := Lib.hid h
  obtain ⟨c0, c1, -⟩ := h.row k hk
  clear h
  go_enter Try.func49, Try.ntmps49
  go_wp2_with (first
    | (go_at_call 26; refine (get_ok _ b g n c k R Q T S H.out hk).mono ?_; rintro e w1 ⟨rfl, rfl⟩))
  go_region
  go_wp2
  exact bodyPost_ret (v := .tuple #[.int .i64 (R k), .int .i64 (Q k), .int .i64 0]) (by simp [results, Try.results49, go_sem]) rfl ⟨rfl, below_drewN (Below.refl _ _) _⟩
theorem cregs_bad (w : World) (b g n c : Nat) (k : Int) (R Q : Nat → Int) (T : Nat → Nat) (S : Nat → TS) (h : CoresAt w b g n c R Q T S) (hk : k < 0 ∨ (n : Int) ≤ k) :
    Calls Try.prog 49 #[.pointer (some ⟨b, 0, none⟩), .int .i64 k] w fun e w' => e = .returned (.tuple #[.int .i64 0, .int .i64 0, .int .i64 3]) ∧ Below w.heap.size w w' := by
  have H := Lib.hid h
  have HK := Lib.hid hk
  clear h hk
  go_enter Try.func49, Try.ntmps49
  go_wp2_with (first
    | (go_at_call 26; refine (get_bad _ b g n c k R Q T S H.out HK.out).mono ?_; rintro e w1 ⟨rfl, rfl⟩))
  exact bodyPost_ret (v := .tuple #[.int .i64 0, .int .i64 0, .int .i64 3]) (by simp [results, Try.results49, go_sem]) rfl ⟨rfl, Below.refl _ _⟩
/-- Has the core a root from which it walks? -/
theorem walks_nom (w : World) (c : Option Addr) (k : Int) :
    Calls Try.prog 40 #[.pointer c, .pointer none, .int .i64 k] w fun e w' => e = .returned (.bool false) ∧ Below w.heap.size w w' := by
  go_enter Try.func40, Try.ntmps40
  go_wp2
  go_ret
  exact ⟨rfl, Below.refl _ _⟩
theorem walks_noc (w : World) (m : Addr) (k : Int) :
    Calls Try.prog 40 #[.pointer none, .pointer (some m), .int .i64 k] w fun e w' => e = .returned (.bool false) ∧ Below w.heap.size w w' := by
  go_enter Try.func40, Try.ntmps40
  go_wp2_with (first
    | (go_at_call 49; refine (cregs_nil _ k).mono ?_; rintro e w3 ⟨rfl, rfl⟩))
  go_ret
  exact ⟨rfl, Below.refl _ _⟩
theorem walks_bad (w : World) (b g n c : Nat) (k : Int) (R Q : Nat → Int) (T : Nat → Nat) (S : Nat → TS) (m : Addr) (h : CoresAt w b g n c R Q T S) (hk : k < 0 ∨ (n : Int) ≤ k) :
    Calls Try.prog 40 #[.pointer (some ⟨b, 0, none⟩), .pointer (some m), .int .i64 k] w fun e w' => e = .returned (.bool false) ∧ Below w.heap.size w w' := by
  have H := Lib.hid h
  have HK := Lib.hid hk
  clear h hk
  go_enter Try.func40, Try.ntmps40
  go_wp2_with (first
    | (go_at_call 49; refine (cregs_bad _ b g n c k R Q T S H.out HK.out).mono ?_; rintro e w3 ⟨rfl, hb3⟩))
  go_ret
  exact ⟨rfl, hb3⟩
theorem walks_at (w : World) (b g n c k : Nat) (R Q : Nat → Int) (T : Nat → Nat) (S : Nat → TS) (m : Addr) (h : CoresAt w b g n c R Q T S) (hk : k < n) :
    Calls Try.prog 40 #[.pointer (some ⟨b, 0, none⟩), .pointer (some m), .int .i64 k] w fun e w' => e = .returned (.bool (!(Q k == 0))) ∧ Below w.heap.size w w' := by
  have H := Lib.hid h
  clear h
  by_cases hq : Q k = 0
  · have hc := Lib.hid (cregs_ok w b g n c k R Q T S H.out hk)
    rw [hq] at hc
    rw [hq]
    go_enter Try.func40, Try.ntmps40
    go_wp2_with (first
      | (go_at_call 49; refine hc.out.mono ?_; rintro e w3 ⟨rfl, hb3⟩))
    go_ret
    exact ⟨rfl, hb3⟩
  · have hc := Lib.hid (cregs_ok w b g n c k R Q T S H.out hk)
    have hqb : (Q k == 0) = false := beq_eq_false_iff_ne.2 hq
    rw [hqb]
    obtain ⟨q, hq2⟩ : ∃ q, Q k = q := ⟨_, rfl⟩
    rw [hq2] at hc hqb
    have hq' : ¬ q = 0 := by rw [← hq2]; exact hq
    clear hq hq2
    go_enter Try.func40, Try.ntmps40
    go_wp2_with (first
      | (go_at_call 49; refine hc.out.mono ?_; rintro e w3 ⟨rfl, hb3⟩))
    go_ret
    exact ⟨ret_bool (by simp [hqb, hq']), hb3⟩
end Go.Proofs.Ytgfidbjhihignaa
