/- package tlb: Fill, Find and Evict of anything, as functions of what the cache holds. -/
import Derived.Test.YtgfidbjhihignaaTkH
import Derived.Test.YtgfidbjhihignaaTkL
namespace Go.Proofs.Ytgfidbjhihignaa
set_option linter.unusedVariables false
set_option linter.unusedSimpArgs false
open Go.ChangeShapes Go.WideShapes Go.ChangeAt Go.RowKit

def mayX (t : TransX) : Bool := decide (1 ≤ t.s ∧ 0 ≤ t.p ∧ t.p < 512 ∧ 0 ≤ t.f ∧ t.f < 64) && (t.r || t.w)
def fillS (S : Nat → TransX × TransX × Int) (t : TransX) : Nat → TransX × TransX × Int := if mayX t = true then setS S (setNo t.p) (fillR (S (setNo t.p)).1 (S (setNo t.p)).2.1 (S (setNo t.p)).2.2 t) else S
def codeF (t : TransX) : Int := if mayX t = true then 0 else 2
def findS (S : Nat → TransX × TransX × Int) (a c : Int) : TransX × Bool :=
  if 1 ≤ a ∧ 0 ≤ c ∧ c < 512 then (if (S (setNo c)).1.s = a ∧ (S (setNo c)).1.p = c then ((S (setNo c)).1, true) else if (S (setNo c)).2.1.s = a ∧ (S (setNo c)).2.1.p = c then ((S (setNo c)).2.1, true) else (zT, false)) else (zT, false)
def evictS (S : Nat → TransX × TransX × Int) (i j : Int) : (Nat → TransX × TransX × Int) × Bool :=
  if 0 ≤ i ∧ i < 4 ∧ 0 ≤ j ∧ j < 2 then (wipeP S (i.toNat, j.toNat), decide (wayP S (i.toNat, j.toNat) ≠ zT)) else (S, false)
def Oks (S : Nat → TransX × TransX × Int) : Prop := ∀ i, i < 4 → SetOk (S i)
theorem Oks.way {S : Nat → TransX × TransX × Int} (h : Oks S) : ∀ k j, k < 4 → j < 2 → OkT (wayP S (k, j)) := by
  intro k j hk hj
  obtain ⟨h1, h2, _⟩ := h k hk
  unfold wayP
  split
  · exact h1
  · exact h2
set_option maxHeartbeats 1000000 in
theorem tfill_no1 (w : World) (b : Nat) (s p f : Int) (r q : Bool) (h : ¬ (1 ≤ s ∧ 0 ≤ p ∧ p < 512)) :
    Calls Try.prog 58 #[.pointer (some ⟨b, 0, none⟩), trV s p f r q] w fun e w' => e = .returned (.int .i64 2) ∧ Below w.heap.size w w' := by
  have hm : decide (1 ≤ s ∧ 0 ≤ p ∧ p < 512) = false := decide_eq_false h
  have HM := Lib.hid hm
  clear hm h
  go_enter Try.func58, Try.ntmps58
  go_wp2_with (first
    | (go_at_call 62; refine (mayT_any _ _ _).mono ?_; rw [HM.out]; rintro e w1 ⟨rfl, rfl⟩))
  go_ret
  exact ⟨rfl, bal (Below.refl _ _) _⟩
set_option maxHeartbeats 1000000 in
theorem tfill_no2 (w : World) (b : Nat) (s p f : Int) (r q : Bool) (h : 1 ≤ s ∧ 0 ≤ p ∧ p < 512) (hf : f < 0 ∨ 64 ≤ f) :
    Calls Try.prog 58 #[.pointer (some ⟨b, 0, none⟩), trV s p f r q] w fun e w' => e = .returned (.int .i64 2) ∧ Below w.heap.size w w' := by
  have hm : decide (1 ≤ s ∧ 0 ≤ p ∧ p < 512) = true := decide_eq_true h
  have HM := Lib.hid hm
  clear hm h
  rcases hf with hf | hf
  · go_enter Try.func58, Try.ntmps58
    go_wp2_with (first
      | (go_at_call 62; refine (mayT_any _ _ _).mono ?_; rw [HM.out]; rintro e w1 ⟨rfl, rfl⟩))
    go_ret
    exact ⟨rfl, bal (Below.refl _ _) _⟩
  · have hf0 : 0 ≤ f := by omega
    go_enter Try.func58, Try.ntmps58
    go_wp2_with (first
      | (go_at_call 62; refine (mayT_any _ _ _).mono ?_; rw [HM.out]; rintro e w1 ⟨rfl, rfl⟩))
    go_ret
    exact ⟨rfl, bal (Below.refl _ _) _⟩
set_option maxHeartbeats 1000000 in
theorem tfill_no3 (w : World) (b : Nat) (s p f : Int) (h : 1 ≤ s ∧ 0 ≤ p ∧ p < 512) (hf : 0 ≤ f) (hf2 : f < 64) :
    Calls Try.prog 58 #[.pointer (some ⟨b, 0, none⟩), trV s p f false false] w fun e w' => e = .returned (.int .i64 2) ∧ Below w.heap.size w w' := by
  have hm : decide (1 ≤ s ∧ 0 ≤ p ∧ p < 512) = true := decide_eq_true h
  have HM := Lib.hid hm
  clear hm h
  go_enter Try.func58, Try.ntmps58
  go_wp2_with (first
    | (go_at_call 62; refine (mayT_any _ _ _).mono ?_; rw [HM.out]; rintro e w1 ⟨rfl, rfl⟩))
  go_ret
  exact ⟨rfl, bal (Below.refl _ _) _⟩
theorem tfill_any (w : World) (b : Nat) (S : Nat → TransX × TransX × Int) (t : TransX) (h : TlbAt w b S) (hS : Oks S) :
    Calls Try.prog 58 #[.pointer (some ⟨b, 0, none⟩), trX t] w fun e w' => e = .returned (.int .i64 (codeF t)) ∧ TlbAt w' b (fillS S t) ∧ TlbOnly b w w' := by
  obtain ⟨s, p, f, r, q⟩ := t
  have no : mayX ⟨s, p, f, r, q⟩ = false → ∀ (hc : Calls Try.prog 58 #[.pointer (some ⟨b, 0, none⟩), trV s p f r q] w fun e w' => e = .returned (.int .i64 2) ∧ Below w.heap.size w w'), Calls Try.prog 58 #[.pointer (some ⟨b, 0, none⟩), trX ⟨s, p, f, r, q⟩] w fun e w' => e = .returned (.int .i64 (codeF ⟨s, p, f, r, q⟩)) ∧ TlbAt w' b (fillS S ⟨s, p, f, r, q⟩) ∧ TlbOnly b w w' := by
    intro hm hc
    refine hc.mono ?_
    rintro e w' ⟨rfl, hb⟩
    unfold codeF fillS
    rw [hm]
    exact ⟨rfl, h.call hb, TlbOnly.of_below hb⟩
  by_cases h1 : 1 ≤ s ∧ 0 ≤ p ∧ p < 512
  · by_cases h2 : 0 ≤ f ∧ f < 64
    · by_cases h3 : r = true ∨ r = false ∧ q = true
      · refine (tfill_yes w b S s p f r q h hS h1.1 h1.2.1 h1.2.2 h2.1 h2.2 h3).mono ?_
        have hm : mayX ⟨s, p, f, r, q⟩ = true := by
          unfold mayX
          simp only [Bool.and_eq_true, decide_eq_true_eq]
          refine ⟨⟨h1.1, h1.2.1, h1.2.2, h2.1, h2.2⟩, ?_⟩
          rcases h3 with rfl | ⟨rfl, rfl⟩ <;> simp
        unfold codeF fillS
        rw [hm]
        exact fun e w' h => h
      · obtain ⟨rfl, rfl⟩ : r = false ∧ q = false := by cases r <;> cases q <;> simp_all
        exact no (by simp [mayX]) (tfill_no3 w b s p f h1 h2.1 h2.2)
    · exact no (by simp only [mayX]; rw [decide_eq_false (by omega)]; rfl) (tfill_no2 w b s p f r q h1 (by omega))
  · exact no (by simp only [mayX]; rw [decide_eq_false (by omega)]; rfl) (tfill_no1 w b s p f r q h1)
set_option maxRecDepth 100000 in
theorem tfind_bad (w : World) (b : Nat) (a c : Int) (h : ¬ (1 ≤ a ∧ 0 ≤ c ∧ c < 512)) :
    Calls Try.prog 56 #[.pointer (some ⟨b, 0, none⟩), .int .i64 a, .int .i64 c] w fun e w' => e = .returned (.tuple #[trV 0 0 0 false false, .bool false]) ∧ Below w.heap.size w w' := by
  have hm : decide (1 ≤ a ∧ 0 ≤ c ∧ c < 512) = false := decide_eq_false h
  have HM := Lib.hid hm
  clear hm h
  go_enter Try.func56, Try.ntmps56
  go_wp2_with (first
    | (go_at_call 62; refine (mayT_any _ _ _).mono ?_; rw [HM.out]; rintro e w1 ⟨rfl, rfl⟩))
  exact bodyPost_ret (v := .tuple #[trV 0 0 0 false false, .bool false]) (by simp [results, Try.results56, go_sem]) rfl ⟨rfl, bal (Below.refl _ _) _⟩
theorem tfind_any (w : World) (b : Nat) (S : Nat → TransX × TransX × Int) (a c : Int) (h : TlbAt w b S) :
    Calls Try.prog 56 #[.pointer (some ⟨b, 0, none⟩), .int .i64 a, .int .i64 c] w fun e w' => e = .returned (.tuple #[trX (findS S a c).1, .bool (findS S a c).2]) ∧ Below w.heap.size w w' := by
  by_cases hm : 1 ≤ a ∧ 0 ≤ c ∧ c < 512
  · rcases hs : S (setNo c) with ⟨x, y, due⟩
    obtain ⟨s, p, f, r, q⟩ := x
    obtain ⟨s', p', f', r', q'⟩ := y
    have e : findS S a c = (if s = a ∧ p = c then (⟨s, p, f, r, q⟩, true) else if s' = a ∧ p' = c then (⟨s', p', f', r', q'⟩, true) else (zT, false)) := by
      unfold findS
      rw [if_pos hm, hs]
    rw [e]
    by_cases h0 : s = a ∧ p = c
    · rw [if_pos h0]
      exact tfind_0 w b _ S a c s p f r q s' p' f' r' q' due h hm.1 hm.2.1 hm.2.2 rfl hs (by unfold findR; rw [if_pos h0])
    · rw [if_neg h0]
      by_cases h1 : s' = a ∧ p' = c
      · rw [if_pos h1]
        exact tfind_1 w b _ S a c s p f r q s' p' f' r' q' due h hm.1 hm.2.1 hm.2.2 rfl hs (by unfold findR; rw [if_neg h0, if_pos h1])
      · rw [if_neg h1]
        exact tfind_n w b _ S a c s p f r q s' p' f' r' q' due h hm.1 hm.2.1 hm.2.2 rfl hs (by unfold findR; rw [if_neg h0, if_neg h1])
  · have e : findS S a c = (zT, false) := by unfold findS; rw [if_neg hm]
    rw [e]
    exact tfind_bad w b a c hm
end Go.Proofs.Ytgfidbjhihignaa
