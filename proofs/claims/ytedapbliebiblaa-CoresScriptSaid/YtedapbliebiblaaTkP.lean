/- package tlb: Fill, Find and Evict of anything, as functions of what the cache holds. -/
import Derived.Test.YtedapbliebiblaaTkH
import Derived.Test.YtedapbliebiblaaTkL
namespace Go.Proofs.Ytedapbliebiblaa
set_option linter.unusedVariables false
set_option linter.unusedSimpArgs false
open Go.ChangeShapes Go.WideShapes Go.ChangeAt Go.RowKit

def mayX (t : TransX) : Bool := decide (1 ≤ t.s ∧ 0 ≤ t.p ∧ t.p < 512 ∧ 0 ≤ t.f ∧ t.f < 64) && (t.r || t.w)
def fillS (S : Nat → TransX × TransX × Int) (t : TransX) : Nat → TransX × TransX × Int := if mayX t = true then setS S (setNo t.p) (fillR (S (setNo t.p)).1 (S (setNo t.p)).2.1 (S (setNo t.p)).2.2 t) else S
def codeF (t : TransX) : Int := if mayX t = true then 0 else 2
def findS (S : Nat → TransX × TransX × Int) (a c : Int) : TransX × Bool :=
  if 1 ≤ a ∧ 0 ≤ c ∧ c < 512 then (if (S (setNo c)).1.s = a ∧ (S (setNo c)).1.p = c then ((S (setNo c)).1, true) else if (S (setNo c)).2.1.s = a ∧ (S (setNo c)).2.1.p = c then ((S (setNo c)).2.1, true) else (zT, false)) else (zT, false)
def evictS (S : Nat → TransX × TransX × Int) (i j : Int) : (Nat → TransX × TransX × Int) × Bool :=
  if 0 ≤ i ∧ i < 4 ∧ 0 ≤ j ∧ j < 2 then (wipeP S (i.toNat, j.toNat), decide (wayP S (i.toNat, j.toNat) ≠ zT)) else (S, false)
def Oks (S : Nat → TransX × TransX × Int) : Prop := ∀ i, i < 4 → SetOk (S i)
theorem Oks.way {S : Nat → TransX × TransX × Int} (h : Oks S) : ∀ k j, k < 4 → j < 2 → OkT (wayP S (k, j)) := by
  intro k j hk hj
  obtain ⟨h1, h2, _⟩ := h k hk
  unfold wayP
  split
  · exact h1
  · exact h2
set_option maxHeartbeats 1000000 in
theorem tfill_no1 (w : World) (b : Nat) (s p f : Int) (r q : Bool) (h : ¬ (1 ≤ s ∧ 0 ≤ p ∧ p < 512)) :
    Calls Try.prog 59 #[.pointer (some ⟨b, 0, none⟩), trV s p f r q] w fun e w' => e = .returned (.int .i64 2) ∧ Below w.heap.size w w' := by
  have hm : decide (1 ≤ s ∧ 0 ≤ p ∧ p < 512) = false := decide_eq_false h
  have HM := Lib.hid hm
  clear hm h
  go_enter Try.func59, Try.ntmps59
  go_wp2_with (first
    | (go_at_call 72; refine (mayT_any _ _ _).mono ?_; rw [HM.out]; rintro e w1 ⟨rfl, rfl⟩))
  go_ret
  exact ⟨rfl, bal (Below.refl _ _) _⟩
set_option maxHeartbeats 1000000 in
theorem tfill_no2 (w : World) (b : Nat) (s p f : Int) (r q : Bool) (h : 1 ≤ s ∧ 0 ≤ p ∧ p < 512) (hf : f < 0 ∨ 64 ≤ f) :
    Calls Try.prog 59 #[.pointer (some ⟨b, 0, none⟩), trV s p f r q] w fun e w' => e = .returned (.int .i64 2) ∧ Below w.heap.size w w' := by
  have hm : decide (1 ≤ s ∧ 0 ≤ p ∧ p < 512) = true := decide_eq_true h
  have HM := Lib.hid hm
  clear hm h
  rcases hf with hf | hf
  · go_enter Try.func59, Try.ntmps59
    go_wp2_with (first
      | (go_at_call 72; refine (mayT_any _ _ _).mono ?_; rw [HM.out]; rintro e w1 ⟨rfl, rfl⟩))
    go_ret
    exact ⟨rfl, bal (Below.refl _ _) _⟩
  · have hf0 : 0 ≤ f := by omega
    go_enter Try.func59, Try.ntmps59
    go_wp2_with (first
      | (go_at_call 72; refine (mayT_any _ _ _).mono ?_; rw [HM.out]; rintro e w1 ⟨rfl, rfl⟩))
    go_ret
    exact ⟨rfl, bal (Below.refl _ _) _⟩
set_option maxHeartbeats 1000000 in
theorem tfill_no3 (w : World) (b : Nat) (s p f : Int) (h : 1 ≤ s ∧ 0 ≤ p ∧ p < 512) (hf : 0 ≤ f) (hf2 : f < 64) :
    Calls Try.prog 59 #[.pointer (some ⟨b, 0, none⟩), trV s p f false false] w fun e w' => e = .returned (.int .i64 2) ∧ Below w.heap.size w w' := by
  have hm : decide (1 ≤ s ∧ 0 ≤ p ∧ p < 512) = true := decide_eq_true h
  have HM := Lib.hid hm
  clear hm h
  go_enter Try.func59, Try.ntmps59
  go_wp2_with (first
    | (go_at_call 72; refine (mayT_any _ _ _).mono ?_; rw [HM.out]; rintro e w1 ⟨rfl, rfl⟩))
  go_ret
  exact ⟨rfl, bal (Below.refl _ _) _⟩
theorem tfill_any (w : World) (b : Nat) (S : Nat → TransX × TransX × Int) (t : TransX) (h : TlbAt w b S) (hS : Oks S) :
    Calls Try.prog 59 #[.pointer (some ⟨b, 0, none⟩), trX t] w fun e w' => e = .returned (.int .i64 (codeF t)) ∧ TlbAt w' b (fillS S t) ∧ TlbOnly b w w' := by
  obtain ⟨s, p, f, r, q⟩ := t
  have no : mayX ⟨s, p, f, r, q⟩ = false → ∀ (hc : Calls Try.prog 59 #[.pointer (some ⟨b, 0, none⟩), trV s p f r q] w fun e w' => e = .returned (.int .i64 2) ∧ Below w.heap.size w w'), Calls Try.prog 59 #[.pointer (some ⟨b, 0, none⟩), trX ⟨s, p, f, r, q⟩] w fun e w' => e = .returned (.int .i64 (codeF ⟨s, p, f, r, q⟩)) ∧ TlbAt w' b (fillS S ⟨s, p, f, r, q⟩) ∧ TlbOnly b w w' := by
    intro hm hc
    refine hc.mono ?_
    rintro e w' ⟨rfl, hb⟩
    unfold codeF fillS
    rw [hm]
    exact ⟨rfl, h.call hb, TlbOnly.of_below hb⟩
  by_cases h1 : 1 ≤ s ∧ 0 ≤ p ∧ p < 512
  · by_cases h2 : 0 ≤ f ∧ f < 64
    · by_cases h3 : r = true ∨ r = false ∧ q = true
      · refine (tfill_yes w b S s p f r q h hS h1.1 h1.2.1 h1.2.2 h2.1 h2.2 h3).mono ?_
        have hm : mayX ⟨s, p, f, r, q⟩ = true := by
          unfold mayX
          simp only [Bool.and_eq_true, decide_eq_true_eq]
          refine ⟨⟨h1.1, h1.2.1, h1.2.2, h2.1, h2.2⟩, ?_⟩
          rcases h3 with rfl | ⟨rfl, rfl⟩ <;> simp
        unfold codeF fillS
        rw [hm]
        exact fun e w' h => h
      · obtain ⟨rfl, rfl⟩ : r = false ∧ q = false := by cases r <;> cases q <;> simp_all
        exact no (by simp [mayX]) (tfill_no3 w b s p f h1 h2.1 h2.2)
    · exact no (by simp only [mayX]; rw [decide_eq_false (by omega)]; rfl) (tfill_no2 w b s p f r q h1 (by omega))
  · exact no (by simp only [mayX]; rw [decide_eq_false (by omega)]; rfl) (tfill_no1 w b s p f r q h1)
set_option maxRecDepth 100000 in
theorem tfind_bad (w : World) (b : Nat) (a c : Int) (h : ¬ (1 ≤ a ∧ 0 ≤ c ∧ c < 512)) :
    Calls Try.prog 58 #[.pointer (some ⟨b, 0, none⟩), .int .i64 a, .int .i64 c] w fun e w' => e = .returned (.tuple #[trV 0 0 0 false false, .bool false]) ∧ Below w.heap.size w w' := by
  have hm : decide (1 ≤ a ∧ 0 ≤ c ∧ c < 512) = false := decide_eq_false h
  have HM := Lib.hid hm
  clear hm h
  go_enter Try.func58, Try.ntmps58
  go_wp2_with (first
    | (go_at_call 72; refine (mayT_any _ _ _).mono ?_; rw [HM.out]; rintro e w1 ⟨rfl, rfl⟩))
  exact bodyPost_ret (v := .tuple #[trV 0 0 0 false false, .bool false]) (by simp [results, Try.results58, go_sem]) rfl ⟨rfl, bal (Below.refl _ _) _⟩
theorem tfind_any (w : World) (b : Nat) (S : Nat → TransX × TransX × Int) (a c : Int) (h : TlbAt w b S) :
    Calls Try.prog 58 #[.pointer (some ⟨b, 0, none⟩), .int .i64 a, .int .i64 c] w fun e w' => e = .returned (.tuple #[trX (findS S a c).1, .bool (findS S a c).2]) ∧ Below w.heap.size w w' := by
  by_cases hm : 1 ≤ a ∧ 0 ≤ c ∧ c < 512
  · rcases hs : S (setNo c) with ⟨x, y, due⟩
    obtain ⟨s, p, f, r, q⟩ := x
    obtain ⟨s', p', f', r', q'⟩ := y
    have e : findS S a c = (if s = a ∧ p = c then (⟨s, p, f, r, q⟩, true) else if s' = a ∧ p' = c then (⟨s', p', f', r', q'⟩, true) else (zT, false)) := by
      unfold findS
      rw [if_pos hm, hs]
    rw [e]
    by_cases h0 : s = a ∧ p = c
    · rw [if_pos h0]
      exact tfind_0 w b _ S a c s p f r q s' p' f' r' q' due h hm.1 hm.2.1 hm.2.2 rfl hs (by unfold findR; rw [if_pos h0])
    · rw [if_neg h0]
      by_cases h1 : s' = a ∧ p' = c
      · rw [if_pos h1]
        exact tfind_1 w b _ S a c s p f r q s' p' f' r' q' due h hm.1 hm.2.1 hm.2.2 rfl hs (by unfold findR; rw [if_neg h0, if_pos h1])
      · rw [if_neg h1]
        exact tfind_n w b _ S a c s p f r q s' p' f' r' q' due h hm.1 hm.2.1 hm.2.2 rfl hs (by unfold findR; rw [if_neg h0, if_neg h1])
  · have e : findS S a c = (zT, false) := by unfold findS; rw [if_neg hm]
    rw [e]
    exact tfind_bad w b a c hm
set_option maxHeartbeats 1000000 in
theorem evict_bad (w : World) (b : Nat) (i j : Int) (h : ¬ (0 ≤ i ∧ i < 4 ∧ 0 ≤ j ∧ j < 2)) :
    Calls Try.prog 45 #[.pointer (some ⟨b, 0, none⟩), .int .i64 i, .int .i64 j] w fun e w' => e = .returned (.bool false) ∧ w = w' := by
  by_cases h1 : 0 ≤ i
  · by_cases h2 : i < 4
    · by_cases h3 : 0 ≤ j
      · have h4 : 2 ≤ j := by omega
        clear h
        go_enter Try.func45, Try.ntmps45
        go_wp2
        go_ret
        exact ⟨rfl, rfl⟩
      · have h3' : j < 0 := by omega
        clear h h3
        go_enter Try.func45, Try.ntmps45
        go_wp2
        go_ret
        exact ⟨rfl, rfl⟩
    · have h2' : 4 ≤ i := by omega
      clear h h2
      go_enter Try.func45, Try.ntmps45
      go_wp2
      go_ret
      exact ⟨rfl, rfl⟩
  · have h1' : i < 0 := by omega
    clear h h1
    go_enter Try.func45, Try.ntmps45
    go_wp2
    go_ret
    exact ⟨rfl, rfl⟩
theorem tevict_any (w : World) (b : Nat) (S : Nat → TransX × TransX × Int) (i j : Int) (h : TlbAt w b S) (hS : Oks S) :
    Calls Try.prog 45 #[.pointer (some ⟨b, 0, none⟩), .int .i64 i, .int .i64 j] w fun e w' => e = .returned (.bool (evictS S i j).2) ∧ TlbAt w' b (evictS S i j).1 ∧ TlbOnly b w w' := by
  by_cases hm : 0 ≤ i ∧ i < 4 ∧ 0 ≤ j ∧ j < 2
  · have e : evictS S i j = (wipeP S (i.toNat, j.toNat), decide (wayP S (i.toNat, j.toNat) ≠ zT)) := by unfold evictS; rw [if_pos hm]
    rw [e]
    obtain ⟨i0, i1, j0, j1⟩ := hm
    have hi : i = 0 ∨ i = 1 ∨ i = 2 ∨ i = 3 := by omega
    have hj : j = 0 ∨ j = 1 := by omega
    have ok := hS i.toNat (by omega)
    rcases hs : S i.toNat with ⟨x, y, due⟩
    rw [hs] at ok
    obtain ⟨okx, oky, _⟩ := ok
    simp only at okx oky
    have yes : ∀ (z : TransX), 1 ≤ z.s → (z.s == 0) = false ∧ z ≠ zT := fun z hz => ⟨beq_eq_false_iff_ne.2 (by omega), fun e => by rw [e] at hz; simp at hz⟩
    rcases hj with rfl | rfl
    · have hw : wayP S (i.toNat, (0 : Int).toNat) = x := by simp [wayP, hs]
      have hp : wipeP S (i.toNat, (0 : Int).toNat) = setS S i.toNat (zT, y, due) := by simp [wipeP, hs]
      rw [hw, hp]
      rcases okx with rfl | okx
      · rw [decide_eq_false (by simp)]
        rcases hi with rfl | rfl | rfl | rfl
        · exact evict_00n w b S 0 0 0 false false y due h hs
        · exact evict_10n w b S 0 0 0 false false y due h hs
        · exact evict_20n w b S 0 0 0 false false y due h hs
        · exact evict_30n w b S 0 0 0 false false y due h hs
      · obtain ⟨m0, ne⟩ := yes x okx
        rw [decide_eq_true ne]
        obtain ⟨s, p, f, r, q⟩ := x
        rcases hi with rfl | rfl | rfl | rfl
        · exact evict_00y w b S s p f r q y due h hs m0
        · exact evict_10y w b S s p f r q y due h hs m0
        · exact evict_20y w b S s p f r q y due h hs m0
        · exact evict_30y w b S s p f r q y due h hs m0
    · have hw : wayP S (i.toNat, (1 : Int).toNat) = y := by simp [wayP, hs]
      have hp : wipeP S (i.toNat, (1 : Int).toNat) = setS S i.toNat (x, zT, due) := by simp [wipeP, hs]
      rw [hw, hp]
      rcases oky with rfl | oky
      · rw [decide_eq_false (by simp)]
        rcases hi with rfl | rfl | rfl | rfl
        · exact evict_01n w b S 0 0 0 false false x due h hs
        · exact evict_11n w b S 0 0 0 false false x due h hs
        · exact evict_21n w b S 0 0 0 false false x due h hs
        · exact evict_31n w b S 0 0 0 false false x due h hs
      · obtain ⟨m0, ne⟩ := yes y oky
        rw [decide_eq_true ne]
        obtain ⟨s, p, f, r, q⟩ := y
        rcases hi with rfl | rfl | rfl | rfl
        · exact evict_01y w b S s p f r q x due h hs m0
        · exact evict_11y w b S s p f r q x due h hs m0
        · exact evict_21y w b S s p f r q x due h hs m0
        · exact evict_31y w b S s p f r q x due h hs m0
  · have e : evictS S i j = (S, false) := by unfold evictS; rw [if_neg hm]
    rw [e]
    refine (evict_bad w b i j hm).mono ?_
    rintro e w' ⟨rfl, rfl⟩
    exact ⟨rfl, h, TlbOnly.refl _ _⟩
end Go.Proofs.Ytedapbliebiblaa
