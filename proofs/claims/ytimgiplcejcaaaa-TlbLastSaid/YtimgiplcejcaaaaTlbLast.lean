/- The law TlbLast. -/
import Derived.Test.YtimgiplcejcaaaaTlbK
import Derived.Test.YtimgiplcejcaaaaTlbFilled
namespace Go.Proofs.Ytimgiplcejcaaaa
set_option linter.unusedVariables false
set_option linter.unusedSimpArgs false
open Go.ChangeShapes Go.WideShapes Go.ChangeAt Go.RowKit

/-- A set into which i unlike things have been filled. -/
def pairW (Z : Nat → TransX) (i : Nat) : TransX × TransX × Int :=
  if i = 0 then (zT, zT, 0) else if i = 1 then (Z 0, zT, 0) else if i % 2 = 0 then (Z (i - 2), Z (i - 1), 0) else (Z (i - 1), Z (i - 2), 1)
theorem pairW_fill {Z : Nat → TransX} {i : Nat} (hs : ∀ j, 1 ≤ (Z j).s) (hp : ∀ j, j < i → (Z j).p ≠ (Z i).p) : fillR (pairW Z i).1 (pairW Z i).2.1 (pairW Z i).2.2 (Z i) = pairW Z (i + 1) := by
  have nz : ∀ j, Z j ≠ zT := fun j e => by have := hs j; rw [e] at this; simp at this
  have zz : ∀ j, ¬ (zT.s = (Z j).s ∧ zT.p = (Z j).p) := fun j h => by have := hs j; have := h.1; simp at this; omega
  have ne : ∀ j, j < i → ¬ ((Z j).s = (Z i).s ∧ (Z j).p = (Z i).p) := fun j hj h => hp j hj h.2
  by_cases h0 : i = 0
  · subst h0
    simp [pairW, fillR, findR, emptyR, zz]
  · by_cases h1 : i = 1
    · subst h1
      simp [pairW, fillR, findR, emptyR, zz, ne 0, nz]
    · have a := ne (i - 2) (by omega)
      have c := ne (i - 1) (by omega)
      by_cases h2 : i % 2 = 0
      · have h3 : (i + 1) % 2 = 1 := by omega
        simp [pairW, fillR, findR, emptyR, h0, h1, h2, a, c, nz, h3]
      · have h3 : (i + 1) % 2 = 0 := by omega
        have h4 : i % 2 = 1 := by omega
        simp [pairW, fillR, findR, emptyR, h0, h1, h4, a, c, nz, h3]
/-- The pages that are filled, and what is filled. -/
def pgL (F K i : Nat) : Int := 4 * (((F : Int) + i) % 128) + K
def xL (A : Int) (F K i : Nat) : TransX := ⟨1 + A, pgL F K i, pgL F K i % 64, true, false⟩
def yL (A : Int) (F K i : Nat) : TransX := ⟨1 + A, (pgL F K i + 1) % 512, 0, false, true⟩
structure LastInv (A : Int) (F K : Nat) (S : Nat → TransX × TransX × Int) (i : Nat) : Prop where
  one : S K = pairW (xL A F K) i
  two : S ((K + 1) % 4) = pairW (yL A F K) i
  far : ∀ j, j < 4 → j ≠ K → j ≠ (K + 1) % 4 → S j = (zT, zT, 0)
theorem pg_in {F K i : Nat} (hK : K < 4) : 0 ≤ pgL F K i ∧ pgL F K i < 512 ∧ setNo (pgL F K i) = K ∧ setNo ((pgL F K i + 1) % 512) = (K + 1) % 4 ∧ 0 ≤ (pgL F K i + 1) % 512 ∧ (pgL F K i + 1) % 512 < 512 := by
  unfold pgL setNo
  omega
theorem pg_ne {F K i j : Nat} (hK : K < 4) (hj : j < i) (hi : i < 128) : pgL F K j ≠ pgL F K i ∧ (pgL F K j + 1) % 512 ≠ (pgL F K i + 1) % 512 := by
  unfold pgL
  omega
theorem last_0 (A : Int) (F K : Nat) : LastInv A F K S0 0 := ⟨rfl, rfl, fun _ _ _ _ => rfl⟩
theorem xL_may {A : Int} {F K i : Nat} (hA : 0 ≤ A) (hK : K < 4) : mayX (xL A F K i) = true := by
  have := pg_in (F := F) (i := i) hK
  have hd : 1 ≤ (xL A F K i).s ∧ 0 ≤ (xL A F K i).p ∧ (xL A F K i).p < 512 ∧ 0 ≤ (xL A F K i).f ∧ (xL A F K i).f < 64 := ⟨show 1 ≤ 1 + A by omega, this.1, this.2.1, show 0 ≤ pgL F K i % 64 by omega, show pgL F K i % 64 < 64 by omega⟩
  unfold mayX
  rw [decide_eq_true hd]
  simp [xL]
theorem yL_may {A : Int} {F K i : Nat} (hA : 0 ≤ A) (hK : K < 4) : mayX (yL A F K i) = true := by
  have := pg_in (F := F) (i := i) hK
  have hd : 1 ≤ (yL A F K i).s ∧ 0 ≤ (yL A F K i).p ∧ (yL A F K i).p < 512 ∧ 0 ≤ (yL A F K i).f ∧ (yL A F K i).f < 64 := ⟨show 1 ≤ 1 + A by omega, this.2.2.2.2.1, this.2.2.2.2.2, show (0 : Int) ≤ 0 by omega, show (0 : Int) < 64 by omega⟩
  unfold mayX
  rw [decide_eq_true hd]
  simp [yL]
theorem last_step {A : Int} {F K i : Nat} {S : Nat → TransX × TransX × Int} (hA : 0 ≤ A) (hK : K < 4) (hi : i < 128) (h : LastInv A F K S i) : LastInv A F K (fillS (fillS S (xL A F K i)) (yL A F K i)) (i + 1) := by
  have p := pg_in (F := F) (i := i) hK
  have e1 : fillS S (xL A F K i) = setS S K (pairW (xL A F K) (i + 1)) := by
    unfold fillS
    rw [if_pos (xL_may hA hK), show setNo (xL A F K i).p = K from p.2.2.1, h.one, pairW_fill (fun j => by simp only [xL]; omega) (fun j hj => (pg_ne hK hj hi).1)]
  have n1 : (K + 1) % 4 ≠ K := by omega
  have e2 : fillS (fillS S (xL A F K i)) (yL A F K i) = setS (setS S K (pairW (xL A F K) (i + 1))) ((K + 1) % 4) (pairW (yL A F K) (i + 1)) := by
    rw [e1]
    unfold fillS
    rw [if_pos (yL_may hA hK), show setNo (yL A F K i).p = (K + 1) % 4 from p.2.2.2.1]
    have : setS S K (pairW (xL A F K) (i + 1)) ((K + 1) % 4) = pairW (yL A F K) i := by unfold setS; rw [if_neg n1, h.two]
    rw [this, pairW_fill (fun j => by simp only [yL]; omega) (fun j hj => (pg_ne hK hj hi).2)]
  rw [e2]
  refine ⟨?_, ?_, fun j hj h1 h2 => ?_⟩
  · unfold setS
    rw [if_neg n1.symm, if_pos rfl]
  · unfold setS
    rw [if_pos rfl]
  · unfold setS
    rw [if_neg h2, if_neg h1, h.far j hj h1 h2]
theorem last_find {A : Int} {F K i : Nat} {S : Nat → TransX × TransX × Int} (hA : 0 ≤ A) (hK : K < 4) (hi : i < 128) (h : LastInv A F K S (i + 1)) :
    findS S (1 + A) (pgL F K i) = (xL A F K i, true) ∧ (1 ≤ i → findS S (1 + A) (pgL F K (i - 1)) = (xL A F K (i - 1), true)) ∧ (2 ≤ i → (findS S (1 + A) (pgL F K (i - 2))).2 = false) := by
  have st : ∀ j, setNo (pgL F K j) = K := fun j => (pg_in (F := F) (i := j) hK).2.2.1
  have ok : ∀ j, 1 ≤ 1 + A ∧ 0 ≤ pgL F K j ∧ pgL F K j < 512 := fun j => ⟨by omega, (pg_in (F := F) (i := j) hK).1, (pg_in (F := F) (i := j) hK).2.1⟩
  have nq : ∀ a c, a < c → c < 128 → pgL F K a ≠ pgL F K c := fun a c h1 h2 => (pg_ne hK h1 h2).1
  have hz : ¬ (zT.s = 1 + A) := by simp; omega
  refine ⟨?_, fun h1 => ?_, fun h2 => ?_⟩
  · unfold findS
    rw [if_pos (ok i), st i, h.one]
    by_cases h0 : i = 0
    · subst h0
      simp [pairW, xL]
    · by_cases he : (i + 1) % 2 = 0
      · have := nq (i - 1) i (by omega) hi
        simp [pairW, xL, h0, he, this]
      · simp [pairW, xL, h0, he]
  · unfold findS
    rw [if_pos (ok _), st _, h.one]
    have := nq (i - 1) i (by omega) hi
    by_cases he : (i + 1) % 2 = 0
    · simp [pairW, xL, show i ≠ 0 by omega, he, this]
    · simp [pairW, xL, show i ≠ 0 by omega, he, this.symm]
  · unfold findS
    rw [if_pos (ok _), st _, h.one]
    have a := nq (i - 2) i (by omega) hi
    have c := nq (i - 2) (i - 1) (by omega) (by omega)
    by_cases he : (i + 1) % 2 = 0
    · simp [pairW, xL, show i ≠ 0 by omega, he, a.symm, c.symm]
    · simp [pairW, xL, show i ≠ 0 by omega, he, a.symm, c.symm]
theorem last_len {A : Int} {F K i : Nat} {S : Nat → TransX × TransX × Int} (hA : 0 ≤ A) (hK : K < 4) (h : LastInv A F K S (i + 1)) : allN S = if i = 0 then 2 else 4 := by
  have nx : ∀ j, xL A F K j ≠ zT := fun j e => by have := congrArg TransX.s e; simp [xL] at this; omega
  have ny : ∀ j, yL A F K j ≠ zT := fun j e => by have := congrArg TransX.s e; simp [yL] at this; omega
  have w1 : ∀ Z : Nat → TransX, (∀ j, Z j ≠ zT) → (pairW Z (i + 1)).1 ≠ zT ∧ ((pairW Z (i + 1)).2.1 ≠ zT ↔ i ≠ 0) := by
    intro Z hZ
    by_cases h0 : i = 0
    · subst h0; simp [pairW, hZ]
    · by_cases he : (i + 1) % 2 = 0
      · simp [pairW, hZ, h0, he]
      · simp [pairW, hZ, h0, he]
  obtain ⟨a1, a2⟩ := w1 _ nx
  obtain ⟨b1, b2⟩ := w1 _ ny
  rw [← h.one] at a1 a2
  rw [← h.two] at b1 b2
  have f := h.far
  unfold allN
  rw [fullP_8]
  obtain rfl | rfl | rfl | rfl : K = 0 ∨ K = 1 ∨ K = 2 ∨ K = 3 := by omega
  · have f2 := f 2 (by omega) (by omega) (by omega)
    have f3 := f 3 (by omega) (by omega) (by omega)
    by_cases h0 : i = 0 <;> simp_all [wayP, List.filter_cons]
  · have f2 := f 0 (by omega) (by omega) (by omega)
    have f3 := f 3 (by omega) (by omega) (by omega)
    by_cases h0 : i = 0 <;> simp_all [wayP, List.filter_cons]
  · have f2 := f 0 (by omega) (by omega) (by omega)
    have f3 := f 1 (by omega) (by omega) (by omega)
    by_cases h0 : i = 0 <;> simp_all [wayP, List.filter_cons]
  · have f2 := f 1 (by omega) (by omega) (by omega)
    have f3 := f 2 (by omega) (by omega) (by omega)
    by_cases h0 : i = 0 <;> simp_all [wayP, List.filter_cons]
theorem find_as (w : World) (b : Nat) (S : Nat → TransX × TransX × Int) (a c : Int) (r : TransX × Bool) (h : TlbAt w b S) (hr : findS S a c = r) :
    Calls Try.prog 14 #[.pointer (some ⟨b, 0, none⟩), .int .i64 a, .int .i64 c] w fun e w' => e = .returned (.tuple #[trX r.1, .bool r.2]) ∧ Below w.heap.size w w' := hr ▸ tfind_any w b S a c h
set_option maxRecDepth 100000 in
set_option maxHeartbeats 2000000 in
theorem walk_tlbLast (a0 : Int) (w0 : (Lit.int .i64 a0).wf = true) (a1 : Int) (w1 : (Lit.int .i64 a1).wf = true) (a2 : Int) (w2 : (Lit.int .i64 a2).wf = true) (a3 : Int) (w3 : (Lit.int .i64 a3).wf = true) (W : World) :
    Calls Try.prog 8 #[.int .i64 a0, .int .i64 a1, .int .i64 a2, .int .i64 a3] W fun e w' => e = .returned (.bool true) ∧ Below W.heap.size W w' := by
  have j0 : -9223372036854775808 ≤ a0 ∧ a0 ≤ 9223372036854775807 := i64_of w0
  have i0 := Lib.hid j0
  have j1 : -9223372036854775808 ≤ a1 ∧ a1 ≤ 9223372036854775807 := i64_of w1
  have i1 := Lib.hid j1
  have j2 : -9223372036854775808 ≤ a2 ∧ a2 ≤ 9223372036854775807 := i64_of w2
  have i2 := Lib.hid j2
  have j3 : -9223372036854775808 ≤ a3 ∧ a3 ≤ 9223372036854775807 := i64_of w3
  have i3 := Lib.hid j3
  clear w0 w1 w2 w3 j0 j1 j2 j3
  have l0 := lowI_0 a0 1000 (by decide)
  have u0 := lowI_1 a0 1000 (by decide)
  have l1 := lowI_0 a1 4 (by decide)
  have u1 := lowI_1 a1 4 (by decide)
  have l2 := lowI_0 a2 128 (by decide)
  have u2 := lowI_1 a2 128 (by decide)
  have l3 := lowI_0 a3 60 (by decide)
  have u3 := lowI_1 a3 60 (by decide)
  obtain ⟨A, hA⟩ : ∃ A, lowI a0 1000 = A := ⟨_, rfl⟩
  obtain ⟨K, hK⟩ : ∃ K : Nat, lowI a1 4 = K := ⟨(lowI a1 4).toNat, by omega⟩
  obtain ⟨F, hF⟩ : ∃ F : Nat, lowI a2 128 = F := ⟨(lowI a2 128).toNat, by omega⟩
  obtain ⟨M, hM⟩ : ∃ M : Nat, lowI a3 60 = M := ⟨(lowI a3 60).toNat, by omega⟩
  rw [hA] at l0 u0
  rw [hK] at l1 u1
  rw [hF] at l2 u2
  rw [hM] at l3 u3
  have HA := Lib.hid hA
  have HK := Lib.hid hK
  have HF := Lib.hid hF
  have HM := Lib.hid hM
  have hK4 : K < 4 := by omega
  have hM60 : M < 60 := by omega
  clear hA hK hF hM
  have ht := Lib.hid (tlbAt_new W)
  go_enter Try.func8, Try.ntmps8
  go_wp2_with (first
    | (go_at_call 10; go_in)
    | (go_at_call 27; (with_reducible refine (low_any a0 1000 _ i0.out (by decide) (by decide)).mono ?_); rw [HA.out]; rintro e w4 ⟨rfl, rfl⟩)
    | (go_at_call 27; (with_reducible refine (low_any a1 4 _ i1.out (by decide) (by decide)).mono ?_); rw [HK.out]; rintro e w4 ⟨rfl, rfl⟩)
    | (go_at_call 27; (with_reducible refine (low_any a3 60 _ i3.out (by decide) (by decide)).mono ?_); rw [HM.out]; rintro e w4 ⟨rfl, rfl⟩))
  go_loopw [13] (fun i wr => ∃ (j : Nat) (S : Nat → TransX × TransX × Int), j ≤ M + 1 ∧ i = .int .i64 j ∧ TlbAt wr W.heap.size S ∧ Good S ∧ LastInv A F K S j ∧ Below W.heap.size W wr) (fun i _ => M + 1 - (intOf i).toNat)
  case atStart => exact ⟨0, S0, by omega, rfl, ht.out, good_S0, last_0 A F K, bal (Below.refl _ _) _⟩
  case round =>
    obtain ⟨j, S, hj, rfl, hT, hG, hL, hB⟩ := hrel
    have hb := hT.lt
    by_cases hlt : j < M + 1
    · have hlt' : (j : Int) < 1 + M := by omega
      have hp0 : 0 ≤ 4 * (((F : Int) + j) % 128) + K := by omega
      have hp1 : 4 * (((F : Int) + j) % 128) + K < 512 := by omega
      have hL2 := last_step l0 hK4 (show j < 128 by omega) hL
      have hG2 := good_fill (good_fill hG (xL A F K j)) (yL A F K j)
      have hG1 := good_fill hG (xL A F K j)
      obtain ⟨U, hU⟩ : ∃ U, fillS S (xL A F K j) = U := ⟨_, rfl⟩
      rw [hU] at hL2 hG2 hG1
      obtain ⟨V, hV⟩ : ∃ V, fillS U (yL A F K j) = V := ⟨_, rfl⟩
      rw [hV] at hL2 hG2
      have hc1 : codeF (xL A F K j) = 0 := by unfold codeF; rw [if_pos (xL_may l0 hK4)]
      have hc2 : codeF (yL A F K j) = 0 := by unfold codeF; rw [if_pos (yL_may l0 hK4)]
      obtain ⟨f0, f1, f2⟩ := last_find l0 hK4 (show j < 128 by omega) hL2
      have hln := last_len l0 hK4 hL2
      have HT := Lib.hid hT
      have HU := Lib.hid hU
      have HV := Lib.hid hV
      have HC1 := Lib.hid hc1
      have HC2 := Lib.hid hc2
      have HF0 : Hid (findS V (1 + A) (4 * (((F : Int) + j) % 128) + K) = (xL A F K j, true)) := Lib.hid f0
      have HF1 := Lib.hid f1
      have HF2 := Lib.hid f2
      have HL2 := Lib.hid hL2
      have HG2 := Lib.hid hG2
      have HG := Lib.hid hG
      have HG1 := Lib.hid hG1
      have HLN := Lib.hid hln
      have hxf : (xL A F K j).f = (4 * (((F : Int) + j) % 128) + K) % 64 := rfl
      clear hU hV hc1 hc2 f0 f1 f2 hL hL2 hG hG1 hG2 hln hT
      by_cases hj2 : 2 ≤ j
      · have hj2' : (1 : Int) < j := by omega
        have hj0' : (0 : Int) < j := by omega
        have g2 : findS V (1 + A) (4 * (((F : Int) + j - 2) % 128) + K) = ((findS V (1 + A) (pgL F K (j - 2))).1, false) := by rw [show (4 * (((F : Int) + j - 2) % 128) + K) = pgL F K (j - 2) by unfold pgL; omega, ← HF2.out (by omega)]
        have HQ2 := Lib.hid g2
        clear g2
        have g1 : findS V (1 + A) (4 * (((F : Int) + j - 1) % 128) + K) = (xL A F K (j - 1), true) := by rw [show (4 * (((F : Int) + j - 1) % 128) + K) = pgL F K (j - 1) by unfold pgL; omega]; exact HF1.out (by omega)
        have hxw : (xL A F K (j - 1)).w = false := rfl
        have HQ1 := Lib.hid g1
        clear g1
        have hln : allN V = 4 := by rw [HLN.out]; rw [if_neg (by omega)]
        have HLN2 := Lib.hid hln
        clear hln
        go_wp2_with (first
          | (go_at_call 27; (with_reducible refine (low_any a2 128 _ i2.out (by decide) (by decide)).mono ?_); rw [HF.out]; rintro e w4 ⟨rfl, rfl⟩)
          | (have _t := HT; go_at_call 12; refine (tfill_any _ W.heap.size S (xL A F K j) HT.out HG.out.ok).mono ?_; rw [HC1.out, HU.out]; rintro e w5 ⟨rfl, ht5, ho5⟩; have HT5 := Lib.hid ht5; clear ht5 HT)
          | (have _t := HT5; go_at_call 12; refine (tfill_any _ W.heap.size U (yL A F K j) HT5.out HG1.out.ok).mono ?_; rw [HC2.out, HV.out]; rintro e w6 ⟨rfl, ht6, ho6⟩; have hlt6 := ht6.lt; have HT6 := Lib.hid ht6; clear ht6 HT5)
          | (go_at_call 14; (with_reducible refine (find_as _ W.heap.size V (1 + A) (4 * (((F : Int) + j - 2) % 128) + K) _ (HT6.out.call (by repeat (first | with_reducible exact Below.refl _ _ | with_reducible refine below_drewN ?_ _ | with_reducible refine Below.drew ?_ | with_reducible refine bal ?_ _ | with_reducible assumption))) HQ2.out).mono ?_); rintro e w7 ⟨rfl, hb7⟩; have HB7 : Below w6.heap.size w6 w7 := (bgo (by repeat (first | with_reducible exact Below.refl _ _ | with_reducible refine below_drewN ?_ _ | with_reducible refine Below.drew ?_ | with_reducible refine bal ?_ _ | with_reducible assumption)) hb7); obtain ⟨hc7, hf7⟩ := bcell hb7; have hz7 : W.heap.size < w7.heap.size := (Nat.lt_of_lt_of_le hlt6 HB7.size))
          | (go_at_call 14; (with_reducible refine (find_as _ W.heap.size V (1 + A) (4 * (((F : Int) + j) % 128) + K) _ (HT6.out.call (by repeat (first | with_reducible exact Below.refl _ _ | with_reducible refine below_drewN ?_ _ | with_reducible refine Below.drew ?_ | with_reducible refine bal ?_ _ | with_reducible exact HB7))) HF0.out).mono ?_); rintro e w8 ⟨rfl, hb8⟩; have HB8 : Below w6.heap.size w6 w8 := (bgo (by repeat (first | with_reducible exact Below.refl _ _ | with_reducible refine below_drewN ?_ _ | with_reducible refine Below.drew ?_ | with_reducible refine bal ?_ _ | with_reducible exact HB7)) hb8); obtain ⟨hc8, hf8⟩ := bcell hb8; have hz8 : W.heap.size < w8.heap.size := (Nat.lt_of_lt_of_le hlt6 HB8.size))
          | (go_at_call 22; refine (tall_any _ W.heap.size V (HT6.out.call (by repeat (first | with_reducible exact Below.refl _ _ | with_reducible refine below_drewN ?_ _ | with_reducible refine Below.drew ?_ | with_reducible refine bal ?_ _ | with_reducible exact HB7 | with_reducible exact HB8))) HG2.out.ok).mono ?_; rw [HLN2.out]; rintro e w9 ⟨p9, c9, g9, rfl, hp9, hr9, hb9⟩; clear hp9 hr9; have HB9 : Below w6.heap.size w6 w9 := (bgo (by repeat (first | with_reducible exact Below.refl _ _ | with_reducible refine below_drewN ?_ _ | with_reducible refine Below.drew ?_ | with_reducible refine bal ?_ _ | with_reducible exact HB7 | with_reducible exact HB8)) hb9); obtain ⟨hc9, hf9⟩ := bcell hb9; have hz9 : W.heap.size < w9.heap.size := (Nat.lt_of_lt_of_le hlt6 HB9.size))
          | (go_at_call 14; (with_reducible refine (find_as _ W.heap.size V (1 + A) (4 * (((F : Int) + j - 1) % 128) + K) _ (HT6.out.call (by repeat (first | with_reducible exact Below.refl _ _ | with_reducible refine below_drewN ?_ _ | with_reducible refine Below.drew ?_ | with_reducible refine bal ?_ _ | with_reducible exact HB7 | with_reducible exact HB8 | with_reducible exact HB9))) HQ1.out).mono ?_); rintro e w10 ⟨rfl, hb10⟩; have HB10 : Below w6.heap.size w6 w10 := (bgo (by repeat (first | with_reducible exact Below.refl _ _ | with_reducible refine below_drewN ?_ _ | with_reducible refine Below.drew ?_ | with_reducible refine bal ?_ _ | with_reducible exact HB7 | with_reducible exact HB8 | with_reducible exact HB9)) hb10); obtain ⟨hc10, hf10⟩ := bcell hb10; have hz10 : W.heap.size < w10.heap.size := (Nat.lt_of_lt_of_le hlt6 HB10.size)))
        all_goals
          have hend := Lib.hid (hB.trans ((ho5.trans ho6).below (Nat.le_refl _) hb))
          go_roundw
          case rel => exact ⟨j + 1, V, by omega, by go_num, HT6.out.call (by repeat (first | with_reducible exact Below.refl _ _ | with_reducible refine below_drewN ?_ _ | with_reducible refine Below.drew ?_ | with_reducible refine bal ?_ _ | with_reducible exact HB7 | with_reducible exact HB8 | with_reducible exact HB9 | with_reducible exact HB10)), HG2.out, HL2.out, hend.out.trans (Below.mono (by repeat (first | with_reducible exact Below.refl _ _ | with_reducible refine below_drewN ?_ _ | with_reducible refine Below.drew ?_ | with_reducible refine bal ?_ _ | with_reducible exact HB7 | with_reducible exact HB8 | with_reducible exact HB9 | with_reducible exact HB10)) (Nat.le_of_lt hlt6))⟩
          case measure => simp [intOf]; omega
      · by_cases hj1 : 1 ≤ j
        · have hj2' : (j : Int) ≤ 1 := by omega
          have hj0' : (0 : Int) < j := by omega
          have g1 : findS V (1 + A) (4 * (((F : Int) + j - 1) % 128) + K) = (xL A F K (j - 1), true) := by rw [show (4 * (((F : Int) + j - 1) % 128) + K) = pgL F K (j - 1) by unfold pgL; omega]; exact HF1.out (by omega)
          have hxw : (xL A F K (j - 1)).w = false := rfl
          have HQ1 := Lib.hid g1
          clear g1
          have hln : allN V = 4 := by rw [HLN.out]; rw [if_neg (by omega)]
          have HLN2 := Lib.hid hln
          clear hln
          go_wp2_with (first
            | (go_at_call 27; (with_reducible refine (low_any a2 128 _ i2.out (by decide) (by decide)).mono ?_); rw [HF.out]; rintro e w4 ⟨rfl, rfl⟩)
            | (have _t := HT; go_at_call 12; refine (tfill_any _ W.heap.size S (xL A F K j) HT.out HG.out.ok).mono ?_; rw [HC1.out, HU.out]; rintro e w5 ⟨rfl, ht5, ho5⟩; have HT5 := Lib.hid ht5; clear ht5 HT)
            | (have _t := HT5; go_at_call 12; refine (tfill_any _ W.heap.size U (yL A F K j) HT5.out HG1.out.ok).mono ?_; rw [HC2.out, HV.out]; rintro e w6 ⟨rfl, ht6, ho6⟩; have hlt6 := ht6.lt; have HT6 := Lib.hid ht6; clear ht6 HT5)
            | (go_at_call 14; (with_reducible refine (find_as _ W.heap.size V (1 + A) (4 * (((F : Int) + j) % 128) + K) _ (HT6.out.call (by repeat (first | with_reducible exact Below.refl _ _ | with_reducible refine below_drewN ?_ _ | with_reducible refine Below.drew ?_ | with_reducible refine bal ?_ _))) HF0.out).mono ?_); rintro e w8 ⟨rfl, hb8⟩; have HB8 : Below w6.heap.size w6 w8 := (bgo (by repeat (first | with_reducible exact Below.refl _ _ | with_reducible refine below_drewN ?_ _ | with_reducible refine Below.drew ?_ | with_reducible refine bal ?_ _)) hb8); obtain ⟨hc8, hf8⟩ := bcell hb8; have hz8 : W.heap.size < w8.heap.size := (Nat.lt_of_lt_of_le hlt6 HB8.size))
            | (go_at_call 22; refine (tall_any _ W.heap.size V (HT6.out.call (by repeat (first | with_reducible exact Below.refl _ _ | with_reducible refine below_drewN ?_ _ | with_reducible refine Below.drew ?_ | with_reducible refine bal ?_ _ | with_reducible exact HB8))) HG2.out.ok).mono ?_; rw [HLN2.out]; rintro e w9 ⟨p9, c9, g9, rfl, hp9, hr9, hb9⟩; clear hp9 hr9; have HB9 : Below w6.heap.size w6 w9 := (bgo (by repeat (first | with_reducible exact Below.refl _ _ | with_reducible refine below_drewN ?_ _ | with_reducible refine Below.drew ?_ | with_reducible refine bal ?_ _ | with_reducible exact HB8)) hb9); obtain ⟨hc9, hf9⟩ := bcell hb9; have hz9 : W.heap.size < w9.heap.size := (Nat.lt_of_lt_of_le hlt6 HB9.size))
            | (go_at_call 14; (with_reducible refine (find_as _ W.heap.size V (1 + A) (4 * (((F : Int) + j - 1) % 128) + K) _ (HT6.out.call (by repeat (first | with_reducible exact Below.refl _ _ | with_reducible refine below_drewN ?_ _ | with_reducible refine Below.drew ?_ | with_reducible refine bal ?_ _ | with_reducible exact HB8 | with_reducible exact HB9))) HQ1.out).mono ?_); rintro e w10 ⟨rfl, hb10⟩; have HB10 : Below w6.heap.size w6 w10 := (bgo (by repeat (first | with_reducible exact Below.refl _ _ | with_reducible refine below_drewN ?_ _ | with_reducible refine Below.drew ?_ | with_reducible refine bal ?_ _ | with_reducible exact HB8 | with_reducible exact HB9)) hb10); obtain ⟨hc10, hf10⟩ := bcell hb10; have hz10 : W.heap.size < w10.heap.size := (Nat.lt_of_lt_of_le hlt6 HB10.size)))
          all_goals
            have hend := Lib.hid (hB.trans ((ho5.trans ho6).below (Nat.le_refl _) hb))
            go_roundw
            case rel => exact ⟨j + 1, V, by omega, by go_num, HT6.out.call (by repeat (first | with_reducible exact Below.refl _ _ | with_reducible refine below_drewN ?_ _ | with_reducible refine Below.drew ?_ | with_reducible refine bal ?_ _ | with_reducible exact HB8 | with_reducible exact HB9 | with_reducible exact HB10)), HG2.out, HL2.out, hend.out.trans (Below.mono (by repeat (first | with_reducible exact Below.refl _ _ | with_reducible refine below_drewN ?_ _ | with_reducible refine Below.drew ?_ | with_reducible refine bal ?_ _ | with_reducible exact HB8 | with_reducible exact HB9 | with_reducible exact HB10)) (Nat.le_of_lt hlt6))⟩
            case measure => simp [intOf]; omega
        · have hj2' : (j : Int) ≤ 1 := by omega
          have hj0' : (j : Int) ≤ 0 := by omega
          have hln : allN V = 2 := by rw [HLN.out]; rw [if_pos (by omega)]
          have HLN2 := Lib.hid hln
          clear hln
          go_wp2_with (first
            | (go_at_call 27; (with_reducible refine (low_any a2 128 _ i2.out (by decide) (by decide)).mono ?_); rw [HF.out]; rintro e w4 ⟨rfl, rfl⟩)
            | (have _t := HT; go_at_call 12; refine (tfill_any _ W.heap.size S (xL A F K j) HT.out HG.out.ok).mono ?_; rw [HC1.out, HU.out]; rintro e w5 ⟨rfl, ht5, ho5⟩; have HT5 := Lib.hid ht5; clear ht5 HT)
            | (have _t := HT5; go_at_call 12; refine (tfill_any _ W.heap.size U (yL A F K j) HT5.out HG1.out.ok).mono ?_; rw [HC2.out, HV.out]; rintro e w6 ⟨rfl, ht6, ho6⟩; have hlt6 := ht6.lt; have HT6 := Lib.hid ht6; clear ht6 HT5)
            | (go_at_call 14; (with_reducible refine (find_as _ W.heap.size V (1 + A) (4 * (((F : Int) + j) % 128) + K) _ (HT6.out.call (by repeat (first | with_reducible exact Below.refl _ _ | with_reducible refine below_drewN ?_ _ | with_reducible refine Below.drew ?_ | with_reducible refine bal ?_ _))) HF0.out).mono ?_); rintro e w8 ⟨rfl, hb8⟩; have HB8 : Below w6.heap.size w6 w8 := (bgo (by repeat (first | with_reducible exact Below.refl _ _ | with_reducible refine below_drewN ?_ _ | with_reducible refine Below.drew ?_ | with_reducible refine bal ?_ _)) hb8); obtain ⟨hc8, hf8⟩ := bcell hb8; have hz8 : W.heap.size < w8.heap.size := (Nat.lt_of_lt_of_le hlt6 HB8.size))
            | (go_at_call 22; refine (tall_any _ W.heap.size V (HT6.out.call (by repeat (first | with_reducible exact Below.refl _ _ | with_reducible refine below_drewN ?_ _ | with_reducible refine Below.drew ?_ | with_reducible refine bal ?_ _ | with_reducible exact HB8))) HG2.out.ok).mono ?_; rw [HLN2.out]; rintro e w9 ⟨p9, c9, g9, rfl, hp9, hr9, hb9⟩; clear hp9 hr9; have HB9 : Below w6.heap.size w6 w9 := (bgo (by repeat (first | with_reducible exact Below.refl _ _ | with_reducible refine below_drewN ?_ _ | with_reducible refine Below.drew ?_ | with_reducible refine bal ?_ _ | with_reducible exact HB8)) hb9); obtain ⟨hc9, hf9⟩ := bcell hb9; have hz9 : W.heap.size < w9.heap.size := (Nat.lt_of_lt_of_le hlt6 HB9.size)))
          all_goals
            have hend := Lib.hid (hB.trans ((ho5.trans ho6).below (Nat.le_refl _) hb))
            go_roundw
            case rel => exact ⟨j + 1, V, by omega, by go_num, HT6.out.call (by repeat (first | with_reducible exact Below.refl _ _ | with_reducible refine below_drewN ?_ _ | with_reducible refine Below.drew ?_ | with_reducible refine bal ?_ _ | with_reducible exact HB8 | with_reducible exact HB9)), HG2.out, HL2.out, hend.out.trans (Below.mono (by repeat (first | with_reducible exact Below.refl _ _ | with_reducible refine below_drewN ?_ _ | with_reducible refine Below.drew ?_ | with_reducible refine bal ?_ _ | with_reducible exact HB8 | with_reducible exact HB9)) (Nat.le_of_lt hlt6))⟩
            case measure => simp [intOf]; omega
    · obtain rfl : j = M + 1 := by omega
      go_wp2_with (first
        | (go_at_call 9; refine (awake6 _).mono ?_; rintro e w6 ⟨rfl, hb6⟩))
      go_ret
      exact ⟨rfl, bgo hB hb6⟩
end Go.Proofs.Ytimgiplcejcaaaa
