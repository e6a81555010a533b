/- A table by whole numbers, of any number of rows: binary search. -/
import Derived.Test.YtplanbihejodoaaDoorTab1S
namespace Go.Proofs.YtplanbihejodoaaDoor
set_option linter.unusedVariables false
set_option linter.unusedSimpArgs false
open Go.ChangeShapes Go.WideShapes Go.ChangeAt Go.RowKit

namespace TabS
/-- The rows lie in block g, from its head. -/
def RowsIn (w : World) (g : Nat) (R : List Rw) : Prop := ∀ (i j : Nat) (r : Rw) (v : Value), R[i]? = some r → (rcells r)[j]? = some v → w.cell? ⟨g, i * 2 + j, none⟩ = some v
theorem RowsIn.call {w w' : World} {g : Nat} {R : List Rw} (h : RowsIn w g R) (hg : g < w.heap.size) (hb : Below w.heap.size w w') : RowsIn w' g R := fun i j r v hi hj => (hb.cell (p := ⟨g, _, none⟩) hg).trans (h i j r v hi hj)
theorem RowsIn.load {w : World} {g i : Nat} {R : List Rw} {r : Rw} (h : RowsIn w g R) (hi : R[i]? = some r) (A : Addr) (hA : A = ⟨g, i * 2, none⟩) : ∀ j v, (rcells r)[j]? = some v → w.cell? (A.add j) = some v := by
  intro j v hj
  subst hA
  have : ((⟨g, i * 2, none⟩ : Addr).add j) = ⟨g, i * 2 + j, none⟩ := by unfold Addr.add; split <;> simp_all
  rw [this]
  exact h i j r v hi hj
theorem intOf_nat (k : IntKind) (n : Nat) : (intOf (.int k n)).toNat = n := by simp [intOf]
set_option maxRecDepth 100000 in
set_option maxHeartbeats 2000000 in
theorem bsf_any (w : World) (g c : Nat) (R : List Rw) (k : Int) (hg : g < w.heap.size) (hw : Wide 2 R) (hA : Asc R) (hl : R.length ≤ 1000000) (hR : RowsIn w g R) :
    Calls Tryd.prog 47 #[.slice (some ⟨g, 0, none⟩) R.length c, .int .i64 k, .func (.func 48) #[] #[]] w fun e w' => e = .returned (.tuple #[.int .i64 (posR R k : Nat), .bool (hasR R k)]) ∧ Below w.heap.size w w' := by
  have HW := Lib.hid hw
  have HA := Lib.hid hA
  have HR := Lib.hid hR
  generalize hn : R.length = n at *
  have HN := Lib.hid hn
  clear hw hA hR hn
  go_enter Tryd.func47, Tryd.ntmps47
  go_wp2
  go_loopw [9, 10, 11] (fun x y z wr => ∃ i j : Nat, i ≤ j ∧ j ≤ n ∧ x = .int .i64 i ∧ y = .int .i64 j ∧ Below w.heap.size w wr ∧ Hid ((∀ t r, t < i → R[t]? = some r → r.1 < k) ∧ (∀ t r, j ≤ t → R[t]? = some r → k ≤ r.1))) (fun x y _ _ => (intOf y).toNat - (intOf x).toNat)
  case atStart => exact ⟨0, n, by omega, by omega, rfl, rfl, Below.refl _ _, Lib.hid ⟨fun t r h => by omega, fun t r h hr => by have := (List.getElem?_eq_some_iff.1 hr).1; have := HN.out; omega⟩⟩
  case round =>
    obtain ⟨i, j, hij, hjn, rfl, rfl, hb, HF⟩ := hrel
    by_cases hlt : i < j
    · have HNN := HN.out
      obtain ⟨r, hr⟩ : ∃ r, R[(i + j) / 2]? = some r := ⟨R[(i + j) / 2]'(by omega), List.getElem?_eq_getElem _⟩
      have hrc : (rcells r).length = 2 := (HW.out r (List.mem_of_getElem? hr)).1
      have HL := Lib.hid ((HR.out.call hg hb).load hr ⟨g, (i + j) / 2 * 2, none⟩ rfl)
      have HRC := Lib.hid hrc
      have HRR := Lib.hid hr
      have hlt' : (i : Int) < j := by omega
      clear HNN hr hrc
      by_cases hk : r.1 < k
      · have hcv : cmpI r.1 k = -1 := if_pos hk
        have HCV := Lib.hid hcv
        have HK := Lib.hid hk
        clear hcv hk
        go_wp2_with (first | (refine wpList_load_list (by first | rfl | simp [Region.wanted, yielded]) 86 _ rfl ⟨g, (i + j) / 2 * 2, none⟩ rfl (rcells r) HL.out _ Tryd.underlying86 rfl (by rw [HRC.out]; kernel_rfl) ?_) | (go_at_call 48; refine (cmp_any _ _ _ _).mono ?_; rw [HCV.out]; rintro e w1 ⟨rfl, hb1⟩))
        go_roundw
        case rel => exact ⟨(i + j) / 2 + 1, j, by omega, by omega, by go_num, by go_num, hb.trans (hb1.mono hb.size), Lib.hid ⟨fun t x h hx => by
          rcases Nat.lt_or_ge t ((i + j) / 2) with q | q
          · exact Int.lt_trans ((HA.out.at q hx HRR.out)) HK.out
          · obtain rfl : t = (i + j) / 2 := by omega
            rw [HRR.out] at hx
            cases hx
            exact HK.out, HF.out.2⟩⟩
        case measure => first | (simp [intOf]; done) | (simp [intOf]; omega)
      · obtain ⟨cv, hcv, hc0⟩ : ∃ cv, cmpI r.1 k = cv ∧ ¬ cv < 0 := ⟨_, rfl, by unfold cmpI; rw [if_neg hk]; split <;> omega⟩
        have HCV := Lib.hid hcv
        have HK := Lib.hid hk
        clear hcv hk
        go_wp2_with (first | (refine wpList_load_list (by first | rfl | simp [Region.wanted, yielded]) 86 _ rfl ⟨g, (i + j) / 2 * 2, none⟩ rfl (rcells r) HL.out _ Tryd.underlying86 rfl (by rw [HRC.out]; kernel_rfl) ?_) | (go_at_call 48; refine (cmp_any _ _ _ _).mono ?_; rw [HCV.out]; rintro e w1 ⟨rfl, hb1⟩))
        go_roundw
        case rel => exact ⟨i, (i + j) / 2, by omega, by omega, by go_num, by go_num, hb.trans (hb1.mono hb.size), Lib.hid ⟨HF.out.1, fun t x h hx => by
          have hKK := HK.out
          rcases Nat.lt_or_ge ((i + j) / 2) t with q | q
          · have := HA.out.at q HRR.out hx
            omega
          · obtain rfl : t = (i + j) / 2 := by omega
            rw [HRR.out] at hx
            cases hx
            omega⟩⟩
        case measure => first | (simp [intOf]; done) | (simp [intOf]; omega)
    · obtain rfl : i = j := by omega
      have HNN := HN.out
      obtain ⟨e1, e2, e3⟩ := found_at HA.out (by omega : i ≤ R.length) HF.out.1 HF.out.2
      have E1 := Lib.hid e1
      by_cases hin : i < n
      · obtain ⟨r, hr⟩ : ∃ r, R[i]? = some r := ⟨R[i]'(by omega), List.getElem?_eq_getElem _⟩
        have hrc : (rcells r).length = 2 := (HW.out r (List.mem_of_getElem? hr)).1
        have HL := Lib.hid ((HR.out.call hg hb).load hr ⟨g, i * 2, none⟩ rfl)
        have HRC := Lib.hid hrc
        obtain ⟨cv, hcv, hc0⟩ : ∃ cv, cmpI r.1 k = cv ∧ (cv = 0 ↔ r.1 = k) := ⟨_, rfl, by unfold cmpI; constructor <;> intro q <;> (try split at q) <;> (try split at q) <;> (try split) <;> (try split) <;> omega⟩
        have HCV := Lib.hid hcv
        have hdd : decide (r.1 = k) = decide (cv = 0) := by rw [decide_eq_decide]; exact hc0.symm
        have E2 := Lib.hid ((e2 r hr).trans hdd)
        have hin' : (i : Int) < n := by omega
        clear HNN hr hrc e1 e2 e3 hcv hc0 hdd
        go_wp2_with (first | (refine wpList_load_list (by first | rfl | simp [Region.wanted, yielded]) 86 _ rfl ⟨g, i * 2, none⟩ rfl (rcells r) HL.out _ Tryd.underlying86 rfl (by rw [HRC.out]; kernel_rfl) ?_) | (go_at_call 48; refine (cmp_any _ _ _ _).mono ?_; rw [HCV.out]; rintro e w1 ⟨rfl, hb1⟩))
        go_ret2
        rw [E1.out, E2.out]
        exact ⟨by first | rfl | simp, hb.trans (hb1.mono hb.size)⟩
      · have E2 := Lib.hid (e3 (by omega))
        have hin' : ¬ (i : Int) < n := by omega
        clear HNN e1 e2 e3
        go_wp2
        go_ret2
        rw [E1.out, E2.out]
        exact ⟨by first | rfl | simp, hb⟩
end TabS
end Go.Proofs.YtplanbihejodoaaDoor
