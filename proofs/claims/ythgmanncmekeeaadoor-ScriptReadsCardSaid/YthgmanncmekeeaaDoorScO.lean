/- chapter 35: the places of a call's numbers; of any kind's. -/
import Derived.Test.YthgmanncmekeeaaDoorScN
namespace Go.Proofs.YthgmanncmekeeaaDoor
set_option linter.unusedVariables false
set_option linter.unusedSimpArgs false
open Go.ChangeShapes Go.WideShapes Go.ChangeAt Go.RowKit
namespace Sc
attribute [-go_sem] Builtin.append_
def callP (k : Nat) : List (Bool × Nat) := [(false, 1), (true, 3)] ++ (List.range k).map (fun i => (true, 4 + i))
theorem callP_len (k : Nat) : (callP k).length = 2 + k := by unfold callP; simp; omega
theorem callP_succ (k : Nat) : callP (k + 1) = callP k ++ [(true, 4 + k)] := by unfold callP; rw [List.range_succ, List.map_append, List.append_assoc]; rfl
theorem plsC_app (b : Nat) (l m : List (Bool × Nat)) : plsC b (l ++ m) = plsC b l ++ plsC b m := by unfold plsC; rw [List.flatMap_append]
set_option maxRecDepth 100000 in
set_option maxHeartbeats 2000000 in
theorem numbers_2 (w : World) (b : Nat) (c : Ev) (h : EvAt w b c) (hk : c 0 = 2) : Calls Tryd.prog 23 #[.pointer (some ⟨b, 0, none⟩)] w fun e w' => ∃ q v, e = .returned (.func (.func 33) #[] #[.pointer (some ⟨q, 0, none⟩)]) ∧ NumAt w' w.heap.size q v (places (c 0)).length (plsC b (places (c 0))) ∧ Below w.heap.size w w' := by
  have hpl : places (c 0) = callP 6 := by rw [hk]; rfl
  have HPL := Lib.hid hpl
  have hlt : b < w.heap.size := (Array.getElem?_eq_some_iff.1 h).1
  have hc0 : w.cell? ⟨b, 0, none⟩ = some (.int .i64 2) := by rw [row_cell h, ← hk]; rfl
  have HS := Lib.hid (num_start w b)
  clear h hk hpl
  go_enter Tryd.func23, Tryd.ntmps23
  go_upto_region 6 with fail
  obtain ⟨w1, hw1⟩ : ∃ y, y = ((w.alloc (.cells #[.pointer (some ⟨b, 1, none⟩), .pointer none] 66)).alloc (.cells #[.slice (some ⟨w.heap.size, 0, none⟩) 1 1] 82)) := ⟨_, rfl⟩
  rw [← hw1]
  have hS := HS.out
  rw [← hw1] at hS
  have hb1 : Below w.heap.size w w1 := hw1 ▸ bal (bal (Below.refl _ _) _) _
  have hq1 : w1.cell? ⟨w.heap.size + 1, 0, none⟩ = some (.slice (some ⟨w.heap.size, 0, none⟩) 1 1) := by rw [row_cell hS.box]; rfl
  have hlq := hS.lt
  obtain ⟨_, w2, ⟨g2, k2, rfl⟩, hrun, hc2, hf2, hN2, hb2⟩ := num_step hS 66 1 [.pointer none, .pointer (some ⟨b, 3, none⟩)] rfl (plsC_one b [(true, 3)]) (by decide) hb1.size (by decide)
  have HB2 := Lib.hid (hb1.trans hb2)
  have HN2 := Lib.hid hN2
  clear hw1 HS hS hN2 hb2 hb1
  go_region
  obtain ⟨w3, hw3⟩ : ∃ y, y = w2.setCell ⟨w.heap.size + 1, 0, none⟩ (.slice (some ⟨g2, 0, none⟩) 2 k2) := ⟨_, rfl⟩
  rw [← hw3]
  have HN3 : Hid (NumAt w3 w.heap.size (w.heap.size + 1) (.slice (some ⟨g2, 0, none⟩) 2 k2) 2 (plsC b (callP 0))) := Lib.hid (by rw [hw3]; exact HN2.out)
  have HB3 : Hid (Below w.heap.size w w3) := Lib.hid (by rw [hw3]; exact HB2.out)
  clear hw3 hc2 hf2 hrun HN2 HB2 hq1 hlq
  go_wp2
  go_loopw [33, 4] (fun i i4 wr => ∃ (k g cp : Nat), k ≤ 6 ∧ i = .int .i64 k ∧ Hid (NumAt wr w.heap.size (w.heap.size + 1) (.slice (some ⟨g, 0, none⟩) (2 + k) cp) (2 + k) (plsC b (callP k))) ∧ Hid (Below w.heap.size w wr)) (fun i _ _ => 6 - (intOf i).toNat)
  case atStart => exact ⟨0, g2, k2, by omega, rfl, HN3, HB3⟩
  case round =>
    obtain ⟨k, g, cp, hk6, rfl, HN, HB⟩ := hrel
    clear HN3 HB3
    by_cases hlk : k < 6
    · have q5 : ((k : Int) < 6) = True := by rw [eq_iff_iff, iff_true]; omega
      have hS := HN.out
      have hq1 : wr.cell? ⟨w.heap.size + 1, 0, none⟩ = some (.slice (some ⟨g, 0, none⟩) (2 + k) cp) := by rw [row_cell hS.box]; rfl
      have hlq := hS.lt
      have hlb : b < wr.heap.size := Nat.lt_of_lt_of_le hlt HB.out.size
      have hadd : ((⟨b, 4, none⟩ : Addr).add k) = ⟨b, 4 + k, none⟩ := by unfold Addr.add; split <;> simp_all
      obtain ⟨_, w2, ⟨g2, k2, rfl⟩, hrun, hc2, hf2, hN2, hb2⟩ := num_step hS 66 1 [.pointer none, .pointer (some ⟨b, 4 + k, none⟩)] rfl (plsC_one b [(true, 4 + k)]) (by omega) HB.out.size (by omega)
      have HB2 := Lib.hid (HB.out.trans hb2)
      have HN2 := Lib.hid hN2
      have HLK := Lib.hid hlk
      clear hS hN2 hb2 hlk
      go_wp2
      go_region
      go_wp2
      go_roundw
      case rel => exact ⟨k + 1, g2, k2, HLK.out, by go_num, Lib.hid (by rw [callP_succ, plsC_app]; exact HN2.out), HB2⟩
      case measure => first | (simp [intOf]; done) | (have := HLK.out; simp [intOf]; omega)
    · obtain rfl : k = 6 := by omega
      go_wp2
      go_ret
      exact ⟨w.heap.size + 1, _, rfl, by rw [HPL.out]; exact HN.out, HB.out⟩
set_option maxRecDepth 100000 in
set_option maxHeartbeats 1000000 in
theorem numbers_no (w : World) (b : Nat) (c : Ev) (h : EvAt w b c) (hk : nm (c 0) = []) : Calls Tryd.prog 23 #[.pointer (some ⟨b, 0, none⟩)] w fun e w' => ∃ q v, e = .returned (.func (.func 33) #[] #[.pointer (some ⟨q, 0, none⟩)]) ∧ NumAt w' w.heap.size q v (places (c 0)).length (plsC b (places (c 0))) ∧ Below w.heap.size w w' := by
  have hn : ∀ k : Int, nm k ≠ [] → ¬ c 0 = k := fun k h e => h (by rw [← e]; exact hk)
  have e1 := hn 1 (by decide); have e2 := hn 2 (by decide); have e3 := hn 3 (by decide); have e4 := hn 4 (by decide); have e5 := hn 5 (by decide); have e6 := hn 6 (by decide)
  have hpl : places (c 0) = [(false, 1)] := by unfold places; simp [e1, e2, e3, e4, e5, e6]
  have HPL := Lib.hid hpl
  have hlt : b < w.heap.size := (Array.getElem?_eq_some_iff.1 h).1
  have hc0 : w.cell? ⟨b, 0, none⟩ = some (.int .i64 (c 0)) := by rw [row_cell h]; rfl
  have HS := Lib.hid (num_start w b)
  clear h hk hpl hn
  go_enter Tryd.func23, Tryd.ntmps23
  go_wp2
  go_ret
  exact ⟨w.heap.size + 1, _, rfl, by rw [HPL.out]; exact HS.out, bal (bal (Below.refl _ _) _) _⟩
theorem numbers_any (w : World) (b : Nat) (c : Ev) (h : EvAt w b c) : Calls Tryd.prog 23 #[.pointer (some ⟨b, 0, none⟩)] w fun e w' => ∃ q v, e = .returned (.func (.func 33) #[] #[.pointer (some ⟨q, 0, none⟩)]) ∧ NumAt w' w.heap.size q v (places (c 0)).length (plsC b (places (c 0))) ∧ Below w.heap.size w w' := by
  by_cases hk : nm (c 0) = []
  · exact numbers_no w b c h hk
  · rcases kind_cases _ hk with e | e | e | e | e | e
    · exact numbers_1 w b c h e
    · exact numbers_2 w b c h e
    · exact numbers_3 w b c h e
    · exact numbers_4 w b c h e
    · exact numbers_5 w b c h e
    · exact numbers_6 w b c h e
end Sc
end Go.Proofs.YthgmanncmekeeaaDoor
