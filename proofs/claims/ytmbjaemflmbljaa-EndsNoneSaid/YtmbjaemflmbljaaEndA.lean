/- The endpoints: List of two; two lists of ints compared; awake. -/
import Derived.Test.YtmbjaemflmbljaaEnd9
import Derived.Lib.SliceRun
import Derived.LoopIn
import Derived.LoopTactic
namespace Go.Proofs.Ytmbjaemflmbljaa
set_option linter.unusedVariables false
set_option linter.unusedSimpArgs false
open Go.ChangeShapes Go.WideShapes Go.ChangeAt Go.RowKit Go.Shelf

theorem add_from {w : World} {g o : Nat} {cs : List Value} (h : ∀ j u, cs[j]? = some u → w.cell? ⟨g, o + j, none⟩ = some u) : ∀ j u, cs[j]? = some u → w.cell? ((⟨g, o, none⟩ : Addr).add j) = some u := by
  intro j u hj
  have : ((⟨g, o, none⟩ : Addr).add j) = ⟨g, o + j, none⟩ := by unfold Addr.add; split <;> simp_all
  rw [this]
  exact h j u hj
theorem clone_w (w : World) (g o n c : Nat) (xs : List Value) (hl : xs.length = n) (hn : 0 < n) (hm : n ≤ 64) (hg : g < w.heap.size) (hc : ∀ j u, xs[j]? = some u → w.cell? ⟨g, o + j, none⟩ = some u) (h1 : ∀ u ∈ xs, u.oneCell' = true) :
    Calls Try.prog 32 #[.slice (some ⟨g, o, none⟩) n c] w fun e w' => ∃ v, e = .returned v ∧ w'.ownsRow w.heap.size 3 1 v n xs ∧ Below w.heap.size w w' := by
  obtain ⟨i0, hi, hz0, hz1, hz2⟩ := info_parts infoI
  have HI := Lib.hid hi
  have HC := Lib.hid hc
  have H1 := Lib.hid h1
  have HL := Lib.hid hl
  have hk : ∀ ob, ∀ j u, xs[j]? = some u → (w.alloc ob).cell? ⟨g, o + j, none⟩ = some u := fun ob j u hj => ((bal (Below.refl _ _) ob).cell (p := ⟨g, o + j, none⟩) hg).trans (hc j u hj)
  have HK := Lib.hid hk
  clear hi hc h1 hl hk
  have hq := fun w => Go.Lib.run_eql_slice_nil (P := Try.prog) w 36 3 (some ⟨g, o, none⟩) n c 0 0 Try.underlying36
  go_enter Try.func32, Try.ntmps32
  go_wp2_with (at_builtin; refine wpList_append_own _ rfl _ _ 36 rfl w.heap.size 3 i0 (.int .i64 0) 1 8 Try.underlying36 HI.out hz0 hz1 hz2 rfl (by decide) _ 0 [] rfl (World.ownsRow_made w #[] 0 (Nat.le_refl _) (by unfold maxLen; omega) rfl) ⟨g, o, none⟩ n c xs rfl (by rw [HL.out]; omega) (add_from (HK.out _)) H1.out (by unfold maxLen; omega) (by omega) (by simp) ?_; intro v' w1 hown' hgrow _)
  go_ret
  refine ⟨v', rfl, by simpa using hown', (bal (Below.refl _ _) _).grown hgrow (by simp) (fun jj ej => ?_)⟩
  simp [Value.ownBlock, go_sem] at ej
  omega
theorem same_any (w : World) (g1 g2 n c1 c2 : Nat) (m : Nat → Int) (hn : n ≤ 512) (h1 : ∀ j, j < n → w.cell? ⟨g1, j, none⟩ = some (.int .i64 (m j))) (h2 : ∀ j, j < n → w.cell? ⟨g2, j, none⟩ = some (.int .i64 (m j))) :
    Calls Try.prog 14 #[.slice (some ⟨g1, 0, none⟩) n c1, .slice (some ⟨g2, 0, none⟩) n c2] w fun e w' => e = .returned (.bool true) ∧ Below w.heap.size w w' := by
  have H1 := Lib.hid h1
  have H2 := Lib.hid h2
  clear h1 h2
  go_enter Try.func14, Try.ntmps14
  go_wp2
  go_loopw [5] (fun i wr => ∃ k q : Nat, k ≤ n ∧ i = .int .i64 k ∧ wr = w.drewN q) (fun i _ => n - (intOf i).toNat)
  case atStart => exact ⟨0, 0, by omega, rfl, rfl⟩
  case round =>
    obtain ⟨k, q, hk, rfl, rfl⟩ := hrel
    by_cases hlt : k < n
    · have hlt' : (k : Int) < n := by omega
      have d1 := H1.out k hlt
      have d2 := H2.out k hlt
      go_wp2
      go_quiet (fail)
      all_goals go_wp2
      all_goals go_roundw
      case rel => exact ⟨k + 1, _, by omega, by go_num, by first | rfl | simp⟩
      case measure => simp [intOf]; omega
    · obtain rfl : k = n := by omega
      go_wp2
      go_ret
      exact ⟨rfl, below_drewN (Below.refl _ _) _⟩
theorem Below.of_drew' {W W' : World} (h : Below W.drew.heap.size W.drew W') : Below W.heap.size W W' := ⟨h.os, h.tape, h.output, h.size, h.block⟩
set_option maxRecDepth 100000 in
set_option maxHeartbeats 1000000 in
theorem list_two (w : World) (b g c t cc B : Nat) (h : EndAt w b g c (some ⟨t, 0, none⟩) 2 cc true) (ho : w.ownsRow B 3 1 (.slice (some ⟨t, 0, none⟩) 2 cc) 2 [.int .i64 1, .int .i64 3]) :
    Calls Try.prog 22 #[.pointer (some ⟨b, 0, none⟩), .int .i64 6] w fun e w' => ∃ q cq, e = .returned (.tuple #[.slice (some ⟨q, 0, none⟩) 2 cq, .bool true]) ∧ q < w'.heap.size ∧ w'.cell? ⟨q, 0, none⟩ = some (.int .i64 1) ∧ w'.cell? ⟨q, 1, none⟩ = some (.int .i64 3) ∧ Below w.heap.size w w' := by
  obtain ⟨g', c', hv, hc1, hc2, hc3, hc4, -, hcs⟩ := own_form ho (by decide)
  simp only [Value.slice.injEq, Option.some.injEq, Addr.mk.injEq, and_true, true_and] at hv
  obtain ⟨rfl, rfl⟩ := hv
  have HCS := Lib.hid hcs
  have H := Lib.hid h
  have hlt := h.lt
  have HT := Lib.hid h.tab
  have HR := Lib.hid h.row
  clear h ho hcs
  go_enter Try.func22, Try.ntmps22
  go_wp2_with (first
    | (go_at_call 28; refine (get_one _ b g c _ _ _ _ hlt HT.out HR.out).mono ?_; rintro e w1 ⟨rfl, hb1⟩; have H1 := Lib.hid (H.out.call hb1); have HB1 := Lib.hid hb1; have x1 := H1.out.row.2.1; have x2 := H1.out.row.2.2.1; clear hb1))
  have hcl : ∀ W, Below w1.heap.size w1 W → Calls Try.prog 32 #[.slice (some ⟨t, 0, none⟩) 2 cc] W fun e w' => ∃ v, e = .returned v ∧ w'.ownsRow W.heap.size 3 1 v 2 [.int .i64 1, .int .i64 3] ∧ Below W.heap.size W w' := fun W hW =>
    clone_w W t 0 2 cc _ rfl (by decide) (by decide) (Nat.lt_of_lt_of_le (Nat.lt_of_lt_of_le hc4 HB1.out.size) hW.size) (fun j u hj => by rw [Nat.zero_add]; exact ((bgo HB1.out hW).cell (p := ⟨t, j, none⟩) hc4).trans (HCS.out j u hj)) (by simp [Value.oneCell'])
  have HCL := Lib.hid hcl
  clear hcl
  go_region_with (first | (go_at_call 32; refine (HCL.out _ (by first | exact (Below.refl _ _).drew | exact Below.refl _ _)).mono ?_; rintro e w3 ⟨v3, rfl, hown3, hb3⟩; have HO3 := Lib.hid hown3; obtain ⟨q, cq, rfl, -, -, hq3, hq4, -, hq6⟩ := own_form hown3 (by decide); have k0 := hq6 0 _ rfl; have k1 := hq6 1 _ rfl; have H3 := Lib.hid (H1.out.call (Below.of_drew' hb3)); have x3 := H3.out.row.2.1; have x4 := H3.out.row.2.2.1; clear hown3 hq6))
  all_goals go_wp2
  all_goals go_ret2
  all_goals exact ⟨q, cq, rfl, hq4, k0, k1, by first | exact bgo HB1.out (Below.of_drew' hb3) | exact (bgo HB1.out (Below.of_drew' hb3)).drew⟩
theorem end_new (W : World) : (W.alloc (.cells #[.slice none 0 0] 59)).cell? ⟨W.heap.size, 0, none⟩ = some (.slice none 0 0) ∧ (W.alloc (.cells #[.slice none 0 0] 59)).frozen? ⟨W.heap.size, 0, none⟩ = false := by
  constructor <;> go_simp
end Go.Proofs.Ytmbjaemflmbljaa
