/- package phys: Words, New. -/
import Derived.Test.YtgfidbjhihignaaMem
import Derived.Deep.MidRow
import Derived.Lib.SliceRun
import Derived.StillTailTactics
import Derived.Deep.QuietTactic
import Derived.BigQuiet
import Derived.Maps.AppendAt
import Derived.Deep.RegionHeld3
namespace Go.Proofs.Ytgfidbjhihignaa
set_option linter.unusedVariables false
set_option linter.unusedSimpArgs false
open Go.ChangeShapes Go.WideShapes Go.ChangeAt Go.RowKit

open Go.Shelf
attribute [local go_sem] Oper.semAt_some
theorem add_from {w : World} {g o : Nat} {cs : List Value} (h : ∀ j u, cs[j]? = some u → w.cell? ⟨g, o + j, none⟩ = some u) : ∀ j u, cs[j]? = some u → w.cell? ((⟨g, o, none⟩ : Addr).add j) = some u := by
  intro j u hj
  have : ((⟨g, o, none⟩ : Addr).add j) = ⟨g, o + j, none⟩ := by unfold Addr.add; split <;> simp_all
  rw [this]
  exact h j u hj
/-- What a row of the call's own is, in full. -/
theorem own_form {B : Nat} {w : World} {e : TypeId} {size : Nat} {v : Value} {n : Nat} {xs : List Value} (h : w.ownsRow B e size v n xs) (h0 : 0 < n) : ∃ g c, v = .slice (some ⟨g, 0, none⟩) n c ∧ n ≤ c ∧ c ≤ maxLen ∧ B ≤ g ∧ g < w.heap.size ∧ (∀ j, w.frozen? ⟨g, j, none⟩ = false) ∧ ∀ j u, xs[j]? = some u → w.cell? ⟨g, j, none⟩ = some u := by
  have hlt := h.lt
  have hcs := fun g hg => h.cells (g := g) hg
  obtain ⟨hl, h | ⟨g, cap, cur, rfl, hg, hblk, h1, h2, h3, h4⟩⟩ := h
  · omega
  · refine ⟨g, cap, rfl, h1, h2, hg, (hlt g rfl).2, fun j => by simp [World.frozen?, hblk], fun j u hj => ?_⟩
    have := hcs g rfl j u hj
    have e : ((⟨g, 0, none⟩ : Addr).add j) = ⟨g, j, none⟩ := by unfold Addr.add; split <;> simp_all
    rwa [e] at this
theorem clone_w (w : World) (g o n c : Nat) (xs : List Value) (hl : xs.length = n) (hn : 0 < n) (hm : n ≤ 64) (hg : g < w.heap.size) (hc : ∀ j u, xs[j]? = some u → w.cell? ⟨g, o + j, none⟩ = some u) (h1 : ∀ u ∈ xs, u.oneCell' = true) :
    Calls Try.prog 46 #[.slice (some ⟨g, o, none⟩) n c] w fun e w' => ∃ v, e = .returned v ∧ w'.ownsRow w.heap.size 30 1 v n xs ∧ Below w.heap.size w w' := by
  obtain ⟨i0, hi, hz0, hz1, hz2⟩ := info_parts infoW
  have HI := Lib.hid hi
  have HC := Lib.hid hc
  have H1 := Lib.hid h1
  have HL := Lib.hid hl
  have hk : ∀ ob, ∀ j u, xs[j]? = some u → (w.alloc ob).cell? ⟨g, o + j, none⟩ = some u := fun ob j u hj => ((bal (Below.refl _ _) ob).cell (p := ⟨g, o + j, none⟩) hg).trans (hc j u hj)
  have HK := Lib.hid hk
  clear hi hc h1 hl hk
  have hq := fun w => Go.Lib.run_eql_slice_nil (P := Try.prog) w 63 30 (some ⟨g, o, none⟩) n c 0 0 Try.underlying63
  go_enter Try.func46, Try.ntmps46
  go_wp2_with (at_builtin; refine wpList_append_own _ rfl _ _ 63 rfl w.heap.size 30 i0 (.int .u64 0) 1 8 Try.underlying63 HI.out hz0 hz1 hz2 rfl (by decide) _ 0 [] rfl (World.ownsRow_made w #[] 0 (Nat.le_refl _) (by unfold maxLen; omega) rfl) ⟨g, o, none⟩ n c xs rfl (by rw [HL.out]; omega) (add_from (HK.out _)) H1.out (by unfold maxLen; omega) (by omega) (by simp) ?_; intro v' w1 hown' hgrow _)
  go_ret
  refine ⟨v', rfl, by simpa using hown', (bal (Below.refl _ _) _).grown hgrow (by simp) (fun jj ej => ?_)⟩
  simp [Value.ownBlock, go_sem] at ej
  omega
/-- The words of a frame; all words. -/
def wordsL (m : Nat → Int) (o n : Nat) : List Value := (List.range n).map fun j => .int .u64 (m (o + j))
theorem wordsL_len (m : Nat → Int) (o n : Nat) : (wordsL m o n).length = n := by simp [wordsL]
theorem wordsL_get (m : Nat → Int) (o n j : Nat) (u : Value) (h : (wordsL m o n)[j]? = some u) : j < n ∧ u = .int .u64 (m (o + j)) := by
  unfold wordsL at h
  rw [List.getElem?_map] at h
  cases hj : (List.range n)[j]? with
  | none => rw [hj] at h; simp at h
  | some x =>
    rw [hj] at h
    obtain ⟨h1, h2⟩ := List.getElem?_eq_some_iff.1 hj
    simp only [List.length_range] at h1
    simp only [List.getElem_range] at h2
    simp at h
    exact ⟨h1, by rw [← h, h2]⟩
theorem wordsL_at (m : Nat → Int) (o n j : Nat) (h : j < n) : (wordsL m o n)[j]? = some (.int .u64 (m (o + j))) := by
  unfold wordsL
  rw [List.getElem?_map, List.getElem?_range h]
  rfl
theorem wordsL_one (m : Nat → Int) (o n : Nat) : ∀ u ∈ wordsL m o n, u.oneCell' = true := by
  intro u hu
  unfold wordsL at hu
  obtain ⟨j, _, rfl⟩ := List.mem_map.1 hu
  rfl
theorem words_ok (w : World) (b g n c f : Nat) (m : Nat → Int) (h : MemAt w b g n c m) (hf : f < n) :
    Calls Try.prog 34 #[.pointer (some ⟨b, 0, none⟩), .int .i64 f] w fun e w' => ∃ v, e = .returned (.tuple #[v, .int .i64 0]) ∧ w'.ownsRow w.heap.size 30 1 v 8 (wordsL m (8 * f) 8) ∧ Below w.heap.size w w' := by
  have H := Lib.hid h
  have hd := h.hd
  have hn := h.n64
  have hcap := h.cap
  have hfn : (f : Int) < n := by omega
  have hcl := clone_w w g (f * 8) 8 8 (wordsL m (8 * f) 8) (wordsL_len _ _ _) (by decide) (by decide) h.lg (fun j u hj => by
    obtain ⟨a, rfl⟩ := wordsL_get _ _ _ _ _ hj
    rw [Nat.mul_comm f 8]
    exact h.cells _ (by omega)) (wordsL_one _ _ _)
  have HCL := Lib.hid hcl
  clear h hcl
  go_enter Try.func34, Try.ntmps34
  go_wp2_with (first
    | (go_at_call 45; refine (has_any _ b g n c m f true H.out (decide_eq_true ⟨by omega, hfn⟩)).mono ?_; rintro e w1 ⟨rfl, rfl⟩)
    | (go_at_call 46; refine HCL.out.mono ?_; rintro e w2 ⟨v, rfl, hr, hb⟩))
  refine bodyPost_ret (v := .tuple #[v, .int .i64 0]) (by simp [results, Try.results34, go_sem]) rfl ⟨v, rfl, hr, hb⟩
theorem words_bad (w : World) (b g n c : Nat) (f : Int) (m : Nat → Int) (h : MemAt w b g n c m) (hf : ¬ (0 ≤ f ∧ f < n)) :
    Calls Try.prog 34 #[.pointer (some ⟨b, 0, none⟩), .int .i64 f] w fun e w' => e = .returned (.tuple #[.slice none 0 0, .int .i64 3]) ∧ w = w' := by
  have H := Lib.hid h
  have HF := Lib.hid (decide_eq_false hf)
  clear h hf
  go_enter Try.func34, Try.ntmps34
  go_wp2_with (first
    | (go_at_call 45; refine (has_any _ b g n c m f false H.out HF.out).mono ?_; rintro e w1 ⟨rfl, rfl⟩))
  refine bodyPost_ret (v := .tuple #[.slice none 0 0, .int .i64 3]) (by simp [results, Try.results34, go_sem]) rfl ⟨rfl, rfl⟩
theorem mem_new {w w1 : World} {n : Nat} {v : Value} {m : Nat → Int} {B : Nat} (hr : w1.ownsRow B 95 8 v n (wordsL m 0 (8 * n))) (n1 : 1 ≤ n) (n64 : n ≤ 64) (hw : ∀ k, WordI (m k)) :
    ∃ g c, v = .slice (some ⟨g, 0, none⟩) n c ∧ B ≤ g ∧ g < w1.heap.size ∧ MemAt (w1.alloc (.cells #[.slice (some ⟨g, 0, none⟩) n c] 97)) w1.heap.size g n c m := by
  obtain ⟨g, c, rfl, hc, hm, hB, hg, hf, hcs⟩ := own_form hr (by omega)
  have hb : Below w1.heap.size w1 (w1.alloc (.cells #[.slice (some ⟨g, 0, none⟩) n c] 97)) := bal (Below.refl _ _) _
  refine ⟨g, c, rfl, hB, hg, by simp, fun k hk => ?_, fun k => (hb.frozen (p := ⟨g, k, none⟩) hg).trans (hf k), hw, n1, n64, hc, by omega, by simp, by simp; omega⟩
  refine (hb.cell (p := ⟨g, k, none⟩) hg).trans (hcs k _ ?_)
  rw [wordsL_at _ _ _ _ hk, Nat.zero_add]
theorem new_bad (w : World) (n : Int) (h : n < 1 ∨ 64 < n) :
    Calls Try.prog 23 #[.int .i64 n] w fun e w' => e = .returned (.tuple #[.pointer none, .int .i64 3]) ∧ w = w' := by
  have hd : (decide (n < 1) || decide (64 < n)) = true := by simp; omega
  go_enter Try.func23, Try.ntmps23
  go_wp2
  all_goals go_ret2
  all_goals exact ⟨rfl, rfl⟩
theorem zeros_words (n : Nat) : (madeCells (Value.agg #[.int .u64 0, .int .u64 0, .int .u64 0, .int .u64 0, .int .u64 0, .int .u64 0, .int .u64 0, .int .u64 0]).cells (n * 8)).toList = wordsL (fun _ => 0) 0 (8 * n) := by
  apply List.ext_getElem?
  intro j
  by_cases hj : j < n * 8
  · rw [wordsL_at _ _ _ _ (by omega), Array.getElem?_toList]
    unfold madeCells
    rw [Array.getElem?_map, Array.getElem?_range, if_pos hj]
    simp only [Option.map_some, Option.some.injEq]
    have h8 : j % 8 < 8 := Nat.mod_lt _ (by decide)
    have h : ∀ k, k < 8 → (#[Value.int .u64 0, .int .u64 0, .int .u64 0, .int .u64 0, .int .u64 0, .int .u64 0, .int .u64 0, .int .u64 0] : Array Value)[k]! = .int .u64 0 := by
      intro k hk
      obtain rfl | rfl | rfl | rfl | rfl | rfl | rfl | rfl : k = 0 ∨ k = 1 ∨ k = 2 ∨ k = 3 ∨ k = 4 ∨ k = 5 ∨ k = 6 ∨ k = 7 := by omega
      all_goals rfl
    exact h _ h8
  · rw [List.getElem?_eq_none (by simp [size_madeCells]; omega), List.getElem?_eq_none (by simp [wordsL_len]; omega)]
set_option maxRecDepth 100000 in
theorem new_ok (w : World) (n : Nat) (h1 : 1 ≤ n) (h64 : n ≤ 64) :
    Calls Try.prog 23 #[.int .i64 n] w fun e w' => ∃ b g c, e = .returned (.tuple #[.pointer (some ⟨b, 0, none⟩), .int .i64 0]) ∧ MemAt w' b g n c (fun _ => 0) ∧ w.heap.size ≤ b ∧ w.heap.size ≤ g ∧ Below w.heap.size w w' := by
  obtain ⟨i0, hi, hz0, hz1, hz2⟩ := info_parts infoFr
  obtain ⟨w1, hrun, hown, hgr⟩ := run_make_full (P := Try.prog) w w.heap.size 92 95 i0 _ 8 Try.underlying92 hi hz0 hz1 .i64 .i64 n (by rw [hz2]; omega) (by unfold maxLen; omega) (Nat.le_refl _)
  rw [zeros_words] at hown
  obtain ⟨g, c, hv, hg1, hg2, hma⟩ := mem_new (w := w) hown h1 h64 (fun _ => ⟨by decide, by decide⟩)
  simp only [Value.slice.injEq, Option.some.injEq, Addr.mk.injEq, and_true, true_and] at hv
  obtain ⟨rfl, rfl⟩ := hv
  have HMA := Lib.hid hma
  have HGR := Lib.hid hgr
  clear hma hgr hown hi hz0 hz1 hz2
  go_enter Try.func23, Try.ntmps23
  go_wp2
  go_ret2
  have hgs := HGR.out.size
  have hbb : Below w.heap.size w (w1.alloc (.cells #[.slice (some ⟨w.heap.size, 0, none⟩) n n] 97)) := ((Below.refl _ _).grown HGR.out (Nat.le_refl _) (fun j e => by cases e)).alloc HGR.out.size _
  first | exact ⟨_, _, _, rfl, HMA.out, by omega, Nat.le_refl _, hbb⟩ | exact ⟨_, ⟨_, HMA.out⟩, by omega, Nat.le_refl _, hbb⟩ | exact ⟨_, _, HMA.out, by omega, Nat.le_refl _, hbb⟩
end Go.Proofs.Ytgfidbjhihignaa
