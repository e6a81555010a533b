/- A table by whole numbers, of any number of rows: slices.Insert of one row. -/
import Derived.Test.YtplanbihejodoaaDoorTab2S
import Derived.Laws.Externs
namespace Go.Proofs.YtplanbihejodoaaDoor
set_option linter.unusedVariables false
set_option linter.unusedSimpArgs false
open Go.ChangeShapes Go.WideShapes Go.ChangeAt Go.RowKit

namespace TabS
/-- What an Insert leaves. -/
def InsPost (w w' : World) (base : Nat) (v v' : Value) (R' : List Rw) : Prop :=
  w'.ownsRow base 86 2 v' R'.length (flat R') ∧ w.grownBy w' v.ownBlock ∧ (v'.ownBlock = v.ownBlock ∨ ∃ g, v'.ownBlock = some g ∧ w.heap.size ≤ g)
theorem mul_bytes {n : Nat} (h : n ≤ 1000001) : n * 32 ≤ 140737488355328 := by omega
set_option maxRecDepth 100000 in
set_option maxHeartbeats 2000000 in
theorem ins_end (w : World) (base : Nat) (v : Value) (R : List Rw) (r : Rw) (nb : Nat) (hw : Wide 2 R) (hr : Wide 2 [r]) (hl : R.length ≤ 1000000) (hown : w.ownsRow base 86 2 v R.length (flat R)) (hb : base ≤ w.heap.size)
    (hn : w.heap[nb]? = some (.cells (rcells r).toArray 86 (0, 0))) :
    Calls Tryd.prog 39 #[v, .int .i64 (R.length : Nat), .slice (some ⟨nb, 0, none⟩) 1 1] w fun e w' => ∃ v', e = .returned v' ∧ InsPost w w' base v v' (R ++ [r]) := by
  obtain ⟨i0, hi, hz0, hz1, hz2⟩ := info_parts infoR
  have hlr : (rcells r).length = 1 * 2 := by rw [(hr r (by simp)).1]
  have h1 : ∀ u ∈ rcells r, u.oneCell' = true := (hr r (by simp)).2
  have hcs := add_cells (w := w) (g := nb) (cs := rcells r) (fun j u hj => by rw [cell_cur hn]; exact hj)
  have e1 : flat (R ++ [r]) = flat R ++ rcells r := by rw [flat_append, flat_cons, flat_nil, List.append_nil]
  have e2 : (R ++ [r]).length = R.length + 1 := by simp
  unfold InsPost
  rw [e1, e2]
  have HI := Lib.hid hi
  have HO := Lib.hid hown
  have HL := Lib.hid hlr
  have H1 := Lib.hid h1
  have HC := Lib.hid hcs
  have hform := hown.2
  generalize flat R = xs at HO hform ⊢
  clear hi hlr h1 hcs hown e1 e2 hw hr hn
  generalize R.length = n at *
  rcases hform with ⟨rfl, rfl⟩ | ⟨g, cap, cur, rfl, q1, q2, q3, q4, q5, q6⟩
  · go_enter Tryd.func39, Tryd.ntmps39
    go_wp2_with (at_builtin; refine wpList_append_at rfl _ _ 59 rfl base 86 i0 (.agg #[.int .i64 0, .slice none 0 0]) 2 32 Tryd.underlying59 HI.out hz0 hz1 hz2 rfl (by decide) (.slice none 0 0) 0 xs rfl HO.out ⟨nb, 0, none⟩ 1 1 (rcells r) rfl HL.out HC.out H1.out (by unfold maxLen; omega) (mul_bytes (by omega)) hb ?_; intro v' w1 hown' hgrow hat)
    go_ret
    exact ⟨v', rfl, hown', hgrow, hat.imp id (fun h => ⟨_, h, Nat.le_refl _⟩)⟩
  · clear q2 q5 q6
    go_enter Tryd.func39, Tryd.ntmps39
    go_wp2_with (at_builtin; refine wpList_append_at rfl _ _ 59 rfl base 86 i0 (.agg #[.int .i64 0, .slice none 0 0]) 2 32 Tryd.underlying59 HI.out hz0 hz1 hz2 rfl (by decide) (.slice (some ⟨g, 0, none⟩) n cap) n xs rfl HO.out ⟨nb, 0, none⟩ 1 1 (rcells r) rfl HL.out HC.out H1.out (by unfold maxLen; omega) (mul_bytes (by omega)) hb ?_; intro v' w1 hown' hgrow hat)
    all_goals
      go_ret
      exact ⟨v', rfl, hown', hgrow, hat.imp id (fun h => ⟨_, h, Nat.le_refl _⟩)⟩
end TabS
end Go.Proofs.YtplanbihejodoaaDoor
