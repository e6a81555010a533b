/- chapter 35: a line split at its spaces, by the package. -/
import Derived.Test.YthgmanncmekeeaaDoorScQ
namespace Go.Proofs.YthgmanncmekeeaaDoor
set_option linter.unusedVariables false
set_option linter.unusedSimpArgs false
open Go.ChangeShapes Go.WideShapes Go.ChangeAt Go.RowKit Go.Shelf
attribute [-go_sem] binOp_string_add binOp_string_eql binOp_string_neq run_index_string
attribute [local go_sem] Sc.bs_size
namespace Sc
def strV (x : Bs) : Value := .string (bs x)
theorem splitB_spl (l : Bs) : (Lib.splitB (bs [32]) 0 (Lib.countB (bs l) (bs [32])) (bs l)).map Value.string = (spl 32 l).map strV := by
  have h := Lib.splitB_data (bs [32]) 0 (Lib.countB (bs l) (bs [32])) (bs l)
  have e : Lib.splitK (bs [32]).data.toList 0 (Lib.countB (bs l) (bs [32])) (bs l).data.toList = spl 32 l := split_spl 32 l.length l (Nat.le_refl _)
  rw [e] at h
  rw [← h, List.map_map]
  apply List.map_congr_left
  intro s _
  show Value.string s = Value.string (bs s.data.toList)
  rw [bs_data]
theorem infoStr : (Tryd.prog.info? 9).map (fun i => (i.zero, i.size, i.bytes)) = some (some (.string ByteArray.empty), 1, 16) := by kernel_rfl
theorem split_core (l : Bs) (hl : l.length ≤ 100000) (w : World) : Calls Tryd.prog 49 #[.string (bs l), .string (bs [32]), .int .i64 0, .int .i64 (-1)] w fun e w' => e = .returned (.slice (some ⟨w.heap.size, 0, none⟩) (spl 32 l).length (spl 32 l).length) ∧ w' = w.alloc (.cells ((spl 32 l).map strV).toArray 9) := by
  have hsz : (bs [32]).size = 1 := rfl
  have hle := Lib.countB_le (bs [32]) (by rw [hsz]; omega) (bs l).size (bs l) (Nat.le_refl _)
  have hlen := Lib.splitB_all (bs [32]) (by rw [hsz]; omega) 0 _ (bs l) rfl
  have h := Any.strings_genSplit_core Tryd.lays221 infoStr (bs l) (bs [32]) 0 (-1) (Lib.countB (bs l) (bs [32]) + 1) w (by rw [bs_size]; omega) (by rw [hsz]; omega) (Nat.zero_le _)
    (fun x c _ => by
      have := Any.strings_Index_one Tryd.lays143 x 32 (w.alloc (.cells c 9))
      rw [← Lib.index_one] at this
      exact this)
    (by
      have := Any.strings_Count_one Tryd.lays138 (bs l) 32 w
      have e : Lib.countByte (bs l).data.toList 32 = Lib.countB (bs l) (bs [32]) := (Lib.count_one 32 _).symm
      rw [e] at this
      exact this)
    (by decide) (by decide) (by rw [if_pos (by decide)]; omega)
  rw [Nat.add_sub_cancel, hlen] at h
  have e2 : Lib.cellsOf (Lib.splitB (bs [32]) 0 (Lib.countB (bs l) (bs [32])) (bs l)) (Lib.countB (bs l) (bs [32]) + 1) = ((spl 32 l).map strV).toArray := by
    rw [← splitB_spl]
    have := Lib.cellsOf_full (Lib.splitB (bs [32]) 0 (Lib.countB (bs l) (bs [32])) (bs l))
    rw [hlen] at this
    exact this
  have e3 : Lib.countB (bs l) (bs [32]) + 1 = (spl 32 l).length := by
    rw [← hlen]
    have := congrArg List.length (splitB_spl l)
    simpa using this
  rw [e2, e3] at h
  exact h
set_option maxRecDepth 100000 in
theorem split_any (l : Bs) (hl : l.length ≤ 100000) (w : World) : Calls Tryd.prog 38 #[.string (bs l), .string (bs [32])] w fun e w' => e = .returned (.slice (some ⟨w.heap.size, 0, none⟩) (spl 32 l).length (spl 32 l).length) ∧ w' = w.alloc (.cells ((spl 32 l).map strV).toArray 9) := by
  have HC := Lib.hid (split_core l hl w)
  obtain ⟨n, hn⟩ : ∃ n, n = (spl 32 l).length := ⟨_, rfl⟩
  rw [← hn] at HC ⊢
  clear hn
  go_enter Tryd.func38, Tryd.ntmps38
  go_wp2_with (go_at_call 49; (with_reducible refine HC.out.mono ?_); rintro e w2 ⟨rfl, rfl⟩)
  go_ret
  exact ⟨rfl, rfl⟩
end Sc
end Go.Proofs.YthgmanncmekeeaaDoor
