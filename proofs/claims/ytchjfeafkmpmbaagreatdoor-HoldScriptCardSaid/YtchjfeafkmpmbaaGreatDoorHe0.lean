import Derived.Test.YtchjfeafkmpmbaaGreatDoorQku
import Derived.Test.YtchjfeafkmpmbaaGreatDoorQkd
namespace Go.Proofs.YtchjfeafkmpmbaaGreatDoor
set_option linter.unusedVariables false
set_option linter.unusedSimpArgs false
set_option maxRecDepth 100000
set_option maxHeartbeats 8000000
open Go.ChangeShapes Go.WideShapes Go.ChangeAt Go.RowKit Go.Shelf
namespace HdS
variable {W w w' : World} {s : Sh} {hb rhb n n' t : Nat}
def Acts18 (w : World) (p : Option Addr) (n : Nat) (D : Nat → A18) : Prop :=
 ∃ b off, (0 < n → p = some ⟨b, off, none⟩ ∧ b < w.heap.size) ∧ ∀ k, k < n → w.rangeAt b (off + k * 15) (D k).row ∧ (D k).Ok
theorem wf_U {n : Int} (h : (Lit.int .u64 n).wf = true) : 0 ≤ n ∧ n.toNat < 2 ^ 64 := by
 have e1 : IntKind.u64.min = 0 := by decide
 have e2 : IntKind.u64.max = 18446744073709551615 := by decide
 simp only [Lit.wf, e1, e2, Bool.and_eq_true, decide_eq_true_eq] at h
 omega
end HdS
theorem open_s22 {H : Type} {enc : TypeId × Value → H} {W : World} {base : Nat} {v : Value} {d : DataW H} {ps : List MemPlace} (hval : Value.okWide Tryz.prog W .any base 22 v) (hd : DataW.Trod enc Tryz.prog W 0 (fun _ => true) true 22 v d ps) :
  ∃ p n c, v = .slice p n c ∧ n ≤ c ∧ c ≤ maxLen ∧ ∃ D, HdS.Acts18 W p n D := by
 obtain ⟨p, n, c, rfl, h1, h2, b, off, h3, h4⟩ := open_rows (C := 15) Tryz.underlying22 (by kernel_rfl) (by kernel_rfl) (by decide) hval hd
 refine ⟨p, n, c, rfl, h1, h2, fun k => ⟨intAt W b (off + (k * 15 + 0)), intAt W b (off + (k * 15 + 1)), intAt W b (off + (k * 15 + 2)), intAt W b (off + (k * 15 + 3)), intAt W b (off + (k * 15 + 4)), ⟨intAt W b (off + (k * 15 + 5)), intAt W b (off + (k * 15 + 6)), intAt W b (off + (k * 15 + 7)), intAt W b (off + (k * 15 + 8)), intAt W b (off + (k * 15 + 9)), intAt W b (off + (k * 15 + 10)), intAt W b (off + (k * 15 + 11)), intAt W b (off + (k * 15 + 12))⟩, intAt W b (off + (k * 15 + 13)), (intAt W b (off + (k * 15 + 14))).toNat⟩, b, off, h3, fun k hk => ?_⟩
 obtain ⟨c0, o0⟩ := h4 k hk 0 (.i .i64) (by kernel_rfl)
 obtain ⟨c1, o1⟩ := h4 k hk 1 (.i .i64) (by kernel_rfl)
 obtain ⟨c2, o2⟩ := h4 k hk 2 (.i .i64) (by kernel_rfl)
 obtain ⟨c3, o3⟩ := h4 k hk 3 (.i .i64) (by kernel_rfl)
 obtain ⟨c4, o4⟩ := h4 k hk 4 (.i .i64) (by kernel_rfl)
 obtain ⟨c5, o5⟩ := h4 k hk 5 (.i .i64) (by kernel_rfl)
 obtain ⟨c6, o6⟩ := h4 k hk 6 (.i .i64) (by kernel_rfl)
 obtain ⟨c7, o7⟩ := h4 k hk 7 (.i .i64) (by kernel_rfl)
 obtain ⟨c8, o8⟩ := h4 k hk 8 (.i .u64) (by kernel_rfl)
 obtain ⟨c9, o9⟩ := h4 k hk 9 (.i .i64) (by kernel_rfl)
 obtain ⟨c10, o10⟩ := h4 k hk 10 (.i .i64) (by kernel_rfl)
 obtain ⟨c11, o11⟩ := h4 k hk 11 (.i .i64) (by kernel_rfl)
 obtain ⟨c12, o12⟩ := h4 k hk 12 (.i .i64) (by kernel_rfl)
 obtain ⟨c13, o13⟩ := h4 k hk 13 (.i .i64) (by kernel_rfl)
 obtain ⟨c14, o14⟩ := h4 k hk 14 (.i .u64) (by kernel_rfl)
 have hu := HdS.wf_U o14
 have c14' : W.cell? ⟨b, off + (k * 15 + 14), none⟩ = some (.int .u64 ((intAt W b (off + (k * 15 + 14))).toNat : Int)) := by rw [Int.toNat_of_nonneg hu.1]; exact c14
 exact ⟨TabS.range_cons c0 (TabS.range_cons c1 (TabS.range_cons c2 (TabS.range_cons c3 (TabS.range_cons c4 (TabS.range_cons c5 (TabS.range_cons c6 (TabS.range_cons c7 (TabS.range_cons c8 (TabS.range_cons c9 (TabS.range_cons c10 (TabS.range_cons c11 (TabS.range_cons c12 (TabS.range_cons c13 (TabS.range_cons c14' (TabS.range_nil _ _ _))))))))))))))), TabS.wf_S o1, TabS.wf_S o2, TabS.wf_S o3, TabS.wf_S o4, (TabS.wf_S o9).2, hu.2⟩
namespace HdS
variable {W w w' : World} {s : Sh} {hb rhb n n' t : Nat}
end HdS
end Go.Proofs.YtchjfeafkmpmbaaGreatDoor
