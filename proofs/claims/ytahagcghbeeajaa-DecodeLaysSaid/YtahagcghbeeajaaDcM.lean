/- Chapter 28's own answer: order of a retype; its forms, its fits. -/
import Derived.Test.YtahagcghbeeajaaDcL
namespace Go.Proofs.Ytahagcghbeeajaa
set_option linter.unusedVariables false
set_option linter.unusedSimpArgs false
open Go.ChangeShapes Go.WideShapes Go.ChangeAt Go.RowKit Go.Shelf

def oR (a : Nat → Int) : Nat → Int := up (up (up (up (up (o0 1) 1 (wrap64 (a 0))) 2 (wrap64 (a 3))) 4 (wrap64 (a 1))) 5 (wrap64 (a 2))) 6 (wrap64 (wrap64 (a 4) + wrap64 (16 * wrap64 (a 5))))
theorem OrdI.drew {w wr : World} {B : Nat} {n : Int} {a o : Nat → Int} (h : OrdI w wr B n a o) : OrdI w wr.drew B n a o := ⟨h.cal, h.res, h.ord, h.bel.drew⟩
set_option maxRecDepth 100000 in
set_option maxHeartbeats 4000000 in
theorem order_ret (a : Nat → Int) (S : ByteArray) (w : World) :
    Calls Try.prog 21 #[.agg (callA 1 a), .string S] w fun e w' => e = .returned (ordV (oR a)) ∧ Below w.heap.size w w' := by
  have hz : ∀ w, (zeroValue 29).run Try.prog w = .ok (.agg #[.int .i64 0, .int .i64 0, .int .i64 0, .int .i64 0, .int .i64 0, .int .i64 0, .int .i64 0, .int .u64 0, .int .u64 0, .int .u64 0, .int .u64 0, .int .u64 0]) w := zeroOrd
  have hc0 : (callA 1 a)[0]? = some (.int .u64 1) := rfl
  go_enter Try.func21, Try.ntmps21
  go_upto_region 3 with fail
  obtain ⟨B, hB⟩ : ∃ B, w.heap.size = B := ⟨_, rfl⟩
  rw [lit_o1]
  have hI := ordI_new w 1 a B hB
  generalize (((w.alloc (.cells (callA 1 a) 25)).alloc (.cells #[.int .i64 0, .int .i64 0, .int .i64 0, .int .i64 0, .int .i64 0, .int .i64 0, .int .i64 0, .int .u64 0, .int .u64 0, .int .u64 0, .int .u64 0, .int .u64 0] 29)).alloc (.cells (ordA (o0 1)) 29)) = w2 at hI ⊢
  rw [hB]
  obtain ⟨oo, hoo⟩ : ∃ x, o0 1 = x := ⟨_, rfl⟩
  have HOO := Lib.hid hoo
  rw [hoo] at hI ⊢
  clear hoo
  have HI := Lib.hid hI
  obtain ⟨c0, c1, c2, c3, c4, c5, c6, c7, c8, c9, c10, c11⟩ := hI.ord.cells
  obtain ⟨x0, x1, x2, x3, x4, x5, x6⟩ := hI.cal.cells
  have hfz := hI.ord.free
  clear hI
  go_region
  have h3 := ((HI.out.step (o' := up oo 1 (wrap64 (a 0))) 1 (.int .i64 (wrap64 (a 0))) rfl (by omega)).step (o' := up (up oo 1 (wrap64 (a 0))) 2 (wrap64 (a 3))) 2 (.int .i64 (wrap64 (a 3))) rfl (by omega)).drew
  generalize ((w2.setCell ⟨B + 1 + 1, 1, none⟩ (.int .i64 (wrap64 (a 0)))).setCell ⟨B + 1 + 1, 2, none⟩ (.int .i64 (wrap64 (a 3)))).drew = w3 at h3 ⊢
  obtain ⟨o3, ho3⟩ : ∃ x, up (up oo 1 (wrap64 (a 0))) 2 (wrap64 (a 3)) = x := ⟨_, rfl⟩
  rw [ho3] at h3
  have HO3 := Lib.hid ho3
  have H3 := Lib.hid h3
  clear c0 c1 c2 c3 c4 c5 c6 c7 c8 c9 c10 c11 x0 x1 x2 x3 x4 x5 x6 hfz ho3 HI
  obtain ⟨c0, c1, c2, c3, c4, c5, c6, c7, c8, c9, c10, c11⟩ := h3.ord.cells
  obtain ⟨x0, x1, x2, x3, x4, x5, x6⟩ := h3.cal.cells
  have hfz := h3.ord.free
  clear h3
  go_upto_region 5 with fail
  have h4 := ((H3.out.step (o' := up o3 4 (wrap64 (a 1))) 4 (.int .i64 (wrap64 (a 1))) rfl (by omega)).step (o' := up (up o3 4 (wrap64 (a 1))) 5 (wrap64 (a 2))) 5 (.int .i64 (wrap64 (a 2))) rfl (by omega)).step (o' := up (up (up o3 4 (wrap64 (a 1))) 5 (wrap64 (a 2))) 6 (wrap64 (wrap64 (a 4) + wrap64 (16 * wrap64 (a 5))))) 6 (.int .i64 (wrap64 (wrap64 (a 4) + wrap64 (16 * wrap64 (a 5))))) rfl (by omega)
  generalize ((w3.setCell ⟨B + 1 + 1, 4, none⟩ (.int .i64 (wrap64 (a 1)))).setCell ⟨B + 1 + 1, 5, none⟩ (.int .i64 (wrap64 (a 2)))).setCell ⟨B + 1 + 1, 6, none⟩ (.int .i64 (wrap64 (wrap64 (a 4) + wrap64 (16 * wrap64 (a 5))))) = w4 at h4 ⊢
  have hoR : up (up (up o3 4 (wrap64 (a 1))) 5 (wrap64 (a 2))) 6 (wrap64 (wrap64 (a 4) + wrap64 (16 * wrap64 (a 5)))) = oR a := by unfold oR; rw [← HO3.out, HOO.out]
  rw [hoR] at h4
  obtain ⟨o, ho⟩ : ∃ x, oR a = x := ⟨_, rfl⟩
  rw [ho] at h4
  have HR := Lib.hid ho
  have HH := Lib.hid h4
  clear c0 c1 c2 c3 c4 c5 c6 c7 c8 c9 c10 c11 x0 x1 x2 x3 x4 x5 x6 hfz ho hoR h4 hz H3
  go_wp2_with (first
    | (refine wpList_load_mid rfl 29 (.tmp 5) rfl (B + 1 + 1) 0 rfl (ordA o).toList _ (ord_range HH.out.ord) Try.underlying29 rfl (by kernel_rfl) ?_; rw [Array.toArray_toList])
    | (refine wpList_store_mid rfl 29 (.tmp 4) (.tmp 47) rfl (B + 1) 0 (ordA o) rfl rfl HH.out.res.there (by kernel_rfl) (ord_one o) ?_; obtain ⟨ho2, hon⟩ := ord_put o HH.out.res; generalize w4.setCells (B + 1) 0 (ordA o).toList = w5 at ho2 hon ⊢))
  obtain ⟨z0, z1, z2, z3, z4, z5, z6, z7, z8, z9, z10, z11⟩ := ho2.cells
  refine bodyPost_ret (v := ordV o) (by simp [results, Try.results21, go_sem, ordA, z0, z1, z2, z3, z4, z5, z6, z7, z8, z9, z10, z11]) rfl ⟨by rw [HR.out], ?_⟩
  exact (HH.out.bel.trans (hon.below (by omega) HH.out.bel.size))
end Go.Proofs.Ytahagcghbeeajaa
