/- The law TlbNone. -/
import Derived.Test.YtimgiplcejcaaaaTlbV
import Derived.Outline
namespace Go.Proofs.Ytimgiplcejcaaaa
set_option linter.unusedVariables false
set_option linter.unusedSimpArgs false
open Go.ChangeShapes Go.WideShapes Go.ChangeAt Go.RowKit

abbrev S0 : Nat → TransX × TransX × Int := fun _ => (zT, zT, 0)
theorem frozen_new (W : World) (cs : Array Value) (t : TypeId) (j : Nat) : (W.alloc (.cells cs t)).frozen? ⟨W.heap.size, j, none⟩ = false := by
  have h := World.alloc_heap_new W (.cells cs t)
  unfold World.frozen?
  rw [h]
  simp
theorem tlbAt_new (W : World) : TlbAt (W.alloc (.cells #[.int .i64 0, .int .i64 0, .int .i64 0, .bool false, .bool false, .int .i64 0, .int .i64 0, .int .i64 0, .bool false, .bool false, .int .i64 0, .int .i64 0, .int .i64 0, .int .i64 0, .bool false, .bool false, .int .i64 0, .int .i64 0, .int .i64 0, .bool false, .bool false, .int .i64 0, .int .i64 0, .int .i64 0, .int .i64 0, .bool false, .bool false, .int .i64 0, .int .i64 0, .int .i64 0, .bool false, .bool false, .int .i64 0, .int .i64 0, .int .i64 0, .int .i64 0, .bool false, .bool false, .int .i64 0, .int .i64 0, .int .i64 0, .bool false, .bool false, .int .i64 0] 61)) W.heap.size S0 := by
  refine ⟨fun i hi => ?_, fun j => ?_, by simp⟩
  · obtain rfl | rfl | rfl | rfl : i = 0 ∨ i = 1 ∨ i = 2 ∨ i = 3 := by omega
    all_goals
      refine ⟨⟨?_, ?_, ?_, ?_, ?_⟩, ⟨?_, ?_, ?_, ?_, ?_⟩, ?_⟩
      all_goals simp [go_sem]
  · exact frozen_new _ _ _ _
theorem okS0 : ∀ i, i < 4 → SetOk (S0 i) := fun i _ => ⟨.inl rfl, .inl rfl, .inl rfl⟩
theorem TlbOnly.cell {b : Nat} {w w' : World} {k j : Nat} {v : Option Value} (h : TlbOnly b w w') (hk : k < w.heap.size) (hn : k ≠ b) (q : w.cell? ⟨k, j, none⟩ = v) : w'.cell? ⟨k, j, none⟩ = v := by
  have e := h.block k hk hn
  unfold World.cell? at q ⊢
  simp only [e]
  exact q
theorem fill_0 : setS S0 (setNo 4) (fillR (S0 (setNo 4)).1 (S0 (setNo 4)).2.1 (S0 (setNo 4)).2.2 ⟨1, 4, 2, true, false⟩) = setS S0 0 (⟨1, 4, 2, true, false⟩, zT, 0) :=
  congrArg (setS S0 0) (by decide +kernel : fillR zT zT 0 ⟨1, 4, 2, true, false⟩ = (⟨1, 4, 2, true, false⟩, zT, 0))
set_option maxRecDepth 100000 in
set_option maxHeartbeats 2000000 in
theorem awake6 (W : World) : Calls Try.prog 9 #[] W fun e w' => e = .returned (.bool true) ∧ Below W.heap.size W w' := by
  have ht := Lib.hid (tlbAt_new W)
  go_enter Try.func9, Try.ntmps9
  go_wp2_with (first
    | (go_at_call 10; go_in)
    | (go_at_call 12; refine (tfill_yes _ W.heap.size S0 1 4 2 true false (ht.out.call (bal (Below.refl _ _) _)) okS0 (by decide) (by decide) (by decide) (by decide) (by decide) (.inl rfl)).mono ?_; rw [fill_0]; rintro e w1 ⟨rfl, ht1, ho1⟩; have HT1 := Lib.hid ht1; clear ht1; have g1 : W.heap.size + 1 < w1.heap.size := (by have := ho1.size; simp at this; omega); have y0 : w1.cell? ⟨W.heap.size + 1, 0, none⟩ = some (.int .i64 1) := ho1.cell (by simp) (by simp) (by simp); have y1 : w1.cell? ⟨W.heap.size + 1, 1, none⟩ = some (.int .i64 4) := ho1.cell (by simp) (by simp) (by simp); have y2 : w1.cell? ⟨W.heap.size + 1, 2, none⟩ = some (.int .i64 2) := ho1.cell (by simp) (by simp) (by simp); have y3 : w1.cell? ⟨W.heap.size + 1, 3, none⟩ = some (.bool true) := ho1.cell (by simp) (by simp) (by simp); have y4 : w1.cell? ⟨W.heap.size + 1, 4, none⟩ = some (.bool false) := ho1.cell (by simp) (by simp) (by simp); have B1 : Below W.heap.size W w1 := (bal (bal (Below.refl _ _) _) _).trans (ho1.below (Nat.le_refl _) (by simp; omega)))
    | (go_at_call 14; refine (tfind_0 _ W.heap.size 0 _ 1 4 1 4 2 true false 0 0 0 false false 0 HT1.out (by decide) (by decide) (by decide) rfl rfl (by decide +kernel)).mono ?_; rintro e w2 ⟨rfl, hb2⟩; have HT2 := Lib.hid (HT1.out.call hb2); obtain ⟨hc2, hf2⟩ := bcell hb2; have g2 : W.heap.size + 1 < w2.heap.size := (Nat.lt_of_lt_of_le g1 hb2.size); have B2 : Below W.heap.size W w2 := bgo B1 hb2)
    | (have _t := HT3; go_at_call 16; refine (evict_00n _ W.heap.size _ 0 0 0 false false zT 0 HT3.out rfl).mono ?_; rintro e w4 ⟨rfl, ht4, ho4⟩)
    | (go_at_call 16; refine (evict_00y _ W.heap.size _ 1 4 2 true false zT 0 (HT2.out.call (by repeat (first | with_reducible exact Below.refl _ _ | with_reducible assumption | with_reducible refine below_drewN ?_ _ | with_reducible refine Below.drew ?_ | with_reducible refine bal ?_ _))) rfl (by decide)).mono ?_; rintro e w3 ⟨rfl, ht3, ho3⟩; have HT3 := Lib.hid ht3; clear ht3))
  go_ret
  refine ⟨rfl, ?_⟩
  exact ((bal B2 _).trans (ho3.below (Nat.le_refl _) (by simp; omega))).trans (ho4.below (Nat.le_refl _) (Nat.lt_of_lt_of_le (by simp; omega) ho3.size))
end Go.Proofs.Ytimgiplcejcaaaa
