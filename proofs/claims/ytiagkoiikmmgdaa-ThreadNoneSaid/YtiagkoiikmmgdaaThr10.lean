/- The records of threads: what every program answers that is one. -/
import Derived.Test.YtiagkoiikmmgdaaThr8
namespace Go.Proofs.Ytiagkoiikmmgdaa
set_option linter.unusedVariables false
set_option linter.unusedSimpArgs false
open Go.ChangeShapes Go.WideShapes Go.ChangeAt Go.RowKit Go.Shelf

theorem tget_v (w : World) (b : Nat) (hb : b < w.heap.size) (h : OneAt w b) :
    Calls Try.prog 17 #[.pointer (some ⟨b, 0, none⟩), .int .i64 4] w fun e w' => e = .returned (.tuple #[thrV 0 4096, .bool true]) ∧ Below w.heap.size w w' := tget_one w b hb h
set_option maxRecDepth 100000 in
theorem eqThr : ∀ w, (binOp .eql 35 (thrV 0 4096) (thrV 0 4096)).run Try.prog w = .ok (.bool true) w := fun _ => by kernel_rfl

theorem tnew_any (W : World) : Calls Try.prog 7 #[] W fun e w' => e = .returned (.pointer (some ⟨W.heap.size, 0, none⟩)) ∧ w' = W.alloc (.cells #[.slice none 0 0] 58) := by
  go_enter Try.func7, Try.ntmps7
  go_wp2
  go_ret
  exact ⟨rfl, rfl⟩
abbrev t24a : Array Value := #[.int .i64 4, .int .i64 0, .int .i64 0, .int .u64 0, .int .u64 0, .int .u64 0, .int .u64 0, .int .u64 0, .bool false, .int .i64 0, .int .i64 0, .int .u64 0, .int .u64 0, .int .u64 0, .int .u64 0, .int .u64 0, .int .i64 4096, .int .i64 4096, .bool false, .bool false, .bool false, .bool false, .int .u64 0, .int .u64 0]
abbrev t24l : List Value := [.int .i64 4, .int .i64 0, .int .i64 0, .int .u64 0, .int .u64 0, .int .u64 0, .int .u64 0, .int .u64 0, .bool false, .int .i64 0, .int .i64 0, .int .u64 0, .int .u64 0, .int .u64 0, .int .u64 0, .int .u64 0, .int .i64 4096, .int .i64 4096, .bool false, .bool false, .bool false, .bool false, .int .u64 0, .int .u64 0]
theorem newRow (W : World) (cs : Array Value) (t : TypeId) : ∀ j v, t24l[j]? = some v → ((W.alloc (.cells cs t)).setRow W.heap.size t24a).cell? ((⟨W.heap.size, 0, none⟩ : Addr).add j) = some v :=
  add_cells fun j v hj => (cell_of_row _ _ j t24a t (0, 0) (setRow_heap _ _ _ _ _ _ (World.alloc_heap_new W _))).trans (by simpa using hj)
theorem t24a_one : t24a.all (·.oneCell') = true := by decide +kernel
attribute [-go_sem] loadVar
set_option maxRecDepth 100000 in
set_option maxHeartbeats 1000000 in
theorem awake20 (W : World) : Calls Try.prog 6 #[] W fun e w' => e = .returned (.bool true) ∧ Below W.heap.size W w' := by
  have hq := eqThr
  go_enter Try.func6, Try.ntmps6
  go_wp2_with (first
    | (go_at_call 7; refine (tnew_any _).mono ?_; rintro e w1 ⟨rfl, rfl⟩)
    | (go_at_call 9; refine (tadd_first _ W.heap.size W.heap.size (Nat.le_refl _) (by simp) (by go_simp) (by go_simp)).mono ?_; rintro e w1 ⟨rfl, ha1, hz1, hb1⟩; have HA1 := Lib.hid ha1; clear ha1)
    | (go_at_call 17; refine (tget_v _ W.heap.size hz1 HA1.out).mono ?_; rintro e w2 ⟨rfl, hb2⟩; have ha2 := HA1.out.call hz1 hb2; have hz2 : W.heap.size < w2.heap.size := (Nat.lt_of_lt_of_le hz1 hb2.size); have HA2 := Lib.hid ha2; clear ha2)
    | (refine wpList_store_row rfl 35 _ _ rfl w2.heap.size t24a rfl rfl _ _ (World.alloc_heap_new w2 _) (by kernel_rfl) rfl t24a_one ?_)
    | (refine wpList_load_list (by first | rfl | simp [Region.wanted, yielded]) 35 (.tmp 2) rfl ⟨w2.heap.size, 0, none⟩ rfl t24l (newRow w2 _ _) _ Try.underlying35 rfl (by kernel_rfl) ?_)
    | (go_at_call 13; refine (tset_nine _ W.heap.size (by simp; omega) (HA2.out.call hz2 (belowRow (bal (Below.refl _ _) _) (Nat.le_refl _) _))).mono ?_; rintro e w3 ⟨rfl, hb3⟩))
  go_ret
  exact ⟨by simp, ((bal (Below.refl _ _) _).trans hb1).trans ((hb2.mono (by omega)).trans (((belowRow (bal (Below.refl _ _) _) (Nat.le_refl _) _).mono (by omega)).trans (hb3.mono (by simp; omega))))⟩
end Go.Proofs.Ytiagkoiikmmgdaa
