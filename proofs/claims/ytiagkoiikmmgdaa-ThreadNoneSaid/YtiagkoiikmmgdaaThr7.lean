/- The records of threads: Get of the first. -/
import Derived.Test.YtiagkoiikmmgdaaThr6
namespace Go.Proofs.Ytiagkoiikmmgdaa
set_option linter.unusedVariables false
set_option linter.unusedSimpArgs false
open Go.ChangeShapes Go.WideShapes Go.ChangeAt Go.RowKit Go.Shelf

def z24 : Array Value := #[i0', i0', i0', u0, u0, u0, u0, u0, b0, i0', i0', u0, u0, u0, u0, u0, i0', i0', b0, b0, b0, b0, u0, u0]
def t24 : Array Value := #[.int .i64 4, i0', i0', u0, u0, u0, u0, u0, b0, i0', i0', u0, u0, u0, u0, u0, .int .i64 4096, .int .i64 4096, b0, b0, b0, b0, u0, u0]
theorem setRow_other (w : World) (g k : Nat) (cs : Array Value) (h : k ≠ g) : (w.setRow g cs).heap[k]? = w.heap[k]? := by
  simp only [World.setRow, Array.getElem?_modify]
  rw [if_neg (fun e => h e.symm)]
theorem belowRow {B g : Nat} {w0 w : World} (hb : Below B w0 w) (hg : B ≤ g) (cs : Array Value) : Below B w0 (w.setRow g cs) :=
  ⟨hb.os, hb.tape, hb.output, by simp; exact hb.size, fun k hk => (setRow_other w g k cs (by omega)).trans (hb.block k hk)⟩
attribute [-go_sem] loadVar
theorem t24_one : t24.all (·.oneCell') = true := by decide +kernel
set_option maxRecDepth 100000 in
set_option maxHeartbeats 1000000 in
theorem tget_one (w : World) (b : Nat) (hb : b < w.heap.size) (h : OneAt w b) :
    Calls Try.prog 17 #[.pointer (some ⟨b, 0, none⟩), .int .i64 4] w fun e w' => e = .returned (.tuple #[.agg t24, .bool true]) ∧ Below w.heap.size w w' := by
  obtain ⟨g, c, hc, hg, hr⟩ := h
  have HR := Lib.hid hr
  clear hr
  go_enter Try.func17, Try.ntmps17
  have hget : Calls Try.prog 28 #[.pointer (some ⟨b, 0, none⟩), .int .i64 4] (w.alloc (.cells z24 35)) fun e w' => e = .returned (.tuple #[.pointer (some ⟨g, 1, none⟩), .bool true]) ∧ Below w.heap.size w w' ∧ w'.heap[w.heap.size]? = some (.cells z24 35 (0, 0)) ∧ w.heap.size < w'.heap.size := by
    have hk : Below w.heap.size w (w.alloc (.cells z24 35)) := bal (Below.refl _ _) _
    refine (get_one _ b g c (by simp; omega) (by simp; omega) ((hk.cell (p := ⟨b, 0, none⟩) hb).trans hc) (fun j v hj => (hk.cell (p := ⟨g, j, none⟩) hg).trans (HR.out j v hj))).mono ?_
    rintro e w1 ⟨he, hb1⟩
    have := hb1.size
    simp at this
    exact ⟨he, hk.trans (hb1.mono (by simp)), (hb1.block w.heap.size (by simp)).trans (World.alloc_heap_new w _), by omega⟩
  have HG := Lib.hid hget
  clear hget
  go_wp2_with (first
    | (refine wpList_load_list (by first | rfl | simp [Region.wanted, yielded]) 35 _ rfl ⟨g, 1, none⟩ rfl t24.toList (fun j v hj => by rw [Addr.add_mid]; rw [(HB.out.cell (p := ⟨g, 1 + j, none⟩) hg)]; exact HR.out (1 + j) v (by rw [Nat.add_comm]; exact hj)) _ Try.underlying35 rfl (by kernel_rfl) ?_)
    | (refine wpList_store_row rfl 35 _ _ rfl w.heap.size t24 rfl rfl _ _ HK.out (by kernel_rfl) rfl t24_one ?_)
    | (go_at_call 28; refine HG.out.mono ?_; rintro e w1 ⟨rfl, hb1, hk1, hz1⟩; have HB := Lib.hid hb1; have HK := Lib.hid hk1; clear hk1 hb1))
  have hl : (loadVar 35 ⟨w.heap.size, 0, none⟩).run Try.prog (w1.setRow w.heap.size t24) = .ok (.agg t24) (w1.setRow w.heap.size t24) := run_loadVar_row _ _ _ _ _ _ _ (setRow_heap _ _ _ _ _ _ HK.out) Try.underlying35 rfl (by kernel_rfl)
  exact bodyPost_ret (v := .tuple #[.agg t24, .bool true]) (by simp [results, Try.results17, go_sem, asAddr, hl]) rfl ⟨rfl, belowRow HB.out (Nat.le_refl _) _⟩
end Go.Proofs.Ytiagkoiikmmgdaa
