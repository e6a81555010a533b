import Derived.Test.YtchjfeafkmpmbaaGreatDoorRows
import Derived.Lib.LaidTab
import Derived.WalkKit
import Derived.Test.YtchjfeafkmpmbaaGreatDoorPkae
namespace Go.Proofs.YtchjfeafkmpmbaaGreatDoor
set_option linter.unusedVariables false
set_option linter.unusedSimpArgs false
set_option maxRecDepth 100000
set_option maxHeartbeats 8000000
section
open Go.RowKit
theorem listed_reads {P : Program} {w : World} : ∀ {l : List (String × DataW Unit)} {ps : List MemPlace}, DataW.LaidVars P w l ps → ∀ n d, (n, d) ∈ l →
  ∃ g t cs fuel p, P.globalNamed n = some g ∧ (P.globals[g]?).map (·.type) = some t ∧ w.var? P n = some cs ∧ DataW.trod (fun _ => ()) P w 0 (fun _ => true) false fuel t cs.toList = some (d, p)
 | [], _, _, _, _, hm => by cases hm
 | (_, _) :: _, _, ⟨g, t, cs, fuel, p, _, h1, h2, h3, h4, h5, _⟩, n, d, hm => by
  rcases List.mem_cons.1 hm with e | e
  ·cases e
   exact ⟨g, t, cs, fuel, p, h1, h2, h3, h4⟩
  ·exact listed_reads h5 n d e
theorem size_of_var {P : Program} {w : World} {n : String} {g : Nat} {cs : Array Value} (hg : P.globalNamed n = some g) (h : w.var? P n = some cs) : g < w.heap.size := by
 simp only [World.var?, hg, Option.bind_some] at h
 split at h
 ·rename_i hh; exact (ags hh).1
 ·cases h
def LaidV_laid_math_bits_deBruijn64tab (W : World) : Prop := TabAt W ∧ 0 < W.heap.size
theorem laidV_laid_math_bits_deBruijn64tab {l : List (String × DataW Unit)} {W : World} (hm : ("math/bits.deBruijn64tab", (Rows.laid_math_bits_deBruijn64tab : DataW Unit)) ∈ l) (h : laidMet Tryz.prog l W) : LaidV_laid_math_bits_deBruijn64tab W := by
 obtain ⟨_, hv, _⟩ := h
 obtain ⟨g, t, cs, fuel, p, hg, hty, hvar, hd⟩ := listed_reads hv _ _ hm
 have k1 : Tryz.prog.globalNamed "math/bits.deBruijn64tab" = some 0 := by kernel_rfl
 have k2 : (Tryz.prog.globals[0]?).map (·.type) = some 171 := by kernel_rfl
 obtain rfl := Option.some.inj (k1.symm.trans hg)
 obtain rfl := Option.some.inj (k2.symm.trans hty)
 have e : (Rows.laid_math_bits_deBruijn64tab : DataW Unit) = Lib.tabData .u8 (Lib.deBruijn64tab.map fun n : Nat => (n : Int)) := by kernel_rfl
 rw [e] at hd
 have hcs := Lib.cells_of_tab Tryz.underlying171 Tryz.underlying5 (by kernel_rfl) (by kernel_rfl) hd
 refine ⟨fun j hj => ?_, size_of_var hg hvar⟩
 have := World.var?_cell hg hvar j
 rw [this, ← Array.getElem?_toList, hcs]
 simp [List.getD, hj]
end
end Go.Proofs.YtchjfeafkmpmbaaGreatDoor
