/- package tlb: All. -/
import Derived.Test.YtgfidbjhihignaaTkG
import Derived.Test.YtgfidbjhihignaaApp
import Derived.Maps.AppendAt
import Derived.Stop.RegionWithIn

namespace Go.Proofs.Ytgfidbjhihignaa
set_option linter.unusedVariables false
open Go.RowKit Go.Shelf

attribute [local go_sem] Oper.semAt_some
def cellsT (t : TransX) : List Value := [.int .i64 t.s, .int .i64 t.p, .int .i64 t.f, .bool t.r, .bool t.w]
theorem infoT : (Try.prog.info? 104).map (fun i => (i.zero, i.size, i.bytes)) = some (some (.agg #[.int .i64 0, .int .i64 0, .int .i64 0, .bool false, .bool false]), 5, 32) := by kernel_rfl
theorem grown_of_drew {w w' : World} {row : Option Nat} (h : w.drew.grownBy w' row) : w.grownBy w' row := ⟨h.os, h.tape, h.output, h.size, h.block⟩
theorem if_pos_mk {b : Bool} {p q : Prop} (h : b = true) (hp : p) : if b = true then p else q := by rw [if_pos h]; exact hp
theorem cells_new5 (W : World) (x : TransX) (t : TypeId) : ∀ (j : Nat) (u : Value), (cellsT x)[j]? = some u → ((W.alloc (.cells (cellsT x).toArray t)).drew).cell? ((⟨W.heap.size, 0, none⟩ : Addr).add j) = some u := by
  intro j u hj
  match j, hj with
  | 0, hj => simp [cellsT] at hj; subst hj; simp [go_sem, cellsT, Addr.add]
  | 1, hj => simp [cellsT] at hj; subst hj; simp [go_sem, cellsT, Addr.add]
  | 2, hj => simp [cellsT] at hj; subst hj; simp [go_sem, cellsT, Addr.add]
  | 3, hj => simp [cellsT] at hj; subst hj; simp [go_sem, cellsT, Addr.add]
  | 4, hj => simp [cellsT] at hj; subst hj; simp [go_sem, cellsT, Addr.add]
  | j + 5, hj => simp [cellsT] at hj
end Go.Proofs.Ytgfidbjhihignaa
