/- slices.Index and slices.Delete at []int, off the shelf. -/
import Derived.Test.YtmbjaemflmbljaaBase
import Derived.Laws.MakeOwn
import Derived.Ground.NamesProg
import Derived.Ground.Names2Prog
import Derived.Shelf.Lay
import Derived.Shelf.Slices.Turned
import Derived.Shelf.Slices.Delete
import Derived.Shelf.Slices.Empties
namespace Go.Proofs.Ytmbjaemflmbljaa
set_option linter.unusedVariables false
open Go.Shelf Go.Lib Go.Sort Go.RowKit
shelf_lay Lays.n108 Nm 108 at Try as Try.laysIdx
shelf_lay Lays2.n23 Nm2 23 at Try as Try.laysDel
#check @Try.laysIdx
#check @Try.laysDel
theorem index_any (b off n c : Nat) (zs : List Int) (x : Int) (w : World) (hz : n ≤ zs.length) (hbig : n ≤ 9223372036854775807) (hc : ∀ j, j < zs.length → w.cell? ⟨b, off + j, none⟩ = some (.int .i64 (zs.getD j 0))) :
    Calls Try.prog 37 #[.slice (some ⟨b, off, none⟩) n c, .int .i64 x] w fun e w' => e = .returned (.int .i64 (Lib.idxOf (zs.take n) x)) ∧ w' = w :=
  Any.slices_Index_int Try.laysIdx b off n c zs x w hz hbig hc
theorem delete_any (blk off cap i j : Nat) (zs : List Int) (w : World) (hH : Holds (Value.int .i64) w blk off zs.toArray) (hcap : zs.length ≤ cap) (hm : cap ≤ 9223372036854775807) (hij : i ≤ j) (hj : j ≤ zs.length) :
    Calls Try.prog 31 #[.slice (some ⟨blk, off, none⟩) zs.length cap, .int .i64 i, .int .i64 j] w fun e w' => e = .returned (.slice (some ⟨blk, off, none⟩) (zs.length - (j - i)) cap) ∧ ∃ q, w' = putRow (Value.int .i64) (Sort.ahead w q) blk off (zs.take i ++ zs.drop j ++ List.replicate (j - i) 0).toArray :=
  Any.slices_Delete_int Try.laysDel blk off cap i j zs w hH hcap hm hij hj
end Go.Proofs.Ytmbjaemflmbljaa
