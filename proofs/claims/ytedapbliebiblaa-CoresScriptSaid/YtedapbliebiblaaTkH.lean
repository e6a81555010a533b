/- package tlb: DropPage, DropSpace, DropAll. -/
import Derived.Test.YtedapbliebiblaaTkG
import Derived.Test.YtedapbliebiblaaTkW
namespace Go.Proofs.Ytedapbliebiblaa
set_option linter.unusedVariables false
set_option linter.unusedSimpArgs false
open Go.ChangeShapes Go.WideShapes Go.ChangeAt Go.RowKit

def pageOut (a c : Int) (x : TransX) : Bool := x.s == a && x.p == c
def spaceOut (a : Int) (x : TransX) : Bool := x.s == a
set_option maxHeartbeats 1000000 in
theorem page_out (w : World) (p0 p1 : Nat) (a c : Int) (x : TransX) (h0 : w.cell? ⟨p0, 0, none⟩ = some (.int .i64 a)) (h1 : w.cell? ⟨p1, 0, none⟩ = some (.int .i64 c)) (l0 : p0 < w.heap.size) (l1 : p1 < w.heap.size) :
    Calls Try.prog 57 #[trX x, .pointer (some ⟨p0, 0, none⟩), .pointer (some ⟨p1, 0, none⟩)] w fun e W' => e = .returned (.bool (pageOut a c x)) ∧ Below w.heap.size w W' := by
  obtain ⟨s, p, f, r, q⟩ := x
  cases hs : (s == a) <;> cases hp : (p == c)
  all_goals
    go_enter Try.func57, Try.ntmps57
    go_wp2
    go_ret
    exact ⟨ret_bool (by simp [pageOut, hs, hp]), bal (Below.refl _ _) _⟩
set_option maxHeartbeats 1000000 in
theorem space_out (w : World) (p0 : Nat) (a : Int) (x : TransX) (h0 : w.cell? ⟨p0, 0, none⟩ = some (.int .i64 a)) (l0 : p0 < w.heap.size) :
    Calls Try.prog 67 #[trX x, .pointer (some ⟨p0, 0, none⟩)] w fun e W' => e = .returned (.bool (spaceOut a x)) ∧ Below w.heap.size w W' := by
  obtain ⟨s, p, f, r, q⟩ := x
  go_enter Try.func67, Try.ntmps67
  go_wp2
  go_ret
  exact ⟨rfl, bal (Below.refl _ _) _⟩
theorem dropPage_any (w : World) (b : Nat) (S : Nat → TransX × TransX × Int) (a c : Int) (hT : TlbAt w b S) (hok : ∀ k j, k < 4 → j < 2 → OkT (wayP S (k, j))) :
    Calls Try.prog 44 #[.pointer (some ⟨b, 0, none⟩), .int .i64 a, .int .i64 c] w fun e W' => e = .returned (.int .i64 (dropF S (pageOut a c) (fullP S 8)).2) ∧ TlbAt W' b (dropF S (pageOut a c) (fullP S 8)).1 ∧ TlbOnly b w W' := by
  have hb := hT.lt
  have HT := Lib.hid hT
  have z0 : w.heap.size < ((w.alloc (.cells #[.int .i64 a] 3)).alloc (.cells #[.int .i64 c] 3)).heap.size := by simp; omega
  have z1 : w.heap.size + 1 < ((w.alloc (.cells #[.int .i64 a] 3)).alloc (.cells #[.int .i64 c] 3)).heap.size := by simp
  have hcl : ∀ (x : TransX) (W : World), TlbOnly b ((w.alloc (.cells #[.int .i64 a] 3)).alloc (.cells #[.int .i64 c] 3)) W → Calls Try.prog 57 #[trX x, .pointer (some ⟨w.heap.size, 0, none⟩), .pointer (some ⟨w.heap.size + 1, 0, none⟩)] W fun e W' => e = .returned (.bool (pageOut a c x)) ∧ Below W.heap.size W W' :=
    fun x W hW => page_out W _ _ a c x (hW.cell z0 (by omega) (by simp)) (hW.cell z1 (by omega) (by simp)) (Nat.lt_of_lt_of_le z0 hW.size) (Nat.lt_of_lt_of_le z1 hW.size)
  have HC := Lib.hid hcl
  clear hT hcl z0 z1
  go_enter Try.func44, Try.ntmps44
  go_wp2_with (first
    | (go_at_call 56; refine (callsIn_wide.1 (drop_page _ b S (pageOut a c) (w.heap.size) (w.heap.size + 1) (HT.out.call (bal (bal (Below.refl _ _) _) _)) hok HC.out)).mono ?_; rintro e w1 ⟨rfl, ht, ho⟩))
  go_ret
  exact ⟨rfl, ht, (TlbOnly.of_below (bal (bal (Below.refl _ _) _) _)).trans ho⟩
theorem dropSpace_any (w : World) (b : Nat) (S : Nat → TransX × TransX × Int) (a : Int) (hT : TlbAt w b S) (hok : ∀ k j, k < 4 → j < 2 → OkT (wayP S (k, j))) :
    Calls Try.prog 50 #[.pointer (some ⟨b, 0, none⟩), .int .i64 a] w fun e W' => e = .returned (.int .i64 (dropF S (spaceOut a) (fullP S 8)).2) ∧ TlbAt W' b (dropF S (spaceOut a) (fullP S 8)).1 ∧ TlbOnly b w W' := by
  have hb := hT.lt
  have HT := Lib.hid hT
  have z0 : w.heap.size < (w.alloc (.cells #[.int .i64 a] 3)).heap.size := by simp
  have hcl : ∀ (x : TransX) (W : World), TlbOnly b (w.alloc (.cells #[.int .i64 a] 3)) W → Calls Try.prog 67 #[trX x, .pointer (some ⟨w.heap.size, 0, none⟩)] W fun e W' => e = .returned (.bool (spaceOut a x)) ∧ Below W.heap.size W W' :=
    fun x W hW => space_out W _ a x (hW.cell z0 (by omega) (by simp)) (Nat.lt_of_lt_of_le z0 hW.size)
  have HC := Lib.hid hcl
  clear hT hcl z0
  go_enter Try.func50, Try.ntmps50
  go_wp2_with (first
    | (go_at_call 56; refine (callsIn_wide.1 (drop_space _ b S (spaceOut a) (w.heap.size) (HT.out.call (bal (Below.refl _ _) _)) hok HC.out)).mono ?_; rintro e w1 ⟨rfl, ht, ho⟩))
  go_ret
  exact ⟨rfl, ht, (TlbOnly.of_below (bal (Below.refl _ _) _)).trans ho⟩
end Go.Proofs.Ytedapbliebiblaa
