/- Chapter 2: success and error in one; two blocks turned. -/
import Derived.Test.YtgfidbjhihignaaPwMem7
import Derived.Deep.MidRow
import Derived.Lib.SliceRun
import Derived.StillTailTactics
import Derived.Deep.QuietTactic
import Derived.BigQuiet
import Derived.Maps.AppendAt
import Derived.Deep.RegionHeld3
namespace Go.Proofs.Ytgfidbjhihignaa
set_option linter.unusedVariables false
set_option linter.unusedSimpArgs false
open Go.ChangeShapes Go.WideShapes Go.ChangeAt Go.RowKit

open Go.Shelf
theorem num_any (w : World) (x : Int) : Calls Try.prog 9 #[.int .i64 x] w fun e w' => e = .returned (.int .i64 x) ∧ w = w' := by
  go_enter Try.func9, Try.ntmps9
  go_wp2
  go_ret
  exact ⟨rfl, rfl⟩
theorem BlkOnly.drew {b : Nat} {a d : World} (h : BlkOnly b a d) : BlkOnly b a d.drew := ⟨h.os, h.tape, h.output, h.size, h.block⟩
theorem BlkOnly.drewN {b : Nat} {a d : World} (h : BlkOnly b a d) (k : Nat) : BlkOnly b a (d.drewN k) := by
  induction k with
  | zero => exact h
  | succ k ih => exact ih.drew
theorem BlkOnly.call {b : Nat} {w d e : World} (h : BlkOnly b w d) (k : Below d.heap.size d e) : BlkOnly b w e := h.trans (BlkOnly.of_below k)
/-- Two blocks are turned. -/
structure TwoOnly (g h : Nat) (w w' : World) : Prop where
  os : w'.os = w.os
  tape : w'.tape = w.tape
  output : w'.output = w.output
  size : w.heap.size ≤ w'.heap.size
  block : ∀ k, k < w.heap.size → k ≠ g → k ≠ h → w'.heap[k]? = w.heap[k]?
theorem TwoOnly.refl (g h : Nat) (w : World) : TwoOnly g h w w := ⟨rfl, rfl, rfl, Nat.le_refl _, fun _ _ _ _ => rfl⟩
theorem TwoOnly.drew {g h : Nat} {a d : World} (q : TwoOnly g h a d) : TwoOnly g h a d.drew := ⟨q.os, q.tape, q.output, q.size, q.block⟩
theorem TwoOnly.drewN {g h : Nat} {a d : World} (q : TwoOnly g h a d) (k : Nat) : TwoOnly g h a (d.drewN k) := by
  induction k with
  | zero => exact q
  | succ k ih => exact ih.drew
theorem TwoOnly.one {g h : Nat} {a d e : World} (q : TwoOnly g h a d) (k : BlkOnly g d e) : TwoOnly g h a e := ⟨k.os.trans q.os, k.tape.trans q.tape, k.output.trans q.output, Nat.le_trans q.size k.size, fun i h1 h2 h3 => (k.block i (Nat.lt_of_lt_of_le h1 q.size) h2).trans (q.block i h1 h2 h3)⟩
theorem TwoOnly.two {g h : Nat} {a d e : World} (q : TwoOnly g h a d) (k : BlkOnly h d e) : TwoOnly g h a e := ⟨k.os.trans q.os, k.tape.trans q.tape, k.output.trans q.output, Nat.le_trans q.size k.size, fun i h1 h2 h3 => (k.block i (Nat.lt_of_lt_of_le h1 q.size) h3).trans (q.block i h1 h2 h3)⟩
theorem TwoOnly.below {g h B : Nat} {w w' : World} (q : TwoOnly g h w w') (hg : B ≤ g) (hh : B ≤ h) (hB : B ≤ w.heap.size) : Below B w w' := ⟨q.os, q.tape, q.output, q.size, fun k hk => q.block k (by omega) (by omega) (by omega)⟩
theorem TwoOnly.cell {g h : Nat} {w w' : World} {k j : Nat} {v : Option Value} (q : TwoOnly g h w w') (hk : k < w.heap.size) (h1 : k ≠ g) (h2 : k ≠ h) (e : w.cell? ⟨k, j, none⟩ = v) : w'.cell? ⟨k, j, none⟩ = v := (cell_of_block (q.block k hk h1 h2)).trans e
def loadF (n : Nat) (m : Nat → Int) (a : Int) : Int := if wrongF n a = 0 then m (a / 8).toNat else 0
def storeF (n : Nat) (m : Nat → Int) (a v : Int) : Nat → Int := if wrongF n a = 0 then updM m (a / 8).toNat v else m
theorem load_gen (w : World) (b g n c : Nat) (m : Nat → Int) (a : Int) (h : MemAt w b g n c m) (ha : WordI a) :
    Calls Try.prog 20 #[.pointer (some ⟨b, 0, none⟩), .int .u64 a] w fun e w' => e = .returned (.tuple #[.int .u64 (loadF n m a), .int .i64 (wrongF n a)]) ∧ w = w' := by
  by_cases he : wrongF n a = 0
  · obtain ⟨k, rfl, hk⟩ := addr_of ha he
    have e : loadF n m (8 * (k : Int)) = m k := by unfold loadF; rw [if_pos he]; congr 1; omega
    rw [e, he]
    exact load_ok w b g n c m k h hk
  · have e : loadF n m a = 0 := by unfold loadF; rw [if_neg he]
    rw [e]
    exact load_bad w b g n c m a h ha (beq_eq_false_iff_ne.2 he)
theorem store_gen (w : World) (b g n c : Nat) (m : Nat → Int) (a v : Int) (h : MemAt w b g n c m) (ha : WordI a) (hv : WordI v) :
    Calls Try.prog 12 #[.pointer (some ⟨b, 0, none⟩), .int .u64 a, .int .u64 v] w fun e w' => e = .returned (.int .i64 (wrongF n a)) ∧ MemAt w' b g n c (storeF n m a v) ∧ BlkOnly g w w' := by
  by_cases he : wrongF n a = 0
  · obtain ⟨k, rfl, hk⟩ := addr_of ha he
    have e : storeF n m (8 * (k : Int)) v = updM m k v := by unfold storeF; rw [if_pos he]; congr 1; omega
    rw [e, he]
    exact store_ok w b g n c m k v h hk hv
  · have e : storeF n m a v = m := by unfold storeF; rw [if_neg he]
    rw [e]
    exact (store_bad w b g n c m a v h ha (beq_eq_false_iff_ne.2 he)).mono fun e w' ⟨he, hw⟩ => hw ▸ ⟨he, h, BlkOnly.refl _ _⟩
theorem rstore_gen (w : World) (b g n c : Nat) (m : Nat → Int) (a v : Int) (h : RefAt w b g n c m) (ha : WordI a) (hv : WordI v) :
    Calls Try.prog 13 #[.pointer (some ⟨b, 0, none⟩), .int .u64 a, .int .u64 v] w fun e w' => e = .returned (.int .i64 (wrongF n a)) ∧ RefAt w' b g n c (storeF n m a v) ∧ BlkOnly g w w' := by
  by_cases he : wrongF n a = 0
  · obtain ⟨k, rfl, hk⟩ := addr_of ha he
    have e : storeF n m (8 * (k : Int)) v = updM m k v := by unfold storeF; rw [if_pos he]; congr 1; omega
    rw [e, he]
    exact rstore_ok w b g n c m k v h hk hv
  · have e : storeF n m a v = m := by unfold storeF; rw [if_neg he]
    rw [e]
    exact (rstore_bad w b g n c m a v h ha (beq_eq_false_iff_ne.2 he)).mono fun e w' ⟨he, hw⟩ => hw ▸ ⟨he, h, BlkOnly.refl _ _⟩
theorem below_blk {B q : Nat} {w w' : World} (h1 : B ≤ q) (h2 : B ≤ w.heap.size) (h : BlkOnly q w w') : Below B w w' := ⟨h.os, h.tape, h.output, h.size, fun k hk => h.block k (by omega) (by omega)⟩
theorem row_below {B : Nat} {w w' : World} {e : TypeId} {size : Nat} {v : Value} {n : Nat} {xs : List Value} (h : w.ownsRow B e size v n xs) (ho : Below w.heap.size w w') : w'.ownsRow B e size v n xs := by
  refine h.kept (row := none) ⟨ho.os, ho.tape, ho.output, ho.size, fun k hk _ => ho.block k hk⟩ ?_
  cases hv : v.ownBlock with
  | none => exact .inl rfl
  | some k => exact .inr (by simp)
end Go.Proofs.Ytgfidbjhihignaa
