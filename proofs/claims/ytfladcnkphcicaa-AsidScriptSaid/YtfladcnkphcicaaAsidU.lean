/- package asid: free and Unassign. -/
import Derived.Test.YtfladcnkphcicaaAsidT
namespace Go.Proofs.Ytfladcnkphcicaa
set_option linter.unusedVariables false
set_option linter.unusedSimpArgs false
open Go.ChangeShapes Go.WideShapes Go.ChangeAt Go.RowKit Go.Shelf

def freeN (N : Nums) (n : Nat) : Nums := fun m => if m = n then (0, 0, (N n).2.2) else N m
theorem ok_free {N : Nums} (h : NumsOk N) (n : Nat) : NumsOk (freeN N n) := by
  intro m hm
  unfold freeN
  split
  · rename_i e
    subst e
    exact h m hm
  · exact h m hm
theorem asid_set2 {w : World} {b n : Nat} {po : Nat → Int} {tk : Int} {N : Nums} (h : AsidAt w b po tk N) (hn : n < 32) (x y : Int) :
    AsidAt ((w.setCell ⟨b, 9 + n * 3, none⟩ (.int .i64 x)).setCell ⟨b, 9 + n * 3 + 1, none⟩ (.int .i64 y)) b po tk (fun m => if m = n then (x, y, (N n).2.2) else N m) := by
  refine ⟨fun i hi => ?_, ?_, fun m hm => ?_, fun j => ?_, ?_⟩
  · rw [World.cell?_setCell_other, World.cell?_setCell_other, h.pool i hi]
    all_goals (intro e; simp only [Addr.mk.injEq, true_and, and_true] at e; omega)
  · rw [World.cell?_setCell_other, World.cell?_setCell_other, h.taken]
    all_goals (intro e; simp only [Addr.mk.injEq, true_and, and_true] at e; omega)
  · obtain ⟨c0, c1, c2⟩ := h.num m hm
    by_cases e : m = n
    · subst e
      simp only [if_true]
      refine ⟨?_, ?_, ?_⟩ <;> simp [go_sem, c0, c1, c2]
    · rw [if_neg e]
      refine ⟨?_, ?_, ?_⟩
      · rw [World.cell?_setCell_other, World.cell?_setCell_other, c0]
        all_goals (intro e; simp only [Addr.mk.injEq, true_and, and_true] at e; omega)
      · rw [World.cell?_setCell_other, World.cell?_setCell_other, c1]
        all_goals (intro e; simp only [Addr.mk.injEq, true_and, and_true] at e; omega)
      · rw [World.cell?_setCell_other, World.cell?_setCell_other, c2]
        all_goals (intro e; simp only [Addr.mk.injEq, true_and, and_true] at e; omega)
  · simp [go_sem, h.free j]
  · simpa using h.lt
theorem free_any (w : World) (b n : Nat) (po : Nat → Int) (tk : Int) (N : Nums) (h : AsidAt w b po tk N) (hn : n < 32) :
    Calls Try.prog 25 #[.pointer (some ⟨b, 9 + n * 3, none⟩)] w fun e w' => (∃ v, e = .returned v) ∧ AsidAt w' b po tk (freeN N n) ∧ BlkOnly b w w' := by
  obtain ⟨c0, c1, c2⟩ := h.num n hn
  have hf := h.free
  have H := Lib.hid h
  clear h
  go_enter Try.func25, Try.ntmps25
  go_wp2
  go_end0
  exact ⟨⟨_, rfl⟩, asid_set2 H.out hn 0 0, ((BlkOnly.refl b w).set _ _).set _ _⟩
theorem of_in3 {N : Nums} {r : Int} (h : (ofR N r).2.2 = true) : ∃ k : Nat, k < 32 ∧ ofR N r = ((k : Int), (N k).2.1, true) ∧ (N k).1 = r ∧ (N k).1 ≠ 0 := by
  unfold ofR at h ⊢
  split at h
  · rename_i k hk
    have h1 := List.mem_of_find?_eq_some hk
    have h2 := List.find?_some hk
    unfold ofP at h2
    simp only [Bool.and_eq_true, bne_iff_ne, beq_iff_eq] at h2
    exact ⟨k, by simpa using h1, rfl, h2.2, h2.1⟩
  · simp at h
/-- What Unassign tells and leaves. -/
def unassignF (N : Nums) (root : Int) : (Int × Int) × Nums := if (ofR N root).2.2 = true then (((ofR N root).1, 0), freeN N (ofR N root).1.toNat) else ((0, 15), N)
theorem ok_unassign {N : Nums} (h : NumsOk N) (r : Int) : NumsOk (unassignF N r).2 := by
  unfold unassignF
  split
  · exact ok_free h _
  · exact h
set_option maxRecDepth 100000 in
set_option maxHeartbeats 1000000 in
theorem unassign_any (w : World) (b : Nat) (po : Nat → Int) (tk : Int) (N : Nums) (root : Int) (h : AsidAt w b po tk N) :
    Calls Try.prog 15 #[.pointer (some ⟨b, 0, none⟩), .int .i64 root] w fun e w' => e = .returned (.tuple #[.int .i64 (unassignF N root).1.1, .int .i64 (unassignF N root).1.2]) ∧ AsidAt w' b po tk (unassignF N root).2 ∧ BlkOnly b w w' := by
  have HA := Lib.hid h
  have hb := h.lt
  rcases of_in2 N root with ho | ho
  · obtain ⟨k, hk, hr, _, _⟩ := of_in3 ho
    have e : unassignF N root = (((k : Int), 0), freeN N k) := by unfold unassignF; rw [if_pos ho, hr]; simp
    rw [e]
    have HR := Lib.hid hr
    have hk' : (k : Int) < 32 := by omega
    clear h e ho hr
    go_enter Try.func15, Try.ntmps15
    go_wp2_with (first
      | (go_at_call 17; refine (of_any _ b po tk N root HA.out).mono ?_; rw [HR.out]; rintro e w2 ⟨rfl, hb2⟩)
      | (go_at_call 25; refine (free_any _ b k po tk N (HA.out.call hb2) hk).mono ?_; rintro e w3 ⟨⟨v, rfl⟩, ha3, ho3⟩))
    go_ret2
    exact ⟨rfl, ha3, (BlkOnly.of_below hb2).trans ho3⟩
  · have e : unassignF N root = ((0, 15), N) := by unfold unassignF; rw [ho]; rfl
    rw [e]
    have HR := Lib.hid ho
    clear h e ho
    go_enter Try.func15, Try.ntmps15
    go_wp2_with (first
      | (go_at_call 17; refine (of_any _ b po tk N root HA.out).mono ?_; rw [HR.out]; rintro e w2 ⟨rfl, hb2⟩))
    go_ret2
    exact ⟨rfl, HA.out.call hb2, BlkOnly.of_below hb2⟩
end Go.Proofs.Ytfladcnkphcicaa
