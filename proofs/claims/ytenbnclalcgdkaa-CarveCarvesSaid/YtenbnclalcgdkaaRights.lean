/- Contracts of package rights and of chapter 9's own answer. -/
import Derived.Test.YtenbnclalcgdkaaRows
import Derived.WalkKit
import Derived.ProofKit
import Derived.WalkSmall
import Derived.Lib.SlBytesConst
namespace Go.Proofs.Ytenbnclalcgdkaa
set_option linter.unusedVariables false
open Go.ChangeShapes Go.WideShapes Go.ChangeAt Go.RowKit

theorem ret_bool {a b : Bool} (h : a = b) : Ending.returned (.bool a) = .returned (.bool b) := by rw [h]
theorem ret_int {k : IntKind} {a b : Int} (h : a = b) : Ending.returned (.int k a) = .returned (.int k b) := by rw [h]
def mayB (r : Int) : Bool := decide (0 ≤ r ∧ r ≤ 7)
theorem mayB_mk {r : Int} (h : 0 ≤ r) (h' : r ≤ 7) : mayB r = true := decide_eq_true ⟨h, h'⟩
theorem mayB_no {r : Int} (h : r < 0 ∨ 7 < r) : mayB r = false := decide_eq_false (by omega)

theorem may_any (r : Int) (w : World) : Calls Try.prog 17 #[.int .i64 r] w fun e w' => e = .returned (.bool (mayB r)) ∧ w = w' := by
  go_enter Try.func17, Try.ntmps17
  go_wp2
  all_goals go_ret
  all_goals refine ⟨ret_bool ?_, rfl⟩
  · by_cases h : r ≤ 7
    · rw [mayB_mk ‹_› h]; exact decide_eq_true h
    · rw [mayB_no (by omega)]; exact decide_eq_false h
  · rw [mayB_no (by omega)]

/-- What is in both. -/
def maskN (a b : Int) : Int := bits BinOp.and IntKind.i64 a b
def hasB (r n : Int) : Bool := maskN r n == n

theorem mask_any (a b : Int) (w : World) (h0 : 0 ≤ a) (h1 : a ≤ 7) (h2 : 0 ≤ b) (h3 : b ≤ 7) :
    Calls Try.prog 14 #[.int .i64 a, .int .i64 b] w fun e w' => e = .returned (.int .i64 (maskN a b)) ∧ w = w' := by
  have m1 := mayB_mk h0 h1
  have m2 := mayB_mk h2 h3
  go_enter Try.func14, Try.ntmps14
  go_wp2_with (go_at_call 17; refine (may_any _ _).mono ?_; rintro e w' ⟨rfl, rfl⟩)
  go_ret
  exact ⟨rfl, rfl⟩

theorem has_any (a b : Int) (w : World) (h0 : 0 ≤ a) (h1 : a ≤ 7) (h2 : 0 ≤ b) (h3 : b ≤ 7) :
    Calls Try.prog 15 #[.int .i64 a, .int .i64 b] w fun e w' => e = .returned (.bool (hasB a b)) ∧ w = w' := by
  have m1 := mayB_mk h0 h1
  have m2 := mayB_mk h2 h3
  go_enter Try.func15, Try.ntmps15
  go_wp2_with (go_at_call 17; refine (may_any _ _).mono ?_; rintro e w' ⟨rfl, rfl⟩)
  go_ret
  exact ⟨rfl, rfl⟩

def textB (r : Int) : ByteArray := ⟨#[if r % 2 = 1 then 114 else 45, if r / 2 % 2 = 1 then 119 else 45, if r / 4 % 2 = 1 then 103 else 45]⟩

theorem setCell_alloc_fr (w : World) (c : Array Value) (t : TypeId) (fr : Nat × Nat) (i : Nat) (v : Value) :
    (w.alloc (.cells c t fr)).setCell ⟨w.heap.size, i, none⟩ v = w.alloc (.cells (c.setIfInBounds i v) t fr) := by
  unfold World.setCell World.alloc
  congr 1
  apply Array.ext_getElem?
  intro k
  rw [Array.getElem?_modify]
  by_cases hk : w.heap.size = k
  · subst hk
    simp
  · have hk' : k ≠ w.heap.size := fun e => hk e.symm
    simp [hk, hk', Array.getElem?_push]
theorem frozen_alloc_fr (w : World) (c : Array Value) (t : TypeId) (i : Nat) (h : i < 3) : (w.alloc (.cells c t (3, 4))).frozen? ⟨w.heap.size, i, none⟩ = false := by
  have e : (w.alloc (.cells c t (3, 4))).heap[w.heap.size]? = some (.cells c t (3, 4)) := (MapKept.heap_alloc w _).1
  simp only [World.frozen?, e]
  simp; omega
theorem cell_alloc_fr (w : World) (c : Array Value) (t : TypeId) (fr : Nat × Nat) (i : Nat) : (w.alloc (.cells c t fr)).cell? ⟨w.heap.size, i, none⟩ = c[i]? := by
  have e : (w.alloc (.cells c t fr)).heap[w.heap.size]? = some (.cells c t fr) := (MapKept.heap_alloc w _).1
  show (match (w.alloc (.cells c t fr)).heap[w.heap.size]? with
    | some (.cells c _ _) => if (none : Option Nat).isSome then none else c[i]?
    | _ => none) = _
  rw [e]
  rfl
attribute [local go_sem] setCell_alloc_fr cell_alloc_fr
theorem conv3 (w : World) (a b c : Int) : (convert 42 9 (.slice (some ⟨w.heap.size, 0, none⟩) 3 3)).run Try.prog (w.alloc (.cells #[.int .u8 a, .int .u8 b, .int .u8 c] 5 (3, 4))) =
    .ok (.string ⟨#[UInt8.ofNat a.toNat, UInt8.ofNat b.toNat, UInt8.ofNat c.toNat]⟩) (w.alloc (.cells #[.int .u8 a, .int .u8 b, .int .u8 c] 5 (3, 4))) := by
  have e : (w.alloc (.cells #[.int .u8 a, .int .u8 b, .int .u8 c] 5 (3, 4))).heap[w.heap.size]? = some (.cells #[.int .u8 a, .int .u8 b, .int .u8 c] 5 (3, 4)) := (MapKept.heap_alloc w _).1
  rw [run_convert_bytes_string _ _ _ _ _ _ _ Try.underlying42 Try.underlying5 Try.underlying9, run_bytesToString _ _ 3 3 [a, b, c]]
  · rfl
  · have hcell : ∀ (k : Nat) (v : Value), [Value.int .u8 a, .int .u8 b, .int .u8 c][k]? = some v → (w.alloc (.cells #[.int .u8 a, .int .u8 b, .int .u8 c] 5 (3, 4))).cell? ⟨w.heap.size, k, none⟩ = some v := fun k v hk => by
      rw [cell_alloc_fr]
      simpa using hk
    have := run_loadCells_list (P := Try.prog) (w := w.alloc (.cells #[.int .u8 a, .int .u8 b, .int .u8 c] 5 (3, 4))) ⟨w.heap.size, 0, none⟩ [.int .u8 a, .int .u8 b, .int .u8 c] (fun j v hj => by
      have ea : (⟨w.heap.size, 0, none⟩ : Addr).add j = ⟨w.heap.size, j, none⟩ := by rw [Addr.add_lit, Nat.zero_add]
      rw [ea]; exact hcell j v hj)
    simpa using this

theorem textB_size (r : Int) : (textB r).size = 3 := rfl
set_option maxHeartbeats 2000000 in
theorem text_in (r : Int) (w : World) (h0 : 0 ≤ r) (h7 : r ≤ 7) : Calls Try.prog 16 #[.int .i64 r] w fun e w' => e = .returned (.string (textB r)) ∧ Below w.heap.size w w' := by
  have m1 := mayB_mk h0 h7
  have kc := fun (w : World) (C : Array Value) (n c : Nat) => Lib.run_convert_bytes_const (P := Try.prog) w 42 5 C n c Try.underlying42 Try.underlying5
  have b0 : bits BinOp.and IntKind.i64 (0 : Int) 1 = 0 := by decide +kernel
  have b1 : bits BinOp.and IntKind.i64 (1 : Int) 1 = 1 := by decide +kernel
  have b2 : bits BinOp.and IntKind.i64 (2 : Int) 1 = 0 := by decide +kernel
  have b3 : bits BinOp.and IntKind.i64 (3 : Int) 1 = 1 := by decide +kernel
  have b4 : bits BinOp.and IntKind.i64 (4 : Int) 1 = 0 := by decide +kernel
  have b5 : bits BinOp.and IntKind.i64 (5 : Int) 1 = 1 := by decide +kernel
  have b6 : bits BinOp.and IntKind.i64 (6 : Int) 1 = 0 := by decide +kernel
  have b7 : bits BinOp.and IntKind.i64 (7 : Int) 1 = 1 := by decide +kernel
  have cv := conv3
  have z0 := fun (w : World) (C : Array Value) => frozen_alloc_fr w C 5 0 (by decide)
  have z1 := fun (w : World) (C : Array Value) => frozen_alloc_fr w C 5 1 (by decide)
  have z2 := fun (w : World) (C : Array Value) => frozen_alloc_fr w C 5 2 (by decide)
  obtain rfl | rfl | rfl | rfl | rfl | rfl | rfl | rfl : r = 0 ∨ r = 1 ∨ r = 2 ∨ r = 3 ∨ r = 4 ∨ r = 5 ∨ r = 6 ∨ r = 7 := by omega
  all_goals
    go_enter Try.func16, Try.ntmps16
    go_wp2_with (go_at_call 17; refine (may_any _ _).mono ?_; rintro e w' ⟨rfl, rfl⟩)
    refine wp_loop_rounds 4 ?_
    rw [rounds_succ]; go_wp2
    rw [rounds_succ]; go_wp2
    rw [rounds_succ]; go_wp2
    rw [rounds_succ]; go_wp2
  all_goals go_ret
  all_goals exact ⟨rfl, (Below.refl _ _).alloc (Nat.le_refl _) _⟩

theorem text_out (r : Int) (w : World) (h : r < 0 ∨ 7 < r) : Calls Try.prog 16 #[.int .i64 r] w fun e w' => e = .returned (.string ⟨#[]⟩) ∧ w = w' := by
  have m1 := mayB_no h
  go_enter Try.func16, Try.ntmps16
  go_wp2_with (go_at_call 17; refine (may_any _ _).mono ?_; rintro e w' ⟨rfl, rfl⟩)
  go_ret
  exact ⟨rfl, rfl⟩


theorem parse_len (s : ByteArray) (w : World) (hs : s.size ≠ 3) (hm : s.size ≤ maxLen) : Calls Try.prog 11 #[.string s] w fun e w' => e = .returned (.tuple #[.int .i64 0, .int .i64 5]) ∧ w = w' := by
  unfold maxLen at hm
  have h3 : ((s.size : Int) != 3) = true := by simp; omega
  go_enter Try.func11, Try.ntmps11
  go_wp2
  go_step3
  go_wp2
  rw [Exit.noGoto_ret]
  go_ret2
  exact ⟨rfl, rfl⟩
theorem or01 : bits BinOp.or IntKind.i64 (0 : Int) 1 = 1 := by decide +kernel
theorem or02 : bits BinOp.or IntKind.i64 (0 : Int) 2 = 2 := by decide +kernel
theorem or12 : bits BinOp.or IntKind.i64 (1 : Int) 2 = 3 := by decide +kernel
theorem or04 : bits BinOp.or IntKind.i64 (0 : Int) 4 = 4 := by decide +kernel
theorem or14 : bits BinOp.or IntKind.i64 (1 : Int) 4 = 5 := by decide +kernel
theorem or24 : bits BinOp.or IntKind.i64 (2 : Int) 4 = 6 := by decide +kernel
theorem or34 : bits BinOp.or IntKind.i64 (3 : Int) 4 = 7 := by decide +kernel
set_option maxHeartbeats 1000000 in
theorem parse_x (s : ByteArray) (w : World) (hs : s.size = 3) (a0 : ((s[0].toNat : Int) == 45) = false) (b0 : ((s[0].toNat : Int) == (((⟨#[114, 119, 103]⟩ : ByteArray)[0]).toNat : Int)) = false) :
    Calls Try.prog 11 #[.string s] w fun e w' => e = .returned (.tuple #[.int .i64 0, .int .i64 5]) ∧ w = w' := by
  have h3 : ((s.size : Int) != 3) = false := by simp [hs]
  have hl : 0 < s.size ∧ 1 < s.size ∧ 2 < s.size := by omega
  obtain ⟨l0, l1, l2⟩ := hl
  have o01 := or01
  have o02 := or02
  have o12 := or12
  have o04 := or04
  have o14 := or14
  have o24 := or24
  have o34 := or34
  go_enter Try.func11, Try.ntmps11
  go_wp2
  go_step3
  go_wp2
  go_step3
  go_wp2
  refine wp_loop_rounds 4 ?_
  rw [rounds_succ]; go_wp2
  rw [Exit.noGoto_ret]
  go_ret2
  exact ⟨rfl, rfl⟩
set_option maxHeartbeats 1000000 in
theorem parse_dx (s : ByteArray) (w : World) (hs : s.size = 3) (a0 : ((s[0].toNat : Int) == 45) = true) (a1 : ((s[1].toNat : Int) == 45) = false) (b1 : ((s[1].toNat : Int) == (((⟨#[114, 119, 103]⟩ : ByteArray)[1]).toNat : Int)) = false) :
    Calls Try.prog 11 #[.string s] w fun e w' => e = .returned (.tuple #[.int .i64 0, .int .i64 5]) ∧ w = w' := by
  have h3 : ((s.size : Int) != 3) = false := by simp [hs]
  have hl : 0 < s.size ∧ 1 < s.size ∧ 2 < s.size := by omega
  obtain ⟨l0, l1, l2⟩ := hl
  have o01 := or01
  have o02 := or02
  have o12 := or12
  have o04 := or04
  have o14 := or14
  have o24 := or24
  have o34 := or34
  go_enter Try.func11, Try.ntmps11
  go_wp2
  go_step3
  go_wp2
  go_step3
  go_wp2
  refine wp_loop_rounds 4 ?_
  rw [rounds_succ]; go_wp2
  rw [rounds_succ]; go_wp2
  rw [Exit.noGoto_ret]
  go_ret2
  exact ⟨rfl, rfl⟩
set_option maxHeartbeats 1000000 in
theorem parse_lx (s : ByteArray) (w : World) (hs : s.size = 3) (a0 : ((s[0].toNat : Int) == 45) = false) (b0 : ((s[0].toNat : Int) == (((⟨#[114, 119, 103]⟩ : ByteArray)[0]).toNat : Int)) = true) (a1 : ((s[1].toNat : Int) == 45) = false) (b1 : ((s[1].toNat : Int) == (((⟨#[114, 119, 103]⟩ : ByteArray)[1]).toNat : Int)) = false) :
    Calls Try.prog 11 #[.string s] w fun e w' => e = .returned (.tuple #[.int .i64 0, .int .i64 5]) ∧ w = w' := by
  have h3 : ((s.size : Int) != 3) = false := by simp [hs]
  have hl : 0 < s.size ∧ 1 < s.size ∧ 2 < s.size := by omega
  obtain ⟨l0, l1, l2⟩ := hl
  have o01 := or01
  have o02 := or02
  have o12 := or12
  have o04 := or04
  have o14 := or14
  have o24 := or24
  have o34 := or34
  go_enter Try.func11, Try.ntmps11
  go_wp2
  go_step3
  go_wp2
  go_step3
  go_wp2
  refine wp_loop_rounds 4 ?_
  rw [rounds_succ]; go_wp2
  rw [rounds_succ]; go_wp2
  rw [Exit.noGoto_ret]
  go_ret2
  exact ⟨rfl, rfl⟩
set_option maxHeartbeats 1000000 in
theorem parse_ddx (s : ByteArray) (w : World) (hs : s.size = 3) (a0 : ((s[0].toNat : Int) == 45) = true) (a1 : ((s[1].toNat : Int) == 45) = true) (a2 : ((s[2].toNat : Int) == 45) = false) (b2 : ((s[2].toNat : Int) == (((⟨#[114, 119, 103]⟩ : ByteArray)[2]).toNat : Int)) = false) :
    Calls Try.prog 11 #[.string s] w fun e w' => e = .returned (.tuple #[.int .i64 0, .int .i64 5]) ∧ w = w' := by
  have h3 : ((s.size : Int) != 3) = false := by simp [hs]
  have hl : 0 < s.size ∧ 1 < s.size ∧ 2 < s.size := by omega
  obtain ⟨l0, l1, l2⟩ := hl
  have o01 := or01
  have o02 := or02
  have o12 := or12
  have o04 := or04
  have o14 := or14
  have o24 := or24
  have o34 := or34
  go_enter Try.func11, Try.ntmps11
  go_wp2
  go_step3
  go_wp2
  go_step3
  go_wp2
  refine wp_loop_rounds 4 ?_
  rw [rounds_succ]; go_wp2
  rw [rounds_succ]; go_wp2
  rw [rounds_succ]; go_wp2
  rw [Exit.noGoto_ret]
  go_ret2
  exact ⟨rfl, rfl⟩
set_option maxHeartbeats 1000000 in
theorem parse_dlx (s : ByteArray) (w : World) (hs : s.size = 3) (a0 : ((s[0].toNat : Int) == 45) = true) (a1 : ((s[1].toNat : Int) == 45) = false) (b1 : ((s[1].toNat : Int) == (((⟨#[114, 119, 103]⟩ : ByteArray)[1]).toNat : Int)) = true) (a2 : ((s[2].toNat : Int) == 45) = false) (b2 : ((s[2].toNat : Int) == (((⟨#[114, 119, 103]⟩ : ByteArray)[2]).toNat : Int)) = false) :
    Calls Try.prog 11 #[.string s] w fun e w' => e = .returned (.tuple #[.int .i64 0, .int .i64 5]) ∧ w = w' := by
  have h3 : ((s.size : Int) != 3) = false := by simp [hs]
  have hl : 0 < s.size ∧ 1 < s.size ∧ 2 < s.size := by omega
  obtain ⟨l0, l1, l2⟩ := hl
  have o01 := or01
  have o02 := or02
  have o12 := or12
  have o04 := or04
  have o14 := or14
  have o24 := or24
  have o34 := or34
  go_enter Try.func11, Try.ntmps11
  go_wp2
  go_step3
  go_wp2
  go_step3
  go_wp2
  refine wp_loop_rounds 4 ?_
  rw [rounds_succ]; go_wp2
  rw [rounds_succ]; go_wp2
  rw [rounds_succ]; go_wp2
  rw [Exit.noGoto_ret]
  go_ret2
  exact ⟨rfl, rfl⟩
set_option maxHeartbeats 1000000 in
theorem parse_ldx (s : ByteArray) (w : World) (hs : s.size = 3) (a0 : ((s[0].toNat : Int) == 45) = false) (b0 : ((s[0].toNat : Int) == (((⟨#[114, 119, 103]⟩ : ByteArray)[0]).toNat : Int)) = true) (a1 : ((s[1].toNat : Int) == 45) = true) (a2 : ((s[2].toNat : Int) == 45) = false) (b2 : ((s[2].toNat : Int) == (((⟨#[114, 119, 103]⟩ : ByteArray)[2]).toNat : Int)) = false) :
    Calls Try.prog 11 #[.string s] w fun e w' => e = .returned (.tuple #[.int .i64 0, .int .i64 5]) ∧ w = w' := by
  have h3 : ((s.size : Int) != 3) = false := by simp [hs]
  have hl : 0 < s.size ∧ 1 < s.size ∧ 2 < s.size := by omega
  obtain ⟨l0, l1, l2⟩ := hl
  have o01 := or01
  have o02 := or02
  have o12 := or12
  have o04 := or04
  have o14 := or14
  have o24 := or24
  have o34 := or34
  go_enter Try.func11, Try.ntmps11
  go_wp2
  go_step3
  go_wp2
  go_step3
  go_wp2
  refine wp_loop_rounds 4 ?_
  rw [rounds_succ]; go_wp2
  rw [rounds_succ]; go_wp2
  rw [rounds_succ]; go_wp2
  rw [Exit.noGoto_ret]
  go_ret2
  exact ⟨rfl, rfl⟩
set_option maxHeartbeats 1000000 in
theorem parse_llx (s : ByteArray) (w : World) (hs : s.size = 3) (a0 : ((s[0].toNat : Int) == 45) = false) (b0 : ((s[0].toNat : Int) == (((⟨#[114, 119, 103]⟩ : ByteArray)[0]).toNat : Int)) = true) (a1 : ((s[1].toNat : Int) == 45) = false) (b1 : ((s[1].toNat : Int) == (((⟨#[114, 119, 103]⟩ : ByteArray)[1]).toNat : Int)) = true) (a2 : ((s[2].toNat : Int) == 45) = false) (b2 : ((s[2].toNat : Int) == (((⟨#[114, 119, 103]⟩ : ByteArray)[2]).toNat : Int)) = false) :
    Calls Try.prog 11 #[.string s] w fun e w' => e = .returned (.tuple #[.int .i64 0, .int .i64 5]) ∧ w = w' := by
  have h3 : ((s.size : Int) != 3) = false := by simp [hs]
  have hl : 0 < s.size ∧ 1 < s.size ∧ 2 < s.size := by omega
  obtain ⟨l0, l1, l2⟩ := hl
  have o01 := or01
  have o02 := or02
  have o12 := or12
  have o04 := or04
  have o14 := or14
  have o24 := or24
  have o34 := or34
  go_enter Try.func11, Try.ntmps11
  go_wp2
  go_step3
  go_wp2
  go_step3
  go_wp2
  refine wp_loop_rounds 4 ?_
  rw [rounds_succ]; go_wp2
  rw [rounds_succ]; go_wp2
  rw [rounds_succ]; go_wp2
  rw [Exit.noGoto_ret]
  go_ret2
  exact ⟨rfl, rfl⟩
set_option maxHeartbeats 1000000 in
theorem parse_ddd (s : ByteArray) (w : World) (hs : s.size = 3) (a0 : ((s[0].toNat : Int) == 45) = true) (a1 : ((s[1].toNat : Int) == 45) = true) (a2 : ((s[2].toNat : Int) == 45) = true) :
    Calls Try.prog 11 #[.string s] w fun e w' => e = .returned (.tuple #[.int .i64 0, .int .i64 0]) ∧ w = w' := by
  have h3 : ((s.size : Int) != 3) = false := by simp [hs]
  have hl : 0 < s.size ∧ 1 < s.size ∧ 2 < s.size := by omega
  obtain ⟨l0, l1, l2⟩ := hl
  have o01 := or01
  have o02 := or02
  have o12 := or12
  have o04 := or04
  have o14 := or14
  have o24 := or24
  have o34 := or34
  go_enter Try.func11, Try.ntmps11
  go_wp2
  go_step3
  go_wp2
  go_step3
  go_wp2
  refine wp_loop_rounds 4 ?_
  rw [rounds_succ]; go_wp2
  rw [rounds_succ]; go_wp2
  rw [rounds_succ]; go_wp2
  rw [rounds_succ]; go_wp2
  rw [Exit.noGoto_ret]
  go_ret2
  exact ⟨rfl, rfl⟩
set_option maxHeartbeats 1000000 in
theorem parse_ddl (s : ByteArray) (w : World) (hs : s.size = 3) (a0 : ((s[0].toNat : Int) == 45) = true) (a1 : ((s[1].toNat : Int) == 45) = true) (a2 : ((s[2].toNat : Int) == 45) = false) (b2 : ((s[2].toNat : Int) == (((⟨#[114, 119, 103]⟩ : ByteArray)[2]).toNat : Int)) = true) :
    Calls Try.prog 11 #[.string s] w fun e w' => e = .returned (.tuple #[.int .i64 4, .int .i64 0]) ∧ w = w' := by
  have h3 : ((s.size : Int) != 3) = false := by simp [hs]
  have hl : 0 < s.size ∧ 1 < s.size ∧ 2 < s.size := by omega
  obtain ⟨l0, l1, l2⟩ := hl
  have o01 := or01
  have o02 := or02
  have o12 := or12
  have o04 := or04
  have o14 := or14
  have o24 := or24
  have o34 := or34
  go_enter Try.func11, Try.ntmps11
  go_wp2
  go_step3
  go_wp2
  go_step3
  go_wp2
  refine wp_loop_rounds 4 ?_
  rw [rounds_succ]; go_wp2
  rw [rounds_succ]; go_wp2
  rw [rounds_succ]; go_wp2
  rw [rounds_succ]; go_wp2
  rw [Exit.noGoto_ret]
  go_ret2
  exact ⟨rfl, rfl⟩
set_option maxHeartbeats 1000000 in
theorem parse_dld (s : ByteArray) (w : World) (hs : s.size = 3) (a0 : ((s[0].toNat : Int) == 45) = true) (a1 : ((s[1].toNat : Int) == 45) = false) (b1 : ((s[1].toNat : Int) == (((⟨#[114, 119, 103]⟩ : ByteArray)[1]).toNat : Int)) = true) (a2 : ((s[2].toNat : Int) == 45) = true) :
    Calls Try.prog 11 #[.string s] w fun e w' => e = .returned (.tuple #[.int .i64 2, .int .i64 0]) ∧ w = w' := by
  have h3 : ((s.size : Int) != 3) = false := by simp [hs]
  have hl : 0 < s.size ∧ 1 < s.size ∧ 2 < s.size := by omega
  obtain ⟨l0, l1, l2⟩ := hl
  have o01 := or01
  have o02 := or02
  have o12 := or12
  have o04 := or04
  have o14 := or14
  have o24 := or24
  have o34 := or34
  go_enter Try.func11, Try.ntmps11
  go_wp2
  go_step3
  go_wp2
  go_step3
  go_wp2
  refine wp_loop_rounds 4 ?_
  rw [rounds_succ]; go_wp2
  rw [rounds_succ]; go_wp2
  rw [rounds_succ]; go_wp2
  rw [rounds_succ]; go_wp2
  rw [Exit.noGoto_ret]
  go_ret2
  exact ⟨rfl, rfl⟩
set_option maxHeartbeats 1000000 in
theorem parse_dll (s : ByteArray) (w : World) (hs : s.size = 3) (a0 : ((s[0].toNat : Int) == 45) = true) (a1 : ((s[1].toNat : Int) == 45) = false) (b1 : ((s[1].toNat : Int) == (((⟨#[114, 119, 103]⟩ : ByteArray)[1]).toNat : Int)) = true) (a2 : ((s[2].toNat : Int) == 45) = false) (b2 : ((s[2].toNat : Int) == (((⟨#[114, 119, 103]⟩ : ByteArray)[2]).toNat : Int)) = true) :
    Calls Try.prog 11 #[.string s] w fun e w' => e = .returned (.tuple #[.int .i64 6, .int .i64 0]) ∧ w = w' := by
  have h3 : ((s.size : Int) != 3) = false := by simp [hs]
  have hl : 0 < s.size ∧ 1 < s.size ∧ 2 < s.size := by omega
  obtain ⟨l0, l1, l2⟩ := hl
  have o01 := or01
  have o02 := or02
  have o12 := or12
  have o04 := or04
  have o14 := or14
  have o24 := or24
  have o34 := or34
  go_enter Try.func11, Try.ntmps11
  go_wp2
  go_step3
  go_wp2
  go_step3
  go_wp2
  refine wp_loop_rounds 4 ?_
  rw [rounds_succ]; go_wp2
  rw [rounds_succ]; go_wp2
  rw [rounds_succ]; go_wp2
  rw [rounds_succ]; go_wp2
  rw [Exit.noGoto_ret]
  go_ret2
  exact ⟨rfl, rfl⟩
set_option maxHeartbeats 1000000 in
theorem parse_ldd (s : ByteArray) (w : World) (hs : s.size = 3) (a0 : ((s[0].toNat : Int) == 45) = false) (b0 : ((s[0].toNat : Int) == (((⟨#[114, 119, 103]⟩ : ByteArray)[0]).toNat : Int)) = true) (a1 : ((s[1].toNat : Int) == 45) = true) (a2 : ((s[2].toNat : Int) == 45) = true) :
    Calls Try.prog 11 #[.string s] w fun e w' => e = .returned (.tuple #[.int .i64 1, .int .i64 0]) ∧ w = w' := by
  have h3 : ((s.size : Int) != 3) = false := by simp [hs]
  have hl : 0 < s.size ∧ 1 < s.size ∧ 2 < s.size := by omega
  obtain ⟨l0, l1, l2⟩ := hl
  have o01 := or01
  have o02 := or02
  have o12 := or12
  have o04 := or04
  have o14 := or14
  have o24 := or24
  have o34 := or34
  go_enter Try.func11, Try.ntmps11
  go_wp2
  go_step3
  go_wp2
  go_step3
  go_wp2
  refine wp_loop_rounds 4 ?_
  rw [rounds_succ]; go_wp2
  rw [rounds_succ]; go_wp2
  rw [rounds_succ]; go_wp2
  rw [rounds_succ]; go_wp2
  rw [Exit.noGoto_ret]
  go_ret2
  exact ⟨rfl, rfl⟩
set_option maxHeartbeats 1000000 in
theorem parse_ldl (s : ByteArray) (w : World) (hs : s.size = 3) (a0 : ((s[0].toNat : Int) == 45) = false) (b0 : ((s[0].toNat : Int) == (((⟨#[114, 119, 103]⟩ : ByteArray)[0]).toNat : Int)) = true) (a1 : ((s[1].toNat : Int) == 45) = true) (a2 : ((s[2].toNat : Int) == 45) = false) (b2 : ((s[2].toNat : Int) == (((⟨#[114, 119, 103]⟩ : ByteArray)[2]).toNat : Int)) = true) :
    Calls Try.prog 11 #[.string s] w fun e w' => e = .returned (.tuple #[.int .i64 5, .int .i64 0]) ∧ w = w' := by
  have h3 : ((s.size : Int) != 3) = false := by simp [hs]
  have hl : 0 < s.size ∧ 1 < s.size ∧ 2 < s.size := by omega
  obtain ⟨l0, l1, l2⟩ := hl
  have o01 := or01
  have o02 := or02
  have o12 := or12
  have o04 := or04
  have o14 := or14
  have o24 := or24
  have o34 := or34
  go_enter Try.func11, Try.ntmps11
  go_wp2
  go_step3
  go_wp2
  go_step3
  go_wp2
  refine wp_loop_rounds 4 ?_
  rw [rounds_succ]; go_wp2
  rw [rounds_succ]; go_wp2
  rw [rounds_succ]; go_wp2
  rw [rounds_succ]; go_wp2
  rw [Exit.noGoto_ret]
  go_ret2
  exact ⟨rfl, rfl⟩
set_option maxHeartbeats 1000000 in
theorem parse_lld (s : ByteArray) (w : World) (hs : s.size = 3) (a0 : ((s[0].toNat : Int) == 45) = false) (b0 : ((s[0].toNat : Int) == (((⟨#[114, 119, 103]⟩ : ByteArray)[0]).toNat : Int)) = true) (a1 : ((s[1].toNat : Int) == 45) = false) (b1 : ((s[1].toNat : Int) == (((⟨#[114, 119, 103]⟩ : ByteArray)[1]).toNat : Int)) = true) (a2 : ((s[2].toNat : Int) == 45) = true) :
    Calls Try.prog 11 #[.string s] w fun e w' => e = .returned (.tuple #[.int .i64 3, .int .i64 0]) ∧ w = w' := by
  have h3 : ((s.size : Int) != 3) = false := by simp [hs]
  have hl : 0 < s.size ∧ 1 < s.size ∧ 2 < s.size := by omega
  obtain ⟨l0, l1, l2⟩ := hl
  have o01 := or01
  have o02 := or02
  have o12 := or12
  have o04 := or04
  have o14 := or14
  have o24 := or24
  have o34 := or34
  go_enter Try.func11, Try.ntmps11
  go_wp2
  go_step3
  go_wp2
  go_step3
  go_wp2
  refine wp_loop_rounds 4 ?_
  rw [rounds_succ]; go_wp2
  rw [rounds_succ]; go_wp2
  rw [rounds_succ]; go_wp2
  rw [rounds_succ]; go_wp2
  rw [Exit.noGoto_ret]
  go_ret2
  exact ⟨rfl, rfl⟩
set_option maxHeartbeats 1000000 in
theorem parse_lll (s : ByteArray) (w : World) (hs : s.size = 3) (a0 : ((s[0].toNat : Int) == 45) = false) (b0 : ((s[0].toNat : Int) == (((⟨#[114, 119, 103]⟩ : ByteArray)[0]).toNat : Int)) = true) (a1 : ((s[1].toNat : Int) == 45) = false) (b1 : ((s[1].toNat : Int) == (((⟨#[114, 119, 103]⟩ : ByteArray)[1]).toNat : Int)) = true) (a2 : ((s[2].toNat : Int) == 45) = false) (b2 : ((s[2].toNat : Int) == (((⟨#[114, 119, 103]⟩ : ByteArray)[2]).toNat : Int)) = true) :
    Calls Try.prog 11 #[.string s] w fun e w' => e = .returned (.tuple #[.int .i64 7, .int .i64 0]) ∧ w = w' := by
  have h3 : ((s.size : Int) != 3) = false := by simp [hs]
  have hl : 0 < s.size ∧ 1 < s.size ∧ 2 < s.size := by omega
  obtain ⟨l0, l1, l2⟩ := hl
  have o01 := or01
  have o02 := or02
  have o12 := or12
  have o04 := or04
  have o14 := or14
  have o24 := or24
  have o34 := or34
  go_enter Try.func11, Try.ntmps11
  go_wp2
  go_step3
  go_wp2
  go_step3
  go_wp2
  refine wp_loop_rounds 4 ?_
  rw [rounds_succ]; go_wp2
  rw [rounds_succ]; go_wp2
  rw [rounds_succ]; go_wp2
  rw [rounds_succ]; go_wp2
  rw [Exit.noGoto_ret]
  go_ret2
  exact ⟨rfl, rfl⟩
end Go.Proofs.Ytenbnclalcgdkaa
