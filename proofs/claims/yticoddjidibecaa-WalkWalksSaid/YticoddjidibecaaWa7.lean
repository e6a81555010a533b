/- Chapter 5's statements: the memories, awake; the law WalkChain. -/
import Derived.Test.YticoddjidibecaaWa5
import Derived.Test.YticoddjidibecaaWa6
import Derived.Test.YticoddjidibecaaActs
import Derived.Test.YticoddjidibecaaLowL
namespace Go.Proofs.Yticoddjidibecaa
set_option linter.unusedVariables false
set_option linter.unusedSimpArgs false
open Go.ChangeShapes Go.WideShapes Go.ChangeAt Go.RowKit Go.Shelf

/-- A list of words. -/
def WordsAt (w : World) (p : Option Addr) (n : Nat) (D : Nat → Int) : Prop :=
  ∃ b off, (0 < n → p = some ⟨b, off, none⟩ ∧ b < w.heap.size) ∧ ∀ k, k < n → w.cell? ⟨b, off + k, none⟩ = some (.int .u64 (D k)) ∧ WordI (D k)
theorem open_s22 {H : Type} {enc : TypeId × Value → H} {W : World} {base : Nat} {v : Value} {d : DataW H} {ps : List MemPlace} (hval : Value.okWide Try.prog W .any base 22 v) (hd : DataW.Trod enc Try.prog W 0 (fun _ => true) true 22 v d ps) :
    ∃ p n c, v = .slice p n c ∧ n ≤ c ∧ c ≤ maxLen ∧ ∃ D, WordsAt W p n D := by
  obtain ⟨p, n, c, rfl, h1, h2, b, off, h3, h4⟩ := open_rows (C := 1) Try.underlying22 (by kernel_rfl) (by kernel_rfl) (by decide) hval hd
  refine ⟨p, n, c, rfl, h1, h2, fun k => intAt W b (off + (k * 1 + 0)), b, off, h3, fun k hk => ?_⟩
  obtain ⟨c0, o0⟩ := h4 k hk 0 (.i .u64) (by kernel_rfl)
  refine ⟨?_, u64_of o0⟩
  simpa using c0
/-- The memory of so many words. -/
def memL (n : Nat) (D : Nat → Int) : Nat → Nat → Int
  | 0 => fun _ => 0
  | k + 1 => storeF n (memL n D k) (8 * (k : Int)) (D k)
set_option maxHeartbeats 2000000 in
theorem both_no (W : World) (fr : Int) (p : Option Addr) (l c : Nat) (h : fr < 1 ∨ 64 < fr) :
    Calls Try.prog 8 #[.int .i64 fr, .slice p l c] W fun e w' => e = .returned (.tuple #[.pointer none, .pointer none]) ∧ Below W.heap.size W w' := by
  have H := Lib.hid h
  clear h
  by_cases hl : 0 < l
  all_goals
    go_enter Try.func8, Try.ntmps8
    go_wp2_with (first
      | (go_at_call 17; refine (new_bad _ fr H.out).mono ?_; rintro e w1 ⟨rfl, rfl⟩)
      | (go_at_call 22; refine (rnew_bad _ fr H.out).mono ?_; rintro e w2 ⟨rfl, rfl⟩))
    refine wp_loop_rounds 1 ?_
    rw [rounds_succ]
    go_wp2
    go_ret2
    exact ⟨rfl, Below.refl _ _⟩
set_option maxHeartbeats 4000000 in
theorem both_yes (W : World) (n : Nat) (p : Option Addr) (l c : Nat) (D : Nat → Int) (h1 : 1 ≤ n) (h64 : n ≤ 64) (hl : l ≤ 128) (hD : WordsAt W p l D) :
    Calls Try.prog 8 #[.int .i64 n, .slice p l c] W fun e w' => ∃ b g c rb rg rc, e = .returned (.tuple #[.pointer (some ⟨b, 0, none⟩), .pointer (some ⟨rb, 0, none⟩)]) ∧ MemAt w' b g n c (memL n D l) ∧ RefAt w' rb rg n rc (memL n D l) ∧ Below W.heap.size W w' := by
  obtain ⟨pb, off, hp, hd⟩ := hD
  have HP := Lib.hid hp
  have HD := Lib.hid hd
  clear hp hd
  go_enter Try.func8, Try.ntmps8
  go_wp2_with (fail)
  refine (new_ok _ n h1 h64).mono ?_
  rintro e w1 ⟨b, g, c1, rfl, hm1, hb1, hg1, hw1⟩
  have HM1 := Lib.hid hm1
  clear hm1
  go_wp2_with (fail)
  refine (rnew_ok _ n h1 h64).mono ?_
  rintro e w2 ⟨rb, rg, rc, rfl, hr2, hb2, hg2, hw2⟩
  have HR2 := Lib.hid hr2
  have HM2 := Lib.hid (HM1.out.call hw2)
  have hW2 := bgo hw1 hw2
  have hs1 := hw1.size
  have lb := HM1.out.lb
  have lg := HM1.out.lg
  clear hr2
  go_wp2
  go_loopw [10] (fun i wr => ∃ k : Nat, k ≤ l ∧ i = .int .i64 k ∧ Hid (MemAt wr b g n c1 (memL n D k)) ∧ Hid (RefAt wr rb rg n rc (memL n D k)) ∧ Below W.heap.size W wr) (fun i _ => l - (intOf i).toNat)
  case atStart => exact ⟨0, by omega, rfl, HM2, HR2, hW2⟩
  case round =>
    obtain ⟨k, hk, rfl, HM, HR, hB⟩ := hrel
    by_cases hlt : k < l
    · have hlt' : (k : Int) < l := by omega
      obtain ⟨rfl, hpb⟩ := HP.out (by omega)
      obtain ⟨c0, hwd⟩ := HD.out k hlt
      have c2 : wr.cell? ⟨pb, off + k, none⟩ = some (.int .u64 (D k)) := (hB.cell (p := ⟨pb, off + k, none⟩) hpb).trans c0
      have HW := Lib.hid hwd
      have hpb2 := hB.size
      have HWA : Hid (WordI (8 * (k : Int))) := Lib.hid ⟨by omega, by omega⟩
      have lb2 := HM.out.lb
      have lg2 := HM.out.lg
      have rlb2 := HR.out.lb
      have rlg2 := HR.out.lg
      clear hwd c0
      go_wp2_with (first
        | (go_at_call 18; refine (store_gen _ b g n c1 (memL n D k) (8 * (k : Int)) (D k) HM.out HWA.out HW.out).mono ?_; rintro e w3 ⟨rfl, hm3, ho3⟩; have c3 : w3.cell? ⟨pb, off + k, none⟩ = some (.int .u64 (D k)) := ((cell_of_block (ho3.block pb (by omega) (by omega))).trans c2); have HR3 := Lib.hid (ho3.ref HR.out (by omega) (by omega)); have HM3 := Lib.hid hm3; clear hm3)
        | (go_at_call 23; refine (rstore_gen _ rb rg n rc (memL n D k) (8 * (k : Int)) (D k) HR3.out HWA.out HW.out).mono ?_; rintro e w4 ⟨rfl, hr4, ho4⟩))
      go_roundw
      case rel => exact ⟨k + 1, by omega, by go_num, Lib.hid (ho4.mem HM3.out (by omega) (by omega)), Lib.hid hr4, (hB.trans (ho3.below hg1 lg2)).trans (ho4.below (by omega) (by have := ho3.size; omega))⟩
      case measure => simp [intOf]; omega
    · obtain rfl : k = l := by omega
      go_wp2
      go_ret2
      first
        | exact ⟨_, _, _, _, _, _, rfl, HM.out, HR.out, hB⟩
        | exact ⟨_, rfl, _, _, _, rfl, _, HM.out, HR.out, hB⟩
/-- An entry's cells. -/
def EntAt (w : World) (q : Nat) (v l r x : Bool) (f : Int) : Prop :=
  w.cell? ⟨q, 0, none⟩ = some (.bool v) ∧ w.cell? ⟨q, 1, none⟩ = some (.bool l) ∧ w.cell? ⟨q, 2, none⟩ = some (.bool r) ∧ w.cell? ⟨q, 3, none⟩ = some (.bool x) ∧ w.cell? ⟨q, 4, none⟩ = some (.int .i64 f)
theorem ent_new (W : World) (v l r x : Bool) (f : Int) : EntAt (W.alloc (.cells #[.bool v, .bool l, .bool r, .bool x, .int .i64 f] 38)) W.heap.size v l r x f := by
  refine ⟨?_, ?_, ?_, ?_, ?_⟩ <;> (rw [cellE]; rfl)
theorem EntAt.keep {w w' : World} {q : Nat} {v l r x : Bool} {f : Int} (h : EntAt w q v l r x f) (hq : q < w.heap.size) (hb : Below w.heap.size w w') : EntAt w' q v l r x f := by
  obtain ⟨h0, h1, h2, h3, h4⟩ := h
  have e := cell_of_block (j := 0) (hb.block q hq)
  exact ⟨(cell_of_block (hb.block q hq)).trans h0, (cell_of_block (hb.block q hq)).trans h1, (cell_of_block (hb.block q hq)).trans h2, (cell_of_block (hb.block q hq)).trans h3, (cell_of_block (hb.block q hq)).trans h4⟩
theorem awake5_mem : walkC 4 (updM (updM (updM (fun _ => 0) 0 257) 8 513) 16 775) 0 0 = 0 ∧ atF 4 (updM (updM (updM (fun _ => 0) 0 257) 8 513) 16 775) 0 64 1 = (8, 0) ∧ leafW (updM (updM (updM (fun _ => 0) 0 257) 8 513) 16 775) (atF 4 (updM (updM (updM (fun _ => 0) 0 257) 8 513) 16 775) 0 0 3).1 = 775 := by decide +kernel
theorem entW_775 : entW 775 = .agg #[.bool true, .bool true, .bool true, .bool false, .int .i64 3] := by rfl
set_option maxHeartbeats 2000000 in
theorem awake5 (W : World) : Calls Try.prog 7 #[] W fun e w' => e = .returned (.bool true) ∧ Below W.heap.size W w' := by
  have hv257 : WordI 257 := ⟨by decide, by decide⟩
  have hv513 : WordI 513 := ⟨by decide, by decide⟩
  have hv775 : WordI 775 := ⟨by decide, by decide⟩
  go_enter Try.func7, Try.ntmps7
  go_wp2_with (fail)
  refine (new_ok _ 4 (by decide) (by decide)).mono ?_
  rintro e w1 ⟨b, g, c, rfl, hm1, hb1, hg1, hw1⟩
  have lg1 := hm1.lg
  have HM1 := Lib.hid hm1
  clear hm1
  go_wp2_with (first
    | (go_at_call 18; with_reducible refine (store_at w1 b g 4 c _ 0 0 257 HM1.out (by decide) (by decide) hv257).mono ?_; rintro e w2 ⟨rfl, hm2, ho2⟩; have HM2 := Lib.hid hm2; clear hm2)
    | (go_at_call 18; with_reducible refine (store_at w2 b g 4 c _ 64 8 513 HM2.out (by decide) (by decide) hv513).mono ?_; rintro e w3 ⟨rfl, hm3, ho3⟩; have HM3 := Lib.hid hm3; clear hm3)
    | (go_at_call 18; with_reducible refine (store_at w3 b g 4 c _ 128 16 775 HM3.out (by decide) (by decide) hv775).mono ?_; rintro e w4 ⟨rfl, hm4, ho4⟩; have HM4 := Lib.hid hm4; clear hm4)
    | (go_at_call 14; refine (walk_ok w4 b g 4 c _ 0 0 HM4.out awake5_mem.1).mono ?_; rw [awake5_mem.2.2, entW_775]; rintro e w5 ⟨rfl, hb5⟩)
    | (go_at_call 9; refine (at_gen _ b g 4 c _ 0 64 1 (HM4.out.call (hb5.trans ((bal (Below.refl _ _) _).mono hb5.size)))).mono ?_; rw [awake5_mem.2.1]; rintro e w6 ⟨rfl, hb6⟩; obtain ⟨x0, x1, x2, x3, x4⟩ := (ent_new w5 true true true false 3).keep (by simp) hb6))
  go_ret
  have B2 := hw1.trans (ho2.below hg1 lg1)
  have lg2 := ho2.lt lg1
  have B3 := B2.trans (ho3.below hg1 lg2)
  have B4 := B3.trans (ho4.below hg1 (ho3.lt lg2))
  exact ⟨rfl, bgo (bal (bgo B4 hb5) _) hb6⟩
end Go.Proofs.Yticoddjidibecaa
