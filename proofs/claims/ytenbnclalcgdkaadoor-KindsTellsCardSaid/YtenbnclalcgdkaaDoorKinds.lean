/- Contracts of package kinds and of chapter 10's own answer; the walks of the laws on kinds. -/
import Derived.Test.YtenbnclalcgdkaaDoorVars
import Derived.WalkKit
import Derived.ProofKit
import Derived.WalkSmall
import Derived.ShutString
namespace Go.Proofs.YtenbnclalcgdkaaDoor
set_option linter.unusedVariables false
open Go.ChangeShapes Go.WideShapes Go.ChangeAt Go.RowKit

theorem ret_bool {a b : Bool} (h : a = b) : Ending.returned (.bool a) = .returned (.bool b) := by rw [h]
theorem ret_int {k : IntKind} {a b : Int} (h : a = b) : Ending.returned (.int k a) = .returned (.int k b) := by rw [h]

def framesN (k s : Int) : Int :=
  if k = 1 then (if 1 ≤ s ∧ s ≤ 64 then s else 0)
  else if k = 2 then (if s = 1 ∨ s = 2 then 1 else if s = 3 then 2 else if s = 4 then 4 else 0)
  else if (k = 3 ∨ k = 4 ∨ k = 5 ∨ k = 6 ∨ k = 8 ∨ k = 9) ∧ s = 0 then 1 else 0

set_option maxHeartbeats 1000000 in
theorem frames_any (k s : Int) (w : World) : Calls Tryd.prog 6 #[.int .i64 k, .int .i64 s] w fun e w' => e = .returned (.int .i64 (framesN k s)) ∧ w = w' := by
  go_enter Tryd.func6, Tryd.ntmps6
  go_wp2
  all_goals go_ret
  all_goals refine ⟨ret_int ?_, rfl⟩
  all_goals (simp only [beq_iff_eq, beq_eq_false_iff_ne, ne_eq] at *)
  all_goals unfold framesN
  all_goals first
    | (repeat' split) <;> omega
    | (obtain rfl | rfl : s = 3 ∨ s = 4 := by omega
       all_goals (subst k; decide +kernel))

def slotsN (k s : Int) : Int :=
  if k = 9 ∧ s = 0 then 3 else if k = 2 then (if s = 1 then 2 else if s = 2 then 4 else if s = 3 then 8 else if s = 4 then 16 else 0) else 0
set_option maxHeartbeats 1000000 in
theorem slots_any (k s : Int) (w : World) : Calls Tryd.prog 8 #[.int .i64 k, .int .i64 s] w fun e w' => e = .returned (.int .i64 (slotsN k s)) ∧ w = w' := by
  go_enter Tryd.func8, Tryd.ntmps8
  go_wp2
  all_goals go_ret
  all_goals refine ⟨ret_int ?_, rfl⟩
  all_goals (try simp only [beq_iff_eq, beq_eq_false_iff_ne, ne_eq] at *)
  all_goals unfold slotsN
  all_goals first
    | (repeat' split) <;> omega
    | (obtain rfl | rfl | rfl | rfl : s = 1 ∨ s = 2 ∨ s = 3 ∨ s = 4 := by omega
       all_goals (subst k; decide +kernel))

/-- The ten names, as the program's text lays them. -/
def namesA : Array Value := #[.string ⟨#[110, 111, 110, 101]⟩, .string ⟨#[117, 110, 116, 121, 112, 101, 100]⟩, .string ⟨#[110, 111, 100, 101]⟩, .string ⟨#[102, 114, 97, 109, 101]⟩, .string ⟨#[116, 97, 98, 108, 101]⟩, .string ⟨#[114, 111, 111, 116]⟩, .string ⟨#[112, 111, 111, 108]⟩, .string ⟨#[99, 111, 110, 116, 114, 111, 108]⟩, .string ⟨#[101, 110, 100, 112, 111, 105, 110, 116]⟩, .string ⟨#[116, 104, 114, 101, 97, 100]⟩]

theorem strs_of_array {H : Type} {enc : TypeId × Value → H} {P : Program} {w : World} {base : Nat} {sp : Nat → Bool} {held : Bool} {fuel : Nat} {t e : TypeId} {n : Nat} {cs : List Value} {ss : List ByteArray} {p : List MemPlace}
    (ht : P.underlying t = some (.array n e)) (he : P.underlying e = some .string) (hce : P.cellsOf e = 1) (hct : P.cellsOf t = n)
    (h : DataW.trod enc P w base sp held fuel t cs = some (.agg (ss.map fun s => .lit (.string s.data.toList)), p)) : cs = ss.map fun s => Value.string s := by
  cases fuel with
  | zero => simp [DataW.trod] at h
  | succ fuel =>
    simp only [DataW.trod, ht, hce, hct, Nat.mul_one] at h
    split at h
    · rename_i hl
      obtain ⟨xs, hm, hx⟩ := Option.map_eq_some_iff.1 h
      have hxs : xs.map (·.1) = ss.map fun s => (DataW.lit (.string s.data.toList) : DataW H) := by
        have := congrArg Prod.fst hx
        simpa using this
      have hxl : xs.length = n := by simpa using Lib.mapM_length hm
      have hzl : ss.length = n := by
        have := congrArg List.length hxs
        simp at this
        omega
      apply List.ext_getElem?
      intro i
      by_cases hi : i < n
      · obtain ⟨b, hb, hf⟩ := Lib.mapM_at hm i i (by simp [hi])
        obtain ⟨s, hc, rfl, _⟩ := DataW.trod_string he hf
        have h1 : cs[i]? = some (.string s) := by
          have := congrArg (·[0]?) hc
          simpa [List.getElem?_take, List.getElem?_drop] using this
        have h2 : (xs.map (·.1))[i]? = some (DataW.lit (.string s.data.toList) : DataW H) := by simp [hb]
        rw [hxs] at h2
        simp only [List.getElem?_map, Option.map_eq_some_iff, DataW.lit.injEq, Lit.string.injEq] at h2
        obtain ⟨s', hs', he'⟩ := h2
        have : s' = s := by cases s; cases s'; simp at he'; simp [he']
        subst this
        simp [h1, hs']
      · rw [List.getElem?_eq_none (by omega), List.getElem?_eq_none (by simp; omega)]
    · cases h

def NamesAt (W : World) : Prop := ∃ t fr, W.heap[0]? = some (.cells namesA t fr)
def LaidV_laid_seisin_kinds_names (W : World) : Prop := NamesAt W ∧ 0 < W.heap.size
theorem laidV_laid_seisin_kinds_names {l : List (String × DataW Unit)} {W : World} (hm : ("seisin/kinds.names", (Rows.laid_seisin_kinds_names : DataW Unit)) ∈ l) (h : laidMet Tryd.prog l W) : LaidV_laid_seisin_kinds_names W := by
  obtain ⟨_, hv, _⟩ := h
  obtain ⟨g, t, cs, fuel, p, hg, hty, hvar, hd⟩ := listed_reads hv _ _ hm
  have k1 : Tryd.prog.globalNamed "seisin/kinds.names" = some 0 := by kernel_rfl
  have k2 : (Tryd.prog.globals[0]?).map (·.type) = some 30 := by kernel_rfl
  obtain rfl := Option.some.inj (k1.symm.trans hg)
  obtain rfl := Option.some.inj (k2.symm.trans hty)
  have e : (Rows.laid_seisin_kinds_names : DataW Unit) = .agg (([⟨#[110, 111, 110, 101]⟩, ⟨#[117, 110, 116, 121, 112, 101, 100]⟩, ⟨#[110, 111, 100, 101]⟩, ⟨#[102, 114, 97, 109, 101]⟩, ⟨#[116, 97, 98, 108, 101]⟩, ⟨#[114, 111, 111, 116]⟩, ⟨#[112, 111, 111, 108]⟩, ⟨#[99, 111, 110, 116, 114, 111, 108]⟩, ⟨#[101, 110, 100, 112, 111, 105, 110, 116]⟩, ⟨#[116, 104, 114, 101, 97, 100]⟩] : List ByteArray).map fun s => .lit (.string s.data.toList)) := by kernel_rfl
  rw [e] at hd
  have hcs := strs_of_array Tryd.underlying30 Tryd.underlying9 (by kernel_rfl) (by kernel_rfl) hd
  have hsz := size_of_var hg hvar
  refine ⟨?_, hsz⟩
  simp only [World.var?, hg, Option.bind_some] at hvar
  split at hvar
  · rename_i cs' t' fr' hh
    have : cs' = cs := Option.some.inj hvar
    subst this
    have e2 : cs' = namesA := by cases cs'; simp at hcs; subst hcs; rfl
    exact ⟨t', fr', by rw [hh, e2]⟩
  · cases hvar

theorem idx0 (w : World) : (Instr.index 30 (.agg namesA) (.int .i64 0)).run Tryd.prog w = .ok (.string ⟨#[110, 111, 110, 101]⟩) w := by kernel_rfl
theorem idx1 (w : World) : (Instr.index 30 (.agg namesA) (.int .i64 1)).run Tryd.prog w = .ok (.string ⟨#[117, 110, 116, 121, 112, 101, 100]⟩) w := by kernel_rfl
theorem idx2 (w : World) : (Instr.index 30 (.agg namesA) (.int .i64 2)).run Tryd.prog w = .ok (.string ⟨#[110, 111, 100, 101]⟩) w := by kernel_rfl
theorem idx3 (w : World) : (Instr.index 30 (.agg namesA) (.int .i64 3)).run Tryd.prog w = .ok (.string ⟨#[102, 114, 97, 109, 101]⟩) w := by kernel_rfl
theorem idx4 (w : World) : (Instr.index 30 (.agg namesA) (.int .i64 4)).run Tryd.prog w = .ok (.string ⟨#[116, 97, 98, 108, 101]⟩) w := by kernel_rfl
theorem idx5 (w : World) : (Instr.index 30 (.agg namesA) (.int .i64 5)).run Tryd.prog w = .ok (.string ⟨#[114, 111, 111, 116]⟩) w := by kernel_rfl
theorem idx6 (w : World) : (Instr.index 30 (.agg namesA) (.int .i64 6)).run Tryd.prog w = .ok (.string ⟨#[112, 111, 111, 108]⟩) w := by kernel_rfl
theorem idx7 (w : World) : (Instr.index 30 (.agg namesA) (.int .i64 7)).run Tryd.prog w = .ok (.string ⟨#[99, 111, 110, 116, 114, 111, 108]⟩) w := by kernel_rfl
theorem idx8 (w : World) : (Instr.index 30 (.agg namesA) (.int .i64 8)).run Tryd.prog w = .ok (.string ⟨#[101, 110, 100, 112, 111, 105, 110, 116]⟩) w := by kernel_rfl
theorem idx9 (w : World) : (Instr.index 30 (.agg namesA) (.int .i64 9)).run Tryd.prog w = .ok (.string ⟨#[116, 104, 114, 101, 97, 100]⟩) w := by kernel_rfl
set_option maxHeartbeats 1000000 in
theorem of_pool (w : World) (hN : NamesAt w) : Calls Tryd.prog 13 #[.string ⟨#[112, 111, 111, 108]⟩] w fun e w' => e = .returned (.tuple #[.int .i64 6, .bool true]) ∧ w = w' := by
  obtain ⟨t, fr, hN⟩ := hN
  go_enter Tryd.func13, Tryd.ntmps13
  go_wp2
  go_step3
  go_wp2
  go_step3
  go_wp2_with (refine wpList_load_row rfl 30 (.global 0) rfl 0 rfl t namesA fr _ hN Tryd.underlying30 rfl (by kernel_rfl) ?_)
  have i0 := idx0; have i1 := idx1; have i2 := idx2; have i3 := idx3; have i4 := idx4; have i5 := idx5; have i6 := idx6
  refine wp_loop_rounds 8 ?_
  rw [rounds_succ]; go_wp2
  rw [rounds_succ]; go_wp2
  rw [rounds_succ]; go_wp2
  rw [rounds_succ]; go_wp2
  rw [rounds_succ]; go_wp2
  rw [rounds_succ]; go_wp2
  rw [rounds_succ]; go_wp2
  rw [Exit.noGoto_ret]
  go_ret2
  exact ⟨rfl, rfl⟩

theorem name_9 (w : World) (hN : NamesAt w) : Calls Tryd.prog 10 #[.int .i64 9] w fun e w' => e = .returned (.string ⟨#[116, 104, 114, 101, 97, 100]⟩) ∧ w = w' := by
  obtain ⟨t, fr, hN⟩ := hN
  have hc : w.cell? ⟨0, 9, none⟩ = some (.string ⟨#[116, 104, 114, 101, 97, 100]⟩) := by simp [World.cell?, hN, namesA]
  go_enter Tryd.func10, Tryd.ntmps10
  go_wp2
  go_ret
  exact ⟨rfl, rfl⟩

theorem awake10 (w : World) (hN : NamesAt w) : Calls Tryd.prog 12 #[] w fun e w' => e = .returned (.bool true) ∧ w = w' := by
  have f1 : (framesN 2 4 == 4) = true := by decide
  have f2 : (slotsN 2 4 == 16) = true := by decide
  go_enter Tryd.func12, Tryd.ntmps12
  go_wp2_with (first
    | (go_at_call 13; refine (of_pool _ hN).mono ?_; rintro e w1 ⟨rfl, rfl⟩)
    | (go_at_call 6; refine (frames_any _ _ _).mono ?_; rintro e w1 ⟨rfl, rfl⟩)
    | (go_at_call 8; refine (slots_any _ _ _).mono ?_; rintro e w1 ⟨rfl, rfl⟩)
    | (go_at_call 10; refine (name_9 _ hN).mono ?_; rintro e w1 ⟨rfl, rfl⟩))
  go_ret
  exact ⟨rfl, rfl⟩

set_option maxHeartbeats 1000000 in
theorem walk_kindsRoom (a0 : Int) (w0 : (Lit.int .i64 a0).wf = true) (W : World) (hL : LaidV_laid_seisin_kinds_names W) :
    Calls Tryd.prog 5 #[.int .i64 a0] W fun e w' => e = .returned (.bool true) ∧ Below W.heap.size W w' := by
  obtain ⟨hN, -⟩ := hL
  clear w0
  by_cases h : a0 = 1 ∨ a0 = 2 ∨ a0 = 3 ∨ a0 = 4
  · rcases h with rfl | rfl | rfl | rfl
    all_goals
      go_enter Tryd.func5, Tryd.ntmps5
      go_wp2_with (first
        | (go_at_call 6; refine (frames_any _ _ _).mono ?_; rintro e w1 ⟨rfl, rfl⟩; simp only [framesN])
        | (go_at_call 8; refine (slots_any _ _ _).mono ?_; rintro e w1 ⟨rfl, rfl⟩; simp only [slotsN])
        | (go_at_call 12; refine (awake10 _ hN).mono ?_; rintro e w1 ⟨rfl, rfl⟩))
      go_ret
      exact ⟨rfl, Below.refl _ _⟩
  · have f1 : slotsN 2 a0 = 0 := by unfold slotsN; (repeat' split) <;> omega
    have f2 : framesN 2 a0 = 0 := by unfold framesN; (repeat' split) <;> omega
    have h2 : a0 < 1 ∨ 4 < a0 := by omega
    rcases h2 with h2 | h2
    all_goals
      go_enter Tryd.func5, Tryd.ntmps5
      go_wp2_with (first
        | (go_at_call 6; refine (frames_any _ _ _).mono ?_; rintro e w1 ⟨rfl, rfl⟩; rw [f2])
        | (go_at_call 8; refine (slots_any _ _ _).mono ?_; rintro e w1 ⟨rfl, rfl⟩; rw [f1])
        | (go_at_call 12; refine (awake10 _ hN).mono ?_; rintro e w1 ⟨rfl, rfl⟩))
      go_ret
      exact ⟨rfl, Below.refl _ _⟩

/-- A kind's name. -/
def nameN (k : Int) : ByteArray := if k = 0 then ⟨#[110, 111, 110, 101]⟩ else if k = 1 then ⟨#[117, 110, 116, 121, 112, 101, 100]⟩ else if k = 2 then ⟨#[110, 111, 100, 101]⟩ else if k = 3 then ⟨#[102, 114, 97, 109, 101]⟩ else if k = 4 then ⟨#[116, 97, 98, 108, 101]⟩ else if k = 5 then ⟨#[114, 111, 111, 116]⟩ else if k = 6 then ⟨#[112, 111, 111, 108]⟩ else if k = 7 then ⟨#[99, 111, 110, 116, 114, 111, 108]⟩ else if k = 8 then ⟨#[101, 110, 100, 112, 111, 105, 110, 116]⟩ else if k = 9 then ⟨#[116, 104, 114, 101, 97, 100]⟩ else ⟨#[]⟩
set_option maxHeartbeats 1000000 in
theorem framesR_any (k s : Int) (w : World) : Calls Tryd.prog 7 #[.int .i64 k, .int .i64 s] w fun e w' => e = .returned (.int .i64 (framesN k s)) ∧ w = w' := by
  go_enter Tryd.func7, Tryd.ntmps7
  go_wp2
  all_goals go_ret
  all_goals refine ⟨ret_int ?_, rfl⟩
  all_goals (try simp only [beq_iff_eq, beq_eq_false_iff_ne, ne_eq] at *)
  all_goals unfold framesN
  all_goals ((repeat' split) <;> omega)
set_option maxHeartbeats 1000000 in
theorem slotsR_any (k s : Int) (w : World) : Calls Tryd.prog 9 #[.int .i64 k, .int .i64 s] w fun e w' => e = .returned (.int .i64 (slotsN k s)) ∧ w = w' := by
  go_enter Tryd.func9, Tryd.ntmps9
  go_wp2
  all_goals go_ret
  all_goals refine ⟨ret_int ?_, rfl⟩
  all_goals (try simp only [beq_iff_eq, beq_eq_false_iff_ne, bne_iff_ne, bne_eq_false_iff_eq, ne_eq] at *)
  all_goals unfold slotsN
  all_goals ((repeat' split) <;> omega)

theorem nameN_out {k : Int} (h : k < 0 ∨ 9 < k) : nameN k = ⟨#[]⟩ := by
  unfold nameN
  rw [if_neg (by omega), if_neg (by omega), if_neg (by omega), if_neg (by omega), if_neg (by omega), if_neg (by omega), if_neg (by omega), if_neg (by omega), if_neg (by omega), if_neg (by omega)]
theorem names_at (k : Int) (h0 : 0 ≤ k) (h9 : k ≤ 9) : namesA[k.toNat]? = some (.string (nameN k)) := by
  obtain rfl | rfl | rfl | rfl | rfl | rfl | rfl | rfl | rfl | rfl : k = 0 ∨ k = 1 ∨ k = 2 ∨ k = 3 ∨ k = 4 ∨ k = 5 ∨ k = 6 ∨ k = 7 ∨ k = 8 ∨ k = 9 := by omega
  all_goals rfl

theorem name_out (k : Int) (w : World) (h : k < 0 ∨ 9 < k) : Calls Tryd.prog 10 #[.int .i64 k] w fun e w' => e = .returned (.string ⟨#[]⟩) ∧ w = w' := by
  rcases h with h | h
  all_goals
    go_enter Tryd.func10, Tryd.ntmps10
    go_wp2
    go_ret
    exact ⟨rfl, rfl⟩
theorem name_in (k : Int) (w : World) (h0 : 0 ≤ k) (h9 : k ≤ 9) (hN : NamesAt w) : Calls Tryd.prog 10 #[.int .i64 k] w fun e w' => e = .returned (.string (nameN k)) ∧ w = w' := by
  obtain ⟨t, fr, hN⟩ := hN
  have hc : w.cell? ⟨0, k.toNat, none⟩ = some (.string (nameN k)) := by simp only [World.cell?, hN]; exact names_at k h0 h9
  go_enter Tryd.func10, Tryd.ntmps10
  go_wp2
  go_ret
  exact ⟨rfl, rfl⟩
set_option maxHeartbeats 1000000 in
theorem nameR_out (k : Int) (w : World) (h : k < 0 ∨ 9 < k) : Calls Tryd.prog 11 #[.int .i64 k] w fun e w' => e = .returned (.string ⟨#[]⟩) ∧ w = w' := by
  have d0 : (k == 0) = false := by simp; omega
  have d1 : (k == 1) = false := by simp; omega
  have d2 : (k == 2) = false := by simp; omega
  have d3 : (k == 3) = false := by simp; omega
  have d4 : (k == 4) = false := by simp; omega
  have d5 : (k == 5) = false := by simp; omega
  have d6 : (k == 6) = false := by simp; omega
  have d7 : (k == 7) = false := by simp; omega
  have d8 : (k == 8) = false := by simp; omega
  have d9 : (k == 9) = false := by simp; omega
  go_enter Tryd.func11, Tryd.ntmps11
  go_wp2
  go_ret
  exact ⟨rfl, rfl⟩
theorem nameR_in (k : Int) (w : World) (h0 : 0 ≤ k) (h9 : k ≤ 9) : Calls Tryd.prog 11 #[.int .i64 k] w fun e w' => e = .returned (.string (nameN k)) ∧ w = w' := by
  obtain rfl | rfl | rfl | rfl | rfl | rfl | rfl | rfl | rfl | rfl : k = 0 ∨ k = 1 ∨ k = 2 ∨ k = 3 ∨ k = 4 ∨ k = 5 ∨ k = 6 ∨ k = 7 ∨ k = 8 ∨ k = 9 := by omega
  all_goals
    go_enter Tryd.func11, Tryd.ntmps11
    go_wp2
    go_ret
    exact ⟨rfl, rfl⟩

set_option maxHeartbeats 1000000 in
theorem walk_kindsTells (a0 : Int) (w0 : (Lit.int .i64 a0).wf = true) (a1 : Int) (w1 : (Lit.int .i64 a1).wf = true) (W : World) (hL : LaidV_laid_seisin_kinds_names W) :
    Calls Tryd.prog 3 #[.int .i64 a0, .int .i64 a1] W fun e w' => e = .returned (.bool true) ∧ Below W.heap.size W w' := by
  obtain ⟨hN, -⟩ := hL
  clear w0 w1
  by_cases h : 0 ≤ a0 ∧ a0 ≤ 9
  · go_enter Tryd.func3, Tryd.ntmps3
    go_wp2_with (first
      | (go_at_call 6; refine (frames_any _ _ _).mono ?_; rintro e w1 ⟨rfl, rfl⟩)
      | (go_at_call 7; refine (framesR_any _ _ _).mono ?_; rintro e w1 ⟨rfl, rfl⟩)
      | (go_at_call 8; refine (slots_any _ _ _).mono ?_; rintro e w1 ⟨rfl, rfl⟩)
      | (go_at_call 9; refine (slotsR_any _ _ _).mono ?_; rintro e w1 ⟨rfl, rfl⟩)
      | (go_at_call 10; refine (name_in _ _ h.1 h.2 hN).mono ?_; rintro e w1 ⟨rfl, rfl⟩)
      | (go_at_call 11; refine (nameR_in _ _ h.1 h.2).mono ?_; rintro e w1 ⟨rfl, rfl⟩)
      | (go_at_call 12; refine (awake10 _ hN).mono ?_; rintro e w1 ⟨rfl, rfl⟩))
    go_ret
    exact ⟨rfl, Below.refl _ _⟩
  · have h' : a0 < 0 ∨ 9 < a0 := by omega
    go_enter Tryd.func3, Tryd.ntmps3
    go_wp2_with (first
      | (go_at_call 6; refine (frames_any _ _ _).mono ?_; rintro e w1 ⟨rfl, rfl⟩)
      | (go_at_call 7; refine (framesR_any _ _ _).mono ?_; rintro e w1 ⟨rfl, rfl⟩)
      | (go_at_call 8; refine (slots_any _ _ _).mono ?_; rintro e w1 ⟨rfl, rfl⟩)
      | (go_at_call 9; refine (slotsR_any _ _ _).mono ?_; rintro e w1 ⟨rfl, rfl⟩)
      | (go_at_call 10; refine (name_out _ _ h').mono ?_; rintro e w1 ⟨rfl, rfl⟩)
      | (go_at_call 11; refine (nameR_out _ _ h').mono ?_; rintro e w1 ⟨rfl, rfl⟩)
      | (go_at_call 12; refine (awake10 _ hN).mono ?_; rintro e w1 ⟨rfl, rfl⟩))
    go_ret
    exact ⟨rfl, Below.refl _ _⟩

/-- Which kind has the name s: 10 if none has. -/
theorem kind_cases (s : ByteArray) : (∃ k : Nat, k ≤ 9 ∧ s = nameN k) ∨ (∀ k : Nat, k ≤ 9 → s ≠ nameN k) := by
  by_cases h : ∃ k : Nat, k ≤ 9 ∧ s = nameN k
  · exact .inl h
  · exact .inr fun k hk e => h ⟨k, hk, e⟩
end Go.Proofs.YtenbnclalcgdkaaDoor
