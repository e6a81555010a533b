/- chapter 35: awake; a text that is read is printed as it stood. -/
import Derived.Test.YthgmanncmekeeaaDoorSd3
namespace Go.Proofs.YthgmanncmekeeaaDoor
set_option linter.unusedVariables false
set_option linter.unusedSimpArgs false
open Go.ChangeShapes Go.WideShapes Go.ChangeAt Go.RowKit Go.Shelf
attribute [-go_sem] binOp_string_add binOp_string_eql binOp_string_neq run_index_string
attribute [local go_sem] Sc.bs_size
namespace Sc
theorem row_form {w : World} {B n : Nat} {v : Value} {xs : List Value} (h : w.ownsRow B 36 15 v n xs) : ∃ p c, v = .slice p n c ∧ n ≤ c := by
  rcases h.2 with ⟨rfl, h0⟩ | ⟨g, cap, cur, rfl, _, _, h1, _⟩
  · exact ⟨none, 0, by rw [h0], by omega⟩
  · exact ⟨_, _, rfl, h1⟩
theorem parse_form (s : Bs) (w : World) (hE : EnvAt w) : Calls Tryd.prog 14 #[.string (bs s)] w fun e w' => ∃ p c, e = .returned (.tuple #[.slice p (parseE s).1.length c, .int .i64 (parseE s).2.1, .int .i64 (parseE s).2.2]) ∧ (parseE s).1.length ≤ c ∧ w'.ownsRow w.heap.size 36 15 (.slice p (parseE s).1.length c) (parseE s).1.length (evsC (parseE s).1) ∧ Below w.heap.size w w' := by
  refine (parse_text s w hE).mono ?_
  rintro e w' ⟨v, rfl, h1, h2⟩
  obtain ⟨p, c, rfl, hc⟩ := row_form h1
  exact ⟨p, c, rfl, hc, h1, h2⟩
def evAw : Ev := fun i => if i = 0 then 4 else if i = 1 then 1 else if i = 10 then 64 else if i = 11 then 7 else 0
def txAw : Bs := [112, 105, 99, 107, 32, 48, 32, 49, 10, 108, 111, 97, 100, 32, 48, 32, 48, 56]
theorem evAw_good : EvG evAw := by
  refine ⟨fun i _ _ => ?_, fun i => ?_⟩
  all_goals
    unfold evAw
    repeat' split
    all_goals omega
theorem line_aw : lineE evAw = ([115, 116, 111, 114, 101, 32, 49, 32, 54, 52, 32, 55], 0) := by
  have h1 : Lib.decDigits 1 = [49] := dd_small (by omega)
  have h7 : Lib.decDigits 7 = [55] := dd_small (by omega)
  have h64 : Lib.decDigits 64 = [54, 52] := by rw [dd_big (by omega), show 64 / 10 = 6 from rfl, dd_small (by omega)]; rfl
  unfold lineE
  rw [if_neg (by decide)]
  show lineR evAw (nm 4) (places 4) = _
  simp [places, lineR, farP, evAw, h1, h7, h64, nm]
theorem parse_aw : parseE txAw = ([], 2, 5) := by
  have hl : lns 10 txAw = [[112, 105, 99, 107, 32, 48, 32, 49], [108, 111, 97, 100, 32, 48, 32, 48, 56]] := by decide +kernel
  unfold parseE
  rw [if_neg (by decide), hl]
  have h1 : (evOf [112, 105, 99, 107, 32, 48, 32, 49]).isNone = false := by decide +kernel
  have h2 : (evOf [108, 111, 97, 100, 32, 48, 32, 48, 56]).isNone = true := by decide +kernel
  simp [List.findIdx?_cons, h1, h2]
set_option maxRecDepth 100000 in
set_option maxHeartbeats 1000000 in
theorem awake_any (w : World) (hE : EnvAt w) : Calls Tryd.prog 8 #[] w fun e w' => e = .returned (.bool true) ∧ Below w.heap.size w w' := by
  have HL : Hid (Calls Tryd.prog 12 #[.agg #[.int .i64 4, .int .i64 1, .int .i64 0, .int .u64 0, .int .u64 0, .int .u64 0, .int .u64 0, .int .u64 0, .int .u64 0, .int .u64 0, .int .u64 64, .int .u64 7, .int .i64 0, .int .i64 0, .int .i64 0]] w fun e w' => e = .returned (.tuple #[.string (bs [115, 116, 111, 114, 101, 32, 49, 32, 54, 52, 32, 55]), .int .i64 0]) ∧ Below w.heap.size w w') := Lib.hid (by
    have := line_any evAw w evAw_good hE
    rw [line_aw] at this
    exact this)
  have HP : Hid (∀ v, Below w.heap.size w v → Calls Tryd.prog 14 #[.string { data := #[112, 105, 99, 107, 32, 48, 32, 49, 10, 108, 111, 97, 100, 32, 48, 32, 48, 56] }] v fun e w' => ∃ p c, e = .returned (.tuple #[.slice p 0 c, .int .i64 2, .int .i64 5]) ∧ Below v.heap.size v w') := Lib.hid (fun v hv => by
    have := parse_form txAw v (hE.call hv)
    rw [parse_aw] at this
    refine this.mono ?_
    rintro e w' ⟨p, c, he, _, _, hb⟩
    exact ⟨p, c, he, hb⟩)
  have he : ∀ w, (binOp .eql 9 (.string (bs [115, 116, 111, 114, 101, 32, 49, 32, 54, 52, 32, 55])) (.string { data := #[115, 116, 111, 114, 101, 32, 49, 32, 54, 52, 32, 55] })).run Tryd.prog w = .ok (.bool true) w := fun w => (eql_bs [115, 116, 111, 114, 101, 32, 49, 32, 54, 52, 32, 55] [115, 116, 111, 114, 101, 32, 49, 32, 54, 52, 32, 55] w).trans (by rw [decide_eq_true rfl])
  clear hE
  go_enter Tryd.func8, Tryd.ntmps8
  go_wp2_with (first
    | (go_at_call 12; (with_reducible refine HL.out.mono ?_); rintro e w1 ⟨rfl, hb1⟩)
    | (go_at_call 14; (with_reducible refine (HP.out _ hb1).mono ?_); rintro e w2 ⟨p, c, rfl, hb2⟩))
  go_ret
  exact ⟨rfl, hb1.trans (hb2.mono hb1.size)⟩
set_option maxRecDepth 100000 in
set_option maxHeartbeats 1000000 in
theorem strict_any (s : Bs) (w : World) (hE : EnvAt w) : Calls Tryd.prog 6 #[.string (bs s)] w fun e w' => e = .returned (.bool true) ∧ Below w.heap.size w w' := by
  have HAW := Lib.hid (fun v (h' : Below w.heap.size w v) => awake_any v (hE.call h'))
  by_cases hl : 20000 < s.length
  · have q : ((20000 : Int) < (s.length : Int)) = True := by rw [eq_iff_iff, iff_true]; omega
    clear hl hE
    go_enter Tryd.func6, Tryd.ntmps6
    go_wp2_with (go_at_call 8; (with_reducible refine (HAW.out _ (Below.refl _ _)).mono ?_); rintro e w1 ⟨rfl, hb1⟩)
    go_ret
    exact ⟨rfl, hb1⟩
  · have q : ((20000 : Int) < (s.length : Int)) = False := by rw [eq_iff_iff, iff_false]; omega
    have HP := Lib.hid (parse_form s w hE)
    obtain ⟨L, a, b, hpe⟩ : ∃ L a b, parseE s = (L, a, b) := ⟨_, _, _, rfl⟩
    have h3 := parseE_three s (by omega)
    have hpp := print_parse s (by omega)
    have hGd := parse_evg s
    have hLl := parse_len s
    rw [hpe] at HP h3 hpp hGd hLl
    simp only at HP h3 hpp hGd hLl
    rcases h3 with ⟨rfl, rfl, -, -⟩ | ⟨rfl, ha, rfl⟩
    · obtain ⟨-, hq1, hq2⟩ := hpp rfl
      obtain ⟨T, z, hpr⟩ : ∃ T z, printE L = (T, z) := ⟨_, _, rfl⟩
      rw [hpr] at hq1 hq2
      simp only at hq1 hq2
      subst hq1
      have HPR : Hid (∀ p c v, EvsAt v (.slice p L.length c) L → Below w.heap.size w v → Calls Tryd.prog 9 #[.slice p L.length c] v fun e w' => e = .returned (.tuple #[.string (bs T), .int .i64 0]) ∧ Below v.heap.size v w') := Lib.hid (fun p c v h1 h2 => by
        have := print_any L (.slice p L.length c) v h1 hGd (hE.call h2) (by omega)
        rw [hpr] at this
        exact this)
      have hadd : ∀ w, (binOp .add 9 (.string (bs s)) (.string { data := #[10] })).run Tryd.prog w = .ok (.string (bs (s ++ [10]))) w := fun w => add_bs s [10] (by simp; omega) w
      have he1 : ∀ w, (binOp .eql 9 (.string (bs T)) (.string (bs s))).run Tryd.prog w = .ok (.bool (decide (T = s))) w := fun w => eql_bs T s w
      have he2 : ∀ w, (binOp .eql 9 (.string (bs T)) (.string (bs (s ++ [10])))).run Tryd.prog w = .ok (.bool (decide (T = s ++ [10]))) w := fun w => eql_bs T (s ++ [10]) w
      clear hpe hpp hGd hLl hpr hE hl
      rcases hq2 with rfl | rfl
      · simp only [decide_true] at he1
        clear he2 hadd
        go_enter Tryd.func6, Tryd.ntmps6
        go_wp2_with (first
          | (go_at_call 14; (with_reducible refine HP.out.mono ?_); rintro e w1 ⟨p, c, rfl, _, hrow, hb1⟩; have HEV := Lib.hid (evsAt_own hrow); clear hrow)
          | (go_at_call 9; (with_reducible refine (HPR.out _ _ _ HEV.out hb1).mono ?_); rintro e w2 ⟨rfl, hb2⟩; have HB2 := Lib.hid (hb1.trans (hb2.mono hb1.size)))
          | (go_at_call 8; (with_reducible refine (HAW.out _ HB2.out).mono ?_); rintro e w3 ⟨rfl, hb3⟩))
        go_ret
        exact ⟨rfl, HB2.out.trans (hb3.mono HB2.out.size)⟩
      · have hf : decide (s ++ [10] = s) = false := decide_eq_false (fun e => by have := congrArg List.length e; simp at this)
        simp only [hf] at he1
        simp only [decide_true] at he2
        go_enter Tryd.func6, Tryd.ntmps6
        go_wp2_with (first
          | (go_at_call 14; (with_reducible refine HP.out.mono ?_); rintro e w1 ⟨p, c, rfl, _, hrow, hb1⟩; have HEV := Lib.hid (evsAt_own hrow); clear hrow)
          | (go_at_call 9; (with_reducible refine (HPR.out _ _ _ HEV.out hb1).mono ?_); rintro e w2 ⟨rfl, hb2⟩; have HB2 := Lib.hid (hb1.trans (hb2.mono hb1.size)))
          | (go_at_call 8; (with_reducible refine (HAW.out _ HB2.out).mono ?_); rintro e w3 ⟨rfl, hb3⟩))
        go_ret
        exact ⟨rfl, HB2.out.trans (hb3.mono HB2.out.size)⟩
    · clear hpp hGd hLl hE hl hpe
      have ha' : (0 < a) = True := by rw [eq_iff_iff, iff_true]; exact ha
      go_enter Tryd.func6, Tryd.ntmps6
      go_wp2_with (first
        | (go_at_call 14; (with_reducible refine HP.out.mono ?_); rintro e w1 ⟨p, c, rfl, _, hrow, hb1⟩; clear hrow; simp only [List.length_nil])
        | (go_at_call 8; (with_reducible refine (HAW.out _ hb1).mono ?_); rintro e w3 ⟨rfl, hb3⟩))
      go_ret
      exact ⟨rfl, hb1.trans (hb3.mono hb1.size)⟩
end Sc
end Go.Proofs.YthgmanncmekeeaaDoor
