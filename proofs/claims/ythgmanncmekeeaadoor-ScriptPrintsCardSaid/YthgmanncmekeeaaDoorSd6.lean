/- chapter 35: lines, and a text behind them. -/
import Derived.Test.YthgmanncmekeeaaDoorSd5
namespace Go.Proofs.YthgmanncmekeeaaDoor
set_option linter.unusedVariables false
set_option linter.unusedSimpArgs false
open Go.ChangeShapes Go.WideShapes Go.ChangeAt Go.RowKit Go.Shelf
attribute [-go_sem] binOp_string_add binOp_string_eql binOp_string_neq run_index_string
attribute [local go_sem] Sc.bs_size
namespace Sc
theorem slice_from (p : Option Addr) (n c k : Nat) (hk : k ≤ n) (w : World) : (Instr.slice 22 (.slice p n c) (some (.int .i64 k)) none none).run Tryd.prog w = .ok (.slice (if c = k then p else p.map (·.add (k * 15))) (n - k) (c - k)) w := by
  have hu := Tryd.underlying22
  have hz := Tryd.sizeOf36
  simp [Instr.slice, Instr.sliceBounds, Instr.sliceBound, asIntOf, go_sem, hk]
theorem sl_ex {w : World} {p : Option Addr} {L M : List Ev} {n m c : Nat} (h : EvM w p (L ++ M)) (hn : L.length = n) (hm : M.length = m) (hc : n + m ≤ c) :
    ∃ p3 c3, (∀ w, (Instr.slice 22 (.slice p (n + m) c) (some (.int .i64 n)) none none).run Tryd.prog w = .ok (.slice p3 m c3) w) ∧ EvM w p3 M := by
  refine ⟨_, _, fun w => (slice_from p (n + m) c n (by omega) w).trans (by rw [Nat.add_sub_cancel_left]), fun k e he => ?_⟩
  have hkl : k < M.length := (List.getElem?_eq_some_iff.1 he).1
  rw [if_neg (by omega)]
  obtain ⟨g, o, rfl, h2⟩ := h (n + k) e (by rw [List.getElem?_append_right (by omega), show n + k - L.length = k by omega]; exact he)
  refine ⟨g, o + n * 15, by simp only [Option.map_some, addr_mid], h2.1, ?_⟩
  rw [Nat.add_assoc, ← Nat.add_mul]
  exact h2.2
theorem parse_at (s : Bs) (hl : s.length ≤ 65536) : (parseE s).2.1 ≤ s.length := by
  unfold parseE
  rw [if_neg (by omega)]
  cases hf : (lns 10 s).findIdx? (fun l => (evOf l).isNone) with
  | none => simp
  | some i =>
    have h1 := (List.findIdx?_eq_some_iff_getElem.1 hf).1
    have h2 := lns_count 10 s
    show ((i : Int) + 1) ≤ _
    omega
set_option maxRecDepth 100000 in
set_option maxHeartbeats 2000000 in
theorem parts_any (L : List Ev) (p : Option Addr) (n cap : Nat) (s : Bs) (w : World) (hE : EnvAt w) (hn : L.length = n) (hM : EvM w p L) (hG : ∀ c ∈ L, EvG c) : Calls Tryd.prog 7 #[.slice p n cap, .string (bs s)] w fun e w' => e = .returned (.bool true) ∧ Below w.heap.size w w' := by
  have HAW := Lib.hid (fun v (h' : Below w.heap.size w v) => awake_any v (hE.call h'))
  by_cases hl : 100 < n
  · have q : ((100 : Int) < (n : Int)) = True := by rw [eq_iff_iff, iff_true]; omega
    clear hl hE hM hn
    go_enter Tryd.func7, Tryd.ntmps7
    go_wp2_with (go_at_call 8; (with_reducible refine (HAW.out _ (Below.refl _ _)).mono ?_); rintro e w1 ⟨rfl, hb1⟩)
    go_ret
    exact ⟨rfl, hb1⟩
  have q : ((100 : Int) < (n : Int)) = False := by rw [eq_iff_iff, iff_false]; omega
  by_cases hs : 20000 < s.length
  · have q2 : ((20000 : Int) < (s.length : Int)) = True := by rw [eq_iff_iff, iff_true]; omega
    clear hs hl hE hM hn
    go_enter Tryd.func7, Tryd.ntmps7
    go_wp2_with (go_at_call 8; (with_reducible refine (HAW.out _ (Below.refl _ _)).mono ?_); rintro e w1 ⟨rfl, hb1⟩)
    go_ret
    exact ⟨rfl, hb1⟩
  have q2 : ((20000 : Int) < (s.length : Int)) = False := by rw [eq_iff_iff, iff_false]; omega
  have HPR : Hid (Calls Tryd.prog 9 #[.slice p n cap] w fun e w' => e = .returned (.tuple #[.string (bs (printE L).1), .int .i64 (printE L).2]) ∧ Below w.heap.size w w') := Lib.hid (print_any L _ w (hM.at hn) hG hE (by omega))
  rcases printE_cases L with ⟨h0, hgd, htl, h1⟩ | ⟨h0, h1⟩
  · rw [h0, h1] at HPR
    have htl2 := txt_len L hG
    have hpa := parse_app L s hG hgd (by rw [List.length_append]; omega)
    have h3 := parseE_three s (by omega)
    have hat := parse_at s (by omega)
    have hml := parse_len s
    obtain ⟨T, hT⟩ : ∃ T, T = txtE L := ⟨_, rfl⟩
    rw [← hT] at HPR hpa htl2
    have HP1 := Lib.hid (fun v (h' : Below w.heap.size w v) => parse_form s v (hE.call h'))
    have HP2 := Lib.hid (fun v (h' : Below w.heap.size w v) => parse_form (T ++ s) v (hE.call h'))
    have hadd : ∀ w, (binOp .add 9 (.string (bs T)) (.string (bs s))).run Tryd.prog w = .ok (.string (bs (T ++ s))) w := fun w => add_bs T s (by omega) w
    obtain ⟨M, a, b, hpe⟩ : ∃ L a b, parseE s = (L, a, b) := ⟨_, _, _, rfl⟩
    rw [hpe] at HP1 hpa h3 hat hml
    simp only at HP1 hpa h3 hat hml
    rcases hpa with ⟨rfl, hpx⟩ | ⟨hb, hpx⟩
    · obtain rfl : a = 0 := by rcases h3 with ⟨_, h, _⟩ | ⟨h, _⟩ <;> omega
      rw [hpx] at HP2
      simp only [List.length_append, List.length_map, hn] at HP2
      obtain ⟨m, hm⟩ : ∃ m, m = M.length := ⟨_, rfl⟩
      rw [← hm] at HP1 HP2 hml
      have HQ1 : Hid (∀ v, Below w.heap.size w v → Calls Tryd.prog 14 #[.string (bs s)] v fun e w' => ∃ p c, e = .returned (.tuple #[.slice p m c, .int .i64 0, .int .i64 0]) ∧ EvM w' p M ∧ Below v.heap.size v w') := Lib.hid (fun v hv => (HP1.out v hv).mono (by
        rintro e w' ⟨p, c, he, _, hrow, hb⟩
        exact ⟨p, c, he, EvM.own (L := M) (by rw [← hm]; exact hrow), hb⟩))
      have HQ2 : Hid (∀ v, Below w.heap.size w v → Calls Tryd.prog 14 #[.string (bs (T ++ s))] v fun e w' => ∃ p c p3 c3, e = .returned (.tuple #[.slice p (n + m) c, .int .i64 0, .int .i64 0]) ∧ (∀ w, (Instr.slice 22 (.slice p (n + m) c) (some (.int .i64 n)) none none).run Tryd.prog w = .ok (.slice p3 m c3) w) ∧ EvM w' p3 M ∧ Below v.heap.size v w') := Lib.hid (fun v hv => (HP2.out v hv).mono (by
        rintro e w' ⟨p, c, he, hc, hrow, hb⟩
        obtain ⟨p3, c3, h1, h2⟩ := sl_ex (L := L.map reE) (M := M) (EvM.own (L := L.map reE ++ M) (by rw [List.length_append, List.length_map, hn, ← hm]; exact hrow)) (by rw [List.length_map, hn]) hm.symm hc
        exact ⟨p, c, p3, c3, he, h1, h2, hb⟩))
      have HSE : Hid (∀ v (a b : Option Addr) c d, EvM v a M → EvM v b M → Calls Tryd.prog 16 #[.slice a m c, .slice b m d] v fun e w' => e = .returned (.bool true) ∧ Below v.heap.size v w') := Lib.hid (fun v a b c d h1 h2 => by
        have := same_evs v a b c d M h1 h2 (by omega)
        rw [← hm] at this
        exact this)
      have hnm : n + m ≤ 30000 := by omega
      have hw : IntKind.i64.wrap ((n : Int) + (m : Int)) = (n : Int) + (m : Int) := IntWalk.i64_in _ (by omega)
      clear HP1 HP2 hpx hpe h3 hat hml hT htl htl2 hgd h0 h1 hE hM hn hG hm hl hs
      go_enter Tryd.func7, Tryd.ntmps7
      go_wp2_with (first
        | (go_at_call 9; (with_reducible refine HPR.out.mono ?_); rintro e w1 ⟨rfl, hb1⟩)
        | (go_at_call 14; (with_reducible refine (HQ2.out _ HB2.out).mono ?_); rintro e w3 ⟨p2, c2, p3, c3, rfl, hsl, hM3, hb3⟩; have HM3 := Lib.hid hM3; have HB3 := Lib.hid (HB2.out.trans (hb3.mono HB2.out.size)); have HM5 := Lib.hid (HM2.out.call hb3); clear hM3 hb3)
        | (go_at_call 14; (with_reducible refine (HQ1.out _ hb1).mono ?_); rintro e w2 ⟨p1, c1, rfl, hM2, hb2⟩; have HM2 := Lib.hid hM2; have HB2 := Lib.hid (hb1.trans (hb2.mono hb1.size)); clear hM2 hb2)
        | (go_at_call 16; (with_reducible refine (HSE.out _ _ _ _ _ HM3.out HM5.out).mono ?_); rintro e w4 ⟨rfl, hb4⟩; have HB4 := Lib.hid (HB3.out.trans (hb4.mono HB3.out.size)))
        | (go_at_call 8; (with_reducible refine (HAW.out _ HB4.out).mono ?_); rintro e w5 ⟨rfl, hb5⟩))
      go_ret
      exact ⟨rfl, HB4.out.trans (hb5.mono HB4.out.size)⟩
    · obtain ⟨rfl, ha, rfl⟩ : b = 5 ∧ 0 < a ∧ M = [] := by
        rcases h3 with ⟨h, _⟩ | h
        · exact absurd h hb
        · exact h
      rw [hpx] at HP2
      simp only [List.length_nil, hn] at HP1 HP2
      have hw : IntKind.i64.wrap (a + (n : Int)) = a + (n : Int) := IntWalk.i64_in _ (by omega)
      have hab : a ≤ 20000 := by omega
      have hn2 : n ≤ 100 := by omega
      clear hpx hpe h3 hat hml hT htl htl2 hgd h0 h1 hE hM hn hG hl hs hb
      go_enter Tryd.func7, Tryd.ntmps7
      go_wp2_with (first
        | (go_at_call 9; (with_reducible refine HPR.out.mono ?_); rintro e w1 ⟨rfl, hb1⟩)
        | (go_at_call 14; (with_reducible refine (HP2.out _ HB2.out).mono ?_); rintro e w3 ⟨p2, c2, rfl, _, hr3, hb3⟩; have HB3 := Lib.hid (HB2.out.trans (hb3.mono HB2.out.size)); clear hr3 hb3)
        | (go_at_call 14; (with_reducible refine (HP1.out _ hb1).mono ?_); rintro e w2 ⟨p1, c1, rfl, _, hr2, hb2⟩; have HB2 := Lib.hid (hb1.trans (hb2.mono hb1.size)); clear hr2 hb2)
        | (go_at_call 8; (with_reducible refine (HAW.out _ HB3.out).mono ?_); rintro e w5 ⟨rfl, hb5⟩))
      go_ret
      exact ⟨rfl, HB3.out.trans (hb5.mono HB3.out.size)⟩
  · obtain ⟨z, hz⟩ : ∃ z, z = (printE L).2 := ⟨_, rfl⟩
    rw [← hz] at HPR h0
    have hz' : (z != 0) = true := by simpa using h0
    clear hE hM hn hG h0 h1 hl hz hs
    go_enter Tryd.func7, Tryd.ntmps7
    go_wp2_with (first
      | (go_at_call 9; (with_reducible refine HPR.out.mono ?_); rintro e w1 ⟨rfl, hb1⟩)
      | (go_at_call 8; (with_reducible refine (HAW.out _ hb1).mono ?_); rintro e w3 ⟨rfl, hb3⟩))
    go_ret
    exact ⟨rfl, hb1.trans (hb3.mono hb1.size)⟩
end Sc
end Go.Proofs.YthgmanncmekeeaaDoor
