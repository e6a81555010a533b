/- TreeDepths, walked. -/
import Derived.Test.YtebgmphbkjpfcaaTrT
import Derived.Deep.QuietTactic
import Derived.BigQuiet
namespace Go.Proofs.Ytebgmphbkjpfcaa
set_option linter.unusedVariables false
set_option linter.unusedSimpArgs false
open Go.ChangeShapes Go.WideShapes Go.ChangeAt Go.RowKit Go.Shelf

theorem eqS (a b c d : Int) (w : World) : (binOp .eql 31 (slV a b) (slV c d)).run Try.prog w = .ok (.bool (decide (a = c ∧ b = d))) w := by
  go_simp
  repeat (split <;> simp_all)
theorem neS (a b c d : Int) (w : World) : (binOp .neq 31 (slV a b) (slV c d)).run Try.prog w = .ok (.bool (!decide (a = c ∧ b = d))) w := by
  go_simp
  repeat (split <;> simp_all)
theorem played_ex (W : World) (p : Option Addr) (n c : Nat) (D : Nat → ActT) (hD : ActsAt W p n D) (hn : n ≤ 100) :
    Calls Try.prog 24 #[.slice p n c] W fun e w' => ∃ b m, e = .returned (.pointer (some ⟨b, 0, none⟩)) ∧ StK W b m (2 * n) (playL D n) (fun _ => False) w' :=
  (played_any W p n c D hD hn).mono fun e w' ⟨he, h⟩ => ⟨_, _, he, h.k⟩
set_option maxRecDepth 100000 in
set_option maxHeartbeats 1000000 in
theorem depths_any (q : Option Addr) (n c : Nat) (D : Nat → ActT) (W : World) (hn : n ≤ 100) (hD : ActsAt W q n D) :
    Calls Try.prog 4 #[.slice q n c] W fun e w' => e = .returned (.bool true) ∧ Below W.heap.size W w' := by
  have HD := Lib.hid hD
  have hn' : ¬ (n : Int) > 100 := by omega
  have HN3 : Hid (2 * n ≤ 200) := Lib.hid (by omega)
  have HN2 := Lib.hid hn
  have hdep := dep_play D n
  clear hD
  go_enter Try.func4, Try.ntmps4
  go_wp2_with (first
    | (go_at_call 24; with_reducible refine (played_ex _ q n c D HD.out HN2.out).mono ?_; rintro e w1 ⟨b, m, rfl, hS⟩; have HT := Lib.hid (hS.mono HN3.out); generalize playL D n = l at *; clear hS)
    | (go_at_call 16; with_reducible refine (HT.out.all (by decide)).mono ?_; rintro e w2 ⟨v, rfl, hN, hT, hK, hb⟩; have HW := Lib.hid hN; have HT := Lib.hid hT; clear hN hT hK hb))
  have hlen : l.length ≤ 200 := HT.out.st.len
  have HO := Lib.hid HT.out.st.once
  have HM := Lib.hid HT.out.st.small
  have HDEP := Lib.hid hdep
  have HB := Lib.hid HT.out.below
  clear hdep
  rcases HW.out with ⟨rfl, rfl⟩ | ⟨g, cp, rfl, hg, hcell⟩
  · clear HW HT
    go_wp2
    refine wp_loop_rounds 1 ?_
    rw [rounds_succ]
    go_wp2_with (go_at_call 10; refine (awake17 _).mono ?_; rintro e w3 ⟨rfl, hb3⟩)
    go_ret
    exact ⟨rfl, bgo HB.out hb3⟩
  · have HC := Lib.hid hcell
    clear hcell HW HT
    generalize hL : l.length = L at *
    have HL := Lib.hid hL
    clear hL
    go_loopw [5] (fun i wr => ∃ (k j : Nat), k ≤ L ∧ i = .int .i64 k ∧ wr = w2.drewN j) (fun i _ => L - (intOf i).toNat)
    case atStart => exact ⟨0, 0, by omega, rfl, rfl⟩
    case round =>
      obtain ⟨k, j, hk, rfl, rfl⟩ := hrel
      by_cases hlt : k < L
      · have hLL := HL.out
        obtain ⟨x, hx⟩ : ∃ x, l[k]? = some x := ⟨l[k]'(by omega), List.getElem?_eq_getElem _⟩
        obtain ⟨x0, x1, x2⟩ := HC.out k x hx
        have hlt' : (k : Int) < L := by omega
        have hxp := HDEP.out.pos k x hx
        have hxm := (HM.out k x hx).1
        have HX := Lib.hid hx
        clear hLL
        rcases Nat.eq_zero_or_pos k with rfl | hk0
        · have hx0 := HDEP.out.zero x HX.out
          rw [hx0] at x2
          clear hx hxp hxm hx0
          go_wp2
          go_quiet (fail)
          go_wp2
          refine wp_loop_rounds 1 ?_
          rw [rounds_succ]
          go_wp2
          go_roundw
          case rel => exact ⟨1, _, by omega, by go_num, rfl⟩
          case measure => simp [intOf]; omega
        · obtain ⟨i1, hi1⟩ : ∃ i1, i1 + 1 = k := ⟨k - 1, by omega⟩
          have hLL := HL.out
          obtain ⟨u, hu⟩ : ∃ u, l[i1]? = some u := ⟨l[i1]'(by omega), List.getElem?_eq_getElem _⟩
          obtain ⟨u0, u1, u2⟩ := HC.out i1 u hu
          have hst := HDEP.out.step i1 u x hu (by rw [hi1]; exact hx)
          have hup := HDEP.out.pos i1 u hu
          have hum := (HM.out i1 u hu).1
          have hsub : (k : Int) - 1 = (i1 : Int) := by omega
          have hi1l : (i1 : Int) < L := by omega
          have hk0' : ((k : Int) == 0) = false := beq_eq_false_iff_ne.2 (by omega)
          have hgt : decide ((0 : Int) < (k : Int)) = true := decide_eq_true (by omega)
          have hgt2 : decide (0 < k) = true := decide_eq_true (by omega)
          clear hLL
          generalize hxd : x.d = xd at x2 hst hxp hxm
          generalize hud : u.d = ud at u2 hst hup hum
          have hng : ¬ ud + 1 < xd := by omega
          have hn0 : ¬ xd < 0 := by omega
          have hud2 : ud ≤ 1000 := by omega
          have hwr : IntKind.i64.wrap ((i1 : Nat) : Int) = (i1 : Int) := IntWalk.i64_in _ (by omega)
          have hwu : IntKind.i64.wrap (ud + 1) = ud + 1 := IntWalk.i64_in _ (by omega)
          have hng2 : decide (ud + 1 < xd) = false := decide_eq_false hng
          have hn02 : decide (xd < 0) = false := decide_eq_false hn0
          have HK := Lib.hid (show i1 + 1 = k ∧ 0 < k from ⟨hi1, hk0⟩)
          clear hx hu hst hxm hum hxd hud hi1 hk0
          go_wp2
          go_quiet (fail)
          clear hng hn0 hsub hi1l u2 x2 u0 u1 hwr hwu hng2 hn02
          go_wp2
          go_loopw [6] (fun jj wi => ∃ (a q4 : Nat), a ≤ k ∧ jj = .int .i64 a ∧ wi = w2.drewN q4) (fun jj _ => k - (intOf jj).toNat)
          case atStart => exact ⟨0, j + nq, by omega, rfl, by first | rfl | simp⟩
          case round =>
            obtain ⟨a, q4, ha, rfl, rfl⟩ := hrel
            by_cases hak : a < k
            · have hLL := HL.out
              obtain ⟨z, hz⟩ : ∃ z, l[a]? = some z := ⟨l[a]'(by omega), List.getElem?_eq_getElem _⟩
              obtain ⟨z0, z1, z2⟩ := HC.out a z hz
              have hne : ¬ (z.o = x.o ∧ z.i = x.i) := fun e => by have := HO.out a k z x hz HX.out e.1 e.2; omega
              have hes := eqS z.o z.i x.o x.i
              simp only [hne, decide_false] at hes
              have hak' : (a : Int) < k := by omega
              have hal : (a : Int) < L := by omega
              clear hLL hz hne
              go_wp2
              go_quiet (fail)
              go_wp2
              go_roundw
              case rel => first | exact ⟨a + 1, q4 + nq, by omega, by go_num, by first | rfl | simp⟩ | ((repeat apply Exists.intro); exact ⟨⟨a + 1, q4 + nq, by omega, by go_num, by first | rfl | simp⟩, rfl⟩)
              case measure => simp [intOf]; omega
            · obtain rfl : a = k := by omega
              go_wp2
              go_roundw
              case rel => first | exact ⟨a + 1, _, by omega, by go_num, rfl⟩ | ((repeat apply Exists.intro); exact ⟨⟨a + 1, _, by omega, by go_num, rfl⟩, rfl⟩)
              case measure => simp [intOf]; omega
      · obtain rfl : k = L := by omega
        go_wp2_with (go_at_call 10; refine (awake17 _).mono ?_; rintro e w3 ⟨rfl, hb3⟩)
        go_ret
        exact ⟨rfl, bgo (below_drewN HB.out j) hb3⟩
theorem walk_treeDepths {W : World} (q : Option Addr) (n c : Nat) (hx : n ≤ c ∧ c ≤ maxLen ∧ ∃ D, ActsAt W q n D) :
    Calls Try.prog 4 #[.slice q n c] W fun e w' => e = .returned (.bool true) ∧ Below W.heap.size W w' := by
  obtain ⟨h1, h2, D, hD⟩ := hx
  unfold maxLen at h2
  by_cases hn : n ≤ 100
  · exact depths_any q n c D W hn hD
  · have hn' : (n : Int) > 100 := by omega
    clear hD
    go_enter Try.func4, Try.ntmps4
    go_wp2_with (go_at_call 10; refine (awake17 _).mono ?_; rintro e w3 ⟨rfl, hb3⟩)
    go_ret
    exact ⟨rfl, hb3⟩
end Go.Proofs.Ytebgmphbkjpfcaa
