/- Chapter 2's acts; two lists of words compared. -/
import Derived.Test.YtnaiepoaikabgaaMem2
import Derived.Test.YtnaiepoaikabgaaPhys
import Derived.Test.YtnaiepoaikabgaaActs
import Derived.StillTailTactics
import Derived.Deep.QuietTactic
import Derived.BigQuiet
namespace Go.Proofs.Ytnaiepoaikabgaa
set_option linter.unusedVariables false
set_option linter.unusedSimpArgs false
open Go.ChangeShapes Go.WideShapes Go.ChangeAt Go.RowKit Go.Shelf

structure ActM where
  d : Int
  a : Int
  v : Int
  f : Int
  n : Int
def ActCells (w : World) (b o : Nat) (x : ActM) : Prop :=
  w.cell? ⟨b, o, none⟩ = some (.int .i64 x.d) ∧ w.cell? ⟨b, o + 1, none⟩ = some (.int .u64 x.a) ∧ w.cell? ⟨b, o + 2, none⟩ = some (.int .u64 x.v) ∧ w.cell? ⟨b, o + 3, none⟩ = some (.int .i64 x.f) ∧ w.cell? ⟨b, o + 4, none⟩ = some (.int .i64 x.n)
def I64 (n : Int) : Prop := -9223372036854775808 ≤ n ∧ n ≤ 9223372036854775807
theorem i64_of {n : Int} (h : (Lit.int .i64 n).wf = true) : I64 n := by
  simp [Lit.wf, IntKind.min, IntKind.max, IntKind.signed, IntKind.bits] at h
  exact ⟨by omega, by omega⟩
theorem u64_of {n : Int} (h : (Lit.int .u64 n).wf = true) : WordI n := by
  simp [Lit.wf, IntKind.min, IntKind.max, IntKind.signed, IntKind.bits] at h
  exact ⟨by omega, by omega⟩
def ActsAt (w : World) (p : Option Addr) (n : Nat) (D : Nat → ActM) : Prop :=
  ∃ b off, (0 < n → p = some ⟨b, off, none⟩ ∧ b < w.heap.size) ∧ ∀ k, k < n → ActCells w b (off + k * 5) (D k) ∧ I64 (D k).d ∧ WordI (D k).a ∧ WordI (D k).v ∧ I64 (D k).f ∧ I64 (D k).n
theorem open_s22 {H : Type} {enc : TypeId × Value → H} {W : World} {base : Nat} {v : Value} {d : DataW H} {ps : List MemPlace} (hval : Value.okWide Try.prog W .any base 22 v) (hd : DataW.Trod enc Try.prog W 0 (fun _ => true) true 22 v d ps) :
    ∃ p n c, v = .slice p n c ∧ n ≤ c ∧ c ≤ maxLen ∧ ∃ D, ActsAt W p n D := by
  obtain ⟨p, n, c, rfl, h1, h2, b, off, h3, h4⟩ := open_rows (C := 5) Try.underlying22 (by kernel_rfl) (by kernel_rfl) (by decide) hval hd
  refine ⟨p, n, c, rfl, h1, h2, fun k => ⟨intAt W b (off + (k * 5 + 0)), intAt W b (off + (k * 5 + 1)), intAt W b (off + (k * 5 + 2)), intAt W b (off + (k * 5 + 3)), intAt W b (off + (k * 5 + 4))⟩, b, off, h3, fun k hk => ?_⟩
  obtain ⟨c0, o0⟩ := h4 k hk 0 (.i .i64) (by kernel_rfl)
  obtain ⟨c1, o1⟩ := h4 k hk 1 (.i .u64) (by kernel_rfl)
  obtain ⟨c2, o2⟩ := h4 k hk 2 (.i .u64) (by kernel_rfl)
  obtain ⟨c3, o3⟩ := h4 k hk 3 (.i .i64) (by kernel_rfl)
  obtain ⟨c4, o4⟩ := h4 k hk 4 (.i .i64) (by kernel_rfl)
  refine ⟨⟨?_, ?_, ?_, ?_, ?_⟩, i64_of o0, u64_of o1, u64_of o2, i64_of o3, i64_of o4⟩
  all_goals first | exact c0 | exact c1 | exact c2 | exact c3 | exact c4 | (simp only [Nat.add_assoc]; first | exact c0 | exact c1 | exact c2 | exact c3 | exact c4)
theorem same_any (w : World) (g1 g2 n c1 c2 : Nat) (m : Nat → Int) (hn : n ≤ 512) (h1 : ∀ j, j < n → w.cell? ⟨g1, j, none⟩ = some (.int .u64 (m j))) (h2 : ∀ j, j < n → w.cell? ⟨g2, j, none⟩ = some (.int .u64 (m j))) :
    Calls Try.prog 19 #[.slice (some ⟨g1, 0, none⟩) n c1, .slice (some ⟨g2, 0, none⟩) n c2] w fun e w' => e = .returned (.bool true) ∧ Below w.heap.size w w' := by
  have H1 := Lib.hid h1
  have H2 := Lib.hid h2
  clear h1 h2
  go_enter Try.func19, Try.ntmps19
  go_wp2
  go_loopw [5] (fun i wr => ∃ k q : Nat, k ≤ n ∧ i = .int .i64 k ∧ wr = w.drewN q) (fun i _ => n - (intOf i).toNat)
  case atStart => exact ⟨0, 0, by omega, rfl, rfl⟩
  case round =>
    obtain ⟨k, q, hk, rfl, rfl⟩ := hrel
    by_cases hlt : k < n
    · have hlt' : (k : Int) < n := by omega
      have d1 := H1.out k hlt
      have d2 := H2.out k hlt
      go_wp2
      go_quiet (fail)
      all_goals go_wp2
      all_goals go_roundw
      case rel => exact ⟨k + 1, _, by omega, by go_num, by first | rfl | simp⟩
      case measure => simp [intOf]; omega
    · obtain rfl : k = n := by omega
      go_wp2
      go_ret
      exact ⟨rfl, below_drewN (Below.refl _ _) _⟩
theorem store_at (w : World) (b g n c : Nat) (m : Nat → Int) (a : Int) (k : Nat) (v : Int) (h : MemAt w b g n c m) (ha : a = 8 * (k : Int)) (hk : k < 8 * n) (hv : WordI v) :
    Calls Try.prog 13 #[.pointer (some ⟨b, 0, none⟩), .int .u64 a, .int .u64 v] w fun e w' => e = .returned (.int .i64 0) ∧ MemAt w' b g n c (updM m k v) ∧ BlkOnly g w w' := by
  subst ha
  exact store_ok w b g n c m k v h hk hv
theorem load_at (w : World) (b g n c : Nat) (m : Nat → Int) (a : Int) (k : Nat) (h : MemAt w b g n c m) (ha : a = 8 * (k : Int)) (hk : k < 8 * n) :
    Calls Try.prog 11 #[.pointer (some ⟨b, 0, none⟩), .int .u64 a] w fun e w' => e = .returned (.tuple #[.int .u64 (m k), .int .i64 0]) ∧ w = w' := by
  subst ha
  exact load_ok w b g n c m k h hk
/-- The memory behind stores. -/
def storesM (D : Nat → ActM) (q : Int) : Nat → Nat → Int
  | 0 => fun _ => 0
  | k + 1 => updM (storesM D q k) ((D k).a % q / 8).toNat (D k).v
set_option maxRecDepth 100000 in
set_option maxHeartbeats 4000000 in
theorem walk_physCopies {W : World} (p : Option Addr) (n c : Nat) (hx : n ≤ c ∧ c ≤ maxLen ∧ ∃ D, ActsAt W p n D) (p' : Option Addr) (n' c' : Nat) (hx' : n' ≤ c' ∧ c' ≤ maxLen ∧ ∃ D, ActsAt W p' n' D) :
    Calls Try.prog 5 #[.slice p n c, .slice p' n' c'] W fun e w' => e = .returned (.bool true) ∧ Below W.heap.size W w' := by
  obtain ⟨h1, h2, D, pb, off, hp, hD⟩ := hx
  obtain ⟨h1', h2', D', pb', off', hp', hD'⟩ := hx'
  unfold maxLen at h2 h2'
  have HD := Lib.hid hD
  have HP := Lib.hid hp
  have HD' := Lib.hid hD'
  have HP' := Lib.hid hp'
  clear hD hp hD' hp'
  by_cases hn : 100 < n ∨ 100 < n'
  · have hd : (decide (100 < (n : Int)) || decide (100 < (n' : Int))) = true := by simp; omega
    go_enter Try.func5, Try.ntmps5
    go_wp2_with (first
      | (go_at_call 7; refine (awake2 _).mono ?_; rintro e w3 ⟨rfl, hb3⟩))
    all_goals go_ret
    all_goals exact ⟨rfl, hb3⟩
  have hn1 : n ≤ 100 := by omega
  have hn2 : n' ≤ 100 := by omega
  clear hn
  go_enter Try.func5, Try.ntmps5
  go_wp2_with (first
    | (go_at_call 8; refine (new_ok _ 8 (by decide) (by decide)).mono ?_; rintro e w1 ⟨b, g, c1, rfl, hm1, hb1, hg1, hw1⟩; have HM1 := Lib.hid hm1; clear hm1))
  go_loopw [7] (fun i wr => ∃ (k : Nat) (m : Nat → Int), k ≤ n ∧ i = .int .i64 k ∧ Hid (MemAt wr b g 8 c1 m) ∧ Below W.heap.size W wr) (fun i _ => n - (intOf i).toNat)
  case atStart => exact ⟨0, _, by omega, rfl, HM1, hw1⟩
  case round =>
    obtain ⟨k, m, hk, rfl, HM, hB⟩ := hrel
    clear HM1
    by_cases hlt : k < n
    · obtain ⟨rfl, hpx⟩ := HP.out (by omega)
      obtain ⟨⟨c0, c1', c2, c3, c4⟩, -, ⟨da0, da1⟩, dv, -, -⟩ := HD.out k hlt
      obtain ⟨⟨xd, xa, xv, xf, xn⟩, hx⟩ : ∃ x, D k = x := ⟨_, rfl⟩
      rw [hx] at c1' c2 da0 da1 dv
      simp only at c1' c2 da0 da1 dv
      have e1 := (hB.cell (p := ⟨pb, off + k * 5 + 1, none⟩) hpx).trans c1'
      have e2 := (hB.cell (p := ⟨pb, off + k * 5 + 2, none⟩) hpx).trans c2
      have HV := Lib.hid dv
      clear c0 c1' c2 c3 c4 hx dv
      have hlt' : (k : Int) < n := by omega
      obtain ⟨j, hj⟩ : ∃ j : Nat, xa % 512 / 8 = j := ⟨(xa % 512 / 8).toNat, by omega⟩
      have j0 : 0 ≤ xa % 512 := by omega
      have j1 : xa % 512 ≤ 511 := by omega
      have j2 : 0 ≤ xa % 512 / 8 := by omega
      have j3 : xa % 512 / 8 ≤ 63 := by omega
      have j4 : j < 8 * 8 := by omega
      have HJ := Lib.hid hj
      clear hj
      go_wp2
      go_still_tail 14, (by kernel_rfl)
      change wpList _ _ _ _ _ wr.drew
      have HMD : Hid (MemAt wr.drew b g 8 c1 m) := Lib.hid (HM.out.call (Below.refl _ _).drew)
      have hBD : Below W.heap.size W wr.drew := hB.drew
      generalize wr.drew = wd at *
      go_wp2_with (first
        | (go_at_call 13; refine (store_at _ b g 8 c1 m _ j xv HMD.out (by have := HJ.out; omega) j4 HV.out).mono ?_; rintro e w2 ⟨rfl, hm2, ho2⟩; have HM2 := Lib.hid hm2; clear hm2))
      go_roundw
      case rel => exact ⟨k + 1, _, by omega, by go_num, HM2, hBD.trans (ho2.below hg1 HMD.out.lg)⟩
      case measure => simp [intOf]; omega
    · obtain rfl : k = n := by omega
      go_wp2_with (fail)
      refine (copy_any _ b g 8 c1 m HM.out).mono ?_
      rintro e w2 ⟨b2, g2, c2, rfl, hm2, hb2, hg2, hw2⟩
      have HM2 := Lib.hid hm2
      have HA2 := Lib.hid (HM.out.call hw2)
      have lb := HM.out.lb
      have lg := HM.out.lg
      have lb2 := hm2.lb
      have lg2 := hm2.lg
      clear hm2
      go_wp2_with (fail)
      refine (copy_any _ b g 8 c1 m HA2.out).mono ?_
      rintro e w3 ⟨b3, g3, c3, rfl, hm3, hb3, hg3, hw3⟩
      have HM3 := Lib.hid (HM2.out.call hw3)
      have HA3 := Lib.hid (HA2.out.call hw3)
      have HD3 := Lib.hid hm3
      have hB3 : Below W.heap.size W w3 := bgo (bgo hB hw2) hw3
      clear hm3 HM2 HA2
      go_wp2_with (fail)
      go_loopw [10] (fun i wr => ∃ (k : Nat) (m2 : Nat → Int), k ≤ n' ∧ i = .int .i64 k ∧ Hid (MemAt wr b g 8 c1 m) ∧ Hid (MemAt wr b2 g2 8 c2 m2) ∧ Hid (MemAt wr b3 g3 8 c3 m) ∧ Below W.heap.size W wr) (fun i _ => n' - (intOf i).toNat)
      case atStart => exact ⟨0, _, by omega, rfl, HA3, HM3, HD3, hB3⟩
      case round =>
        obtain ⟨k', m2, hk', rfl, HM', HC', HD'', hB'⟩ := hrel
        clear HM3 HA3 HD3 hB3
        by_cases hlt : k' < n'
        · obtain ⟨rfl, hpx⟩ := HP'.out (by omega)
          obtain ⟨⟨c0, c1', c2', c3', c4⟩, -, ⟨da0, da1⟩, dv, -, -⟩ := HD'.out k' hlt
          obtain ⟨⟨xd, xa, xv, xf, xn⟩, hx⟩ : ∃ x, D' k' = x := ⟨_, rfl⟩
          rw [hx] at c1' c2' da0 da1 dv
          simp only at c1' c2' da0 da1 dv
          have e1 := (hB'.cell (p := ⟨pb', off' + k' * 5 + 1, none⟩) hpx).trans c1'
          have e2 := (hB'.cell (p := ⟨pb', off' + k' * 5 + 2, none⟩) hpx).trans c2'
          have HV := Lib.hid dv
          clear c0 c1' c2' c3' c4 hx dv
          have hlt' : (k' : Int) < n' := by omega
          obtain ⟨j, hj⟩ : ∃ j : Nat, xa % 512 / 8 = j := ⟨(xa % 512 / 8).toNat, by omega⟩
          have j0 : 0 ≤ xa % 512 := by omega
          have j1 : xa % 512 ≤ 511 := by omega
          have j2 : 0 ≤ xa % 512 / 8 := by omega
          have j3 : xa % 512 / 8 ≤ 63 := by omega
          have j4 : j < 8 * 8 := by omega
          have HJ := Lib.hid hj
          clear hj
          go_wp2
          go_still_tail 14, (by kernel_rfl)
          change wpList _ _ _ _ _ wr.drew
          have hdd : Below wr.heap.size wr wr.drew := (Below.refl _ _).drew
          have HMD : Hid (MemAt wr.drew b g 8 c1 m) := Lib.hid (HM'.out.call hdd)
          have HCD : Hid (MemAt wr.drew b2 g2 8 c2 m2) := Lib.hid (HC'.out.call hdd)
          have HDD : Hid (MemAt wr.drew b3 g3 8 c3 m) := Lib.hid (HD''.out.call hdd)
          have hBD : Below W.heap.size W wr.drew := hB'.drew
          clear hdd
          generalize wr.drew = wd at *
          go_wp2_with (first
            | (go_at_call 13; refine (store_at _ b2 g2 8 c2 m2 _ j xv HCD.out (by have := HJ.out; omega) j4 HV.out).mono ?_; rintro e w5 ⟨rfl, hm5, ho5⟩; have HM5 := Lib.hid hm5; clear hm5))
          go_roundw
          case rel => exact ⟨k' + 1, _, by omega, by go_num, Lib.hid (ho5.mem HMD.out (by omega) (by omega)), HM5, Lib.hid (ho5.mem HDD.out (by omega) (by omega)), hBD.trans (ho5.below (by omega) HCD.out.lg)⟩
          case measure => simp [intOf]; omega
        · obtain rfl : k' = n' := by omega
          go_wp2_with (fail)
          go_loopw [11] (fun i wr => ∃ k : Nat, k ≤ 8 ∧ i = .int .i64 k ∧ Hid (MemAt wr b g 8 c1 m) ∧ Hid (MemAt wr b3 g3 8 c3 m) ∧ Below W.heap.size W wr) (fun i _ => 8 - (intOf i).toNat)
          case atStart => exact ⟨0, by omega, rfl, HM', HD'', hB'⟩
          case round =>
            obtain ⟨f, hf, rfl, HMf, HDf, hBf⟩ := hrel
            clear HM' HC' HD'' hB'
            by_cases hlf : f < 8
            · have hlf' : (f : Int) < 8 := by omega
              go_wp2_with (fail)
              refine (words_ok _ b g 8 c1 f m HMf.out hlf).mono ?_
              rintro e w5 ⟨v5, rfl, hr5, hw5⟩
              obtain ⟨q5, z5, rfl, -, -, -, l5, -, x5⟩ := own_form hr5 (by decide)
              have X5 := Lib.hid x5
              have HD5 := Lib.hid (HDf.out.call hw5)
              have HM5 := Lib.hid (HMf.out.call hw5)
              clear hr5 x5
              go_wp2_with (fail)
              refine (words_ok _ b3 g3 8 c3 f m HD5.out hlf).mono ?_
              rintro e w6 ⟨v6, rfl, hr6, hw6⟩
              obtain ⟨q6, z6, rfl, -, -, -, l6, -, x6⟩ := own_form hr6 (by decide)
              have X6 := Lib.hid x6
              have HD6 := Lib.hid (HD5.out.call hw6)
              have HM6 := Lib.hid (HM5.out.call hw6)
              have hB6 : Below W.heap.size W w6 := bgo (bgo hBf hw5) hw6
              clear hr6 x6 HD5 HM5
              have hs : Calls Try.prog 19 #[.slice (some ⟨q5, 0, none⟩) 8 z5, .slice (some ⟨q6, 0, none⟩) 8 z6] w6 fun e w' => e = .returned (.bool true) ∧ Below w6.heap.size w6 w' :=
                same_any w6 q5 q6 8 z5 z6 (fun j => m (8 * f + j)) (by decide) (fun j hj => (hw6.cell (p := ⟨q5, j, none⟩) l5).trans (X5.out j _ (wordsL_at _ _ _ _ hj))) (fun j hj => X6.out j _ (wordsL_at _ _ _ _ hj))
              have HS := Lib.hid hs
              clear hs
              go_wp2_with (first
                | (go_at_call 19; refine HS.out.mono ?_; rintro e w7 ⟨rfl, hw7⟩))
              go_roundw
              case rel => exact ⟨f + 1, by omega, by go_num, Lib.hid (HM6.out.call hw7), Lib.hid (HD6.out.call hw7), bgo hB6 hw7⟩
              case measure => simp [intOf]; omega
            · obtain rfl : f = 8 := by omega
              go_wp2_with (first
                | (go_at_call 7; refine (awake2 _).mono ?_; rintro e w8 ⟨rfl, hb8⟩))
              go_ret
              exact ⟨rfl, bgo hBf hb8⟩
end Go.Proofs.Ytnaiepoaikabgaa
