/- The law TlbFilled. -/
import Derived.Test.YtimgiplcejcaaaaTlbK
import Derived.Test.YtimgiplcejcaaaaTlbOnce
import Derived.Deep.RegionHeld3
namespace Go.Proofs.Ytimgiplcejcaaaa
set_option linter.unusedVariables false
set_option linter.unusedSimpArgs false
open Go.ChangeShapes Go.WideShapes Go.ChangeAt Go.RowKit

theorem ActsAt.below {w w' : World} {p : Option Addr} {n : Nat} {D : Nat → ActX} (h : ActsAt w p n D) (hk : Below w.heap.size w w') : ActsAt w' p n D := by
  obtain ⟨b, off, h0, h1⟩ := h
  refine ⟨b, off, fun hn => ⟨(h0 hn).1, Nat.lt_of_lt_of_le (h0 hn).2 hk.size⟩, fun k hkn => ⟨(h1 k hkn).1.below hk (h0 (by omega)).2, (h1 k hkn).2⟩⟩
theorem played_at (W : World) (B : Nat) (hB : W.heap.size = B) (p : Option Addr) (n c : Nat) (D : Nat → ActX) (hD : ActsAt W p n D) (hn : n ≤ 120) :
    Calls Try.prog 26 #[.slice p n c] W fun e w' => e = .returned (.pointer (some ⟨B, 0, none⟩)) ∧ TlbAt w' B (playS D n) ∧ Below W.heap.size W w' := hB ▸ played_any W p n c D hD hn
theorem open_t28 {W : World} {base : Nat} {v : Value} (hv : Value.okWide Try.prog W .any base 28 v) : ∃ x : TransX, v = x.val ∧ x.Ok := by
  obtain ⟨cs, rfl, hl, hc⟩ := agg_cells (ts := [3, 3, 3, 4, 4]) Try.underlying28 (by kernel_rfl) (by kernel_rfl) hv
  obtain ⟨v0, e0, o0⟩ := hc 0 _ rfl
  obtain ⟨a, rfl, b0⟩ := cell_i64 Try.underlying3 o0
  obtain ⟨v1, e1, o1⟩ := hc 1 _ rfl
  obtain ⟨b, rfl, b1⟩ := cell_i64 Try.underlying3 o1
  obtain ⟨v2, e2, o2⟩ := hc 2 _ rfl
  obtain ⟨c, rfl, b2⟩ := cell_i64 Try.underlying3 o2
  obtain ⟨v3, e3, o3⟩ := hc 3 _ rfl
  obtain ⟨d, rfl⟩ := cell_bool Try.underlying4 o3
  obtain ⟨v4, e4, o4⟩ := hc 4 _ rfl
  obtain ⟨e, rfl⟩ := cell_bool Try.underlying4 o4
  match cs, hl with
  | [c0, c1, c2, c3, c4], _ =>
    cases e0
    cases e1
    cases e2
    cases e3
    cases e4
    exact ⟨⟨a, b, c, d, e⟩, rfl, ⟨b0, b1, b2⟩⟩
abbrev zval_t28 : Value := .agg #[.int .i64 0, .int .i64 0, .int .i64 0, .bool false, .bool false]
abbrev zdat_t28 {H : Type} : DataW H := .agg [.lit (.int .i64 0), .lit (.int .i64 0), .lit (.int .i64 0), .lit (.bool false), .lit (.bool false)]
theorem rows_only {b g n m : Nat} {p : Option Addr} {w w' : World} {T : Nat → TransX} (ho : TlbOnly b w w') (hm : b < m) (hp : 0 < n → p = some ⟨g, 0, none⟩ ∧ m ≤ g ∧ g < w.heap.size) (hr : TRows w g n T) : TRows w' g n T := fun i hi => by
  obtain ⟨_, h1, h2⟩ := hp (by omega)
  obtain ⟨c0, c1, c2, c3, c4⟩ := hr i hi
  exact ⟨ho.cell h2 (by omega) c0, ho.cell h2 (by omega) c1, ho.cell h2 (by omega) c2, ho.cell h2 (by omega) c3, ho.cell h2 (by omega) c4⟩
theorem rows_below {g n m : Nat} {p : Option Addr} {w w' : World} {T : Nat → TransX} (hb : Below w.heap.size w w') (hp : 0 < n → p = some ⟨g, 0, none⟩ ∧ m ≤ g ∧ g < w.heap.size) (hr : TRows w g n T) : TRows w' g n T := fun i hi => (hr i hi).below hb (hp (by omega)).2.2
theorem rows_lt {g n m : Nat} {p : Option Addr} {w w' : World} (hp : 0 < n → p = some ⟨g, 0, none⟩ ∧ m ≤ g ∧ g < w.heap.size) (h : w.heap.size ≤ w'.heap.size) : 0 < n → p = some ⟨g, 0, none⟩ ∧ m ≤ g ∧ g < w'.heap.size := fun hn => ⟨(hp hn).1, (hp hn).2.1, Nat.lt_of_lt_of_le (hp hn).2.2 h⟩
theorem rows_lt2 {g n m : Nat} {p : Option Addr} {w : World} (hp : 0 < n → p = some ⟨g, 0, none⟩ ∧ m ≤ g ∧ g < w.heap.size) : 0 < n → p = some ⟨g, 0, none⟩ ∧ g < w.heap.size := fun hn => ⟨(hp hn).1, (hp hn).2.2⟩
theorem TCells.only {b g i : Nat} {w w' : World} {x : TransX} (h : TCells w g i x) (ho : TlbOnly b w w') (h2 : g < w.heap.size) (hn : g ≠ b) : TCells w' g i x := by
  obtain ⟨c0, c1, c2, c3, c4⟩ := h
  exact ⟨ho.cell h2 hn c0, ho.cell h2 hn c1, ho.cell h2 hn c2, ho.cell h2 hn c3, ho.cell h2 hn c4⟩
theorem TCells.new (W : World) (x : TransX) (t : TypeId) : TCells (W.alloc (.cells #[.int .i64 x.s, .int .i64 x.p, .int .i64 x.f, .bool x.r, .bool x.w] t)) W.heap.size 0 x := by
  refine ⟨?_, ?_, ?_, ?_, ?_⟩ <;> simp [go_sem]
theorem TCells.box {W w1 w2 : World} {x : TransX} {t : TypeId} (h1 : Below (W.alloc (.cells #[.int .i64 x.s, .int .i64 x.p, .int .i64 x.f, .bool x.r, .bool x.w] t)).heap.size (W.alloc (.cells #[.int .i64 x.s, .int .i64 x.p, .int .i64 x.f, .bool x.r, .bool x.w] t)) w1) (h2 : Below w1.heap.size w1 w2) : TCells w2 W.heap.size 0 x :=
  (TCells.new W x t).below (bgo h1 h2) (by simp)
set_option maxRecDepth 100000 in
set_option maxHeartbeats 2000000 in
theorem filled_no {W : World} (p : Option Addr) (n c : Nat) (hx : n ≤ c ∧ c ≤ maxLen ∧ ∃ D, ActsAt W p n D) (x : TransX) (hn : n ≤ 120) (hm : mayX x = false) :
    Calls Try.prog 4 #[.slice p n c, x.val] W fun e w' => e = .returned (.bool true) ∧ Below W.heap.size W w' := by
  obtain ⟨h1, h2, D, hD⟩ := hx
  unfold maxLen at h2
  have HD := Lib.hid hD
  have hG := good_play D n
  obtain ⟨S, hS⟩ : ∃ S, playS D n = S := ⟨_, rfl⟩
  rw [hS] at hG
  have HS := Lib.hid hS
  have HG := Lib.hid hG
  have hlen : allN S ≤ 8 := fullP_len S 8
  have hf : fillS S x = S := by unfold fillS; rw [if_neg (by simp [hm])]
  have hcd : codeF x = 2 := by unfold codeF; rw [if_neg (by simp [hm])]
  have HF := Lib.hid hf
  have HC := Lib.hid hcd
  clear hD hG hS hf hcd hm
  go_enter Try.func4, Try.ntmps4
  go_wp2_with (first
    | (go_at_call 26; refine (played_at _ (W.heap.size + 1) (by simp) p n c D (HD.out.below (bal (Below.refl _ _) _)) hn).mono ?_; rw [HS.out]; rintro e w1 ⟨rfl, ht1, hb1⟩; have hl1 : W.heap.size + 1 < w1.heap.size := ht1.lt; have HT1 := Lib.hid ht1; clear ht1; obtain ⟨hc1, hf1⟩ := bcell hb1; have hz1 : W.heap.size < w1.heap.size := (by have := hb1.size; simp at this; omega))
    | (have _t := HT1; go_at_call 22; refine (tall_any _ (W.heap.size + 1) S HT1.out HG.out.ok).mono ?_; rintro e w2 ⟨p2, c2, g, rfl, hp2, hr2, hb2⟩; have HT2 := Lib.hid (HT1.out.call hb2); have HP2 := Lib.hid hp2; have HR2 := Lib.hid hr2; clear hp2 hr2 HT1; obtain ⟨hc2, hf2⟩ := bcell hb2; have hz2 : W.heap.size < w2.heap.size := (by have := hb2.size; omega))
    | (have _t := HT2; go_at_call 12; refine (tfill_any _ (W.heap.size + 1) S x HT2.out HG.out.ok).mono ?_; rw [HF.out, HC.out]; rintro e w3 ⟨rfl, ht3, ho3⟩; have HT3 := Lib.hid ht3; clear ht3 HT2; have hz3 : W.heap.size < w3.heap.size := (Nat.lt_of_lt_of_le hz2 ho3.size); have hr3 : TRows w3 g (allN S) (allT S) := (rows_only ho3 hl1 HP2.out HR2.out); have HR3 := Lib.hid hr3; clear hr3 HR2; have HP3 := Lib.hid (rows_lt (w' := w3) HP2.out ho3.size))
    | (have _t := HT3; go_at_call 22; refine (tall_any _ (W.heap.size + 1) S HT3.out HG.out.ok).mono ?_; rintro e w4 ⟨p4, c4, g4, rfl, hp4, hr4, hb4⟩; have HP4 := Lib.hid (rows_lt2 hp4); have HR4 := Lib.hid hr4; clear hp4 hr4 HT3; have HR5 := Lib.hid (rows_below hb4 HP3.out HR3.out); have HP5 := Lib.hid (rows_lt (w' := w4) HP3.out hb4.size))
    | (go_at_call 23; refine (sameT_yes _ _ _ _ _ g4 g _ (allT S) (by omega) HP4.out (rows_lt2 HP5.out) HR4.out HR5.out).mono ?_; rintro e w5 ⟨rfl, hb5⟩)
    | (go_at_call 9; refine (awake6 _).mono ?_; rintro e w6 ⟨rfl, hb6⟩))
  go_ret
  refine ⟨rfl, ?_⟩
  have b3 : Below W.heap.size W w2 := bgo (bgo (bal (Below.refl _ _) _) hb1) hb2
  have b4 : Below W.heap.size W w3 := b3.trans (ho3.below (by omega) (by have := hb2.size; omega))
  exact bgo (bgo (bgo b4 hb4) hb5) hb6
set_option maxRecDepth 100000 in
set_option maxHeartbeats 2000000 in
theorem filled_yes {W : World} (p : Option Addr) (n c : Nat) (hx : n ≤ c ∧ c ≤ maxLen ∧ ∃ D, ActsAt W p n D) (x : TransX) (hn : n ≤ 120) (hm : mayX x = true) :
    Calls Try.prog 4 #[.slice p n c, x.val] W fun e w' => e = .returned (.bool true) ∧ Below W.heap.size W w' := by
  obtain ⟨h1, h2, D, hD⟩ := hx
  unfold maxLen at h2
  have HD := Lib.hid hD
  have hG := good_play D n
  obtain ⟨S, hS⟩ : ∃ S, playS D n = S := ⟨_, rfl⟩
  rw [hS] at hG
  have HS := Lib.hid hS
  have HG := Lib.hid hG
  have hlen : allN S ≤ 8 := fullP_len S 8
  have hcd : codeF x = 0 := by unfold codeF; rw [if_pos hm]
  have HC := Lib.hid hcd
  have HM := Lib.hid hm
  have hfd := fill_find hG x hm
  have hg2 := good_fill hG x
  have hone := fun i m hi hm' => lost_once hG x hm (i := i) (m := m) hi hm'
  have hpl := lost_place hG x hm
  obtain ⟨U, hU⟩ : ∃ U, fillS S x = U := ⟨_, rfl⟩
  rw [hU] at hfd hg2
  have hlen2 : allN U ≤ 8 := fullP_len U 8
  have HU := Lib.hid hU
  have HFD := Lib.hid hfd
  have HG2 := Lib.hid hg2
  have HONE := Lib.hid hone
  have HPL := Lib.hid hpl
  clear hD hG hS hcd hm hfd hg2 hU hone hpl
  go_enter Try.func4, Try.ntmps4
  go_wp2_with (first
    | (go_at_call 26; refine (played_at _ (W.heap.size + 1) (by simp) p n c D (HD.out.below (bal (Below.refl _ _) _)) hn).mono ?_; rw [HS.out]; rintro e w1 ⟨rfl, ht1, hb1⟩; have hl1 : W.heap.size + 1 < w1.heap.size := ht1.lt; have HT1 := Lib.hid ht1; clear ht1; obtain ⟨hc1, hf1⟩ := bcell hb1; have hz1 : W.heap.size < w1.heap.size := (by have := hb1.size; simp at this; omega))
    | (have _t := HT1; go_at_call 22; refine (tall_any _ (W.heap.size + 1) S HT1.out HG.out.ok).mono ?_; rintro e w2 ⟨p2, c2, g, rfl, hp2, hr2, hb2⟩; have HT2 := Lib.hid (HT1.out.call hb2); have HP2 := Lib.hid hp2; have HR2 := Lib.hid hr2; clear hp2 hr2 HT1; obtain ⟨hc2, hf2⟩ := bcell hb2; have hz2 : W.heap.size < w2.heap.size := (by have := hb2.size; omega); have hx2 : TCells w2 W.heap.size 0 x := (TCells.box hb1 hb2))
    | (have _t := HT2; go_at_call 12; refine (tfill_any _ (W.heap.size + 1) S x HT2.out HG.out.ok).mono ?_; rw [HU.out, HC.out]; rintro e w3 ⟨rfl, ht3, ho3⟩; have HT3 := Lib.hid ht3; clear ht3 HT2; have hz3 : W.heap.size < w3.heap.size := (Nat.lt_of_lt_of_le hz2 ho3.size); have hr3 : TRows w3 g (allN S) (allT S) := (rows_only ho3 hl1 HP2.out HR2.out); have HR3 := Lib.hid hr3; clear hr3 HR2; have HP3 := Lib.hid (rows_lt (w' := w3) HP2.out ho3.size); obtain ⟨x0, x1, x2, x3, x4⟩ := hx2.only ho3 hz2 (by omega); clear hc1 hf1 hc2 hf2)
    | (go_at_call 14; refine (tfind_any _ (W.heap.size + 1) U x.s x.p HT3.out).mono ?_; rw [HFD.out]; rintro e w4 ⟨rfl, hb4⟩; obtain ⟨hc4, hf4⟩ := bcell hb4; have hz4 : W.heap.size < w4.heap.size := (by have := hb4.size; omega))
    | (have _t := HT3; go_at_call 22; refine (tall_any _ (W.heap.size + 1) U (HT3.out.call (bal hb4 _)) HG2.out.ok).mono ?_; rintro e w5 ⟨p5, c5, g5, rfl, hp5, hr5, hb5⟩; have HP5 := Lib.hid hp5; have HR5 := Lib.hid hr5; clear hp5 hr5))
  have B5 : Below w3.heap.size w3 w5 := bgo (bal hb4 _) hb5
  have BW : Below W.heap.size W w5 := ((bgo (bgo (bal (Below.refl _ _) _) hb1) hb2).trans (ho3.below (by omega) (by have := hb2.size; omega))).trans (B5.mono (by omega))
  have X5 : TCells w5 W.heap.size 0 x := TCells.below ⟨x0, x1, x2, x3, x4⟩ B5 hz3
  have Y5 : TCells w5 w4.heap.size 0 x := (TCells.new w4 x _).below hb5 (by simp)
  have HP3' := Lib.hid (rows_lt2 (rows_lt (w' := w5) HP3.out B5.size))
  have HP5' := Lib.hid (rows_lt2 HP5.out)
  have HR3' := Lib.hid (rows_below B5 HP3.out HR3.out)
  have hzx : W.heap.size < w5.heap.size := Nat.lt_of_lt_of_le hz3 B5.size
  have hzy : w4.heap.size < w5.heap.size := by have := hb5.size; simp at this; omega
  have HX5 := Lib.hid X5
  have HY5 := Lib.hid Y5
  have HB5 := Lib.hid B5
  have HBW := Lib.hid BW
  have hxp := (may_pos HM.out).2.1
  clear B5 BW X5 Y5 HP3 HP5 HR3 hb4 hb5 hb1 hb2 ho3 hc4 hf4 x0 x1 x2 x3 x4
  go_loopw [10, 11] (fun l i wr => ∃ k m : Nat, k ≤ allN S ∧ i = .int .i64 k ∧ l = .int .i64 m ∧ (m = 0 ∨ m = 1 ∧ ∃ q, q < k ∧ lostB S x q) ∧ Kept w5.heap.size w5 wr) (fun _ i _ => allN S - (intOf i).toNat)
  case atStart => exact ⟨0, 0, by omega, rfl, rfl, .inl rfl, Kept.refl (Nat.le_refl _)⟩
  case round =>
    obtain ⟨k, m, hk, rfl, rfl, hm, hK⟩ := hrel
    have HL := Lib.hid hm
    clear hm
    by_cases hlt : k < allN S
    · obtain ⟨rfl, hg1⟩ := HP3'.out (by omega)
      have hmay := all_good HG.out hlt
      obtain ⟨y, hy⟩ : ∃ y, allT S k = y := ⟨_, rfl⟩
      have hcy := (HR3'.out k hlt)
      rw [hy] at hmay hcy
      have hyp := (may_pos hmay.1).2.1
      have HY := Lib.hid hy
      have HCY := Lib.hid hcy
      clear hmay hcy hy
      go_wp2
      obtain ⟨wo, hwo⟩ : ∃ wo : World, wo = wr := ⟨_, rfl⟩
      rw [← hwo] at hK ⊢
      clear hwo
      go_loopw [12, 13] (fun b i2 wi => ∃ (j : Nat) (β : Bool), j ≤ allN U ∧ i2 = .int .i64 j ∧ b = .bool β ∧ Hid (β = true ↔ ∃ q, q < j ∧ allT U q = y) ∧ Kept w5.heap.size w5 wi) (fun _ i2 _ => allN U - (intOf i2).toNat)
      case atStart => exact ⟨0, false, by omega, rfl, rfl, Lib.hid (by simp), hK⟩
      case round =>
        obtain ⟨j, β, hj, rfl, rfl, hβ, hK2⟩ := hrel
        by_cases hjl : j < allN U
        · obtain ⟨rfl, hg5⟩ := HP5'.out (by omega)
          obtain ⟨a0, a1, a2, a3, a4⟩ := HCY.out.kept hK2 hg1
          obtain ⟨b0, b1, b2, b3, b4⟩ := (HR5.out j hjl).kept hK2 hg5
          cases β
          · by_cases hz : allT U j = y
            · rw [hz] at b0 b1 b2 b3 b4
              have hq : ∀ w, (binOp .eql 28 (trX y) (trX y)).run Try.prog w = .ok (.bool true) w := fun w => by rw [eqT]; simp
              have HZ := Lib.hid hz
              clear hz
              go_wp2
              go_quiet (fail)
              all_goals
                go_wp2
                go_roundw
                case rel => exact ⟨j + 1, true, by omega, by go_num, rfl, Lib.hid ⟨fun _ => ⟨j, by omega, HZ.out⟩, fun _ => rfl⟩, hK2.drewN _⟩
                case measure => simp [intOf]; omega
            · have hq : ∀ w, (binOp .eql 28 (trX (allT U j)) (trX y)).run Try.prog w = .ok (.bool false) w := fun w => by rw [eqT, decide_eq_false hz]
              have HZ := Lib.hid hz
              clear hz
              obtain ⟨z, hz⟩ : ∃ z, allT U j = z := ⟨_, rfl⟩
              rw [hz] at b0 b1 b2 b3 b4 hq
              clear hz
              go_wp2
              go_quiet (fail)
              all_goals
                go_wp2
                go_roundw
                case rel => exact ⟨j + 1, false, by omega, by go_num, rfl, Lib.hid ⟨fun h => (by cases h), fun ⟨q, hq1, hq2⟩ => (by
                  rcases Nat.lt_or_ge q j with h | h
                  · exact hβ.out.2 ⟨q, h, hq2⟩
                  · obtain rfl : q = j := by omega
                    exact absurd hq2 HZ.out)⟩, hK2.drewN _⟩
                case measure => simp [intOf]; omega
          · go_wp2
            go_quiet (fail)
            all_goals
              go_wp2
              go_roundw
              case rel => exact ⟨j + 1, true, by omega, by go_num, (by first | rfl | trivial), Lib.hid ⟨fun h => (by obtain ⟨q, q1, q2⟩ := hβ.out.1 (by first | rfl | trivial); exact ⟨q, by omega, q2⟩), fun _ => by first | rfl | trivial⟩, hK2.drewN _⟩
              case measure => simp [intOf]; omega
        · obtain rfl : j = allN U := by omega
          obtain ⟨a0, a1, a2, a3, a4⟩ := HCY.out.kept hK2 hg1
          obtain ⟨d0, d1, d2, d3, d4⟩ := HX5.out.kept hK2 hzx
          simp only [Nat.zero_mul, Nat.zero_add] at d0 d1 d2 d3 d4
          have hm8 : m ≤ 1 := by have := HL.out; omega
          cases β
          · cases hs : (y.s == x.s)
            · have hlo : lostB S x k := ⟨fun q hq e => by rw [HU.out] at hq e; exact absurd (hβ.out.2 ⟨q, hq, e.trans HY.out⟩) (by simp), fun h => by rw [HY.out] at h; simp [h.1] at hs⟩
              have hset := (HPL.out.elim fun jj hjj => (hjj k hlt hlo).2)
              rw [HY.out] at hset
              unfold setNo at hset
              have hrem : y.p % 4 = x.p % 4 := by omega
              have HLO := Lib.hid hlo
              obtain rfl : m = 0 := by
                rcases HL.out with h | ⟨_, q, h1, h2⟩
                · exact h
                · exact absurd (HONE.out q k (by omega) hlt h2 hlo) (by omega)
              clear hlo hset
              go_wp2
              go_quiet (fail)
              all_goals
                go_wp2
                go_quiet (fail)
                all_goals
                  go_wp2
                  go_roundw
                  case rel => exact ⟨k + 1, 1, by omega, by go_num, by first | rfl | go_num, .inr ⟨rfl, k, by omega, HLO.out⟩, hK2.drewN _⟩
                  case measure => simp [intOf]; omega
            · cases hp : (y.p == x.p)
              · have hlo : lostB S x k := ⟨fun q hq e => by rw [HU.out] at hq e; exact absurd (hβ.out.2 ⟨q, hq, e.trans HY.out⟩) (by simp), fun h => by rw [HY.out] at h; simp [h.2] at hp⟩
                have hset := (HPL.out.elim fun jj hjj => (hjj k hlt hlo).2)
                rw [HY.out] at hset
                unfold setNo at hset
                have hrem : y.p % 4 = x.p % 4 := by omega
                have HLO := Lib.hid hlo
                obtain rfl : m = 0 := by
                  rcases HL.out with h | ⟨_, q, h1, h2⟩
                  · exact h
                  · exact absurd (HONE.out q k (by omega) hlt h2 hlo) (by omega)
                clear hlo hset
                go_wp2
                go_quiet (fail)
                all_goals
                  go_wp2
                  go_quiet (fail)
                  all_goals
                    go_wp2
                    go_roundw
                    case rel => exact ⟨k + 1, 1, by omega, by go_num, by first | rfl | go_num, .inr ⟨rfl, k, by omega, HLO.out⟩, hK2.drewN _⟩
                    case measure => simp [intOf]; omega
              · go_wp2
                go_quiet (fail)
                all_goals
                  go_wp2
                  go_roundw
                  case rel => exact ⟨k + 1, m, by omega, by go_num, rfl, HL.out.imp id (fun ⟨e, q, h1, h2⟩ => ⟨e, q, by omega, h2⟩), hK2.drewN _⟩
                  case measure => simp [intOf]; omega
          · cases hs : (y.s == x.s)
            · go_wp2
              go_quiet (fail)
              all_goals
                go_wp2
                go_roundw
                case rel => exact ⟨k + 1, m, by omega, by go_num, rfl, HL.out.imp id (fun ⟨e, q, h1, h2⟩ => ⟨e, q, by omega, h2⟩), hK2.drewN _⟩
                case measure => simp [intOf]; omega
            · cases hp : (y.p == x.p)
              · go_wp2
                go_quiet (fail)
                all_goals
                  go_wp2
                  go_roundw
                  case rel => exact ⟨k + 1, m, by omega, by go_num, rfl, HL.out.imp id (fun ⟨e, q, h1, h2⟩ => ⟨e, q, by omega, h2⟩), hK2.drewN _⟩
                  case measure => simp [intOf]; omega
              · go_wp2
                go_quiet (fail)
                all_goals
                  go_wp2
                  go_roundw
                  case rel => exact ⟨k + 1, m, by omega, by go_num, rfl, HL.out.imp id (fun ⟨e, q, h1, h2⟩ => ⟨e, q, by omega, h2⟩), hK2.drewN _⟩
                  case measure => simp [intOf]; omega
    · obtain rfl : k = allN S := by omega
      have hm8 : m ≤ 1 := by have := HL.out; omega
      obtain ⟨d0, d1, d2, d3, d4⟩ := HX5.out.kept hK hzx
      obtain ⟨e0, e1, e2, e3, e4⟩ := HY5.out.kept hK hzy
      simp only [Nat.zero_mul, Nat.zero_add] at d0 d1 d2 d3 d4 e0 e1 e2 e3 e4
      have hq : ∀ w, (binOp .eql 28 (trX x) (trX x)).run Try.prog w = .ok (.bool true) w := fun w => by rw [eqT]; simp
      go_wp2_with (first
        | (go_at_call 9; refine (awake6 _).mono ?_; rintro e w6 ⟨rfl, hb6⟩))
      go_ret
      exact ⟨rfl, bgo (HBW.out.trans (hK.1.mono HBW.out.size)) hb6⟩
theorem walk_tlbFilled {W : World} (p : Option Addr) (n c : Nat) (hx : n ≤ c ∧ c ≤ maxLen ∧ ∃ D, ActsAt W p n D) (x : TransX) (hxx : x.Ok) :
    Calls Try.prog 4 #[.slice p n c, x.val] W fun e w' => e = .returned (.bool true) ∧ Below W.heap.size W w' := by
  by_cases hn : n ≤ 120
  · cases hm : mayX x
    · exact filled_no p n c hx x hn hm
    · exact filled_yes p n c hx x hn hm
  · have hn' : 120 < n := by omega
    have h2 : n ≤ maxLen := Nat.le_trans hx.1 hx.2.1
    unfold maxLen at h2
    clear hx hn
    go_enter Try.func4, Try.ntmps4
    go_wp2_with (first
      | (go_at_call 9; refine (awake6 _).mono ?_; rintro e w3 ⟨rfl, hb3⟩))
    go_ret
    exact ⟨rfl, bgo (bal (Below.refl _ _) _) hb3⟩
end Go.Proofs.Ytimgiplcejcaaaa
