/- The law CoresOwn. -/
import Derived.Test.YtedapbliebiblaaCoG
import Derived.Test.YtedapbliebiblaaPick
import Derived.Test.YtedapbliebiblaaKq
import Derived.Deep.CutRange
namespace Go.Proofs.Ytedapbliebiblaa
set_option linter.unusedVariables false
set_option linter.unusedSimpArgs false
open Go.ChangeShapes Go.WideShapes Go.ChangeAt Go.RowKit Go.Shelf

theorem setT_setT (S : Nat → TS) (k : Nat) (a b : TS) : setT (setT S k a) k b = setT S k b := by
  funext i
  unfold setT
  by_cases h : i = k
  · rw [if_pos h, if_pos h]
  · rw [if_neg h, if_neg h, if_neg h]
theorem setT_at (S : Nat → TS) (k : Nat) (s : TS) : setT S k s k = s := by unfold setT; rw [if_pos rfl]
/-- A cache behind a Prefetch. -/
def ownP (s : TS) (q : Nat) : TS := if hasB s q = true then s else fillS s (lf 1 q)
theorem ownP_ok {s : TS} (hg : Good s) (h : OwnOk s) {q : Nat} (hq : q < 8) : OwnOk (ownP s q) := by
  unfold ownP
  split
  · exact h
  · rename_i hn
    exact own_fill_ok hg h hq (by simpa using hn)
theorem ownP_has {s : TS} (hg : Good s) (h : OwnOk s) {q : Nat} (hq : q < 8) (r : Nat) : hasB (ownP s q) r = if r = q then true else hasB s r := by
  unfold ownP
  split
  · rename_i hy
    split
    · rename_i e; rw [e]; exact hy
    · rfl
  · rename_i hn
    exact own_fill_has hg h hq (by simpa using hn) r
set_option maxRecDepth 100000 in
theorem cpfO (w : World) (b g c k : Nat) (R Q : Nat → Int) (T : Nat → Nat) (S : Nat → TS) (mb mg mc : Nat) (P : Nat) (h : CoresAt w b g 3 c R Q T S) (hk : k < 3) (hM : MemAt w mb mg 4 mc (mF 8)) (hr : R k = 0) (hq : Q k = 1) (hP : P < 8) (ho : OwnOk (S k)) :
    Calls Try.prog 22 #[.pointer (some ⟨b, 0, none⟩), .int .i64 k, .pointer (some ⟨mb, 0, none⟩), .int .i64 P] w fun e w' => e = .returned (.bool (!hasB (S k) P)) ∧ CoresAt w' b g 3 c R Q T (setT S k (ownP (S k) P)) ∧ TlbOnly (T k) w w' := by
  have h := cpref_ok w b g 3 c k R Q T S mb mg 4 mc (mF 8) (P : Int) h hk hM (by rw [hr]; decide) (by omega) (by omega)
  have e := own_find ho hP
  rw [hr, hq] at h
  unfold ownP
  cases hh : hasB (S k) P
  · rw [hh] at e
    rw [trans4 hP e] at h
    exact h
  · rw [hh] at e
    have ht : transF 4 (mF 8) 0 1 (P : Int) (S k) = (((findS (S k) 1 P).1, true, 0), S k) := by unfold transF; rw [if_pos e]
    rw [ht] at h
    exact h
/-- The table of what each core has. -/
structure HasAt (w : World) (hb : Nat) (h : Nat → Nat → Bool) : Prop where
  cells : ∀ j q, j < 3 → q < 8 → w.cell? ⟨hb, j * 8 + q, none⟩ = some (.bool (h j q))
  free : ∀ i, w.frozen? ⟨hb, i, none⟩ = false
  lt : hb < w.heap.size
theorem HasAt.of_block {w w' : World} {hb : Nat} {h : Nat → Nat → Bool} (H : HasAt w hb h) (hs : w.heap.size ≤ w'.heap.size) (e : w'.heap[hb]? = w.heap[hb]?) : HasAt w' hb h :=
  ⟨fun j q hj hq => (cell_of_block e).trans (H.cells j q hj hq), fun i => (frozen_of_block e).trans (H.free i), Nat.lt_of_lt_of_le H.lt hs⟩
theorem HasAt.call {w w' : World} {hb : Nat} {h : Nat → Nat → Bool} (H : HasAt w hb h) (k : Below w.heap.size w w') : HasAt w' hb h := H.of_block k.size (k.block hb H.lt)
theorem HasAt.congr {w : World} {hb : Nat} {h h' : Nat → Nat → Bool} (H : HasAt w hb h) (e : ∀ j q, j < 3 → q < 8 → h j q = h' j q) : HasAt w hb h' :=
  ⟨fun j q hj hq => by rw [← e j q hj hq]; exact H.cells j q hj hq, H.free, H.lt⟩
theorem HasAt.set {w : World} {hb : Nat} {h : Nat → Nat → Bool} (H : HasAt w hb h) {K P : Nat} (hK : K < 3) (hP : P < 8) (v : Bool) : HasAt (w.setCell ⟨hb, K * 8 + P, none⟩ (.bool v)) hb (fun j q => if j = K ∧ q = P then v else h j q) := by
  refine ⟨fun j q hj hq => ?_, fun i => by simp [go_sem, H.free i], by simpa using H.lt⟩
  have c := H.cells j q hj hq
  by_cases e : j = K ∧ q = P
  · rw [if_pos e]
    obtain ⟨rfl, rfl⟩ := e
    simp [go_sem, c]
  · rw [if_neg e, World.cell?_setCell_other]
    · exact c
    · intro e2; simp only [Addr.mk.injEq, true_and, and_true] at e2; exact e (by omega)
theorem HasAt.drew {w : World} {hb : Nat} {h : Nat → Nat → Bool} (H : HasAt w hb h) : HasAt w.drew hb h := H.of_block (Nat.le_refl _) rfl
theorem HasAt.drewN {w : World} {hb : Nat} {h : Nat → Nat → Bool} (H : HasAt w hb h) (k : Nat) : HasAt (w.drewN k) hb h := H.of_block (Nat.le_refl _) rfl
theorem CoresAt.drewN {w : World} {b g n c : Nat} {R Q : Nat → Int} {T : Nat → Nat} {S : Nat → TS} (h : CoresAt w b g n c R Q T S) (k : Nat) : CoresAt (w.drewN k) b g n c R Q T S := h.of_blocks (Nat.le_refl _) rfl rfl fun _ _ => rfl
/-- The empty table. -/
abbrev zHl : List Value := [.bool false, .bool false, .bool false, .bool false, .bool false, .bool false, .bool false, .bool false, .bool false, .bool false, .bool false, .bool false, .bool false, .bool false, .bool false, .bool false, .bool false, .bool false, .bool false, .bool false, .bool false, .bool false, .bool false, .bool false]
abbrev zHa : Array Value := #[.bool false, .bool false, .bool false, .bool false, .bool false, .bool false, .bool false, .bool false, .bool false, .bool false, .bool false, .bool false, .bool false, .bool false, .bool false, .bool false, .bool false, .bool false, .bool false, .bool false, .bool false, .bool false, .bool false, .bool false]
theorem zHa_one : zHa.all (·.oneCell') = true := by decide +kernel
theorem zeroH : ∀ w, (zeroValue 70).run Try.prog w = .ok (.agg zHa) w := fun _ => by kernel_rfl
theorem zHl_at (i : Nat) (h : i < 24) : zHl[i]? = some (.bool false) := by
  rw [show zHl = List.replicate 24 (.bool false) from rfl, List.getElem?_replicate_of_lt h]
theorem newH (W : World) (cs : Array Value) (t : TypeId) : HasAt ((W.alloc (.cells cs t)).setRow W.heap.size zHa) W.heap.size (fun _ _ => false) := by
  have hr := setRow_heap (W.alloc (.cells cs t)) W.heap.size _ zHa _ _ (World.alloc_heap_new W (.cells cs t))
  refine ⟨fun j q hj hq => ?_, fun i => ?_, ?_⟩
  · exact (cell_of_row _ _ (j * 8 + q) zHa t (0, 0) hr).trans (by simpa using zHl_at (j * 8 + q) (by omega))
  · unfold World.frozen?
    simp only [hr]
    simp
  · exact (Array.getElem?_eq_some_iff.1 hr).1
theorem BlkOnly.dr {b : Nat} {a c : World} (h : BlkOnly b a c) : BlkOnly b a c.drew := ⟨h.os, h.tape, h.output, h.size, h.block⟩
theorem hasB_S0 : ∀ q < 8, hasB S0 q = false := by decide +kernel
theorem belowRow {B g : Nat} {w0 w : World} (hb : Below B w0 w) (hg : B ≤ g) (cs : Array Value) : Below B w0 (w.setRow g cs) :=
  ⟨hb.os, hb.tape, hb.output, by simp; exact hb.size, fun k hk => (setRow_other w g k cs (by omega)).trans (hb.block k hk)⟩
theorem cntB_le (f : Nat → Bool) : ∀ k, cntB f k ≤ k
  | 0 => Nat.le_refl _
  | k + 1 => by have := cntB_le f k; unfold cntB b1; split <;> omega
set_option maxRecDepth 100000 in
set_option maxHeartbeats 8000000 in
theorem walk_coresOwn {W : World} (p : Option Addr) (n c : Nat) (hx : n ≤ c ∧ c ≤ maxLen ∧ ∃ D, PicksAt W p n D) (p2 : Option Addr) (n2 c2 : Nat) (hx2 : n2 ≤ c2 ∧ c2 ≤ maxLen ∧ ∃ D, PicksAt W p2 n2 D) :
    Calls Try.prog 7 #[.slice p n c, .slice p2 n2 c2] W fun e w' => e = .returned (.bool true) ∧ Below W.heap.size W w' := by
  obtain ⟨h1, h2, D, pb, off, hp, hD⟩ := hx
  obtain ⟨h3, h4, D2, pb2, off2, hp2, hD2⟩ := hx2
  unfold maxLen at h2 h4
  have HD := Lib.hid hD
  have HP := Lib.hid hp
  have HD2 := Lib.hid hD2
  have HP2 := Lib.hid hp2
  clear hD hp hD2 hp2
  by_cases hn : 40 < n
  · go_enter Try.func7, Try.ntmps7
    go_wp2_with (first
      | (go_at_call 9; refine (awake7 _).mono ?_; rintro e w3 ⟨rfl, hb3⟩))
    go_ret
    exact ⟨rfl, hb3⟩
  have hn' : n ≤ 40 := by omega
  by_cases hm : 40 < n2
  · go_enter Try.func7, Try.ntmps7
    go_wp2_with (first
      | (go_at_call 9; refine (awake7 _).mono ?_; rintro e w3 ⟨rfl, hb3⟩))
    go_ret
    exact ⟨rfl, hb3⟩
  have hm' : n2 ≤ 40 := by omega
  have hv257 : WordI 257 := ⟨by decide, by decide⟩
  have hv513 : WordI 513 := ⟨by decide, by decide⟩
  have hv775 : WordI 775 := ⟨by decide, by decide⟩
  go_enter Try.func7, Try.ntmps7
  go_wp2_with (fail)
  refine (new_ok _ 4 (by decide) (by decide)).mono ?_
  rintro e w1 ⟨mb, mg, mc, rfl, hm1, hb1, hg1, hw1⟩
  have HM1 := Lib.hid hm1
  have lmg := hm1.lg
  have lmb := hm1.lb
  clear hm1 hn hm
  go_wp2_with (fail)
  refine (cnew_ok _ 3 (by decide) (by decide)).mono ?_
  rintro e w2 ⟨b, g, T, rfl, hc2, hb2, hg2, ht2, hw2⟩
  have HC2 := Lib.hid hc2
  have HT : Hid (∀ i, i < 3 → W.heap.size ≤ T i) := Lib.hid (fun i hi => Nat.le_trans hw1.size (ht2 i hi))
  have HM2 := Lib.hid (HM1.out.call hw2)
  have hTm : ∀ i, i < 3 → T i ≠ mg := fun i hi => by have := ht2 i hi; omega
  have hTb : ∀ i, i < 3 → T i ≠ mb := fun i hi => by have := ht2 i hi; omega
  have HTM := Lib.hid hTm
  have HTB := Lib.hid hTb
  have hbm : b ≠ mg := by omega
  have hgm : g ≠ mg := by omega
  have hgm2 : g ≠ mb := by omega
  have hgW : W.heap.size ≤ g := Nat.le_trans hw1.size hg2
  have hTl : ∀ i, i < 3 → T i < w2.heap.size := fun i hi => (hc2.tlb i hi).lt
  have HTL := Lib.hid hTl
  have lb2 := hc2.lb
  have lg2 := hc2.lg
  clear hc2 ht2 hTm hTb hTl
  go_wp2_with (first
    | (go_at_call 15; with_reducible refine (store_at w2 mb mg 4 mc _ 0 0 257 HM2.out (by decide) (by decide) hv257).mono ?_; rintro e w4 ⟨rfl, hm4, ho4⟩; have HM4 := Lib.hid hm4; have HO4 := Lib.hid ho4; have HC4 := Lib.hid (HC2.out.blk ho4 hbm hgm HTM.out); clear hm4 ho4)
    | (go_at_call 15; with_reducible refine (store_at w4 mb mg 4 mc _ 64 8 513 HM4.out (by decide) (by decide) hv513).mono ?_; rintro e w5 ⟨rfl, hm5, ho5⟩; have HM5 := Lib.hid hm5; have HO5 := Lib.hid ho5; have HC5 := Lib.hid (HC4.out.blk ho5 hbm hgm HTM.out); clear hm5 ho5))
  have B2 := bgo hw1 hw2
  have B5 : Below W.heap.size W w5 := (B2.trans (HO4.out.below hg1 (by have := hw2.size; omega))).trans (HO5.out.below hg1 (by have := hw2.size; have := HO4.out.size; omega))
  have hz5 : w2.heap.size ≤ w5.heap.size := Nat.le_trans HO4.out.size HO5.out.size
  have hm5 := HM5.out
  rw [mF_0] at hm5
  have HM5' := Lib.hid hm5
  clear HM1 HM2 HM4 HM5 HC2 HC4 HO4 HO5 B2 hm5 hv257 hv513
  go_loopw [9] (fun i wr => ∃ k : Nat, k ≤ 8 ∧ i = .int .u64 k ∧ Hid (MemAt wr mb mg 4 mc (mF k)) ∧ Hid (CoresAt wr b g 3 3 (fun _ => -1) (fun _ => 0) T (fun _ => S0)) ∧ w2.heap.size ≤ wr.heap.size ∧ Below W.heap.size W wr) (fun i _ => 8 - (intOf i).toNat)
  case atStart => exact ⟨0, by omega, rfl, HM5', HC5, hz5, B5⟩
  case round =>
    clear HM5' HC5 B5 hz5
    obtain ⟨k, hk, rfl, HM, HC, hz, hB⟩ := hrel
    by_cases hlt : k < 8
    · go_wp2_with (first
        | (go_at_call 15; refine (store_at wr mb mg 4 mc _ _ (16 + k) 775 HM.out (by omega) (by omega) hv775).mono ?_; rintro e w6 ⟨rfl, hm6, ho6⟩; have HM6 := Lib.hid hm6; have HO6 := Lib.hid ho6; clear hm6 ho6))
      go_roundw
      case rel => exact ⟨k + 1, by omega, by go_num, Lib.hid (by rw [← mF_succ]; exact HM6.out), Lib.hid (HC.out.blk HO6.out hbm hgm HTM.out), Nat.le_trans hz HO6.out.size, hB.trans (HO6.out.below hg1 HM.out.lg)⟩
      case measure => simp [intOf]; omega
    · obtain rfl : k = 8 := by omega
      clear hlt hk hv775
      have hz8 := zeroH
      go_wp2_with (refine wpList_store_row rfl 70 _ _ rfl wr.heap.size zHa rfl rfl _ _ (World.alloc_heap_new wr _) (by kernel_rfl) rfl zHa_one ?_)
      obtain ⟨wg, hwg⟩ : ∃ wg, wg = (wr.alloc (.cells zHa 70)).setRow wr.heap.size zHa := ⟨_, rfl⟩
      rw [← hwg]
      have hH0 : HasAt wg wr.heap.size (fun _ _ => false) := hwg ▸ newH wr _ _
      have hBwg : Below wr.heap.size wr wg := hwg ▸ belowRow (bal (Below.refl _ _) _) (Nat.le_refl _) _
      obtain ⟨hb, hhb⟩ : ∃ g, wr.heap.size = g := ⟨_, rfl⟩
      rw [hhb] at hH0 ⊢
      have HH0 : Hid (HasAt wg hb (fun j q => hasB S0 q)) := Lib.hid (hH0.congr fun j q _ hq => (hasB_S0 q hq).symm)
      have HCg := Lib.hid (HC.out.call hBwg)
      have HMg := Lib.hid (HM.out.call hBwg)
      have hBg : Below W.heap.size W wg := bgo hB hBwg
      have hT2 : ∀ i, i < 3 → T i < hb := fun i hi => by have := HTL.out i hi; omega
      have HT2 := Lib.hid hT2
      have hhz : W.heap.size ≤ hb := by have := hB.size; omega
      have hgb2 : g < hb := by omega
      have hbb2 : b < hb := by omega
      have hmg2 : mg < hb := by have := HM.out.lg; omega
      have hmb2 : mb < hb := by have := HM.out.lb; omega
      clear hwg hBwg hH0 HC HM hB hz hz8 HTL hT2 hhb
      go_loopw [11] (fun i wr => ∃ (k : Nat) (R Q : Nat → Int), k ≤ 3 ∧ i = .int .i64 k ∧ Hid (∀ j, j < k → R j = 0 ∧ Q j = 1) ∧ Hid (MemAt wr mb mg 4 mc (mF 8)) ∧ Hid (CoresAt wr b g 3 3 R Q T (fun _ => S0)) ∧ Hid (HasAt wr hb (fun j q => hasB S0 q)) ∧ Below W.heap.size W wr) (fun i _ => 3 - (intOf i).toNat)
      case atStart => exact ⟨0, _, _, by omega, rfl, Lib.hid (fun j hj => absurd hj (by omega)), HMg, HCg, HH0, hBg⟩
      case round =>
        clear HMg HCg HH0 hBg
        obtain ⟨k, R, Q, hk, rfl, HRQ, HM, HC, HH, hB⟩ := hrel
        by_cases hlt : k < 3
        · go_wp2_with (first
            | (go_at_call 19; refine (cset_some wr b g 3 3 k R Q T _ 0 1 HC.out hlt (by decide) (by decide) (by decide)).mono ?_; rintro e w3 ⟨rfl, hc3, ho3⟩; have HC3 := Lib.hid hc3; have HO3 := Lib.hid ho3; clear hc3 ho3))
          go_roundw
          case rel => exact ⟨k + 1, _, _, by omega, by go_num, Lib.hid (fun j hj => by unfold setR; by_cases e : j = k; (rw [if_pos e, if_pos e]; exact ⟨rfl, rfl⟩); (rw [if_neg e, if_neg e]; exact HRQ.out j (by omega))), Lib.hid (HO3.out.mem HM.out (Ne.symm hgm2) (Ne.symm hgm)), HC3, Lib.hid (HH.out.of_block HO3.out.size (HO3.out.block hb HH.out.lt (by omega))), hB.trans (HO3.out.below hgW HC.out.lg)⟩
          case measure => simp [intOf]; omega
        · obtain rfl : k = 3 := by omega
          clear hlt hk
          go_wp2_with (fail)
          go_loopw [12] (fun i wr => ∃ (k : Nat) (S : Nat → TS), k ≤ n ∧ i = .int .i64 k ∧ Hid (∀ j, j < 3 → OwnOk (S j)) ∧ Hid (MemAt wr mb mg 4 mc (mF 8)) ∧ Hid (CoresAt wr b g 3 3 R Q T S) ∧ Hid (HasAt wr hb (fun j q => hasB (S j) q)) ∧ Below W.heap.size W wr) (fun i _ => n - (intOf i).toNat)
          case atStart => exact ⟨0, _, by omega, rfl, Lib.hid (fun j _ => own_S0), HM, HC, HH, hB⟩
          case round =>
            clear HM HC HH hB
            obtain ⟨k, S, hk, rfl, HOK, HM, HC, HH, hB⟩ := hrel
            by_cases hlt : k < n
            · have hlt' : (k : Int) < n := by omega
              obtain ⟨rfl, hpb⟩ := HP.out (by omega)
              obtain ⟨c0, d0, d1⟩ := HD.out k hlt
              have c1 : wr.cell? ⟨pb, off + k, none⟩ = some (.int .i64 (D k)) := (hB.cell (p := ⟨pb, off + k, none⟩) hpb).trans c0
              have l0 := lowI_0 (D k) 8 (by decide)
              have l1 := lowI_1 (D k) 8 (by decide)
              have HLW := Lib.hid (show -9223372036854775808 ≤ D k ∧ D k ≤ 9223372036854775807 from ⟨d0, d1⟩)
              obtain ⟨P, hP⟩ : ∃ q : Nat, lowI (D k) 8 = q := ⟨(lowI (D k) 8).toNat, by omega⟩
              rw [hP] at l0 l1
              have HPP := Lib.hid hP
              have hP8 : P < 8 := by omega
              clear c0 d0 d1 hP
              have hk60 : k ≤ 40 := by omega
              go_upto_if 85 with (first
                | (go_at_call 20; (with_reducible refine (low_any (D k) 8 _ HLW.out (by decide) (by decide)).mono ?_); rw [HPP.out]; rintro e w8 ⟨rfl, rfl⟩))
              go_cut [13] from 71 to 165 (fun x wc => ∃ K : Nat, K < 3 ∧ x = .int .i64 K ∧ wc = wr)
              case first =>
                by_cases hof : k < n2
                · have hof' : (k : Int) < n2 := by omega
                  obtain ⟨rfl, hpb2⟩ := HP2.out (by omega)
                  obtain ⟨e0, f0, f1⟩ := HD2.out k hof
                  have e1 : wr.cell? ⟨pb2, off2 + k, none⟩ = some (.int .i64 (D2 k)) := (hB.cell (p := ⟨pb2, off2 + k, none⟩) hpb2).trans e0
                  have z0 := lowI_0 (D2 k) 3 (by decide)
                  have z1 := lowI_1 (D2 k) 3 (by decide)
                  have HLV := Lib.hid (show -9223372036854775808 ≤ D2 k ∧ D2 k ≤ 9223372036854775807 from ⟨f0, f1⟩)
                  obtain ⟨K, hK⟩ : ∃ q : Nat, lowI (D2 k) 3 = q := ⟨(lowI (D2 k) 3).toNat, by omega⟩
                  rw [hK] at z0 z1
                  have HK := Lib.hid hK
                  clear e0 f0 f1 hK
                  go_wp2_with (first
                    | (go_at_call 20; (with_reducible refine (low_any (D2 k) 3 _ HLV.out (by decide) (by decide)).mono ?_); rw [HK.out]; rintro e w7 ⟨rfl, rfl⟩))
                  go_meet
                  exact ⟨K, by omega, rfl, rfl⟩
                · have hof' : ¬ (k : Int) < n2 := by omega
                  clear hof
                  go_wp2
                  go_meet
                  exact ⟨0, by omega, rfl, rfl⟩
              case rest =>
                obtain ⟨K, hK3, rfl, rfl⟩ := hcut
                have hcell := HH.out.cells K P hK3 hP8
                obtain ⟨hs, hhs⟩ : ∃ x, hasB (S K) P = x := ⟨_, rfl⟩
                have HHS := Lib.hid hhs
                rw [hhs] at hcell
                clear hhs
                go_upto_region 25 with fail
                go_cut [101] from 71 to 165 (fun x wd => x = .bool false ∧ Hid (CoresAt wd b g 3 3 R Q T (setT S K (ownP (S K) P))) ∧ Hid (HasAt wd hb (fun j q => hasB (S j) q)) ∧ Hid (MemAt wd mb mg 4 mc (mF 8)) ∧ Below W.heap.size W wd)
                case first =>
                  go_region_with (first
                    | (go_at_call 22; refine (cpfO wc.drew b g 3 K R Q T S mb mg mc P HC.out.drew hK3 (HM.out.call (Below.refl _ _).drew) (HRQ.out K hK3).1 (HRQ.out K hK3).2 hP8 (HOK.out K hK3)).mono ?_; rw [HHS.out]; rintro e w4 ⟨rfl, hc4, ho4⟩; have HC4 := Lib.hid hc4; have HO4 := Lib.hid ho4; have HH4 := Lib.hid (HH.out.drew.of_block ho4.size (ho4.block hb HH.out.lt (by have := HT2.out K hK3; omega))); have HM4 := Lib.hid ((HM.out.call (Below.refl _ _).drew).of_blocks ho4.size (ho4.block _ HM.out.lb (by have := HTB.out K hK3; omega)) (ho4.block _ HM.out.lg (by have := HTM.out K hK3; omega))); have hcell4 := HH4.out.cells K P hK3 hP8; rw [HHS.out] at hcell4; clear hc4 ho4))
                  all_goals
                    have B4 : Below W.heap.size W w4 := (hB.trans ((HO4.out.of_dr).below (HT.out K hK3) (HC.out.tlb K hK3).lt))
                    go_wp2_with fail
                    go_meet
                    exact ⟨rfl, HC4, HH4, HM4, B4⟩
                case rest =>
                  obtain ⟨rfl, HC4, HH4, HM4, B4⟩ := hcut
                  have hcell4 := HH4.out.cells K P hK3 hP8
                  have hfr4 : ∀ i, wc.frozen? ⟨hb, i, none⟩ = false := HH4.out.free
                  have OK4 : Hid (∀ j, j < 3 → OwnOk (setT S K (ownP (S K) P) j)) := Lib.hid (fun j hj => by unfold setT; split; (exact ownP_ok (HC.out.good K hK3) (HOK.out K hK3) hP8); (exact HOK.out j hj))
                  have EQ4 : Hid (∀ j q, j < 3 → q < 8 → (if j = K ∧ q = P then true else hasB (S j) q) = hasB (setT S K (ownP (S K) P) j) q) := Lib.hid (fun j q hj hq => by
                    unfold setT
                    by_cases e : j = K
                    · subst e
                      rw [if_pos rfl, ownP_has (HC.out.good j hK3) (HOK.out j hK3) hP8]
                      by_cases e2 : q = P
                      · rw [if_pos ⟨rfl, e2⟩, if_pos e2]
                      · rw [if_neg (fun h => e2 h.2), if_neg e2]
                    · rw [if_neg e, if_neg (fun h => e h.1)])
                  obtain ⟨s4, hs4⟩ : ∃ x, ownP (S K) P = x := ⟨_, rfl⟩
                  rw [hs4] at OK4 EQ4 HC4
                  clear hs4 hB HM HH HC HOK hcell HHS
                  go_upto_if 107 with fail
                  have H5 := Lib.hid ((HH4.out.set hK3 hP8 true).congr EQ4.out)
                  have C5 := Lib.hid (HC4.out.far (d := hb) (j := K * 8 + P) (by omega) (by omega) (fun i hi => Nat.ne_of_lt (HT2.out i hi)) (.bool true))
                  have M5 := Lib.hid (HM4.out.of_blocks (W' := wc.setCell ⟨hb, K * 8 + P, none⟩ (.bool true)) (by simp) (Go.heap_setCell_other _ _ _ _ (by simp; omega)) (Go.heap_setCell_other _ _ _ _ (by simp; omega)))
                  have B5 : Below W.heap.size W (wc.setCell ⟨hb, K * 8 + P, none⟩ (.bool true)) := Below.setCell B4 hhz _
                  generalize (wc.setCell ⟨hb, K * 8 + P, none⟩ (.bool true)) = w5 at H5 C5 M5 B5 ⊢
                  clear EQ4 HC4 HH4 HM4 hcell4 hfr4 B4
                  go_cut [15, 16, 17, 18] from 71 to 165 (fun _ _ _ _ wd => ∃ SE : Nat → TS, Hid (∀ j, j < 3 → OwnOk (SE j)) ∧ Hid (MemAt wd mb mg 4 mc (mF 8)) ∧ Hid (CoresAt wd b g 3 3 R Q T SE) ∧ Hid (HasAt wd hb (fun j q => hasB (SE j) q)) ∧ Below W.heap.size W wd)
                  case first =>
                    by_cases hP0 : P = 0
                    · subst hP0
                      have hok4 : OwnOk s4 := by have := OK4.out K hK3; rwa [setT_at] at this
                      have hlen := own_evict_len s4
                      obtain ⟨n0, hn0⟩ : ∃ x, allN s4 = x := ⟨_, rfl⟩
                      have hn08 : n0 ≤ 8 := by rw [← hn0]; unfold allN; exact fullP_len s4 8
                      have HN0 := Lib.hid hn0
                      have hok7 := own_evict_ok hok4
                      have hsame := fun r hr h0 h4 => own_evict_has s4 (r := r) hr h0 h4
                      obtain ⟨⟨s7, o⟩, hev⟩ : ∃ x, evictS s4 0 0 = x := ⟨_, rfl⟩
                      rw [hev] at hlen hok7 hsame
                      rw [hn0] at hlen
                      have HEV := Lib.hid hev
                      obtain ⟨N, hN⟩ : ∃ x, allN s7 = x := ⟨_, rfl⟩
                      simp only at hlen hok7 hsame
                      rw [hN] at hlen
                      have HN := Lib.hid hN
                      have HOK7 := Lib.hid hok7
                      have HSAME : Hid (∀ q, q < 8 → q ≠ 0 → q ≠ 4 → hasB s4 q = hasB s7 q) := Lib.hid (fun q h1 h2 h3 => (hsame q h1 h2 h3).symm)
                      have hcmp : ((N : Int) == (n0 : Int) - 1) = o := by
                        cases o
                        · simp [b1] at hlen
                          exact beq_eq_false_iff_ne.2 (by omega)
                        · simp [b1] at hlen
                          exact beq_iff_eq.2 (by omega)
                      have hN8 : N ≤ 8 := by omega
                      have hgh : g ≠ hb := by omega
                      have hbh : b ≠ hb := by omega
                      have EQ7 : Hid (∀ j q, j < 3 → q < 8 → (if j = K ∧ q = 4 then false else if j = K ∧ q = 0 then false else hasB (setT S K s4 j) q) = (if j = K then midH s7 (hasB s4) 0 q else hasB (S j) q)) := Lib.hid (fun j q hj hq => by
                        rw [midH_0]
                        unfold setT
                        by_cases e : j = K
                        · subst e
                          simp only [true_and, if_true]
                          by_cases e4 : q = 4
                          · rw [if_pos e4, if_pos (.inr e4)]
                          · by_cases e0 : q = 0
                            · rw [if_neg e4, if_pos e0, if_pos (.inl e0)]
                            · rw [if_neg e4, if_neg e0, if_neg (by omega)]
                        · simp [e])
                      clear hn0 hev hN hok7 hsame hok4 hlen
                      go_upto_region 34 with (first
                        | (go_at_call 26; (with_reducible refine (call_ok w7 b g 3 3 K R Q T (setT S K s7) C7.out hK3).mono ?_); rw [setT_at, HN.out]; rintro e w8 ⟨ps, cs, gs, rfl, hp8, hr8, hb8⟩; have HP8 := Lib.hid hp8; have HR8 := Lib.hid hr8; have H8 := Lib.hid (H7.out.call hb8); have C8 := Lib.hid (C7.out.call hb8); have M8 := Lib.hid (M7.out.call hb8); have B8 := bgo B7 hb8; have hz78 := hb8.size; clear hp8 hr8)
                        | (go_at_call 23; refine (cevict_ok w6 b g 3 3 K R Q T (setT S K s4) 0 0 C6.out hK3).mono ?_; rw [setT_at, HEV.out, setT_setT]; rintro e w7 ⟨rfl, hc7, ho7⟩; have C7 := Lib.hid hc7; have H7 := Lib.hid (H6.out.of_block ho7.size (ho7.block hb H6.out.lt (by have := HT2.out K hK3; omega))); have M7 := Lib.hid (M6.out.of_blocks ho7.size (ho7.block _ M6.out.lb (by have := HTB.out K hK3; omega)) (ho7.block _ M6.out.lg (by have := HTM.out K hK3; omega))); have B7 : Below W.heap.size W w7 := B6.trans (ho7.below (HT.out K hK3) (C6.out.tlb K hK3).lt); have hz7 := H7.out.lt; clear hc7 ho7)
                        | (go_at_call 26; refine (call_ok w5 b g 3 3 K R Q T (setT S K s4) C5.out hK3).mono ?_; rw [setT_at, HN0.out]; rintro e w6 ⟨ps6, cs6, gs6, rfl, -, -, hb6⟩; have C6 := Lib.hid (C5.out.call hb6); have H6 := Lib.hid (H5.out.call hb6); have M6 := Lib.hid (M5.out.call hb6); have B6 := bgo B5 hb6))
                      clear C5 H5 M5 B5 C6 H6 M6 B6 C7 H7 M7 B7
                      have k0 := H8.out.cells K 0 hK3 (by decide)
                      simp only [Nat.add_zero] at k0
                      have hK3' : (K : Int) < 3 := by omega
                      have k4 := H8.out.cells K 4 hK3 (by decide)
                      have f8 : ∀ i, w8.frozen? ⟨hb, i, none⟩ = false := H8.out.free
                      go_cut [18] from 71 to 165 (fun _ wd => Hid (HasAt wd hb (fun j q => if j = K then midH s7 (hasB s4) 0 q else hasB (S j) q)) ∧ Hid (BlkOnly hb w8 wd))
                      case first =>
                        go_region
                        all_goals go_wp2
                        all_goals go_meet
                        all_goals exact ⟨Lib.hid ((((H8.out.set hK3 (show 0 < 8 by decide) false).set hK3 (show 4 < 8 by decide) false).congr EQ7.out).drew), Lib.hid (((BlkOnly.refl hb w8).set _ _).set _ _).dr⟩
                      case rest =>
                        obtain ⟨H9, O9⟩ := hcut
                        clear k0 k4 f8
                        go_wp2_with (fail)
                        go_loopw [18] (fun i wq => ∃ l : Nat, l ≤ N ∧ i = .int .i64 l ∧ Hid (HasAt wq hb (fun j q => if j = K then midH s7 (hasB s4) l q else hasB (S j) q)) ∧ Hid (BlkOnly hb w8 wq)) (fun i _ => N - (intOf i).toNat)
                        case atStart => exact ⟨0, by omega, rfl, H9, O9⟩
                        case round =>
                          clear H9 O9
                          obtain ⟨l, hl, rfl, HL, OL⟩ := hrel
                          by_cases hll : l < N
                          · have hll' : (l : Int) < N := by omega
                            obtain ⟨rfl, hg1', hg2'⟩ := HP8.out (by omega)
                            have hrow := HR8.out l (by first | omega | (rw [setT_at, HN.out]; exact hll))
                            obtain ⟨r, hr8', hxr, hhr⟩ := own_row HOK7.out (l := l) (by rw [HN.out]; exact hll)
                            rw [hxr] at hrow
                            obtain ⟨c0, c1', c2', c3, c4⟩ := hrow
                            have hgsb : gs ≠ hb := by omega
                            have d1 : wr.cell? ⟨gs, l * 5 + 1, none⟩ = some (.int .i64 r) := (cell_of_block (OL.out.block gs hg2' hgsb)).trans c1'
                            have kr := HL.out.cells K r hK3 hr8'
                            have fL : ∀ i, wr.frozen? ⟨hb, i, none⟩ = false := HL.out.free
                            have hr8i : (r : Int) < 8 := by omega
                            clear c0 c1' c2' c3 c4
                            go_upto_region 38 with fail
                            go_region
                            all_goals go_wp2
                            all_goals
                              refine ⟨⟨l + 1, by omega, by go_num, Lib.hid (((HL.out.set hK3 hr8' true).congr fun j q hj hq => ?_).drew), Lib.hid (OL.out.set _ _).dr⟩, by simp [intOf]; omega⟩
                              by_cases e : j = K
                              · rw [if_pos e]
                                rw [midH_succ HOK7.out (hasB s4) HSAME.out (l := l) (by rw [HN.out]; exact hll) (p := r) (by rw [hxr]; rfl) q]
                                by_cases e2 : q = r
                                · rw [if_pos ⟨e, e2⟩, if_pos e2, if_pos e]
                                · rw [if_neg (fun h => e2 h.2), if_neg e2, if_pos e]
                              · rw [if_neg (fun h => e h.1), if_neg e, if_neg e]
                          · obtain rfl : l = N := by omega
                            clear hll hl
                            go_wp2
                            go_meet
                            refine ⟨setT S K s7, Lib.hid (fun j hj => ?_), Lib.hid (OL.out.mem M8.out (by omega) (by omega)), Lib.hid (C8.out.blk OL.out hbh hgh (fun i hi => Nat.ne_of_lt (HT2.out i hi))), Lib.hid (HL.out.congr fun j q hj hq => ?_), B8.trans (OL.out.below hhz H8.out.lt)⟩
                            · have h4 := OK4.out j hj
                              unfold setT at h4 ⊢
                              by_cases e : j = K
                              · rw [if_pos e]; exact HOK7.out
                              · rw [if_neg e] at h4 ⊢; exact h4
                            · have hme := midH_end HOK7.out (hasB s4) HSAME.out q hq
                              rw [HN.out] at hme
                              by_cases e : j = K
                              · rw [if_pos e, hme, e, setT_at]
                              · rw [if_neg e]; unfold setT; rw [if_neg e]
                    · have hP0' : ¬ (P : Int) = 0 := by omega
                      clear hP0
                      go_wp2
                      go_meet
                      exact ⟨_, OK4, M5, C5, H5, B5⟩
                  case rest =>
                    obtain ⟨SE, OKE, ME, CE, HE, BE⟩ := hcut
                    clear C5 H5 M5 B5 OK4
                    go_wp2_with (fail)
                    go_loopw [19] (fun i wr => ∃ j : Nat, j ≤ 3 ∧ i = .int .i64 j ∧ Hid (MemAt wr mb mg 4 mc (mF 8)) ∧ Hid (CoresAt wr b g 3 3 R Q T SE) ∧ Hid (HasAt wr hb (fun j q => hasB (SE j) q)) ∧ Below W.heap.size W wr) (fun i _ => 3 - (intOf i).toNat)
                    case atStart => exact ⟨0, by omega, rfl, ME, CE, HE, BE⟩
                    case round =>
                      clear ME CE HE BE
                      obtain ⟨j, hj, rfl, ME, CE, HE, BE⟩ := hrel
                      by_cases hjl : j < 3
                      · have hjl' : (j : Int) < 3 := by omega
                        have HLEN := Lib.hid (own_len (CE.out.good j hjl) (OKE.out j hjl))
                        obtain ⟨f, hf⟩ : ∃ f, hasB (SE j) = f := ⟨_, rfl⟩
                        rw [hf] at HLEN
                        have HF := Lib.hid hf
                        clear hf
                        go_wp2_with (fail)
                        go_loopw [20, 21] (fun x y wq => ∃ q cn : Nat, q ≤ 8 ∧ cn ≤ q ∧ x = .int .i64 cn ∧ y = .int .i64 q ∧ Hid (cn = cntB f q) ∧ Hid (MemAt wq mb mg 4 mc (mF 8)) ∧ Hid (CoresAt wq b g 3 3 R Q T SE) ∧ Hid (HasAt wq hb (fun j q => hasB (SE j) q)) ∧ Below W.heap.size W wq) (fun _ y _ => 8 - (intOf y).toNat)
                        case atStart => exact ⟨0, 0, by omega, by omega, rfl, rfl, Lib.hid rfl, ME, CE, HE, BE⟩
                        case round =>
                          clear ME CE HE BE
                          obtain ⟨q, cn, hq, hcq, rfl, rfl, HCN, ME, CE, HE, BE⟩ := hrel
                          by_cases hq8 : q < 8
                          · have hq8' : (q : Int) < 8 := by omega
                            have hcl := HE.out.cells j q hjl hq8
                            rw [HF.out] at hcl
                            have HST : Hid (cntB f (q + 1) = cntB f q + b1 (f q)) := Lib.hid rfl
                            obtain ⟨v, hv⟩ : ∃ v, f q = v := ⟨_, rfl⟩
                            rw [hv] at hcl HST
                            clear hv
                            cases v
                            · go_wp2
                              go_roundw
                              case rel => exact ⟨q + 1, cn, by omega, by omega, rfl, by go_num, Lib.hid (by have h1 := HST.out; have h2 := HCN.out; simp [b1] at h1; omega), ME, CE, HE, BE⟩
                              case measure => simp [intOf]; omega
                            · go_wp2
                              go_roundw
                              case rel => exact ⟨q + 1, cn + 1, by omega, by omega, by go_num, by go_num, Lib.hid (by have h1 := HST.out; have h2 := HCN.out; simp [b1] at h1; omega), ME, CE, HE, BE⟩
                              case measure => simp [intOf]; omega
                          · obtain rfl : q = 8 := by omega
                            have HL8 : Hid (allN (SE j) = cn) := Lib.hid (HLEN.out.trans HCN.out.symm)
                            clear hq8
                            go_wp2_with (first
                              | (go_at_call 26; refine (call_ok _ b g 3 3 j R Q T SE CE.out hjl).mono ?_; rw [HL8.out]; rintro e w9 ⟨ps9, cs9, gs9, rfl, -, -, hb9⟩))
                            go_roundw
                            case rel => exact ⟨j + 1, by omega, by go_num, Lib.hid (ME.out.call hb9), Lib.hid (CE.out.call hb9), Lib.hid (HE.out.call hb9), bgo BE hb9⟩
                            case measure => simp [intOf]; omega
                      · obtain rfl : j = 3 := by omega
                        go_wp2
                        go_roundw
                        case rel => (repeat apply Exists.intro); exact ⟨⟨k + 1, SE, by omega, by go_num, OKE, ME, CE, HE, BE⟩, rfl⟩
                        case measure => simp [intOf]; omega
            · obtain rfl : k = n := by omega
              go_wp2_with (first
                | (go_at_call 9; refine (awake7 _).mono ?_; rintro e w9 ⟨rfl, hb9⟩))
              go_ret
              exact ⟨rfl, bgo hB hb9⟩
end Go.Proofs.Ytedapbliebiblaa
