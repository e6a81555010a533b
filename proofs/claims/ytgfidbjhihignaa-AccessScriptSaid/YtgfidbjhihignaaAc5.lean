/- Chapter 8's machine: ready. -/
import Derived.Test.YtgfidbjhihignaaAc4
import Derived.StillTailTactics
import Derived.Deep.CutRange
namespace Go.Proofs.Ytgfidbjhihignaa
set_option linter.unusedVariables false
set_option linter.unusedSimpArgs false
open Go.ChangeShapes Go.WideShapes Go.ChangeAt Go.RowKit Go.Shelf

theorem CoresAt.blk {w w' : World} {b g n c q : Nat} {R Q : Nat → Int} {T : Nat → Nat} {S : Nat → TS} (h : CoresAt w b g n c R Q T S) (k : BlkOnly q w w') (h1 : b ≠ q) (h2 : g ≠ q) (h3 : ∀ i, i < n → T i ≠ q) : CoresAt w' b g n c R Q T S :=
  h.of_blocks k.size (k.block b h.lb h1) (k.block g h.lg h2) fun i hi => k.block _ (h.tlb i hi).lt (h3 i hi)
/-- The nine stores: index and word. -/
def putL : List (Nat × Int) := [(0, 257), (8, 513), (9, 65536), (16, 775), (17, 1035), (18, 1295), (19, 1543), (20, 1807), (21, 16135)]
def ixP (k : Nat) : Nat := (putL.getD k (0, 0)).1
def vlP (k : Nat) : Int := (putL.getD k (0, 0)).2
def mR : Nat → Nat → Int
  | 0 => fun _ => 0
  | k + 1 => updM (mR k) (ixP k) (vlP k)
theorem ixP_lt : ∀ k < 9, ixP k < 64 := by decide
theorem vlP_w : ∀ k < 9, WordI (vlP k) := by
  intro k hk
  have : ∀ k < 9, 0 ≤ vlP k ∧ vlP k ≤ 18446744073709551615 := by decide
  exact this k hk
/-- The slice 'put'. -/
def putV (j : Nat) : Int := if j % 2 = 0 then 8 * (ixP (j / 2) : Int) else vlP (j / 2)
def PutAt (w : World) (q : Nat) : Prop := q < w.heap.size ∧ ∀ k, k < 9 → w.cell? ⟨q, 2 * k, none⟩ = some (.int .u64 (8 * (ixP k : Int))) ∧ w.cell? ⟨q, 2 * k + 1, none⟩ = some (.int .u64 (vlP k))
theorem PutAt.of_block {w w' : World} {q : Nat} (h : PutAt w q) (hs : w.heap.size ≤ w'.heap.size) (e : w'.heap[q]? = w.heap[q]?) : PutAt w' q :=
  ⟨Nat.lt_of_lt_of_le h.1 hs, fun k hk => ⟨(cell_of_block e).trans (h.2 k hk).1, (cell_of_block e).trans (h.2 k hk).2⟩⟩
abbrev putA : Array Value := #[.int .u64 0, .int .u64 257, .int .u64 64, .int .u64 513, .int .u64 72, .int .u64 65536, .int .u64 128, .int .u64 775, .int .u64 136, .int .u64 1035, .int .u64 144, .int .u64 1295, .int .u64 152, .int .u64 1543, .int .u64 160, .int .u64 1807, .int .u64 168, .int .u64 16135]
theorem put_new (w : World) (t : TypeId) : PutAt (w.alloc (.cells putA t)) w.heap.size := by
  refine ⟨by simp, fun k hk => ?_⟩
  rw [cellE, cellE]
  obtain rfl | rfl | rfl | rfl | rfl | rfl | rfl | rfl | rfl : k = 0 ∨ k = 1 ∨ k = 2 ∨ k = 3 ∨ k = 4 ∨ k = 5 ∨ k = 6 ∨ k = 7 ∨ k = 8 := by omega
  all_goals exact ⟨rfl, rfl⟩
def RD : Nat → Int := setR (setR (fun _ => -1) 0 0) 1 0
def QD : Nat → Int := setR (setR (fun _ => 0) 0 1) 1 2
/-- The machine: where it lies, and that its parts lie apart. -/
structure Rdy (W w : World) (b g : Nat) (T : Nat → Nat) (mb mg mc : Nat) (S : Nat → TS) (M : Nat → Int) : Prop where
  co : CoresAt w b g 2 2 RD QD T S
  me : MemAt w mb mg 8 mc M
  lb : W.heap.size ≤ b
  lg : W.heap.size ≤ g
  lt : ∀ i, i < 2 → W.heap.size ≤ T i
  lmb : W.heap.size ≤ mb
  lmg : W.heap.size ≤ mg
  n1 : b ≠ mb
  n2 : b ≠ mg
  n3 : g ≠ mb
  n4 : g ≠ mg
  n5 : ∀ i, i < 2 → T i ≠ mb
  n6 : ∀ i, i < 2 → T i ≠ mg
  be : Below W.heap.size W w
theorem Rdy.call {W w w' : World} {b g : Nat} {T : Nat → Nat} {mb mg mc : Nat} {S : Nat → TS} {M : Nat → Int} (h : Rdy W w b g T mb mg mc S M) (k : Below w.heap.size w w') : Rdy W w' b g T mb mg mc S M :=
  ⟨h.co.call k, h.me.call k, h.lb, h.lg, h.lt, h.lmb, h.lmg, h.n1, h.n2, h.n3, h.n4, h.n5, h.n6, bgo h.be k⟩
set_option maxRecDepth 100000 in
set_option maxHeartbeats 4000000 in
theorem ready_ok (W : World) : Calls Try.prog 8 #[] W fun e w' => ∃ b g T mb mg mc vb wb, e = .returned (.tuple #[.pointer (some ⟨b, 0, none⟩), .pointer (some ⟨mb, 0, none⟩), .pointer (some ⟨vb, 0, none⟩), .pointer (some ⟨wb, 0, none⟩)]) ∧ Rdy W w' b g T mb mg mc (fun _ => S0) (mR 9) := by
  go_enter Try.func8, Try.ntmps8
  go_wp2_with (fail)
  refine (cnew_ok _ 2 (by decide) (by decide)).mono ?_
  rintro e w1 ⟨b, g, T, rfl, hc1, hb1, hg1, ht1, hw1⟩
  have HT : Hid (∀ i, i < 2 → W.heap.size ≤ T i) := Lib.hid ht1
  have HTL : Hid (∀ i, i < 2 → T i < w1.heap.size) := Lib.hid (fun i hi => (hc1.tlb i hi).lt)
  have lb1 := hc1.lb
  have lg1 := hc1.lg
  have HC1 := Lib.hid hc1
  clear hc1 ht1
  go_wp2_with (fail)
  refine (new_ok _ 8 (by decide) (by decide)).mono ?_
  rintro e w2 ⟨mb, mg, mc, rfl, hm2, hb2, hg2, hw2⟩
  have HM2 := Lib.hid hm2
  have HC2 := Lib.hid (HC1.out.call hw2)
  have lmb2 := hm2.lb
  have lmg2 := hm2.lg
  clear hm2 HC1
  go_wp2_with (fail)
  refine (r7new_at _ 2 (by decide) (by decide)).mono ?_
  rintro e w3 ⟨vb, vg, vc, rfl, hv3, hvb3, hvg3, hw3⟩
  have HV3 := Lib.hid hv3
  have HM3 := Lib.hid (HM2.out.call hw3)
  have HC3 := Lib.hid (HC2.out.call hw3)
  have lvb := hv3.lb
  have lvg := hv3.lg
  clear hv3 HM2 HC2
  go_wp2_with (fail)
  refine (rnew_ok _ 8 (by decide) (by decide)).mono ?_
  rintro e w4 ⟨rb, rg, rc, rfl, hr4, hrb4, hrg4, hw4⟩
  have HR4 := Lib.hid hr4
  have HV4 := Lib.hid (HV3.out.call hw4)
  have HM4 := Lib.hid (HM3.out.call hw4)
  have HC4 := Lib.hid (HC3.out.call hw4)
  have lrb := hr4.lb
  have lrg := hr4.lg
  clear hr4 HM3 HC3 HV3
  go_wp2_with (fail)
  have hp5 := put_new w4 30
  have hb5 : Below w4.heap.size w4 (w4.alloc (.cells putA 30)) := bal (Below.refl _ _) _
  obtain ⟨q, hq⟩ : ∃ q, w4.heap.size = q := ⟨_, rfl⟩
  have HM5 := Lib.hid (HM4.out.call hb5)
  have HC5 := Lib.hid (HC4.out.call hb5)
  have HV5 := Lib.hid (HV4.out.call hb5)
  have HR5 := Lib.hid (HR4.out.call hb5)
  have B4 : Below W.heap.size W w4 := bgo (bgo (bgo hw1 hw2) hw3) hw4
  have B5 := bgo B4 hb5
  rw [hq] at hp5 ⊢
  have z1 := hw2.size
  have z2 := hw3.size
  have z3 := hw4.size
  have z0 := hw1.size
  generalize (w4.alloc (.cells putA 30)) = w5 at hp5 HM5 HC5 HV5 HR5 B5 ⊢
  have HP5 := Lib.hid hp5
  clear hb5 hp5 HM4 HC4 HV4 HR4 B4
  have hbm : b ≠ mg := by omega
  have hgm : g ≠ mg := by omega
  have HTM : Hid (∀ i, i < 2 → T i ≠ mg) := Lib.hid (fun i hi => by have := HTL.out i hi; omega)
  have HTR : Hid (∀ i, i < 2 → T i ≠ rg) := Lib.hid (fun i hi => by have := HTL.out i hi; omega)
  go_loopw [13] (fun i wr => ∃ (k j : Nat) (m' : Nat → Int), k ≤ 9 ∧ Hid (j = 2 * k) ∧ i = .int .i64 j ∧ Hid (MemAt wr mb mg 8 mc (mR k)) ∧ Hid (CoresAt wr b g 2 2 (fun _ => -1) (fun _ => 0) T (fun _ => S0)) ∧ Hid (RcAt wr vb vg 2 vc (fun _ => -1) (fun _ => 0)) ∧ Hid (RefAt wr rb rg 8 rc m') ∧ Hid (PutAt wr q) ∧ Below W.heap.size W wr) (fun i _ => 18 - (intOf i).toNat)
  case atStart => exact ⟨0, 0, _, by omega, Lib.hid rfl, rfl, HM5, HC5, HV5, HR5, HP5, B5⟩
  case round =>
    clear HM5 HC5 HV5 HR5 HP5 B5
    obtain ⟨k, j, m', hk, HJ, rfl, HM, HC, HV, HR, HP, hB⟩ := hrel
    by_cases hlt : k < 9
    · have hj16 : (j : Int) < 18 := by have := HJ.out; omega
      have hj01 : (0 : Int) ≤ (j : Int) + 1 := by omega
      have hj00 : (0 : Int) ≤ (j : Int) := by omega
      have hjt : ((j : Int) + 1).toNat = j + 1 := by omega
      have hj19 : (j : Int) < 17 := by have := HJ.out; omega
      have hjn : j < 17 := by omega
      have hjm : j + 1 < 18 := by omega
      have hwj : IntKind.i64.wrap ((j : Int) + 1) = (j : Int) + 1 := IntWalk.i64_in _ (by omega)
      have hj17 : (j : Int) + 1 < 18 := by have := HJ.out; omega
      obtain ⟨p0, p1⟩ := HP.out.2 k hlt
      rw [← HJ.out] at p0 p1
      have hix := ixP_lt k hlt
      have HVW := Lib.hid (vlP_w k hlt)
      go_upto_region 11 with fail
      go_cut [55] from 39 to 66 (fun _ wd => Hid (MemAt wd mb mg 8 mc (mR (k + 1))) ∧ Hid (BlkOnly mg wr wd))
      case first =>
        go_region_with (first
          | (go_at_call 12; refine (store_at wr.drew mb mg 8 mc (mR k) _ (ixP k) _ (HM.out.call (Below.refl _ _).drew) rfl (by omega) HVW.out).mono ?_; rintro e w6 ⟨rfl, hm6, ho6⟩; have HM6 := Lib.hid hm6; have HO6 := Lib.hid ho6; clear hm6 ho6))
        all_goals (go_wp2_with fail; go_meet; exact ⟨HM6, Lib.hid ((BlkOnly.of_below (Below.refl _ _).drew).trans HO6.out)⟩)
      case rest =>
        obtain ⟨HM6, HO6⟩ := hcut
        have HP6 : PutAt wc q := HP.out.of_block HO6.out.size (HO6.out.block q HP.out.1 (by omega))
        have HR6 : Hid (RefAt wc rb rg 8 rc m') := Lib.hid (HR.out.of_blocks HO6.out.size (HO6.out.block rb HR.out.lb (by omega)) (HO6.out.block rg HR.out.lg (by omega)))
        obtain ⟨p0, p1⟩ := HP6.2 k hlt
        rw [← HJ.out] at p0 p1
        have HPP6 := Lib.hid HP6
        clear HP6
        go_upto_region 12 with fail
        have hrs : Hid (∀ w, RefAt w rb rg 8 rc m' → Calls Try.prog 13 #[.pointer (some ⟨rb, 0, none⟩), .int .u64 (8 * (ixP k : Int)), .int .u64 (vlP k)] w fun e w' => e = .returned (.int .i64 0) ∧ RefAt w' rb rg 8 rc (updM m' (ixP k) (vlP k)) ∧ BlkOnly rg w w') := Lib.hid (fun w hw => rstore_ok w rb rg 8 rc m' (ixP k) (vlP k) hw (by omega) HVW.out)
        go_region_with (first
          | (go_at_call 13; refine (hrs.out wc.drew (HR6.out.call (Below.refl _ _).drew)).mono ?_; rintro e w7 ⟨rfl, hm7, ho7⟩; have HM7 := Lib.hid hm7; have HO7 := Lib.hid ho7; clear hm7 ho7))
        all_goals
          have HO8 : Hid (BlkOnly rg wc w7) := Lib.hid ((BlkOnly.of_below (Below.refl _ _).drew).trans HO7.out)
          go_wp2
          go_roundw
          case rel => exact ⟨k + 1, j + 2, _, by omega, Lib.hid (by have := HJ.out; omega), by go_num, Lib.hid (HO8.out.mem HM6.out (by omega) (by omega)), Lib.hid ((HC.out.blk HO6.out hbm hgm HTM.out).blk HO8.out (by omega) (by omega) HTR.out), Lib.hid ((HV.out.of_blocks HO6.out.size (HO6.out.block vb HV.out.lb (by omega)) (HO6.out.block vg HV.out.lg (by omega))).of_blocks HO8.out.size (HO8.out.block vb (Nat.lt_of_lt_of_le HV.out.lb HO6.out.size) (by omega)) (HO8.out.block vg (Nat.lt_of_lt_of_le HV.out.lg HO6.out.size) (by omega))), HM7, Lib.hid (HPP6.out.of_block HO8.out.size (HO8.out.block q HPP6.out.1 (by omega))), (hB.trans (HO6.out.below (by omega) HM.out.lg)).trans (HO8.out.below (by omega) HR6.out.lg)⟩
          case measure => simp [intOf]; omega
    · obtain rfl : k = 9 := by omega
      have hj18 : j = 18 := by have := HJ.out; omega
      subst hj18
      clear HP HR HJ hlt hk
      go_wp2_with (first
        | (go_at_call 10; refine (cset_some w7 b g 2 2 1 _ _ T _ 0 2 HC7.out (by decide) (by decide) (by decide) (by decide)).mono ?_; rintro e w8 ⟨rfl, hc8, ho8⟩; have HC8 := Lib.hid hc8; have HM8 := Lib.hid (ho8.mem HM7.out (by omega) (by omega)); have HV8 := Lib.hid (HV7.out.of_blocks ho8.size (ho8.block vb HV7.out.lb (by omega)) (ho8.block vg HV7.out.lg (by omega))); have B8 : Below W.heap.size W w8 := B7.trans (ho8.below hg1 HC7.out.lg); clear hc8 ho8)
        | (go_at_call 10; refine (cset_some wr b g 2 2 0 _ _ T _ 0 1 HC.out (by decide) (by decide) (by decide) (by decide)).mono ?_; rintro e w6 ⟨rfl, hc6, ho6⟩; have HC6 := Lib.hid hc6; have HM6 := Lib.hid (ho6.mem HM.out (by omega) (by omega)); have HV6 := Lib.hid (HV.out.of_blocks ho6.size (ho6.block vb HV.out.lb (by omega)) (ho6.block vg HV.out.lg (by omega))); have B6 : Below W.heap.size W w6 := hB.trans (ho6.below hg1 HC.out.lg); clear hc6 ho6)
        | (go_at_call 11; refine (r7set w8 vb vg 2 vc 1 _ _ 0 2 HV8.out (by decide) (by decide) (by decide) (by decide)).mono ?_; rintro e w9 ⟨rfl, -, ho9⟩; have HC9 := Lib.hid (HC8.out.blk ho9 (by omega) (by omega) (fun i hi => by have := HTL.out i hi; omega)); have HM9 := Lib.hid (ho9.mem HM8.out (by omega) (by omega)); have B9 : Below W.heap.size W w9 := B8.trans (ho9.below (by omega) HV8.out.lg); clear ho9)
        | (go_at_call 11; refine (r7set w6 vb vg 2 vc 0 _ _ 0 1 HV6.out (by decide) (by decide) (by decide) (by decide)).mono ?_; rintro e w7 ⟨rfl, hv7, ho7⟩; have HV7 := Lib.hid hv7; have HC7 := Lib.hid (HC6.out.blk ho7 (by omega) (by omega) (fun i hi => by have := HTL.out i hi; omega)); have HM7 := Lib.hid (ho7.mem HM6.out (by omega) (by omega)); have B7 : Below W.heap.size W w7 := B6.trans (ho7.below (by omega) HV6.out.lg); clear hv7 ho7))
      go_wp2
      exact bodyPost_ret (v := .tuple #[.pointer (some ⟨b, 0, none⟩), .pointer (some ⟨mb, 0, none⟩), .pointer (some ⟨vb, 0, none⟩), .pointer (some ⟨rb, 0, none⟩)]) (by simp [results, Try.results8, go_sem]) rfl ⟨b, g, T, mb, mg, mc, vb, rb, rfl, ⟨HC9.out, HM9.out, hb1, hg1, HT.out, by omega, by omega, by omega, by omega, by omega, by omega, fun i hi => by have := HTL.out i hi; omega, HTM.out, B9⟩⟩
end Go.Proofs.Ytgfidbjhihignaa
