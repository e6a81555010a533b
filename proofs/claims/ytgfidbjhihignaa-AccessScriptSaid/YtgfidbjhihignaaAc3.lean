/- Package access: locate, behind a translation. -/
import Derived.Test.YtgfidbjhihignaaAc2
import Derived.Deep.QuietTactic
import Derived.BigQuiet
import Derived.StillTailTactics
namespace Go.Proofs.Ytgfidbjhihignaa
set_option linter.unusedVariables false
set_option linter.unusedSimpArgs false
open Go.ChangeShapes Go.WideShapes Go.ChangeAt Go.RowKit Go.Shelf

theorem FltAt.tlb {w w' : World} {q t : Nat} {a b c : Value} (h : FltAt w q a b c) (k : TlbOnly t w w') (hq : q ≠ t) : FltAt w' q a b c :=
  ⟨(cell_of_block (k.block q h.lt hq)).trans h.c0, (cell_of_block (k.block q h.lt hq)).trans h.c1, (cell_of_block (k.block q h.lt hq)).trans h.c2, fun j => (frozen_of_block (k.block q h.lt hq)).trans (h.fr j), Nat.lt_of_lt_of_le h.lt k.size⟩
abbrev partsO (va : Int) : Obj := .cells #[.int .i64 (va / 4096), .int .i64 (va / 512 % 8), .int .i64 (va / 64 % 8), .int .i64 (va % 64)] 111
abbrev transO (x : TransX) : Obj := .cells #[.int .i64 x.s, .int .i64 x.p, .int .i64 x.f, .bool x.r, .bool x.w] 104
/-- The contract of a Translate whose answer is known. -/
def TransC (w : World) (b g n c k : Nat) (R Q : Nat → Int) (T : Nat → Nat) (S : Nat → TS) (mb : Nat) (pg : Int) (x : TransX) (hit : Bool) (cd : Int) (s' : TS) : Prop :=
  ∀ w1, Below w.heap.size w w1 → Calls Try.prog 42 #[.pointer (some ⟨b, 0, none⟩), .int .i64 k, .pointer (some ⟨mb, 0, none⟩), .int .i64 pg] w1 fun e w' => e = .returned (.tuple #[trX x, .bool hit, .int .i64 cd]) ∧ CoresAt w' b g n c R Q T (setT S k s') ∧ TlbOnly (T k) w1 w'
set_option maxRecDepth 100000 in
set_option maxHeartbeats 2000000 in
theorem locate_err (w : World) (b g n c k : Nat) (R Q : Nat → Int) (T : Nat → Nat) (S : Nat → TS) (mb mg mn mc : Nat) (m : Nat → Int) (va : Int) (wr : Bool) (xs xp xf : Int) (xr xw : Bool) (hit : Bool) (cd : Int) (s' : TS) (h : CoresAt w b g n c R Q T S) (hk : k < n) (hM : MemAt w mb mg mn mc m) (hq : Q k ≠ 0) (h0 : 0 ≤ va) (h1 : va < 32768) (ha : va % 8 = 0) (ht1 : T k ≠ mb) (ht2 : T k ≠ mg)
    (hT : TransC w b g n c k R Q T S mb (va / 64) ⟨xs, xp, xf, xr, xw⟩ hit cd s') (hcd : ¬ cd = 0) :
    Calls Try.prog 30 #[.pointer (some ⟨b, 0, none⟩), .pointer (some ⟨mb, 0, none⟩), .int .i64 k, .int .u64 va, .bool wr] w fun e w' => e = .returned (.tuple #[.int .u64 0, faultV 4 va wr]) ∧ CoresAt w' b g n c R Q T (setT S k s') ∧ TlbOnly (T k) w w' := by
  have H := Lib.hid h
  have HT := Lib.hid hT
  have hab : (va % 8 == 0) = true := beq_iff_eq.2 ha
  have hqb : (Q k == 0) = false := beq_eq_false_iff_ne.2 hq
  have hcb : (cd == 0) = false := beq_eq_false_iff_ne.2 hcd
  have htk := (h.tlb k hk).lt
  have lb := h.lb
  have lg := h.lg
  have HTL : Hid (∀ i, i < n → T i < w.heap.size) := Lib.hid (fun i hi => (h.tlb i hi).lt)
  have HQ := Lib.hid hqb
  have HM := Lib.hid hM
  have lmb := hM.lb
  have lmg := hM.lg
  clear h hT hM hq hqb
  go_enter Try.func30, Try.ntmps30
  go_wp2
  go_step3
  go_wp2_with (first
    | (go_at_call 39; refine (split_yes _ _ h0 h1).mono ?_; rintro e w1 ⟨rfl, hb1⟩; have F1 := Lib.hid (((FltAt.new w 40 (.int .i64 0) (.int .u64 0) (.bool false)).call hb1).call (bal (Below.refl _ _) (partsO va))); have BB1 := (bal (bgo (bal (Below.refl _ _) _) hb1) (partsO va)); have hw1 : w.heap.size < w1.heap.size := (by have := hb1.size; simp at this; omega); have P1 : (w1.alloc (partsO va)).cell? ⟨w1.heap.size, 3, none⟩ = some (.int .i64 (va % 64)) := (by rw [cellE]; rfl); have hp1 : w1.heap.size < (w1.alloc (partsO va)).heap.size := (by simp); clear hb1))
  go_step3
  go_wp2_with (first
    | (go_at_call 40; refine (walks_at _ b g n c k R Q T S _ (H.out.call BB1) hk).mono ?_; rw [HQ.out]; rintro e w2 ⟨rfl, hb2⟩; have F2 := Lib.hid (F1.out.call hb2); have B2 := bgo BB1 hb2; have P2 := (hb2.cell (p := ⟨w1.heap.size, 3, none⟩) hp1).trans P1; have hp2 := Nat.lt_of_lt_of_le hp1 hb2.size; clear hb2 P1 hp1)
    | (go_at_call 41; refine (page_yes va _ h0 h1).mono ?_; rintro e w3 ⟨rfl, j3, rfl⟩)
    | (go_at_call 42; refine (HT.out _ (below_drewN B2 _)).mono ?_; rintro e w4 ⟨rfl, hc4, ho4⟩; have HC4 := Lib.hid hc4; have HO4 := Lib.hid ho4; have B4 := below_drewN B2 j3; have hb5 : Below w4.heap.size w4 (w4.alloc (transO ⟨xs, xp, xf, xr, xw⟩)) := bal (Below.refl _ _) _; obtain ⟨r0, r1, r2, rf, rl⟩ := ((F2.out.call (below_drewN (Below.refl _ _) j3)).tlb ho4 (by omega)).call hb5; have P4 : w4.cell? ⟨w1.heap.size, 3, none⟩ = some (.int .i64 (va % 64)) := (cell_of_block (ho4.block w1.heap.size hp2 (by omega))).trans P2; have hp4 : w1.heap.size < w4.heap.size := Nat.lt_of_lt_of_le hp2 ho4.size; have HM5 := Lib.hid (((HM.out.call B4).of_blocks ho4.size (ho4.block _ (Nat.lt_of_lt_of_le lmb B4.size) (Ne.symm ht1)) (ho4.block _ (Nat.lt_of_lt_of_le lmg B4.size) (Ne.symm ht2))).call hb5); clear hc4 ho4 P2))
  go_quiet (fail)
  go_wp2
  rw [Exit.noGoto_ret]
  have hb6 := (fun j => below_drewN hb5 j)
  have hTl := HTL.out
  exact bodyPost_ret (v := .tuple #[.int .u64 0, faultV 4 va wr]) (by simp [results, Try.results30, go_sem, r0, r1, r2]) rfl ⟨rfl, (((HC4.out.call (hb6 _)).far (Nat.ne_of_lt lb) (Nat.ne_of_lt lg) (fun i hi => Nat.ne_of_lt (hTl i hi)) _).far (Nat.ne_of_lt lb) (Nat.ne_of_lt lg) (fun i hi => Nat.ne_of_lt (hTl i hi)) _).far (Nat.ne_of_lt lb) (Nat.ne_of_lt lg) (fun i hi => Nat.ne_of_lt (hTl i hi)) _, (((((TlbOnly.of_below B4).trans HO4.out).trans (TlbOnly.of_below (hb6 _))).far (Nat.le_refl _) _).far (Nat.le_refl _) _).far (Nat.le_refl _) _⟩
set_option maxRecDepth 100000 in
set_option maxHeartbeats 2000000 in
theorem locate_far (w : World) (b g n c k : Nat) (R Q : Nat → Int) (T : Nat → Nat) (S : Nat → TS) (mb mg mn mc : Nat) (m : Nat → Int) (va : Int) (wr : Bool) (xs xp xf : Int) (xr xw : Bool) (hit : Bool) (s' : TS) (h : CoresAt w b g n c R Q T S) (hk : k < n) (hM : MemAt w mb mg mn mc m) (hq : Q k ≠ 0) (h0 : 0 ≤ va) (h1 : va < 32768) (ha : va % 8 = 0) (ht1 : T k ≠ mb) (ht2 : T k ≠ mg)
    (hT : TransC w b g n c k R Q T S mb (va / 64) ⟨xs, xp, xf, xr, xw⟩ hit 0 s') (hf : (mn : Int) ≤ xf) :
    Calls Try.prog 30 #[.pointer (some ⟨b, 0, none⟩), .pointer (some ⟨mb, 0, none⟩), .int .i64 k, .int .u64 va, .bool wr] w fun e w' => e = .returned (.tuple #[.int .u64 0, faultV 4 va wr]) ∧ CoresAt w' b g n c R Q T (setT S k s') ∧ TlbOnly (T k) w w' := by
  have H := Lib.hid h
  have HT := Lib.hid hT
  have hab : (va % 8 == 0) = true := beq_iff_eq.2 ha
  have hqb : (Q k == 0) = false := beq_eq_false_iff_ne.2 hq
  have htk := (h.tlb k hk).lt
  have lb := h.lb
  have lg := h.lg
  have HTL : Hid (∀ i, i < n → T i < w.heap.size) := Lib.hid (fun i hi => (h.tlb i hi).lt)
  have HQ := Lib.hid hqb
  have HM := Lib.hid hM
  have lmb := hM.lb
  have lmg := hM.lg
  clear h hT hM hq hqb
  go_enter Try.func30, Try.ntmps30
  go_wp2
  go_step3
  go_wp2_with (first
    | (go_at_call 39; refine (split_yes _ _ h0 h1).mono ?_; rintro e w1 ⟨rfl, hb1⟩; have F1 := Lib.hid (((FltAt.new w 40 (.int .i64 0) (.int .u64 0) (.bool false)).call hb1).call (bal (Below.refl _ _) (partsO va))); have BB1 := (bal (bgo (bal (Below.refl _ _) _) hb1) (partsO va)); have hw1 : w.heap.size < w1.heap.size := (by have := hb1.size; simp at this; omega); have P1 : (w1.alloc (partsO va)).cell? ⟨w1.heap.size, 3, none⟩ = some (.int .i64 (va % 64)) := (by rw [cellE]; rfl); have hp1 : w1.heap.size < (w1.alloc (partsO va)).heap.size := (by simp); clear hb1))
  go_step3
  go_wp2_with (first
    | (go_at_call 40; refine (walks_at _ b g n c k R Q T S _ (H.out.call BB1) hk).mono ?_; rw [HQ.out]; rintro e w2 ⟨rfl, hb2⟩; have F2 := Lib.hid (F1.out.call hb2); have B2 := bgo BB1 hb2; have P2 := (hb2.cell (p := ⟨w1.heap.size, 3, none⟩) hp1).trans P1; have hp2 := Nat.lt_of_lt_of_le hp1 hb2.size; clear hb2 P1 hp1)
    | (go_at_call 41; refine (page_yes va _ h0 h1).mono ?_; rintro e w3 ⟨rfl, j3, rfl⟩)
    | (go_at_call 42; refine (HT.out _ (below_drewN B2 _)).mono ?_; rintro e w4 ⟨rfl, hc4, ho4⟩; have HC4 := Lib.hid hc4; have HO4 := Lib.hid ho4; have B4 := below_drewN B2 j3; have hb5 : Below w4.heap.size w4 (w4.alloc (transO ⟨xs, xp, xf, xr, xw⟩)) := bal (Below.refl _ _) _; obtain ⟨r0, r1, r2, rf, rl⟩ := ((F2.out.call (below_drewN (Below.refl _ _) j3)).tlb ho4 (by omega)).call hb5; have P4 : w4.cell? ⟨w1.heap.size, 3, none⟩ = some (.int .i64 (va % 64)) := (cell_of_block (ho4.block w1.heap.size hp2 (by omega))).trans P2; have hp4 : w1.heap.size < w4.heap.size := Nat.lt_of_lt_of_le hp2 ho4.size; have HM5 := Lib.hid (((HM.out.call B4).of_blocks ho4.size (ho4.block _ (Nat.lt_of_lt_of_le lmb B4.size) (Ne.symm ht1)) (ho4.block _ (Nat.lt_of_lt_of_le lmg B4.size) (Ne.symm ht2))).call hb5); clear hc4 ho4 P2))
  go_quiet ((go_at_call 32; exact Calls.quiet_of_same (same_q (frames_any _ mb mg mn mc m (HM5.out.call (by repeat (first | exact Below.refl _ _ | refine below_drewN ?_ _ | refine Below.drew ?_)))))))
  go_wp2
  rw [Exit.noGoto_ret]
  have hb6 := (fun j => below_drewN hb5 j)
  have hTl := HTL.out
  exact bodyPost_ret (v := .tuple #[.int .u64 0, faultV 4 va wr]) (by simp [results, Try.results30, go_sem, r0, r1, r2]) rfl ⟨rfl, (((HC4.out.call (hb6 _)).far (Nat.ne_of_lt lb) (Nat.ne_of_lt lg) (fun i hi => Nat.ne_of_lt (hTl i hi)) _).far (Nat.ne_of_lt lb) (Nat.ne_of_lt lg) (fun i hi => Nat.ne_of_lt (hTl i hi)) _).far (Nat.ne_of_lt lb) (Nat.ne_of_lt lg) (fun i hi => Nat.ne_of_lt (hTl i hi)) _, (((((TlbOnly.of_below B4).trans HO4.out).trans (TlbOnly.of_below (hb6 _))).far (Nat.le_refl _) _).far (Nat.le_refl _) _).far (Nat.le_refl _) _⟩
set_option maxRecDepth 100000 in
set_option maxHeartbeats 2000000 in
theorem locate_nor (w : World) (b g n c k : Nat) (R Q : Nat → Int) (T : Nat → Nat) (S : Nat → TS) (mb mg mn mc : Nat) (m : Nat → Int) (va : Int) (xs xp xf : Int) (xw : Bool) (hit : Bool) (s' : TS) (h : CoresAt w b g n c R Q T S) (hk : k < n) (hM : MemAt w mb mg mn mc m) (hq : Q k ≠ 0) (h0 : 0 ≤ va) (h1 : va < 32768) (ha : va % 8 = 0) (ht1 : T k ≠ mb) (ht2 : T k ≠ mg)
    (hT : TransC w b g n c k R Q T S mb (va / 64) ⟨xs, xp, xf, false, xw⟩ hit 0 s') (hf : xf < (mn : Int)) :
    Calls Try.prog 30 #[.pointer (some ⟨b, 0, none⟩), .pointer (some ⟨mb, 0, none⟩), .int .i64 k, .int .u64 va, .bool false] w fun e w' => e = .returned (.tuple #[.int .u64 0, faultV 5 va false]) ∧ CoresAt w' b g n c R Q T (setT S k s') ∧ TlbOnly (T k) w w' := by
  have H := Lib.hid h
  have HT := Lib.hid hT
  have hab : (va % 8 == 0) = true := beq_iff_eq.2 ha
  have hqb : (Q k == 0) = false := beq_eq_false_iff_ne.2 hq
  have htk := (h.tlb k hk).lt
  have lb := h.lb
  have lg := h.lg
  have HTL : Hid (∀ i, i < n → T i < w.heap.size) := Lib.hid (fun i hi => (h.tlb i hi).lt)
  have HQ := Lib.hid hqb
  have HM := Lib.hid hM
  have lmb := hM.lb
  have lmg := hM.lg
  clear h hT hM hq hqb
  go_enter Try.func30, Try.ntmps30
  go_wp2
  go_step3
  go_wp2_with (first
    | (go_at_call 39; refine (split_yes _ _ h0 h1).mono ?_; rintro e w1 ⟨rfl, hb1⟩; have F1 := Lib.hid (((FltAt.new w 40 (.int .i64 0) (.int .u64 0) (.bool false)).call hb1).call (bal (Below.refl _ _) (partsO va))); have BB1 := (bal (bgo (bal (Below.refl _ _) _) hb1) (partsO va)); have hw1 : w.heap.size < w1.heap.size := (by have := hb1.size; simp at this; omega); have P1 : (w1.alloc (partsO va)).cell? ⟨w1.heap.size, 3, none⟩ = some (.int .i64 (va % 64)) := (by rw [cellE]; rfl); have hp1 : w1.heap.size < (w1.alloc (partsO va)).heap.size := (by simp); clear hb1))
  go_step3
  go_wp2_with (first
    | (go_at_call 40; refine (walks_at _ b g n c k R Q T S _ (H.out.call BB1) hk).mono ?_; rw [HQ.out]; rintro e w2 ⟨rfl, hb2⟩; have F2 := Lib.hid (F1.out.call hb2); have B2 := bgo BB1 hb2; have P2 := (hb2.cell (p := ⟨w1.heap.size, 3, none⟩) hp1).trans P1; have hp2 := Nat.lt_of_lt_of_le hp1 hb2.size; clear hb2 P1 hp1)
    | (go_at_call 41; refine (page_yes va _ h0 h1).mono ?_; rintro e w3 ⟨rfl, j3, rfl⟩)
    | (go_at_call 42; refine (HT.out _ (below_drewN B2 _)).mono ?_; rintro e w4 ⟨rfl, hc4, ho4⟩; have HC4 := Lib.hid hc4; have HO4 := Lib.hid ho4; have B4 := below_drewN B2 j3; have hb5 : Below w4.heap.size w4 (w4.alloc (transO ⟨xs, xp, xf, false, xw⟩)) := bal (Below.refl _ _) _; obtain ⟨r0, r1, r2, rf, rl⟩ := ((F2.out.call (below_drewN (Below.refl _ _) j3)).tlb ho4 (by omega)).call hb5; have P4 : w4.cell? ⟨w1.heap.size, 3, none⟩ = some (.int .i64 (va % 64)) := (cell_of_block (ho4.block w1.heap.size hp2 (by omega))).trans P2; have hp4 : w1.heap.size < w4.heap.size := Nat.lt_of_lt_of_le hp2 ho4.size; have HM5 := Lib.hid (((HM.out.call B4).of_blocks ho4.size (ho4.block _ (Nat.lt_of_lt_of_le lmb B4.size) (Ne.symm ht1)) (ho4.block _ (Nat.lt_of_lt_of_le lmg B4.size) (Ne.symm ht2))).call hb5); clear hc4 ho4 P2))
  go_quiet ((go_at_call 32; exact Calls.quiet_of_same (same_q (frames_any _ mb mg mn mc m (HM5.out.call (by repeat (first | exact Below.refl _ _ | refine below_drewN ?_ _ | refine Below.drew ?_)))))))
  go_wp2
  rw [Exit.noGoto_ret]
  have hb6 := (fun j => below_drewN hb5 j)
  have hTl := HTL.out
  exact bodyPost_ret (v := .tuple #[.int .u64 0, faultV 5 va false]) (by simp [results, Try.results30, go_sem, r0, r1, r2]) rfl ⟨rfl, (((HC4.out.call (hb6 _)).far (Nat.ne_of_lt lb) (Nat.ne_of_lt lg) (fun i hi => Nat.ne_of_lt (hTl i hi)) _).far (Nat.ne_of_lt lb) (Nat.ne_of_lt lg) (fun i hi => Nat.ne_of_lt (hTl i hi)) _).far (Nat.ne_of_lt lb) (Nat.ne_of_lt lg) (fun i hi => Nat.ne_of_lt (hTl i hi)) _, (((((TlbOnly.of_below B4).trans HO4.out).trans (TlbOnly.of_below (hb6 _))).far (Nat.le_refl _) _).far (Nat.le_refl _) _).far (Nat.le_refl _) _⟩
set_option maxRecDepth 100000 in
set_option maxHeartbeats 2000000 in
theorem locate_now (w : World) (b g n c k : Nat) (R Q : Nat → Int) (T : Nat → Nat) (S : Nat → TS) (mb mg mn mc : Nat) (m : Nat → Int) (va : Int) (xs xp xf : Int) (xr : Bool) (hit : Bool) (s' : TS) (h : CoresAt w b g n c R Q T S) (hk : k < n) (hM : MemAt w mb mg mn mc m) (hq : Q k ≠ 0) (h0 : 0 ≤ va) (h1 : va < 32768) (ha : va % 8 = 0) (ht1 : T k ≠ mb) (ht2 : T k ≠ mg)
    (hT : TransC w b g n c k R Q T S mb (va / 64) ⟨xs, xp, xf, xr, false⟩ hit 0 s') (hf : xf < (mn : Int)) :
    Calls Try.prog 30 #[.pointer (some ⟨b, 0, none⟩), .pointer (some ⟨mb, 0, none⟩), .int .i64 k, .int .u64 va, .bool true] w fun e w' => e = .returned (.tuple #[.int .u64 0, faultV 5 va true]) ∧ CoresAt w' b g n c R Q T (setT S k s') ∧ TlbOnly (T k) w w' := by
  have H := Lib.hid h
  have HT := Lib.hid hT
  have hab : (va % 8 == 0) = true := beq_iff_eq.2 ha
  have hqb : (Q k == 0) = false := beq_eq_false_iff_ne.2 hq
  have htk := (h.tlb k hk).lt
  have lb := h.lb
  have lg := h.lg
  have HTL : Hid (∀ i, i < n → T i < w.heap.size) := Lib.hid (fun i hi => (h.tlb i hi).lt)
  have HQ := Lib.hid hqb
  have HM := Lib.hid hM
  have lmb := hM.lb
  have lmg := hM.lg
  clear h hT hM hq hqb
  go_enter Try.func30, Try.ntmps30
  go_wp2
  go_step3
  go_wp2_with (first
    | (go_at_call 39; refine (split_yes _ _ h0 h1).mono ?_; rintro e w1 ⟨rfl, hb1⟩; have F1 := Lib.hid (((FltAt.new w 40 (.int .i64 0) (.int .u64 0) (.bool false)).call hb1).call (bal (Below.refl _ _) (partsO va))); have BB1 := (bal (bgo (bal (Below.refl _ _) _) hb1) (partsO va)); have hw1 : w.heap.size < w1.heap.size := (by have := hb1.size; simp at this; omega); have P1 : (w1.alloc (partsO va)).cell? ⟨w1.heap.size, 3, none⟩ = some (.int .i64 (va % 64)) := (by rw [cellE]; rfl); have hp1 : w1.heap.size < (w1.alloc (partsO va)).heap.size := (by simp); clear hb1))
  go_step3
  go_wp2_with (first
    | (go_at_call 40; refine (walks_at _ b g n c k R Q T S _ (H.out.call BB1) hk).mono ?_; rw [HQ.out]; rintro e w2 ⟨rfl, hb2⟩; have F2 := Lib.hid (F1.out.call hb2); have B2 := bgo BB1 hb2; have P2 := (hb2.cell (p := ⟨w1.heap.size, 3, none⟩) hp1).trans P1; have hp2 := Nat.lt_of_lt_of_le hp1 hb2.size; clear hb2 P1 hp1)
    | (go_at_call 41; refine (page_yes va _ h0 h1).mono ?_; rintro e w3 ⟨rfl, j3, rfl⟩)
    | (go_at_call 42; refine (HT.out _ (below_drewN B2 _)).mono ?_; rintro e w4 ⟨rfl, hc4, ho4⟩; have HC4 := Lib.hid hc4; have HO4 := Lib.hid ho4; have B4 := below_drewN B2 j3; have hb5 : Below w4.heap.size w4 (w4.alloc (transO ⟨xs, xp, xf, xr, false⟩)) := bal (Below.refl _ _) _; obtain ⟨r0, r1, r2, rf, rl⟩ := ((F2.out.call (below_drewN (Below.refl _ _) j3)).tlb ho4 (by omega)).call hb5; have P4 : w4.cell? ⟨w1.heap.size, 3, none⟩ = some (.int .i64 (va % 64)) := (cell_of_block (ho4.block w1.heap.size hp2 (by omega))).trans P2; have hp4 : w1.heap.size < w4.heap.size := Nat.lt_of_lt_of_le hp2 ho4.size; have HM5 := Lib.hid (((HM.out.call B4).of_blocks ho4.size (ho4.block _ (Nat.lt_of_lt_of_le lmb B4.size) (Ne.symm ht1)) (ho4.block _ (Nat.lt_of_lt_of_le lmg B4.size) (Ne.symm ht2))).call hb5); clear hc4 ho4 P2))
  go_quiet ((go_at_call 32; exact Calls.quiet_of_same (same_q (frames_any _ mb mg mn mc m (HM5.out.call (by repeat (first | exact Below.refl _ _ | refine below_drewN ?_ _ | refine Below.drew ?_)))))))
  go_wp2
  rw [Exit.noGoto_ret]
  have hb6 := (fun j => below_drewN hb5 j)
  have hTl := HTL.out
  exact bodyPost_ret (v := .tuple #[.int .u64 0, faultV 5 va true]) (by simp [results, Try.results30, go_sem, r0, r1, r2]) rfl ⟨rfl, (((HC4.out.call (hb6 _)).far (Nat.ne_of_lt lb) (Nat.ne_of_lt lg) (fun i hi => Nat.ne_of_lt (hTl i hi)) _).far (Nat.ne_of_lt lb) (Nat.ne_of_lt lg) (fun i hi => Nat.ne_of_lt (hTl i hi)) _).far (Nat.ne_of_lt lb) (Nat.ne_of_lt lg) (fun i hi => Nat.ne_of_lt (hTl i hi)) _, (((((TlbOnly.of_below B4).trans HO4.out).trans (TlbOnly.of_below (hb6 _))).far (Nat.le_refl _) _).far (Nat.le_refl _) _).far (Nat.le_refl _) _⟩
set_option maxRecDepth 100000 in
set_option maxHeartbeats 2000000 in
theorem locate_yr (w : World) (b g n c k : Nat) (R Q : Nat → Int) (T : Nat → Nat) (S : Nat → TS) (mb mg mn mc : Nat) (m : Nat → Int) (va : Int) (xs xp xf : Int) (xw : Bool) (hit : Bool) (s' : TS) (h : CoresAt w b g n c R Q T S) (hk : k < n) (hM : MemAt w mb mg mn mc m) (hq : Q k ≠ 0) (h0 : 0 ≤ va) (h1 : va < 32768) (ha : va % 8 = 0) (ht1 : T k ≠ mb) (ht2 : T k ≠ mg)
    (hT : TransC w b g n c k R Q T S mb (va / 64) ⟨xs, xp, xf, true, xw⟩ hit 0 s') (hf : xf < (mn : Int)) (hf0 : 0 ≤ xf) :
    Calls Try.prog 30 #[.pointer (some ⟨b, 0, none⟩), .pointer (some ⟨mb, 0, none⟩), .int .i64 k, .int .u64 va, .bool false] w fun e w' => e = .returned (.tuple #[.int .u64 (xf * 64 + va % 64), noF]) ∧ CoresAt w' b g n c R Q T (setT S k s') ∧ TlbOnly (T k) w w' := by
  have H := Lib.hid h
  have HT := Lib.hid hT
  have hab : (va % 8 == 0) = true := beq_iff_eq.2 ha
  have hqb : (Q k == 0) = false := beq_eq_false_iff_ne.2 hq
  have hm64 := hM.n64
  have htk := (h.tlb k hk).lt
  have lb := h.lb
  have lg := h.lg
  have HTL : Hid (∀ i, i < n → T i < w.heap.size) := Lib.hid (fun i hi => (h.tlb i hi).lt)
  have HQ := Lib.hid hqb
  have HM := Lib.hid hM
  have lmb := hM.lb
  have lmg := hM.lg
  clear h hT hM hq hqb
  go_enter Try.func30, Try.ntmps30
  go_wp2
  go_step3
  go_wp2_with (first
    | (go_at_call 39; refine (split_yes _ _ h0 h1).mono ?_; rintro e w1 ⟨rfl, hb1⟩; have F1 := Lib.hid (((FltAt.new w 40 (.int .i64 0) (.int .u64 0) (.bool false)).call hb1).call (bal (Below.refl _ _) (partsO va))); have BB1 := (bal (bgo (bal (Below.refl _ _) _) hb1) (partsO va)); have hw1 : w.heap.size < w1.heap.size := (by have := hb1.size; simp at this; omega); have P1 : (w1.alloc (partsO va)).cell? ⟨w1.heap.size, 3, none⟩ = some (.int .i64 (va % 64)) := (by rw [cellE]; rfl); have hp1 : w1.heap.size < (w1.alloc (partsO va)).heap.size := (by simp); clear hb1))
  go_step3
  go_wp2_with (first
    | (go_at_call 40; refine (walks_at _ b g n c k R Q T S _ (H.out.call BB1) hk).mono ?_; rw [HQ.out]; rintro e w2 ⟨rfl, hb2⟩; have F2 := Lib.hid (F1.out.call hb2); have B2 := bgo BB1 hb2; have P2 := (hb2.cell (p := ⟨w1.heap.size, 3, none⟩) hp1).trans P1; have hp2 := Nat.lt_of_lt_of_le hp1 hb2.size; clear hb2 P1 hp1)
    | (go_at_call 41; refine (page_yes va _ h0 h1).mono ?_; rintro e w3 ⟨rfl, j3, rfl⟩)
    | (go_at_call 42; refine (HT.out _ (below_drewN B2 _)).mono ?_; rintro e w4 ⟨rfl, hc4, ho4⟩; have HC4 := Lib.hid hc4; have HO4 := Lib.hid ho4; have B4 := below_drewN B2 j3; have hb5 : Below w4.heap.size w4 (w4.alloc (transO ⟨xs, xp, xf, true, xw⟩)) := bal (Below.refl _ _) _; obtain ⟨r0, r1, r2, rf, rl⟩ := ((F2.out.call (below_drewN (Below.refl _ _) j3)).tlb ho4 (by omega)).call hb5; have P4 : w4.cell? ⟨w1.heap.size, 3, none⟩ = some (.int .i64 (va % 64)) := (cell_of_block (ho4.block w1.heap.size hp2 (by omega))).trans P2; have hp4 : w1.heap.size < w4.heap.size := Nat.lt_of_lt_of_le hp2 ho4.size; have HM5 := Lib.hid (((HM.out.call B4).of_blocks ho4.size (ho4.block _ (Nat.lt_of_lt_of_le lmb B4.size) (Ne.symm ht1)) (ho4.block _ (Nat.lt_of_lt_of_le lmg B4.size) (Ne.symm ht2))).call hb5); clear hc4 ho4 P2))
  go_quiet ((go_at_call 32; exact Calls.quiet_of_same (same_q (frames_any _ mb mg mn mc m (HM5.out.call (by repeat (first | exact Below.refl _ _ | refine below_drewN ?_ _ | refine Below.drew ?_)))))))
  go_wp2
  rw [Exit.noGoto_ret]
  have hb6 := (fun j => below_drewN hb5 j)
  have hTl := HTL.out
  exact bodyPost_ret (v := .tuple #[.int .u64 (xf * 64 + va % 64), noF]) (by simp [results, Try.results30, go_sem, r0, r1, r2]) rfl ⟨rfl, (((HC4.out.call (hb6 _)).far (Nat.ne_of_lt lb) (Nat.ne_of_lt lg) (fun i hi => Nat.ne_of_lt (hTl i hi)) _).far (Nat.ne_of_lt lb) (Nat.ne_of_lt lg) (fun i hi => Nat.ne_of_lt (hTl i hi)) _).far (Nat.ne_of_lt lb) (Nat.ne_of_lt lg) (fun i hi => Nat.ne_of_lt (hTl i hi)) _, (((((TlbOnly.of_below B4).trans HO4.out).trans (TlbOnly.of_below (hb6 _))).far (Nat.le_refl _) _).far (Nat.le_refl _) _).far (Nat.le_refl _) _⟩
set_option maxRecDepth 100000 in
set_option maxHeartbeats 2000000 in
theorem locate_yw (w : World) (b g n c k : Nat) (R Q : Nat → Int) (T : Nat → Nat) (S : Nat → TS) (mb mg mn mc : Nat) (m : Nat → Int) (va : Int) (xs xp xf : Int) (xr : Bool) (hit : Bool) (s' : TS) (h : CoresAt w b g n c R Q T S) (hk : k < n) (hM : MemAt w mb mg mn mc m) (hq : Q k ≠ 0) (h0 : 0 ≤ va) (h1 : va < 32768) (ha : va % 8 = 0) (ht1 : T k ≠ mb) (ht2 : T k ≠ mg)
    (hT : TransC w b g n c k R Q T S mb (va / 64) ⟨xs, xp, xf, xr, true⟩ hit 0 s') (hf : xf < (mn : Int)) (hf0 : 0 ≤ xf) :
    Calls Try.prog 30 #[.pointer (some ⟨b, 0, none⟩), .pointer (some ⟨mb, 0, none⟩), .int .i64 k, .int .u64 va, .bool true] w fun e w' => e = .returned (.tuple #[.int .u64 (xf * 64 + va % 64), noF]) ∧ CoresAt w' b g n c R Q T (setT S k s') ∧ TlbOnly (T k) w w' := by
  have H := Lib.hid h
  have HT := Lib.hid hT
  have hab : (va % 8 == 0) = true := beq_iff_eq.2 ha
  have hqb : (Q k == 0) = false := beq_eq_false_iff_ne.2 hq
  have hm64 := hM.n64
  have htk := (h.tlb k hk).lt
  have lb := h.lb
  have lg := h.lg
  have HTL : Hid (∀ i, i < n → T i < w.heap.size) := Lib.hid (fun i hi => (h.tlb i hi).lt)
  have HQ := Lib.hid hqb
  have HM := Lib.hid hM
  have lmb := hM.lb
  have lmg := hM.lg
  clear h hT hM hq hqb
  go_enter Try.func30, Try.ntmps30
  go_wp2
  go_step3
  go_wp2_with (first
    | (go_at_call 39; refine (split_yes _ _ h0 h1).mono ?_; rintro e w1 ⟨rfl, hb1⟩; have F1 := Lib.hid (((FltAt.new w 40 (.int .i64 0) (.int .u64 0) (.bool false)).call hb1).call (bal (Below.refl _ _) (partsO va))); have BB1 := (bal (bgo (bal (Below.refl _ _) _) hb1) (partsO va)); have hw1 : w.heap.size < w1.heap.size := (by have := hb1.size; simp at this; omega); have P1 : (w1.alloc (partsO va)).cell? ⟨w1.heap.size, 3, none⟩ = some (.int .i64 (va % 64)) := (by rw [cellE]; rfl); have hp1 : w1.heap.size < (w1.alloc (partsO va)).heap.size := (by simp); clear hb1))
  go_step3
  go_wp2_with (first
    | (go_at_call 40; refine (walks_at _ b g n c k R Q T S _ (H.out.call BB1) hk).mono ?_; rw [HQ.out]; rintro e w2 ⟨rfl, hb2⟩; have F2 := Lib.hid (F1.out.call hb2); have B2 := bgo BB1 hb2; have P2 := (hb2.cell (p := ⟨w1.heap.size, 3, none⟩) hp1).trans P1; have hp2 := Nat.lt_of_lt_of_le hp1 hb2.size; clear hb2 P1 hp1)
    | (go_at_call 41; refine (page_yes va _ h0 h1).mono ?_; rintro e w3 ⟨rfl, j3, rfl⟩)
    | (go_at_call 42; refine (HT.out _ (below_drewN B2 _)).mono ?_; rintro e w4 ⟨rfl, hc4, ho4⟩; have HC4 := Lib.hid hc4; have HO4 := Lib.hid ho4; have B4 := below_drewN B2 j3; have hb5 : Below w4.heap.size w4 (w4.alloc (transO ⟨xs, xp, xf, xr, true⟩)) := bal (Below.refl _ _) _; obtain ⟨r0, r1, r2, rf, rl⟩ := ((F2.out.call (below_drewN (Below.refl _ _) j3)).tlb ho4 (by omega)).call hb5; have P4 : w4.cell? ⟨w1.heap.size, 3, none⟩ = some (.int .i64 (va % 64)) := (cell_of_block (ho4.block w1.heap.size hp2 (by omega))).trans P2; have hp4 : w1.heap.size < w4.heap.size := Nat.lt_of_lt_of_le hp2 ho4.size; have HM5 := Lib.hid (((HM.out.call B4).of_blocks ho4.size (ho4.block _ (Nat.lt_of_lt_of_le lmb B4.size) (Ne.symm ht1)) (ho4.block _ (Nat.lt_of_lt_of_le lmg B4.size) (Ne.symm ht2))).call hb5); clear hc4 ho4 P2))
  go_quiet ((go_at_call 32; exact Calls.quiet_of_same (same_q (frames_any _ mb mg mn mc m (HM5.out.call (by repeat (first | exact Below.refl _ _ | refine below_drewN ?_ _ | refine Below.drew ?_)))))))
  go_wp2
  rw [Exit.noGoto_ret]
  have hb6 := (fun j => below_drewN hb5 j)
  have hTl := HTL.out
  exact bodyPost_ret (v := .tuple #[.int .u64 (xf * 64 + va % 64), noF]) (by simp [results, Try.results30, go_sem, r0, r1, r2]) rfl ⟨rfl, (((HC4.out.call (hb6 _)).far (Nat.ne_of_lt lb) (Nat.ne_of_lt lg) (fun i hi => Nat.ne_of_lt (hTl i hi)) _).far (Nat.ne_of_lt lb) (Nat.ne_of_lt lg) (fun i hi => Nat.ne_of_lt (hTl i hi)) _).far (Nat.ne_of_lt lb) (Nat.ne_of_lt lg) (fun i hi => Nat.ne_of_lt (hTl i hi)) _, (((((TlbOnly.of_below B4).trans HO4.out).trans (TlbOnly.of_below (hb6 _))).far (Nat.le_refl _) _).far (Nat.le_refl _) _).far (Nat.le_refl _) _⟩
end Go.Proofs.Ytgfidbjhihignaa
