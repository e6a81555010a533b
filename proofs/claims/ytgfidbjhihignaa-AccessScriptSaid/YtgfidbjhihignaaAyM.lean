import Derived.Test.YtgfidbjhihignaaAc5
import Derived.Test.YtgfidbjhihignaaCkM
import Derived.Test.YtgfidbjhihignaaCkR
import Derived.Deep.Cut
import Derived.Deep.CutRange
import Derived.Deep.CutBlock
import Derived.Deep.RegionHeld3
import Derived.Maps.AppendAt
import Derived.BigQuiet
import Derived.Test.YtgfidbjhihignaaActs
namespace Go.Proofs.Ytgfidbjhihignaa
/- Package access: Load and Store, given what locate does. -/
section
set_option linter.unusedVariables false
set_option linter.unusedSimpArgs false
open Go.ChangeShapes Go.WideShapes Go.ChangeAt Go.RowKit Go.Shelf

/-- The contract of locate: what it answers, and what it leaves. -/
def LocC (w : World) (c m : Option Addr) (k va : Int) (wr : Bool) (ad kd va' : Int) (wr' : Bool) (R : World → World → Prop) : Prop :=
  ∀ w1, Below w.heap.size w w1 → Calls Try.prog 30 #[.pointer c, .pointer m, .int .i64 k, .int .u64 va, .bool wr] w1 fun e w' => e = .returned (.tuple #[.int .u64 ad, faultV kd va' wr']) ∧ R w1 w'
abbrev fltO (kd va : Int) (wr : Bool) : Obj := .cells #[.int .i64 kd, .int .u64 va, .bool wr] 40
theorem FltAt.blk {w w' : World} {q t : Nat} {a b c : Value} (h : FltAt w q a b c) (k : BlkOnly t w w') (hq : q ≠ t) : FltAt w' q a b c :=
  ⟨(cell_of_block (k.block q h.lt hq)).trans h.c0, (cell_of_block (k.block q h.lt hq)).trans h.c1, (cell_of_block (k.block q h.lt hq)).trans h.c2, fun j => (frozen_of_block (k.block q h.lt hq)).trans (h.fr j), Nat.lt_of_lt_of_le h.lt k.size⟩
set_option maxRecDepth 100000 in
set_option maxHeartbeats 1000000 in
theorem load_fault (w : World) (c m : Option Addr) (k va kd : Int) (t : Nat) (R : World → World → Prop) (hkd : ¬ kd = 0) (ht : t < w.heap.size) (hR : ∀ a d, R a d → TlbOnly t a d) (hL : LocC w c m k va false 0 kd va false R) :
    Calls Try.prog 16 #[.pointer c, .pointer m, .int .i64 k, .int .u64 va] w fun e w' => e = .returned (.tuple #[.int .u64 0, faultV kd va false]) ∧ ∃ w1 w2, Below w.heap.size w w1 ∧ R w1 w2 ∧ Below w.heap.size w2 w' := by
  have HL := Lib.hid hL
  have hkb : (kd == 0) = false := beq_eq_false_iff_ne.2 hkd
  clear hL
  go_enter Try.func16, Try.ntmps16
  go_wp2_with (first
    | (go_at_call 30; refine (HL.out _ (bal (Below.refl _ _) _)).mono ?_; rintro e w2 ⟨rfl, hr⟩; have HR := Lib.hid hr; have hz2 := (hR _ _ hr).size; obtain ⟨r0, r1, r2, rf, rl⟩ := (FltAt.new w 40 (.int .i64 0) (.int .u64 0) (.bool false)).tlb (hR _ _ hr) (by omega); clear hr))
  have hne : w.heap.size ≠ w2.heap.size := Nat.ne_of_lt rl
  have hne2 : w2.heap.size ≠ w.heap.size := Ne.symm hne
  have hb3 : Below w2.heap.size w2 (w2.alloc (fltO kd va false)) := bal (Below.refl _ _) _
  have D := FltAt.new w2 40 (.int .i64 kd) (.int .u64 va) (.bool false)
  obtain ⟨d0, d1, d2, df, dl⟩ := D
  obtain ⟨e0, e1, e2, ef, el⟩ := (FltAt.mk r0 r1 r2 rf rl).call hb3
  have B3 : Below w.heap.size w2 (w2.alloc (fltO kd va false)) := hb3.mono (Nat.le_of_lt rl)
  generalize (w2.alloc (fltO kd va false)) = w3 at *
  go_region
  go_wp2
  have hbw : Below w.heap.size w2 ((((w3.setCell ⟨w.heap.size, 0, none⟩ (.int .i64 kd)).setCell ⟨w.heap.size, 1, none⟩ (.int .u64 va)).setCell ⟨w.heap.size, 2, none⟩ (.bool false)).drew) := (((B3.setCell (Nat.le_refl _) _).setCell (Nat.le_refl _) _).setCell (Nat.le_refl _) _).drew
  exact bodyPost_ret (v := .tuple #[.int .u64 0, faultV kd va false]) (by simp [results, Try.results16, go_sem, e0, e1, e2]) rfl ⟨rfl, _, w2, bal (Below.refl _ _) _, HR.out, hbw⟩
set_option maxRecDepth 100000 in
set_option maxHeartbeats 1000000 in
theorem load_yes (w : World) (c : Option Addr) (k va ad : Int) (t mb mg mn mc ix : Nat) (M : Nat → Int) (R : World → World → Prop) (ht : t < w.heap.size) (hR : ∀ a d, R a d → TlbOnly t a d) (hL : LocC w c (some ⟨mb, 0, none⟩) k va false ad 0 0 false R) (hM : MemAt w mb mg mn mc M) (hn1 : mb ≠ t) (hn2 : mg ≠ t) (ha : ad = 8 * (ix : Int)) (hix : ix < 8 * mn) :
    Calls Try.prog 16 #[.pointer c, .pointer (some ⟨mb, 0, none⟩), .int .i64 k, .int .u64 va] w fun e w' => e = .returned (.tuple #[.int .u64 (M ix), noF]) ∧ ∃ w1 w2, Below w.heap.size w w1 ∧ R w1 w2 ∧ Below w.heap.size w2 w' := by
  have HL := Lib.hid hL
  have HA := Lib.hid ha
  have HM := Lib.hid hM
  have lmb := hM.lb
  have lmg := hM.lg
  clear hL hM ha
  go_enter Try.func16, Try.ntmps16
  go_wp2_with (first
    | (go_at_call 30; refine (HL.out _ (bal (Below.refl _ _) _)).mono ?_; rintro e w2 ⟨rfl, hr⟩; have HR := Lib.hid hr; have ho := hR _ _ hr; have hz2 := ho.size; obtain ⟨r0, r1, r2, rf, rl⟩ := (FltAt.new w 40 (.int .i64 0) (.int .u64 0) (.bool false)).tlb ho (by omega); have HM2 := Lib.hid ((HM.out.call (bal (Below.refl _ _) (fltO 0 0 false))).of_blocks ho.size (ho.block mb (by simp; omega) hn1) (ho.block mg (by simp; omega) hn2)); clear hr ho)
    | (go_at_call 20; refine (load_at _ mb mg mn mc M ad ix (HM2.out.call (bal (Below.refl _ _) _)) HA.out hix).mono ?_; rintro e w5 ⟨rfl, rfl⟩))
  have hne : w.heap.size ≠ w2.heap.size := Nat.ne_of_lt rl
  have hne2 : w2.heap.size ≠ w.heap.size := Ne.symm hne
  have hb3 : Below w2.heap.size w2 (w2.alloc (fltO 0 0 false)) := bal (Below.refl _ _) _
  have D := FltAt.new w2 40 (.int .i64 0) (.int .u64 0) (.bool false)
  obtain ⟨d0, d1, d2, df, dl⟩ := D
  obtain ⟨e0, e1, e2, ef, el⟩ := (FltAt.mk r0 r1 r2 rf rl).call hb3
  have B3 : Below w.heap.size w2 (w2.alloc (fltO 0 0 false)) := hb3.mono (Nat.le_of_lt rl)
  generalize (w2.alloc (fltO 0 0 false)) = w3 at *
  go_region
  go_wp2
  have hbw : Below w.heap.size w2 ((((w3.setCell ⟨w.heap.size, 0, none⟩ (.int .i64 0)).setCell ⟨w.heap.size, 1, none⟩ (.int .u64 0)).setCell ⟨w.heap.size, 2, none⟩ (.bool false)).drew) := (((B3.setCell (Nat.le_refl _) _).setCell (Nat.le_refl _) _).setCell (Nat.le_refl _) _).drew
  exact bodyPost_ret (v := .tuple #[.int .u64 (M ix), noF]) (by simp [results, Try.results16, go_sem, e0, e1, e2]) rfl ⟨rfl, _, w2, bal (Below.refl _ _) _, HR.out, hbw⟩
set_option maxRecDepth 100000 in
set_option maxHeartbeats 1000000 in
theorem store_fault (w : World) (c m : Option Addr) (k va v kd : Int) (t : Nat) (R : World → World → Prop) (hkd : ¬ kd = 0) (ht : t < w.heap.size) (hR : ∀ a d, R a d → TlbOnly t a d) (hL : LocC w c m k va true 0 kd va true R) :
    Calls Try.prog 14 #[.pointer c, .pointer m, .int .i64 k, .int .u64 va, .int .u64 v] w fun e w' => e = .returned (faultV kd va true) ∧ ∃ w1 w2, Below w.heap.size w w1 ∧ R w1 w2 ∧ Below w.heap.size w2 w' := by
  have HL := Lib.hid hL
  have hkb : (kd == 0) = false := beq_eq_false_iff_ne.2 hkd
  clear hL
  go_enter Try.func14, Try.ntmps14
  go_wp2_with (first
    | (go_at_call 30; refine (HL.out _ (bal (Below.refl _ _) _)).mono ?_; rintro e w2 ⟨rfl, hr⟩; have HR := Lib.hid hr; have hz2 := (hR _ _ hr).size; obtain ⟨r0, r1, r2, rf, rl⟩ := (FltAt.new w 40 (.int .i64 0) (.int .u64 0) (.bool false)).tlb (hR _ _ hr) (by omega); have hne : w.heap.size ≠ w2.heap.size := Nat.ne_of_lt rl; have hne2 : w2.heap.size ≠ w.heap.size := Ne.symm hne; clear hr))
  exact bodyPost_ret (v := faultV kd va true) (by simp [results, Try.results14, go_sem, r0, r1, r2, hne, hne2, rl]) rfl ⟨rfl, _, w2, bal (Below.refl _ _) _, HR.out, Below.alloc (((((Below.refl _ _ : Below w.heap.size w2 w2).setCell (Nat.le_refl _) _).setCell (Nat.le_refl _) _).setCell (Nat.le_refl _) _)) (by simp; omega) _⟩
set_option maxRecDepth 100000 in
set_option maxHeartbeats 1000000 in
theorem store_yes (w : World) (c : Option Addr) (k va v ad : Int) (t mb mg mn mc ix : Nat) (M : Nat → Int) (R : World → World → Prop) (ht : t < w.heap.size) (hR : ∀ a d, R a d → TlbOnly t a d) (hL : LocC w c (some ⟨mb, 0, none⟩) k va true ad 0 0 false R) (hM : MemAt w mb mg mn mc M) (hn1 : mb ≠ t) (hn2 : mg ≠ t) (ha : ad = 8 * (ix : Int)) (hix : ix < 8 * mn) (hv : WordI v) :
    Calls Try.prog 14 #[.pointer c, .pointer (some ⟨mb, 0, none⟩), .int .i64 k, .int .u64 va, .int .u64 v] w fun e w' => e = .returned noF ∧ ∃ w1 w2 w3 w4, Below w.heap.size w w1 ∧ R w1 w2 ∧ Below w.heap.size w2 w3 ∧ MemAt w4 mb mg mn mc (updM M ix v) ∧ BlkOnly mg w3 w4 ∧ Below w.heap.size w4 w' := by
  have HL := Lib.hid hL
  have HA := Lib.hid ha
  have HM := Lib.hid hM
  have lmb := hM.lb
  have lmg := hM.lg
  clear hL hM ha
  go_enter Try.func14, Try.ntmps14
  go_wp2_with (first
    | (go_at_call 30; refine (HL.out _ (bal (Below.refl _ _) _)).mono ?_; rintro e w2 ⟨rfl, hr⟩; have HR := Lib.hid hr; have ho := hR _ _ hr; have hz2 := ho.size; obtain ⟨r0, r1, r2, rf, rl⟩ := (FltAt.new w 40 (.int .i64 0) (.int .u64 0) (.bool false)).tlb ho (by omega); have HM2 := Lib.hid ((HM.out.call (bal (Below.refl _ _) (fltO 0 0 false))).of_blocks ho.size (ho.block mb (by simp; omega) hn1) (ho.block mg (by simp; omega) hn2)); have hb3 : Below w2.heap.size w2 (w2.alloc (fltO 0 0 false)) := bal (Below.refl _ _) _; obtain ⟨d0, d1, d2, df, dl⟩ := FltAt.new w2 40 (.int .i64 0) (.int .u64 0) (.bool false); obtain ⟨e0, e1, e2, ef, el⟩ := (FltAt.mk r0 r1 r2 rf rl).call hb3; have B3 : Below w.heap.size w2 (w2.alloc (fltO 0 0 false)) := hb3.mono (Nat.le_of_lt rl); clear hr ho r0 r1 r2 rf)
    | (go_at_call 12; refine (store_at _ mb mg mn mc M ad ix v (HM2.out.call hb3) HA.out hix hv).mono ?_; rintro e w5 ⟨rfl, hm5, ho5⟩; have HM5 := Lib.hid hm5; have HO5 := Lib.hid ho5; obtain ⟨f0, f1, f2, ff, fl⟩ := (FltAt.mk e0 e1 e2 ef el).blk ho5 (by omega); obtain ⟨g0, g1, g2, gf, gl⟩ := (FltAt.mk d0 d1 d2 df dl).blk ho5 (by omega); clear hm5 ho5 e0 e1 e2 ef d0 d1 d2 df))
  have hbw : Below w.heap.size w5 (((w5.setCell ⟨w.heap.size, 0, none⟩ (.int .i64 0)).setCell ⟨w.heap.size, 1, none⟩ (.int .u64 0)).setCell ⟨w.heap.size, 2, none⟩ (.bool false)) := (((Below.refl w.heap.size w5).setCell (Nat.le_refl _) _).setCell (Nat.le_refl _) _).setCell (Nat.le_refl _) _
  exact bodyPost_ret (v := noF) (by simp [results, Try.results14, go_sem, f0, f1, f2]) rfl ⟨rfl, _, w2, _, w5, bal (Below.refl _ _) _, HR.out, B3, HM5.out, HO5.out, hbw⟩
end
/- Package access on chapter 8's machine: Load and Store. -/
section
set_option linter.unusedVariables false
set_option linter.unusedSimpArgs false
open Go.ChangeShapes Go.WideShapes Go.ChangeAt Go.RowKit Go.Shelf
/-- The kind of an access's fault, given the translation; 0: none. -/
def accK (t : TransX × Bool × Int) (wr : Bool) : Int := if t.2.2 = 0 ∧ t.1.f < 8 then (if (if wr = true then t.1.w else t.1.r) = true then 0 else 5) else 4
/-- The word's index. -/
def accI (t : TransX × Bool × Int) (va : Int) : Nat := (t.1.f * 8 + va % 64 / 8).toNat
def fV (kd va : Int) (wr : Bool) : Value := if kd = 0 then noF else faultV kd va wr
def zR (S : Nat → TS) (M : Nat → Int) (k : Nat) (va : Int) : (TransX × Bool × Int) × TS := transF 8 M (RD k) (QD k) (va / 64) (S k)
theorem trans_f0 {n : Nat} {m : Nat → Int} {r q p : Int} {s : TS} (hg : Good s) (h : (transF n m r q p s).1.2.2 = 0) (hq : 1 ≤ q) (p0 : 0 ≤ p) (p1 : p < 512) : 0 ≤ (transF n m r q p s).1.1.f := by
  unfold transF at h ⊢
  by_cases hf : (findS s q p).2 = true
  · rw [if_pos hf]
    show 0 ≤ (findS s q p).1.f
    unfold findS at hf ⊢
    rw [if_pos ⟨hq, p0, p1⟩] at hf ⊢
    have hs := hg (setNo p) (setNo_lt p0)
    have one : ∀ x, GoodT (setNo p) x → x.s = q → 0 ≤ x.f := by
      intro x hx e
      rcases hx with rfl | hx
      · exact Int.le_refl _
      · exact (may_pos hx.1).2.2.2.1
    by_cases h0 : (s (setNo p)).1.s = q ∧ (s (setNo p)).1.p = p
    · rw [if_pos h0]; exact one _ hs.x h0.1
    · rw [if_neg h0] at hf ⊢
      by_cases h1 : (s (setNo p)).2.1.s = q ∧ (s (setNo p)).2.1.p = p
      · rw [if_pos h1]; exact one _ hs.y h1.1
      · rw [if_neg h1] at hf; simp at hf
  · rw [if_neg hf] at h ⊢
    by_cases hw : walkC n m r p = 0
    · rw [if_pos hw]
      show 0 ≤ (leafT n m r q p).f
      unfold leafT
      exact Int.natCast_nonneg _
    · rw [if_neg hw] at h
      exact absurd h hw
theorem RD_at {k : Nat} (hk : k < 2) : RD k = 0 := by
  obtain rfl | rfl : k = 0 ∨ k = 1 := by omega
  all_goals rfl
theorem QD_pos {k : Nat} (hk : k < 2) : 1 ≤ QD k := by
  obtain rfl | rfl : k = 0 ∨ k = 1 := by omega
  all_goals decide
/-- What a translation leaves. -/
def TrR (b g : Nat) (T : Nat → Nat) (S : Nat → TS) (k : Nat) (a d : World) : Prop := CoresAt d b g 2 2 RD QD T S ∧ TlbOnly (T k) a d
theorem loc_rdy (W w : World) (b g : Nat) (T : Nat → Nat) (mb mg mc k : Nat) (S : Nat → TS) (M : Nat → Int) (va : Int) (wr : Bool) (h : Rdy W w b g T mb mg mc S M) (hk : k < 2) (h0 : 0 ≤ va) (h1 : va < 32768) (ha : va % 8 = 0) :
    LocC w (some ⟨b, 0, none⟩) (some ⟨mb, 0, none⟩) k va wr (if accK (zR S M k va).1 wr = 0 then (zR S M k va).1.1.f * 64 + va % 64 else 0) (accK (zR S M k va).1 wr) (if accK (zR S M k va).1 wr = 0 then 0 else va) (if accK (zR S M k va).1 wr = 0 then false else wr) (TrR b g T (setT S k (zR S M k va).2) k) := by
  intro w1 hb
  have hc := h.co.call hb
  have hm := h.me.call hb
  have hq : QD k ≠ 0 := by have := QD_pos hk; omega
  have hr : RD k ≠ -1 := by rw [RD_at hk]; decide
  have hf0 := fun hz => trans_f0 (n := 8) (m := M) (r := RD k) (q := QD k) (p := va / 64) (s := S k) (h.co.good k hk) hz (QD_pos hk) (by omega) (by omega)
  have hT : TransC w1 b g 2 2 k RD QD T S mb (va / 64) (zR S M k va).1.1 (zR S M k va).1.2.1 (zR S M k va).1.2.2 (zR S M k va).2 := fun w2 hb2 =>
    ctrans_ok w2 b g 2 2 k RD QD T S mb mg 8 mc M (va / 64) (hc.call hb2) hk (hm.call hb2) hr (by omega) (by omega)
  change (zR S M k va).1.2.2 = 0 → 0 ≤ (zR S M k va).1.1.f at hf0
  obtain ⟨⟨⟨⟨xs, xp, xf, xr, xw⟩, hit, cd⟩, s'⟩, hz⟩ : ∃ z, zR S M k va = z := ⟨_, rfl⟩
  rw [hz] at hT hf0 ⊢
  simp only at hT hf0 ⊢
  have n5 := h.n5 k hk
  have n6 := h.n6 k hk
  by_cases hcd : cd = 0
  · subst hcd
    by_cases hf : xf < 8
    · have hf' : xf < ((8 : Nat) : Int) := by omega
      cases wr
      · cases xr
        · have e : accK (⟨xs, xp, xf, false, xw⟩, hit, 0) false = 5 := by unfold accK; simp [hf]
          rw [e]
          exact locate_nor w1 b g 2 2 k RD QD T S mb mg 8 mc M va xs xp xf xw hit s' hc hk hm hq h0 h1 ha n5 n6 hT hf'
        · have e : accK (⟨xs, xp, xf, true, xw⟩, hit, 0) false = 0 := by unfold accK; simp [hf]
          rw [e]
          exact locate_yr w1 b g 2 2 k RD QD T S mb mg 8 mc M va xs xp xf xw hit s' hc hk hm hq h0 h1 ha n5 n6 hT hf' (hf0 rfl)
      · cases xw
        · have e : accK (⟨xs, xp, xf, xr, false⟩, hit, 0) true = 5 := by unfold accK; simp [hf]
          rw [e]
          exact locate_now w1 b g 2 2 k RD QD T S mb mg 8 mc M va xs xp xf xr hit s' hc hk hm hq h0 h1 ha n5 n6 hT hf'
        · have e : accK (⟨xs, xp, xf, xr, true⟩, hit, 0) true = 0 := by unfold accK; simp [hf]
          rw [e]
          exact locate_yw w1 b g 2 2 k RD QD T S mb mg 8 mc M va xs xp xf xr hit s' hc hk hm hq h0 h1 ha n5 n6 hT hf' (hf0 rfl)
    · have e : accK (⟨xs, xp, xf, xr, xw⟩, hit, 0) wr = 4 := by unfold accK; simp [hf]
      rw [e]
      exact locate_far w1 b g 2 2 k RD QD T S mb mg 8 mc M va wr xs xp xf xr xw hit s' hc hk hm hq h0 h1 ha n5 n6 hT (by omega)
  · have e : accK (⟨xs, xp, xf, xr, xw⟩, hit, cd) wr = 4 := by unfold accK; simp [hcd]
    rw [e]
    exact locate_err w1 b g 2 2 k RD QD T S mb mg 8 mc M va wr xs xp xf xr xw hit cd s' hc hk hm hq h0 h1 ha n5 n6 hT hcd
/-- The machine behind an access. -/
theorem Rdy.low {W w w' : World} {b g : Nat} {T : Nat → Nat} {mb mg mc B : Nat} {S : Nat → TS} {M : Nat → Int} (h : Rdy W w b g T mb mg mc S M) (hb : b < B) (hg : g < B) (hT : ∀ i, i < 2 → T i < B) (hmb : mb < B) (hmg : mg < B) (hW : W.heap.size ≤ B) (k : Below B w w') : Rdy W w' b g T mb mg mc S M :=
  ⟨h.co.of_blocks k.size (k.block b hb) (k.block g hg) (fun i hi => k.block _ (hT i hi)), h.me.of_blocks k.size (k.block mb hmb) (k.block mg hmg), h.lb, h.lg, h.lt, h.lmb, h.lmg, h.n1, h.n2, h.n3, h.n4, h.n5, h.n6, h.be.trans (k.mono hW)⟩
theorem Rdy.tr {W w1 w2 : World} {b g : Nat} {T : Nat → Nat} {mb mg mc k : Nat} {S : Nat → TS} {M : Nat → Int} (h : Rdy W w1 b g T mb mg mc S M) (hk : k < 2) {s : TS} (hr : TrR b g T (setT S k s) k w1 w2) : Rdy W w2 b g T mb mg mc (setT S k s) M :=
  ⟨hr.1, h.me.of_blocks hr.2.size (hr.2.block mb h.me.lb (Ne.symm (h.n5 k hk))) (hr.2.block mg h.me.lg (Ne.symm (h.n6 k hk))), h.lb, h.lg, h.lt, h.lmb, h.lmg, h.n1, h.n2, h.n3, h.n4, h.n5, h.n6, h.be.trans (hr.2.below (h.lt k hk) (h.co.tlb k hk).lt)⟩
/-- What lay below B and is no cache, and not the memory's words, is as it was. -/
def KeepO (B : Nat) (T : Nat → Nat) (mg : Nat) (a d : World) : Prop := a.heap.size ≤ d.heap.size ∧ ∀ q, q < B → (∀ i, i < 2 → q ≠ T i) → q ≠ mg → d.heap[q]? = a.heap[q]?
theorem KeepO.trans {B : Nat} {T : Nat → Nat} {mg : Nat} {a d e : World} (h : KeepO B T mg a d) (k : KeepO B T mg d e) : KeepO B T mg a e := ⟨Nat.le_trans h.1 k.1, fun q h1 h2 h3 => (k.2 q h1 h2 h3).trans (h.2 q h1 h2 h3)⟩
theorem KeepO.of_below {B : Nat} {T : Nat → Nat} {mg : Nat} {a d : World} (h : Below B a d) : KeepO B T mg a d := ⟨h.size, fun q h1 _ _ => h.block q h1⟩
theorem KeepO.of_tlb {B k : Nat} {T : Nat → Nat} {mg : Nat} {a d : World} (h : TlbOnly (T k) a d) (hk : k < 2) (hB : B ≤ a.heap.size) : KeepO B T mg a d := ⟨h.size, fun q h1 h2 _ => h.block q (Nat.lt_of_lt_of_le h1 hB) (h2 k hk)⟩
theorem FltAt.keep {w w' : World} {q B : Nat} {T : Nat → Nat} {mg : Nat} {a b c : Value} (h : FltAt w q a b c) (k : KeepO B T mg w w') (hq : q < B) (h1 : ∀ i, i < 2 → q ≠ T i) (h2 : q ≠ mg) : FltAt w' q a b c :=
  ⟨(cell_of_block (k.2 q hq h1 h2)).trans h.c0, (cell_of_block (k.2 q hq h1 h2)).trans h.c1, (cell_of_block (k.2 q hq h1 h2)).trans h.c2, fun j => (frozen_of_block (k.2 q hq h1 h2)).trans (h.fr j), Nat.lt_of_lt_of_le h.lt k.1⟩
theorem KeepO.of_blk {B : Nat} {T : Nat → Nat} {mg : Nat} {a d : World} (h : BlkOnly mg a d) (hB : B ≤ a.heap.size) : KeepO B T mg a d := ⟨h.size, fun q h1 _ h3 => h.block q (Nat.lt_of_lt_of_le h1 hB) h3⟩
theorem load_rdy (W w : World) (b g : Nat) (T : Nat → Nat) (mb mg mc k : Nat) (S : Nat → TS) (M : Nat → Int) (va : Int) (h : Rdy W w b g T mb mg mc S M) (hk : k < 2) (h0 : 0 ≤ va) (h1 : va < 32768) (ha : va % 8 = 0) :
    Calls Try.prog 16 #[.pointer (some ⟨b, 0, none⟩), .pointer (some ⟨mb, 0, none⟩), .int .i64 k, .int .u64 va] w fun e w' => e = .returned (.tuple #[.int .u64 (if accK (zR S M k va).1 false = 0 then M (accI (zR S M k va).1 va) else 0), fV (accK (zR S M k va).1 false) va false]) ∧ Rdy W w' b g T mb mg mc (setT S k (zR S M k va).2) M ∧ KeepO w.heap.size T mg w w' := by
  have hl := loc_rdy W w b g T mb mg mc k S M va false h hk h0 h1 ha
  have fin : ∀ w', (∃ w1 w2, Below w.heap.size w w1 ∧ TrR b g T (setT S k (zR S M k va).2) k w1 w2 ∧ Below w.heap.size w2 w') → Rdy W w' b g T mb mg mc (setT S k (zR S M k va).2) M ∧ KeepO w.heap.size T mg w w' := by
    rintro w' ⟨w1, w2, hb1, hr, hb2⟩
    exact ⟨((h.call hb1).tr hk hr).low h.co.lb h.co.lg (fun i hi => (h.co.tlb i hi).lt) h.me.lb h.me.lg h.be.size hb2, ((KeepO.of_below hb1).trans (KeepO.of_tlb hr.2 hk hb1.size)).trans (KeepO.of_below hb2)⟩
  by_cases hz : accK (zR S M k va).1 false = 0
  · rw [hz, if_pos rfl, if_pos rfl, if_pos rfl] at hl
    rw [hz, if_pos rfl]
    have hf8 : (zR S M k va).1.2.2 = 0 ∧ (zR S M k va).1.1.f < 8 := by
      unfold accK at hz
      by_cases hc : (zR S M k va).1.2.2 = 0 ∧ (zR S M k va).1.1.f < 8
      · exact hc
      · rw [if_neg hc] at hz; exact absurd hz (by decide)
    have hf0 := trans_f0 (n := 8) (m := M) (r := RD k) (q := QD k) (p := va / 64) (s := S k) (h.co.good k hk) hf8.1 (QD_pos hk) (by omega) (by omega)
    change 0 ≤ (zR S M k va).1.1.f at hf0
    refine (load_yes w _ k va _ (T k) mb mg 8 mc (accI (zR S M k va).1 va) M _ (h.co.tlb k hk).lt (fun a d hr => hr.2) hl h.me (Ne.symm (h.n5 k hk)) (Ne.symm (h.n6 k hk)) (by unfold accI; omega) (by unfold accI; omega)).mono ?_
    rintro e w' ⟨rfl, hw⟩
    exact ⟨rfl, fin w' hw⟩
  · rw [if_neg hz, if_neg hz, if_neg hz] at hl
    rw [if_neg hz]
    refine (load_fault w _ _ k va _ (T k) _ hz (h.co.tlb k hk).lt (fun a d hr => hr.2) hl).mono ?_
    rintro e w' ⟨rfl, hw⟩
    exact ⟨by unfold fV; rw [if_neg hz], fin w' hw⟩
theorem store_rdy (W w : World) (b g : Nat) (T : Nat → Nat) (mb mg mc k : Nat) (S : Nat → TS) (M : Nat → Int) (va v : Int) (h : Rdy W w b g T mb mg mc S M) (hk : k < 2) (h0 : 0 ≤ va) (h1 : va < 32768) (ha : va % 8 = 0) (hv : WordI v) :
    Calls Try.prog 14 #[.pointer (some ⟨b, 0, none⟩), .pointer (some ⟨mb, 0, none⟩), .int .i64 k, .int .u64 va, .int .u64 v] w fun e w' => e = .returned (fV (accK (zR S M k va).1 true) va true) ∧ Rdy W w' b g T mb mg mc (setT S k (zR S M k va).2) (if accK (zR S M k va).1 true = 0 then updM M (accI (zR S M k va).1 va) v else M) ∧ KeepO w.heap.size T mg w w' := by
  have hl := loc_rdy W w b g T mb mg mc k S M va true h hk h0 h1 ha
  by_cases hz : accK (zR S M k va).1 true = 0
  · rw [hz, if_pos rfl, if_pos rfl, if_pos rfl] at hl
    rw [hz, if_pos rfl]
    have hf8 : (zR S M k va).1.2.2 = 0 ∧ (zR S M k va).1.1.f < 8 := by
      unfold accK at hz
      by_cases hc : (zR S M k va).1.2.2 = 0 ∧ (zR S M k va).1.1.f < 8
      · exact hc
      · rw [if_neg hc] at hz; exact absurd hz (by decide)
    have hf0 := trans_f0 (n := 8) (m := M) (r := RD k) (q := QD k) (p := va / 64) (s := S k) (h.co.good k hk) hf8.1 (QD_pos hk) (by omega) (by omega)
    change 0 ≤ (zR S M k va).1.1.f at hf0
    refine (store_yes w _ k va v _ (T k) mb mg 8 mc (accI (zR S M k va).1 va) M _ (h.co.tlb k hk).lt (fun a d hr => hr.2) hl h.me (Ne.symm (h.n5 k hk)) (Ne.symm (h.n6 k hk)) (by unfold accI; omega) (by unfold accI; omega) hv).mono ?_
    rintro e w' ⟨rfl, w1, w2, w3, w4, hb1, hr, hb3, hm4, ho4, hb5⟩
    have r2 := (h.call hb1).tr hk hr
    have r3 := r2.low h.co.lb h.co.lg (fun i hi => (h.co.tlb i hi).lt) h.me.lb h.me.lg h.be.size hb3
    have r4 : Rdy W w4 b g T mb mg mc (setT S k (zR S M k va).2) (updM M (accI (zR S M k va).1 va) v) := ⟨r3.co.blk ho4 h.n2 h.n4 h.n6, hm4, h.lb, h.lg, h.lt, h.lmb, h.lmg, h.n1, h.n2, h.n3, h.n4, h.n5, h.n6, r3.be.trans (ho4.below h.lmg r3.me.lg)⟩
    exact ⟨rfl, r4.low h.co.lb h.co.lg (fun i hi => (h.co.tlb i hi).lt) h.me.lb h.me.lg h.be.size hb5, ((((KeepO.of_below hb1).trans (KeepO.of_tlb hr.2 hk hb1.size)).trans (KeepO.of_below hb3)).trans (KeepO.of_blk ho4 (Nat.le_trans hb1.size (Nat.le_trans hr.2.size hb3.size)))).trans (KeepO.of_below hb5)⟩
  · rw [if_neg hz, if_neg hz, if_neg hz] at hl
    rw [if_neg hz]
    refine (store_fault w _ _ k va v _ (T k) _ hz (h.co.tlb k hk).lt (fun a d hr => hr.2) hl).mono ?_
    rintro e w' ⟨rfl, w1, w2, hb1, hr, hb2⟩
    exact ⟨by unfold fV; rw [if_neg hz], ((h.call hb1).tr hk hr).low h.co.lb h.co.lg (fun i hi => (h.co.tlb i hi).lt) h.me.lb h.me.lg h.be.size hb2, ((KeepO.of_below hb1).trans (KeepO.of_tlb hr.2 hk hb1.size)).trans (KeepO.of_below hb2)⟩
/-- An access that comes to no translation. -/
theorem aload_bad (w : World) (c m : Option Addr) (k va kd : Int) (hz : 0 < w.heap.size) (hkd : ¬ kd = 0) (hL : LocC w c m k va false 0 kd va false (fun a d => Below a.heap.size a d)) :
    Calls Try.prog 16 #[.pointer c, .pointer m, .int .i64 k, .int .u64 va] w fun e w' => e = .returned (.tuple #[.int .u64 0, faultV kd va false]) ∧ Below w.heap.size w w' := by
  refine (load_fault w c m k va kd 0 _ hkd hz (fun a d hr => TlbOnly.of_below hr) hL).mono ?_
  rintro e w' ⟨rfl, w1, w2, hb1, hr, hb2⟩
  exact ⟨rfl, (bgo hb1 hr).trans hb2⟩
theorem astore_bad (w : World) (c m : Option Addr) (k va v kd : Int) (hz : 0 < w.heap.size) (hkd : ¬ kd = 0) (hL : LocC w c m k va true 0 kd va true (fun a d => Below a.heap.size a d)) :
    Calls Try.prog 14 #[.pointer c, .pointer m, .int .i64 k, .int .u64 va, .int .u64 v] w fun e w' => e = .returned (faultV kd va true) ∧ Below w.heap.size w w' := by
  refine (store_fault w c m k va v kd 0 _ hkd hz (fun a d hr => TlbOnly.of_below hr) hL).mono ?_
  rintro e w' ⟨rfl, w1, w2, hb1, hr, hb2⟩
  exact ⟨rfl, (bgo hb1 hr).trans hb2⟩
end
/- Chapter 8's statements: awake; the law AccessNone. -/
section
set_option linter.unusedVariables false
set_option linter.unusedSimpArgs false
open Go.ChangeShapes Go.WideShapes Go.ChangeAt Go.RowKit Go.Shelf
abbrev M25 : Nat → Int := updM (mR 9) 25 9
theorem aw_1 : accK (zR (fun _ => S0) M25 0 8).1 false = 0 := by decide +kernel
theorem aw_2 : M25 (accI (zR (fun _ => S0) M25 0 8).1 8) = 9 := by decide +kernel
theorem aw_3 : accK (zR (setT (fun _ => S0) 0 (zR (fun _ => S0) M25 0 8).2) M25 0 8).1 true = 5 := by decide +kernel
theorem Rdy.store {W w w' : World} {b g : Nat} {T : Nat → Nat} {mb mg mc : Nat} {S : Nat → TS} {M M' : Nat → Int} (h : Rdy W w b g T mb mg mc S M) (hm : MemAt w' mb mg 8 mc M') (ho : BlkOnly mg w w') : Rdy W w' b g T mb mg mc S M' :=
  ⟨h.co.blk ho h.n2 h.n4 h.n6, hm, h.lb, h.lg, h.lt, h.lmb, h.lmg, h.n1, h.n2, h.n3, h.n4, h.n5, h.n6, h.be.trans (ho.below h.lmg h.me.lg)⟩
set_option maxRecDepth 100000 in
set_option maxHeartbeats 1000000 in
theorem awake8 (W : World) : Calls Try.prog 7 #[] W fun e w' => e = .returned (.bool true) ∧ Below W.heap.size W w' := by
  have hv9 : WordI 9 := ⟨by decide, by decide⟩
  have hv1 : WordI 1 := ⟨by decide, by decide⟩
  go_enter Try.func7, Try.ntmps7
  go_wp2_with (fail)
  refine (ready_ok _).mono ?_
  rintro e w1 ⟨b, g, T, mb, mg, mc, vb, wb, rfl, hr1⟩
  have HR1 := Lib.hid hr1
  clear hr1
  go_wp2_with (first
    | (go_at_call 12; refine (store_at w1 mb mg 8 mc (mR 9) 200 25 9 HR1.out.me (by decide) (by decide) hv9).mono ?_; rintro e w2 ⟨rfl, hm2, ho2⟩; have HR2 := Lib.hid (HR1.out.store hm2 ho2); clear hm2 ho2)
    | (go_at_call 16; refine (load_rdy W w2 b g T mb mg mc 0 (fun _ => S0) M25 8 HR2.out (by decide) (by decide) (by decide) (by decide)).mono ?_; rw [aw_1, if_pos rfl, aw_2, show fV 0 8 false = noF from rfl]; rintro e w3 ⟨rfl, hr3, -⟩; have HR3 := Lib.hid hr3; have F3 := FltAt.new w3 40 (.int .i64 0) (.int .u64 0) (.bool false); have t3 := (fun i hi => Nat.ne_of_gt (hr3.co.tlb i hi).lt); have m3 := Nat.ne_of_gt hr3.me.lg; clear hr3)
    | (go_at_call 14; refine (store_rdy W _ b g T mb mg mc 0 _ M25 8 1 (HR3.out.call (bal (Below.refl _ _) _)) (by decide) (by decide) (by decide) (by decide) hv1).mono ?_; rw [aw_3, show fV 5 8 true = faultV 5 8 true from rfl]; rintro e w4 ⟨rfl, hr4, hk4⟩; have HR4 := Lib.hid hr4; obtain ⟨r0, r1, r2, rf, rl⟩ := F3.keep hk4 (by simp) t3 m3; clear hr4 hk4 F3))
  go_ret
  exact ⟨rfl, bal HR4.out.be _⟩
theorem u64_of8 {n : Int} (h : (Lit.int .u64 n).wf = true) : 0 ≤ n ∧ n ≤ 18446744073709551615 := by
  simp [Lit.wf, IntKind.min, IntKind.max, IntKind.signed, IntKind.bits] at h
  exact ⟨by omega, by omega⟩
theorem i64_of8 {n : Int} (h : (Lit.int .i64 n).wf = true) : -9223372036854775808 ≤ n ∧ n ≤ 9223372036854775807 := by
  simp [Lit.wf, IntKind.min, IntKind.max, IntKind.signed, IntKind.bits] at h
  exact ⟨by omega, by omega⟩
theorem loc_noc (w : World) (m : Addr) (k va : Int) (h0 : 0 ≤ va) (h1 : va < 32768) (ha : va % 8 = 0) : LocC w none (some m) k va false 0 3 va false (fun a d => Below a.heap.size a d) :=
  fun w1 hb => locate_space w1 none (some m) k va false h0 h1 ha (fun w2 hb2 => walks_noc w2 m k)
theorem loc_nom (w : World) (c : Option Addr) (k va : Int) (h0 : 0 ≤ va) (h1 : va < 32768) (ha : va % 8 = 0) : LocC w c none k va true 0 3 va true (fun a d => Below a.heap.size a d) :=
  fun w1 hb => locate_space w1 c none k va true h0 h1 ha (fun w2 hb2 => walks_nom w2 c k)
set_option maxRecDepth 100000 in
set_option maxHeartbeats 1000000 in
theorem walk_accessNone (a0 : Int) (w0 : (Lit.int .i64 a0).wf = true) (a1 : Int) (w1 : (Lit.int .u64 a1).wf = true) (a2 : Int) (w2 : (Lit.int .u64 a2).wf = true) (W : World) :
    Calls Try.prog 6 #[.int .i64 a0, .int .u64 a1, .int .u64 a2] W fun e w' => e = .returned (.bool true) ∧ Below W.heap.size W w' := by
  have hu := u64_of8 w1
  clear w0 w1 w2
  have x0 : 0 ≤ a1 % 32768 / 8 * 8 := by omega
  have x1 : a1 % 32768 / 8 * 8 < 32768 := by omega
  have x2 : a1 % 32768 / 8 * 8 % 8 = 0 := by omega
  go_enter Try.func6, Try.ntmps6
  go_wp2_with (fail)
  refine (ready_ok _).mono ?_
  rintro e w1 ⟨b, g, T, mb, mg, mc, vb, wb, rfl, hr1⟩
  have HR1 := Lib.hid hr1
  have hz1 : 0 < w1.heap.size := Nat.lt_of_le_of_lt (Nat.zero_le _) hr1.me.lg
  clear hr1
  go_wp2_with (fail)
  generalize a1 % 32768 / 8 * 8 = x at *
  go_wp2_with (first
    | (go_at_call 16; refine (aload_bad w1 none _ a0 x 3 hz1 (by decide) (loc_noc _ _ _ _ x0 x1 x2)).mono ?_; rintro e w2 ⟨rfl, hb2⟩; have hz2 := Nat.lt_of_lt_of_le hz1 hb2.size; have F2 := FltAt.new w2 40 (.int .i64 3) (.int .u64 x) (.bool false))
    | (go_at_call 14; refine (astore_bad _ _ none 0 x a2 3 (by simp) (by decide) (loc_nom _ _ _ _ x0 x1 x2)).mono ?_; rintro e w3 ⟨rfl, hb3⟩; obtain ⟨r0, r1, r2, rf, rl⟩ := F2.call hb3; have F3 := FltAt.new w3 40 (.int .i64 3) (.int .u64 x) (.bool true); obtain ⟨s0, s1, s2, sf, sl⟩ := F3)
    | (go_at_call 7; refine (awake8 _).mono ?_; rintro e w4 ⟨rfl, hb4⟩))
  go_ret
  exact ⟨rfl, bgo (bal (bgo (bal (bgo HR1.out.be hb2) _) hb3) _) hb4⟩
end
/- chapter 7's own answer: Has, Set, New. -/
section
set_option linter.unusedVariables false
set_option linter.unusedSimpArgs false
open Go.ChangeShapes Go.WideShapes Go.ChangeAt Go.RowKit Go.Shelf
theorem cellQ {W : World} {b : Nat} {cs : Array Value} {t : TypeId} (h : W.heap[b]? = some (.cells cs t (0, 0))) (j : Nat) : W.cell? ⟨b, j, none⟩ = cs[j]? := by
  simp [World.cell?, h]
/-- The own cores: the header in block b, the rows in block g, the caches in blocks T i. -/
structure RCor (w : World) (b g n c : Nat) (R Q : Nat → Int) (T : Nat → Nat) (S : Nat → TS) : Prop where
  hd : w.cell? ⟨b, 0, none⟩ = some (.slice (some ⟨g, 0, none⟩) n c)
  row : ∀ i, i < n → w.cell? ⟨g, i * 3, none⟩ = some (.int .i64 (R i)) ∧ w.cell? ⟨g, i * 3 + 1, none⟩ = some (.int .i64 (Q i)) ∧ w.cell? ⟨g, i * 3 + 2, none⟩ = some (.pointer (some ⟨T i, 0, none⟩))
  free : ∀ j, w.frozen? ⟨g, j, none⟩ = false
  tlb : ∀ i, i < n → TRef w (T i) (S i)
  dist : ∀ i j, i < n → j < n → i ≠ j → T i ≠ T j
  off : ∀ i, i < n → T i ≠ b ∧ T i ≠ g
  ne : b ≠ g
  lb : b < w.heap.size
  lg : g < w.heap.size
  n1 : 1 ≤ n
  n3 : n ≤ 3
  cap : n ≤ c
theorem RCor.of_blocks {w w' : World} {b g n c : Nat} {R Q : Nat → Int} {T : Nat → Nat} {S : Nat → TS} (h : RCor w b g n c R Q T S) (hs : w.heap.size ≤ w'.heap.size) (e : w'.heap[b]? = w.heap[b]?) (e2 : w'.heap[g]? = w.heap[g]?) (e3 : ∀ i, i < n → w'.heap[T i]? = w.heap[T i]?) : RCor w' b g n c R Q T S :=
  ⟨(cell_of_block e).trans h.hd, fun i hi => ⟨(cell_of_block e2).trans (h.row i hi).1, (cell_of_block e2).trans (h.row i hi).2.1, (cell_of_block e2).trans (h.row i hi).2.2⟩, fun j => (frozen_of_block e2).trans (h.free j), fun i hi => (h.tlb i hi).of_block hs (e3 i hi), h.dist, h.off, h.ne, Nat.lt_of_lt_of_le h.lb hs, Nat.lt_of_lt_of_le h.lg hs, h.n1, h.n3, h.cap⟩
theorem RCor.call {w w' : World} {b g n c : Nat} {R Q : Nat → Int} {T : Nat → Nat} {S : Nat → TS} (h : RCor w b g n c R Q T S) (k : Below w.heap.size w w') : RCor w' b g n c R Q T S :=
  h.of_blocks k.size (k.block b h.lb) (k.block g h.lg) fun i hi => k.block _ (h.tlb i hi).lt
/-- One cache is turned. -/
theorem RCor.put {w w' : World} {b g n c k : Nat} {R Q : Nat → Int} {T : Nat → Nat} {S : Nat → TS} (h : RCor w b g n c R Q T S) (hk : k < n) {s : TS} (ht : TRef w' (T k) s) (ho : TlbOnly (T k) w w') : RCor w' b g n c R Q T (setT S k s) := by
  have hoff := h.off k hk
  have e := ho.block b h.lb (Ne.symm hoff.1)
  have e2 := ho.block g h.lg (Ne.symm hoff.2)
  refine ⟨(cell_of_block e).trans h.hd, fun i hi => ⟨(cell_of_block e2).trans (h.row i hi).1, (cell_of_block e2).trans (h.row i hi).2.1, (cell_of_block e2).trans (h.row i hi).2.2⟩, fun j => (frozen_of_block e2).trans (h.free j), fun i hi => ?_, h.dist, h.off, h.ne, Nat.lt_of_lt_of_le h.lb ho.size, Nat.lt_of_lt_of_le h.lg ho.size, h.n1, h.n3, h.cap⟩
  unfold setT
  by_cases e : i = k
  · subst e; rw [if_pos rfl]; exact ht
  · rw [if_neg e]; exact (h.tlb i hi).of_block ho.size (ho.block _ (h.tlb i hi).lt (h.dist i k hi hk e))
theorem RCor.setRegs {w : World} {b g n c k : Nat} {R Q : Nat → Int} {T : Nat → Nat} {S : Nat → TS} (h : RCor w b g n c R Q T S) (hk : k < n) {r s : Int} :
    RCor ((w.setCell ⟨g, k * 3, none⟩ (.int .i64 r)).setCell ⟨g, k * 3 + 1, none⟩ (.int .i64 s)) b g n c (setR R k r) (setR Q k s) T S := by
  refine ⟨?_, fun i hi => ?_, fun j => ?_, fun i hi => ?_, h.dist, h.off, h.ne, by simpa using h.lb, by simpa using h.lg, h.n1, h.n3, h.cap⟩
  · rw [World.cell?_setCell_other, World.cell?_setCell_other, h.hd]
    all_goals (intro e; simp only [Addr.mk.injEq] at e; exact h.ne e.1.symm)
  · obtain ⟨a0, a1, a2⟩ := h.row i hi
    unfold setR
    by_cases e : i = k
    · subst e
      simp only [if_true]
      refine ⟨?_, ?_, ?_⟩ <;> simp [go_sem, a0, a1, a2]
    · simp only [if_neg e]
      refine ⟨?_, ?_, ?_⟩
      all_goals
        rw [World.cell?_setCell_other, World.cell?_setCell_other]
        · assumption
        all_goals (intro e2; simp only [Addr.mk.injEq, true_and, and_true] at e2; omega)
  · simp [go_sem, h.free j]
  · have hg := (h.off i hi).2
    exact (h.tlb i hi).of_block (by simp) (by rw [Go.heap_setCell_other _ _ _ _ hg, Go.heap_setCell_other _ _ _ _ hg])
def hasC (n : Nat) (k : Int) : Bool := decide (0 ≤ k ∧ k < n)
theorem rhas_any (w : World) (b g n c : Nat) (k : Int) (R Q : Nat → Int) (T : Nat → Nat) (S : Nat → TS) (h : RCor w b g n c R Q T S) :
    Calls Try.prog 27 #[.pointer (some ⟨b, 0, none⟩), .int .i64 k] w fun e w' => e = .returned (.bool (hasC n k)) ∧ w = w' := by
  have hd := h.hd
  have n3 := h.n3
  clear h
  unfold hasC
  by_cases h0 : 0 ≤ k
  · by_cases h1 : k < n
    · rw [decide_eq_true ⟨h0, h1⟩]
      go_enter Try.func27, Try.ntmps27
      go_wp2
      go_ret
      exact ⟨rfl, rfl⟩
    · rw [decide_eq_false (fun q => h1 q.2)]
      go_enter Try.func27, Try.ntmps27
      go_wp2
      go_ret
      exact ⟨rfl, rfl⟩
  · rw [decide_eq_false (fun q => h0 q.1)]
    go_enter Try.func27, Try.ntmps27
    go_wp2
    go_ret
    exact ⟨rfl, rfl⟩
/-- What Set tells of a core and its registers. -/
def setC (n : Nat) (k r s : Int) : Int := if hasC n k = true then (if (r = -1 ∧ s = 0) ∨ (0 ≤ r ∧ r < 64 ∧ 1 ≤ s) then 0 else 2) else 3
theorem rset_no (w : World) (b g n c : Nat) (k r s : Int) (R Q : Nat → Int) (T : Nat → Nat) (S : Nat → TS) (h : RCor w b g n c R Q T S) (h0 : setC n k r s ≠ 0) :
    Calls Try.prog 11 #[.pointer (some ⟨b, 0, none⟩), .int .i64 k, .int .i64 r, .int .i64 s] w fun e w' => e = .returned (.int .i64 (setC n k r s)) ∧ w = w' := by
  have H := Lib.hid h
  clear h
  unfold setC at *
  by_cases h1 : hasC n k = true
  · rw [if_pos h1] at h0 ⊢
    by_cases h2 : (r = -1 ∧ s = 0) ∨ (0 ≤ r ∧ r < 64 ∧ 1 ≤ s)
    · rw [if_pos h2] at h0; exact absurd rfl h0
    · rw [if_neg h2]
      have H1 := Lib.hid h1
      have e1 : (r == -1 && s == 0) = false := by
        rw [Bool.and_eq_false_iff]
        by_cases q : r = -1
        · exact .inr (beq_eq_false_iff_ne.2 (fun e => h2 (.inl ⟨q, e⟩)))
        · exact .inl (beq_eq_false_iff_ne.2 q)
      have h3 : ¬ (0 ≤ r ∧ r < 64 ∧ 1 ≤ s) := fun q => h2 (.inr q)
      clear h0 h1 e1
      by_cases q1 : r = -1
      · subst q1
        have q2 : ¬ s = 0 := fun e => h2 (.inl ⟨rfl, e⟩)
        have q3 : (s == 0) = false := beq_eq_false_iff_ne.2 q2
        clear h2 h3
        go_enter Try.func11, Try.ntmps11
        go_wp2_with (go_at_call 27; refine (rhas_any _ b g n c k R Q T S H.out).mono ?_; rw [H1.out]; rintro e w1 ⟨rfl, rfl⟩)
        go_ret
        exact ⟨rfl, rfl⟩
      · have q2 : (r == -1) = false := beq_eq_false_iff_ne.2 q1
        by_cases q3 : 0 ≤ r
        · by_cases q4 : r < 64
          · have q5 : ¬ 1 ≤ s := fun e => h3 ⟨q3, q4, e⟩
            have q6 : decide (1 ≤ s) = false := decide_eq_false q5
            clear h2 h3 q1
            go_enter Try.func11, Try.ntmps11
            go_wp2_with (go_at_call 27; refine (rhas_any _ b g n c k R Q T S H.out).mono ?_; rw [H1.out]; rintro e w1 ⟨rfl, rfl⟩)
            go_ret
            exact ⟨rfl, rfl⟩
          · clear h2 h3 q1
            go_enter Try.func11, Try.ntmps11
            go_wp2_with (go_at_call 27; refine (rhas_any _ b g n c k R Q T S H.out).mono ?_; rw [H1.out]; rintro e w1 ⟨rfl, rfl⟩)
            go_ret
            exact ⟨rfl, rfl⟩
        · clear h2 h3 q1
          go_enter Try.func11, Try.ntmps11
          go_wp2_with (go_at_call 27; refine (rhas_any _ b g n c k R Q T S H.out).mono ?_; rw [H1.out]; rintro e w1 ⟨rfl, rfl⟩)
          go_ret
          exact ⟨rfl, rfl⟩
  · rw [if_neg h1]
    have h1 : hasC n k = false := by simpa using h1
    have H1 := Lib.hid h1
    clear h1 h0
    go_enter Try.func11, Try.ntmps11
    go_wp2_with (go_at_call 27; refine (rhas_any _ b g n c k R Q T S H.out).mono ?_; rw [H1.out]; rintro e w1 ⟨rfl, rfl⟩)
    go_ret
    exact ⟨rfl, rfl⟩
theorem has_nat {n : Nat} {k : Int} (h : hasC n k = true) : ∃ j : Nat, j < n ∧ k = j := by
  unfold hasC at h
  have := of_decide_eq_true h
  exact ⟨k.toNat, by omega, by omega⟩
theorem has_of {n j : Nat} (h : j < n) : hasC n j = true := decide_eq_true ⟨by omega, by omega⟩
theorem set_ok {n : Nat} {k r s : Int} (h : setC n k r s = 0) : ∃ j : Nat, j < n ∧ k = j ∧ ((r = -1 ∧ s = 0) ∨ (0 ≤ r ∧ r < 64 ∧ 1 ≤ s)) := by
  unfold setC at h
  split at h
  · rename_i h1
    split at h
    · rename_i h2
      obtain ⟨j, hj, e⟩ := has_nat h1
      exact ⟨j, hj, e, h2⟩
    · simp at h
  · simp at h
theorem rset_yes (w : World) (b g n c k : Nat) (r s : Int) (R Q : Nat → Int) (T : Nat → Nat) (S : Nat → TS) (h : RCor w b g n c R Q T S) (hk : k < n) (hr : (r = -1 ∧ s = 0) ∨ (0 ≤ r ∧ r < 64 ∧ 1 ≤ s)) :
    Calls Try.prog 11 #[.pointer (some ⟨b, 0, none⟩), .int .i64 k, .int .i64 r, .int .i64 s] w fun e w' => e = .returned (.int .i64 0) ∧ RCor w' b g n c (setR R k r) (setR Q k s) T S ∧ BlkOnly g w w' := by
  have H := Lib.hid h
  have H1 := Lib.hid (has_of hk)
  obtain ⟨c0, c1, -⟩ := h.row k hk
  have hd := h.hd
  have hf := h.free
  have n3 := h.n3
  have hne := h.ne
  have hne2 := Ne.symm hne
  have hk1 : (k : Int) < n := by omega
  clear h
  rcases hr with ⟨rfl, rfl⟩ | ⟨r0, r1, s1⟩
  · go_enter Try.func11, Try.ntmps11
    go_wp2_with (go_at_call 27; refine (rhas_any _ b g n c k R Q T S H.out).mono ?_; rw [H1.out]; rintro e w1 ⟨rfl, rfl⟩)
    go_ret
    exact ⟨rfl, H.out.setRegs hk, ((BlkOnly.refl g w).set _ _).set _ _⟩
  · have e1 : (r == -1) = false := beq_eq_false_iff_ne.2 (by omega)
    go_enter Try.func11, Try.ntmps11
    go_wp2_with (go_at_call 27; refine (rhas_any _ b g n c k R Q T S H.out).mono ?_; rw [H1.out]; rintro e w1 ⟨rfl, rfl⟩)
    go_ret
    exact ⟨rfl, H.out.setRegs hk, ((BlkOnly.refl g w).set _ _).set _ _⟩
theorem infoRK : (Try.prog.info? 73).map (fun i => (i.zero, i.size, i.bytes)) = some (some (.agg #[.int .i64 0, .int .i64 0, .pointer none]), 3, 24) := by kernel_rfl
def rowC (t : Nat) : List Value := [.int .i64 (-1), .int .i64 0, .pointer (some ⟨t, 0, none⟩)]
def rowsC (T : Nat → Nat) (k : Nat) : List Value := (List.range k).flatMap fun i => rowC (T i)
theorem rowsC_succ (T : Nat → Nat) (k : Nat) : rowsC T (k + 1) = rowsC T k ++ rowC (T k) := by
  unfold rowsC; rw [List.range_succ, List.flatMap_append]; simp
theorem rowsC_congr {T T' : Nat → Nat} {k : Nat} (h : ∀ i, i < k → T i = T' i) : rowsC T k = rowsC T' k := by
  unfold rowsC
  induction k with
  | zero => rfl
  | succ k ih => rw [List.range_succ, List.flatMap_append, List.flatMap_append, ih (fun i hi => h i (by omega))]; simp [h k (by omega)]
theorem rowsC_len (T : Nat → Nat) (k : Nat) : (rowsC T k).length = k * 3 := by
  induction k with
  | zero => rfl
  | succ k ih => rw [rowsC_succ, List.length_append, ih]; simp [rowC]; omega
theorem rowsC_at (T : Nat → Nat) : ∀ k i j, i < k → j < 3 → (rowsC T k)[i * 3 + j]? = (rowC (T i))[j]? := by
  intro k
  induction k with
  | zero => intro i j hi; omega
  | succ k ih =>
    intro i j hi hj
    rw [rowsC_succ]
    by_cases h : i < k
    · rw [List.getElem?_append_left (by rw [rowsC_len]; omega)]
      exact ih i j h hj
    · obtain rfl : i = k := by omega
      rw [List.getElem?_append_right (by rw [rowsC_len]; omega), rowsC_len, Nat.add_sub_cancel_left]
structure RPart (w wr : World) (k : Nat) (T : Nat → Nat) (v : Value) : Prop where
  cell : wr.cell? ⟨w.heap.size, 0, none⟩ = some v
  froz : wr.frozen? ⟨w.heap.size, 0, none⟩ = false
  row : wr.ownsRow (w.heap.size + 1) 73 3 v k (rowsC T k)
  tlb : ∀ i, i < k → TRef wr (T i) S0
  ty : ∀ i, i < k → ∃ cs, wr.heap[T i]? = some (.cells cs 109 (0, 0))
  dist : ∀ i j, i < k → j < k → i ≠ j → T i ≠ T j
  off : ∀ i, i < k → w.heap.size < T i
  bel : Below w.heap.size w wr
  lt : w.heap.size < wr.heap.size
theorem row_of_heap {w w' : World} {base : Nat} {e : TypeId} {s : Nat} {v : Value} {n : Nat} {xs : List Value} (h : w.ownsRow base e s v n xs) (k : ∀ g, v.ownBlock = some g → w'.heap[g]? = w.heap[g]?) : w'.ownsRow base e s v n xs := by
  refine ⟨h.1, ?_⟩
  rcases h.2 with h2 | ⟨g, cap, cur, rfl, q1, q2, q3⟩
  · exact .inl h2
  · exact .inr ⟨g, cap, cur, rfl, q1, (k g rfl).trans q2, q3⟩
theorem row_ty {w : World} {B g s n : Nat} {e : TypeId} {v : Value} {xs : List Value} (h : w.ownsRow B e s v n xs) (hg : v.ownBlock = some g) : ∃ cs, w.heap[g]? = some (.cells cs e (0, 0)) := by
  rcases h.2 with ⟨rfl, _⟩ | ⟨g', cap, cur, rfl, _, q, _⟩
  · cases hg
  · cases hg; exact ⟨cur, q⟩
theorem RPart.step {w wr w3 : World} {k : Nat} {T : Nat → Nat} {v v' : Value} {cs : Array Value} {o : Obj} (h : RPart w wr k T v) (hT : TRef (wr.alloc (.cells cs 109)) wr.heap.size S0)
    (hown : w3.ownsRow (w.heap.size + 1) 73 3 v' (k + 1) (rowsC T k ++ rowC wr.heap.size)) (hg : ((wr.alloc (.cells cs 109)).alloc o).grownBy w3 v.ownBlock) :
    RPart w (w3.setCell ⟨w.heap.size, 0, none⟩ v') (k + 1) (fun i => if i = k then wr.heap.size else T i) v' := by
  have hlt := h.lt
  have hs : wr.heap.size + 2 ≤ w3.heap.size := by have := hg.size; simpa using this
  have hrl := h.row.lt
  have hvt : ∀ i, i < k → v.ownBlock ≠ some (T i) := fun i hi e => by
    obtain ⟨c1, e1⟩ := row_ty h.row e
    obtain ⟨c2, e2⟩ := h.ty i hi
    rw [e1] at e2
    simp at e2
  have heq : ∀ j, j < wr.heap.size → v.ownBlock ≠ some j → j ≠ w.heap.size → (w3.setCell ⟨w.heap.size, 0, none⟩ v').heap[j]? = wr.heap[j]? := fun j hj h1 h2 => by
    rw [Go.heap_setCell_other _ _ _ _ h2, hg.block j (by simp; omega) (fun e => h1 e.symm)]
    rw [Below.heap_alloc _ _ _ (by simp; omega), Below.heap_alloc _ _ _ hj]
  have hnew : (w3.setCell ⟨w.heap.size, 0, none⟩ v').heap[wr.heap.size]? = (wr.alloc (.cells cs 109)).heap[wr.heap.size]? := by
    rw [Go.heap_setCell_other _ _ _ _ (by show wr.heap.size ≠ w.heap.size; omega), hg.block _ (by simp; omega) (fun e => by have := (hrl _ e.symm).2; omega)]
    rw [Below.heap_alloc _ _ _ (by simp)]
  have hvb : v.ownBlock ≠ some w.heap.size := fun e => by have := (hrl _ e).1; omega
  have hb3 : w3.heap[w.heap.size]? = wr.heap[w.heap.size]? := by
    rw [hg.block _ (by simp; omega) (fun e => hvb e.symm), Below.heap_alloc _ _ _ (by simp; omega), Below.heap_alloc _ _ _ hlt]
  refine ⟨?_, ?_, ?_, fun i hi => ?_, fun i hi => ?_, fun i j hi hj hij => ?_, fun i hi => ?_, ?_, by simp; omega⟩
  · exact World.cell?_setCell_same _ _ _ (u := v) ((World.cell?_of_block (a := ⟨w.heap.size, 0, none⟩) hb3).trans h.cell)
  · rw [World.frozen?_setCell]; exact (World.frozen?_of_block (a := ⟨w.heap.size, 0, none⟩) hb3).trans h.froz
  · have e : rowsC (fun i => if i = k then wr.heap.size else T i) (k + 1) = rowsC T k ++ rowC wr.heap.size := by
      rw [rowsC_succ, rowsC_congr (T := fun i => if i = k then wr.heap.size else T i) (T' := T) (fun i hi => if_neg (by omega))]
      simp
    rw [e]
    refine row_of_heap hown (fun g hg2 => Go.heap_setCell_other _ _ _ _ (by have := (hown.lt g hg2).1; show g ≠ w.heap.size; omega))
  · by_cases e : i = k
    · simp only [e, if_true]
      exact hT.of_block (by simp; omega) hnew
    · simp only [e, if_false]
      have hi2 : i < k := by omega
      exact (h.tlb i hi2).of_block (by simp; omega) (heq _ (h.tlb i hi2).lt (hvt i hi2) (by have := h.off i hi2; omega))
  · by_cases e : i = k
    · simp only [e, if_true]
      exact ⟨cs, hnew.trans (World.alloc_heap_new _ _)⟩
    · simp only [e, if_false]
      have hi2 : i < k := by omega
      obtain ⟨c, hc⟩ := h.ty i hi2
      exact ⟨c, (heq _ (h.tlb i hi2).lt (hvt i hi2) (by have := h.off i hi2; omega)).trans hc⟩
  · by_cases e : i = k
    · by_cases e2 : j = k
      · omega
      · simp only [e, e2, if_true, if_false]
        have := (h.tlb j (by omega)).lt
        omega
    · by_cases e2 : j = k
      · simp only [e, e2, if_true, if_false]
        have := (h.tlb i (by omega)).lt
        omega
      · simp only [e, e2, if_false]
        exact h.dist i j (by omega) (by omega) hij
  · by_cases e : i = k
    · simp only [e, if_true]; exact hlt
    · simp only [e, if_false]; exact h.off i (by omega)
  · have hb : Below w.heap.size wr w3 := ⟨hg.os, hg.tape, hg.output, by omega, fun j hj => by
      rw [hg.block j (by simp; omega) (fun e => by have := (hrl _ e.symm).1; omega), Below.heap_alloc _ _ _ (by simp; omega), Below.heap_alloc _ _ _ (by omega)]⟩
    exact h.bel.trans (hb.setCell (p := ⟨w.heap.size, 0, none⟩) (Nat.le_refl _) _)
theorem hold_hd {w wr w3 : World} {k : Nat} {T : Nat → Nat} {v : Value} {o o2 : Obj} (h : RPart w wr k T v) (hg : ((wr.alloc o).alloc o2).grownBy w3 v.ownBlock) : w3.cell? ⟨w.heap.size, 0, none⟩ = wr.cell? ⟨w.heap.size, 0, none⟩ ∧ w3.frozen? ⟨w.heap.size, 0, none⟩ = wr.frozen? ⟨w.heap.size, 0, none⟩ := by
  have hlt := h.lt
  have hrl := h.row.lt
  have hb3 : w3.heap[w.heap.size]? = wr.heap[w.heap.size]? := by
    rw [hg.block _ (by simp; omega) (fun e => by have := (hrl _ e.symm).1; omega), Below.heap_alloc _ _ _ (by simp; omega), Below.heap_alloc _ _ _ hlt]
  exact ⟨World.cell?_of_block (a := ⟨w.heap.size, 0, none⟩) hb3, World.frozen?_of_block (a := ⟨w.heap.size, 0, none⟩) hb3⟩
theorem RPart.done {w wr : World} {n : Nat} {T : Nat → Nat} {v : Value} (h : RPart w wr n T v) (h1 : 1 ≤ n) (h3 : n ≤ 3) : ∃ g c, v = .slice (some ⟨g, 0, none⟩) n c ∧ RCor wr w.heap.size g n c (fun _ => -1) (fun _ => 0) T (fun _ => S0) ∧ w.heap.size ≤ g := by
  have hcs := fun g hg => h.row.cells (g := g) hg
  have hrl := h.row.lt
  have hvt : ∀ i, i < n → v.ownBlock ≠ some (T i) := fun i hi e => by
    obtain ⟨c1, e1⟩ := row_ty h.row e
    obtain ⟨c2, e2⟩ := h.ty i hi
    rw [e1] at e2
    simp at e2
  rcases h.row.2 with ⟨_, h0⟩ | ⟨g, cap, cur, e, q1, q2, q3, q4, q5, q6⟩
  · omega
  · subst e
    have hg := hrl g rfl
    have hc : ∀ i j u, i < n → j < 3 → (rowC (T i))[j]? = some u → wr.cell? ⟨g, i * 3 + j, none⟩ = some u := fun i j u hi hj hu => by
      have := hcs g rfl (i * 3 + j) u ((rowsC_at T n i j hi hj).trans hu)
      rwa [Addr.add_mid, Nat.zero_add] at this
    refine ⟨g, cap, rfl, ⟨h.cell, fun i hi => ⟨hc i 0 _ hi (by decide) rfl, hc i 1 _ hi (by decide) rfl, hc i 2 _ hi (by decide) rfl⟩, fun j => Go.frozen_of_row _ _ _ _ _ q2, h.tlb, h.dist, fun i hi => ⟨by have := h.off i hi; omega, fun e => hvt i hi (by rw [e]; rfl)⟩, by omega, h.lt, hg.2, h1, h3, q3⟩, by omega⟩
theorem row_news (wr : World) (o : Obj) (t : Nat) (T : TypeId) : ∀ j u, (rowC t)[j]? = some u → ((wr.alloc o).alloc (.cells #[.int .i64 (-1), .int .i64 0, .pointer (some ⟨t, 0, none⟩)] T)).cell? ((⟨wr.heap.size + 1, 0, none⟩ : Addr).add j) = some u := by
  intro j u hj
  have h2 : ((wr.alloc o).alloc (.cells #[.int .i64 (-1), .int .i64 0, .pointer (some ⟨t, 0, none⟩)] T)).heap[wr.heap.size + 1]? = some (.cells #[.int .i64 (-1), .int .i64 0, .pointer (some ⟨t, 0, none⟩)] T (0, 0)) := by
    have := World.alloc_heap_new (wr.alloc o) (.cells #[.int .i64 (-1), .int .i64 0, .pointer (some ⟨t, 0, none⟩)] T)
    rwa [show (wr.alloc o).heap.size = wr.heap.size + 1 by simp] at this
  rw [Addr.add_mid, Nat.zero_add, cellQ h2]
  simpa [rowC] using hj
set_option maxRecDepth 100000 in
set_option maxHeartbeats 4000000 in
theorem rnew_cores (w : World) (n : Nat) (h1 : 1 ≤ n) (h3 : n ≤ 3) :
    Calls Try.prog 24 #[.int .i64 n] w fun e w' => ∃ g c T, e = .returned (.tuple #[.pointer (some ⟨w.heap.size, 0, none⟩), .int .i64 0]) ∧ RCor w' w.heap.size g n c (fun _ => -1) (fun _ => 0) T (fun _ => S0) ∧ w.heap.size ≤ g ∧ (∀ i, i < n → w.heap.size ≤ T i) ∧ Below w.heap.size w w' := by
  obtain ⟨i0, hi, hz0, hz1, hz2⟩ := info_parts infoRK
  have HI := Lib.hid hi
  clear hi
  have n1 : ¬ (n : Int) < 1 := by omega
  have n3 : ¬ (n : Int) > 3 := by omega
  have hz := @refAt_new
  have HZ := Lib.hid hz
  clear hz
  go_enter Try.func24, Try.ntmps24
  go_wp2
  go_loopw [5] (fun i wr => ∃ (k : Nat) (T : Nat → Nat) (v : Value), k ≤ n ∧ i = .int .i64 k ∧ Hid (RPart w wr k T v)) (fun i _ => n - (intOf i).toNat)
  case atStart => exact ⟨0, fun _ => 0, .slice none 0 0, Nat.zero_le _, rfl, Lib.hid ⟨by simp [go_sem], by unfold World.frozen?; rw [World.alloc_heap_new]; rfl, World.ownsRow_nil _ _ _ _, fun i hi => by omega, fun i hi => by omega, fun i j hi => by omega, fun i hi => by omega, bal (Below.refl _ _) _, by simp⟩⟩
  case round =>
    obtain ⟨k, T, v, hk, rfl, HP⟩ := hrel
    by_cases hlt : k < n
    · have hltI : (k : Int) < n := by omega
      have c0 := HP.out.cell
      have f0 := HP.out.froz
      have hsz := HP.out.lt
      have hrow := HP.out.row
      obtain ⟨va, vn, vc, rfl⟩ : ∃ a k c, v = .slice a k c := by
        rcases hrow.2 with ⟨rfl, _⟩ | ⟨g, cap, cur, rfl, _⟩
        · exact ⟨_, _, _, rfl⟩
        · exact ⟨_, _, _, rfl⟩
      have HROW := Lib.hid hrow
      clear hrow
      go_wp2_with (at_builtin; refine wpList_append_own _ rfl _ _ 74 rfl (w.heap.size + 1) 73 i0 (.agg #[.int .i64 0, .int .i64 0, .pointer none]) 3 24 Try.underlying74 HI.out hz0 hz1 hz2 rfl (by decide) _ k _ rfl ((HROW.out.alloc _).alloc _) ⟨wr.heap.size + 1, 0, none⟩ 1 1 (rowC wr.heap.size) (by first | rfl | simp) rfl (row_news wr _ _ _) (by simp [rowC, Value.oneCell']) (by unfold maxLen; omega) (by omega) (by simp; omega) ?_; intro v' w3 hown hgrow _; have HST := Lib.hid (RPart.step HP.out (HZ.out wr) hown hgrow); have HG := Lib.hid hgrow; obtain ⟨da, dn, dc, rfl⟩ : ∃ a k c, v' = .slice a k c := (by rcases hown.2 with ⟨rfl, _⟩ | ⟨g, cap, cur, rfl, _⟩ <;> exact ⟨_, _, _, rfl⟩); have c3 : w3.cell? ⟨w.heap.size, 0, none⟩ = some (.slice va vn vc) := (hold_hd HP.out hgrow).1.trans c0; have f3 : w3.frozen? ⟨w.heap.size, 0, none⟩ = false := (hold_hd HP.out hgrow).2.trans f0; clear hown hgrow)
      go_roundw
      case rel => exact ⟨k + 1, _, _, by omega, by go_num, HST⟩
      case measure => simp [intOf]; omega
    · obtain rfl : k = n := by omega
      obtain ⟨g, c, e, hR, hg⟩ := HP.out.done h1 h3
      have HR := Lib.hid hR
      clear hR
      go_wp2
      go_ret2
      exact ⟨g, c, T, rfl, HR.out, hg, fun i hi => Nat.le_of_lt (HP.out.off i hi), HP.out.bel⟩
end
/- chapter 7's own answer: Translate. -/
section
set_option linter.unusedVariables false
set_option linter.unusedSimpArgs false
open Go.ChangeShapes Go.WideShapes Go.ChangeAt Go.RowKit Go.Shelf
theorem RCor.far {w : World} {b g n c d j : Nat} {R Q : Nat → Int} {T : Nat → Nat} {S : Nat → TS} (h : RCor w b g n c R Q T S) (h1 : b ≠ d) (h2 : g ≠ d) (h3 : ∀ i, i < n → T i ≠ d) (v : Value) : RCor (w.setCell ⟨d, j, none⟩ v) b g n c R Q T S :=
  h.of_blocks (by simp) (Go.heap_setCell_other _ _ _ _ h1) (Go.heap_setCell_other _ _ _ _ h2) fun i hi => Go.heap_setCell_other _ _ _ _ (h3 i hi)
theorem TlbOnly.out {b D j : Nat} {w d : World} (h : TlbOnly b w d) (hD : w.heap.size ≤ D) (v : Value) : TlbOnly b w (d.setCell ⟨D, j, none⟩ v) :=
  ⟨h.os, h.tape, h.output, by simpa using h.size, fun k hk hn => (Go.heap_setCell_other _ _ _ _ (by show k ≠ D; omega)).trans (h.block k hk hn)⟩
/-- Behind a turn of a cache and five writes to a block that is newer. -/
theorem cor_end {w w7 w8 : World} {b g n c k Z : Nat} {R Q : Nat → Int} {T : Nat → Nat} {S : Nat → TS} {s : TS} (h : RCor w b g n c R Q T S) (hk : k < n) (hb : Below w.heap.size w w7) (ht : TRef w8 (T k) s) (ho : TlbOnly (T k) w7 w8) (hZ : w.heap.size ≤ Z) (v0 v1 v2 v3 v4 : Value) :
    RCor (((((w8.setCell ⟨Z, 0, none⟩ v0).setCell ⟨Z, 1, none⟩ v1).setCell ⟨Z, 2, none⟩ v2).setCell ⟨Z, 3, none⟩ v3).setCell ⟨Z, 4, none⟩ v4) b g n c R Q T (setT S k s) ∧
    TlbOnly (T k) w (((((w8.setCell ⟨Z, 0, none⟩ v0).setCell ⟨Z, 1, none⟩ v1).setCell ⟨Z, 2, none⟩ v2).setCell ⟨Z, 3, none⟩ v3).setCell ⟨Z, 4, none⟩ v4) := by
  have h8 := (h.call hb).put hk ht ho
  have n1 : b ≠ Z := by have := h.lb; omega
  have n2 : g ≠ Z := by have := h.lg; omega
  have n3 : ∀ i, i < n → T i ≠ Z := fun i hi => by have := (h.tlb i hi).lt; omega
  exact ⟨((((h8.far n1 n2 n3 v0).far n1 n2 n3 v1).far n1 n2 n3 v2).far n1 n2 n3 v3).far n1 n2 n3 v4, ((((((TlbOnly.of_below hb).trans ho).out hZ v0).out hZ v1).out hZ v2).out hZ v3).out hZ v4⟩
theorem z_new (w : World) : TrAt (w.alloc (.cells #[.int .i64 0, .int .i64 0, .int .i64 0, .bool false, .bool false] 104)) w.heap.size zT := tr_new w zT
theorem row3 (w : World) (r q : Int) (t : Nat) (T : TypeId) : (w.alloc (.cells #[.int .i64 r, .int .i64 q, .pointer (some ⟨t, 0, none⟩)] T)).cell? ⟨w.heap.size, 0, none⟩ = some (.int .i64 r) ∧ (w.alloc (.cells #[.int .i64 r, .int .i64 q, .pointer (some ⟨t, 0, none⟩)] T)).cell? ⟨w.heap.size, 1, none⟩ = some (.int .i64 q) ∧ (w.alloc (.cells #[.int .i64 r, .int .i64 q, .pointer (some ⟨t, 0, none⟩)] T)).cell? ⟨w.heap.size, 2, none⟩ = some (.pointer (some ⟨t, 0, none⟩)) := by
  refine ⟨?_, ?_, ?_⟩ <;> simp [go_sem]
theorem walkV_leaf {n : Nat} {m : Nat → Int} {r p : Int} (h : walkC n m r p = 0) : walkV n m r p = entV true true ((leafW m (atF n m r p 3).1).testBit 2) ((leafW m (atF n m r p 3).1).testBit 3) ((leafW m (atF n m r p 3).1 / 256 % 64 : Nat) : Int) := by
  unfold walkV; rw [if_pos h]; unfold entW; rw [(walkC_leaf h).1]
theorem walkV_no {n : Nat} {m : Nat → Int} {r p : Int} (h : walkC n m r p ≠ 0) : walkV n m r p = entV false false false false 0 := by
  unfold walkV; rw [if_neg h]
set_option maxRecDepth 100000 in
set_option maxHeartbeats 4000000 in
theorem rtrans_ok (w : World) (b g n c k : Nat) (R Q : Nat → Int) (T : Nat → Nat) (S : Nat → TS) (mb mg mn mc : Nat) (m : Nat → Int) (p : Int) (h : RCor w b g n c R Q T S) (hS : Good (S k)) (hk : k < n) (hM : RefAt w mb mg mn mc m) (hr : R k ≠ -1) (hq : RegOk (R k) (Q k)) (p0 : 0 ≤ p) (p1 : p < 512) :
    Calls Try.prog 44 #[.pointer (some ⟨b, 0, none⟩), .int .i64 k, .pointer (some ⟨mb, 0, none⟩), .int .i64 p] w fun e w' => e = .returned (.tuple #[trX (transF mn m (R k) (Q k) p (S k)).1.1, .bool (transF mn m (R k) (Q k) p (S k)).1.2.1, .int .i64 (transF mn m (R k) (Q k) p (S k)).1.2.2]) ∧ RCor w' b g n c R Q T (setT S k (transF mn m (R k) (Q k) p (S k)).2) ∧ TlbOnly (T k) w w' := by
  have H := Lib.hid h
  have HM := Lib.hid hM
  have HS := Lib.hid hS
  have HB := Lib.hid (has_of hk)
  obtain ⟨c0, c1, c2⟩ := h.row k hk
  have hd := h.hd
  have hbl := h.lb
  have hg := h.lg
  have n3 := h.n3
  have hk1 : (k : Int) < n := by omega
  have hr1 : (R k == -1) = false := beq_eq_false_iff_ne.2 hr
  have p2 : ¬ p < 0 := by omega
  have p3 : ¬ p ≥ 512 := by omega
  have hTl := (h.tlb k hk).lt
  have HQ := Lib.hid (hq.pos hr)
  have HR := Lib.hid hr
  clear h hM hS hr hq
  obtain ⟨⟨x, hit⟩, hf⟩ : ∃ z, findS (S k) (Q k) p = z := ⟨_, rfl⟩
  have HF := Lib.hid hf
  clear hf
  generalize hrk : R k = rk at *
  generalize hqk : Q k = qk at *
  generalize htk : T k = tk at *
  have HRK := Lib.hid hrk
  have HQK := Lib.hid hqk
  have HTK := Lib.hid htk
  clear hrk hqk htk
  obtain ⟨⟨⟨tx, th, tc⟩, ts⟩, htr⟩ : ∃ z, transF mn m rk qk p (S k) = z := ⟨_, rfl⟩
  rw [htr]
  have HTR := Lib.hid htr
  clear htr
  go_enter Try.func44, Try.ntmps44
  go_upto_region 6 with (go_at_call 27; refine (rhas_any _ b g n c k R Q T S (H.out.call (bal (Below.refl _ _) _))).mono ?_; rw [HB.out]; rintro e w1 ⟨rfl, rfl⟩)
  have hZT : w.heap.size ≠ tk := by omega
  obtain ⟨w2, hw2⟩ : ∃ z, z = (w.alloc (.cells #[.int .i64 0, .int .i64 0, .int .i64 0, .bool false, .bool false] 104)).alloc (.cells #[.int .i64 rk, .int .i64 qk, .pointer (some ⟨tk, 0, none⟩)] 73) := ⟨_, rfl⟩
  rw [← hw2]
  have hb2 : Below w.heap.size w w2 := by rw [hw2]; exact bal (bal (Below.refl _ _) _) _
  have hx := row3 (w.alloc (.cells #[.int .i64 0, .int .i64 0, .int .i64 0, .bool false, .bool false] 104)) rk qk tk 73
  rw [← hw2, show (w.alloc (.cells #[.int .i64 0, .int .i64 0, .int .i64 0, .bool false, .bool false] 104)).heap.size = w.heap.size + 1 by simp] at hx
  obtain ⟨x0, x1, x2⟩ := hx
  have hz : TrAt w2 w.heap.size zT := by rw [hw2]; exact (z_new w).keep (by simp) (bal (Below.refl _ _) _)
  have hfz : ∀ j, w2.frozen? ⟨w.heap.size, j, none⟩ = false := fun j => by
    rw [hw2]; exact ((bal (Below.refl _ _) _).frozen (p := ⟨w.heap.size, j, none⟩) (by simp)).trans (frozE w _ _ j)
  have hs2 : w.heap.size + 1 < w2.heap.size := by rw [hw2]; simp
  have HB2 := Lib.hid hb2
  have HT2 : Hid (TRef w2 tk (S k)) := Lib.hid (by rw [← HTK.out]; exact (H.out.tlb k hk).call hb2)
  clear hw2 hb2 c0 c1 c2
  go_upto_region 7 with (go_at_call 52; refine (refFind_any _ tk (S k) qk p HT2.out HS.out).mono ?_; rw [HF.out]; rintro e w3 ⟨rfl, hb3⟩)
  obtain ⟨w4, hw4⟩ : ∃ z, z = w3.alloc (.cells #[.int .i64 x.s, .int .i64 x.p, .int .i64 x.f, .bool x.r, .bool x.w] 104) := ⟨_, rfl⟩
  rw [← hw4]
  have hb4 : Below w2.heap.size w2 w4 := by rw [hw4]; exact bal hb3 _
  obtain ⟨y0, y1, y2, y3, y4⟩ : TrAt w4 w3.heap.size x := by rw [hw4]; exact tr_new w3 x
  have fy : ∀ j, w4.frozen? ⟨w3.heap.size, j, none⟩ = false := fun j => by rw [hw4]; exact frozE w3 _ _ j
  have hq4 : w3.heap.size < w4.heap.size := by rw [hw4]; simp
  have hq3 : w2.heap.size ≤ w3.heap.size := hb3.size
  have hs1 : w.heap.size < w2.heap.size := by omega
  obtain ⟨z0, z1, z2, z3, z4⟩ := hz.keep hs1 hb4
  have hz4 : ∀ j, w4.frozen? ⟨w.heap.size, j, none⟩ = false := fun j => (hb4.frozen (p := ⟨w.heap.size, j, none⟩) hs1).trans (hfz j)
  have u0 := (hb4.cell (p := ⟨w.heap.size + 1, 0, none⟩) hs2).trans x0
  have u1 := (hb4.cell (p := ⟨w.heap.size + 1, 1, none⟩) hs2).trans x1
  have u2 := (hb4.cell (p := ⟨w.heap.size + 1, 2, none⟩) hs2).trans x2
  have HB4 := Lib.hid (HB2.out.trans (hb4.mono HB2.out.size))
  have HT4 := Lib.hid (HT2.out.call hb4)
  have HM4 := Lib.hid (HM.out.call HB4.out)
  generalize w3.heap.size = q at *
  have n1 : w.heap.size ≠ q := by omega
  have hZq : w.heap.size ≤ q := by omega
  have n2 : w.heap.size + 1 ≠ q := by omega
  have n3' : q ≠ tk := by omega
  have hZ4 : w.heap.size < w4.heap.size := by omega
  have hX4 : w.heap.size + 1 < w4.heap.size := by omega
  clear hb3 hw4 hb4 x0 x1 x2 hz hfz hs2 hq3 HT2 hs1
  have fz0 := hz4 0
  have fz1 := hz4 1
  have fz2 := hz4 2
  have fz3 := hz4 3
  have fz4 := hz4 4
  have fy0 := fy 0
  have fy1 := fy 1
  have fy2 := fy 2
  have fy3 := fy 3
  have fy4 := fy 4
  clear hz4 fy
  cases hit with
  | true =>
    have htr : transF mn m rk qk p (S k) = ((x, true, 0), S k) := by unfold transF; rw [HF.out]; rfl
    rw [HTR.out] at htr
    simp only [Prod.mk.injEq] at htr
    obtain ⟨⟨rfl, rfl, rfl⟩, rfl⟩ := htr
    go_wp2
    have hend := cor_end H.out hk HB4.out (by rw [HTK.out]; exact HT4.out) (TlbOnly.of_below (Below.refl _ _)) (Nat.le_refl _) (.int .i64 tx.s) (.int .i64 tx.p) (.int .i64 tx.f) (.bool tx.r) (.bool tx.w)
    rw [HTK.out] at hend
    exact bodyPost_ret (v := .tuple #[trX tx, .bool true, .int .i64 0]) (by simp [results, Try.results44, go_sem, z0, z1, z2, z3, z4]) rfl ⟨rfl, hend⟩
  | false =>
    by_cases hw : walkC mn m rk p = 0
    · have htr : transF mn m rk qk p (S k) = ((leafT mn m rk qk p, false, 0), fillS (S k) (leafT mn m rk qk p)) := by unfold transF; rw [HF.out, if_neg (by simp), if_pos hw]
      rw [HTR.out] at htr
      simp only [Prod.mk.injEq] at htr
      obtain ⟨⟨htx, rfl, rfl⟩, hts⟩ := htr
      have HWV := Lib.hid (walkV_leaf hw)
      have HW := Lib.hid hw
      obtain ⟨fr, hfr⟩ : ∃ z, ((leafW m (atF mn m rk p 3).1 / 256 % 64 : Nat) : Int) = z := ⟨_, rfl⟩
      obtain ⟨rd, hrd⟩ : ∃ z, (leafW m (atF mn m rk p 3).1).testBit 2 = z := ⟨_, rfl⟩
      obtain ⟨wt, hwt⟩ : ∃ z, (leafW m (atF mn m rk p 3).1).testBit 3 = z := ⟨_, rfl⟩
      have hlf : leafT mn m rk qk p = ⟨qk, p, fr, rd, wt⟩ := by unfold leafT; rw [hfr, hrd, hwt]
      rw [hfr, hrd, hwt] at HWV
      rw [hlf] at htx hts
      have hmy : mayX ⟨qk, p, fr, rd, wt⟩ = true := by rw [← hlf]; exact may_leaf HM.out.n64 hw HQ.out.2.2 p0 p1
      subst htx
      subst hts
      have HMY := Lib.hid hmy
      clear hmy
      clear hw hfr hrd hwt hlf
      go_upto_region 10 with (go_at_call 53; refine (rwalk_gen _ mb mg mn mc m rk p HM4.out).mono ?_; rw [HWV.out, HW.out]; rintro e w5 ⟨rfl, hb5⟩)
      obtain ⟨w6, hw6⟩ : ∃ z, z = w5.alloc (.cells #[.bool true, .bool true, .bool rd, .bool wt, .int .i64 fr] 137) := ⟨_, rfl⟩
      rw [← hw6]
      have hb6 : Below w4.heap.size w4 w6 := by rw [hw6]; exact bal hb5 _
      have e2 : w6.cell? ⟨w5.heap.size, 2, none⟩ = some (.bool rd) := by rw [hw6, cellE]; rfl
      have e3 : w6.cell? ⟨w5.heap.size, 3, none⟩ = some (.bool wt) := by rw [hw6, cellE]; rfl
      have e4 : w6.cell? ⟨w5.heap.size, 4, none⟩ = some (.int .i64 fr) := by rw [hw6, cellE]; rfl
      have he5 : w4.heap.size ≤ w5.heap.size := hb5.size
      have he6 : w5.heap.size < w6.heap.size := by rw [hw6]; simp
      have a0 := (hb6.cell (p := ⟨q, 0, none⟩) hq4).trans y0
      have a1 := (hb6.cell (p := ⟨q, 1, none⟩) hq4).trans y1
      have a2 := (hb6.cell (p := ⟨q, 2, none⟩) hq4).trans y2
      have a3 := (hb6.cell (p := ⟨q, 3, none⟩) hq4).trans y3
      have a4 := (hb6.cell (p := ⟨q, 4, none⟩) hq4).trans y4
      have b0 := (hb6.frozen (p := ⟨q, 0, none⟩) hq4).trans fy0
      have b1 := (hb6.frozen (p := ⟨q, 1, none⟩) hq4).trans fy1
      have b2 := (hb6.frozen (p := ⟨q, 2, none⟩) hq4).trans fy2
      have b3 := (hb6.frozen (p := ⟨q, 3, none⟩) hq4).trans fy3
      have b4 := (hb6.frozen (p := ⟨q, 4, none⟩) hq4).trans fy4
      have v1 := (hb6.cell (p := ⟨w.heap.size + 1, 1, none⟩) hX4).trans u1
      have v2 := (hb6.cell (p := ⟨w.heap.size + 1, 2, none⟩) hX4).trans u2
      have HZ6 := Lib.hid (show TrAt w6 w.heap.size zT from TrAt.keep ⟨z0, z1, z2, z3, z4⟩ hZ4 hb6)
      have HF6 : Hid (∀ j, j < 5 → w6.frozen? ⟨w.heap.size, j, none⟩ = false) := Lib.hid (fun j hj => (hb6.frozen (p := ⟨w.heap.size, j, none⟩) hZ4).trans (by obtain rfl | rfl | rfl | rfl | rfl : j = 0 ∨ j = 1 ∨ j = 2 ∨ j = 3 ∨ j = 4 := (by omega) <;> assumption))
      have HB6 := Lib.hid (HB4.out.trans (hb6.mono HB4.out.size))
      have HT6 := Lib.hid (HT4.out.call hb6)
      generalize w5.heap.size = eB at *
      have m1 : eB ≠ q := by omega
      have m2 : q ≠ eB := by omega
      have hq6 : q < w6.heap.size := by omega
      have hX6 : w.heap.size + 1 < w6.heap.size := by omega
      have hZ6 : w.heap.size < w6.heap.size := by omega
      have hZ0 := HB4.out.size
      clear hb5 hw6 hb6 y0 y1 y2 y3 y4 fy0 fy1 fy2 fy3 fy4 z0 z1 z2 z3 z4 fz0 fz1 fz2 fz3 fz4 u0 u1 u2 hq4 hX4 hZ4 HM4
      go_upto_region 13 with (fail)
      obtain ⟨w7, hw7⟩ : ∃ z, z = ((((w6.setCell ⟨q, 0, none⟩ (.int .i64 qk)).setCell ⟨q, 1, none⟩ (.int .i64 p)).setCell ⟨q, 2, none⟩ (.int .i64 fr)).setCell ⟨q, 3, none⟩ (.bool rd)).setCell ⟨q, 4, none⟩ (.bool wt) := ⟨_, rfl⟩
      rw [← hw7]
      have hk7 : ∀ j, j ≠ q → w7.heap[j]? = w6.heap[j]? := fun j hj => by
        rw [hw7]
        rw [Go.heap_setCell_other _ _ _ _ hj, Go.heap_setCell_other _ _ _ _ hj, Go.heap_setCell_other _ _ _ _ hj, Go.heap_setCell_other _ _ _ _ hj, Go.heap_setCell_other _ _ _ _ hj]
      have hs7 : w7.heap.size = w6.heap.size := by rw [hw7]; simp
      obtain ⟨t0, t1, t2, t3, t4⟩ : TrAt w7 q ⟨qk, p, fr, rd, wt⟩ := by rw [hw7]; exact tr_set a0 a1 a2 a3 a4 ⟨qk, p, fr, rd, wt⟩
      have HB7 : Hid (Below w.heap.size w w7) := Lib.hid (by rw [hw7]; exact below_set5 HB6.out (by omega) (.int .i64 qk) (.int .i64 p) (.int .i64 fr) (.bool rd) (.bool wt))
      have HT7 : Hid (TRef w7 tk (S k)) := Lib.hid (HT6.out.of_block (Nat.le_of_eq hs7.symm) (hk7 tk (Ne.symm n3')))
      have x2 := (cell_of_block (j := 2) (hk7 (w.heap.size + 1) n2)).trans v2
      obtain ⟨z0, z1, z2, z3, z4⟩ := HZ6.out
      have y0 := (cell_of_block (j := 0) (hk7 w.heap.size n1)).trans z0
      have y1 := (cell_of_block (j := 1) (hk7 w.heap.size n1)).trans z1
      have y2 := (cell_of_block (j := 2) (hk7 w.heap.size n1)).trans z2
      have y3 := (cell_of_block (j := 3) (hk7 w.heap.size n1)).trans z3
      have y4 := (cell_of_block (j := 4) (hk7 w.heap.size n1)).trans z4
      have HF7 : Hid (∀ j, j < 5 → w7.frozen? ⟨w.heap.size, j, none⟩ = false) := Lib.hid (fun j hj => (frozen_of_block (j := j) (hk7 w.heap.size n1)).trans (HF6.out j hj))
      have hq7 : q < w7.heap.size := by omega
      have hZ7 : w.heap.size < w7.heap.size := by omega
      clear hw7 hk7 hs7 a0 a1 a2 a3 a4 b0 b1 b2 b3 b4 v1 v2 e2 e3 e4 he5 he6 z0 z1 z2 z3 z4 hq6 hX6 hZ6
      go_upto_region 14 with (go_at_call 54; refine (refFill_any _ tk (S k) ⟨qk, p, fr, rd, wt⟩ HT7.out (Good.ok HS.out)).mono ?_; rintro e w8 ⟨rfl, ht8, ho8⟩)
      have hZT : w.heap.size ≠ tk := by omega
      have s0 := ho8.cell hq7 n3' t0
      have s1 := ho8.cell hq7 n3' t1
      have s2 := ho8.cell hq7 n3' t2
      have s3 := ho8.cell hq7 n3' t3
      have s4 := ho8.cell hq7 n3' t4
      have r0 := ho8.cell hZ7 hZT y0
      have r1 := ho8.cell hZ7 hZT y1
      have r2 := ho8.cell hZ7 hZT y2
      have r3 := ho8.cell hZ7 hZT y3
      have r4 := ho8.cell hZ7 hZT y4
      have hfz := fun j (hj : j < 5) => (frozen_of_block (j := j) (ho8.block w.heap.size hZ7 hZT)).trans (HF7.out j hj)
      have f0 := hfz 0 (by decide)
      have f1 := hfz 1 (by decide)
      have f2 := hfz 2 (by decide)
      have f3 := hfz 3 (by decide)
      have f4 := hfz 4 (by decide)
      have hend := cor_end H.out hk HB7.out (by rw [HTK.out]; exact ht8) (by rw [HTK.out]; exact ho8) (Nat.le_refl _) (.int .i64 qk) (.int .i64 p) (.int .i64 fr) (.bool rd) (.bool wt)
      rw [HTK.out] at hend
      have HE := Lib.hid hend
      clear ht8 ho8 hend hfz t0 t1 t2 t3 t4 y0 y1 y2 y3 y4
      go_wp2
      exact bodyPost_ret (v := .tuple #[trX ⟨qk, p, fr, rd, wt⟩, .bool false, .int .i64 0]) (by simp [results, Try.results44, go_sem, r0, r1, r2, r3, r4]) rfl ⟨rfl, HE.out⟩
    · have htr : transF mn m rk qk p (S k) = ((zT, false, walkC mn m rk p), S k) := by unfold transF; rw [HF.out, if_neg (by simp), if_neg hw]
      rw [HTR.out] at htr
      simp only [Prod.mk.injEq] at htr
      obtain ⟨⟨rfl, rfl, htc⟩, rfl⟩ := htr
      have hcd : ¬ tc = 0 := by rw [htc]; exact hw
      have HTC := Lib.hid htc.symm
      have HWV := Lib.hid (walkV_no hw)
      clear htc hw
      go_upto_region 10 with (go_at_call 53; refine (rwalk_gen _ mb mg mn mc m rk p HM4.out).mono ?_; rw [HWV.out, HTC.out]; rintro e w5 ⟨rfl, hb5⟩)
      obtain ⟨w6, hw6⟩ : ∃ z, z = w5.alloc (.cells #[.bool false, .bool false, .bool false, .bool false, .int .i64 0] 137) := ⟨_, rfl⟩
      rw [← hw6]
      have hb6 : Below w4.heap.size w4 w6 := by rw [hw6]; exact bal hb5 _
      obtain ⟨r0, r1, r2, r3, r4⟩ : TrAt w6 w.heap.size zT := TrAt.keep ⟨z0, z1, z2, z3, z4⟩ hZ4 hb6
      have f0 := (hb6.frozen (p := ⟨w.heap.size, 0, none⟩) hZ4).trans fz0
      have f1 := (hb6.frozen (p := ⟨w.heap.size, 1, none⟩) hZ4).trans fz1
      have f2 := (hb6.frozen (p := ⟨w.heap.size, 2, none⟩) hZ4).trans fz2
      have f3 := (hb6.frozen (p := ⟨w.heap.size, 3, none⟩) hZ4).trans fz3
      have f4 := (hb6.frozen (p := ⟨w.heap.size, 4, none⟩) hZ4).trans fz4
      have hend := cor_end H.out hk (HB4.out.trans (hb6.mono HB4.out.size)) (by rw [HTK.out]; exact HT4.out.call hb6) (TlbOnly.of_below (Below.refl _ _)) (Nat.le_refl _) (.int .i64 0) (.int .i64 0) (.int .i64 0) (.bool false) (.bool false)
      rw [HTK.out] at hend
      have HE := Lib.hid hend
      clear hb6 hw6 hb5 hend z0 z1 z2 z3 z4 y0 y1 y2 y3 y4 u0 u1 u2
      go_wp2
      exact bodyPost_ret (v := .tuple #[trX zT, .bool false, .int .i64 tc]) (by simp [results, Try.results44, go_sem, r0, r1, r2, r3, r4]) rfl ⟨rfl, HE.out⟩
end
/- Calls of anything on both sides. -/
section
set_option linter.unusedVariables false
set_option linter.unusedSimpArgs false
open Go.ChangeShapes Go.WideShapes Go.ChangeAt Go.RowKit Go.Shelf
/-- The caches alone may be other. -/
structure OnlyT (n : Nat) (T : Nat → Nat) (a d : World) : Prop where
  os : d.os = a.os
  tape : d.tape = a.tape
  output : d.output = a.output
  size : a.heap.size ≤ d.heap.size
  block : ∀ k, k < a.heap.size → (∀ i, i < n → k ≠ T i) → d.heap[k]? = a.heap[k]?
theorem OnlyT.below {n : Nat} {T : Nat → Nat} {D : Nat} {a d : World} (h : OnlyT n T a d) (hs : D ≤ a.heap.size) (hT : ∀ i, i < n → D ≤ T i) : Below D a d := ⟨h.os, h.tape, h.output, h.size, fun k hk => h.block k (by omega) fun i hi => by have := hT i hi; omega⟩
/-- What Translate tells of a core and a page, and the caches behind it. -/
def transC (n : Nat) (R Q : Nat → Int) (S : Nat → TS) (mn : Nat) (m : Nat → Int) (k p : Int) : (TransX × Bool × Int) × (Nat → TS) :=
  if hasC n k = true ∧ 0 ≤ p ∧ p < 512 then (if R k.toNat = -1 then ((zT, false, 19), S) else ((transF mn m (R k.toNat) (Q k.toNat) p (S k.toNat)).1, setT S k.toNat (transF mn m (R k.toNat) (Q k.toNat) p (S k.toNat)).2)) else ((zT, false, 3), S)
theorem OnlyT.of_tlb {n k : Nat} {T : Nat → Nat} {a d : World} (h : TlbOnly (T k) a d) (hk : k < n) : OnlyT n T a d := ⟨h.os, h.tape, h.output, h.size, fun j hj hn => h.block j hj (hn k hk)⟩
theorem OnlyT.of_below {n : Nat} {T : Nat → Nat} {a d : World} (h : Below a.heap.size a d) : OnlyT n T a d := ⟨h.os, h.tape, h.output, h.size, fun j hj _ => h.block j hj⟩
theorem OnlyT.trans {n : Nat} {T : Nat → Nat} {a b d : World} (h : OnlyT n T a b) (k : OnlyT n T b d) : OnlyT n T a d := ⟨k.os.trans h.os, k.tape.trans h.tape, k.output.trans h.output, Nat.le_trans h.size k.size, fun j hj hn => (k.block j (Nat.lt_of_lt_of_le hj h.size) hn).trans (h.block j hj hn)⟩
theorem good_setT {n : Nat} {S : Nat → TS} {k : Nat} {s : TS} (h : ∀ i, i < n → Good (S i)) (hs : Good s) : ∀ i, i < n → Good (setT S k s i) := fun i hi => by
  unfold setT; split
  · exact hs
  · exact h i hi
theorem good_transC {n mn : Nat} {R Q : Nat → Int} {S : Nat → TS} {m : Nat → Int} {k p : Int} (h : ∀ i, i < n → Good (S i)) : ∀ i, i < n → Good ((transC n R Q S mn m k p).2 i) := by
  unfold transC
  split
  · rename_i hc
    split
    · exact h
    · obtain ⟨j, hj, e⟩ := has_nat hc.1
      subst e
      exact good_setT h (good_trans (h _ (by simpa using hj)))
  · exact h
set_option maxRecDepth 100000 in
set_option maxHeartbeats 1000000 in
theorem rtrans_bad (w : World) (b g n c : Nat) (R Q : Nat → Int) (T : Nat → Nat) (S : Nat → TS) (mb : Nat) (k p : Int) (h : RCor w b g n c R Q T S) (hc : ¬ (hasC n k = true ∧ 0 ≤ p ∧ p < 512)) :
    Calls Try.prog 44 #[.pointer (some ⟨b, 0, none⟩), .int .i64 k, .pointer (some ⟨mb, 0, none⟩), .int .i64 p] w fun e w' => e = .returned (.tuple #[trX zT, .bool false, .int .i64 3]) ∧ Below w.heap.size w w' := by
  have H := Lib.hid h
  clear h
  by_cases h1 : hasC n k = true
  · have H1 := Lib.hid h1
    by_cases p0 : p < 0
    · clear hc h1
      go_enter Try.func44, Try.ntmps44
      go_wp2_with (go_at_call 27; refine (rhas_any _ b g n c k R Q T S (H.out.call (bal (Below.refl _ _) _))).mono ?_; rw [H1.out]; rintro e w1 ⟨rfl, rfl⟩)
      exact bodyPost_ret (v := .tuple #[trX zT, .bool false, .int .i64 3]) (by simp [results, Try.results44, go_sem]) rfl ⟨rfl, bal (Below.refl _ _) _⟩
    · have p1 : p ≥ 512 := by
        by_cases q : p < 512
        · exact absurd ⟨h1, by omega, q⟩ hc
        · omega
      clear hc h1
      go_enter Try.func44, Try.ntmps44
      go_wp2_with (go_at_call 27; refine (rhas_any _ b g n c k R Q T S (H.out.call (bal (Below.refl _ _) _))).mono ?_; rw [H1.out]; rintro e w1 ⟨rfl, rfl⟩)
      exact bodyPost_ret (v := .tuple #[trX zT, .bool false, .int .i64 3]) (by simp [results, Try.results44, go_sem]) rfl ⟨rfl, bal (Below.refl _ _) _⟩
  · have H1 : Hid (hasC n k = false) := Lib.hid (by simpa using h1)
    clear hc h1
    go_enter Try.func44, Try.ntmps44
    go_wp2_with (go_at_call 27; refine (rhas_any _ b g n c k R Q T S (H.out.call (bal (Below.refl _ _) _))).mono ?_; rw [H1.out]; rintro e w1 ⟨rfl, rfl⟩)
    exact bodyPost_ret (v := .tuple #[trX zT, .bool false, .int .i64 3]) (by simp [results, Try.results44, go_sem]) rfl ⟨rfl, bal (Below.refl _ _) _⟩
set_option maxRecDepth 100000 in
set_option maxHeartbeats 1000000 in
theorem rtrans_idle (w : World) (b g n c k : Nat) (R Q : Nat → Int) (T : Nat → Nat) (S : Nat → TS) (mb : Nat) (p : Int) (h : RCor w b g n c R Q T S) (hk : k < n) (hr : R k = -1) (p0 : 0 ≤ p) (p1 : p < 512) :
    Calls Try.prog 44 #[.pointer (some ⟨b, 0, none⟩), .int .i64 k, .pointer (some ⟨mb, 0, none⟩), .int .i64 p] w fun e w' => e = .returned (.tuple #[trX zT, .bool false, .int .i64 19]) ∧ Below w.heap.size w w' := by
  have H := Lib.hid h
  have HB := Lib.hid (has_of hk)
  obtain ⟨c0, c1, c2⟩ := h.row k hk
  rw [hr] at c0
  have hd := h.hd
  have hbl := h.lb
  have hg := h.lg
  have n3 := h.n3
  have hk1 : (k : Int) < n := by omega
  have p2 : ¬ p < 0 := by omega
  have p3 : ¬ p ≥ 512 := by omega
  clear h hr
  go_enter Try.func44, Try.ntmps44
  go_upto_region 4 with (go_at_call 27; refine (rhas_any _ b g n c k R Q T S (H.out.call (bal (Below.refl _ _) _))).mono ?_; rw [HB.out]; rintro e w1 ⟨rfl, rfl⟩)
  obtain ⟨w2, hw2⟩ : ∃ z, z = (w.alloc (.cells #[.int .i64 0, .int .i64 0, .int .i64 0, .bool false, .bool false] 104)).alloc (.cells #[.int .i64 (-1), .int .i64 (Q k), .pointer (some ⟨T k, 0, none⟩)] 73) := ⟨_, rfl⟩
  rw [← hw2]
  have hb2 : Below w.heap.size w w2 := by rw [hw2]; exact bal (bal (Below.refl _ _) _) _
  have hx := row3 (w.alloc (.cells #[.int .i64 0, .int .i64 0, .int .i64 0, .bool false, .bool false] 104)) (-1) (Q k) (T k) 73
  rw [← hw2, show (w.alloc (.cells #[.int .i64 0, .int .i64 0, .int .i64 0, .bool false, .bool false] 104)).heap.size = w.heap.size + 1 by simp] at hx
  obtain ⟨x0, -, -⟩ := hx
  obtain ⟨z0, z1, z2, z3, z4⟩ : TrAt w2 w.heap.size zT := by rw [hw2]; exact (z_new w).keep (by simp) (bal (Below.refl _ _) _)
  have hfz : ∀ j, w2.frozen? ⟨w.heap.size, j, none⟩ = false := fun j => by
    rw [hw2]; exact ((bal (Below.refl _ _) _).frozen (p := ⟨w.heap.size, j, none⟩) (by simp)).trans (frozE w _ _ j)
  have f0 := hfz 0
  have f1 := hfz 1
  have f2 := hfz 2
  have f3 := hfz 3
  have f4 := hfz 4
  have HB2 := Lib.hid hb2
  clear hw2 hb2 hfz c0 c1 c2
  go_wp2
  exact bodyPost_ret (v := .tuple #[trX zT, .bool false, .int .i64 19]) (by simp [results, Try.results44, go_sem, z0, z1, z2, z3, z4]) rfl ⟨rfl, below_set5 HB2.out (Nat.le_refl _) _ _ _ _ _⟩
theorem rtrans_any (w : World) (b g n c : Nat) (R Q : Nat → Int) (T : Nat → Nat) (S : Nat → TS) (mb mg mn mc : Nat) (m : Nat → Int) (k p : Int) (h : RCor w b g n c R Q T S) (hG : ∀ i, i < n → Good (S i)) (hQ : ∀ i, i < n → RegOk (R i) (Q i)) (hM : RefAt w mb mg mn mc m) :
    Calls Try.prog 44 #[.pointer (some ⟨b, 0, none⟩), .int .i64 k, .pointer (some ⟨mb, 0, none⟩), .int .i64 p] w fun e w' => e = .returned (.tuple #[trX (transC n R Q S mn m k p).1.1, .bool (transC n R Q S mn m k p).1.2.1, .int .i64 (transC n R Q S mn m k p).1.2.2]) ∧ RCor w' b g n c R Q T (transC n R Q S mn m k p).2 ∧ OnlyT n T w w' := by
  unfold transC
  by_cases hc : hasC n k = true ∧ 0 ≤ p ∧ p < 512
  · rw [if_pos hc]
    obtain ⟨j, hj, rfl⟩ := has_nat hc.1
    simp only [Int.toNat_natCast]
    by_cases hr : R j = -1
    · rw [if_pos hr]
      exact (rtrans_idle w b g n c j R Q T S mb p h hj hr hc.2.1 hc.2.2).mono fun e w' ⟨h1, h2⟩ => ⟨h1, h.call h2, .of_below h2⟩
    · rw [if_neg hr]
      exact (rtrans_ok w b g n c j R Q T S mb mg mn mc m p h (hG j hj) hj hM hr (hQ j hj) hc.2.1 hc.2.2).mono fun e w' ⟨h1, h2, h3⟩ => ⟨h1, h2, .of_tlb h3 hj⟩
  · rw [if_neg hc]
    exact (rtrans_bad w b g n c R Q T S mb k p h hc).mono fun e w' ⟨h1, h2⟩ => ⟨h1, h.call h2, .of_below h2⟩
theorem bad_of {n : Nat} {k : Int} (h : ¬ hasC n k = true) : k < 0 ∨ (n : Int) ≤ k := by
  by_cases q : k < 0
  · exact .inl q
  · right
    by_cases r : k < n
    · exact absurd (decide_eq_true ⟨by omega, r⟩) h
    · omega
set_option maxRecDepth 100000 in
set_option maxHeartbeats 1000000 in
theorem cset_no (w : World) (b g n c : Nat) (k r s : Int) (R Q : Nat → Int) (T : Nat → Nat) (S : Nat → TS) (h : CoresAt w b g n c R Q T S) (h0 : setC n k r s ≠ 0) :
    Calls Try.prog 10 #[.pointer (some ⟨b, 0, none⟩), .int .i64 k, .int .i64 r, .int .i64 s] w fun e w' => e = .returned (.int .i64 (setC n k r s)) ∧ w = w' := by
  have H := Lib.hid h
  clear h
  unfold setC at *
  by_cases h1 : hasC n k = true
  · rw [if_pos h1] at h0 ⊢
    obtain ⟨j, hj, rfl⟩ := has_nat h1
    by_cases h2 : (r = -1 ∧ s = 0) ∨ (0 ≤ r ∧ r < 64 ∧ 1 ≤ s)
    · rw [if_pos h2] at h0; exact absurd rfl h0
    · rw [if_neg h2]
      have h3 : ¬ (0 ≤ r ∧ r < 64 ∧ 1 ≤ s) := fun q => h2 (.inr q)
      clear h0 h1
      by_cases q1 : r = -1
      · subst q1
        have q2 : ¬ s = 0 := fun e => h2 (.inl ⟨rfl, e⟩)
        have q3 : (s == 0) = false := beq_eq_false_iff_ne.2 q2
        clear h2 h3
        go_enter Try.func10, Try.ntmps10
        go_wp2_with (go_at_call 26; refine (get_ok _ b g n c j R Q T S H.out hj).mono ?_; rintro e w1 ⟨rfl, rfl⟩)
        go_ret
        exact ⟨rfl, rfl⟩
      · have q2 : (r == -1) = false := beq_eq_false_iff_ne.2 q1
        by_cases q3 : 0 ≤ r
        · by_cases q4 : r < 64
          · have q5 : ¬ 1 ≤ s := fun e => h3 ⟨q3, q4, e⟩
            have q6 : decide (1 ≤ s) = false := decide_eq_false q5
            clear h2 h3 q1
            go_enter Try.func10, Try.ntmps10
            go_wp2_with (go_at_call 26; refine (get_ok _ b g n c j R Q T S H.out hj).mono ?_; rintro e w1 ⟨rfl, rfl⟩)
            go_ret
            exact ⟨rfl, rfl⟩
          · clear h2 h3 q1
            go_enter Try.func10, Try.ntmps10
            go_wp2_with (go_at_call 26; refine (get_ok _ b g n c j R Q T S H.out hj).mono ?_; rintro e w1 ⟨rfl, rfl⟩)
            go_ret
            exact ⟨rfl, rfl⟩
        · clear h2 h3 q1
          go_enter Try.func10, Try.ntmps10
          go_wp2_with (go_at_call 26; refine (get_ok _ b g n c j R Q T S H.out hj).mono ?_; rintro e w1 ⟨rfl, rfl⟩)
          go_ret
          exact ⟨rfl, rfl⟩
  · rw [if_neg h1]
    have HK := Lib.hid (bad_of h1)
    clear h1 h0
    go_enter Try.func10, Try.ntmps10
    go_wp2_with (go_at_call 26; refine (get_bad _ b g n c k R Q T S H.out HK.out).mono ?_; rintro e w1 ⟨rfl, rfl⟩)
    go_ret
    exact ⟨rfl, rfl⟩
theorem cset_yes (w : World) (b g n c k : Nat) (r s : Int) (R Q : Nat → Int) (T : Nat → Nat) (S : Nat → TS) (h : CoresAt w b g n c R Q T S) (hk : k < n) (hr : (r = -1 ∧ s = 0) ∨ (0 ≤ r ∧ r < 64 ∧ 1 ≤ s)) :
    Calls Try.prog 10 #[.pointer (some ⟨b, 0, none⟩), .int .i64 k, .int .i64 r, .int .i64 s] w fun e w' => e = .returned (.int .i64 0) ∧ CoresAt w' b g n c (setR R k r) (setR Q k s) T S ∧ BlkOnly g w w' := by
  rcases hr with ⟨rfl, rfl⟩ | ⟨r0, r1, s1⟩
  · have H := Lib.hid h
    obtain ⟨c0, c1, -⟩ := h.row k hk
    have hf := h.free
    clear h
    go_enter Try.func10, Try.ntmps10
    go_wp2_with (go_at_call 26; refine (get_ok _ b g n c k R Q T S H.out hk).mono ?_; rintro e w1 ⟨rfl, rfl⟩)
    go_ret
    exact ⟨rfl, H.out.setRegs hk (.inl ⟨rfl, rfl⟩), ((BlkOnly.refl g w).set _ _).set _ _⟩
  · exact cset_some w b g n c k R Q T S r s h hk r0 r1 s1
set_option maxRecDepth 100000 in
set_option maxHeartbeats 1000000 in
theorem ctrans_bad (w : World) (b g n c : Nat) (R Q : Nat → Int) (T : Nat → Nat) (S : Nat → TS) (mb : Nat) (k p : Int) (h : CoresAt w b g n c R Q T S) (hc : ¬ (hasC n k = true ∧ 0 ≤ p ∧ p < 512)) :
    Calls Try.prog 42 #[.pointer (some ⟨b, 0, none⟩), .int .i64 k, .pointer (some ⟨mb, 0, none⟩), .int .i64 p] w fun e w' => e = .returned (.tuple #[trX zT, .bool false, .int .i64 3]) ∧ Below w.heap.size w w' := by
  have H := Lib.hid h
  clear h
  by_cases h1 : hasC n k = true
  · obtain ⟨j, hj, rfl⟩ := has_nat h1
    by_cases p0 : p < 0
    · clear hc h1
      go_enter Try.func42, Try.ntmps42
      go_wp2_with (go_at_call 26; refine (get_ok _ b g n c j R Q T S (H.out.call (bal (Below.refl _ _) _)) hj).mono ?_; rintro e w1 ⟨rfl, rfl⟩)
      exact bodyPost_ret (v := .tuple #[trX zT, .bool false, .int .i64 3]) (by simp [results, Try.results42, go_sem]) rfl ⟨rfl, bal (Below.refl _ _) _⟩
    · have p1 : p ≥ 512 := by
        by_cases q : p < 512
        · exact absurd ⟨h1, by omega, q⟩ hc
        · omega
      clear hc h1
      go_enter Try.func42, Try.ntmps42
      go_wp2_with (go_at_call 26; refine (get_ok _ b g n c j R Q T S (H.out.call (bal (Below.refl _ _) _)) hj).mono ?_; rintro e w1 ⟨rfl, rfl⟩)
      exact bodyPost_ret (v := .tuple #[trX zT, .bool false, .int .i64 3]) (by simp [results, Try.results42, go_sem]) rfl ⟨rfl, bal (Below.refl _ _) _⟩
  · have HK := Lib.hid (bad_of h1)
    clear hc h1
    go_enter Try.func42, Try.ntmps42
    go_wp2_with (go_at_call 26; refine (get_bad _ b g n c k R Q T S (H.out.call (bal (Below.refl _ _) _)) HK.out).mono ?_; rintro e w1 ⟨rfl, rfl⟩)
    exact bodyPost_ret (v := .tuple #[trX zT, .bool false, .int .i64 3]) (by simp [results, Try.results42, go_sem]) rfl ⟨rfl, bal (Below.refl _ _) _⟩
set_option maxRecDepth 100000 in
set_option maxHeartbeats 1000000 in
theorem ctrans_idle (w : World) (b g n c k : Nat) (R Q : Nat → Int) (T : Nat → Nat) (S : Nat → TS) (mb : Nat) (p : Int) (h : CoresAt w b g n c R Q T S) (hk : k < n) (hr : R k = -1) (p0 : 0 ≤ p) (p1 : p < 512) :
    Calls Try.prog 42 #[.pointer (some ⟨b, 0, none⟩), .int .i64 k, .pointer (some ⟨mb, 0, none⟩), .int .i64 p] w fun e w' => e = .returned (.tuple #[trX zT, .bool false, .int .i64 19]) ∧ Below w.heap.size w w' := by
  have H := Lib.hid h
  have c0 := (h.row k hk).1
  rw [hr] at c0
  have hg := h.lg
  have p2 : ¬ p < 0 := by omega
  have p3 : ¬ p ≥ 512 := by omega
  clear h hr
  go_enter Try.func42, Try.ntmps42
  go_wp2_with (go_at_call 26; refine (get_ok _ b g n c k R Q T S (H.out.call (bal (Below.refl _ _) _)) hk).mono ?_; rintro e w1 ⟨rfl, rfl⟩)
  exact bodyPost_ret (v := .tuple #[trX zT, .bool false, .int .i64 19]) (by simp [results, Try.results42, go_sem]) rfl ⟨rfl, bal (Below.refl _ _) _⟩
theorem ctrans_any (w : World) (b g n c : Nat) (R Q : Nat → Int) (T : Nat → Nat) (S : Nat → TS) (mb mg mn mc : Nat) (m : Nat → Int) (k p : Int) (h : CoresAt w b g n c R Q T S) (hM : MemAt w mb mg mn mc m) :
    Calls Try.prog 42 #[.pointer (some ⟨b, 0, none⟩), .int .i64 k, .pointer (some ⟨mb, 0, none⟩), .int .i64 p] w fun e w' => e = .returned (.tuple #[trX (transC n R Q S mn m k p).1.1, .bool (transC n R Q S mn m k p).1.2.1, .int .i64 (transC n R Q S mn m k p).1.2.2]) ∧ CoresAt w' b g n c R Q T (transC n R Q S mn m k p).2 ∧ OnlyT n T w w' := by
  unfold transC
  by_cases hc : hasC n k = true ∧ 0 ≤ p ∧ p < 512
  · rw [if_pos hc]
    obtain ⟨j, hj, rfl⟩ := has_nat hc.1
    simp only [Int.toNat_natCast]
    by_cases hr : R j = -1
    · rw [if_pos hr]
      exact (ctrans_idle w b g n c j R Q T S mb p h hj hr hc.2.1 hc.2.2).mono fun e w' ⟨h1, h2⟩ => ⟨h1, h.call h2, .of_below h2⟩
    · rw [if_neg hr]
      exact (ctrans_ok w b g n c j R Q T S mb mg mn mc m p h hj hM hr hc.2.1 hc.2.2).mono fun e w' ⟨h1, h2, h3⟩ => ⟨h1, h2, .of_tlb h3 hj⟩
  · rw [if_neg hc]
    exact (ctrans_bad w b g n c R Q T S mb k p h hc).mono fun e w' ⟨h1, h2⟩ => ⟨h1, h.call h2, .of_below h2⟩
end
/- both machines side by side. -/
section
set_option linter.unusedVariables false
set_option linter.unusedSimpArgs false
open Go.ChangeShapes Go.WideShapes Go.ChangeAt Go.RowKit Go.Shelf
/-- Where all lies: the cores, the own cores, the memory, the own memory; a colour for each block (0: none of these). -/
structure Pl where
  b : Nat
  g : Nat
  n : Nat
  c : Nat
  rb : Nat
  rg : Nat
  rc : Nat
  mb : Nat
  mg : Nat
  mc : Nat
  ub : Nat
  ug : Nat
  uc : Nat
  T : Nat → Nat
  RT : Nat → Nat
  col : Nat → Nat
  lim : Nat
structure Mach (W w : World) (P : Pl) (R Q : Nat → Int) (S : Nat → TS) (m : Nat → Int) (R2 Q2 : Nat → Int) (S2 : Nat → TS) (m2 : Nat → Int) : Prop where
  co : CoresAt w P.b P.g P.n P.c R Q P.T S
  ro : RCor w P.rb P.rg P.n P.rc R2 Q2 P.RT S2
  me : MemAt w P.mb P.mg 8 P.mc m
  mr : RefAt w P.ub P.ug 8 P.uc m2
  k1 : P.col P.b = 1 ∧ P.col P.g = 1 ∧ ∀ i, i < P.n → P.col (P.T i) = 1
  k2 : P.col P.rb = 2 ∧ P.col P.rg = 2 ∧ ∀ i, i < P.n → P.col (P.RT i) = 2
  k3 : P.col P.mb = 3 ∧ P.col P.mg = 3
  k4 : P.col P.ub = 4 ∧ P.col P.ug = 4
  low : ∀ k, k < W.heap.size → P.col k = 0
  rq : ∀ i, i < P.n → RegOk (R2 i) (Q2 i)
  rg : ∀ i, i < P.n → Good (S2 i)
  bel : Below W.heap.size W w
  hi : ∀ k, P.lim ≤ k → P.col k = 0
  ll : P.lim ≤ w.heap.size
def Turn (col : Nat → Nat) (c : Nat) (w w' : World) : Prop := w'.os = w.os ∧ w'.tape = w.tape ∧ w'.output = w.output ∧ w.heap.size ≤ w'.heap.size ∧ ∀ k, k < w.heap.size → col k ≠ c → w'.heap[k]? = w.heap[k]?
structure Keep0 (P : Pl) (w w' : World) : Prop where
  sz : w.heap.size ≤ w'.heap.size
  blk : ∀ k, k < w.heap.size → P.col k = 0 → w'.heap[k]? = w.heap[k]?
section
variable {W w w' : World} {P : Pl} {R Q R2 Q2 R' Q' : Nat → Int} {S S2 S' : Nat → TS} {m m2 m' : Nat → Int}
theorem Turn.of_blk {g : Nat} {col : Nat → Nat} {c : Nat} (h : BlkOnly g w w') (hc : col g = c) : Turn col c w w' := ⟨h.os, h.tape, h.output, h.size, fun k hk hn => h.block k hk (fun e => hn (by rw [e]; exact hc))⟩
theorem Turn.of_only {n : Nat} {T : Nat → Nat} {col : Nat → Nat} {c : Nat} (h : OnlyT n T w w') (hc : ∀ i, i < n → col (T i) = c) : Turn col c w w' := ⟨h.os, h.tape, h.output, h.size, fun k hk hn => h.block k hk (fun i hi e => hn (by rw [e]; exact hc i hi))⟩
theorem Turn.of_below {col : Nat → Nat} {c : Nat} (h : Below w.heap.size w w') : Turn col c w w' := ⟨h.os, h.tape, h.output, h.size, fun k hk _ => h.block k hk⟩
theorem Turn.keep {c : Nat} (h : Turn P.col c w w') (hc : c ≠ 0) : Keep0 P w w' := ⟨h.2.2.2.1, fun k hk h0 => h.2.2.2.2 k hk (by rw [h0]; exact Ne.symm hc)⟩
theorem Turn.bel {c : Nat} (h : Turn P.col c w w') (hc : c ≠ 0) (low : ∀ k, k < W.heap.size → P.col k = 0) (hb : Below W.heap.size W w) : Below W.heap.size W w' :=
  hb.trans ⟨h.1, h.2.1, h.2.2.1, h.2.2.2.1, fun k hk => h.2.2.2.2 k (Nat.lt_of_lt_of_le hk hb.size) (by rw [low k hk]; exact Ne.symm hc)⟩
theorem Mach.call (h : Mach W w P R Q S m R2 Q2 S2 m2) (k : Below w.heap.size w w') : Mach W w' P R Q S m R2 Q2 S2 m2 :=
  ⟨h.co.call k, h.ro.call k, h.me.call k, h.mr.call k, h.k1, h.k2, h.k3, h.k4, h.low, h.rq, h.rg, h.bel.trans (k.mono h.bel.size), h.hi, Nat.le_trans h.ll k.size⟩
theorem Mach.turn1 (h : Mach W w P R Q S m R2 Q2 S2 m2) (t : Turn P.col 1 w w') (hc : CoresAt w' P.b P.g P.n P.c R' Q' P.T S') : Mach W w' P R' Q' S' m R2 Q2 S2 m2 ∧ Keep0 P w w' := by
  have e := t.2.2.2.2
  have q2 := h.k2
  refine ⟨⟨hc, h.ro.of_blocks t.2.2.2.1 (e _ h.ro.lb (by rw [q2.1]; decide)) (e _ h.ro.lg (by rw [q2.2.1]; decide)) (fun i hi => e _ (h.ro.tlb i hi).lt (by rw [q2.2.2 i hi]; decide)), h.me.of_blocks t.2.2.2.1 (e _ h.me.lb (by rw [h.k3.1]; decide)) (e _ h.me.lg (by rw [h.k3.2]; decide)), h.mr.of_blocks t.2.2.2.1 (e _ h.mr.lb (by rw [h.k4.1]; decide)) (e _ h.mr.lg (by rw [h.k4.2]; decide)), h.k1, h.k2, h.k3, h.k4, h.low, h.rq, h.rg, t.bel (by decide) h.low h.bel, h.hi, Nat.le_trans h.ll t.2.2.2.1⟩, t.keep (by decide)⟩
theorem Mach.turn2 (h : Mach W w P R Q S m R2 Q2 S2 m2) (t : Turn P.col 2 w w') (hc : RCor w' P.rb P.rg P.n P.rc R' Q' P.RT S') (hq : ∀ i, i < P.n → RegOk (R' i) (Q' i)) (hg : ∀ i, i < P.n → Good (S' i)) : Mach W w' P R Q S m R' Q' S' m2 ∧ Keep0 P w w' := by
  have e := t.2.2.2.2
  have q2 := h.k1
  refine ⟨⟨h.co.of_blocks t.2.2.2.1 (e _ h.co.lb (by rw [q2.1]; decide)) (e _ h.co.lg (by rw [q2.2.1]; decide)) (fun i hi => e _ (h.co.tlb i hi).lt (by rw [q2.2.2 i hi]; decide)), hc, h.me.of_blocks t.2.2.2.1 (e _ h.me.lb (by rw [h.k3.1]; decide)) (e _ h.me.lg (by rw [h.k3.2]; decide)), h.mr.of_blocks t.2.2.2.1 (e _ h.mr.lb (by rw [h.k4.1]; decide)) (e _ h.mr.lg (by rw [h.k4.2]; decide)), h.k1, h.k2, h.k3, h.k4, h.low, hq, hg, t.bel (by decide) h.low h.bel, h.hi, Nat.le_trans h.ll t.2.2.2.1⟩, t.keep (by decide)⟩
theorem Mach.turn3 (h : Mach W w P R Q S m R2 Q2 S2 m2) (t : Turn P.col 3 w w') (hc : MemAt w' P.mb P.mg 8 P.mc m') : Mach W w' P R Q S m' R2 Q2 S2 m2 ∧ Keep0 P w w' := by
  have e := t.2.2.2.2
  have q1 := h.k1
  have q2 := h.k2
  refine ⟨⟨h.co.of_blocks t.2.2.2.1 (e _ h.co.lb (by rw [q1.1]; decide)) (e _ h.co.lg (by rw [q1.2.1]; decide)) (fun i hi => e _ (h.co.tlb i hi).lt (by rw [q1.2.2 i hi]; decide)), h.ro.of_blocks t.2.2.2.1 (e _ h.ro.lb (by rw [q2.1]; decide)) (e _ h.ro.lg (by rw [q2.2.1]; decide)) (fun i hi => e _ (h.ro.tlb i hi).lt (by rw [q2.2.2 i hi]; decide)), hc, h.mr.of_blocks t.2.2.2.1 (e _ h.mr.lb (by rw [h.k4.1]; decide)) (e _ h.mr.lg (by rw [h.k4.2]; decide)), h.k1, h.k2, h.k3, h.k4, h.low, h.rq, h.rg, t.bel (by decide) h.low h.bel, h.hi, Nat.le_trans h.ll t.2.2.2.1⟩, t.keep (by decide)⟩
theorem Mach.turn4 (h : Mach W w P R Q S m R2 Q2 S2 m2) (t : Turn P.col 4 w w') (hc : RefAt w' P.ub P.ug 8 P.uc m') : Mach W w' P R Q S m R2 Q2 S2 m' ∧ Keep0 P w w' := by
  have e := t.2.2.2.2
  have q1 := h.k1
  have q2 := h.k2
  refine ⟨⟨h.co.of_blocks t.2.2.2.1 (e _ h.co.lb (by rw [q1.1]; decide)) (e _ h.co.lg (by rw [q1.2.1]; decide)) (fun i hi => e _ (h.co.tlb i hi).lt (by rw [q1.2.2 i hi]; decide)), h.ro.of_blocks t.2.2.2.1 (e _ h.ro.lb (by rw [q2.1]; decide)) (e _ h.ro.lg (by rw [q2.2.1]; decide)) (fun i hi => e _ (h.ro.tlb i hi).lt (by rw [q2.2.2 i hi]; decide)), h.me.of_blocks t.2.2.2.1 (e _ h.me.lb (by rw [h.k3.1]; decide)) (e _ h.me.lg (by rw [h.k3.2]; decide)), hc, h.k1, h.k2, h.k3, h.k4, h.low, h.rq, h.rg, t.bel (by decide) h.low h.bel, h.hi, Nat.le_trans h.ll t.2.2.2.1⟩, t.keep (by decide)⟩
/-- Set. -/
def setRC (n : Nat) (R : Nat → Int) (k r s v : Int) : Nat → Int := if setC n k r s = 0 then setR R k.toNat v else R
theorem Mach.setA (h : Mach W w P R Q S m R2 Q2 S2 m2) (k r s : Int) :
    Calls Try.prog 10 #[.pointer (some ⟨P.b, 0, none⟩), .int .i64 k, .int .i64 r, .int .i64 s] w fun e w' => e = .returned (.int .i64 (setC P.n k r s)) ∧ Mach W w' P (setRC P.n R k r s r) (setRC P.n Q k r s s) S m R2 Q2 S2 m2 ∧ Keep0 P w w' := by
  unfold setRC
  by_cases h0 : setC P.n k r s = 0
  · obtain ⟨j, hj, rfl, hr⟩ := set_ok h0
    simp only [if_pos h0, Int.toNat_natCast]
    rw [h0]
    exact (cset_yes w P.b P.g P.n P.c j r s R Q P.T S h.co hj hr).mono fun e w' ⟨h1, h2, h3⟩ => ⟨h1, h.turn1 (.of_blk h3 h.k1.2.1) h2⟩
  · simp only [if_neg h0]
    exact (cset_no w P.b P.g P.n P.c k r s R Q P.T S h.co h0).mono fun e w' ⟨h1, h2⟩ => h2 ▸ ⟨h1, h, ⟨Nat.le_refl _, fun _ _ _ => rfl⟩⟩
theorem Mach.setB (h : Mach W w P R Q S m R2 Q2 S2 m2) (k r s : Int) :
    Calls Try.prog 11 #[.pointer (some ⟨P.rb, 0, none⟩), .int .i64 k, .int .i64 r, .int .i64 s] w fun e w' => e = .returned (.int .i64 (setC P.n k r s)) ∧ Mach W w' P R Q S m (setRC P.n R2 k r s r) (setRC P.n Q2 k r s s) S2 m2 ∧ Keep0 P w w' := by
  unfold setRC
  by_cases h0 : setC P.n k r s = 0
  · obtain ⟨j, hj, rfl, hr⟩ := set_ok h0
    simp only [if_pos h0, Int.toNat_natCast]
    rw [h0]
    exact (rset_yes w P.rb P.rg P.n P.rc j r s R2 Q2 P.RT S2 h.ro hj hr).mono fun e w' ⟨h1, h2, h3⟩ => ⟨h1, h.turn2 (.of_blk h3 h.k2.2.1) h2 (fun i hi => by
      unfold setR
      split
      · exact hr
      · exact h.rq i hi) h.rg⟩
  · simp only [if_neg h0]
    exact (rset_no w P.rb P.rg P.n P.rc k r s R2 Q2 P.RT S2 h.ro h0).mono fun e w' ⟨h1, h2⟩ => h2 ▸ ⟨h1, h, ⟨Nat.le_refl _, fun _ _ _ => rfl⟩⟩
theorem Mach.transA (h : Mach W w P R Q S m R2 Q2 S2 m2) (k p : Int) :
    Calls Try.prog 42 #[.pointer (some ⟨P.b, 0, none⟩), .int .i64 k, .pointer (some ⟨P.mb, 0, none⟩), .int .i64 p] w fun e w' => e = .returned (.tuple #[trX (transC P.n R Q S 8 m k p).1.1, .bool (transC P.n R Q S 8 m k p).1.2.1, .int .i64 (transC P.n R Q S 8 m k p).1.2.2]) ∧ Mach W w' P R Q (transC P.n R Q S 8 m k p).2 m R2 Q2 S2 m2 ∧ Keep0 P w w' :=
  (ctrans_any w P.b P.g P.n P.c R Q P.T S P.mb P.mg 8 P.mc m k p h.co h.me).mono fun e w' ⟨h1, h2, h3⟩ => ⟨h1, h.turn1 (.of_only h3 h.k1.2.2) h2⟩
theorem Mach.transB (h : Mach W w P R Q S m R2 Q2 S2 m2) (k p : Int) :
    Calls Try.prog 44 #[.pointer (some ⟨P.rb, 0, none⟩), .int .i64 k, .pointer (some ⟨P.ub, 0, none⟩), .int .i64 p] w fun e w' => e = .returned (.tuple #[trX (transC P.n R2 Q2 S2 8 m2 k p).1.1, .bool (transC P.n R2 Q2 S2 8 m2 k p).1.2.1, .int .i64 (transC P.n R2 Q2 S2 8 m2 k p).1.2.2]) ∧ Mach W w' P R Q S m R2 Q2 (transC P.n R2 Q2 S2 8 m2 k p).2 m2 ∧ Keep0 P w w' :=
  (rtrans_any w P.rb P.rg P.n P.rc R2 Q2 P.RT S2 P.ub P.ug 8 P.uc m2 k p h.ro h.rg h.rq h.mr).mono fun e w' ⟨h1, h2, h3⟩ => ⟨h1, h.turn2 (.of_only h3 h.k2.2.2) h2 h.rq (good_transC h.rg)⟩
theorem Mach.hasB (h : Mach W w P R Q S m R2 Q2 S2 m2) (k : Int) :
    Calls Try.prog 27 #[.pointer (some ⟨P.rb, 0, none⟩), .int .i64 k] w fun e w' => e = .returned (.bool (hasC P.n k)) ∧ w = w' := rhas_any w P.rb P.rg P.n P.rc k R2 Q2 P.RT S2 h.ro
theorem Mach.stA (h : Mach W w P R Q S m R2 Q2 S2 m2) (a v : Int) (ha : WordI a) (hv : WordI v) :
    Calls Try.prog 12 #[.pointer (some ⟨P.mb, 0, none⟩), .int .u64 a, .int .u64 v] w fun e w' => e = .returned (.int .i64 (wrongF 8 a)) ∧ Mach W w' P R Q S (storeF 8 m a v) R2 Q2 S2 m2 ∧ Keep0 P w w' :=
  (store_gen w P.mb P.mg 8 P.mc m a v h.me ha hv).mono fun e w' ⟨h1, h2, h3⟩ => ⟨h1, h.turn3 (.of_blk h3 h.k3.2) h2⟩
theorem Mach.stB (h : Mach W w P R Q S m R2 Q2 S2 m2) (a v : Int) (ha : WordI a) (hv : WordI v) :
    Calls Try.prog 13 #[.pointer (some ⟨P.ub, 0, none⟩), .int .u64 a, .int .u64 v] w fun e w' => e = .returned (.int .i64 (wrongF 8 a)) ∧ Mach W w' P R Q S m R2 Q2 S2 (storeF 8 m2 a v) ∧ Keep0 P w w' :=
  (rstore_gen w P.ub P.ug 8 P.uc m2 a v h.mr ha hv).mono fun e w' ⟨h1, h2, h3⟩ => ⟨h1, h.turn4 (.of_blk h3 h.k4.2) h2⟩
end
/-- Both at one state. -/
def Even (W w : World) (P : Pl) : Prop := ∃ R Q S m, Mach W w P R Q S m R Q S m
theorem Even.call {W w w' : World} {P : Pl} (h : Even W w P) (k : Below w.heap.size w w') : Even W w' P := by
  obtain ⟨R, Q, S, m, h⟩ := h
  exact ⟨R, Q, S, m, h.call k⟩
theorem Even.bel {W w : World} {P : Pl} (h : Even W w P) : Below W.heap.size W w := by
  obtain ⟨R, Q, S, m, h⟩ := h
  exact h.bel
end
/- package access, over both machines. -/
section
set_option linter.unusedVariables false
set_option linter.unusedSimpArgs false
open Go.ChangeShapes Go.WideShapes Go.ChangeAt Go.RowKit Go.Shelf
def tA (R Q : Nat → Int) (S : Nat → TS) (m : Nat → Int) (k : Nat) (va : Int) : (TransX × Bool × Int) × TS := transF 8 m (R k) (Q k) (va / 64) (S k)
/-- A fault's kind; 0: none. -/
def kdA (n : Nat) (R Q : Nat → Int) (S : Nat → TS) (m : Nat → Int) (k va : Int) (wr : Bool) : Int := if ¬ va < 32768 then 1 else if ¬ va % 8 = 0 then 2 else if hasC n k = true ∧ R k.toNat ≠ -1 then accK (tA R Q S m k.toNat va).1 wr else 3
/-- The caches behind an access. -/
def nsA (n : Nat) (R Q : Nat → Int) (S : Nat → TS) (m : Nat → Int) (k va : Int) : Nat → TS := if va < 32768 ∧ va % 8 = 0 ∧ hasC n k = true ∧ R k.toNat ≠ -1 then setT S k.toNat (tA R Q S m k.toNat va).2 else S
def ixA (R Q : Nat → Int) (S : Nat → TS) (m : Nat → Int) (k va : Int) : Nat := accI (tA R Q S m k.toNat va).1 va
theorem loc_far (w : World) (c m : Option Addr) (k va : Int) (wr : Bool) (h : ¬ va < 32768) : LocC w c m k va wr 0 1 va wr (fun a d => Below a.heap.size a d) :=
  fun w1 hb => locate_range w1 c m k va wr (by omega)
theorem loc_odd (w : World) (c m : Option Addr) (k va : Int) (wr : Bool) (h0 : 0 ≤ va) (h : va < 32768) (h1 : ¬ va % 8 = 0) : LocC w c m k va wr 0 2 va wr (fun a d => Below a.heap.size a d) :=
  fun w1 hb => locate_align w1 c m k va wr h0 h h1
theorem kd_far {n : Nat} {R Q : Nat → Int} {S : Nat → TS} {m : Nat → Int} {k va : Int} {wr : Bool} (h : ¬ va < 32768) : kdA n R Q S m k va wr = 1 ∧ nsA n R Q S m k va = S := by
  unfold kdA nsA
  exact ⟨if_pos h, if_neg (fun q => h q.1)⟩
theorem kd_odd {n : Nat} {R Q : Nat → Int} {S : Nat → TS} {m : Nat → Int} {k va : Int} {wr : Bool} (h : va < 32768) (h2 : ¬ va % 8 = 0) : kdA n R Q S m k va wr = 2 ∧ nsA n R Q S m k va = S := by
  unfold kdA nsA
  exact ⟨by rw [if_neg (fun q => q h), if_pos h2], if_neg (fun q => h2 q.2.1)⟩
theorem kd_sp {n : Nat} {R Q : Nat → Int} {S : Nat → TS} {m : Nat → Int} {k va : Int} {wr : Bool} (h : va < 32768) (h2 : va % 8 = 0) (h3 : ¬ (hasC n k = true ∧ R k.toNat ≠ -1)) : kdA n R Q S m k va wr = 3 ∧ nsA n R Q S m k va = S := by
  unfold kdA nsA
  exact ⟨by rw [if_neg (fun q => q h), if_neg (fun q => q h2), if_neg h3], if_neg (fun q => h3 ⟨q.2.2.1, q.2.2.2⟩)⟩
theorem kd_in {n : Nat} {R Q : Nat → Int} {S : Nat → TS} {m : Nat → Int} {k : Nat} {va : Int} {wr : Bool} (h : va < 32768) (h2 : va % 8 = 0) (hk : k < n) (hr : R k ≠ -1) : kdA n R Q S m k va wr = accK (tA R Q S m k va).1 wr ∧ nsA n R Q S m k va = setT S k (tA R Q S m k va).2 ∧ ixA R Q S m k va = accI (tA R Q S m k va).1 va := by
  unfold kdA nsA ixA
  simp only [Int.toNat_natCast]
  exact ⟨by rw [if_neg (fun q => q h), if_neg (fun q => q h2), if_pos ⟨has_of hk, hr⟩], if_pos ⟨h, h2, has_of hk, hr⟩, trivial⟩
def TrM (P : Pl) (R Q : Nat → Int) (S : Nat → TS) (k : Nat) (a d : World) : Prop := CoresAt d P.b P.g P.n P.c R Q P.T S ∧ TlbOnly (P.T k) a d
section
variable {W w w' w0 w1 w2 : World} {P : Pl} {R Q R2 Q2 R' Q' R2' Q2' : Nat → Int} {S S2 S' S2' : Nat → TS} {m m2 m' m2' : Nat → Int}
theorem Mach.sep (h : Mach W w P R Q S m R2 Q2 S2 m2) {k : Nat} (hk : k < P.n) : P.T k ≠ P.mb ∧ P.T k ≠ P.mg := by
  have e1 := h.k1.2.2 k hk
  refine ⟨fun e => ?_, fun e => ?_⟩
  · rw [e, h.k3.1] at e1; cases e1
  · rw [e, h.k3.2] at e1; cases e1
theorem Mach.low2 (h0 : Mach W w0 P R' Q' S' m' R2' Q2' S2' m2') (h : Mach W w P R Q S m R2 Q2 S2 m2) (k : Below w0.heap.size w w') : Mach W w' P R Q S m R2 Q2 S2 m2 :=
  ⟨h.co.of_blocks k.size (k.block _ h0.co.lb) (k.block _ h0.co.lg) (fun i hi => k.block _ (h0.co.tlb i hi).lt), h.ro.of_blocks k.size (k.block _ h0.ro.lb) (k.block _ h0.ro.lg) (fun i hi => k.block _ (h0.ro.tlb i hi).lt), h.me.of_blocks k.size (k.block _ h0.me.lb) (k.block _ h0.me.lg), h.mr.of_blocks k.size (k.block _ h0.mr.lb) (k.block _ h0.mr.lg), h.k1, h.k2, h.k3, h.k4, h.low, h.rq, h.rg, h.bel.trans (k.mono h0.bel.size), h.hi, Nat.le_trans h.ll k.size⟩
theorem Keep0.of_below {B : Nat} (h : Below B w w') (hB : w.heap.size ≤ B) : Keep0 P w w' := ⟨h.size, fun k hk _ => h.block k (Nat.lt_of_lt_of_le hk hB)⟩
theorem Keep0.fin (h1 : Below w.heap.size w w1) (h2 : Keep0 P w1 w2) (h3 : Below w.heap.size w2 w') : Keep0 P w w' :=
  ⟨Nat.le_trans h1.size (Nat.le_trans h2.sz h3.size), fun k hk h0 => (h3.block k hk).trans ((h2.blk k (Nat.lt_of_lt_of_le hk h1.size) h0).trans (h1.block k hk))⟩
theorem Mach.fin (h : Mach W w P R Q S m R2 Q2 S2 m2) {k : Nat} (hk : k < P.n) (h1 : Below w.heap.size w w1) (hr : TrM P R Q S' k w1 w2) (h3 : Below w.heap.size w2 w') : Mach W w' P R Q S' m R2 Q2 S2 m2 ∧ Keep0 P w w' := by
  obtain ⟨q1, q2⟩ := (h.call h1).turn1 (.of_only (.of_tlb hr.2 hk) h.k1.2.2) hr.1
  exact ⟨Mach.low2 h q1 h3, Keep0.fin h1 q2 h3⟩
theorem loc_in (h : Mach W w P R Q S m R2 Q2 S2 m2) (k : Nat) (va : Int) (wr : Bool) (hk : k < P.n) (hr : R k ≠ -1) (h0 : 0 ≤ va) (h1 : va < 32768) (ha : va % 8 = 0) :
    LocC w (some ⟨P.b, 0, none⟩) (some ⟨P.mb, 0, none⟩) k va wr (if accK (tA R Q S m k va).1 wr = 0 then (tA R Q S m k va).1.1.f * 64 + va % 64 else 0) (accK (tA R Q S m k va).1 wr) (if accK (tA R Q S m k va).1 wr = 0 then 0 else va) (if accK (tA R Q S m k va).1 wr = 0 then false else wr) (TrM P R Q (setT S k (tA R Q S m k va).2) k) := by
  intro w1 hb
  have hc := h.co.call hb
  have hm := h.me.call hb
  have hqp := ((h.co.regs k hk).pos hr).2.2
  have hq : Q k ≠ 0 := by omega
  have hf0 := fun hz => trans_f0 (n := 8) (m := m) (r := R k) (q := Q k) (p := va / 64) (s := S k) (h.co.good k hk) hz hqp (by omega) (by omega)
  have hT : TransC w1 P.b P.g P.n P.c k R Q P.T S P.mb (va / 64) (tA R Q S m k va).1.1 (tA R Q S m k va).1.2.1 (tA R Q S m k va).1.2.2 (tA R Q S m k va).2 := fun w2 hb2 =>
    ctrans_ok w2 P.b P.g P.n P.c k R Q P.T S P.mb P.mg 8 P.mc m (va / 64) (hc.call hb2) hk (hm.call hb2) hr (by omega) (by omega)
  change (tA R Q S m k va).1.2.2 = 0 → 0 ≤ (tA R Q S m k va).1.1.f at hf0
  obtain ⟨⟨⟨⟨xs, xp, xf, xr, xw⟩, hit, cd⟩, s'⟩, hz⟩ : ∃ z, tA R Q S m k va = z := ⟨_, rfl⟩
  rw [hz] at hT hf0 ⊢
  simp only at hT hf0 ⊢
  obtain ⟨n5, n6⟩ := h.sep hk
  by_cases hcd : cd = 0
  · subst hcd
    by_cases hf : xf < 8
    · have hf' : xf < ((8 : Nat) : Int) := by omega
      cases wr
      · cases xr
        · have e : accK (⟨xs, xp, xf, false, xw⟩, hit, 0) false = 5 := by unfold accK; simp [hf]
          rw [e]
          exact locate_nor w1 P.b P.g P.n P.c k R Q P.T S P.mb P.mg 8 P.mc m va xs xp xf xw hit s' hc hk hm hq h0 h1 ha n5 n6 hT hf'
        · have e : accK (⟨xs, xp, xf, true, xw⟩, hit, 0) false = 0 := by unfold accK; simp [hf]
          rw [e]
          exact locate_yr w1 P.b P.g P.n P.c k R Q P.T S P.mb P.mg 8 P.mc m va xs xp xf xw hit s' hc hk hm hq h0 h1 ha n5 n6 hT hf' (hf0 rfl)
      · cases xw
        · have e : accK (⟨xs, xp, xf, xr, false⟩, hit, 0) true = 5 := by unfold accK; simp [hf]
          rw [e]
          exact locate_now w1 P.b P.g P.n P.c k R Q P.T S P.mb P.mg 8 P.mc m va xs xp xf xr hit s' hc hk hm hq h0 h1 ha n5 n6 hT hf'
        · have e : accK (⟨xs, xp, xf, xr, true⟩, hit, 0) true = 0 := by unfold accK; simp [hf]
          rw [e]
          exact locate_yw w1 P.b P.g P.n P.c k R Q P.T S P.mb P.mg 8 P.mc m va xs xp xf xr hit s' hc hk hm hq h0 h1 ha n5 n6 hT hf' (hf0 rfl)
    · have e : accK (⟨xs, xp, xf, xr, xw⟩, hit, 0) wr = 4 := by unfold accK; simp [hf]
      rw [e]
      exact locate_far w1 P.b P.g P.n P.c k R Q P.T S P.mb P.mg 8 P.mc m va wr xs xp xf xr xw hit s' hc hk hm hq h0 h1 ha n5 n6 hT (by omega)
  · have e : accK (⟨xs, xp, xf, xr, xw⟩, hit, cd) wr = 4 := by unfold accK; simp [hcd]
    rw [e]
    exact locate_err w1 P.b P.g P.n P.c k R Q P.T S P.mb P.mg 8 P.mc m va wr xs xp xf xr xw hit cd s' hc hk hm hq h0 h1 ha n5 n6 hT hcd
theorem loc_out2 (h : Mach W w P R Q S m R2 Q2 S2 m2) (k va : Int) (wr : Bool) (hk : ¬ (hasC P.n k = true ∧ R k.toNat ≠ -1)) (h0 : 0 ≤ va) (h1 : va < 32768) (ha : va % 8 = 0) : LocC w (some ⟨P.b, 0, none⟩) (some ⟨P.mb, 0, none⟩) k va wr 0 3 va wr (fun a d => Below a.heap.size a d) :=
  fun w1 hb => locate_space w1 _ _ k va wr h0 h1 ha (fun w2 hb2 => by
    have hc := (h.co.call hb).call hb2
    by_cases hh : hasC P.n k = true
    · obtain ⟨j, hj, rfl⟩ := has_nat hh
      have hr : R j = -1 := by
        by_cases e : R j = -1
        · exact e
        · exact absurd ⟨hh, by simpa using e⟩ hk
      have hq : Q j = 0 := by
        rcases h.co.regs j hj with ⟨_, q⟩ | ⟨q, _⟩
        · exact q
        · omega
      have := walks_at w2 P.b P.g P.n P.c j R Q P.T S ⟨P.mb, 0, none⟩ hc hj
      rw [hq] at this
      exact this
    · exact walks_bad w2 P.b P.g P.n P.c k R Q P.T S ⟨P.mb, 0, none⟩ hc (bad_of hh))
theorem f_pos {va : Int} (h : Mach W w P R Q S m R2 Q2 S2 m2) {k : Nat} (hk : k < P.n) (hr : R k ≠ -1) (h0 : 0 ≤ va) (h1 : va < 32768) (hz : (tA R Q S m k va).1.2.2 = 0) : 0 ≤ (tA R Q S m k va).1.1.f :=
  trans_f0 (n := 8) (m := m) (r := R k) (q := Q k) (p := va / 64) (s := S k) (h.co.good k hk) hz ((h.co.regs k hk).pos hr).2.2 (by omega) (by omega)
theorem acc_ok {t : TransX × Bool × Int} {wr : Bool} (hz : accK t wr = 0) : t.2.2 = 0 ∧ t.1.f < 8 := by
  unfold accK at hz
  by_cases hc : t.2.2 = 0 ∧ t.1.f < 8
  · exact hc
  · rw [if_neg hc] at hz; exact absurd hz (by decide)
theorem Mach.load_in (h : Mach W w P R Q S m R2 Q2 S2 m2) (k : Nat) (va : Int) (hk : k < P.n) (hr : R k ≠ -1) (h0 : 0 ≤ va) (h1 : va < 32768) (ha : va % 8 = 0) :
    Calls Try.prog 16 #[.pointer (some ⟨P.b, 0, none⟩), .pointer (some ⟨P.mb, 0, none⟩), .int .i64 k, .int .u64 va] w fun e w' => e = .returned (.tuple #[.int .u64 (if accK (tA R Q S m k va).1 false = 0 then m (accI (tA R Q S m k va).1 va) else 0), fV (accK (tA R Q S m k va).1 false) va false]) ∧ Mach W w' P R Q (setT S k (tA R Q S m k va).2) m R2 Q2 S2 m2 ∧ Keep0 P w w' := by
  have hl := loc_in h k va false hk hr h0 h1 ha
  by_cases hz : accK (tA R Q S m k va).1 false = 0
  · rw [hz, if_pos rfl, if_pos rfl, if_pos rfl] at hl
    rw [hz, if_pos rfl]
    have hf8 := acc_ok hz
    have hf0 := f_pos h hk hr h0 h1 hf8.1
    refine (load_yes w _ k va _ (P.T k) P.mb P.mg 8 P.mc (accI (tA R Q S m k va).1 va) m _ (h.co.tlb k hk).lt (fun a d hr => hr.2) hl h.me (Ne.symm (h.sep hk).1) (Ne.symm (h.sep hk).2) (by unfold accI; omega) (by unfold accI; omega)).mono ?_
    rintro e w' ⟨rfl, w1, w2, hb1, hr, hb2⟩
    exact ⟨rfl, h.fin hk hb1 hr hb2⟩
  · rw [if_neg hz, if_neg hz, if_neg hz] at hl
    rw [if_neg hz]
    refine (load_fault w _ _ k va _ (P.T k) _ hz (h.co.tlb k hk).lt (fun a d hr => hr.2) hl).mono ?_
    rintro e w' ⟨rfl, w1, w2, hb1, hr, hb2⟩
    exact ⟨by unfold fV; rw [if_neg hz], h.fin hk hb1 hr hb2⟩
theorem Mach.store_in (h : Mach W w P R Q S m R2 Q2 S2 m2) (k : Nat) (va v : Int) (hk : k < P.n) (hr : R k ≠ -1) (h0 : 0 ≤ va) (h1 : va < 32768) (ha : va % 8 = 0) (hv : WordI v) :
    Calls Try.prog 14 #[.pointer (some ⟨P.b, 0, none⟩), .pointer (some ⟨P.mb, 0, none⟩), .int .i64 k, .int .u64 va, .int .u64 v] w fun e w' => e = .returned (fV (accK (tA R Q S m k va).1 true) va true) ∧ Mach W w' P R Q (setT S k (tA R Q S m k va).2) (if accK (tA R Q S m k va).1 true = 0 then updM m (accI (tA R Q S m k va).1 va) v else m) R2 Q2 S2 m2 ∧ Keep0 P w w' := by
  have hl := loc_in h k va true hk hr h0 h1 ha
  by_cases hz : accK (tA R Q S m k va).1 true = 0
  · rw [hz, if_pos rfl, if_pos rfl, if_pos rfl] at hl
    rw [hz, if_pos rfl]
    have hf8 := acc_ok hz
    have hf0 := f_pos h hk hr h0 h1 hf8.1
    refine (store_yes w _ k va v _ (P.T k) P.mb P.mg 8 P.mc (accI (tA R Q S m k va).1 va) m _ (h.co.tlb k hk).lt (fun a d hr => hr.2) hl h.me (Ne.symm (h.sep hk).1) (Ne.symm (h.sep hk).2) (by unfold accI; omega) (by unfold accI; omega) hv).mono ?_
    rintro e w' ⟨rfl, w1, w2, w3, w4, hb1, hr, hb3, hm4, ho4, hb5⟩
    obtain ⟨q3, k3⟩ := h.fin hk hb1 hr hb3
    obtain ⟨q4, k4⟩ := q3.turn3 (.of_blk ho4 h.k3.2) hm4
    refine ⟨rfl, Mach.low2 h q4 hb5, ⟨Nat.le_trans k3.sz (Nat.le_trans k4.sz hb5.size), fun j hj h0 => (hb5.block j hj).trans ((k4.blk j (Nat.lt_of_lt_of_le hj k3.sz) h0).trans (k3.blk j hj h0))⟩⟩
  · rw [if_neg hz, if_neg hz, if_neg hz] at hl
    rw [if_neg hz]
    refine (store_fault w _ _ k va v _ (P.T k) _ hz (h.co.tlb k hk).lt (fun a d hr => hr.2) hl).mono ?_
    rintro e w' ⟨rfl, w1, w2, hb1, hr, hb2⟩
    exact ⟨by unfold fV; rw [if_neg hz], h.fin hk hb1 hr hb2⟩
theorem Mach.loadA (h : Mach W w P R Q S m R2 Q2 S2 m2) (k va : Int) (h0 : 0 ≤ va) :
    Calls Try.prog 16 #[.pointer (some ⟨P.b, 0, none⟩), .pointer (some ⟨P.mb, 0, none⟩), .int .i64 k, .int .u64 va] w fun e w' => e = .returned (.tuple #[.int .u64 (if kdA P.n R Q S m k va false = 0 then m (ixA R Q S m k va) else 0), fV (kdA P.n R Q S m k va false) va false]) ∧ Mach W w' P R Q (nsA P.n R Q S m k va) m R2 Q2 S2 m2 ∧ Keep0 P w w' := by
  have hz : 0 < w.heap.size := Nat.lt_of_le_of_lt (Nat.zero_le _) h.me.lg
  have bad : ∀ kd, ¬ kd = 0 → LocC w (some ⟨P.b, 0, none⟩) (some ⟨P.mb, 0, none⟩) k va false 0 kd va false (fun a d => Below a.heap.size a d) → Calls Try.prog 16 #[.pointer (some ⟨P.b, 0, none⟩), .pointer (some ⟨P.mb, 0, none⟩), .int .i64 k, .int .u64 va] w fun e w' => e = .returned (.tuple #[.int .u64 0, fV kd va false]) ∧ Mach W w' P R Q S m R2 Q2 S2 m2 ∧ Keep0 P w w' := fun kd hkd hL =>
    (aload_bad w _ _ k va kd hz hkd hL).mono fun e w' ⟨q1, q2⟩ => ⟨by rw [q1]; unfold fV; rw [if_neg hkd], h.call q2, .of_below q2 (Nat.le_refl _)⟩
  by_cases c1 : va < 32768
  · by_cases c2 : va % 8 = 0
    · by_cases c3 : hasC P.n k = true ∧ R k.toNat ≠ -1
      · obtain ⟨j, hj, rfl⟩ := has_nat c3.1
        simp only [Int.toNat_natCast] at c3
        obtain ⟨e1, e2, e3⟩ := kd_in (Q := Q) (S := S) (m := m) (wr := false) c1 c2 hj c3.2
        rw [e1, e2, e3]
        exact h.load_in j va hj c3.2 h0 c1 c2
      · obtain ⟨e1, e2⟩ := kd_sp (Q := Q) (S := S) (m := m) (wr := false) c1 c2 c3
        rw [e1, e2, if_neg (show ¬ (3 : Int) = 0 by decide)]
        exact bad 3 (by decide) (loc_out2 h k va false c3 h0 c1 c2)
    · obtain ⟨e1, e2⟩ := kd_odd (n := P.n) (R := R) (Q := Q) (S := S) (m := m) (k := k) (wr := false) c1 c2
      rw [e1, e2, if_neg (show ¬ (2 : Int) = 0 by decide)]
      exact bad 2 (by decide) (loc_odd w _ _ k va false h0 c1 c2)
  · obtain ⟨e1, e2⟩ := kd_far (n := P.n) (R := R) (Q := Q) (S := S) (m := m) (k := k) (wr := false) c1
    rw [e1, e2, if_neg (show ¬ (1 : Int) = 0 by decide)]
    exact bad 1 (by decide) (loc_far w _ _ k va false c1)
theorem Mach.storeA (h : Mach W w P R Q S m R2 Q2 S2 m2) (k va v : Int) (h0 : 0 ≤ va) (hv : WordI v) :
    Calls Try.prog 14 #[.pointer (some ⟨P.b, 0, none⟩), .pointer (some ⟨P.mb, 0, none⟩), .int .i64 k, .int .u64 va, .int .u64 v] w fun e w' => e = .returned (fV (kdA P.n R Q S m k va true) va true) ∧ Mach W w' P R Q (nsA P.n R Q S m k va) (if kdA P.n R Q S m k va true = 0 then updM m (ixA R Q S m k va) v else m) R2 Q2 S2 m2 ∧ Keep0 P w w' := by
  have hz : 0 < w.heap.size := Nat.lt_of_le_of_lt (Nat.zero_le _) h.me.lg
  have bad : ∀ kd, ¬ kd = 0 → LocC w (some ⟨P.b, 0, none⟩) (some ⟨P.mb, 0, none⟩) k va true 0 kd va true (fun a d => Below a.heap.size a d) → Calls Try.prog 14 #[.pointer (some ⟨P.b, 0, none⟩), .pointer (some ⟨P.mb, 0, none⟩), .int .i64 k, .int .u64 va, .int .u64 v] w fun e w' => e = .returned (fV kd va true) ∧ Mach W w' P R Q S m R2 Q2 S2 m2 ∧ Keep0 P w w' := fun kd hkd hL =>
    (astore_bad w _ _ k va v kd hz hkd hL).mono fun e w' ⟨q1, q2⟩ => ⟨by rw [q1]; unfold fV; rw [if_neg hkd], h.call q2, .of_below q2 (Nat.le_refl _)⟩
  by_cases c1 : va < 32768
  · by_cases c2 : va % 8 = 0
    · by_cases c3 : hasC P.n k = true ∧ R k.toNat ≠ -1
      · obtain ⟨j, hj, rfl⟩ := has_nat c3.1
        simp only [Int.toNat_natCast] at c3
        obtain ⟨e1, e2, e3⟩ := kd_in (Q := Q) (S := S) (m := m) (wr := true) c1 c2 hj c3.2
        rw [e1, e2, e3]
        exact h.store_in j va v hj c3.2 h0 c1 c2 hv
      · obtain ⟨e1, e2⟩ := kd_sp (Q := Q) (S := S) (m := m) (wr := true) c1 c2 c3
        rw [e1, e2, if_neg (show ¬ (3 : Int) = 0 by decide)]
        exact bad 3 (by decide) (loc_out2 h k va true c3 h0 c1 c2)
    · obtain ⟨e1, e2⟩ := kd_odd (n := P.n) (R := R) (Q := Q) (S := S) (m := m) (k := k) (wr := true) c1 c2
      rw [e1, e2, if_neg (show ¬ (2 : Int) = 0 by decide)]
      exact bad 2 (by decide) (loc_odd w _ _ k va true h0 c1 c2)
  · obtain ⟨e1, e2⟩ := kd_far (n := P.n) (R := R) (Q := Q) (S := S) (m := m) (k := k) (wr := true) c1
    rw [e1, e2, if_neg (show ¬ (1 : Int) = 0 by decide)]
    exact bad 1 (by decide) (loc_far w _ _ k va true c1)
end
end
/- chapter 8's own answer: where. -/
section
set_option linter.unusedVariables false
set_option linter.unusedSimpArgs false
open Go.ChangeShapes Go.WideShapes Go.ChangeAt Go.RowKit Go.Shelf
theorem splitR_yes (va : Int) (w : World) (h0 : 0 ≤ va) (h : va < 32768) :
    Calls Try.prog 43 #[.int .u64 va] w fun e w' => e = .returned (.tuple #[partsV (va / 4096) (va / 512 % 8) (va / 64 % 8) (va % 64), .int .i64 0]) ∧ Below w.heap.size w w' := by
  go_enter Try.func43, Try.ntmps43
  go_wp2
  exact bodyPost_ret (v := .tuple #[partsV (va / 4096) (va / 512 % 8) (va / 64 % 8) (va % 64), .int .i64 0]) (by simp [results, Try.results43, go_sem]) rfl ⟨rfl, (Below.refl _ _).alloc (Nat.le_refl _) _⟩
theorem trans_in {n k : Nat} {R Q : Nat → Int} {S : Nat → TS} {m : Nat → Int} {va : Int} (hk : k < n) (hr : R k ≠ -1) (h0 : 0 ≤ va) (h1 : va < 32768) : transC n R Q S 8 m k (va / 64) = ((tA R Q S m k va).1, setT S k (tA R Q S m k va).2) := by
  unfold transC tA
  rw [if_pos ⟨has_of hk, by omega, by omega⟩]
  simp only [Int.toNat_natCast]
  rw [if_neg hr]
section
variable {W w w' : World} {P : Pl} {R Q R2 Q2 : Nat → Int} {S S2 : Nat → TS} {m m2 : Nat → Int}
set_option maxRecDepth 100000 in
set_option maxHeartbeats 4000000 in
theorem Mach.where_in (h : Mach W w P R Q S m R2 Q2 S2 m2) (k : Nat) (va : Int) (wr : Bool) (hk : k < P.n) (hr : R2 k ≠ -1) (h0 : 0 ≤ va) (h1 : va < 32768) (ha : va % 8 = 0) :
    Calls Try.prog 31 #[.pointer (some ⟨P.rb, 0, none⟩), .pointer (some ⟨P.ub, 0, none⟩), .int .i64 k, .int .u64 va, .bool wr] w fun e w' => e = .returned (.tuple #[.int .i64 (if accK (tA R2 Q2 S2 m2 k va).1 wr = 0 then accI (tA R2 Q2 S2 m2 k va).1 va else 0 : Nat), .int .i64 (accK (tA R2 Q2 S2 m2 k va).1 wr)]) ∧ Mach W w' P R Q S m R2 Q2 (setT S2 k (tA R2 Q2 S2 m2 k va).2) m2 ∧ Keep0 P w w' := by
  have HH := Lib.hid (has_of hk)
  have HM := Lib.hid h
  obtain ⟨c0, -, -⟩ := h.ro.row k hk
  have hd := h.ro.hd
  have n3 := h.ro.n3
  have hkI : (k : Int) < P.n := by omega
  have HTI := Lib.hid (trans_in (n := P.n) (Q := Q2) (S := S2) (m := m2) hk hr h0 h1)
  have hf0 : (tA R2 Q2 S2 m2 k va).1.2.2 = 0 → 0 ≤ (tA R2 Q2 S2 m2 k va).1.1.f := fun hz => trans_f0 (n := 8) (m := m2) (r := R2 k) (q := Q2 k) (p := va / 64) (s := S2 k) (h.rg k hk) hz ((h.rq k hk).pos hr).2.2 (by omega) (by omega)
  obtain ⟨⟨⟨⟨xs, xp, xf, xr, xw⟩, hit, tc⟩, ts⟩, hz⟩ : ∃ z, tA R2 Q2 S2 m2 k va = z := ⟨_, rfl⟩
  rw [hz] at HTI hf0 ⊢
  simp only at hf0 ⊢
  have hr1 : (R2 k == -1) = false := beq_eq_false_iff_ne.2 hr
  have hab : (va % 8 == 0) = true := beq_iff_eq.2 ha
  have v1 : ¬ va ≥ 32768 := by omega
  have v2 : va / 64 < 512 := by omega
  clear h hz
  generalize R2 k = rk at *
  obtain ⟨kd, hkd⟩ : ∃ z, accK (⟨xs, xp, xf, xr, xw⟩, hit, tc) wr = z := ⟨_, rfl⟩
  obtain ⟨ad, had⟩ : ∃ z : Nat, (if accK (⟨xs, xp, xf, xr, xw⟩, hit, tc) wr = 0 then accI (⟨xs, xp, xf, xr, xw⟩, hit, tc) va else 0) = z := ⟨_, rfl⟩
  rw [had, hkd]
  have HKD := Lib.hid hkd
  have HAD := Lib.hid had
  have HF0 := Lib.hid hf0
  clear hkd had hf0
  go_enter Try.func31, Try.ntmps31
  go_upto_region 8 with (first
    | (go_at_call 27; (with_reducible refine (HM.out.hasB k).mono ?_); rw [HH.out]; rintro e w1 ⟨rfl, rfl⟩)
    | (go_at_call 43; (with_reducible refine (splitR_yes va _ h0 h1).mono ?_); rintro e w2 ⟨rfl, hb2⟩))
  obtain ⟨w3, hw3⟩ : ∃ z, z = w2.alloc (.cells #[.int .i64 (va / 4096), .int .i64 (va / 512 % 8), .int .i64 (va / 64 % 8), .int .i64 (va % 64)] 111) := ⟨_, rfl⟩
  rw [← hw3]
  have hb3 : Below w.heap.size w w3 := by rw [hw3]; exact bal hb2 _
  have y3 : w3.cell? ⟨w2.heap.size, 3, none⟩ = some (.int .i64 (va % 64)) := by rw [hw3, cellE]; rfl
  have hq3 : w2.heap.size < w3.heap.size := by rw [hw3]; simp
  have HM3 := Lib.hid (HM.out.call hb3)
  have HB3 := Lib.hid hb3
  have HQ0 : Hid (P.col w2.heap.size = 0) := Lib.hid (HM.out.hi _ (Nat.le_trans HM.out.ll hb2.size))
  clear hb2 hw3 hb3
  generalize w2.heap.size = q at *
  go_upto_region 9 with (go_at_call 44; (with_reducible refine (HM3.out.transB k (va / 64)).mono ?_); rw [HTI.out]; rintro e w4 ⟨rfl, hm4, hk4⟩; have HM4 := Lib.hid hm4; have HK4 := Lib.hid hk4; clear hm4 hk4)
  have y4 : w4.cell? ⟨q, 3, none⟩ = some (.int .i64 (va % 64)) := (cell_of_block (HK4.out.blk q hq3 HQ0.out)).trans y3
  have hq4 : q < w4.heap.size := Nat.lt_of_lt_of_le hq3 HK4.out.sz
  obtain ⟨w5, hw5⟩ : ∃ z, z = w4.alloc (.cells #[.int .i64 xs, .int .i64 xp, .int .i64 xf, .bool xr, .bool xw] 104) := ⟨_, rfl⟩
  rw [← hw5]
  have hb5 : Below w4.heap.size w4 w5 := by rw [hw5]; exact bal (Below.refl _ _) _
  obtain ⟨-, -, z2, z3, z4⟩ : TrAt w5 w4.heap.size ⟨xs, xp, xf, xr, xw⟩ := by rw [hw5]; exact tr_new w4 ⟨xs, xp, xf, xr, xw⟩
  have y5 := (hb5.cell (p := ⟨q, 3, none⟩) hq4).trans y4
  have HM5 := Lib.hid (HM4.out.call hb5)
  have HK35 := HK4
  have HB5 : Hid (Below w.heap.size w4 w5) := Lib.hid (hb5.mono (Nat.le_trans HB3.out.size HK4.out.sz))
  have HFR : Hid (∀ j, Calls Try.prog 33 #[.pointer (some ⟨P.ub, 0, none⟩)] (w5.drewN j) fun e w' => e = .returned (.int .i64 8) ∧ w5.drewN j = w') := Lib.hid (fun j => rframes_any (w5.drewN j) P.ub P.ug 8 P.uc m2 (HM5.out.mr.call (below_drewN (Below.refl _ _) _)))
  clear y3 y4 hw5 hb5 hq3 hq4 c0 hd
  generalize w4.heap.size = q2 at *
  by_cases htc : tc = 0
  · by_cases hf : xf < 8
    · have hfp := HF0.out htc
      have hf' : ¬ 8 ≤ xf := by omega
      cases wr
      · cases xr
        · have e1 : accK (⟨xs, xp, xf, false, xw⟩, hit, tc) false = 5 := by unfold accK; simp [htc, hf]
          have e2 := HAD.out
          rw [e1] at e2
          simp only [show (5 : Int) = 0 ↔ False by decide, if_false] at e2
          rw [HKD.out] at e1
          subst e1
          subst e2
          go_quiet ((go_at_call 33; with_reducible exact Calls.quiet_of_same (same_q (HFR.out _))))
          go_wp2
          go_ret2
          exact ⟨rfl, HM5.out.call (below_drewN (Below.refl _ _) _), Keep0.fin HB3.out HK35.out (HB5.out.trans (below_drewN (Below.refl _ _) _))⟩
        · have e1 : accK (⟨xs, xp, xf, true, xw⟩, hit, tc) false = 0 := by unfold accK; simp [htc, hf]
          have e2 := HAD.out
          rw [e1] at e2
          simp only [if_true] at e2
          rw [HKD.out] at e1
          subst e1
          subst e2
          go_quiet ((go_at_call 33; with_reducible exact Calls.quiet_of_same (same_q (HFR.out _))))
          go_wp2
          go_ret2
          have hio : ((accI (⟨xs, xp, xf, true, xw⟩, hit, 0) va : Nat) : Int) = 8 * xf + va % 64 / 8 := by unfold accI; simp only; omega
          rw [hio]
          exact ⟨rfl, HM5.out.call (below_drewN (Below.refl _ _) _), Keep0.fin HB3.out HK35.out (HB5.out.trans (below_drewN (Below.refl _ _) _))⟩
      · cases xw
        · have e1 : accK (⟨xs, xp, xf, xr, false⟩, hit, tc) true = 5 := by unfold accK; simp [htc, hf]
          have e2 := HAD.out
          rw [e1] at e2
          simp only [show (5 : Int) = 0 ↔ False by decide, if_false] at e2
          rw [HKD.out] at e1
          subst e1
          subst e2
          go_quiet ((go_at_call 33; with_reducible exact Calls.quiet_of_same (same_q (HFR.out _))))
          go_wp2
          go_ret2
          exact ⟨rfl, HM5.out.call (below_drewN (Below.refl _ _) _), Keep0.fin HB3.out HK35.out (HB5.out.trans (below_drewN (Below.refl _ _) _))⟩
        · have e1 : accK (⟨xs, xp, xf, xr, true⟩, hit, tc) true = 0 := by unfold accK; simp [htc, hf]
          have e2 := HAD.out
          rw [e1] at e2
          simp only [if_true] at e2
          rw [HKD.out] at e1
          subst e1
          subst e2
          go_quiet ((go_at_call 33; with_reducible exact Calls.quiet_of_same (same_q (HFR.out _))))
          go_wp2
          go_ret2
          have hio : ((accI (⟨xs, xp, xf, xr, true⟩, hit, 0) va : Nat) : Int) = 8 * xf + va % 64 / 8 := by unfold accI; simp only; omega
          rw [hio]
          exact ⟨rfl, HM5.out.call (below_drewN (Below.refl _ _) _), Keep0.fin HB3.out HK35.out (HB5.out.trans (below_drewN (Below.refl _ _) _))⟩
    · have hf' : 8 ≤ xf := by omega
      have e1 : accK (⟨xs, xp, xf, xr, xw⟩, hit, tc) wr = 4 := by unfold accK; simp [hf]
      have e2 := HAD.out
      rw [e1] at e2
      simp only [show (4 : Int) = 0 ↔ False by decide, if_false] at e2
      rw [HKD.out] at e1
      subst e1
      subst e2
      go_quiet ((go_at_call 33; with_reducible exact Calls.quiet_of_same (same_q (HFR.out _))))
      go_wp2
      go_ret2
      exact ⟨rfl, HM5.out.call (below_drewN (Below.refl _ _) _), Keep0.fin HB3.out HK35.out (HB5.out.trans (below_drewN (Below.refl _ _) _))⟩
  · have htc' : (tc == 0) = false := beq_eq_false_iff_ne.2 htc
    have e1 : accK (⟨xs, xp, xf, xr, xw⟩, hit, tc) wr = 4 := by unfold accK; simp [htc]
    have e2 := HAD.out
    rw [e1] at e2
    simp only [show (4 : Int) = 0 ↔ False by decide, if_false] at e2
    rw [HKD.out] at e1
    subst e1
    subst e2
    go_quiet (fail)
    go_wp2
    go_ret2
    exact ⟨rfl, HM5.out.call (below_drewN (Below.refl _ _) _), Keep0.fin HB3.out HK35.out (HB5.out.trans (below_drewN (Below.refl _ _) _))⟩
end
end
/- chapter 8: ready, both machines. -/
section
set_option linter.unusedVariables false
set_option linter.unusedSimpArgs false
open Go.ChangeShapes Go.WideShapes Go.ChangeAt Go.RowKit Go.Shelf
def colG (a b c d e k : Nat) : Nat := if k < a then 0 else if k < b then 1 else if k < c then 3 else if k < d then 2 else if k < e then 4 else 0
theorem colG_0 {a b c d e k : Nat} (h : k < a ∨ (a ≤ k ∧ b ≤ k ∧ c ≤ k ∧ d ≤ k ∧ e ≤ k)) : colG a b c d e k = 0 := by
  unfold colG
  rcases h with h | ⟨h1, h2, h3, h4, h5⟩
  · rw [if_pos h]
  · rw [if_neg (by omega), if_neg (by omega), if_neg (by omega), if_neg (by omega), if_neg (by omega)]
theorem colG_1 {a b c d e k : Nat} (h : a ≤ k) (h2 : k < b) : colG a b c d e k = 1 := by unfold colG; rw [if_neg (by omega), if_pos h2]
theorem colG_3 {a b c d e k : Nat} (h0 : a ≤ b) (h : b ≤ k) (h2 : k < c) : colG a b c d e k = 3 := by unfold colG; rw [if_neg (by omega), if_neg (by omega), if_pos h2]
theorem colG_2 {a b c d e k : Nat} (h0 : a ≤ b) (h1 : b ≤ c) (h : c ≤ k) (h2 : k < d) : colG a b c d e k = 2 := by unfold colG; rw [if_neg (by omega), if_neg (by omega), if_neg (by omega), if_pos h2]
theorem colG_4 {a b c d e k : Nat} (h0 : a ≤ b) (h1 : b ≤ c) (h3 : c ≤ d) (h : d ≤ k) (h2 : k < e) : colG a b c d e k = 4 := by unfold colG; rw [if_neg (by omega), if_neg (by omega), if_neg (by omega), if_neg (by omega), if_pos h2]
theorem even_begin {W w1 w2 w3 w4 : World} {n b g rb rg rc mb mg mc ub ug uc : Nat} {T RT : Nat → Nat} (h1 : CoresAt w1 b g n n (fun _ => -1) (fun _ => 0) T (fun _ => S0)) (h3 : MemAt w2 mb mg 8 mc (fun _ => 0)) (h2 : RCor w3 rb rg n rc (fun _ => -1) (fun _ => 0) RT (fun _ => S0)) (h4 : RefAt w4 ub ug 8 uc (fun _ => 0))
    (l1 : W.heap.size ≤ b) (l2 : W.heap.size ≤ g) (l3 : ∀ i, i < n → W.heap.size ≤ T i) (l7 : w1.heap.size ≤ mb) (l8 : w1.heap.size ≤ mg) (l4 : w2.heap.size ≤ rb) (l5 : w2.heap.size ≤ rg) (l6 : ∀ i, i < n → w2.heap.size ≤ RT i) (l9 : w3.heap.size ≤ ub) (l10 : w3.heap.size ≤ ug)
    (b1 : Below W.heap.size W w1) (b2 : Below w1.heap.size w1 w2) (b3 : Below w2.heap.size w2 w3) (b4 : Below w3.heap.size w3 w4) :
    Even W w4 ⟨b, g, n, n, rb, rg, rc, mb, mg, mc, ub, ug, uc, T, RT, colG W.heap.size w1.heap.size w2.heap.size w3.heap.size w4.heap.size, w4.heap.size⟩ := by
  have s1 := b1.size
  have s2 := b2.size
  have s3 := b3.size
  have s4 := b4.size
  have n1 := h1.n1
  refine ⟨fun _ => -1, fun _ => 0, fun _ => S0, fun _ => 0, ⟨((h1.call b2).call b3).call b4, h2.call b4, (h3.call b3).call b4, h4, ⟨colG_1 l1 h1.lb, colG_1 l2 h1.lg, fun i hi => colG_1 (l3 i hi) (h1.tlb i hi).lt⟩, ⟨colG_2 s1 s2 l4 h2.lb, colG_2 s1 s2 l5 h2.lg, fun i hi => colG_2 s1 s2 (l6 i hi) (h2.tlb i hi).lt⟩, ⟨colG_3 s1 l7 h3.lb, colG_3 s1 l8 h3.lg⟩, ⟨colG_4 s1 s2 s3 l9 h4.lb, colG_4 s1 s2 s3 l10 h4.lg⟩, fun k hk => colG_0 (.inl hk), h1.regs, h1.good, bgo (bgo (bgo b1 b2) b3) b4, fun k hk => colG_0 (.inr (by simp only at hk; omega)), Nat.le_refl _⟩⟩
set_option maxRecDepth 100000 in
set_option maxHeartbeats 4000000 in
theorem ready_both (W : World) : Calls Try.prog 8 #[] W fun e w' => ∃ P, e = .returned (.tuple #[.pointer (some ⟨P.b, 0, none⟩), .pointer (some ⟨P.mb, 0, none⟩), .pointer (some ⟨P.rb, 0, none⟩), .pointer (some ⟨P.ub, 0, none⟩)]) ∧ Even W w' P := by
  go_enter Try.func8, Try.ntmps8
  go_upto_region 2 with (fail)
  refine (cnew_ok _ 2 (by decide) (by decide)).mono ?_
  rintro e w1 ⟨b, g, T, rfl, hc1, hb1, hg1, ht1, hw1⟩
  go_upto_region 3 with (fail)
  refine (new_ok _ 8 (by decide) (by decide)).mono ?_
  rintro e w2 ⟨mb, mg, mc, rfl, hm2, hb2, hg2, hw2⟩
  go_upto_region 4 with (fail)
  refine (rnew_cores _ 2 (by decide) (by decide)).mono ?_
  rintro e w3 ⟨vg, vc, RT, rfl, hv3, hvg3, hvt3, hw3⟩
  go_upto_region 5 with (fail)
  refine (rnew_ok _ 8 (by decide) (by decide)).mono ?_
  rintro e w4 ⟨ub, ug, uc, rfl, hr4, hrb4, hrg4, hw4⟩
  have HE4 := Lib.hid (even_begin hc1 hm2 hv3 hr4 hb1 hg1 ht1 hb2 hg2 (Nat.le_refl _) hvg3 hvt3 hrb4 hrg4 hw1 hw2 hw3 hw4)
  clear hc1 hm2 hv3 hr4 hb1 hg1 ht1 hb2 hg2 hvg3 hvt3 hrb4 hrg4 hw1 hw2 hw3 hw4
  generalize colG W.heap.size w1.heap.size w2.heap.size w3.heap.size w4.heap.size = col at *
  generalize w2.heap.size = rb at *
  obtain ⟨lim, hlim⟩ : ∃ z, w4.heap.size = z := ⟨_, rfl⟩
  rw [hlim] at HE4
  have HLIM := Lib.hid hlim
  clear hlim
  obtain ⟨P, hP⟩ : ∃ P : Pl, P = ⟨b, g, 2, 2, rb, vg, vc, mb, mg, mc, ub, ug, uc, T, RT, col, lim⟩ := ⟨_, rfl⟩
  rw [← hP] at HE4
  obtain ⟨q1, q2, q3, q4⟩ : b = P.b ∧ rb = P.rb ∧ mb = P.mb ∧ ub = P.ub := by rw [hP]; exact ⟨rfl, rfl, rfl, rfl⟩
  have HL2 : Hid (P.lim = lim) := Lib.hid (by rw [hP])
  have HN2 : Hid (P.n = 2) := Lib.hid (by rw [hP])
  rw [q1, q2, q3, q4]
  clear q1 q2 q3 q4 hP
  go_upto_region 8 with (fail)
  have hp5 := put_new w4 30
  have hb5 : Below w4.heap.size w4 (w4.alloc (.cells putA 30)) := bal (Below.refl _ _) _
  have HE5 := Lib.hid (HE4.out.call hb5)
  rw [HLIM.out] at hp5 ⊢
  generalize (w4.alloc (.cells putA 30)) = w5 at hp5 HE5 ⊢
  have HP5 := Lib.hid hp5
  clear hb5 hp5 HE4
  go_wp2
  go_loopw [13] (fun i wr => ∃ (k j : Nat), k ≤ 9 ∧ Hid (j = 2 * k) ∧ i = .int .i64 j ∧ Hid (Even W wr P) ∧ Hid (PutAt wr lim)) (fun i _ => 18 - (intOf i).toNat)
  case atStart => exact ⟨0, 0, by omega, Lib.hid rfl, rfl, HE5, HP5⟩
  case round =>
    clear HE5 HP5
    obtain ⟨k, j, hk, HJ, rfl, HE, HP⟩ := hrel
    obtain ⟨R, Q, S, m, hM⟩ := HE.out
    have HQ0 : Hid (P.col lim = 0) := Lib.hid (hM.hi _ (Nat.le_of_eq HL2.out))
    have HM := Lib.hid hM
    clear hM HE
    by_cases hlt : k < 9
    · have hj16 : (j : Int) < 18 := by have := HJ.out; omega
      have hj01 : (0 : Int) ≤ (j : Int) + 1 := by omega
      have hj00 : (0 : Int) ≤ (j : Int) := by omega
      have hjt : ((j : Int) + 1).toNat = j + 1 := by omega
      have hj19 : (j : Int) < 17 := by have := HJ.out; omega
      have hjn : j < 17 := by omega
      have hjm : j + 1 < 18 := by omega
      have hwj : IntKind.i64.wrap ((j : Int) + 1) = (j : Int) + 1 := IntWalk.i64_in _ (by omega)
      have hj17 : (j : Int) + 1 < 18 := by have := HJ.out; omega
      obtain ⟨p0, p1⟩ := HP.out.2 k hlt
      rw [← HJ.out] at p0 p1
      have hix := ixP_lt k hlt
      have HVW := Lib.hid (vlP_w k hlt)
      have HAW : Hid (WordI (8 * (ixP k : Int))) := Lib.hid ⟨by omega, by omega⟩
      have HMd := Lib.hid (HM.out.call (Below.refl _ _).drew)
      have hpl := HP.out.1
      go_upto_region 11 with fail
      go_cut [55] from 39 to 66 (fun _ wd => Hid (Mach W wd P R Q S (storeF 8 m (8 * (ixP k : Int)) (vlP k)) R Q S m) ∧ Hid (PutAt wd lim))
      case first =>
        go_region_with (first
          | (go_at_call 12; refine (HMd.out.stA (8 * (ixP k : Int)) (vlP k) HAW.out HVW.out).mono ?_; rintro e w6 ⟨rfl, hm6, hk6⟩; have HM6 := Lib.hid hm6; have HP6 : Hid (PutAt w6 lim) := Lib.hid (HP.out.of_block hk6.sz (hk6.blk lim hpl HQ0.out)); clear hm6 hk6))
        all_goals (go_wp2_with fail; go_meet; exact ⟨HM6, HP6⟩)
      case rest =>
        obtain ⟨HM6, HP6⟩ := hcut
        obtain ⟨p0, p1⟩ := HP6.out.2 k hlt
        rw [← HJ.out] at p0 p1
        have HMe := Lib.hid (HM6.out.call (Below.refl _ _).drew)
        have hpl := HP6.out.1
        go_upto_region 12 with fail
        go_region_with (first
          | (go_at_call 13; refine (HMe.out.stB (8 * (ixP k : Int)) (vlP k) HAW.out HVW.out).mono ?_; rintro e w7 ⟨rfl, hm7, hk7⟩; have HM7 := Lib.hid hm7; have HP7 : Hid (PutAt w7 lim) := Lib.hid (HP6.out.of_block hk7.sz (hk7.blk lim hpl HQ0.out)); clear hm7 hk7))
        all_goals
          go_wp2
          go_roundw
          case rel => exact ⟨k + 1, j + 2, by omega, Lib.hid (by have := HJ.out; omega), by go_num, Lib.hid ⟨_, _, _, _, HM7.out⟩, HP7⟩
          case measure => simp [intOf]; omega
    · obtain rfl : k = 9 := by omega
      have hj18 : j = 18 := by have := HJ.out; omega
      subst hj18
      clear HP HJ hlt hk
      go_wp2_with (first
        | (go_at_call 10; (with_reducible refine (HM7.out.setA 1 0 2).mono ?_); rintro e w8 ⟨rfl, hm, -⟩; have HM8 := Lib.hid hm; clear hm)
        | (go_at_call 10; (with_reducible refine (HM.out.setA 0 0 1).mono ?_); rintro e w6 ⟨rfl, hm, -⟩; have HM6 := Lib.hid hm; clear hm)
        | (go_at_call 11; (with_reducible refine (HM8.out.setB 1 0 2).mono ?_); rintro e w9 ⟨rfl, hm, -⟩; have HM9 := Lib.hid hm; clear hm)
        | (go_at_call 11; (with_reducible refine (HM6.out.setB 0 0 1).mono ?_); rintro e w7 ⟨rfl, hm, -⟩; have HM7 := Lib.hid hm; clear hm))
      go_wp2
      exact bodyPost_ret (v := .tuple #[.pointer (some ⟨P.b, 0, none⟩), .pointer (some ⟨P.mb, 0, none⟩), .pointer (some ⟨P.rb, 0, none⟩), .pointer (some ⟨P.ub, 0, none⟩)]) (by simp [results, Try.results8, go_sem]) rfl ⟨P, rfl, ⟨_, _, _, _, HM9.out⟩⟩
end
/- chapter 8's own answer: Load, Store. -/
section
set_option linter.unusedVariables false
set_option linter.unusedSimpArgs false
open Go.ChangeShapes Go.WideShapes Go.ChangeAt Go.RowKit Go.Shelf

section
variable {W w w' : World} {P : Pl} {R Q R2 Q2 : Nat → Int} {S S2 : Nat → TS} {m m2 : Nat → Int}
theorem where_far (w : World) (b m : Option Addr) (k va : Int) (wr : Bool) (h : ¬ va < 32768) :
    Calls Try.prog 31 #[.pointer b, .pointer m, .int .i64 k, .int .u64 va, .bool wr] w fun e w' => e = .returned (.tuple #[.int .i64 0, .int .i64 1]) ∧ w = w' := by
  have h1 : va ≥ 32768 := by omega
  clear h
  go_enter Try.func31, Try.ntmps31
  go_wp2
  go_ret2
  exact ⟨rfl, rfl⟩
theorem where_odd (w : World) (b m : Option Addr) (k va : Int) (wr : Bool) (h0 : 0 ≤ va) (h : va < 32768) (h2 : ¬ va % 8 = 0) :
    Calls Try.prog 31 #[.pointer b, .pointer m, .int .i64 k, .int .u64 va, .bool wr] w fun e w' => e = .returned (.tuple #[.int .i64 0, .int .i64 2]) ∧ w = w' := by
  have h1 : ¬ va ≥ 32768 := by omega
  have h3 : (va % 8 == 0) = false := beq_eq_false_iff_ne.2 h2
  go_enter Try.func31, Try.ntmps31
  go_wp2
  go_ret2
  exact ⟨rfl, rfl⟩
set_option maxRecDepth 100000 in
set_option maxHeartbeats 1000000 in
theorem Mach.where_sp (h : Mach W w P R Q S m R2 Q2 S2 m2) (k va : Int) (wr : Bool) (h0 : 0 ≤ va) (h1 : va < 32768) (ha : va % 8 = 0) (hc : ¬ (hasC P.n k = true ∧ R2 k.toNat ≠ -1)) :
    Calls Try.prog 31 #[.pointer (some ⟨P.rb, 0, none⟩), .pointer (some ⟨P.ub, 0, none⟩), .int .i64 k, .int .u64 va, .bool wr] w fun e w' => e = .returned (.tuple #[.int .i64 0, .int .i64 3]) ∧ w = w' := by
  have hab : (va % 8 == 0) = true := beq_iff_eq.2 ha
  have v1 : ¬ va ≥ 32768 := by omega
  have HM := Lib.hid h
  by_cases hh : hasC P.n k = true
  · obtain ⟨j, hj, rfl⟩ := has_nat hh
    have hr : R2 j = -1 := by
      by_cases e : R2 j = -1
      · exact e
      · exact absurd ⟨hh, by simpa using e⟩ hc
    have HH := Lib.hid hh
    obtain ⟨c0, -, -⟩ := h.ro.row j hj
    rw [hr] at c0
    have hd := h.ro.hd
    have n3 := h.ro.n3
    have hkI : (j : Int) < P.n := by omega
    clear h hc hh hr
    go_enter Try.func31, Try.ntmps31
    go_wp2_with (go_at_call 27; (with_reducible refine (HM.out.hasB j).mono ?_); rw [HH.out]; rintro e w1 ⟨rfl, rfl⟩)
    go_ret2
    exact ⟨rfl, rfl⟩
  · have HH : Hid (hasC P.n k = false) := Lib.hid (by simpa using hh)
    clear h hc hh
    go_enter Try.func31, Try.ntmps31
    go_wp2_with (go_at_call 27; (with_reducible refine (HM.out.hasB k).mono ?_); rw [HH.out]; rintro e w1 ⟨rfl, rfl⟩)
    go_ret2
    exact ⟨rfl, rfl⟩
theorem Mach.whereB (h : Mach W w P R Q S m R2 Q2 S2 m2) (k va : Int) (wr : Bool) (h0 : 0 ≤ va) :
    Calls Try.prog 31 #[.pointer (some ⟨P.rb, 0, none⟩), .pointer (some ⟨P.ub, 0, none⟩), .int .i64 k, .int .u64 va, .bool wr] w fun e w' => e = .returned (.tuple #[.int .i64 (if kdA P.n R2 Q2 S2 m2 k va wr = 0 then ixA R2 Q2 S2 m2 k va else 0 : Nat), .int .i64 (kdA P.n R2 Q2 S2 m2 k va wr)]) ∧ Mach W w' P R Q S m R2 Q2 (nsA P.n R2 Q2 S2 m2 k va) m2 ∧ Keep0 P w w' := by
  by_cases c1 : va < 32768
  · by_cases c2 : va % 8 = 0
    · by_cases c3 : hasC P.n k = true ∧ R2 k.toNat ≠ -1
      · obtain ⟨j, hj, rfl⟩ := has_nat c3.1
        simp only [Int.toNat_natCast] at c3
        obtain ⟨e1, e2, e3⟩ := kd_in (Q := Q2) (S := S2) (m := m2) (wr := wr) c1 c2 hj c3.2
        rw [e1, e2, e3]
        exact h.where_in j va wr hj c3.2 h0 c1 c2
      · obtain ⟨e1, e2⟩ := kd_sp (Q := Q2) (S := S2) (m := m2) (wr := wr) c1 c2 c3
        rw [e1, e2, if_neg (show ¬ (3 : Int) = 0 by decide)]
        exact (h.where_sp k va wr h0 c1 c2 c3).mono fun e w' ⟨q1, q2⟩ => q2 ▸ ⟨q1, h, ⟨Nat.le_refl _, fun _ _ _ => rfl⟩⟩
    · obtain ⟨e1, e2⟩ := kd_odd (n := P.n) (R := R2) (Q := Q2) (S := S2) (m := m2) (k := k) (wr := wr) c1 c2
      rw [e1, e2, if_neg (show ¬ (2 : Int) = 0 by decide)]
      exact (where_odd w _ _ k va wr h0 c1 c2).mono fun e w' ⟨q1, q2⟩ => q2 ▸ ⟨q1, h, ⟨Nat.le_refl _, fun _ _ _ => rfl⟩⟩
  · obtain ⟨e1, e2⟩ := kd_far (n := P.n) (R := R2) (Q := Q2) (S := S2) (m := m2) (k := k) (wr := wr) c1
    rw [e1, e2, if_neg (show ¬ (1 : Int) = 0 by decide)]
    exact (where_far w _ _ k va wr c1).mono fun e w' ⟨q1, q2⟩ => q2 ▸ ⟨q1, h, ⟨Nat.le_refl _, fun _ _ _ => rfl⟩⟩
/-- A word's place is within the memory. -/
theorem Mach.ix_lt (h : Mach W w P R Q S m R2 Q2 S2 m2) {k va : Int} {wr : Bool} (h0 : 0 ≤ va) (hk : kdA P.n R2 Q2 S2 m2 k va wr = 0) : ixA R2 Q2 S2 m2 k va < 64 := by
  by_cases c1 : va < 32768
  · by_cases c2 : va % 8 = 0
    · by_cases c3 : hasC P.n k = true ∧ R2 k.toNat ≠ -1
      · obtain ⟨j, hj, rfl⟩ := has_nat c3.1
        simp only [Int.toNat_natCast] at c3
        obtain ⟨e1, e2, e3⟩ := kd_in (Q := Q2) (S := S2) (m := m2) (wr := wr) c1 c2 hj c3.2
        rw [e1] at hk
        rw [e3]
        obtain ⟨q1, q2⟩ := acc_ok hk
        have := trans_f0 (n := 8) (m := m2) (r := R2 j) (q := Q2 j) (p := va / 64) (s := S2 j) (h.rg j hj) q1 ((h.rq j hj).pos c3.2).2.2 (by omega) (by omega)
        change 0 ≤ (tA R2 Q2 S2 m2 j va).1.1.f at this
        unfold accI
        omega
      · rw [(kd_sp (Q := Q2) (S := S2) (m := m2) (wr := wr) c1 c2 c3).1] at hk; exact absurd hk (by decide)
    · rw [(kd_odd c1 c2).1] at hk; exact absurd hk (by decide)
  · rw [(kd_far c1).1] at hk; exact absurd hk (by decide)
theorem FltAt.of_block {w w' : World} {q : Nat} {a b c : Value} (h : FltAt w q a b c) (hs : w.heap.size ≤ w'.heap.size) (e : w'.heap[q]? = w.heap[q]?) : FltAt w' q a b c :=
  ⟨(cell_of_block e).trans h.c0, (cell_of_block e).trans h.c1, (cell_of_block e).trans h.c2, fun j => (frozen_of_block e).trans (h.fr j), Nat.lt_of_lt_of_le h.lt hs⟩
theorem below_set3 {A W : World} {B q : Nat} (h : Below B A W) (hq : B ≤ q) (v0 v1 v2 : Value) : Below B A (((W.setCell ⟨q, 0, none⟩ v0).setCell ⟨q, 1, none⟩ v1).setCell ⟨q, 2, none⟩ v2) :=
  ((h.setCell hq _).setCell hq _).setCell hq _
set_option maxRecDepth 100000 in
set_option maxHeartbeats 2000000 in
theorem Mach.loadB (h : Mach W w P R Q S m R2 Q2 S2 m2) (k va : Int) (h0 : 0 ≤ va) :
    Calls Try.prog 17 #[.pointer (some ⟨P.rb, 0, none⟩), .pointer (some ⟨P.ub, 0, none⟩), .int .i64 k, .int .u64 va] w fun e w' => e = .returned (.tuple #[.int .u64 (if kdA P.n R2 Q2 S2 m2 k va false = 0 then m2 (ixA R2 Q2 S2 m2 k va) else 0), fV (kdA P.n R2 Q2 S2 m2 k va false) va false]) ∧ Mach W w' P R Q S m R2 Q2 (nsA P.n R2 Q2 S2 m2 k va) m2 ∧ Keep0 P w w' := by
  have hb1 : Below w.heap.size w (w.alloc (.cells #[.int .i64 0, .int .u64 0, .bool false] 40)) := bal (Below.refl _ _) _
  have HM := Lib.hid h
  have HM1 := Lib.hid (h.call hb1)
  have HX := Lib.hid (fun (q : kdA P.n R2 Q2 S2 m2 k va false = 0) => h.ix_lt h0 q)
  have HQ0 : Hid (P.col w.heap.size = 0) := Lib.hid (h.hi _ h.ll)
  have HF1 := Lib.hid (FltAt.new w 40 (.int .i64 0) (.int .u64 0) (.bool false))
  obtain ⟨kd, hkd⟩ : ∃ z, kdA P.n R2 Q2 S2 m2 k va false = z := ⟨_, rfl⟩
  obtain ⟨ix, hix⟩ : ∃ z, ixA R2 Q2 S2 m2 k va = z := ⟨_, rfl⟩
  rw [hkd, hix]
  have HKD := Lib.hid hkd
  have HIX := Lib.hid hix
  have HB1 := Lib.hid hb1
  clear hkd hix h hb1
  by_cases hz : kd = 0
  · subst hz
    have hx := HX.out HKD.out
    rw [HIX.out] at hx
    have hxI : (ix : Int) < 64 := by omega
    rw [if_pos rfl]
    clear HX
    go_enter Try.func17, Try.ntmps17
    go_upto_region 2 with (go_at_call 31; (with_reducible refine (HM1.out.whereB k va false h0).mono ?_); rw [HKD.out, HIX.out, if_pos rfl]; rintro e w2 ⟨rfl, hm2, hk2⟩; have HM2 := Lib.hid hm2; have HK2 := Lib.hid hk2; clear hm2 hk2)
    obtain ⟨f0, f1, f2, fr, fl⟩ := HF1.out.of_block HK2.out.sz (HK2.out.blk _ HF1.out.lt HQ0.out)
    have fr0 := fr 0
    have fr1 := fr 1
    have fr2 := fr 2
    have hd := HM2.out.mr.hd
    have hcx := HM2.out.mr.cells ix (by omega)
    have hug := HM2.out.mr.lg
    clear fr
    go_wp2
    have hb3 := below_set3 (Below.refl w.heap.size w2) (Nat.le_refl _) (.int .i64 0) (.int .u64 0) (.bool false)
    exact bodyPost_ret (v := .tuple #[.int .u64 (m2 ix), noF]) (by simp [results, Try.results17, go_sem, f0, f1, f2]) rfl ⟨rfl, HM.out.low2 HM2.out hb3, Keep0.fin HB1.out HK2.out hb3⟩
  · rw [if_neg hz]
    have hfv : fV kd va false = faultV kd va false := by unfold fV; rw [if_neg hz]
    rw [hfv]
    clear HX hfv
    go_enter Try.func17, Try.ntmps17
    go_upto_region 2 with (go_at_call 31; (with_reducible refine (HM1.out.whereB k va false h0).mono ?_); rw [HKD.out, HIX.out, if_neg hz]; rintro e w2 ⟨rfl, hm2, hk2⟩; have HM2 := Lib.hid hm2; have HK2 := Lib.hid hk2; clear hm2 hk2)
    obtain ⟨f0, f1, f2, fr, fl⟩ := HF1.out.of_block HK2.out.sz (HK2.out.blk _ HF1.out.lt HQ0.out)
    have fr0 := fr 0
    have fr1 := fr 1
    have fr2 := fr 2
    clear fr
    go_wp2
    have hb3 := below_set3 (Below.refl w.heap.size w2) (Nat.le_refl _) (.int .i64 kd) (.int .u64 va) (.bool false)
    exact bodyPost_ret (v := .tuple #[.int .u64 0, faultV kd va false]) (by simp [results, Try.results17, go_sem, f0, f1, f2]) rfl ⟨rfl, HM.out.low2 HM2.out hb3, Keep0.fin HB1.out HK2.out hb3⟩
set_option maxRecDepth 100000 in
set_option maxHeartbeats 2000000 in
theorem Mach.storeB (h : Mach W w P R Q S m R2 Q2 S2 m2) (k va v : Int) (h0 : 0 ≤ va) (hv : WordI v) :
    Calls Try.prog 15 #[.pointer (some ⟨P.rb, 0, none⟩), .pointer (some ⟨P.ub, 0, none⟩), .int .i64 k, .int .u64 va, .int .u64 v] w fun e w' => e = .returned (fV (kdA P.n R2 Q2 S2 m2 k va true) va true) ∧ Mach W w' P R Q S m R2 Q2 (nsA P.n R2 Q2 S2 m2 k va) (if kdA P.n R2 Q2 S2 m2 k va true = 0 then updM m2 (ixA R2 Q2 S2 m2 k va) v else m2) ∧ Keep0 P w w' := by
  have hb1 : Below w.heap.size w (w.alloc (.cells #[.int .i64 0, .int .u64 0, .bool false] 40)) := bal (Below.refl _ _) _
  have HM := Lib.hid h
  have HM1 := Lib.hid (h.call hb1)
  have HX := Lib.hid (fun (q : kdA P.n R2 Q2 S2 m2 k va true = 0) => h.ix_lt h0 q)
  have HQ0 : Hid (P.col w.heap.size = 0) := Lib.hid (h.hi _ h.ll)
  have HF1 := Lib.hid (FltAt.new w 40 (.int .i64 0) (.int .u64 0) (.bool false))
  have HV := Lib.hid hv
  obtain ⟨kd, hkd⟩ : ∃ z, kdA P.n R2 Q2 S2 m2 k va true = z := ⟨_, rfl⟩
  obtain ⟨ix, hix⟩ : ∃ z, ixA R2 Q2 S2 m2 k va = z := ⟨_, rfl⟩
  rw [hkd, hix]
  have HKD := Lib.hid hkd
  have HIX := Lib.hid hix
  have HB1 := Lib.hid hb1
  have hug0 := h.mr.lg
  clear hkd hix h hb1 hv
  by_cases hz : kd = 0
  · subst hz
    have hx := HX.out HKD.out
    rw [HIX.out] at hx
    have hxI : (ix : Int) < 64 := by omega
    rw [if_pos rfl]
    clear HX
    go_enter Try.func15, Try.ntmps15
    go_upto_region 2 with (go_at_call 31; (with_reducible refine (HM1.out.whereB k va true h0).mono ?_); rw [HKD.out, HIX.out, if_pos rfl]; rintro e w2 ⟨rfl, hm2, hk2⟩; have HM2 := Lib.hid hm2; have HK2 := Lib.hid hk2; clear hm2 hk2)
    have HF2 := Lib.hid (HF1.out.of_block HK2.out.sz (HK2.out.blk _ HF1.out.lt HQ0.out))
    have hd := HM2.out.mr.hd
    have hcx := HM2.out.mr.cells ix (by omega)
    have hug := HM2.out.mr.lg
    have hfx := HM2.out.mr.free ix
    have hne : w.heap.size ≠ P.ug := by omega
    obtain ⟨q3, k3⟩ := HM2.out.turn4 (w' := w2.setCell ⟨P.ug, ix, none⟩ (.int .u64 v)) (.of_blk ((BlkOnly.refl _ _).set _ _) HM.out.k4.2) (ref_set HM2.out.mr (k := ix) (by omega) HV.out)
    obtain ⟨f0, f1, f2, fr, fl⟩ := HF2.out.of_block k3.sz (k3.blk _ HF2.out.lt HQ0.out)
    have fr0 := fr 0
    have fr1 := fr 1
    have fr2 := fr 2
    have HM3 := Lib.hid q3
    have HK3 := Lib.hid (show Keep0 P _ _ from ⟨Nat.le_trans HK2.out.sz k3.sz, fun j hj h0 => (k3.blk j (Nat.lt_of_lt_of_le hj HK2.out.sz) h0).trans (HK2.out.blk j hj h0)⟩)
    clear fr q3 k3
    go_upto_region 5 with fail
    generalize w2.setCell ⟨P.ug, ix, none⟩ (.int .u64 v) = w3 at *
    go_wp2
    have hb3 := below_set3 (Below.refl w.heap.size w3) (Nat.le_refl _) (.int .i64 0) (.int .u64 0) (.bool false)
    exact bodyPost_ret (v := noF) (by simp [results, Try.results15, go_sem, f0, f1, f2]) rfl ⟨rfl, HM.out.low2 HM3.out hb3, Keep0.fin HB1.out HK3.out hb3⟩
  · rw [if_neg hz]
    have hfv : fV kd va true = faultV kd va true := by unfold fV; rw [if_neg hz]
    rw [hfv]
    clear HX hfv
    go_enter Try.func15, Try.ntmps15
    go_upto_region 2 with (go_at_call 31; (with_reducible refine (HM1.out.whereB k va true h0).mono ?_); rw [HKD.out, HIX.out, if_neg hz]; rintro e w2 ⟨rfl, hm2, hk2⟩; have HM2 := Lib.hid hm2; have HK2 := Lib.hid hk2; clear hm2 hk2)
    obtain ⟨f0, f1, f2, fr, fl⟩ := HF1.out.of_block HK2.out.sz (HK2.out.blk _ HF1.out.lt HQ0.out)
    have fr0 := fr 0
    have fr1 := fr 1
    have fr2 := fr 2
    clear fr
    go_wp2
    have hb3 := below_set3 (Below.refl w.heap.size w2) (Nat.le_refl _) (.int .i64 kd) (.int .u64 va) (.bool true)
    exact bodyPost_ret (v := faultV kd va true) (by simp [results, Try.results15, go_sem, f0, f1, f2]) rfl ⟨rfl, HM.out.low2 HM2.out hb3, Keep0.fin HB1.out HK2.out hb3⟩
end
end
/- The law AccessScript. -/
section
set_option linter.unusedVariables false
set_option linter.unusedSimpArgs false
open Go.ChangeShapes Go.WideShapes Go.ChangeAt Go.RowKit Go.Shelf
structure ActY where
  co : Int
  va : Int
  v : Int
  wr : Bool
  rw_ : Bool
  ro : Int
  sp : Int
  sr : Bool
def ActYAt (w : World) (b o : Nat) (x : ActY) : Prop :=
  w.cell? ⟨b, o, none⟩ = some (.int .i64 x.co) ∧ w.cell? ⟨b, o + 1, none⟩ = some (.int .u64 x.va) ∧ w.cell? ⟨b, o + 2, none⟩ = some (.int .u64 x.v) ∧ w.cell? ⟨b, o + 3, none⟩ = some (.bool x.wr) ∧ w.cell? ⟨b, o + 4, none⟩ = some (.bool x.rw_) ∧ w.cell? ⟨b, o + 5, none⟩ = some (.int .i64 x.ro) ∧ w.cell? ⟨b, o + 6, none⟩ = some (.int .i64 x.sp) ∧ w.cell? ⟨b, o + 7, none⟩ = some (.bool x.sr)
def ActsY (w : World) (p : Option Addr) (n : Nat) (D : Nat → ActY) : Prop :=
  ∃ b off, (0 < n → p = some ⟨b, off, none⟩ ∧ b < w.heap.size) ∧ ∀ k, k < n → ActYAt w b (off + k * 8) (D k) ∧ WordI (D k).va ∧ WordI (D k).v
set_option maxRecDepth 100000 in
theorem open_s22 {H : Type} {enc : TypeId × Value → H} {W : World} {base : Nat} {v : Value} {d : DataW H} {ps : List MemPlace} (hval : Value.okWide Try.prog W .any base 22 v) (hd : DataW.Trod enc Try.prog W 0 (fun _ => true) true 22 v d ps) :
    ∃ p n c, v = .slice p n c ∧ n ≤ c ∧ c ≤ maxLen ∧ ∃ D, ActsY W p n D := by
  obtain ⟨p, n, c, rfl, h1, h2, b, off, h3, h4⟩ := open_rows (C := 8) Try.underlying22 (by kernel_rfl) (by kernel_rfl) (by decide) hval hd
  refine ⟨p, n, c, rfl, h1, h2, fun k => ⟨intAt W b (off + (k * 8 + 0)), intAt W b (off + (k * 8 + 1)), intAt W b (off + (k * 8 + 2)), boolAt W b (off + (k * 8 + 3)), boolAt W b (off + (k * 8 + 4)), intAt W b (off + (k * 8 + 5)), intAt W b (off + (k * 8 + 6)), boolAt W b (off + (k * 8 + 7))⟩, b, off, h3, fun k hk => ?_⟩
  obtain ⟨c0, o0⟩ := h4 k hk 0 (.i .i64) (by kernel_rfl)
  obtain ⟨c1, o1⟩ := h4 k hk 1 (.i .u64) (by kernel_rfl)
  obtain ⟨c2, o2⟩ := h4 k hk 2 (.i .u64) (by kernel_rfl)
  have c3 := h4 k hk 3 .b (by kernel_rfl)
  have c4 := h4 k hk 4 .b (by kernel_rfl)
  obtain ⟨c5, o5⟩ := h4 k hk 5 (.i .i64) (by kernel_rfl)
  obtain ⟨c6, o6⟩ := h4 k hk 6 (.i .i64) (by kernel_rfl)
  have c7 := h4 k hk 7 .b (by kernel_rfl)
  refine ⟨⟨?_, ?_, ?_, ?_, ?_, ?_, ?_, ?_⟩, u64_of o1, u64_of o2⟩
  all_goals first | exact c0 | exact c1 | exact c2 | exact c3 | exact c4 | exact c5 | exact c6 | exact c7 | (simp only [Nat.add_assoc]; first | exact c0 | exact c1 | exact c2 | exact c3 | exact c4 | exact c5 | exact c6 | exact c7)
def XY (w' : World) (xB : Nat) (co va v : Int) (wr rw_ : Bool) (ro sp : Int) (sr : Bool) : Prop := w'.cell? ⟨xB, 0, none⟩ = some (.int .i64 co) ∧ w'.cell? ⟨xB, 1, none⟩ = some (.int .u64 va) ∧ w'.cell? ⟨xB, 2, none⟩ = some (.int .u64 v) ∧ w'.cell? ⟨xB, 3, none⟩ = some (.bool wr) ∧ w'.cell? ⟨xB, 4, none⟩ = some (.bool rw_) ∧ w'.cell? ⟨xB, 5, none⟩ = some (.int .i64 ro) ∧ w'.cell? ⟨xB, 6, none⟩ = some (.int .i64 sp) ∧ w'.cell? ⟨xB, 7, none⟩ = some (.bool sr)
theorem XY.of_block {w w' : World} {xB : Nat} {co va v : Int} {wr rw_ : Bool} {ro sp : Int} {sr : Bool} (h : XY w xB co va v wr rw_ ro sp sr) (e : w'.heap[xB]? = w.heap[xB]?) : XY w' xB co va v wr rw_ ro sp sr := by
  obtain ⟨h0, h1, h2, h3, h4, h5, h6, h7⟩ := h
  exact ⟨(cell_of_block e).trans h0, (cell_of_block e).trans h1, (cell_of_block e).trans h2, (cell_of_block e).trans h3, (cell_of_block e).trans h4, (cell_of_block e).trans h5, (cell_of_block e).trans h6, (cell_of_block e).trans h7⟩
theorem XY.lt {w : World} {xB : Nat} {co va v : Int} {wr rw_ : Bool} {ro sp : Int} {sr : Bool} (h : XY w xB co va v wr rw_ ro sp sr) : xB < w.heap.size := by
  have h0 := h.1
  unfold World.cell? at h0
  cases e : w.heap[xB]? with
  | none => simp [e] at h0
  | some o => exact (Array.getElem?_eq_some_iff.1 e).1
theorem xy_new (w : World) (co va v : Int) (wr rw_ : Bool) (ro sp : Int) (sr : Bool) (T : TypeId) : XY (w.alloc (.cells #[.int .i64 co, .int .u64 va, .int .u64 v, .bool wr, .bool rw_, .int .i64 ro, .int .i64 sp, .bool sr] T)) w.heap.size co va v wr rw_ ro sp sr := by
  refine ⟨?_, ?_, ?_, ?_, ?_, ?_, ?_, ?_⟩ <;> simp [go_sem]
theorem num_y (n : Int) (w : World) : Calls Try.prog 9 #[.int .i64 n] w fun e w' => e = .returned (.int .i64 n) ∧ w = w' := by
  go_enter Try.func9, Try.ntmps9
  go_wp2
  go_ret
  exact ⟨rfl, rfl⟩
theorem neFl (a b : Int) (c : Bool) (w : World) : (binOp .neq 40 (faultV a b c) (faultV a b c)).run Try.prog w = .ok (.bool false) w := by
  go_simp
  try simp
theorem fV_eq2 (kd va : Int) (wr : Bool) : fV kd va wr = faultV kd (if kd = 0 then 0 else va) (if kd = 0 then false else wr) := by
  unfold fV
  split
  · rename_i h; subst h; rfl
  · rfl
theorem alikeM_any (w : World) (b g n c rb rg rc : Nat) (m : Nat → Int) (h : MemAt w b g n c m) (hr : RefAt w rb rg n rc m) :
    Calls Try.prog 18 #[.pointer (some ⟨b, 0, none⟩), .pointer (some ⟨rb, 0, none⟩)] w fun e w' => e = .returned (.bool true) ∧ Below w.heap.size w w' := by
  have H := Lib.hid h
  have HR := Lib.hid hr
  have hn := h.n64
  clear h hr
  go_enter Try.func18, Try.ntmps18
  go_wp2_with (first
    | (go_at_call 32; refine (frames_any _ b g n c m H.out).mono ?_; rintro e w1 ⟨rfl, rfl⟩)
    | (go_at_call 33; refine (rframes_any _ rb rg n rc m HR.out).mono ?_; rintro e w1 ⟨rfl, rfl⟩))
  go_loopw [5] (fun i wr => ∃ k : Nat, k ≤ n ∧ i = .int .i64 k ∧ Hid (MemAt wr b g n c m) ∧ Hid (RefAt wr rb rg n rc m) ∧ Below w.heap.size w wr) (fun i _ => n - (intOf i).toNat)
  case atStart => exact ⟨0, by omega, rfl, H, HR, Below.refl _ _⟩
  case round =>
    obtain ⟨f, hf, rfl, HM, HF, hB⟩ := hrel
    clear H HR
    by_cases hlf : f < n
    · have hlf' : (f : Int) < n := by omega
      go_wp2_with (first
        | (go_at_call 33; refine (rframes_any _ rb rg n rc m HF.out).mono ?_; rintro e w1 ⟨rfl, rfl⟩))
      refine (words_ok _ b g n c f m HM.out hlf).mono ?_
      rintro e w5 ⟨v5, rfl, hr5, hw5⟩
      obtain ⟨q5, z5, rfl, -, -, -, l5, -, x5⟩ := own_form hr5 (by decide)
      have X5 := Lib.hid x5
      have HF5 := Lib.hid (HF.out.call hw5)
      have HM5 := Lib.hid (HM.out.call hw5)
      clear hr5 x5
      go_wp2_with (fail)
      refine (rwords_ok _ rb rg n rc f m HF5.out hlf).mono ?_
      rintro e w6 ⟨v6, rfl, hr6, hw6⟩
      obtain ⟨q6, z6, rfl, -, -, -, l6, -, x6⟩ := own_form hr6 (by decide)
      have X6 := Lib.hid x6
      have HF6 := Lib.hid (HF5.out.call hw6)
      have HM6 := Lib.hid (HM5.out.call hw6)
      have hB6 : Below w.heap.size w w6 := bgo (bgo hB hw5) hw6
      clear hr6 x6 HF5 HM5
      have hs : Calls Try.prog 36 #[.slice (some ⟨q5, 0, none⟩) 8 z5, .slice (some ⟨q6, 0, none⟩) 8 z6] w6 fun e w' => e = .returned (.bool true) ∧ Below w6.heap.size w6 w' :=
        same_any w6 q5 q6 8 z5 z6 (fun j => m (8 * f + j)) (by decide) (fun j hj => (hw6.cell (p := ⟨q5, j, none⟩) l5).trans (X5.out j _ (wordsL_at _ _ _ _ hj))) (fun j hj => X6.out j _ (wordsL_at _ _ _ _ hj))
      have HS := Lib.hid hs
      clear hs
      go_wp2_with (first
        | (go_at_call 36; refine HS.out.mono ?_; rintro e w7 ⟨rfl, hw7⟩))
      go_roundw
      case rel => exact ⟨f + 1, by omega, by go_num, Lib.hid (HM6.out.call hw7), Lib.hid (HF6.out.call hw7), bgo hB6 hw7⟩
      case measure => simp [intOf]; omega
    · obtain rfl : f = n := by omega
      go_wp2_with (first
        | (go_at_call 33; refine (rframes_any _ rb rg f rc m HF.out).mono ?_; rintro e w1 ⟨rfl, rfl⟩))
      go_ret
      exact ⟨rfl, hB⟩
theorem Even.alikeM {W w : World} {P : Pl} (h : Even W w P) :
    Calls Try.prog 18 #[.pointer (some ⟨P.mb, 0, none⟩), .pointer (some ⟨P.ub, 0, none⟩)] w fun e w' => e = .returned (.bool true) ∧ Below w.heap.size w w' := by
  obtain ⟨R, Q, S, m, h⟩ := h
  exact alikeM_any w P.mb P.mg 8 P.mc P.ub P.ug P.uc m h.me h.mr
set_option maxRecDepth 100000 in
set_option maxHeartbeats 8000000 in
theorem ascript_any (q : Option Addr) (n c : Nat) (D : Nat → ActY) (W : World) (hn : n ≤ 100) (hD : ActsY W q n D) :
    Calls Try.prog 3 #[.slice q n c] W fun e w' => e = .returned (.bool true) ∧ Below W.heap.size W w' := by
  have hn' : ¬ (n : Int) > 100 := by omega
  have HD := Lib.hid hD
  clear hD
  go_enter Try.func3, Try.ntmps3
  go_wp2_with (go_at_call 8; refine (ready_both W).mono ?_; rintro e w1 ⟨P, rfl, hE⟩; have HE := Lib.hid hE; clear hE)
  go_loopw [7, 8, 9, 10, 11, 12] (fun i _ _ _ _ _ wr => ∃ t : Nat, t ≤ n ∧ i = .int .i64 t ∧ Hid (Even W wr P)) (fun i _ _ _ _ _ _ => n - (intOf i).toNat)
  case atStart => exact ⟨0, Nat.zero_le _, rfl, HE⟩
  clear HE
  case round =>
    obtain ⟨t, ht, rfl, HE⟩ := hrel
    by_cases hlt : t < n
    · have hltI : (t : Int) < n := by omega
      obtain ⟨aB, aO, hq, hcs⟩ := HD.out
      obtain ⟨rfl, hal⟩ := hq (by omega)
      obtain ⟨⟨d0, d1, d2, d3, d4, d5, d6, d7⟩, ok1, ok2⟩ := hcs t hlt
      have hbl := HE.out.bel
      have c0 := (hbl.cell (p := ⟨aB, aO + t * 8, none⟩) hal).trans d0
      have c1 := (hbl.cell (p := ⟨aB, aO + t * 8 + 1, none⟩) hal).trans d1
      have c2 := (hbl.cell (p := ⟨aB, aO + t * 8 + 2, none⟩) hal).trans d2
      have c3 := (hbl.cell (p := ⟨aB, aO + t * 8 + 3, none⟩) hal).trans d3
      have c4 := (hbl.cell (p := ⟨aB, aO + t * 8 + 4, none⟩) hal).trans d4
      have c5 := (hbl.cell (p := ⟨aB, aO + t * 8 + 5, none⟩) hal).trans d5
      have c6 := (hbl.cell (p := ⟨aB, aO + t * 8 + 6, none⟩) hal).trans d6
      have c7 := (hbl.cell (p := ⟨aB, aO + t * 8 + 7, none⟩) hal).trans d7
      clear hq hcs hbl d0 d1 d2 d3 d4 d5 d6 d7
      obtain ⟨⟨co, va, v, wr_, rw_, ro, sp, sr⟩, hx⟩ : ∃ x, x = D t := ⟨_, rfl⟩
      rw [← hx] at c0 c1 c2 c3 c4 c5 c6 c7 ok1 ok2
      simp only [] at c0 c1 c2 c3 c4 c5 c6 c7 ok1 ok2
      have HV0 : Hid (0 ≤ va) := Lib.hid (by obtain ⟨a, _⟩ := ok1; exact a)
      have HO1 := Lib.hid ok1
      have HO2 := Lib.hid ok2
      clear hx ok1 ok2
      obtain ⟨R, Q, S, m, hM⟩ := HE.out
      go_upto_region 14 with fail
      have hb3 : Below wr.heap.size wr (wr.alloc (.cells #[.int .i64 co, .int .u64 va, .int .u64 v, .bool wr_, .bool rw_, .int .i64 ro, .int .i64 sp, .bool sr] 32)) := bal (Below.refl _ _) _
      have HM := Lib.hid (hM.call hb3)
      have HX := Lib.hid (xy_new wr co va v wr_ rw_ ro sp sr 32)
      have HX0 : Hid (P.col wr.heap.size = 0) := Lib.hid (hM.hi _ hM.ll)
      generalize wr.alloc (.cells #[.int .i64 co, .int .u64 va, .int .u64 v, .bool wr_, .bool rw_, .int .i64 ro, .int .i64 sp, .bool sr] 32) = w3 at *
      clear hb3 hM HE c0 c1 c2 c3 c4 c5 c6 c7
      generalize wr.heap.size = xB at *
      cases sr with
      | true =>
        obtain ⟨-, -, -, -, -, -, -, z7⟩ := HX.out
        go_upto_region 15 with fail
        clear z7
        have HMd := Lib.hid (HM.out.call (Below.refl _ _).drew)
        have HX := Lib.hid (show XY w3.drew xB co va v wr_ rw_ ro sp true from HX.out)
        have HXL : Hid (xB < w3.drew.heap.size) := Lib.hid HX.out.lt
        go_region_held3 (fun w' => w'.cell? ⟨xB, 0, none⟩ = some (.int .i64 co) ∧ w'.cell? ⟨xB, 1, none⟩ = some (.int .u64 va) ∧ w'.cell? ⟨xB, 2, none⟩ = some (.int .u64 v) ∧ w'.cell? ⟨xB, 3, none⟩ = some (.bool wr_) ∧ w'.cell? ⟨xB, 4, none⟩ = some (.bool rw_) ∧ w'.cell? ⟨xB, 5, none⟩ = some (.int .i64 ro) ∧ w'.cell? ⟨xB, 6, none⟩ = some (.int .i64 sp) ∧ w'.cell? ⟨xB, 7, none⟩ = some (.bool true))
          (exact HX.out)
          (first
            | (go_at_call 9; (with_reducible refine (num_y _ _).mono ?_); rintro e w5 ⟨rfl, rfl⟩)
            | (go_at_call 11; (with_reducible refine (HM2.out.setB co ro sp).mono ?_); rintro e w5 ⟨rfl, hm, hk⟩; have HM3 := Lib.hid hm; have HX : Hid (XY _ xB co va v wr_ rw_ ro sp true) := Lib.hid (HX.out.of_block (hk.blk xB HXL.out HX0.out)); clear hm hk)
            | (go_at_call 10; (with_reducible refine (HMd.out.setA co ro sp).mono ?_); rintro e w4 ⟨rfl, hm, hk⟩; have HM2 := Lib.hid hm; have HX : Hid (XY _ xB co va v wr_ rw_ ro sp true) := Lib.hid (HX.out.of_block (hk.blk xB HXL.out HX0.out)); have HXL : Hid (xB < _) := Lib.hid (HX.out.lt); clear hm hk))
        all_goals
          go_wp2
          go_roundw
          case rel => first | exact ⟨t + 1, by omega, by go_num, Lib.hid ⟨_, _, _, _, HM3.out⟩⟩ | ((repeat apply Exists.intro); exact ⟨⟨t + 1, by omega, by go_num, Lib.hid ⟨_, _, _, _, HM3.out⟩⟩, rfl⟩)
          case measure => simp [intOf]; omega
      | false =>
        cases rw_ with
        | true =>
          obtain ⟨-, z1, z2, -, z4, -, -, z7⟩ := HX.out
          go_upto_region 19 with (go_at_call 12; (with_reducible refine (HM.out.stA va v HO1.out HO2.out).mono ?_); rintro e w4 ⟨rfl, hm, hk⟩; have HM2 := Lib.hid hm; have HX2 := Lib.hid (HX.out.of_block (hk.blk xB HX.out.lt HX0.out)); clear hm hk)
          clear z1 z2 z4 z7
          obtain ⟨-, z1, z2, -, -, -, -, -⟩ := HX2.out
          go_wp2_with (go_at_call 13; (with_reducible refine (HM2.out.stB va v HO1.out HO2.out).mono ?_); rintro e w5 ⟨rfl, hm, hk⟩; have HM3 := Lib.hid hm; clear hm hk)
          go_roundw
          case rel => first | exact ⟨t + 1, by omega, by go_num, Lib.hid ⟨_, _, _, _, HM3.out⟩⟩ | ((repeat apply Exists.intro); exact ⟨⟨t + 1, by omega, by go_num, Lib.hid ⟨_, _, _, _, HM3.out⟩⟩, rfl⟩)
          case measure => simp [intOf]; omega
        | false =>
          cases wr_ with
          | true =>
            obtain ⟨kd, hkd⟩ : ∃ z, kdA P.n R Q S m co va true = z := ⟨_, rfl⟩
            obtain ⟨ns, hns⟩ : ∃ z, nsA P.n R Q S m co va = z := ⟨_, rfl⟩
            obtain ⟨fa, hfa⟩ : ∃ z, (if kd = 0 then 0 else va) = z := ⟨_, rfl⟩
            obtain ⟨fb, hfb⟩ : ∃ z, (if kd = 0 then false else true) = z := ⟨_, rfl⟩
            have hfv : fV kd va true = faultV kd fa fb := by rw [fV_eq2, hfa, hfb]
            have hneq := neFl kd fa fb
            have HKD := Lib.hid hkd
            have HFV := Lib.hid hfv
            clear hkd hfa hfb hfv
            obtain ⟨-, -, -, z3, z4, -, -, z7⟩ := HX.out
            go_upto_region 21 with fail
            clear z3 z4 z7
            have HMd := Lib.hid (HM.out.call (Below.refl _ _).drew)
            have HX := Lib.hid (show XY w3.drew xB co va v true false ro sp false from HX.out)
            have HXL : Hid (xB < w3.drew.heap.size) := Lib.hid HX.out.lt
            go_region_held3 (fun w' => w'.cell? ⟨xB, 0, none⟩ = some (.int .i64 co) ∧ w'.cell? ⟨xB, 1, none⟩ = some (.int .u64 va) ∧ w'.cell? ⟨xB, 2, none⟩ = some (.int .u64 v) ∧ w'.cell? ⟨xB, 3, none⟩ = some (.bool true) ∧ w'.cell? ⟨xB, 4, none⟩ = some (.bool false) ∧ w'.cell? ⟨xB, 5, none⟩ = some (.int .i64 ro) ∧ w'.cell? ⟨xB, 6, none⟩ = some (.int .i64 sp) ∧ w'.cell? ⟨xB, 7, none⟩ = some (.bool false))
              (exact HX.out)
              (first
                | (go_at_call 15; (with_reducible refine (HM2.out.storeB co va v HV0.out HO2.out).mono ?_); rw [HKD.out, HFV.out]; rintro e w5 ⟨rfl, hm, hk⟩; have HM3 := Lib.hid hm; have HX : Hid (XY _ xB co va v true false ro sp false) := Lib.hid (HX.out.of_block (hk.blk xB HXL.out HX0.out)); clear hm hk)
                | (go_at_call 14; (with_reducible refine (HMd.out.storeA co va v HV0.out HO2.out).mono ?_); rw [HKD.out, HFV.out]; rintro e w4 ⟨rfl, hm, hk⟩; have HM2 := Lib.hid hm; have HX : Hid (XY _ xB co va v true false ro sp false) := Lib.hid (HX.out.of_block (hk.blk xB HXL.out HX0.out)); have HXL : Hid (xB < _) := Lib.hid (HX.out.lt); clear hm hk))
            all_goals
              go_wp2
              go_roundw
              case rel => first | exact ⟨t + 1, by omega, by go_num, Lib.hid ⟨_, _, _, _, HM3.out⟩⟩ | ((repeat apply Exists.intro); exact ⟨⟨t + 1, by omega, by go_num, Lib.hid ⟨_, _, _, _, HM3.out⟩⟩, rfl⟩)
              case measure => simp [intOf]; omega
          | false =>
            obtain ⟨kd, hkd⟩ : ∃ z, kdA P.n R Q S m co va false = z := ⟨_, rfl⟩
            obtain ⟨lx, hlx⟩ : ∃ z, (if kd = 0 then m (ixA R Q S m co va) else 0) = z := ⟨_, rfl⟩
            obtain ⟨fa, hfa⟩ : ∃ z, (if kd = 0 then 0 else va) = z := ⟨_, rfl⟩
            obtain ⟨fb, hfb⟩ : ∃ z, (if kd = 0 then false else false) = z := ⟨_, rfl⟩
            have hfv : fV kd va false = faultV kd fa fb := by rw [fV_eq2, hfa, hfb]
            have hneq := neFl kd fa fb
            have HKD := Lib.hid hkd
            have HLX := Lib.hid hlx
            have HFV := Lib.hid hfv
            clear hkd hfa hfb hfv hlx
            obtain ⟨z0, z1, -, z3, z4, -, -, z7⟩ := HX.out
            go_upto_region 11 with (go_at_call 16; (with_reducible refine (HM.out.loadA co va HV0.out).mono ?_); rw [HKD.out, HLX.out, HFV.out]; rintro e w4 ⟨rfl, hm, hk⟩; have HM2 := Lib.hid hm; have HX2 := Lib.hid (HX.out.of_block (hk.blk xB HX.out.lt HX0.out)); clear hm hk)
            clear z0 z1 z3 z4 z7
            have hb5 : Below w4.heap.size w4 (w4.alloc (.cells #[.int .i64 kd, .int .u64 fa, .bool fb] 40)) := bal (Below.refl _ _) _
            have HF5 := Lib.hid (FltAt.new w4 40 (.int .i64 kd) (.int .u64 fa) (.bool fb))
            have HM5 := Lib.hid (HM2.out.call hb5)
            have HX5 := Lib.hid (HX2.out.of_block (hb5.block xB HX2.out.lt))
            have HQ0 : Hid (P.col w4.heap.size = 0) := Lib.hid (HM2.out.hi _ HM2.out.ll)
            generalize w4.alloc (.cells #[.int .i64 kd, .int .u64 fa, .bool fb] 40) = w5 at *
            clear hb5
            generalize w4.heap.size = q at *
            obtain ⟨z0, z1, -, -, -, -, -, -⟩ := HX5.out
            go_upto_region 12 with (go_at_call 17; (with_reducible refine (HM5.out.loadB co va HV0.out).mono ?_); rw [HKD.out, HLX.out, HFV.out]; rintro e w6 ⟨rfl, hm, hk⟩; have HM6 := Lib.hid hm; have HF6 := Lib.hid (HF5.out.of_block hk.sz (hk.blk q HF5.out.lt HQ0.out)); clear hm hk)
            clear z0 z1
            have hb7 : Below w6.heap.size w6 (w6.alloc (.cells #[.int .i64 kd, .int .u64 fa, .bool fb] 40)) := bal (Below.refl _ _) _
            obtain ⟨a0, a1, a2, -, -⟩ := FltAt.new w6 40 (.int .i64 kd) (.int .u64 fa) (.bool fb)
            obtain ⟨b0, b1, b2, -, -⟩ := HF6.out.call hb7
            have HM7 := Lib.hid (HM6.out.call hb7)
            generalize w6.alloc (.cells #[.int .i64 kd, .int .u64 fa, .bool fb] 40) = w7 at *
            clear hb7
            generalize w6.heap.size = q2 at *
            go_wp2
            go_roundw
            case rel => first | exact ⟨t + 1, by omega, by go_num, Lib.hid ⟨_, _, _, _, HM7.out⟩⟩ | ((repeat apply Exists.intro); exact ⟨⟨t + 1, by omega, by go_num, Lib.hid ⟨_, _, _, _, HM7.out⟩⟩, rfl⟩)
            case measure => simp [intOf]; omega
    · obtain rfl : t = n := by omega
      go_wp2_with (first
        | (go_at_call 18; (with_reducible refine (HE.out.alikeM).mono ?_); rintro e w8 ⟨rfl, hb8⟩; have HB8 := Lib.hid (HE.out.bel.trans (hb8.mono HE.out.bel.size)); clear hb8)
        | (go_at_call 7; (with_reducible refine (awake8 _).mono ?_); rintro e w9 ⟨rfl, hb9⟩; have HB9 := Lib.hid (HB8.out.trans (hb9.mono HB8.out.size)); clear hb9))
      go_ret
      exact ⟨rfl, HB9.out⟩
theorem walk_accessScript {W : World} (q : Option Addr) (n c : Nat) (hx : n ≤ c ∧ c ≤ maxLen ∧ ∃ D, ActsY W q n D) :
    Calls Try.prog 3 #[.slice q n c] W fun e w' => e = .returned (.bool true) ∧ Below W.heap.size W w' := by
  obtain ⟨h1, h2, D, hD⟩ := hx
  unfold maxLen at h2
  by_cases hn : n ≤ 100
  · exact ascript_any q n c D W hn hD
  · have hn' : (n : Int) > 100 := by omega
    clear hD
    go_enter Try.func3, Try.ntmps3
    go_wp2_with (go_at_call 7; refine (awake8 _).mono ?_; rintro e w3 ⟨rfl, hb3⟩)
    go_ret
    exact ⟨rfl, hb3⟩
end
end Go.Proofs.Ytgfidbjhihignaa
