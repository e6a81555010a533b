/- Package access: Load and Store, given what locate does. -/
import Derived.Test.YtgfidbjhihignaaAc5
namespace Go.Proofs.Ytgfidbjhihignaa
set_option linter.unusedVariables false
set_option linter.unusedSimpArgs false
open Go.ChangeShapes Go.WideShapes Go.ChangeAt Go.RowKit Go.Shelf

/-- The contract of locate: what it answers, and what it leaves. -/
def LocC (w : World) (c m : Option Addr) (k va : Int) (wr : Bool) (ad kd va' : Int) (wr' : Bool) (R : World → World → Prop) : Prop :=
  ∀ w1, Below w.heap.size w w1 → Calls Try.prog 30 #[.pointer c, .pointer m, .int .i64 k, .int .u64 va, .bool wr] w1 fun e w' => e = .returned (.tuple #[.int .u64 ad, faultV kd va' wr']) ∧ R w1 w'
abbrev fltO (kd va : Int) (wr : Bool) : Obj := .cells #[.int .i64 kd, .int .u64 va, .bool wr] 40
theorem FltAt.blk {w w' : World} {q t : Nat} {a b c : Value} (h : FltAt w q a b c) (k : BlkOnly t w w') (hq : q ≠ t) : FltAt w' q a b c :=
  ⟨(cell_of_block (k.block q h.lt hq)).trans h.c0, (cell_of_block (k.block q h.lt hq)).trans h.c1, (cell_of_block (k.block q h.lt hq)).trans h.c2, fun j => (frozen_of_block (k.block q h.lt hq)).trans (h.fr j), Nat.lt_of_lt_of_le h.lt k.size⟩
set_option maxRecDepth 100000 in
set_option maxHeartbeats 1000000 in
theorem load_fault (w : World) (c m : Option Addr) (k va kd : Int) (t : Nat) (R : World → World → Prop) (hkd : ¬ kd = 0) (ht : t < w.heap.size) (hR : ∀ a d, R a d → TlbOnly t a d) (hL : LocC w c m k va false 0 kd va false R) :
    Calls Try.prog 16 #[.pointer c, .pointer m, .int .i64 k, .int .u64 va] w fun e w' => e = .returned (.tuple #[.int .u64 0, faultV kd va false]) ∧ ∃ w1 w2, Below w.heap.size w w1 ∧ R w1 w2 ∧ Below w.heap.size w2 w' := by
  have HL := Lib.hid hL
  have hkb : (kd == 0) = false := beq_eq_false_iff_ne.2 hkd
  clear hL
  go_enter Try.func16, Try.ntmps16
  go_wp2_with (first
    | (go_at_call 30; refine (HL.out _ (bal (Below.refl _ _) _)).mono ?_; rintro e w2 ⟨rfl, hr⟩; have HR := Lib.hid hr; have hz2 := (hR _ _ hr).size; obtain ⟨r0, r1, r2, rf, rl⟩ := (FltAt.new w 40 (.int .i64 0) (.int .u64 0) (.bool false)).tlb (hR _ _ hr) (by omega); clear hr))
  have hne : w.heap.size ≠ w2.heap.size := Nat.ne_of_lt rl
  have hne2 : w2.heap.size ≠ w.heap.size := Ne.symm hne
  have hb3 : Below w2.heap.size w2 (w2.alloc (fltO kd va false)) := bal (Below.refl _ _) _
  have D := FltAt.new w2 40 (.int .i64 kd) (.int .u64 va) (.bool false)
  obtain ⟨d0, d1, d2, df, dl⟩ := D
  obtain ⟨e0, e1, e2, ef, el⟩ := (FltAt.mk r0 r1 r2 rf rl).call hb3
  have B3 : Below w.heap.size w2 (w2.alloc (fltO kd va false)) := hb3.mono (Nat.le_of_lt rl)
  generalize (w2.alloc (fltO kd va false)) = w3 at *
  go_region
  go_wp2
  have hbw : Below w.heap.size w2 ((((w3.setCell ⟨w.heap.size, 0, none⟩ (.int .i64 kd)).setCell ⟨w.heap.size, 1, none⟩ (.int .u64 va)).setCell ⟨w.heap.size, 2, none⟩ (.bool false)).drew) := (((B3.setCell (Nat.le_refl _) _).setCell (Nat.le_refl _) _).setCell (Nat.le_refl _) _).drew
  exact bodyPost_ret (v := .tuple #[.int .u64 0, faultV kd va false]) (by simp [results, Try.results16, go_sem, e0, e1, e2]) rfl ⟨rfl, _, w2, bal (Below.refl _ _) _, HR.out, hbw⟩
set_option maxRecDepth 100000 in
set_option maxHeartbeats 1000000 in
theorem load_yes (w : World) (c : Option Addr) (k va ad : Int) (t mb mg mn mc ix : Nat) (M : Nat → Int) (R : World → World → Prop) (ht : t < w.heap.size) (hR : ∀ a d, R a d → TlbOnly t a d) (hL : LocC w c (some ⟨mb, 0, none⟩) k va false ad 0 0 false R) (hM : MemAt w mb mg mn mc M) (hn1 : mb ≠ t) (hn2 : mg ≠ t) (ha : ad = 8 * (ix : Int)) (hix : ix < 8 * mn) :
    Calls Try.prog 16 #[.pointer c, .pointer (some ⟨mb, 0, none⟩), .int .i64 k, .int .u64 va] w fun e w' => e = .returned (.tuple #[.int .u64 (M ix), noF]) ∧ ∃ w1 w2, Below w.heap.size w w1 ∧ R w1 w2 ∧ Below w.heap.size w2 w' := by
  have HL := Lib.hid hL
  have HA := Lib.hid ha
  have HM := Lib.hid hM
  have lmb := hM.lb
  have lmg := hM.lg
  clear hL hM ha
  go_enter Try.func16, Try.ntmps16
  go_wp2_with (first
    | (go_at_call 30; refine (HL.out _ (bal (Below.refl _ _) _)).mono ?_; rintro e w2 ⟨rfl, hr⟩; have HR := Lib.hid hr; have ho := hR _ _ hr; have hz2 := ho.size; obtain ⟨r0, r1, r2, rf, rl⟩ := (FltAt.new w 40 (.int .i64 0) (.int .u64 0) (.bool false)).tlb ho (by omega); have HM2 := Lib.hid ((HM.out.call (bal (Below.refl _ _) (fltO 0 0 false))).of_blocks ho.size (ho.block mb (by simp; omega) hn1) (ho.block mg (by simp; omega) hn2)); clear hr ho)
    | (go_at_call 20; refine (load_at _ mb mg mn mc M ad ix (HM2.out.call (bal (Below.refl _ _) _)) HA.out hix).mono ?_; rintro e w5 ⟨rfl, rfl⟩))
  have hne : w.heap.size ≠ w2.heap.size := Nat.ne_of_lt rl
  have hne2 : w2.heap.size ≠ w.heap.size := Ne.symm hne
  have hb3 : Below w2.heap.size w2 (w2.alloc (fltO 0 0 false)) := bal (Below.refl _ _) _
  have D := FltAt.new w2 40 (.int .i64 0) (.int .u64 0) (.bool false)
  obtain ⟨d0, d1, d2, df, dl⟩ := D
  obtain ⟨e0, e1, e2, ef, el⟩ := (FltAt.mk r0 r1 r2 rf rl).call hb3
  have B3 : Below w.heap.size w2 (w2.alloc (fltO 0 0 false)) := hb3.mono (Nat.le_of_lt rl)
  generalize (w2.alloc (fltO 0 0 false)) = w3 at *
  go_region
  go_wp2
  have hbw : Below w.heap.size w2 ((((w3.setCell ⟨w.heap.size, 0, none⟩ (.int .i64 0)).setCell ⟨w.heap.size, 1, none⟩ (.int .u64 0)).setCell ⟨w.heap.size, 2, none⟩ (.bool false)).drew) := (((B3.setCell (Nat.le_refl _) _).setCell (Nat.le_refl _) _).setCell (Nat.le_refl _) _).drew
  exact bodyPost_ret (v := .tuple #[.int .u64 (M ix), noF]) (by simp [results, Try.results16, go_sem, e0, e1, e2]) rfl ⟨rfl, _, w2, bal (Below.refl _ _) _, HR.out, hbw⟩
set_option maxRecDepth 100000 in
set_option maxHeartbeats 1000000 in
theorem store_fault (w : World) (c m : Option Addr) (k va v kd : Int) (t : Nat) (R : World → World → Prop) (hkd : ¬ kd = 0) (ht : t < w.heap.size) (hR : ∀ a d, R a d → TlbOnly t a d) (hL : LocC w c m k va true 0 kd va true R) :
    Calls Try.prog 14 #[.pointer c, .pointer m, .int .i64 k, .int .u64 va, .int .u64 v] w fun e w' => e = .returned (faultV kd va true) ∧ ∃ w1 w2, Below w.heap.size w w1 ∧ R w1 w2 ∧ Below w.heap.size w2 w' := by
  have HL := Lib.hid hL
  have hkb : (kd == 0) = false := beq_eq_false_iff_ne.2 hkd
  clear hL
  go_enter Try.func14, Try.ntmps14
  go_wp2_with (first
    | (go_at_call 30; refine (HL.out _ (bal (Below.refl _ _) _)).mono ?_; rintro e w2 ⟨rfl, hr⟩; have HR := Lib.hid hr; have hz2 := (hR _ _ hr).size; obtain ⟨r0, r1, r2, rf, rl⟩ := (FltAt.new w 40 (.int .i64 0) (.int .u64 0) (.bool false)).tlb (hR _ _ hr) (by omega); have hne : w.heap.size ≠ w2.heap.size := Nat.ne_of_lt rl; have hne2 : w2.heap.size ≠ w.heap.size := Ne.symm hne; clear hr))
  exact bodyPost_ret (v := faultV kd va true) (by simp [results, Try.results14, go_sem, r0, r1, r2, hne, hne2, rl]) rfl ⟨rfl, _, w2, bal (Below.refl _ _) _, HR.out, Below.alloc (((((Below.refl _ _ : Below w.heap.size w2 w2).setCell (Nat.le_refl _) _).setCell (Nat.le_refl _) _).setCell (Nat.le_refl _) _)) (by simp; omega) _⟩
set_option maxRecDepth 100000 in
set_option maxHeartbeats 1000000 in
theorem store_yes (w : World) (c : Option Addr) (k va v ad : Int) (t mb mg mn mc ix : Nat) (M : Nat → Int) (R : World → World → Prop) (ht : t < w.heap.size) (hR : ∀ a d, R a d → TlbOnly t a d) (hL : LocC w c (some ⟨mb, 0, none⟩) k va true ad 0 0 false R) (hM : MemAt w mb mg mn mc M) (hn1 : mb ≠ t) (hn2 : mg ≠ t) (ha : ad = 8 * (ix : Int)) (hix : ix < 8 * mn) (hv : WordI v) :
    Calls Try.prog 14 #[.pointer c, .pointer (some ⟨mb, 0, none⟩), .int .i64 k, .int .u64 va, .int .u64 v] w fun e w' => e = .returned noF ∧ ∃ w1 w2 w3 w4, Below w.heap.size w w1 ∧ R w1 w2 ∧ Below w.heap.size w2 w3 ∧ MemAt w4 mb mg mn mc (updM M ix v) ∧ BlkOnly mg w3 w4 ∧ Below w.heap.size w4 w' := by
  have HL := Lib.hid hL
  have HA := Lib.hid ha
  have HM := Lib.hid hM
  have lmb := hM.lb
  have lmg := hM.lg
  clear hL hM ha
  go_enter Try.func14, Try.ntmps14
  go_wp2_with (first
    | (go_at_call 30; refine (HL.out _ (bal (Below.refl _ _) _)).mono ?_; rintro e w2 ⟨rfl, hr⟩; have HR := Lib.hid hr; have ho := hR _ _ hr; have hz2 := ho.size; obtain ⟨r0, r1, r2, rf, rl⟩ := (FltAt.new w 40 (.int .i64 0) (.int .u64 0) (.bool false)).tlb ho (by omega); have HM2 := Lib.hid ((HM.out.call (bal (Below.refl _ _) (fltO 0 0 false))).of_blocks ho.size (ho.block mb (by simp; omega) hn1) (ho.block mg (by simp; omega) hn2)); have hb3 : Below w2.heap.size w2 (w2.alloc (fltO 0 0 false)) := bal (Below.refl _ _) _; obtain ⟨d0, d1, d2, df, dl⟩ := FltAt.new w2 40 (.int .i64 0) (.int .u64 0) (.bool false); obtain ⟨e0, e1, e2, ef, el⟩ := (FltAt.mk r0 r1 r2 rf rl).call hb3; have B3 : Below w.heap.size w2 (w2.alloc (fltO 0 0 false)) := hb3.mono (Nat.le_of_lt rl); clear hr ho r0 r1 r2 rf)
    | (go_at_call 12; refine (store_at _ mb mg mn mc M ad ix v (HM2.out.call hb3) HA.out hix hv).mono ?_; rintro e w5 ⟨rfl, hm5, ho5⟩; have HM5 := Lib.hid hm5; have HO5 := Lib.hid ho5; obtain ⟨f0, f1, f2, ff, fl⟩ := (FltAt.mk e0 e1 e2 ef el).blk ho5 (by omega); obtain ⟨g0, g1, g2, gf, gl⟩ := (FltAt.mk d0 d1 d2 df dl).blk ho5 (by omega); clear hm5 ho5 e0 e1 e2 ef d0 d1 d2 df))
  have hbw : Below w.heap.size w5 (((w5.setCell ⟨w.heap.size, 0, none⟩ (.int .i64 0)).setCell ⟨w.heap.size, 1, none⟩ (.int .u64 0)).setCell ⟨w.heap.size, 2, none⟩ (.bool false)) := (((Below.refl w.heap.size w5).setCell (Nat.le_refl _) _).setCell (Nat.le_refl _) _).setCell (Nat.le_refl _) _
  exact bodyPost_ret (v := noF) (by simp [results, Try.results14, go_sem, f0, f1, f2]) rfl ⟨rfl, _, w2, _, w5, bal (Below.refl _ _) _, HR.out, B3, HM5.out, HO5.out, hbw⟩
end Go.Proofs.Ytgfidbjhihignaa
