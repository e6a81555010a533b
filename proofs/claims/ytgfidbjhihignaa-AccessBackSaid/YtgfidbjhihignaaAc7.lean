/- Package access on chapter 8's machine: Load and Store. -/
import Derived.Test.YtgfidbjhihignaaAc6
namespace Go.Proofs.Ytgfidbjhihignaa
set_option linter.unusedVariables false
set_option linter.unusedSimpArgs false
open Go.ChangeShapes Go.WideShapes Go.ChangeAt Go.RowKit Go.Shelf

/-- The kind of an access's fault, given the translation; 0: none. -/
def accK (t : TransX × Bool × Int) (wr : Bool) : Int := if t.2.2 = 0 ∧ t.1.f < 8 then (if (if wr = true then t.1.w else t.1.r) = true then 0 else 5) else 4
/-- The word's index. -/
def accI (t : TransX × Bool × Int) (va : Int) : Nat := (t.1.f * 8 + va % 64 / 8).toNat
def fV (kd va : Int) (wr : Bool) : Value := if kd = 0 then noF else faultV kd va wr
def zR (S : Nat → TS) (M : Nat → Int) (k : Nat) (va : Int) : (TransX × Bool × Int) × TS := transF 8 M (RD k) (QD k) (va / 64) (S k)
theorem trans_f0 {n : Nat} {m : Nat → Int} {r q p : Int} {s : TS} (hg : Good s) (h : (transF n m r q p s).1.2.2 = 0) (hq : 1 ≤ q) (p0 : 0 ≤ p) (p1 : p < 512) : 0 ≤ (transF n m r q p s).1.1.f := by
  unfold transF at h ⊢
  by_cases hf : (findS s q p).2 = true
  · rw [if_pos hf]
    show 0 ≤ (findS s q p).1.f
    unfold findS at hf ⊢
    rw [if_pos ⟨hq, p0, p1⟩] at hf ⊢
    have hs := hg (setNo p) (setNo_lt p0)
    have one : ∀ x, GoodT (setNo p) x → x.s = q → 0 ≤ x.f := by
      intro x hx e
      rcases hx with rfl | hx
      · exact Int.le_refl _
      · exact (may_pos hx.1).2.2.2.1
    by_cases h0 : (s (setNo p)).1.s = q ∧ (s (setNo p)).1.p = p
    · rw [if_pos h0]; exact one _ hs.x h0.1
    · rw [if_neg h0] at hf ⊢
      by_cases h1 : (s (setNo p)).2.1.s = q ∧ (s (setNo p)).2.1.p = p
      · rw [if_pos h1]; exact one _ hs.y h1.1
      · rw [if_neg h1] at hf; simp at hf
  · rw [if_neg hf] at h ⊢
    by_cases hw : walkC n m r p = 0
    · rw [if_pos hw]
      show 0 ≤ (leafT n m r q p).f
      unfold leafT
      exact Int.natCast_nonneg _
    · rw [if_neg hw] at h
      exact absurd h hw
theorem RD_at {k : Nat} (hk : k < 2) : RD k = 0 := by
  obtain rfl | rfl : k = 0 ∨ k = 1 := by omega
  all_goals rfl
theorem QD_pos {k : Nat} (hk : k < 2) : 1 ≤ QD k := by
  obtain rfl | rfl : k = 0 ∨ k = 1 := by omega
  all_goals decide
/-- What a translation leaves. -/
def TrR (b g : Nat) (T : Nat → Nat) (S : Nat → TS) (k : Nat) (a d : World) : Prop := CoresAt d b g 2 2 RD QD T S ∧ TlbOnly (T k) a d
theorem loc_rdy (W w : World) (b g : Nat) (T : Nat → Nat) (mb mg mc k : Nat) (S : Nat → TS) (M : Nat → Int) (va : Int) (wr : Bool) (h : Rdy W w b g T mb mg mc S M) (hk : k < 2) (h0 : 0 ≤ va) (h1 : va < 32768) (ha : va % 8 = 0) :
    LocC w (some ⟨b, 0, none⟩) (some ⟨mb, 0, none⟩) k va wr (if accK (zR S M k va).1 wr = 0 then (zR S M k va).1.1.f * 64 + va % 64 else 0) (accK (zR S M k va).1 wr) (if accK (zR S M k va).1 wr = 0 then 0 else va) (if accK (zR S M k va).1 wr = 0 then false else wr) (TrR b g T (setT S k (zR S M k va).2) k) := by
  intro w1 hb
  have hc := h.co.call hb
  have hm := h.me.call hb
  have hq : QD k ≠ 0 := by have := QD_pos hk; omega
  have hr : RD k ≠ -1 := by rw [RD_at hk]; decide
  have hf0 := fun hz => trans_f0 (n := 8) (m := M) (r := RD k) (q := QD k) (p := va / 64) (s := S k) (h.co.good k hk) hz (QD_pos hk) (by omega) (by omega)
  have hT : TransC w1 b g 2 2 k RD QD T S mb (va / 64) (zR S M k va).1.1 (zR S M k va).1.2.1 (zR S M k va).1.2.2 (zR S M k va).2 := fun w2 hb2 =>
    ctrans_ok w2 b g 2 2 k RD QD T S mb mg 8 mc M (va / 64) (hc.call hb2) hk (hm.call hb2) hr (by omega) (by omega)
  change (zR S M k va).1.2.2 = 0 → 0 ≤ (zR S M k va).1.1.f at hf0
  obtain ⟨⟨⟨⟨xs, xp, xf, xr, xw⟩, hit, cd⟩, s'⟩, hz⟩ : ∃ z, zR S M k va = z := ⟨_, rfl⟩
  rw [hz] at hT hf0 ⊢
  simp only at hT hf0 ⊢
  have n5 := h.n5 k hk
  have n6 := h.n6 k hk
  by_cases hcd : cd = 0
  · subst hcd
    by_cases hf : xf < 8
    · have hf' : xf < ((8 : Nat) : Int) := by omega
      cases wr
      · cases xr
        · have e : accK (⟨xs, xp, xf, false, xw⟩, hit, 0) false = 5 := by unfold accK; simp [hf]
          rw [e]
          exact locate_nor w1 b g 2 2 k RD QD T S mb mg 8 mc M va xs xp xf xw hit s' hc hk hm hq h0 h1 ha n5 n6 hT hf'
        · have e : accK (⟨xs, xp, xf, true, xw⟩, hit, 0) false = 0 := by unfold accK; simp [hf]
          rw [e]
          exact locate_yr w1 b g 2 2 k RD QD T S mb mg 8 mc M va xs xp xf xw hit s' hc hk hm hq h0 h1 ha n5 n6 hT hf' (hf0 rfl)
      · cases xw
        · have e : accK (⟨xs, xp, xf, xr, false⟩, hit, 0) true = 5 := by unfold accK; simp [hf]
          rw [e]
          exact locate_now w1 b g 2 2 k RD QD T S mb mg 8 mc M va xs xp xf xr hit s' hc hk hm hq h0 h1 ha n5 n6 hT hf'
        · have e : accK (⟨xs, xp, xf, xr, true⟩, hit, 0) true = 0 := by unfold accK; simp [hf]
          rw [e]
          exact locate_yw w1 b g 2 2 k RD QD T S mb mg 8 mc M va xs xp xf xr hit s' hc hk hm hq h0 h1 ha n5 n6 hT hf' (hf0 rfl)
    · have e : accK (⟨xs, xp, xf, xr, xw⟩, hit, 0) wr = 4 := by unfold accK; simp [hf]
      rw [e]
      exact locate_far w1 b g 2 2 k RD QD T S mb mg 8 mc M va wr xs xp xf xr xw hit s' hc hk hm hq h0 h1 ha n5 n6 hT (by omega)
  · have e : accK (⟨xs, xp, xf, xr, xw⟩, hit, cd) wr = 4 := by unfold accK; simp [hcd]
    rw [e]
    exact locate_err w1 b g 2 2 k RD QD T S mb mg 8 mc M va wr xs xp xf xr xw hit cd s' hc hk hm hq h0 h1 ha n5 n6 hT hcd
/-- The machine behind an access. -/
theorem Rdy.low {W w w' : World} {b g : Nat} {T : Nat → Nat} {mb mg mc B : Nat} {S : Nat → TS} {M : Nat → Int} (h : Rdy W w b g T mb mg mc S M) (hb : b < B) (hg : g < B) (hT : ∀ i, i < 2 → T i < B) (hmb : mb < B) (hmg : mg < B) (hW : W.heap.size ≤ B) (k : Below B w w') : Rdy W w' b g T mb mg mc S M :=
  ⟨h.co.of_blocks k.size (k.block b hb) (k.block g hg) (fun i hi => k.block _ (hT i hi)), h.me.of_blocks k.size (k.block mb hmb) (k.block mg hmg), h.lb, h.lg, h.lt, h.lmb, h.lmg, h.n1, h.n2, h.n3, h.n4, h.n5, h.n6, h.be.trans (k.mono hW)⟩
theorem Rdy.tr {W w1 w2 : World} {b g : Nat} {T : Nat → Nat} {mb mg mc k : Nat} {S : Nat → TS} {M : Nat → Int} (h : Rdy W w1 b g T mb mg mc S M) (hk : k < 2) {s : TS} (hr : TrR b g T (setT S k s) k w1 w2) : Rdy W w2 b g T mb mg mc (setT S k s) M :=
  ⟨hr.1, h.me.of_blocks hr.2.size (hr.2.block mb h.me.lb (Ne.symm (h.n5 k hk))) (hr.2.block mg h.me.lg (Ne.symm (h.n6 k hk))), h.lb, h.lg, h.lt, h.lmb, h.lmg, h.n1, h.n2, h.n3, h.n4, h.n5, h.n6, h.be.trans (hr.2.below (h.lt k hk) (h.co.tlb k hk).lt)⟩
/-- What lay below B and is no cache, and not the memory's words, is as it was. -/
def KeepO (B : Nat) (T : Nat → Nat) (mg : Nat) (a d : World) : Prop := a.heap.size ≤ d.heap.size ∧ ∀ q, q < B → (∀ i, i < 2 → q ≠ T i) → q ≠ mg → d.heap[q]? = a.heap[q]?
theorem KeepO.trans {B : Nat} {T : Nat → Nat} {mg : Nat} {a d e : World} (h : KeepO B T mg a d) (k : KeepO B T mg d e) : KeepO B T mg a e := ⟨Nat.le_trans h.1 k.1, fun q h1 h2 h3 => (k.2 q h1 h2 h3).trans (h.2 q h1 h2 h3)⟩
theorem KeepO.of_below {B : Nat} {T : Nat → Nat} {mg : Nat} {a d : World} (h : Below B a d) : KeepO B T mg a d := ⟨h.size, fun q h1 _ _ => h.block q h1⟩
theorem KeepO.of_tlb {B k : Nat} {T : Nat → Nat} {mg : Nat} {a d : World} (h : TlbOnly (T k) a d) (hk : k < 2) (hB : B ≤ a.heap.size) : KeepO B T mg a d := ⟨h.size, fun q h1 h2 _ => h.block q (Nat.lt_of_lt_of_le h1 hB) (h2 k hk)⟩
theorem FltAt.keep {w w' : World} {q B : Nat} {T : Nat → Nat} {mg : Nat} {a b c : Value} (h : FltAt w q a b c) (k : KeepO B T mg w w') (hq : q < B) (h1 : ∀ i, i < 2 → q ≠ T i) (h2 : q ≠ mg) : FltAt w' q a b c :=
  ⟨(cell_of_block (k.2 q hq h1 h2)).trans h.c0, (cell_of_block (k.2 q hq h1 h2)).trans h.c1, (cell_of_block (k.2 q hq h1 h2)).trans h.c2, fun j => (frozen_of_block (k.2 q hq h1 h2)).trans (h.fr j), Nat.lt_of_lt_of_le h.lt k.1⟩
theorem KeepO.of_blk {B : Nat} {T : Nat → Nat} {mg : Nat} {a d : World} (h : BlkOnly mg a d) (hB : B ≤ a.heap.size) : KeepO B T mg a d := ⟨h.size, fun q h1 _ h3 => h.block q (Nat.lt_of_lt_of_le h1 hB) h3⟩
theorem load_rdy (W w : World) (b g : Nat) (T : Nat → Nat) (mb mg mc k : Nat) (S : Nat → TS) (M : Nat → Int) (va : Int) (h : Rdy W w b g T mb mg mc S M) (hk : k < 2) (h0 : 0 ≤ va) (h1 : va < 32768) (ha : va % 8 = 0) :
    Calls Try.prog 16 #[.pointer (some ⟨b, 0, none⟩), .pointer (some ⟨mb, 0, none⟩), .int .i64 k, .int .u64 va] w fun e w' => e = .returned (.tuple #[.int .u64 (if accK (zR S M k va).1 false = 0 then M (accI (zR S M k va).1 va) else 0), fV (accK (zR S M k va).1 false) va false]) ∧ Rdy W w' b g T mb mg mc (setT S k (zR S M k va).2) M ∧ KeepO w.heap.size T mg w w' := by
  have hl := loc_rdy W w b g T mb mg mc k S M va false h hk h0 h1 ha
  have fin : ∀ w', (∃ w1 w2, Below w.heap.size w w1 ∧ TrR b g T (setT S k (zR S M k va).2) k w1 w2 ∧ Below w.heap.size w2 w') → Rdy W w' b g T mb mg mc (setT S k (zR S M k va).2) M ∧ KeepO w.heap.size T mg w w' := by
    rintro w' ⟨w1, w2, hb1, hr, hb2⟩
    exact ⟨((h.call hb1).tr hk hr).low h.co.lb h.co.lg (fun i hi => (h.co.tlb i hi).lt) h.me.lb h.me.lg h.be.size hb2, ((KeepO.of_below hb1).trans (KeepO.of_tlb hr.2 hk hb1.size)).trans (KeepO.of_below hb2)⟩
  by_cases hz : accK (zR S M k va).1 false = 0
  · rw [hz, if_pos rfl, if_pos rfl, if_pos rfl] at hl
    rw [hz, if_pos rfl]
    have hf8 : (zR S M k va).1.2.2 = 0 ∧ (zR S M k va).1.1.f < 8 := by
      unfold accK at hz
      by_cases hc : (zR S M k va).1.2.2 = 0 ∧ (zR S M k va).1.1.f < 8
      · exact hc
      · rw [if_neg hc] at hz; exact absurd hz (by decide)
    have hf0 := trans_f0 (n := 8) (m := M) (r := RD k) (q := QD k) (p := va / 64) (s := S k) (h.co.good k hk) hf8.1 (QD_pos hk) (by omega) (by omega)
    change 0 ≤ (zR S M k va).1.1.f at hf0
    refine (load_yes w _ k va _ (T k) mb mg 8 mc (accI (zR S M k va).1 va) M _ (h.co.tlb k hk).lt (fun a d hr => hr.2) hl h.me (Ne.symm (h.n5 k hk)) (Ne.symm (h.n6 k hk)) (by unfold accI; omega) (by unfold accI; omega)).mono ?_
    rintro e w' ⟨rfl, hw⟩
    exact ⟨rfl, fin w' hw⟩
  · rw [if_neg hz, if_neg hz, if_neg hz] at hl
    rw [if_neg hz]
    refine (load_fault w _ _ k va _ (T k) _ hz (h.co.tlb k hk).lt (fun a d hr => hr.2) hl).mono ?_
    rintro e w' ⟨rfl, hw⟩
    exact ⟨by unfold fV; rw [if_neg hz], fin w' hw⟩
theorem store_rdy (W w : World) (b g : Nat) (T : Nat → Nat) (mb mg mc k : Nat) (S : Nat → TS) (M : Nat → Int) (va v : Int) (h : Rdy W w b g T mb mg mc S M) (hk : k < 2) (h0 : 0 ≤ va) (h1 : va < 32768) (ha : va % 8 = 0) (hv : WordI v) :
    Calls Try.prog 14 #[.pointer (some ⟨b, 0, none⟩), .pointer (some ⟨mb, 0, none⟩), .int .i64 k, .int .u64 va, .int .u64 v] w fun e w' => e = .returned (fV (accK (zR S M k va).1 true) va true) ∧ Rdy W w' b g T mb mg mc (setT S k (zR S M k va).2) (if accK (zR S M k va).1 true = 0 then updM M (accI (zR S M k va).1 va) v else M) ∧ KeepO w.heap.size T mg w w' := by
  have hl := loc_rdy W w b g T mb mg mc k S M va true h hk h0 h1 ha
  by_cases hz : accK (zR S M k va).1 true = 0
  · rw [hz, if_pos rfl, if_pos rfl, if_pos rfl] at hl
    rw [hz, if_pos rfl]
    have hf8 : (zR S M k va).1.2.2 = 0 ∧ (zR S M k va).1.1.f < 8 := by
      unfold accK at hz
      by_cases hc : (zR S M k va).1.2.2 = 0 ∧ (zR S M k va).1.1.f < 8
      · exact hc
      · rw [if_neg hc] at hz; exact absurd hz (by decide)
    have hf0 := trans_f0 (n := 8) (m := M) (r := RD k) (q := QD k) (p := va / 64) (s := S k) (h.co.good k hk) hf8.1 (QD_pos hk) (by omega) (by omega)
    change 0 ≤ (zR S M k va).1.1.f at hf0
    refine (store_yes w _ k va v _ (T k) mb mg 8 mc (accI (zR S M k va).1 va) M _ (h.co.tlb k hk).lt (fun a d hr => hr.2) hl h.me (Ne.symm (h.n5 k hk)) (Ne.symm (h.n6 k hk)) (by unfold accI; omega) (by unfold accI; omega) hv).mono ?_
    rintro e w' ⟨rfl, w1, w2, w3, w4, hb1, hr, hb3, hm4, ho4, hb5⟩
    have r2 := (h.call hb1).tr hk hr
    have r3 := r2.low h.co.lb h.co.lg (fun i hi => (h.co.tlb i hi).lt) h.me.lb h.me.lg h.be.size hb3
    have r4 : Rdy W w4 b g T mb mg mc (setT S k (zR S M k va).2) (updM M (accI (zR S M k va).1 va) v) := ⟨r3.co.blk ho4 h.n2 h.n4 h.n6, hm4, h.lb, h.lg, h.lt, h.lmb, h.lmg, h.n1, h.n2, h.n3, h.n4, h.n5, h.n6, r3.be.trans (ho4.below h.lmg r3.me.lg)⟩
    exact ⟨rfl, r4.low h.co.lb h.co.lg (fun i hi => (h.co.tlb i hi).lt) h.me.lb h.me.lg h.be.size hb5, ((((KeepO.of_below hb1).trans (KeepO.of_tlb hr.2 hk hb1.size)).trans (KeepO.of_below hb3)).trans (KeepO.of_blk ho4 (Nat.le_trans hb1.size (Nat.le_trans hr.2.size hb3.size)))).trans (KeepO.of_below hb5)⟩
  · rw [if_neg hz, if_neg hz, if_neg hz] at hl
    rw [if_neg hz]
    refine (store_fault w _ _ k va v _ (T k) _ hz (h.co.tlb k hk).lt (fun a d hr => hr.2) hl).mono ?_
    rintro e w' ⟨rfl, w1, w2, hb1, hr, hb2⟩
    exact ⟨by unfold fV; rw [if_neg hz], ((h.call hb1).tr hk hr).low h.co.lb h.co.lg (fun i hi => (h.co.tlb i hi).lt) h.me.lb h.me.lg h.be.size hb2, ((KeepO.of_below hb1).trans (KeepO.of_tlb hr.2 hk hb1.size)).trans (KeepO.of_below hb2)⟩
/-- An access that comes to no translation. -/
theorem aload_bad (w : World) (c m : Option Addr) (k va kd : Int) (hz : 0 < w.heap.size) (hkd : ¬ kd = 0) (hL : LocC w c m k va false 0 kd va false (fun a d => Below a.heap.size a d)) :
    Calls Try.prog 16 #[.pointer c, .pointer m, .int .i64 k, .int .u64 va] w fun e w' => e = .returned (.tuple #[.int .u64 0, faultV kd va false]) ∧ Below w.heap.size w w' := by
  refine (load_fault w c m k va kd 0 _ hkd hz (fun a d hr => TlbOnly.of_below hr) hL).mono ?_
  rintro e w' ⟨rfl, w1, w2, hb1, hr, hb2⟩
  exact ⟨rfl, (bgo hb1 hr).trans hb2⟩
theorem astore_bad (w : World) (c m : Option Addr) (k va v kd : Int) (hz : 0 < w.heap.size) (hkd : ¬ kd = 0) (hL : LocC w c m k va true 0 kd va true (fun a d => Below a.heap.size a d)) :
    Calls Try.prog 14 #[.pointer c, .pointer m, .int .i64 k, .int .u64 va, .int .u64 v] w fun e w' => e = .returned (faultV kd va true) ∧ Below w.heap.size w w' := by
  refine (store_fault w c m k va v kd 0 _ hkd hz (fun a d hr => TlbOnly.of_below hr) hL).mono ?_
  rintro e w' ⟨rfl, w1, w2, hb1, hr, hb2⟩
  exact ⟨rfl, (bgo hb1 hr).trans hb2⟩
end Go.Proofs.Ytgfidbjhihignaa
