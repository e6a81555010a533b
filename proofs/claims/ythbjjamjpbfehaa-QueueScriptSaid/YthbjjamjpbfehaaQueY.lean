/- The law QueueScript. -/
import Derived.Test.YthbjjamjpbfehaaQueX
import Derived.Deep.CutBlock
namespace Go.Proofs.Ythbjjamjpbfehaa
set_option linter.unusedVariables false
set_option linter.unusedSimpArgs false
open Go.ChangeShapes Go.WideShapes Go.ChangeAt Go.RowKit Go.Shelf

theorem newAt_self (w : World) (v : Value) : NewAt w v v := .inl rfl
theorem has_of {R : List (Int × Nat)} {x : Int} : hasR R x = true ↔ ¬ ∀ e ∈ R, e.1 ≠ x := by
  unfold hasR
  cases h : fR R x with
  | none => exact ⟨fun e => (by cases e), fun q => absurd (fun e he => fR_none h e he) q⟩
  | some q =>
    obtain ⟨a, ha, h1, h2⟩ := fR_some h
    exact ⟨fun _ q => q a ha h1, fun _ => rfl⟩
theorem radd_any (w : World) (B rb : Nat) (v : Value) (R : List (Int × Nat)) (x p : Int) (hx : InI x) (hR : R.length ≤ 200) (hG : Good R) (hB : B ≤ w.heap.size) (h : RefQ w B rb v R) :
    Calls Try.prog 11 #[.pointer (some ⟨rb, 0, none⟩), .int .i64 x, .int .i64 p] w fun e w' => e = .returned (.int .i64 (addE R x p)) ∧ ∃ v', RefQ w' B rb v' (addR R x p) ∧ ROnly rb w w' ∧ NewAt w v v' := by
  by_cases c : addE R x p = 0
  · have e2 : addR R x p = insR R x p.toNat := by unfold addR; rw [if_pos c]
    have c1 : ¬ (x < 1 ∨ p < 0 ∨ 7 < p) := fun q => by unfold addE at c; rw [if_pos q] at c; cases c
    have c2 : ¬ hasR R x = true := fun q => by unfold addE at c; rw [if_neg c1, if_pos q] at c; cases c
    obtain ⟨q, rfl⟩ : ∃ q : Nat, p = (q : Int) := ⟨p.toNat, by omega⟩
    rw [c, e2, Int.toNat_natCast]
    exact radd_yes w B rb v R x q hR hG hB (by omega) (by omega) (Classical.byContradiction fun q => c2 (has_of.2 q)) h
  · have e2 : addR R x p = R := by unfold addR; rw [if_neg c]
    rw [e2]
    refine (radd_bad w B rb v R x p (by omega) c h).mono ?_
    rintro e w' ⟨h1, rfl⟩
    exact ⟨h1, v, h, ROnly.refl _ _, newAt_self _ _⟩
theorem rdrop_any (w : World) (B rb : Nat) (v : Value) (R : List (Int × Nat)) (x : Int) (hR : R.length ≤ 200) (hG : Good R) (hB : B ≤ w.heap.size) (h : RefQ w B rb v R) :
    Calls Try.prog 13 #[.pointer (some ⟨rb, 0, none⟩), .int .i64 x] w fun e w' => e = .returned (.bool (hasR R x)) ∧ ∃ v', RefQ w' B rb v' (dropR R x) ∧ ROnly rb w w' ∧ NewAt w v v' := by
  by_cases c : hasR R x = true
  · rw [c]
    exact rdrop_yes w B rb v R x hR hG hB (has_of.1 c) h
  · have hn : ∀ e ∈ R, e.1 ≠ x := Classical.byContradiction fun q => c (has_of.2 q)
    rw [Bool.not_eq_true] at c
    rw [c, dropR_self hn]
    refine (rdrop_no w B rb v R x (by omega) hn h).mono ?_
    rintro e w' ⟨h1, rfl⟩
    exact ⟨h1, v, h, ROnly.refl _ _, newAt_self _ _⟩
theorem rback_any (w : World) (B rb : Nat) (v : Value) (R : List (Int × Nat)) (x : Int) (hR : R.length ≤ 200) (hG : Good R) (hB : B ≤ w.heap.size) (h : RefQ w B rb v R) :
    Calls Try.prog 15 #[.pointer (some ⟨rb, 0, none⟩), .int .i64 x] w fun e w' => e = .returned (.bool (hasR R x)) ∧ ∃ v', RefQ w' B rb v' (backR R x) ∧ ROnly rb w w' ∧ NewAt w v v' := by
  by_cases c : hasR R x = true
  · rw [c]
    exact rback_yes w B rb v R x hR hG hB (has_of.1 c) h
  · have hn : ∀ e ∈ R, e.1 ≠ x := Classical.byContradiction fun q => c (has_of.2 q)
    have e2 : backR R x = R := by unfold backR; rw [fR_no hn]
    rw [Bool.not_eq_true] at c
    rw [c, e2]
    refine (rback_no w B rb v R x (by omega) hn h).mono ?_
    rintro e w' ⟨h1, rfl⟩
    exact ⟨h1, v, h, ROnly.refl _ _, newAt_self _ _⟩
theorem num_any (a : Int) (w : World) (h : 0 ≤ a ∧ a ≤ 100) : Calls Try.prog 9 #[.int .i64 a] w fun e w' => e = .returned (.int .i64 a) ∧ w' = w := by
  obtain ⟨h0, h1⟩ := h
  go_enter Try.func9, Try.ntmps9
  go_wp2
  go_ret
  exact ⟨rfl, rfl⟩
theorem addE_b (R : List (Int × Nat)) (x p : Int) : 0 ≤ addE R x p ∧ addE R x p ≤ 100 := by
  unfold addE
  split
  · omega
  · split <;> omega
/-- The act that is looked at lies in a block of its own. -/
def XAt (w : World) (xb : Nat) (d a b : Int) : Prop := w.cell? ⟨xb, 0, none⟩ = some (.int .i64 d) ∧ w.cell? ⟨xb, 1, none⟩ = some (.int .i64 a) ∧ w.cell? ⟨xb, 2, none⟩ = some (.int .i64 b) ∧ xb < w.heap.size
theorem XAt.of_block {w w' : World} {xb : Nat} {d a b : Int} (h : XAt w xb d a b) (e : w'.heap[xb]? = w.heap[xb]?) (s : w.heap.size ≤ w'.heap.size) : XAt w' xb d a b :=
  ⟨(cell_of_block e).trans h.1, (cell_of_block e).trans h.2.1, (cell_of_block e).trans h.2.2.1, Nat.lt_of_lt_of_le h.2.2.2 s⟩
theorem xat_new (w : World) (d a b : Int) (T : TypeId) : XAt (w.alloc (.cells #[.int .i64 d, .int .i64 a, .int .i64 b] T)) w.heap.size d a b := by
  refine ⟨?_, ?_, ?_, by simp⟩
  all_goals simp [go_sem]
/-- Behind an act, the law's own state. -/
def After (N : Nat) (W0 w : World) (k rb xb : Nat) (d a b : Int) : Prop := ∃ vs rv R, SQ N w k rb vs rv R ∧ R.length ≤ k ∧ XAt w xb d a b ∧ Below N W0 w
theorem after_end {N k rb xb : Nat} {W0 w w2 w3 : World} {d a b : Int} {vs vs2 : Nat → Value} {rv rv3 : Value} {R R' : List (Int × Nat)} (h : SQ N w k rb vs rv R) (hB : Below N W0 w) (hx : XAt w xb d a b) (hxr : xb ≠ rb) (hxf : Free w (N + 1) N vs xb)
    (q2 : QR w2 N (N + 1) N (k + 1) vs2 R') (o2 : QOnly w w2 (N + 1) N vs vs2) (r3 : RefQ w3 N rb rv3 R') (o3 : ROnly rb w2 w3) (n3 : NewAt w2 rv rv3) (hl : R'.length ≤ k + 1) : After N W0 w3 (k + 1) rb xb d a b := by
  obtain ⟨e1, e2, e3, e4⟩ := h.qop o2
  obtain ⟨b1, f1⟩ := hxf.keep o2
  have hx2 := hx.of_block b1 o2.size
  have hw2 := e4.size
  exact ⟨vs2, rv3, R', SQ.rop q2 e2 e3 h.n r3 o3 n3, hl, hx2.of_block (o3.block xb hx2.2.2.2 hxr) o3.size, (hB.trans e4).trans (o3.below h.n (by have := hB.size; have := q2.lt; omega))⟩
set_option maxRecDepth 100000 in
set_option maxHeartbeats 4000000 in
theorem walk_queueScript {W : World} (p : Option Addr) (n c : Nat) (hx : n ≤ c ∧ c ≤ maxLen ∧ ∃ D, ActsAt W p n D) :
    Calls Try.prog 3 #[.slice p n c] W fun e w' => e = .returned (.bool true) ∧ Below W.heap.size W w' := by
  obtain ⟨h1, h2, D, pb, off, hp, hD⟩ := hx
  unfold maxLen at h2
  have HD := Lib.hid hD
  have HP := Lib.hid hp
  clear hD hp
  by_cases hn : 120 < n
  · go_enter Try.func3, Try.ntmps3
    go_wp2_with (first
      | (go_at_call 7; refine (awake21 _).mono ?_; rintro e w3 ⟨rfl, hb3⟩))
    go_ret
    exact ⟨rfl, hb3⟩
  have hn' : n ≤ 120 := by omega
  clear hn
  go_enter Try.func3, Try.ntmps3
  go_wp2_with (first
    | (go_at_call 8; refine (new_r _).mono ?_; rintro e w1 ⟨rfl, hq1, hb1⟩; have HQ1 := Lib.hid hq1; have HB1 := Lib.hid hb1; have hs1 := hb1.size; clear hq1 hb1))
  have hst : SQ W.heap.size (w1.alloc (.cells #[.slice none 0 0] 29)) 0 w1.heap.size no8 (.slice none 0 0) [] :=
    ⟨HQ1.out.call (bal (Below.refl _ _) _), ⟨by simp, by simp [go_sem], by unfold World.frozen?; rw [World.alloc_heap_new]; rfl, World.ownsRow_nil _ _ _ _, by simp [Value.ownBlock]⟩, HQ1.out.free (Nat.le_refl _) (by simp), fun g hg => by simp [Value.ownBlock] at hg, hs1⟩
  have HST := Lib.hid hst
  have HBA := Lib.hid (HB1.out.alloc hs1 (.cells #[.slice none 0 0] 29))
  clear HQ1 HB1 hst
  go_loopw [5, 6, 7, 8, 9, 10, 11, 12] (fun i x ok f is al wa u wr => ∃ (k : Nat) (vs : Nat → Value) (rv : Value) (R : List (Int × Nat)), k ≤ n ∧ i = .int .i64 k ∧ Hid (SQ W.heap.size wr k w1.heap.size vs rv R) ∧ Hid (R.length ≤ k) ∧ Hid (Below W.heap.size W wr)) (fun i _ _ _ _ _ _ _ _ => n - (intOf i).toNat)
  case atStart => exact ⟨0, no8, _, [], by omega, rfl, HST, Lib.hid (by simp), HBA⟩
  case round =>
    obtain ⟨k, vs, rv, R, hk, rfl, HS, HLN, HB⟩ := hrel
    clear HST HBA
    by_cases hlt : k < n
    · obtain ⟨rfl, hpb⟩ := HP.out (by omega)
      obtain ⟨⟨c0, c1, c2⟩, -, i1, i2⟩ := HD.out k hlt
      obtain ⟨⟨xd, xa, xb⟩, hx⟩ : ∃ x, D k = x := ⟨_, rfl⟩
      rw [hx] at c0 c1 c2 i1 i2
      simp only at c0 c1 c2 i1 i2
      have hB := HB.out
      have e0 := (hB.cell (p := ⟨pb, off + k * 3, none⟩) hpb).trans c0
      have e1 := (hB.cell (p := ⟨pb, off + k * 3 + 1, none⟩) hpb).trans c1
      have e2 := (hB.cell (p := ⟨pb, off + k * 3 + 2, none⟩) hpb).trans c2
      clear c0 c1 c2 hx hB
      have HI1 := Lib.hid i1
      have HI2 := Lib.hid i2
      clear i1 i2
      have HN : Hid (W.heap.size ≤ wr.heap.size) := Lib.hid HB.out.size
      have HG := Lib.hid HS.out.q.good
      have HL2 : Hid (R.length ≤ 200) := Lib.hid (by have := HLN.out; omega)
      have hk0 : k < 1000000 := by omega
      go_upto_block 2 with fail
      obtain ⟨wx, hwx⟩ : ∃ wx, wx = wr.alloc (.cells #[.int .i64 xd, .int .i64 xa, .int .i64 xb] 31) := ⟨_, rfl⟩
      have hxa : XAt wx wr.heap.size xd xa xb := by rw [hwx]; exact xat_new _ _ _ _ _
      have hsx : SQ W.heap.size wx k w1.heap.size vs rv R := by rw [hwx]; exact HS.out.call (bal (Below.refl _ _) _)
      have hbx : Below W.heap.size W wx := by rw [hwx]; exact HB.out.alloc HN.out _
      have hfx : Free wx (W.heap.size + 1) W.heap.size vs wr.heap.size := HS.out.q.free (Nat.le_refl _) hxa.2.2.2
      have hne : wr.heap.size ≠ w1.heap.size := by have := HS.out.r.lt; omega
      have hNx : W.heap.size ≤ wx.heap.size := hbx.size
      rw [← hwx]
      clear hwx
      have HXA := Lib.hid hxa
      have HSX := Lib.hid hsx
      have HBX := Lib.hid hbx
      have HFX := Lib.hid hfx
      have HNE := Lib.hid hne
      have HNX := Lib.hid hNx
      clear hxa hsx hbx hfx hne hNx
      go_cut [7] from 22 to 119 (fun s7 w9 => s7 = .bool true ∧ Hid (After W.heap.size W w9 (k + 1) w1.heap.size wr.heap.size xd xa xb))
      case first =>
        by_cases d0 : xd = 0
        · subst d0
          go_wp2
          go_region_held3 (fun w' => w'.cell? ⟨wr.heap.size, 0, none⟩ = some (.int .i64 0) ∧ w'.cell? ⟨wr.heap.size, 1, none⟩ = some (.int .i64 xa) ∧ w'.cell? ⟨wr.heap.size, 2, none⟩ = some (.int .i64 xb) ∧ wr.heap.size < w'.heap.size)
            (first | exact HXA.out | exact KX2.out | exact KX3.out)
            (first
              | (go_at_call 10; refine (add_r _ xa xb HI1.out HI2.out hk0 (HSX.out.q.call (Below.refl _ _).drew)).mono ?_; rintro e w2 ⟨rfl, vs2, hq2, ho2'⟩; have ho2 : QOnly wx w2 (W.heap.size + 1) W.heap.size vs vs2 := ⟨ho2'.os, ho2'.tape, ho2'.output, ho2'.size, ho2'.block, ho2'.foot⟩; have HQ2 := Lib.hid hq2; have HO2 := Lib.hid ho2; have hx2 := HXA.out.of_block (HFX.out.keep ho2).1 ho2.size; have KX2 := Lib.hid (show w2.cell? ⟨wr.heap.size, 0, none⟩ = some (.int .i64 0) ∧ w2.cell? ⟨wr.heap.size, 1, none⟩ = some (.int .i64 xa) ∧ w2.cell? ⟨wr.heap.size, 2, none⟩ = some (.int .i64 xb) ∧ wr.heap.size < w2.heap.size from hx2); have HR2 := Lib.hid (HSX.out.qop ho2).1; clear hq2 ho2 ho2' hx2)
              | (go_at_call 9; refine (num_any _ _ (addE_b _ _ _)).mono ?_; rintro e w5 ⟨rfl, rfl⟩)
              | (go_at_call 11; refine (radd_any _ _ _ _ _ xa xb HI1.out HL2.out HG.out (Nat.le_trans HNX.out HO2.out.size) HR2.out).mono ?_; rintro e w3 ⟨rfl, rv3, hr3, ho3, hn3⟩; have HR3 := Lib.hid hr3; have HO3 := Lib.hid ho3; have HN3 := Lib.hid hn3; have hx3 := XAt.of_block KX2.out (ho3.block wr.heap.size KX2.out.2.2.2 HNE.out) ho3.size; have KX3 := Lib.hid (show w3.cell? ⟨wr.heap.size, 0, none⟩ = some (.int .i64 0) ∧ w3.cell? ⟨wr.heap.size, 1, none⟩ = some (.int .i64 xa) ∧ w3.cell? ⟨wr.heap.size, 2, none⟩ = some (.int .i64 xb) ∧ wr.heap.size < w3.heap.size from hx3); clear hr3 ho3 hn3 hx3))
          go_wp2
          go_meet
          case rel => exact ⟨by first | rfl | simp, Lib.hid (after_end HSX.out HBX.out HXA.out HNE.out HFX.out HQ2.out HO2.out HR3.out HO3.out HN3.out (Nat.le_trans (addR_len _ _ _) (by have := HLN.out; omega)))⟩
        · by_cases d1 : xd = 1
          · subst d1
            go_wp2
            go_region_held3 (fun w' => w'.cell? ⟨wr.heap.size, 0, none⟩ = some (.int .i64 1) ∧ w'.cell? ⟨wr.heap.size, 1, none⟩ = some (.int .i64 xa) ∧ w'.cell? ⟨wr.heap.size, 2, none⟩ = some (.int .i64 xb) ∧ wr.heap.size < w'.heap.size)
              (first | exact HXA.out | exact KX2.out | exact KX3.out)
              (first
                | (go_at_call 12; refine (drop_r _ xa HI1.out hk0 (HSX.out.q.call (Below.refl _ _).drew)).mono ?_; rintro e w2 ⟨rfl, vs2, hq2, ho2'⟩; have ho2 : QOnly wx w2 (W.heap.size + 1) W.heap.size vs vs2 := ⟨ho2'.os, ho2'.tape, ho2'.output, ho2'.size, ho2'.block, ho2'.foot⟩; have HQ2 := Lib.hid hq2; have HO2 := Lib.hid ho2; have hx2 := HXA.out.of_block (HFX.out.keep ho2).1 ho2.size; have KX2 := Lib.hid (show w2.cell? ⟨wr.heap.size, 0, none⟩ = some (.int .i64 1) ∧ w2.cell? ⟨wr.heap.size, 1, none⟩ = some (.int .i64 xa) ∧ w2.cell? ⟨wr.heap.size, 2, none⟩ = some (.int .i64 xb) ∧ wr.heap.size < w2.heap.size from hx2); have HR2 := Lib.hid (HSX.out.qop ho2).1; clear hq2 ho2 ho2' hx2)
                | (go_at_call 13; refine (rdrop_any _ _ _ _ _ xa HL2.out HG.out (Nat.le_trans HNX.out HO2.out.size) HR2.out).mono ?_; rintro e w3 ⟨rfl, rv3, hr3, ho3, hn3⟩; have HR3 := Lib.hid hr3; have HO3 := Lib.hid ho3; have HN3 := Lib.hid hn3; have hx3 := XAt.of_block KX2.out (ho3.block wr.heap.size KX2.out.2.2.2 HNE.out) ho3.size; have KX3 := Lib.hid (show w3.cell? ⟨wr.heap.size, 0, none⟩ = some (.int .i64 1) ∧ w3.cell? ⟨wr.heap.size, 1, none⟩ = some (.int .i64 xa) ∧ w3.cell? ⟨wr.heap.size, 2, none⟩ = some (.int .i64 xb) ∧ wr.heap.size < w3.heap.size from hx3); clear hr3 ho3 hn3 hx3))
            go_wp2
            go_meet
            case rel => exact ⟨by first | rfl | simp, Lib.hid (after_end HSX.out HBX.out HXA.out HNE.out HFX.out (HQ2.out.more (Nat.le_succ k)) HO2.out HR3.out HO3.out HN3.out (Nat.le_trans (drop_len _ _) (by have := HLN.out; omega)))⟩
          · by_cases d2 : xd = 2
            · subst d2
              go_wp2
              go_region_held3 (fun w' => w'.cell? ⟨wr.heap.size, 0, none⟩ = some (.int .i64 2) ∧ w'.cell? ⟨wr.heap.size, 1, none⟩ = some (.int .i64 xa) ∧ w'.cell? ⟨wr.heap.size, 2, none⟩ = some (.int .i64 xb) ∧ wr.heap.size < w'.heap.size)
                (first | exact HXA.out | exact KX2.out | exact KX3.out)
                (first
                  | (go_at_call 14; refine (back_r _ xa HI1.out hk0 (HSX.out.q.call (Below.refl _ _).drew)).mono ?_; rintro e w2 ⟨rfl, vs2, hq2, ho2'⟩; have ho2 : QOnly wx w2 (W.heap.size + 1) W.heap.size vs vs2 := ⟨ho2'.os, ho2'.tape, ho2'.output, ho2'.size, ho2'.block, ho2'.foot⟩; have HQ2 := Lib.hid hq2; have HO2 := Lib.hid ho2; have hx2 := HXA.out.of_block (HFX.out.keep ho2).1 ho2.size; have KX2 := Lib.hid (show w2.cell? ⟨wr.heap.size, 0, none⟩ = some (.int .i64 2) ∧ w2.cell? ⟨wr.heap.size, 1, none⟩ = some (.int .i64 xa) ∧ w2.cell? ⟨wr.heap.size, 2, none⟩ = some (.int .i64 xb) ∧ wr.heap.size < w2.heap.size from hx2); have HR2 := Lib.hid (HSX.out.qop ho2).1; clear hq2 ho2 ho2' hx2)
                  | (go_at_call 15; refine (rback_any _ _ _ _ _ xa HL2.out HG.out (Nat.le_trans HNX.out HO2.out.size) HR2.out).mono ?_; rintro e w3 ⟨rfl, rv3, hr3, ho3, hn3⟩; have HR3 := Lib.hid hr3; have HO3 := Lib.hid ho3; have HN3 := Lib.hid hn3; have hx3 := XAt.of_block KX2.out (ho3.block wr.heap.size KX2.out.2.2.2 HNE.out) ho3.size; have KX3 := Lib.hid (show w3.cell? ⟨wr.heap.size, 0, none⟩ = some (.int .i64 2) ∧ w3.cell? ⟨wr.heap.size, 1, none⟩ = some (.int .i64 xa) ∧ w3.cell? ⟨wr.heap.size, 2, none⟩ = some (.int .i64 xb) ∧ wr.heap.size < w3.heap.size from hx3); clear hr3 ho3 hn3 hx3))
              go_wp2
              go_meet
              case rel => exact ⟨by first | rfl | simp, Lib.hid (after_end HSX.out HBX.out HXA.out HNE.out HFX.out HQ2.out HO2.out HR3.out HO3.out HN3.out (Nat.le_trans (backR_len _ _) (by have := HLN.out; omega)))⟩
            · go_wp2
              go_meet
              case rel => exact ⟨by first | rfl | simp, Lib.hid ⟨vs, rv, R, ⟨HSX.out.q.more (Nat.le_succ k), HSX.out.r, HSX.out.f, HSX.out.g, HSX.out.n⟩, by have := HLN.out; omega, HXA.out, HBX.out⟩⟩
      case rest =>
        obtain ⟨rfl, HAF⟩ := hcut
        obtain ⟨vs2, rv2, R2, hs2, hl2, hx2, hb2⟩ := HAF.out
        have HS2 := Lib.hid hs2
        have HX2 := Lib.hid hx2
        have HB2 := Lib.hid hb2
        have HLL := Lib.hid hl2
        have hl3 : (R2.length : Int) ≤ 200 := by omega
        clear HS HLN HB HSX HXA HBX HFX HAF hs2 hx2 hb2 HL2 HG HI2 e0 e1 e2
        obtain ⟨t, ht⟩ : ∃ t, hasR R2 xa = t := ⟨_, rfl⟩
        have HHT := Lib.hid ht
        clear ht
        have hb2' := HB2.out.size
        rcases (show R2 = [] ∨ ∃ e t, R2 = e :: t by cases R2 with | nil => exact .inl rfl | cons e t => exact .inr ⟨e, t, rfl⟩) with rfl | ⟨⟨ex, eq⟩, tl, rfl⟩
        · cases t
          all_goals
            go_wp2_with (first
              | (go_at_call 16; refine (first_r _ (by omega) HS2.out.q).mono ?_; rw [show firstF (([] : List (Int × Nat)).map (·.1)) = (0, false) from rfl]; rintro e w4 ⟨rfl, hb4⟩; have HS4 := Lib.hid (HS2.out.call hb4); have HX4 := Lib.hid (HX2.out.of_block (hb4.block wr.heap.size HX2.out.2.2.2) hb4.size); have HB4 := Lib.hid (HB2.out.trans (hb4.mono HB2.out.size)); have hs4 := HB4.out.size; clear hb4)
              | (go_at_call 17; refine (rall_any _ _ _ _ ([] : List (Int × Nat)) (by first | omega | (simp only [List.length_cons, List.length_nil]; omega)) HS4.out.r).mono ?_; simp only [List.length_cons, List.length_nil]; rintro e w5 ⟨a5, c5, rfl, ha5, hb5⟩; have HA5 := Lib.hid ha5; have HS5 := Lib.hid (HS4.out.call hb5); have HX5 := Lib.hid (HX4.out.of_block (hb5.block wr.heap.size HX4.out.2.2.2) hb5.size); have HB5 := Lib.hid (HB4.out.trans (hb5.mono HB4.out.size)); have hs5 := HB5.out.size; clear ha5 hb5)
              | (go_at_call 18; refine (all_r _ (by omega) HS5.out.q).mono ?_; simp only [List.length_cons, List.length_nil]; rintro e w6 ⟨a6, c6, rfl, ha6, hb6⟩; have HB56 := Lib.hid hb6; have HA6 := Lib.hid ha6; have HA56 := Lib.hid (row_below HA5.out hb6); have HS6 := Lib.hid (HS5.out.call hb6); have HX6 := Lib.hid (HX5.out.of_block (hb6.block wr.heap.size HX5.out.2.2.2) hb6.size); have HB6 := Lib.hid (HB5.out.trans (hb6.mono HB5.out.size)); have hs6 := hb6.size; clear ha6 hb6))
            have R1 := Lib.hid (fun w (hw : KeptQ w6.heap.size w6 w) => (HX6.out.of_block (hw.1.block wr.heap.size HX6.out.2.2.2) hw.2).2.1)
            have RS := Lib.hid (fun w (hw : KeptQ w6.heap.size w6 w) => HS6.out.call hw.1)
            have RA := Lib.hid (fun w (hw : KeptQ w6.heap.size w6 w) => row_below HA56.out hw.1)
            have RB := Lib.hid (fun w (hw : KeptQ w6.heap.size w6 w) => row_below HA6.out hw.1)
            refine wp_region_keptQ w6.heap.size w6 (by kernel_rfl) (by kernel_rfl) (KeptQ.refl (Nat.le_refl _)) ?_
            repeat (first
              | go_big_quiet_skip
              | (go_big_quiet_want; first
                | (refine quietQ_load_cell 3 _ rfl ⟨wr.heap.size, 1, none⟩ rfl _ R1.out _ Try.underlying3 rfl ?_; simp only [Act.put, List.setIfInBounds_toArray, List.set_cons_zero, List.set_cons_succ]; go_big_quiet_on)
                | (go_big_quiet_op; first
                  | go_big_quiet_on
                  | (refine ⟨_, fun _ _ => rfl, ?_⟩; go_big_quiet_on)
                  | go_big_quiet_call ((intro hw; first
                    | (go_at_call 19; refine (has_r _ xa HI1.out (RS.out _ hw).q).mono ?_; rw [HHT.out]; rintro e w7 ⟨rfl, rfl⟩; exact ⟨rfl, hw⟩)
                    | (go_at_call 20; refine (rhas_any _ _ _ _ ([] : List (Int × Nat)) xa (by first | omega | (simp only [List.length_cons, List.length_nil]; omega)) (RS.out _ hw).q.good (RS.out _ hw).r).mono ?_; rw [HHT.out]; rintro e w7 ⟨rfl, rfl⟩; exact ⟨rfl, hw⟩)
                    | (go_at_call 21; refine (same_rows _ _ _ _ _ _ _ _ _ (by first | omega | (simp only [List.length_cons, List.length_nil]; omega)) (by simp) (RB.out _ hw) (RA.out _ hw)).mono ?_; rintro e w7 ⟨rfl, hb7⟩; exact ⟨rfl, hw.call hb7⟩))))))
            refine wpQuiet_nil ?_
            intro w7 hw7
            have HS7 := Lib.hid (HS6.out.call hw7.1)
            have HB7 := Lib.hid (HB6.out.trans (hw7.1.mono HB6.out.size))
            have HA7 := Lib.hid (RB.out _ hw7)
            have hs7 := hw7.2
            have HB57 := Lib.hid (HB56.out.trans (hw7.1.mono hs6))
            clear R1 RS RA RB hw7
            go_wp2_with (go_at_call 22; refine (over_row _ _ _ _ _ HA7.out (by first | omega | (simp only [List.length_cons, List.length_nil]; omega)) (Nat.le_trans hs6 hs7)).mono ?_; rintro e w8 ⟨⟨u8, rfl⟩, hb8⟩; have HB8 := Lib.hid (HB7.out.trans (hb8.mono hs5)); have HS8 := Lib.hid (HS5.out.call (HB57.out.trans hb8)); clear hb8)
            go_roundw
            case rel =>
              first
                | exact ⟨k + 1, vs2, rv2, _, by omega, by go_num, HS8, HLL, HB8⟩
                | ((repeat apply Exists.intro); exact ⟨⟨k + 1, vs2, rv2, _, by omega, by go_num, HS8, HLL, HB8⟩, rfl⟩)
            case measure => simp [intOf]; omega
        · have hlc : (tl.length : Int) + 1 ≤ 200 := by simp only [List.length_cons] at hl3; omega
          have hp1 : (0 : Int) < (tl.length : Int) + 1 := by omega
          have hp2 : decide ((0 : Int) < (tl.length : Int) + 1) = true := decide_eq_true hp1
          have hp3 : decide ((tl.length : Int) + 1 > 0) = true := hp2
          cases t
          all_goals
            go_wp2_with (first
              | (go_at_call 16; refine (first_r _ (by omega) HS2.out.q).mono ?_; rw [show firstF (((ex, eq) :: tl : List (Int × Nat)).map (·.1)) = (ex, true) from rfl]; rintro e w4 ⟨rfl, hb4⟩; have HS4 := Lib.hid (HS2.out.call hb4); have HX4 := Lib.hid (HX2.out.of_block (hb4.block wr.heap.size HX2.out.2.2.2) hb4.size); have HB4 := Lib.hid (HB2.out.trans (hb4.mono HB2.out.size)); have hs4 := HB4.out.size; clear hb4)
              | (go_at_call 17; refine (rall_any _ _ _ _ ((ex, eq) :: tl) (by first | omega | (simp only [List.length_cons, List.length_nil]; omega)) HS4.out.r).mono ?_; simp only [List.length_cons, List.length_nil]; rintro e w5 ⟨a5, c5, rfl, ha5, hb5⟩; obtain ⟨g5, rfl, -, -, hcell5⟩ := (row_place ha5).2.2 (by simp); have d5 := hcell5 0 _ (ids_get (R := (ex, eq) :: tl) (j := 0) rfl); simp only at d5; have HA5 := Lib.hid ha5; have HS5 := Lib.hid (HS4.out.call hb5); have HX5 := Lib.hid (HX4.out.of_block (hb5.block wr.heap.size HX4.out.2.2.2) hb5.size); have HB5 := Lib.hid (HB4.out.trans (hb5.mono HB4.out.size)); have hs5 := HB5.out.size; clear ha5 hb5)
              | (go_at_call 18; refine (all_r _ (by omega) HS5.out.q).mono ?_; simp only [List.length_cons, List.length_nil]; rintro e w6 ⟨a6, c6, rfl, ha6, hb6⟩; have HB56 := Lib.hid hb6; have HA6 := Lib.hid ha6; have HA56 := Lib.hid (row_below HA5.out hb6); have HS6 := Lib.hid (HS5.out.call hb6); have HX6 := Lib.hid (HX5.out.of_block (hb6.block wr.heap.size HX5.out.2.2.2) hb6.size); have HB6 := Lib.hid (HB5.out.trans (hb6.mono HB5.out.size)); have hs6 := hb6.size; clear ha6 hb6))
            have R1 := Lib.hid (fun w (hw : KeptQ w6.heap.size w6 w) => (HX6.out.of_block (hw.1.block wr.heap.size HX6.out.2.2.2) hw.2).2.1)
            have RS := Lib.hid (fun w (hw : KeptQ w6.heap.size w6 w) => HS6.out.call hw.1)
            have RA := Lib.hid (fun w (hw : KeptQ w6.heap.size w6 w) => row_below HA56.out hw.1)
            have RB := Lib.hid (fun w (hw : KeptQ w6.heap.size w6 w) => row_below HA6.out hw.1)
            refine wp_region_keptQ w6.heap.size w6 (by kernel_rfl) (by kernel_rfl) (KeptQ.refl (Nat.le_refl _)) ?_
            repeat (first
              | go_big_quiet_skip
              | (go_big_quiet_want; first
                | (refine quietQ_load_cell 3 _ rfl ⟨wr.heap.size, 1, none⟩ rfl _ R1.out _ Try.underlying3 rfl ?_; simp only [Act.put, List.setIfInBounds_toArray, List.set_cons_zero, List.set_cons_succ]; go_big_quiet_on)
                | (go_big_quiet_op; first
                  | go_big_quiet_on
                  | (refine ⟨_, fun _ _ => rfl, ?_⟩; go_big_quiet_on)
                  | go_big_quiet_call ((intro hw; first
                    | (go_at_call 19; refine (has_r _ xa HI1.out (RS.out _ hw).q).mono ?_; rw [HHT.out]; rintro e w7 ⟨rfl, rfl⟩; exact ⟨rfl, hw⟩)
                    | (go_at_call 20; refine (rhas_any _ _ _ _ ((ex, eq) :: tl) xa (by first | omega | (simp only [List.length_cons, List.length_nil]; omega)) (RS.out _ hw).q.good (RS.out _ hw).r).mono ?_; rw [HHT.out]; rintro e w7 ⟨rfl, rfl⟩; exact ⟨rfl, hw⟩)
                    | (go_at_call 21; refine (same_rows _ _ _ _ _ _ _ _ _ (by first | omega | (simp only [List.length_cons, List.length_nil]; omega)) (by simp) (RB.out _ hw) (RA.out _ hw)).mono ?_; rintro e w7 ⟨rfl, hb7⟩; exact ⟨rfl, hw.call hb7⟩))))))
            refine wpQuiet_nil ?_
            intro w7 hw7
            have HS7 := Lib.hid (HS6.out.call hw7.1)
            have HB7 := Lib.hid (HB6.out.trans (hw7.1.mono HB6.out.size))
            have HA7 := Lib.hid (RB.out _ hw7)
            have hs7 := hw7.2
            have HB57 := Lib.hid (HB56.out.trans (hw7.1.mono hs6))
            clear R1 RS RA RB hw7
            go_wp2_with (go_at_call 22; refine (over_row _ _ _ _ _ HA7.out (by first | omega | (simp only [List.length_cons, List.length_nil]; omega)) (Nat.le_trans hs6 hs7)).mono ?_; rintro e w8 ⟨⟨u8, rfl⟩, hb8⟩; have HB8 := Lib.hid (HB7.out.trans (hb8.mono hs5)); have HS8 := Lib.hid (HS5.out.call (HB57.out.trans hb8)); clear hb8)
            go_roundw
            case rel =>
              first
                | exact ⟨k + 1, vs2, rv2, _, by omega, by go_num, HS8, HLL, HB8⟩
                | ((repeat apply Exists.intro); exact ⟨⟨k + 1, vs2, rv2, _, by omega, by go_num, HS8, HLL, HB8⟩, rfl⟩)
            case measure => simp [intOf]; omega
    · obtain rfl : k = n := by omega
      go_wp2_with (first
        | (go_at_call 18; refine (all_r _ (by omega) HS.out.q).mono ?_; rintro e w3 ⟨q, cq, rfl, ha, hb3⟩; have HA3 := Lib.hid ha; have HS3 := Lib.hid (HS.out.call hb3); have HB3 := Lib.hid (HB.out.trans (hb3.mono HB.out.size)); clear ha hb3)
        | (go_at_call 17; refine (rall_any _ _ _ _ R (by have := HLN.out; omega) HS3.out.r).mono ?_; rintro e w4 ⟨q4, cq4, rfl, ha4, hb4⟩; have HA4 := Lib.hid ha4; have HA5 := Lib.hid (row_below HA3.out hb4); have HB4 := Lib.hid (HB3.out.trans (hb4.mono HB3.out.size)); clear ha4 hb4)
        | (go_at_call 21; refine (same_rows _ _ _ _ _ _ _ _ _ (by have := HLN.out; omega) (by simp) HA5.out HA4.out).mono ?_; rintro e w5 ⟨rfl, hb5⟩; have HB5 := Lib.hid (HB4.out.trans (hb5.mono HB4.out.size)); clear hb5)
        | (go_at_call 7; refine (awake21 _).mono ?_; rintro e w6 ⟨rfl, hb6⟩))
      go_ret
      exact ⟨rfl, HB5.out.trans (hb6.mono HB5.out.size)⟩
end Go.Proofs.Ythbjjamjpbfehaa
