/- The law PhysScript. -/
import Derived.Test.YtnaiepoaikabgaaMem7
import Derived.Deep.RegionHeld3
namespace Go.Proofs.Ytnaiepoaikabgaa
set_option linter.unusedVariables false
set_option linter.unusedSimpArgs false
open Go.ChangeShapes Go.WideShapes Go.ChangeAt Go.RowKit Go.Shelf

theorem num_any (w : World) (x : Int) : Calls Try.prog 10 #[.int .i64 x] w fun e w' => e = .returned (.int .i64 x) ∧ w = w' := by
  go_enter Try.func10, Try.ntmps10
  go_wp2
  go_ret
  exact ⟨rfl, rfl⟩
theorem BlkOnly.drew {b : Nat} {a d : World} (h : BlkOnly b a d) : BlkOnly b a d.drew := ⟨h.os, h.tape, h.output, h.size, h.block⟩
theorem BlkOnly.drewN {b : Nat} {a d : World} (h : BlkOnly b a d) (k : Nat) : BlkOnly b a (d.drewN k) := by
  induction k with
  | zero => exact h
  | succ k ih => exact ih.drew
theorem BlkOnly.call {b : Nat} {w d e : World} (h : BlkOnly b w d) (k : Below d.heap.size d e) : BlkOnly b w e := h.trans (BlkOnly.of_below k)
/-- Two blocks are turned. -/
structure TwoOnly (g h : Nat) (w w' : World) : Prop where
  os : w'.os = w.os
  tape : w'.tape = w.tape
  output : w'.output = w.output
  size : w.heap.size ≤ w'.heap.size
  block : ∀ k, k < w.heap.size → k ≠ g → k ≠ h → w'.heap[k]? = w.heap[k]?
theorem TwoOnly.refl (g h : Nat) (w : World) : TwoOnly g h w w := ⟨rfl, rfl, rfl, Nat.le_refl _, fun _ _ _ _ => rfl⟩
theorem TwoOnly.drew {g h : Nat} {a d : World} (q : TwoOnly g h a d) : TwoOnly g h a d.drew := ⟨q.os, q.tape, q.output, q.size, q.block⟩
theorem TwoOnly.drewN {g h : Nat} {a d : World} (q : TwoOnly g h a d) (k : Nat) : TwoOnly g h a (d.drewN k) := by
  induction k with
  | zero => exact q
  | succ k ih => exact ih.drew
theorem TwoOnly.one {g h : Nat} {a d e : World} (q : TwoOnly g h a d) (k : BlkOnly g d e) : TwoOnly g h a e := ⟨k.os.trans q.os, k.tape.trans q.tape, k.output.trans q.output, Nat.le_trans q.size k.size, fun i h1 h2 h3 => (k.block i (Nat.lt_of_lt_of_le h1 q.size) h2).trans (q.block i h1 h2 h3)⟩
theorem TwoOnly.two {g h : Nat} {a d e : World} (q : TwoOnly g h a d) (k : BlkOnly h d e) : TwoOnly g h a e := ⟨k.os.trans q.os, k.tape.trans q.tape, k.output.trans q.output, Nat.le_trans q.size k.size, fun i h1 h2 h3 => (k.block i (Nat.lt_of_lt_of_le h1 q.size) h3).trans (q.block i h1 h2 h3)⟩
theorem TwoOnly.below {g h B : Nat} {w w' : World} (q : TwoOnly g h w w') (hg : B ≤ g) (hh : B ≤ h) (hB : B ≤ w.heap.size) : Below B w w' := ⟨q.os, q.tape, q.output, q.size, fun k hk => q.block k (by omega) (by omega) (by omega)⟩
theorem TwoOnly.cell {g h : Nat} {w w' : World} {k j : Nat} {v : Option Value} (q : TwoOnly g h w w') (hk : k < w.heap.size) (h1 : k ≠ g) (h2 : k ≠ h) (e : w.cell? ⟨k, j, none⟩ = v) : w'.cell? ⟨k, j, none⟩ = v := (cell_of_block (q.block k hk h1 h2)).trans e
def loadF (n : Nat) (m : Nat → Int) (a : Int) : Int := if wrongF n a = 0 then m (a / 8).toNat else 0
def storeF (n : Nat) (m : Nat → Int) (a v : Int) : Nat → Int := if wrongF n a = 0 then updM m (a / 8).toNat v else m
def zeroF (n : Nat) (m : Nat → Int) (f l : Int) : (Nat → Int) × Int := if 0 ≤ f ∧ f < n ∧ 0 ≤ l ∧ l ≤ n - f then (zeroW m (8 * f.toNat) (8 * l.toNat), 0) else (m, 3)
theorem load_gen (w : World) (b g n c : Nat) (m : Nat → Int) (a : Int) (h : MemAt w b g n c m) (ha : WordI a) :
    Calls Try.prog 11 #[.pointer (some ⟨b, 0, none⟩), .int .u64 a] w fun e w' => e = .returned (.tuple #[.int .u64 (loadF n m a), .int .i64 (wrongF n a)]) ∧ w = w' := by
  by_cases he : wrongF n a = 0
  · obtain ⟨k, rfl, hk⟩ := addr_of ha he
    have e : loadF n m (8 * (k : Int)) = m k := by unfold loadF; rw [if_pos he]; congr 1; omega
    rw [e, he]
    exact load_ok w b g n c m k h hk
  · have e : loadF n m a = 0 := by unfold loadF; rw [if_neg he]
    rw [e]
    exact load_bad w b g n c m a h ha (beq_eq_false_iff_ne.2 he)
theorem rload_gen (w : World) (b g n c : Nat) (m : Nat → Int) (a : Int) (h : RefAt w b g n c m) (ha : WordI a) :
    Calls Try.prog 12 #[.pointer (some ⟨b, 0, none⟩), .int .u64 a] w fun e w' => e = .returned (.tuple #[.int .u64 (loadF n m a), .int .i64 (wrongF n a)]) ∧ w = w' := by
  by_cases he : wrongF n a = 0
  · obtain ⟨k, rfl, hk⟩ := addr_of ha he
    have e : loadF n m (8 * (k : Int)) = m k := by unfold loadF; rw [if_pos he]; congr 1; omega
    rw [e, he]
    exact rload_ok w b g n c m k h hk
  · have e : loadF n m a = 0 := by unfold loadF; rw [if_neg he]
    rw [e]
    exact rload_bad w b g n c m a h ha (beq_eq_false_iff_ne.2 he)
theorem store_gen (w : World) (b g n c : Nat) (m : Nat → Int) (a v : Int) (h : MemAt w b g n c m) (ha : WordI a) (hv : WordI v) :
    Calls Try.prog 13 #[.pointer (some ⟨b, 0, none⟩), .int .u64 a, .int .u64 v] w fun e w' => e = .returned (.int .i64 (wrongF n a)) ∧ MemAt w' b g n c (storeF n m a v) ∧ BlkOnly g w w' := by
  by_cases he : wrongF n a = 0
  · obtain ⟨k, rfl, hk⟩ := addr_of ha he
    have e : storeF n m (8 * (k : Int)) v = updM m k v := by unfold storeF; rw [if_pos he]; congr 1; omega
    rw [e, he]
    exact store_ok w b g n c m k v h hk hv
  · have e : storeF n m a v = m := by unfold storeF; rw [if_neg he]
    rw [e]
    exact (store_bad w b g n c m a v h ha (beq_eq_false_iff_ne.2 he)).mono fun e w' ⟨he, hw⟩ => hw ▸ ⟨he, h, BlkOnly.refl _ _⟩
theorem rstore_gen (w : World) (b g n c : Nat) (m : Nat → Int) (a v : Int) (h : RefAt w b g n c m) (ha : WordI a) (hv : WordI v) :
    Calls Try.prog 14 #[.pointer (some ⟨b, 0, none⟩), .int .u64 a, .int .u64 v] w fun e w' => e = .returned (.int .i64 (wrongF n a)) ∧ RefAt w' b g n c (storeF n m a v) ∧ BlkOnly g w w' := by
  by_cases he : wrongF n a = 0
  · obtain ⟨k, rfl, hk⟩ := addr_of ha he
    have e : storeF n m (8 * (k : Int)) v = updM m k v := by unfold storeF; rw [if_pos he]; congr 1; omega
    rw [e, he]
    exact rstore_ok w b g n c m k v h hk hv
  · have e : storeF n m a v = m := by unfold storeF; rw [if_neg he]
    rw [e]
    exact (rstore_bad w b g n c m a v h ha (beq_eq_false_iff_ne.2 he)).mono fun e w' ⟨he, hw⟩ => hw ▸ ⟨he, h, BlkOnly.refl _ _⟩
theorem zero_gen (w : World) (b g n c : Nat) (m : Nat → Int) (f l : Int) (h : MemAt w b g n c m) :
    Calls Try.prog 15 #[.pointer (some ⟨b, 0, none⟩), .int .i64 f, .int .i64 l] w fun e w' => e = .returned (.int .i64 (zeroF n m f l).2) ∧ MemAt w' b g n c (zeroF n m f l).1 ∧ BlkOnly g w w' := by
  unfold zeroF
  by_cases hc : 0 ≤ f ∧ f < n ∧ 0 ≤ l ∧ l ≤ n - f
  · rw [if_pos hc]
    obtain ⟨k, rfl⟩ := Int.eq_ofNat_of_zero_le hc.1
    obtain ⟨q, rfl⟩ := Int.eq_ofNat_of_zero_le hc.2.2.1
    simp only [Int.toNat_natCast]
    exact zero_ok w b g n c k q m h (by omega) (by omega)
  · rw [if_neg hc]
    exact (zero_bad w b g n c f l m h hc).mono fun e w' ⟨he, hw⟩ => hw ▸ ⟨he, h, BlkOnly.refl _ _⟩
theorem rzero_gen (w : World) (b g n c : Nat) (m : Nat → Int) (f l : Int) (h : RefAt w b g n c m) :
    Calls Try.prog 16 #[.pointer (some ⟨b, 0, none⟩), .int .i64 f, .int .i64 l] w fun e w' => e = .returned (.int .i64 (zeroF n m f l).2) ∧ RefAt w' b g n c (zeroF n m f l).1 ∧ BlkOnly g w w' := by
  unfold zeroF
  by_cases hc : 0 ≤ f ∧ f < n ∧ 0 ≤ l ∧ l ≤ n - f
  · rw [if_pos hc]
    obtain ⟨k, rfl⟩ := Int.eq_ofNat_of_zero_le hc.1
    obtain ⟨q, rfl⟩ := Int.eq_ofNat_of_zero_le hc.2.2.1
    simp only [Int.toNat_natCast]
    exact rzero_ok w b g n c k q m h (by omega) (by omega)
  · rw [if_neg hc]
    exact (rzero_bad w b g n c f l m h hc).mono fun e w' ⟨he, hw⟩ => hw ▸ ⟨he, h, BlkOnly.refl _ _⟩
theorem below_blk {B q : Nat} {w w' : World} (h1 : B ≤ q) (h2 : B ≤ w.heap.size) (h : BlkOnly q w w') : Below B w w' := ⟨h.os, h.tape, h.output, h.size, fun k hk => h.block k (by omega) (by omega)⟩
theorem row_below {B : Nat} {w w' : World} {e : TypeId} {size : Nat} {v : Value} {n : Nat} {xs : List Value} (h : w.ownsRow B e size v n xs) (ho : Below w.heap.size w w') : w'.ownsRow B e size v n xs := by
  refine h.kept (row := none) ⟨ho.os, ho.tape, ho.output, ho.size, fun k hk _ => ho.block k hk⟩ ?_
  cases hv : v.ownBlock with
  | none => exact .inl rfl
  | some k => exact .inr (by simp)
theorem keep5 {g h q : Nat} {a0 a1 a2 a3 a4 : Int} {wa w' : World} (y0 : wa.cell? ⟨q, 0, none⟩ = some (.int .i64 a0)) (y1 : wa.cell? ⟨q, 1, none⟩ = some (.int .u64 a1)) (y2 : wa.cell? ⟨q, 2, none⟩ = some (.int .u64 a2)) (y3 : wa.cell? ⟨q, 3, none⟩ = some (.int .i64 a3)) (y4 : wa.cell? ⟨q, 4, none⟩ = some (.int .i64 a4)) (hX : q < wa.heap.size) (h1 : q ≠ g) (h2 : q ≠ h) (k : TwoOnly g h wa w') :
    w'.cell? ⟨q, 0, none⟩ = some (.int .i64 a0) ∧ w'.cell? ⟨q, 1, none⟩ = some (.int .u64 a1) ∧ w'.cell? ⟨q, 2, none⟩ = some (.int .u64 a2) ∧ w'.cell? ⟨q, 3, none⟩ = some (.int .i64 a3) ∧ w'.cell? ⟨q, 4, none⟩ = some (.int .i64 a4) ∧ TwoOnly g h wa w' :=
  ⟨k.cell hX h1 h2 y0, k.cell hX h1 h2 y1, k.cell hX h1 h2 y2, k.cell hX h1 h2 y3, k.cell hX h1 h2 y4, k⟩
set_option maxRecDepth 100000 in
set_option maxHeartbeats 8000000 in
theorem script_in {W : World} (n : Nat) (hn1 : 1 ≤ n) (hn64 : n ≤ 64) (p : Option Addr) (l c : Nat) (hl : l ≤ 100) (D : Nat → ActM) (hx : ActsAt W p l D) :
    Calls Try.prog 3 #[.int .i64 n, .slice p l c] W fun e w' => e = .returned (.bool true) ∧ Below W.heap.size W w' := by
  obtain ⟨pb, off, hp, hD⟩ := hx
  have HD := Lib.hid hD
  have HP := Lib.hid hp
  clear hD hp
  go_enter Try.func3, Try.ntmps3
  go_wp2_with (fail)
  refine (new_ok _ n hn1 hn64).mono ?_
  rintro e w1 ⟨b, g, c1, rfl, hm1, hb1, hg1, hw1⟩
  have HM1 := Lib.hid hm1
  have lb1 := hm1.lb
  have lg1 := hm1.lg
  clear hm1
  go_wp2_with (fail)
  refine (rnew_ok _ n hn1 hn64).mono ?_
  rintro e w2 ⟨rb, rg, rc, rfl, hm2, hb2, hg2, hw2⟩
  have HR2 := Lib.hid hm2
  have HM2 := Lib.hid (HM1.out.call hw2)
  have hB2 : Below W.heap.size W w2 := bgo hw1 hw2
  clear hm2 HM1
  go_wp2_with (first
    | (go_at_call 10; refine (num_any _ _).mono ?_; rintro e w9 ⟨rfl, rfl⟩))
  go_loopw [5, 9] (fun mp i wr => ∃ (k b g c1 : Nat) (m : Nat → Int), k ≤ l ∧ mp = .pointer (some ⟨b, 0, none⟩) ∧ i = .int .i64 k ∧ Hid (MemAt wr b g n c1 m) ∧ Hid (RefAt wr rb rg n rc m) ∧ (W.heap.size ≤ b ∧ W.heap.size ≤ g ∧ b ≠ rg ∧ g ≠ rg ∧ rb ≠ g) ∧ Below W.heap.size W wr) (fun _ i _ => l - (intOf i).toNat)
  case atStart => exact ⟨0, b, g, c1, _, by omega, rfl, rfl, HM2, HR2, ⟨hb1, hg1, by omega, by omega, by omega⟩, hB2⟩
  case round =>
    obtain ⟨k, b, g, c1, m, hk, rfl, rfl, HM, HR, ⟨nb, ng, n1, n2, n3⟩, hB⟩ := hrel
    clear HM2 HR2 hB2
    have lb := HM.out.lb
    have lg := HM.out.lg
    have lrb := HR.out.lb
    have lrg := HR.out.lg
    have gW1 : W.heap.size ≤ rb := by omega
    have gW2 : W.heap.size ≤ rg := by omega
    by_cases hlt : k < l
    · obtain ⟨rfl, hpx⟩ := HP.out (by omega)
      obtain ⟨⟨c0, c1', c2, c3, c4⟩, dd, da, dv, df, dn⟩ := HD.out k hlt
      obtain ⟨⟨xd, xa, xv, xf, xn⟩, hx⟩ : ∃ x, D k = x := ⟨_, rfl⟩
      rw [hx] at c0 c1' c2 c3 c4 da dv
      simp only at c0 c1' c2 c3 c4 da dv
      have e0 := (hB.cell (p := ⟨pb, off + k * 5, none⟩) hpx).trans c0
      have e1 := (hB.cell (p := ⟨pb, off + k * 5 + 1, none⟩) hpx).trans c1'
      have e2 := (hB.cell (p := ⟨pb, off + k * 5 + 2, none⟩) hpx).trans c2
      have e3 := (hB.cell (p := ⟨pb, off + k * 5 + 3, none⟩) hpx).trans c3
      have e4 := (hB.cell (p := ⟨pb, off + k * 5 + 4, none⟩) hpx).trans c4
      have HXA := Lib.hid da
      have HXV := Lib.hid dv
      clear c0 c1' c2 c3 c4 hx dd da dv df dn
      have hlt' : (k : Int) < l := by omega
      obtain ⟨wa, hwa⟩ : ∃ x, x = wr.alloc (.cells #[.int .i64 xd, .int .u64 xa, .int .u64 xv, .int .i64 xf, .int .i64 xn] 34) := ⟨_, rfl⟩
      have y0 : wa.cell? ⟨wr.heap.size, 0, none⟩ = some (.int .i64 xd) := by rw [hwa]; simp
      have y1 : wa.cell? ⟨wr.heap.size, 1, none⟩ = some (.int .u64 xa) := by rw [hwa]; simp
      have y2 : wa.cell? ⟨wr.heap.size, 2, none⟩ = some (.int .u64 xv) := by rw [hwa]; simp
      have y3 : wa.cell? ⟨wr.heap.size, 3, none⟩ = some (.int .i64 xf) := by rw [hwa]; simp
      have y4 : wa.cell? ⟨wr.heap.size, 4, none⟩ = some (.int .i64 xn) := by rw [hwa]; simp
      have hba : Below wr.heap.size wr wa := hwa ▸ bal (Below.refl _ _) _
      have hXa : wr.heap.size < wa.heap.size := by rw [hwa]; simp
      have hXg : wr.heap.size ≠ g := by omega
      have hXr : wr.heap.size ≠ rg := by omega
      have HMA := Lib.hid (HM.out.call hba)
      have HRA := Lib.hid (HR.out.call hba)
      have hBa : Below W.heap.size W wa := bgo hB hba
      have HWA := Lib.hid hwa
      clear hba hwa
      have Y := Lib.hid (show _ ∧ _ ∧ _ ∧ _ ∧ _ from ⟨y0, y1, y2, y3, y4⟩)
      clear y0 y1 y2 y3 y4
      by_cases d0 : xd = 0
      · subst d0
        go_wp2_with (fail)
        rw [← HWA.out]
        obtain ⟨y0, y1, y2, y3, y4⟩ := Y.out
        obtain ⟨lf, hlf⟩ : ∃ x, loadF n m xa = x := ⟨_, rfl⟩
        obtain ⟨wf, hwf⟩ : ∃ x, wrongF n xa = x := ⟨_, rfl⟩
        have HLF := Lib.hid hlf
        have HWF := Lib.hid hwf
        clear hlf hwf
        go_wp2_with (first
          | (go_at_call 11; refine (load_gen _ b g n c1 m xa HMA.out HXA.out).mono ?_; rw [HLF.out, HWF.out]; rintro e w3 ⟨rfl, rfl⟩)
          | (go_at_call 12; refine (rload_gen _ rb rg n rc m xa HRA.out HXA.out).mono ?_; rw [HLF.out, HWF.out]; rintro e w3 ⟨rfl, rfl⟩)
          | (go_at_call 10; refine (num_any _ _).mono ?_; rintro e w9 ⟨rfl, rfl⟩))
        go_roundw
        case rel => first | exact ⟨k + 1, b, g, c1, _, by omega, rfl, by go_num, HMA, HRA, ⟨nb, ng, n1, n2, n3⟩, hBa⟩ | ((repeat apply Exists.intro); exact ⟨⟨k + 1, b, g, c1, _, by omega, rfl, by go_num, HMA, HRA, ⟨nb, ng, n1, n2, n3⟩, hBa⟩, rfl⟩)
        case measure => simp [intOf]; omega
      by_cases d1 : xd = 1
      · subst d1
        go_wp2_with (fail)
        rw [← HWA.out]
        obtain ⟨y0, y1, y2, y3, y4⟩ := Y.out
        obtain ⟨wf, hwf⟩ : ∃ x, wrongF n xa = x := ⟨_, rfl⟩
        have HWF := Lib.hid hwf
        clear hwf
        go_wp2_with (fail)
        go_region_held3 (fun w' => w'.cell? ⟨wr.heap.size, 0, none⟩ = some (.int .i64 1) ∧ w'.cell? ⟨wr.heap.size, 1, none⟩ = some (.int .u64 xa) ∧ w'.cell? ⟨wr.heap.size, 2, none⟩ = some (.int .u64 xv) ∧ w'.cell? ⟨wr.heap.size, 3, none⟩ = some (.int .i64 xf) ∧ w'.cell? ⟨wr.heap.size, 4, none⟩ = some (.int .i64 xn) ∧ TwoOnly g rg wa w')
          (first | (refine keep5 y0 y1 y2 y3 y4 hXa hXg hXr ?_; repeat (first | with_reducible exact TwoOnly.refl _ _ _ | with_reducible refine TwoOnly.drew ?_ | with_reducible refine TwoOnly.drewN ?_ _ | with_reducible refine TwoOnly.one ?_ (by with_reducible assumption) | with_reducible refine TwoOnly.two ?_ (by with_reducible assumption))))
          (first
            | (go_at_call 13; refine (store_gen _ b g n c1 m xa xv (BlkOnly.mem (q := rg) (by repeat (first | with_reducible exact BlkOnly.refl _ _ | with_reducible refine BlkOnly.drew ?_ | with_reducible refine BlkOnly.drewN ?_ _ | with_reducible refine BlkOnly.trans ?_ (by with_reducible assumption) | with_reducible refine BlkOnly.call ?_ (by with_reducible assumption))) HMA.out n1 n2) HXA.out HXV.out).mono ?_; rw [HWF.out]; rintro e w3 ⟨rfl, hm3, ho3⟩; have HM3 := Lib.hid hm3; clear hm3)
            | (go_at_call 10; refine (num_any _ _).mono ?_; rintro e w9 ⟨rfl, rfl⟩)
            | (go_at_call 14; refine (rstore_gen _ rb rg n rc m xa xv (BlkOnly.ref (q := g) (by repeat (first | with_reducible exact BlkOnly.refl _ _ | with_reducible refine BlkOnly.drew ?_ | with_reducible refine BlkOnly.drewN ?_ _ | with_reducible refine BlkOnly.trans ?_ (by with_reducible assumption) | with_reducible refine BlkOnly.call ?_ (by with_reducible assumption))) HRA.out n3 n2.symm) HXA.out HXV.out).mono ?_; rw [HWF.out]; rintro e w4 ⟨rfl, hm4, ho4⟩; have HR4 := Lib.hid hm4; clear hm4))
        all_goals
          go_wp2
          go_roundw
          case rel => exact ⟨k + 1, b, g, c1, _, by omega, rfl, by go_num, Lib.hid (BlkOnly.mem (q := rg) (by repeat (first | with_reducible exact BlkOnly.refl _ _ | with_reducible refine BlkOnly.drew ?_ | with_reducible refine BlkOnly.drewN ?_ _ | with_reducible refine BlkOnly.trans ?_ (by with_reducible assumption) | with_reducible refine BlkOnly.call ?_ (by with_reducible assumption))) HM3.out n1 n2), Lib.hid (BlkOnly.ref (q := g) (by repeat (first | with_reducible exact BlkOnly.refl _ _ | with_reducible refine BlkOnly.drew ?_ | with_reducible refine BlkOnly.drewN ?_ _ | with_reducible refine BlkOnly.trans ?_ (by with_reducible assumption) | with_reducible refine BlkOnly.call ?_ (by with_reducible assumption))) HR4.out n3 n2.symm), ⟨nb, ng, n1, n2, n3⟩, hBa.trans ((show TwoOnly g rg wa _ from (by repeat (first | with_reducible exact TwoOnly.refl _ _ _ | with_reducible refine TwoOnly.drew ?_ | with_reducible refine TwoOnly.drewN ?_ _ | with_reducible refine TwoOnly.one ?_ (by with_reducible assumption) | with_reducible refine TwoOnly.two ?_ (by with_reducible assumption)))).below ng gW2 (by have := hBa.size; omega))⟩
          case measure => simp [intOf]; omega
      by_cases d2 : xd = 2
      · subst d2
        go_wp2_with (fail)
        rw [← HWA.out]
        obtain ⟨y0, y1, y2, y3, y4⟩ := Y.out
        obtain ⟨⟨mz, zc⟩, hz⟩ : ∃ x, zeroF n m xf xn = x := ⟨_, rfl⟩
        have HZ := Lib.hid hz
        clear hz
        go_wp2_with (fail)
        go_region_held3 (fun w' => w'.cell? ⟨wr.heap.size, 0, none⟩ = some (.int .i64 2) ∧ w'.cell? ⟨wr.heap.size, 1, none⟩ = some (.int .u64 xa) ∧ w'.cell? ⟨wr.heap.size, 2, none⟩ = some (.int .u64 xv) ∧ w'.cell? ⟨wr.heap.size, 3, none⟩ = some (.int .i64 xf) ∧ w'.cell? ⟨wr.heap.size, 4, none⟩ = some (.int .i64 xn) ∧ TwoOnly g rg wa w')
          (first | (refine keep5 y0 y1 y2 y3 y4 hXa hXg hXr ?_; repeat (first | with_reducible exact TwoOnly.refl _ _ _ | with_reducible refine TwoOnly.drew ?_ | with_reducible refine TwoOnly.drewN ?_ _ | with_reducible refine TwoOnly.one ?_ (by with_reducible assumption) | with_reducible refine TwoOnly.two ?_ (by with_reducible assumption))))
          (first
            | (go_at_call 15; refine (zero_gen _ b g n c1 m xf xn (BlkOnly.mem (q := rg) (by repeat (first | with_reducible exact BlkOnly.refl _ _ | with_reducible refine BlkOnly.drew ?_ | with_reducible refine BlkOnly.drewN ?_ _ | with_reducible refine BlkOnly.trans ?_ (by with_reducible assumption) | with_reducible refine BlkOnly.call ?_ (by with_reducible assumption))) HMA.out n1 n2)).mono ?_; rw [HZ.out]; rintro e w3 ⟨rfl, hm3, ho3⟩; have HM3 := Lib.hid hm3; clear hm3)
            | (go_at_call 10; refine (num_any _ _).mono ?_; rintro e w9 ⟨rfl, rfl⟩)
            | (go_at_call 16; refine (rzero_gen _ rb rg n rc m xf xn (BlkOnly.ref (q := g) (by repeat (first | with_reducible exact BlkOnly.refl _ _ | with_reducible refine BlkOnly.drew ?_ | with_reducible refine BlkOnly.drewN ?_ _ | with_reducible refine BlkOnly.trans ?_ (by with_reducible assumption) | with_reducible refine BlkOnly.call ?_ (by with_reducible assumption))) HRA.out n3 n2.symm)).mono ?_; rw [HZ.out]; rintro e w4 ⟨rfl, hm4, ho4⟩; have HR4 := Lib.hid hm4; clear hm4))
        all_goals
          go_wp2
          go_roundw
          case rel => exact ⟨k + 1, b, g, c1, _, by omega, rfl, by go_num, Lib.hid (BlkOnly.mem (q := rg) (by repeat (first | with_reducible exact BlkOnly.refl _ _ | with_reducible refine BlkOnly.drew ?_ | with_reducible refine BlkOnly.drewN ?_ _ | with_reducible refine BlkOnly.trans ?_ (by with_reducible assumption) | with_reducible refine BlkOnly.call ?_ (by with_reducible assumption))) HM3.out n1 n2), Lib.hid (BlkOnly.ref (q := g) (by repeat (first | with_reducible exact BlkOnly.refl _ _ | with_reducible refine BlkOnly.drew ?_ | with_reducible refine BlkOnly.drewN ?_ _ | with_reducible refine BlkOnly.trans ?_ (by with_reducible assumption) | with_reducible refine BlkOnly.call ?_ (by with_reducible assumption))) HR4.out n3 n2.symm), ⟨nb, ng, n1, n2, n3⟩, hBa.trans ((show TwoOnly g rg wa _ from (by repeat (first | with_reducible exact TwoOnly.refl _ _ _ | with_reducible refine TwoOnly.drew ?_ | with_reducible refine TwoOnly.drewN ?_ _ | with_reducible refine TwoOnly.one ?_ (by with_reducible assumption) | with_reducible refine TwoOnly.two ?_ (by with_reducible assumption)))).below ng gW2 (by have := hBa.size; omega))⟩
          case measure => simp [intOf]; omega
      by_cases d3 : xd = 3
      · subst d3
        by_cases hF : 0 ≤ xf ∧ xf < n
        · obtain ⟨f, rfl⟩ := Int.eq_ofNat_of_zero_le hF.1
          have hfn : f < n := by omega
          clear hF
          go_wp2_with (fail)
          rw [← HWA.out]
          obtain ⟨y0, y1, y2, y3, y4⟩ := Y.out
          refine (words_ok _ b g n c1 f m HMA.out hfn).mono ?_
          rintro e w5 ⟨v5, rfl, hr5, hw5⟩
          obtain ⟨q5, z5, rfl, -, -, -, l5, -, x5⟩ := own_form hr5 (by decide)
          have X5 := Lib.hid x5
          have R5 := Lib.hid hr5
          have HR5 := Lib.hid (HRA.out.call hw5)
          have HM5 := Lib.hid (HMA.out.call hw5)
          obtain ⟨hc5, hf5⟩ := bcell hw5
          clear hr5 x5
          go_wp2_with (fail)
          refine (rwords_ok _ rb rg n rc f m HR5.out hfn).mono ?_
          rintro e w6 ⟨v6, rfl, hr6, hw6⟩
          obtain ⟨q6, z6, rfl, -, -, -, l6, -, x6⟩ := own_form hr6 (by decide)
          have X6 := Lib.hid x6
          have HR6 := Lib.hid (HR5.out.call hw6)
          have HM6 := Lib.hid (HM5.out.call hw6)
          have R6 := Lib.hid (row_below R5.out hw6)
          have hB6 : Below W.heap.size W w6 := bgo (bgo hBa hw5) hw6
          clear hr6 x6 HR5 HM5
          have hs : Calls Try.prog 19 #[.slice (some ⟨q5, 0, none⟩) 8 z5, .slice (some ⟨q6, 0, none⟩) 8 z6] w6 fun e w' => e = .returned (.bool true) ∧ Below w6.heap.size w6 w' :=
            same_any w6 q5 q6 8 z5 z6 (fun j => m (8 * f + j)) (by decide) (fun j hj => (hw6.cell (p := ⟨q5, j, none⟩) l5).trans (X5.out j _ (wordsL_at _ _ _ _ hj))) (fun j hj => X6.out j _ (wordsL_at _ _ _ _ hj))
          have HS := Lib.hid hs
          clear hs hc5 hf5
          go_wp2_with (first
            | (go_at_call 19; refine HS.out.mono ?_; rintro e w7 ⟨rfl, hw7⟩)
            | (go_at_call 10; refine (num_any _ _).mono ?_; rintro e w9 ⟨rfl, rfl⟩)
            | (go_at_call 20; refine (over_any _ wa.heap.size _ 8 _ (row_below R6.out hw7) (by decide) (by decide)).mono ?_; rintro e w8 ⟨⟨u8, rfl⟩, g8, hg8, ho8⟩))
          have s5 := hw5.size
          have s6 := hw6.size
          have s7 := hw7.size
          go_roundw
          case rel => first | exact ⟨k + 1, b, g, c1, _, by omega, rfl, by go_num, Lib.hid (ho8.mem (HM6.out.call hw7) (by omega) (by omega)), Lib.hid (ho8.ref (HR6.out.call hw7) (by omega) (by omega)), ⟨nb, ng, n1, n2, n3⟩, (bgo hB6 hw7).trans (below_blk (by have := hBa.size; omega) (by have := hBa.size; omega) ho8)⟩ | ((repeat apply Exists.intro); exact ⟨⟨k + 1, b, g, c1, _, by omega, rfl, by go_num, Lib.hid (ho8.mem (HM6.out.call hw7) (by omega) (by omega)), Lib.hid (ho8.ref (HR6.out.call hw7) (by omega) (by omega)), ⟨nb, ng, n1, n2, n3⟩, (bgo hB6 hw7).trans (below_blk (by have := hBa.size; omega) (by have := hBa.size; omega) ho8)⟩, rfl⟩)
          case measure => simp [intOf]; omega

        · go_wp2_with (fail)
          rw [← HWA.out]
          obtain ⟨y0, y1, y2, y3, y4⟩ := Y.out
          go_wp2_with (first
            | (go_at_call 17; refine (words_bad _ b g n c1 xf m HMA.out hF).mono ?_; rintro e w5 ⟨rfl, rfl⟩)
            | (go_at_call 18; refine (rwords_bad _ rb rg n rc xf m HRA.out hF).mono ?_; rintro e w6 ⟨rfl, rfl⟩)
            | (go_at_call 19; refine (same_nil _).mono ?_; rintro e w7 ⟨rfl, rfl⟩)
            | (go_at_call 10; refine (num_any _ _).mono ?_; rintro e w9 ⟨rfl, rfl⟩)
            | (go_at_call 20; refine (over_nil _).mono ?_; rintro e w8 ⟨⟨u8, rfl⟩, hb8⟩))
          go_roundw
          case rel => first | exact ⟨k + 1, b, g, c1, _, by omega, rfl, by go_num, Lib.hid (HMA.out.call hb8), Lib.hid (HRA.out.call hb8), ⟨nb, ng, n1, n2, n3⟩, bgo hBa hb8⟩ | ((repeat apply Exists.intro); exact ⟨⟨k + 1, b, g, c1, _, by omega, rfl, by go_num, Lib.hid (HMA.out.call hb8), Lib.hid (HRA.out.call hb8), ⟨nb, ng, n1, n2, n3⟩, bgo hBa hb8⟩, rfl⟩)
          case measure => simp [intOf]; omega
      by_cases d4 : xd = 4
      · subst d4
        go_wp2_with (fail)
        rw [← HWA.out]
        obtain ⟨y0, y1, y2, y3, y4⟩ := Y.out
        go_wp2_with (first
          | (go_at_call 21; refine (copy_any _ b g n c1 m HMA.out).mono ?_; rintro e w5 ⟨b5, g5, c5, rfl, hm5, hb5, hg5, hw5⟩; have HM5 := Lib.hid hm5; clear hm5))
        have sa := hBa.size
        go_roundw
        case rel => first | exact ⟨k + 1, b5, g5, c5, _, by omega, rfl, by go_num, HM5, Lib.hid (HRA.out.call hw5), ⟨by omega, by omega, by omega, by omega, by omega⟩, bgo hBa hw5⟩ | ((repeat apply Exists.intro); exact ⟨⟨k + 1, b5, g5, c5, _, by omega, rfl, by go_num, HM5, Lib.hid (HRA.out.call hw5), ⟨by omega, by omega, by omega, by omega, by omega⟩, bgo hBa hw5⟩, rfl⟩)
        case measure => simp [intOf]; omega
      go_wp2_with (fail)
      rw [← HWA.out]
      obtain ⟨y0, y1, y2, y3, y4⟩ := Y.out
      go_wp2
      go_roundw
      case rel => first | exact ⟨k + 1, b, g, c1, _, by omega, rfl, by go_num, HMA, HRA, ⟨nb, ng, n1, n2, n3⟩, hBa⟩ | ((repeat apply Exists.intro); exact ⟨⟨k + 1, b, g, c1, _, by omega, rfl, by go_num, HMA, HRA, ⟨nb, ng, n1, n2, n3⟩, hBa⟩, rfl⟩)
      case measure => simp [intOf]; omega
    · obtain rfl : k = l := by omega
      go_wp2_with (first
        | (go_at_call 22; refine (alike_any _ b g n c1 rb rg rc m HM.out HR.out).mono ?_; rintro e w7 ⟨rfl, hb7⟩)
        | (go_at_call 7; refine (awake2 _).mono ?_; rintro e w8 ⟨rfl, hb8⟩))
      go_ret
      exact ⟨rfl, bgo (bgo hB hb7) hb8⟩
end Go.Proofs.Ytnaiepoaikabgaa
