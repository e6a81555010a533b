/- chapter 19, the own answer: pools added. -/
import Derived.Test.YtfladcnkphcicaaAs1
import Derived.Deep.MidRow
namespace Go.Proofs.Ytfladcnkphcicaa
set_option linter.unusedVariables false
set_option linter.unusedSimpArgs false
open Go.ChangeShapes Go.WideShapes Go.ChangeAt Go.RowKit Go.Shelf
theorem cellsF_sets {b n : Nat} {T : TypeId} : ∀ (vs : List Value) (o : Nat) (w : World) (f : Nat → Value), w.heap[b]? = some (.cells (cellsF n f) T (0, 0)) →
    (w.setCells b o vs).heap[b]? = some (.cells (cellsF n (fun j => if o ≤ j ∧ j < o + vs.length then vs.getD (j - o) undef else f j)) T (0, 0)) ∧ BlkOnly b w (w.setCells b o vs)
  | [], o, w, f, h => by
    refine ⟨?_, BlkOnly.refl _ _⟩
    show w.heap[b]? = _
    rw [h]
    congr 2
    exact cellsF_congr _ _ _ (fun j _ => by rw [if_neg (by simp)])
  | v :: vs, o, w, f, h => by
    have h1 : (w.setCell ⟨b, o, none⟩ v).heap[b]? = some (.cells (cellsF n (fun i => if i = o then v else f i)) T (0, 0)) := by
      rw [Go.heap_setCell_same _ _ _ _ _ _ h, cellsF_set]
    obtain ⟨h2, h3⟩ := cellsF_sets vs (o + 1) _ _ h1
    refine ⟨?_, ((BlkOnly.refl b w).set o v).trans h3⟩
    show ((w.setCell ⟨b, o, none⟩ v).setCells b (o + 1) vs).heap[b]? = _
    rw [h2]
    congr 2
    refine cellsF_congr _ _ _ (fun j _ => ?_)
    by_cases e : j = o
    · subst e
      rw [if_neg (by omega), if_pos rfl, if_pos ⟨by omega, by simp⟩]
      simp
    · by_cases e2 : o + 1 ≤ j ∧ j < o + 1 + vs.length
      · rw [if_pos e2, if_pos ⟨by omega, by simp; omega⟩]
        obtain ⟨k, hk⟩ : ∃ k, j - o = k + 1 := ⟨j - o - 1, by omega⟩
        rw [hk, show j - (o + 1) = k by omega]
        simp
      · rw [if_neg e2, if_neg e, if_neg (fun q => e2 ⟨by omega, by have := q.2; simp at this; omega⟩)]
set_option maxHeartbeats 1000000 in
theorem put_cells {po po' : Nat → Int} {tk tk' : Int} {N N' : Nums} (p : Nat) (hp : p < 8) (o : Int) (d : Bool)
    (ho : po' p = o) (hd : deadB po' tk' p = d) (hz : ∀ i, i < 4 → (N' (p * 4 + i)).1 = 0 ∧ (N' (p * 4 + i)).2.1 = 0)
    (hpo : ∀ q, q < 8 → q ≠ p → po' q = po q ∧ deadB po' tk' q = deadB po tk q) (hN : ∀ n, n < 32 → n / 4 ≠ p → N' n = N n) (hg : ∀ n, n < 32 → (N' n).2.2 = (N n).2.2) :
    cellsF 112 (fun j => if p * 10 ≤ j ∧ j < p * 10 + 10 then [Value.int .i64 o, .bool d, .int .i64 0, .int .i64 0, .int .i64 0, .int .i64 0, .int .i64 0, .int .i64 0, .int .i64 0, .int .i64 0].getD (j - p * 10) undef else rcF po tk N j) = cellsF 112 (rcF po' tk' N') := by
  refine cellsF_congr _ _ _ (fun j hj => ?_)
  by_cases hin : p * 10 ≤ j ∧ j < p * 10 + 10
  · rw [if_pos hin]
    obtain ⟨r, hr, hr2⟩ : ∃ r, j = p * 10 + r ∧ r < 10 := ⟨j - p * 10, by omega, by omega⟩
    subst hr
    rw [Nat.add_sub_cancel_left]
    have c0 := rc_obj po' tk' N' hp
    have c1 := rc_dead po' tk' N' hp
    have c2 := fun i hi => rc_root po' tk' N' (i := i) hp hi
    have c3 := fun i hi => rc_ser po' tk' N' (i := i) hp hi
    obtain rfl | rfl | rfl | rfl | rfl | rfl | rfl | rfl | rfl | rfl : r = 0 ∨ r = 1 ∨ r = 2 ∨ r = 3 ∨ r = 4 ∨ r = 5 ∨ r = 6 ∨ r = 7 ∨ r = 8 ∨ r = 9 := by omega
    · rw [Nat.add_zero, c0, ho]; rfl
    · rw [c1, hd]; rfl
    · have := c2 0 (by omega); rw [Nat.add_zero] at this; rw [this, (hz 0 (by omega)).1]; rfl
    · have := c2 1 (by omega); rw [this, (hz 1 (by omega)).1]; rfl
    · have := c2 2 (by omega); rw [this, (hz 2 (by omega)).1]; rfl
    · have := c2 3 (by omega); rw [this, (hz 3 (by omega)).1]; rfl
    · have := c3 0 (by omega); rw [Nat.add_zero] at this; rw [this, (hz 0 (by omega)).2]; rfl
    · have := c3 1 (by omega); rw [this, (hz 1 (by omega)).2]; rfl
    · have := c3 2 (by omega); rw [this, (hz 2 (by omega)).2]; rfl
    · have := c3 3 (by omega); rw [this, (hz 3 (by omega)).2]; rfl
  · rw [if_neg hin]
    unfold rcF
    by_cases h80 : j < 80
    · rw [if_pos h80, if_pos h80, (hpo (j / 10) (by omega) (by omega)).1, (hpo (j / 10) (by omega) (by omega)).2]
      by_cases hr : j % 10 < 6
      · by_cases hr2 : 2 ≤ j % 10
        · rw [hN (j / 10 * 4 + (j % 10 - 2)) (by omega) (by omega)]
          by_cases hr3 : j % 10 = 0
          · omega
          · by_cases hr4 : j % 10 = 1
            · omega
            · rw [if_neg hr3, if_neg hr4, if_pos hr, if_neg hr3, if_neg hr4, if_pos hr]
        · by_cases hr3 : j % 10 = 0
          · rw [if_pos hr3, if_pos hr3]
          · have hr4 : j % 10 = 1 := by omega
            rw [if_neg hr3, if_pos hr4, if_neg hr3, if_pos hr4]
      · rw [hN (j / 10 * 4 + (j % 10 - 6)) (by omega) (by omega), if_neg (by omega), if_neg (by omega), if_neg hr, if_neg (by omega), if_neg (by omega), if_neg hr]
    · rw [if_neg h80, if_neg h80, hg (j - 80) (by omega)]
/-- A pool's cells, written over. -/
theorem ref_put {w : World} {b : Nat} {po po' : Nat → Int} {tk tk' : Int} {N N' : Nums} (h : RefAt w b po tk N) (p : Nat) (hp : p < 8) (o : Int) (d : Bool)
    (ho : po' p = o) (hd : deadB po' tk' p = d) (hz : ∀ i, i < 4 → (N' (p * 4 + i)).1 = 0 ∧ (N' (p * 4 + i)).2.1 = 0)
    (hpo : ∀ q, q < 8 → q ≠ p → po' q = po q ∧ deadB po' tk' q = deadB po tk q) (hN : ∀ n, n < 32 → n / 4 ≠ p → N' n = N n) (hg : ∀ n, n < 32 → (N' n).2.2 = (N n).2.2) :
    RefAt (w.setCells b (p * 10) [.int .i64 o, .bool d, .int .i64 0, .int .i64 0, .int .i64 0, .int .i64 0, .int .i64 0, .int .i64 0, .int .i64 0, .int .i64 0]) b po' tk' N' ∧ BlkOnly b w (w.setCells b (p * 10) [.int .i64 o, .bool d, .int .i64 0, .int .i64 0, .int .i64 0, .int .i64 0, .int .i64 0, .int .i64 0, .int .i64 0, .int .i64 0]) := by
  obtain ⟨h1, h2⟩ := cellsF_sets [.int .i64 o, .bool d, .int .i64 0, .int .i64 0, .int .i64 0, .int .i64 0, .int .i64 0, .int .i64 0, .int .i64 0, .int .i64 0] (p * 10) w _ h.row
  have e := put_cells (po := po) (po' := po') (tk := tk) (tk' := tk') (N := N) (N' := N') p hp o d ho hd hz hpo hN hg
  refine ⟨⟨?_⟩, h2⟩
  rw [← e]
  exact h1
theorem ref_there {w : World} {b : Nat} {po : Nat → Int} {tk : Int} {N : Nums} (h : RefAt w b po tk N) (p : Nat) (hp : p < 8) : w.there b (p * 10) 10 := fun j hj => by
  refine ⟨?_, h.free _⟩
  rw [h.cell (by omega)]
  rfl
theorem at_ge (po : Nat → Int) (obj : Int) : (0 ≤ atF po obj ↔ (placeF po obj).2 = true) ∧ (atF po obj < 0 ↔ (placeF po obj).2 = false) := by
  unfold atF
  rcases place_in po obj with ⟨p, hp, e⟩ | e
  · rw [e]; simp <;> omega
  · rw [e]; simp
theorem inv_add {po : Nat → Int} {tk : Int} {N : Nums} (h : Inv po tk N) (obj : Int) : Inv (addF po tk obj).2.1 (addF po tk obj).2.2 N := by
  have ht0 := h.t0
  have ht8 := h.t8
  unfold addF
  split
  · exact h
  · split
    · exact h
    · split
      · exact h
      · rename_i h1 h2 h3
        refine ⟨by show 0 ≤ tk + 1; omega, by show tk + 1 ≤ 8; omega, fun p hp hq => ?_, h.ser, h.ok, fun n hn hq => ?_⟩
        · simp only at hq ⊢
          rw [if_neg (by omega)]
          exact h.far p hp (by omega)
        · simp only at hq
          split at hq
          · omega
          · exact h.own n hn hq
set_option maxRecDepth 100000 in
set_option maxHeartbeats 2000000 in
theorem refadd_any (w : World) (b : Nat) (po : Nat → Int) (tk : Int) (N : Nums) (obj : Int) (h : RefAt w b po tk N) (hI : Inv po tk N) :
    Calls Try.prog 7 #[.pointer (some ⟨b, 0, none⟩), .int .i64 obj] w fun e w' => e = .returned (.tuple #[.int .i64 (addF po tk obj).1.1, .int .i64 (addF po tk obj).1.2]) ∧ RefAt w' b (addF po tk obj).2.1 (addF po tk obj).2.2 N ∧ BlkOnly b w w' := by
  have ht0 := hI.t0
  have ht8 := hI.t8
  by_cases h1 : obj < 1
  · have e : addF po tk obj = ((0, 2), po, tk) := by unfold addF; rw [if_pos h1]
    rw [e]
    have HR := Lib.hid h
    clear h hI e ht0 ht8
    go_enter Try.func7, Try.ntmps7
    go_wp2
    go_ret2
    exact ⟨rfl, HR.out, BlkOnly.refl _ _⟩
  have h1' : (obj < 1) = False := by rw [eq_iff_iff, iff_false]; exact h1
  have HA := Lib.hid (refat_any w b po tk N obj h)
  obtain ⟨z, hz⟩ : ∃ z, z = atF po obj := ⟨_, rfl⟩
  rw [← hz] at HA
  by_cases h2 : 0 ≤ z
  · have e : addF po tk obj = ((0, 16), po, tk) := by unfold addF; rw [if_neg h1, if_pos ((at_ge po obj).1.1 (by rw [← hz]; exact h2))]
    rw [e]
    have h2' : (0 ≤ z) = True := by rw [eq_iff_iff, iff_true]; exact h2
    have HR := Lib.hid h
    clear h hI e ht0 ht8 h2 hz h1
    go_enter Try.func7, Try.ntmps7
    go_wp2_with (go_at_call 23; (with_reducible refine HA.out.mono ?_); rintro e w1 ⟨rfl, rfl⟩)
    go_ret2
    exact ⟨rfl, HR.out, BlkOnly.refl _ _⟩
  have h2' : (0 ≤ z) = False := by rw [eq_iff_iff, iff_false]; exact h2
  have hpl : (placeF po obj).2 = false := (at_ge po obj).2.1 (by rw [← hz]; omega)
  have hadd : addF po tk obj = if tk = 8 then ((0, 11), po, tk) else ((tk, 0), (fun i => if i = tk.toNat then obj else po i), tk + 1) := by unfold addF; rw [if_neg h1, if_neg (by rw [hpl]; simp)]
  obtain ⟨t, rfl⟩ : ∃ t : Nat, tk = t := ⟨tk.toNat, by omega⟩
  have ht8' : t ≤ 8 := by omega
  obtain ⟨a0, ha0⟩ : ∃ x, x = (addF po t obj).1.1 := ⟨_, rfl⟩
  obtain ⟨a1, ha1⟩ : ∃ x, x = (addF po t obj).1.2 := ⟨_, rfl⟩
  obtain ⟨po', hpo'⟩ : ∃ x, x = (addF po t obj).2.1 := ⟨_, rfl⟩
  obtain ⟨tk', htk'⟩ : ∃ x, x = (addF po t obj).2.2 := ⟨_, rfl⟩
  rw [← ha0, ← ha1, ← hpo', ← htk']
  have HX := Lib.hid (And.intro ha0 (And.intro ha1 (And.intro hpo' htk')))
  have HADD := Lib.hid hadd
  have HR := Lib.hid h
  have HI := Lib.hid hI
  have H1 := Lib.hid h1
  clear h hI ha0 ha1 hpo' htk' hadd hpl hz ht0 ht8 h1 h2
  go_enter Try.func7, Try.ntmps7
  go_wp2_with (go_at_call 23; (with_reducible refine HA.out.mono ?_); rintro e w1 ⟨rfl, rfl⟩)
  go_loopw [6] (fun i wr => ∃ k : Nat, k ≤ t ∧ i = .int .i64 k ∧ wr = w) (fun i _ => 8 - (intOf i).toNat)
  case atStart => exact ⟨0, by omega, rfl, rfl⟩
  case round =>
    obtain ⟨k, hk, rfl, rfl⟩ := hrel
    by_cases hlt : k < 8
    · have hltI : (k : Int) < 8 := by omega
      have hc := HR.out.cell (show k * 10 < 112 by omega)
      rw [rc_obj po t N hlt] at hc
      have hd := HR.out.cell (show k * 10 + 1 < 112 by omega)
      rw [rc_dead po t N hlt] at hd
      obtain ⟨pk, hpk⟩ : ∃ x, x = po k := ⟨_, rfl⟩
      rw [← hpk] at hc
      by_cases hkt : k < t
      · have hdb : deadB po t k = (decide (pk = 0)) := by unfold deadB; rw [← hpk]; simp; omega
        rw [hdb] at hd
        by_cases h0 : pk = 0
        · have hd' : wr.cell? ⟨b, k * 10 + 1, none⟩ = some (.bool true) := by rw [hd]; simp [h0]
          have h0' : (pk == 0) = true := by simp [h0]
          clear hd hdb hpk
          subst h0
          go_wp2
          go_roundw
          case rel => exact ⟨k + 1, by omega, by go_num, (by first | rfl | trivial)⟩
          case measure => first | (simp [intOf]; done) | (simp [intOf]; omega)
        · have h0' : (pk == 0) = false := by simp [h0]
          clear hd hdb hpk
          go_wp2
          go_roundw
          case rel => exact ⟨k + 1, by omega, by go_num, (by first | rfl | trivial)⟩
          case measure => first | (simp [intOf]; done) | (simp [intOf]; omega)
      · obtain rfl : k = t := by omega
        obtain rfl : pk = 0 := by rw [hpk]; exact HI.out.far k hlt (by omega)
        have hdb : deadB po k k = false := by unfold deadB; simp
        rw [hdb] at hd
        have hx := HADD.out
        rw [if_neg (by omega)] at hx
        obtain ⟨e0, e1, e2, e3⟩ := HX.out
        rw [hx] at e0 e1 e2 e3
        simp only [Int.toNat_natCast] at e0 e1 e2 e3
        have hput := ref_put (po' := po') (tk' := tk') (N' := N) HR.out k hlt obj false (by rw [e2]; simp) (by rw [e2, e3]; unfold deadB; have := H1.out; simp; omega)
          (fun i hi => by
            have := HI.out.own (k * 4 + i) (by omega) (by rw [show (k * 4 + i) / 4 = k by omega]; exact hpk.symm)
            exact ⟨this, (HI.out.ser _ (by omega)).1 this⟩)
          (fun q hq hne => by
            rw [e2, e3]
            simp only [if_neg hne, true_and]
            unfold deadB
            simp only [if_neg hne]
            congr 1
            rw [decide_eq_decide]
            omega) (fun n _ _ => rfl) (fun n _ => rfl)
        have HP := Lib.hid hput
        have HTH := Lib.hid (ref_there HR.out k hlt)
        subst e0; subst e1
        clear hput hx hdb hpk e2 e3
        go_wp2_with (refine wpList_store_mid rfl 29 _ _ rfl b (k * 10) _ rfl rfl ?ga ?gb ?gc ?gd; (case ga => exact HTH.out); (case gb => kernel_rfl); (case gc => simp [Value.oneCell']))
        go_ret2
        exact ⟨rfl, HP.out.1, HP.out.2⟩
    · obtain rfl : k = 8 := by omega
      obtain rfl : t = 8 := by omega
      have hx := HADD.out
      rw [if_pos (show (((8 : Nat) : Int) = 8) from rfl)] at hx
      obtain ⟨e0, e1, e2, e3⟩ := HX.out
      rw [hx] at e0 e1 e2 e3
      simp only at e0 e1 e2 e3
      subst e0; subst e1
      have HE := Lib.hid (And.intro e2 e3)
      clear hx e2 e3
      go_wp2
      go_ret2
      exact ⟨rfl, by rw [HE.out.1, HE.out.2]; exact HR.out, BlkOnly.refl _ _⟩
end Go.Proofs.Ytfladcnkphcicaa
