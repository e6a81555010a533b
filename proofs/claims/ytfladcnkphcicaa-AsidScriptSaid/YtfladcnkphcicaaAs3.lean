/- chapter 19, the own answer: pools dropped; roots that get numbers and lose them. -/
import Derived.Test.YtfladcnkphcicaaAs2
namespace Go.Proofs.Ytfladcnkphcicaa
set_option linter.unusedVariables false
set_option linter.unusedSimpArgs false
open Go.ChangeShapes Go.WideShapes Go.ChangeAt Go.RowKit Go.Shelf
def uR (N : Nums) (n : Nat) (x : Int) : Nums := fun m => if m = n then (x, (N m).2) else N m
def uS (N : Nums) (n : Nat) (x : Int) : Nums := fun m => if m = n then ((N m).1, x, (N m).2.2) else N m
def uG (N : Nums) (n : Nat) (x : Int) : Nums := fun m => if m = n then ((N m).1, (N m).2.1, x) else N m
theorem uR_at (N : Nums) (n : Nat) (x : Int) : uR N n x n = (x, (N n).2) := if_pos rfl
theorem uR_no (N : Nums) {n m : Nat} (x : Int) (h : m ≠ n) : uR N n x m = N m := if_neg h
theorem uR_2 (N : Nums) (n m : Nat) (x : Int) : (uR N n x m).2 = (N m).2 := by unfold uR; split <;> rfl
theorem uS_at (N : Nums) (n : Nat) (x : Int) : uS N n x n = ((N n).1, x, (N n).2.2) := if_pos rfl
theorem uS_no (N : Nums) {n m : Nat} (x : Int) (h : m ≠ n) : uS N n x m = N m := if_neg h
theorem uS_1 (N : Nums) (n m : Nat) (x : Int) : (uS N n x m).1 = (N m).1 ∧ (uS N n x m).2.2 = (N m).2.2 := by unfold uS; split <;> exact ⟨rfl, rfl⟩
theorem uG_at (N : Nums) (n : Nat) (x : Int) : uG N n x n = ((N n).1, (N n).2.1, x) := if_pos rfl
theorem uG_no (N : Nums) {n m : Nat} (x : Int) (h : m ≠ n) : uG N n x m = N m := if_neg h
theorem uG_1 (N : Nums) (n m : Nat) (x : Int) : (uG N n x m).1 = (N m).1 ∧ (uG N n x m).2.1 = (N m).2.1 := by unfold uG; split <;> exact ⟨rfl, rfl⟩
theorem RefAt.setRoot {w : World} {b : Nat} {po : Nat → Int} {tk : Int} {N : Nums} (h : RefAt w b po tk N) {p i : Nat} (hp : p < 8) (hi : i < 4) (x : Int) : RefAt (w.setCell ⟨b, p * 10 + 2 + i, none⟩ (.int .i64 x)) b po tk (uR N (p * 4 + i) x) := by
  refine ⟨?_⟩
  rw [Go.heap_setCell_same _ _ _ _ _ _ h.row, cellsF_set]
  congr 2
  refine cellsF_congr _ _ _ (fun j hj => ?_)
  by_cases e : j = p * 10 + 2 + i
  · rw [if_pos e, e, rc_root po tk _ hp hi, uR_at]
  · rw [if_neg e]
    unfold rcF
    by_cases h80 : j < 80
    · rw [if_pos h80, if_pos h80]
      by_cases h0 : j % 10 = 0
      · rw [if_pos h0, if_pos h0]
      · by_cases h1 : j % 10 = 1
        · rw [if_neg h0, if_neg h0, if_pos h1, if_pos h1]
        · by_cases h6 : j % 10 < 6
          · rw [if_neg h0, if_neg h0, if_neg h1, if_neg h1, if_pos h6, if_pos h6, uR_no N x (by omega)]
          · rw [if_neg h0, if_neg h0, if_neg h1, if_neg h1, if_neg h6, if_neg h6, uR_2]
    · rw [if_neg h80, if_neg h80, uR_2]
theorem RefAt.setSer {w : World} {b : Nat} {po : Nat → Int} {tk : Int} {N : Nums} (h : RefAt w b po tk N) {p i : Nat} (hp : p < 8) (hi : i < 4) (x : Int) : RefAt (w.setCell ⟨b, p * 10 + 6 + i, none⟩ (.int .i64 x)) b po tk (uS N (p * 4 + i) x) := by
  refine ⟨?_⟩
  rw [Go.heap_setCell_same _ _ _ _ _ _ h.row, cellsF_set]
  congr 2
  refine cellsF_congr _ _ _ (fun j hj => ?_)
  by_cases e : j = p * 10 + 6 + i
  · rw [if_pos e, e, rc_ser po tk _ hp hi, uS_at]
  · rw [if_neg e]
    unfold rcF
    by_cases h80 : j < 80
    · rw [if_pos h80, if_pos h80]
      by_cases h0 : j % 10 = 0
      · rw [if_pos h0, if_pos h0]
      · by_cases h1 : j % 10 = 1
        · rw [if_neg h0, if_neg h0, if_pos h1, if_pos h1]
        · by_cases h6 : j % 10 < 6
          · rw [if_neg h0, if_neg h0, if_neg h1, if_neg h1, if_pos h6, if_pos h6, (uS_1 N _ _ x).1]
          · rw [if_neg h0, if_neg h0, if_neg h1, if_neg h1, if_neg h6, if_neg h6, uS_no N x (by omega)]
    · rw [if_neg h80, if_neg h80, (uS_1 N _ _ x).2]
theorem RefAt.setGiven {w : World} {b : Nat} {po : Nat → Int} {tk : Int} {N : Nums} (h : RefAt w b po tk N) {n : Nat} (hn : n < 32) (x : Int) : RefAt (w.setCell ⟨b, 80 + n, none⟩ (.int .i64 x)) b po tk (uG N n x) := by
  refine ⟨?_⟩
  rw [Go.heap_setCell_same _ _ _ _ _ _ h.row, cellsF_set]
  congr 2
  refine cellsF_congr _ _ _ (fun j hj => ?_)
  by_cases e : j = 80 + n
  · rw [if_pos e, e, rc_given po tk _ hn, uG_at]
  · rw [if_neg e]
    unfold rcF
    by_cases h80 : j < 80
    · rw [if_pos h80, if_pos h80, (uG_1 N _ _ x).1, (uG_1 N _ _ x).2]
    · rw [if_neg h80, if_neg h80, uG_no N x (by omega)]
theorem RefAt.drew {w : World} {b : Nat} {po : Nat → Int} {tk : Int} {N : Nums} (h : RefAt w b po tk N) : RefAt w.drew b po tk N := ⟨h.row⟩
/-- What a drop leaves. -/
theorem dfold_spec (p : Nat) (N : Nums) : ∀ k, k ≤ 4 → ∀ m, (dfold p N (fst4 k)).1 m = if m / 4 = p ∧ m % 4 < k ∧ (N m).1 ≠ 0 then (0, 0, (N m).2.2) else N m
  | 0, _, m => by
    rw [if_neg (by omega)]; rfl
  | k + 1, hk, m => by
    have ih := dfold_spec p N k (by omega)
    rw [fst4_succ k (by omega), dfold_snoc]
    have hs := ih (p * 4 + k)
    rw [if_neg (by omega)] at hs
    unfold dstep
    simp only
    rw [hs]
    by_cases h0 : (N (p * 4 + k)).1 = 0
    · rw [if_pos h0, ih m]
      by_cases e : m = p * 4 + k
      · subst e
        rw [if_neg (fun q => q.2.2 h0), if_neg (fun q => q.2.2 h0)]
      · by_cases q : m / 4 = p ∧ m % 4 < k ∧ (N m).1 ≠ 0
        · rw [if_pos q, if_pos ⟨q.1, by omega, q.2.2⟩]
        · rw [if_neg q, if_neg (fun q2 => q ⟨q2.1, by omega, q2.2.2⟩)]
    · rw [if_neg h0]
      by_cases e : m = p * 4 + k
      · subst e
        show freeN _ _ _ = _
        rw [free_at, hs, if_pos ⟨by omega, by omega, h0⟩]
      · show freeN _ _ _ = _
        rw [free_same _ _ _ e, ih m]
        by_cases q : m / 4 = p ∧ m % 4 < k ∧ (N m).1 ≠ 0
        · rw [if_pos q, if_pos ⟨q.1, by omega, q.2.2⟩]
        · rw [if_neg q, if_neg (fun q2 => q ⟨q2.1, by omega, q2.2.2⟩)]
theorem dfold_all (p : Nat) (N : Nums) (m : Nat) : (dfold p N (fst4 4)).1 m = if m / 4 = p ∧ (N m).1 ≠ 0 then (0, 0, (N m).2.2) else N m := by
  rw [dfold_spec p N 4 (Nat.le_refl _) m]
  by_cases q : m / 4 = p ∧ (N m).1 ≠ 0
  · rw [if_pos q, if_pos ⟨q.1, Nat.mod_lt _ (by decide), q.2⟩]
  · rw [if_neg q, if_neg (fun q2 => q ⟨q2.1, q2.2.2⟩)]
theorem drop_at {po : Nat → Int} {pool : Int} {p : Nat} (h : placeF po pool = ((p : Int), true)) (N : Nums) : dropPo po pool = (fun i => if i = p then 0 else po i) ∧ dropNL po N pool = dfold p N (fst4 4) := by
  unfold dropPo dropNL
  rw [h]
  simp
theorem drop_not {po : Nat → Int} {pool : Int} (h : placeF po pool = (0, false)) (N : Nums) : dropPo po pool = po ∧ dropNL po N pool = (N, []) := by
  unfold dropPo dropNL
  rw [h]
  simp
theorem inv_drop {po : Nat → Int} {tk : Int} {N : Nums} (h : Inv po tk N) (pool : Int) : Inv (dropPo po pool) tk (dropNL po N pool).1 := by
  rcases place_in po pool with ⟨p, hp, hpe⟩ | hpe
  · obtain ⟨e1, e2⟩ := drop_at hpe N
    rw [e1, e2]
    refine ⟨h.t0, h.t8, fun q hq ht => ?_, fun m hm => ?_, fun m hm => ?_, fun m hm hq => ?_⟩
    · show (if q = p then 0 else po q) = 0
      split
      · rfl
      · exact h.far q hq ht
    · rw [dfold_all]
      split
      · simp
      · exact h.ser m hm
    · rw [dfold_all]
      split
      · exact h.ok m hm
      · exact h.ok m hm
    · rw [dfold_all]
      split
      · rfl
      · rename_i hn
        by_cases e : m / 4 = p
        · exact Classical.byContradiction fun q => hn ⟨e, q⟩
        · simp only [if_neg e] at hq
          exact h.own m hm hq
  · obtain ⟨e1, e2⟩ := drop_not hpe N
    rw [e1, e2]
    exact h
set_option maxRecDepth 100000 in
set_option maxHeartbeats 2000000 in
theorem refdrop_any (w : World) (b : Nat) (po : Nat → Int) (tk : Int) (N : Nums) (pool : Int) (h : RefAt w b po tk N) (hI : Inv po tk N) :
    Calls Try.prog 10 #[.pointer (some ⟨b, 0, none⟩), .int .i64 pool] w fun e w' => ∃ v, e = .returned (.tuple #[v, .int .i64 (if (placeF po pool).2 = true then 0 else 2)]) ∧ w'.ownsRow w.heap.size 3 1 v (dropNL po N pool).2.length ((dropNL po N pool).2.map (Value.int .i64)) ∧ RefAt w' b (dropPo po pool) tk (dropNL po N pool).1 ∧ BlkOnly b w w' := by
  have HA := Lib.hid (refat_any w b po tk N pool h)
  rcases place_in po pool with ⟨p, hp, hpe⟩ | hpe
  · obtain ⟨e1, e2⟩ := drop_at hpe N
    have ea : atF po pool = (p : Int) := by unfold atF; rw [hpe]; rfl
    rw [ea] at HA
    obtain ⟨hpo, hp0⟩ := place_some hpe hp
    have htk : (p : Int) < tk := by
      rcases Int.lt_or_le (p : Int) tk with q | q
      · exact q
      · exact absurd (hpo.symm.trans (hI.far p hp q)) hp0
    rw [e1, e2, hpe]
    simp only [if_true]
    have HPUT : Hid (∀ v, RefAt v b po tk N → RefAt (v.setCells b (p * 10) [.int .i64 0, .bool true, .int .i64 0, .int .i64 0, .int .i64 0, .int .i64 0, .int .i64 0, .int .i64 0, .int .i64 0, .int .i64 0]) b (fun i => if i = p then 0 else po i) tk (dfold p N (fst4 4)).1 ∧ BlkOnly b v (v.setCells b (p * 10) [.int .i64 0, .bool true, .int .i64 0, .int .i64 0, .int .i64 0, .int .i64 0, .int .i64 0, .int .i64 0, .int .i64 0, .int .i64 0])) := Lib.hid (fun v hv => ref_put hv p hp 0 true (by simp) (by unfold deadB; simp; exact htk) (fun i hi => by
        rw [dfold_all]
        split
        · exact ⟨rfl, rfl⟩
        · rename_i hn
          have : (N (p * 4 + i)).1 = 0 := Classical.byContradiction fun q => hn ⟨by omega, q⟩
          exact ⟨this, (hI.ser _ (by omega)).1 this⟩) (fun q hq hne => by
        simp only [if_neg hne, true_and]
        unfold deadB
        simp only [if_neg hne]) (fun n hn hne => by rw [dfold_all, if_neg (fun q => hne q.1)]) (fun n hn => by
        rw [dfold_all]
        split <;> rfl))
    obtain ⟨i0, hi0, hz0, hz1, hz2⟩ := info_parts infoInt
    have HI0 := Lib.hid hi0
    have HR := Lib.hid h
    clear h hI e1 e2 ea hpo hp0 htk hpe hi0
    have hpI : (p : Int) < 8 := by omega
    have hbl := HR.out.lt
    go_enter Try.func10, Try.ntmps10
    go_wp2_with (go_at_call 23; (with_reducible refine HA.out.mono ?_); rintro e w1 ⟨rfl, rfl⟩)
    go_loopw [7, 8] (fun l i wr => ∃ k : Nat, k ≤ 4 ∧ i = .int .i64 k ∧ wr.ownsRow w.heap.size 3 1 l (dfold p N (fst4 k)).2.length ((dfold p N (fst4 k)).2.map (Value.int .i64)) ∧ Hid ((dfold p N (fst4 k)).2.length ≤ k) ∧ Below w.heap.size w wr) (fun _ i _ => 4 - (intOf i).toNat)
    case atStart => exact ⟨0, by omega, rfl, World.ownsRow_nil _ _ _ _, Lib.hid (Nat.le_refl _), Below.refl _ _⟩
    case round =>
      obtain ⟨k, hk, rfl, hown, HL, hB⟩ := hrel
      have HRw := Lib.hid (HR.out.call hB)
      by_cases hlt : k < 4
      · have hltI : (k : Int) < 4 := by omega
        have hc := HRw.out.cell (show p * 10 + 2 + k < 112 by omega)
        rw [rc_root po tk N hp hlt] at hc
        have hst : (dfold p N (fst4 k)).1 (p * 4 + k) = N (p * 4 + k) := by rw [dfold_spec p N k (by omega), if_neg (by omega)]
        have hsn := dfold_snoc p N (fst4 k) ⟨k, hlt⟩
        rw [← fst4_succ k hlt] at hsn
        unfold dstep at hsn
        simp only at hsn
        rw [hst] at hsn
        obtain ⟨rv, hrv⟩ : ∃ x, x = (N (p * 4 + k)).1 := ⟨_, rfl⟩
        rw [← hrv] at hc hsn
        obtain ⟨D, hD⟩ : ∃ x, x = (dfold p N (fst4 k)).2 := ⟨_, rfl⟩
        rw [← hD] at hown HL
        by_cases h0 : rv = 0
        · subst h0
          rw [if_pos rfl] at hsn
          have HX := Lib.hid (show (dfold p N (fst4 (k + 1))).2 = D by rw [hsn, ← hD])
          clear hst hsn hrv hD
          go_wp2
          go_roundw
          case rel => exact ⟨k + 1, by omega, by go_num, by rw [HX.out]; exact hown, by rw [HX.out]; exact Lib.hid (by have := HL.out; omega), hB⟩
          case measure => first | (simp [intOf]; done) | (simp [intOf]; omega)
        · rw [if_neg h0] at hsn
          have hw1 : IntKind.i64.wrap (4 * (p : Int)) = 4 * (p : Int) := IntWalk.i64_in _ (by omega)
          have hw2 : IntKind.i64.wrap (4 * (p : Int) + k) = 4 * (p : Int) + k := IntWalk.i64_in _ (by omega)
          have HX := Lib.hid (show (dfold p N (fst4 (k + 1))).2 = D ++ [4 * (p : Int) + k] by rw [hsn, ← hD]; simp only; rw [Int.mul_comm])
          have hne : (rv != 0) = true := by simp [h0]
          have hDl : D.length ≤ 4 := by have := HL.out; omega
          clear hst hsn hrv hD h0
          go_wp2_with (at_builtin; refine wpList_append_own _ rfl _ _ 42 rfl w.heap.size 3 i0 (.int .i64 0) 1 8 Try.underlying42 HI0.out hz0 hz1 hz2 rfl (by decide) _ _ _ rfl (hown.alloc _) ⟨wr.heap.size, 0, none⟩ 1 1 [.int .i64 (4 * (p : Int) + k)] rfl rfl (cell_one_new' _ _ _) (by simp [Value.oneCell']) (by unfold maxLen; omega) (by omega) (by have := hB.size; simp; omega) ?_; intro v' w1 hown' hgrow _)
          go_roundw
          case rel =>
            refine ⟨k + 1, by omega, by go_num, ?_, ?_, (bal hB _).grown hgrow (by have := hB.size; simp; omega) (fun j ej => (hown.lt j ej).1)⟩
            · rw [HX.out, List.map_append]
              simpa using hown'
            · rw [HX.out]
              exact Lib.hid (by have := HL.out; simp; omega)
          case measure => first | (simp [intOf]; done) | (simp [intOf]; omega)
      · obtain rfl : k = 4 := by omega
        obtain ⟨q1, q2⟩ := HPUT.out _ HRw.out
        have HQ1 := Lib.hid q1
        have HQ2 := Lib.hid q2
        have HTH := Lib.hid (ref_there HRw.out p hp)
        have HB := Lib.hid hB
        have HOW := Lib.hid (row_other hown q2 (by exact hbl))
        clear q1 q2 hown hB
        go_wp2_with (refine wpList_store_mid rfl 29 _ _ rfl b (p * 10) _ rfl rfl ?ga ?gb ?gc ?gd; (case ga => exact HTH.out); (case gb => kernel_rfl); (case gc => simp [Value.oneCell']))
        refine bodyPost_ret (by simp [results, Try.results10, go_sem]; first | done | rfl) rfl ⟨_, rfl, HOW.out, HQ1.out, (BlkOnly.of_below HB.out).trans HQ2.out⟩
  · obtain ⟨e1, e2⟩ := drop_not hpe N
    have ea : atF po pool = -1 := by unfold atF; rw [hpe]; rfl
    rw [ea] at HA
    rw [e1, e2, hpe]
    have HR := Lib.hid h
    clear h hI e1 e2 ea hpe
    go_enter Try.func10, Try.ntmps10
    go_wp2_with (go_at_call 23; (with_reducible refine HA.out.mono ?_); rintro e w1 ⟨rfl, rfl⟩)
    refine bodyPost_ret (v := .tuple #[.slice none 0 0, .int .i64 2]) (by simp [results, Try.results10, go_sem]) rfl ⟨_, rfl, World.ownsRow_nil _ _ _ _, HR.out, BlkOnly.refl _ _⟩
end Go.Proofs.Ytfladcnkphcicaa
