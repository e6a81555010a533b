/- chapter 19, package asid: all places. -/
import Derived.Test.YtfladcnkphcicaaAs4
import Derived.Test.YtfladcnkphcicaaAs5a
import Derived.Test.YtfladcnkphcicaaAsidI
import Derived.Test.YtfladcnkphcicaaAsidNone
import Derived.Sort.CutIn
import Derived.Deep.MidRow
import Derived.Deep.RegionHeld
import Derived.BigRegionIn
import Derived.BigFrameIn
namespace Go.Proofs.Ytfladcnkphcicaa
set_option linter.unusedVariables false
set_option linter.unusedSimpArgs false
open Go.ChangeShapes Go.WideShapes Go.ChangeAt Go.RowKit Go.Shelf
attribute [local go_sem] Oper.semAt_some
/-- The cells of eight pools. -/
def pcF (po : Nat → Int) (dd : Nat → Bool) (R S : Nat → Int) (j : Nat) : Value :=
  if j % 10 = 0 then .int .i64 (po (j / 10)) else if j % 10 = 1 then .bool (dd (j / 10)) else if j % 10 < 6 then .int .i64 (R (j / 10 * 4 + (j % 10 - 2))) else .int .i64 (S (j / 10 * 4 + (j % 10 - 6)))
structure PAt (w : World) (G : Nat) (po : Nat → Int) (dd : Nat → Bool) (R S : Nat → Int) : Prop where
  row : w.heap[G]? = some (.cells (cellsF 80 (pcF po dd R S)) 30 (0, 0))
section
variable {w w' : World} {G : Nat} {po : Nat → Int} {dd : Nat → Bool} {R S : Nat → Int}
theorem PAt.lt (h : PAt w G po dd R S) : G < w.heap.size := (Array.getElem?_eq_some_iff.1 h.row).1
theorem PAt.of_block (h : PAt w G po dd R S) (e : w'.heap[G]? = w.heap[G]?) : PAt w' G po dd R S := ⟨e.trans h.row⟩
theorem PAt.cell (h : PAt w G po dd R S) {j : Nat} (hj : j < 80) : w.cell? ⟨G, j, none⟩ = some (pcF po dd R S j) := row_cellF h.row hj
theorem PAt.free (h : PAt w G po dd R S) (j : Nat) : w.frozen? ⟨G, j, none⟩ = false := by simp [World.frozen?, h.row]
theorem pc_obj (p : Nat) : pcF po dd R S (p * 10) = .int .i64 (po p) := by
  unfold pcF
  rw [if_pos (by omega), show p * 10 / 10 = p by omega]
theorem pc_dead (p : Nat) : pcF po dd R S (p * 10 + 1) = .bool (dd p) := by
  unfold pcF
  rw [if_neg (by omega), if_pos (by omega), show (p * 10 + 1) / 10 = p by omega]
theorem pc_root (p : Nat) {i : Nat} (hi : i < 4) : pcF po dd R S (p * 10 + 2 + i) = .int .i64 (R (p * 4 + i)) := by
  unfold pcF
  rw [if_neg (by omega), if_neg (by omega), if_pos (by omega), show (p * 10 + 2 + i) / 10 = p by omega, show (p * 10 + 2 + i) % 10 - 2 = i by omega]
theorem pc_ser (p : Nat) {i : Nat} (hi : i < 4) : pcF po dd R S (p * 10 + 6 + i) = .int .i64 (S (p * 4 + i)) := by
  unfold pcF
  rw [if_neg (by omega), if_neg (by omega), if_neg (by omega), show (p * 10 + 6 + i) / 10 = p by omega, show (p * 10 + 6 + i) % 10 - 6 = i by omega]
theorem pc_cases (j : Nat) : (∃ p, j = p * 10) ∨ (∃ p, j = p * 10 + 1) ∨ (∃ p i, i < 4 ∧ j = p * 10 + 2 + i) ∨ (∃ p i, i < 4 ∧ j = p * 10 + 6 + i) := by
  by_cases h0 : j % 10 = 0
  · exact .inl ⟨j / 10, by omega⟩
  · by_cases h1 : j % 10 = 1
    · exact .inr (.inl ⟨j / 10, by omega⟩)
    · by_cases h6 : j % 10 < 6
      · exact .inr (.inr (.inl ⟨j / 10, j % 10 - 2, by omega, by omega⟩))
      · exact .inr (.inr (.inr ⟨j / 10, j % 10 - 6, by omega, by omega⟩))
theorem pc_ext {po' : Nat → Int} {dd' : Nat → Bool} {R' S' : Nat → Int} {f : Nat → Value} (h0 : ∀ p, p < 8 → f (p * 10) = .int .i64 (po' p)) (h1 : ∀ p, p < 8 → f (p * 10 + 1) = .bool (dd' p))
    (h2 : ∀ p i, p < 8 → i < 4 → f (p * 10 + 2 + i) = .int .i64 (R' (p * 4 + i))) (h3 : ∀ p i, p < 8 → i < 4 → f (p * 10 + 6 + i) = .int .i64 (S' (p * 4 + i))) : cellsF 80 f = cellsF 80 (pcF po' dd' R' S') := by
  refine cellsF_congr _ _ _ (fun j hj => ?_)
  rcases pc_cases j with ⟨p, rfl⟩ | ⟨p, rfl⟩ | ⟨p, i, hi, rfl⟩ | ⟨p, i, hi, rfl⟩
  · rw [pc_obj, h0 p (by omega)]
  · rw [pc_dead, h1 p (by omega)]
  · rw [pc_root p hi, h2 p i (by omega) hi]
  · rw [pc_ser p hi, h3 p i (by omega) hi]
theorem PAt.setObj (h : PAt w G po dd R S) (p : Nat) (x : Int) : PAt (w.setCell ⟨G, p * 10, none⟩ (.int .i64 x)) G (fun q => if q = p then x else po q) dd R S := by
  refine ⟨?_⟩
  rw [Go.heap_setCell_same _ _ _ _ _ _ h.row, cellsF_set]
  congr 2
  refine pc_ext (fun q hq => ?_) (fun q hq => ?_) (fun q i hq hi => ?_) (fun q i hq hi => ?_)
  · by_cases e : q = p
    · subst e; rw [if_pos rfl, if_pos rfl]
    · rw [if_neg (by omega), if_neg e, pc_obj]
  · rw [if_neg (by omega), pc_dead]
  · rw [if_neg (by omega), pc_root q hi]
  · rw [if_neg (by omega), pc_ser q hi]
theorem PAt.setDead (h : PAt w G po dd R S) (p : Nat) (x : Bool) : PAt (w.setCell ⟨G, p * 10 + 1, none⟩ (.bool x)) G po (fun q => if q = p then x else dd q) R S := by
  refine ⟨?_⟩
  rw [Go.heap_setCell_same _ _ _ _ _ _ h.row, cellsF_set]
  congr 2
  refine pc_ext (fun q hq => ?_) (fun q hq => ?_) (fun q i hq hi => ?_) (fun q i hq hi => ?_)
  · rw [if_neg (by omega), pc_obj]
  · by_cases e : q = p
    · subst e; rw [if_pos rfl, if_pos rfl]
    · rw [if_neg (by omega), if_neg e, pc_dead]
  · rw [if_neg (by omega), pc_root q hi]
  · rw [if_neg (by omega), pc_ser q hi]
theorem PAt.setRoot (h : PAt w G po dd R S) (p : Nat) {k : Nat} (hk : k < 4) (x : Int) : PAt (w.setCell ⟨G, p * 10 + 2 + k, none⟩ (.int .i64 x)) G po dd (fun n => if n = p * 4 + k then x else R n) S := by
  refine ⟨?_⟩
  rw [Go.heap_setCell_same _ _ _ _ _ _ h.row, cellsF_set]
  congr 2
  refine pc_ext (fun q hq => ?_) (fun q hq => ?_) (fun q i hq hi => ?_) (fun q i hq hi => ?_)
  · rw [if_neg (by omega), pc_obj]
  · rw [if_neg (by omega), pc_dead]
  · by_cases e : q * 4 + i = p * 4 + k
    · rw [if_pos (by omega), if_pos e]
    · rw [if_neg (by omega), if_neg e, pc_root q hi]
  · rw [if_neg (by omega), pc_ser q hi]
theorem PAt.setSer (h : PAt w G po dd R S) (p : Nat) {k : Nat} (hk : k < 4) (x : Int) : PAt (w.setCell ⟨G, p * 10 + 6 + k, none⟩ (.int .i64 x)) G po dd R (fun n => if n = p * 4 + k then x else S n) := by
  refine ⟨?_⟩
  rw [Go.heap_setCell_same _ _ _ _ _ _ h.row, cellsF_set]
  congr 2
  refine pc_ext (fun q hq => ?_) (fun q hq => ?_) (fun q i hq hi => ?_) (fun q i hq hi => ?_)
  · rw [if_neg (by omega), pc_obj]
  · rw [if_neg (by omega), pc_dead]
  · rw [if_neg (by omega), pc_root q hi]
  · by_cases e : q * 4 + i = p * 4 + k
    · rw [if_pos (by omega), if_pos e]
    · rw [if_neg (by omega), if_neg e, pc_ser q hi]
theorem PAt.congr {po' : Nat → Int} {dd' : Nat → Bool} {R' S' : Nat → Int} (h : PAt w G po dd R S) (h0 : ∀ p, p < 8 → po p = po' p) (h1 : ∀ p, p < 8 → dd p = dd' p) (h2 : ∀ n, n < 32 → R n = R' n) (h3 : ∀ n, n < 32 → S n = S' n) : PAt w G po' dd' R' S' := by
  refine ⟨?_⟩
  rw [h.row]
  congr 2
  refine pc_ext (fun q hq => ?_) (fun q hq => ?_) (fun q i hq hi => ?_) (fun q i hq hi => ?_)
  · rw [pc_obj, h0 q hq]
  · rw [pc_dead, h1 q hq]
  · rw [pc_root q hi, h2 _ (by omega)]
  · rw [pc_ser q hi, h3 _ (by omega)]
theorem rc_pc (tk : Int) (N : Nums) : cellsF 80 (rcF po tk N) = cellsF 80 (pcF po (deadB po tk) (fun n => (N n).1) (fun n => (N n).2.1)) :=
  pc_ext (fun _ h => rc_obj _ _ _ h) (fun _ h => rc_dead _ _ _ h) (fun _ _ h hi => rc_root _ _ _ h hi) (fun _ _ h hi => rc_ser _ _ _ h hi)
end
abbrev pz : Nat → Int := fun _ => 0
abbrev pzb : Nat → Bool := fun _ => false
theorem pz_cells : ∀ w, (zeroValue 30).run Try.prog w = .ok (.agg (cellsF 80 (pcF pz pzb pz pz))) w := fun _ => by kernel_rfl
def inP (pre : List (Fin 32)) (n : Nat) : Bool := pre.any (fun y => y.1 == n)
/-- What stands behind some numbers. -/
structure PlAt (w : World) (b : Nat) (po : Nat → Int) (t : Nat) (N : Nums) (Bn : Nat) (pre : List (Fin 32)) (W : World) : Prop where
  asid : AsidAt W b po t N
  row : PAt W (w.heap.size + 1) po (deadB po t) (fun n => if inP pre n = true then (N n).1 else 0) (fun n => if inP pre n = true then (N n).2.1 else 0)
  r0 : PAt W w.heap.size pz pzb pz pz
  lt : Bn + 1 ≤ W.heap.size
  below : Below w.heap.size w W
theorem PlAt.from {w : World} {b : Nat} {po : Nat → Int} {t : Nat} {N : Nums} {Bn : Nat} (hb : b < w.heap.size) (hB : w.heap.size + 2 ≤ Bn) : OwnFrom (Bn + 1) (PlAt w b po t N Bn) := by
  intro s A B row h hg hr
  have e : ∀ k, k < Bn + 1 → B.heap[k]? = A.heap[k]? := fun k hk => hg.block k (Nat.lt_of_lt_of_le hk h.lt) (fun e => by have := (hr k e.symm).1; omega)
  have sz := hg.size
  exact ⟨h.asid.of_block sz (e b (by omega)), h.row.of_block (e _ (by omega)), h.r0.of_block (e _ (by omega)), Nat.le_trans h.lt sz,
    ⟨hg.os.trans h.below.os, hg.tape.trans h.below.tape, hg.output.trans h.below.output, Nat.le_trans h.below.size sz, fun k hk => (e k (by omega)).trans (h.below.block k hk)⟩⟩
theorem inP_snoc (pre : List (Fin 32)) (x : Fin 32) (n : Nat) : inP (pre ++ [x]) n = (inP pre n || (x.1 == n)) := by unfold inP; simp
theorem PlAt.step {w W : World} {b : Nat} {po : Nat → Int} {t : Nat} {N : Nums} {Bn : Nat} {pre : List (Fin 32)} (h : PlAt w b po t N Bn pre W) (hb : b < w.heap.size) {x : Fin 32} {n p m : Nat} (hx : n = x.1) (hn : p * 4 + m = n) (hm : m < 4) :
    PlAt w b po t N Bn (pre ++ [x]) ((W.drew.setCell ⟨w.heap.size + 1, p * 10 + 2 + m, none⟩ (.int .i64 (N n).1)).setCell ⟨w.heap.size + 1, p * 10 + 6 + m, none⟩ (.int .i64 (N n).2.1)) ∧
      BlkOnly (w.heap.size + 1) W ((W.drew.setCell ⟨w.heap.size + 1, p * 10 + 2 + m, none⟩ (.int .i64 (N n).1)).setCell ⟨w.heap.size + 1, p * 10 + 6 + m, none⟩ (.int .i64 (N n).2.1)) := by
  have bo := (((BlkOnly.refl (w.heap.size + 1) W).drew).set (p * 10 + 2 + m) (.int .i64 (N n).1)).set (p * 10 + 6 + m) (.int .i64 (N n).2.1)
  have r0 : PAt W.drew (w.heap.size + 1) po (deadB po t) (fun n => if inP pre n = true then (N n).1 else 0) (fun n => if inP pre n = true then (N n).2.1 else 0) := ⟨h.row.row⟩
  have r1 := (r0.setRoot p hm (N n).1).setSer p hm (N n).2.1
  have hs := h.below.size
  refine ⟨⟨h.asid.of_block bo.size (bo.block b h.asid.lt (by omega)), r1.congr (fun _ _ => rfl) (fun _ _ => rfl) (fun q hq => ?_) (fun q hq => ?_), h.r0.of_block (bo.block _ h.r0.lt (by omega)), Nat.le_trans h.lt bo.size,
    ⟨bo.os.trans h.below.os, bo.tape.trans h.below.tape, bo.output.trans h.below.output, Nat.le_trans hs bo.size, fun q hq => (bo.block q (by omega) (by omega)).trans (h.below.block q hq)⟩⟩, bo⟩
  · rw [inP_snoc]
    by_cases e : q = p * 4 + m
    · rw [if_pos e, if_pos (by simp; right; omega), e, hn]
    · rw [if_neg e]
      have hf : (x.1 == q) = false := by simp; omega
      rw [hf, Bool.or_false]
  · rw [inP_snoc]
    by_cases e : q = p * 4 + m
    · rw [if_pos e, if_pos (by simp; right; omega), e, hn]
    · rw [if_neg e]
      have hf : (x.1 == q) = false := by simp; omega
      rw [hf, Bool.or_false]
theorem inP_all (N : Nums) (n : Nat) (h : n < 32) : inP (asgTo N 32) n = decide ((N n).1 ≠ 0) := by
  rw [Bool.eq_iff_iff, decide_eq_true_iff]
  unfold inP
  rw [List.any_eq_true]
  constructor
  · rintro ⟨y, hy, e⟩
    have := ((asg_mem (Nat.le_refl _)).1 hy).2
    rwa [eq_of_beq e] at this
  · exact fun hz => ⟨⟨n, h⟩, (asg_mem (Nat.le_refl _)).2 ⟨h, hz⟩, by simp⟩
theorem cellsF_one (n : Nat) (f : Nat → Value) (h : ∀ j, (f j).oneCell' = true) : (cellsF n f).all (·.oneCell') = true := by
  unfold cellsF
  simp [h]
theorem rc_one (po : Nat → Int) (tk : Int) (N : Nums) (j : Nat) : (rcF po tk N j).oneCell' = true := by
  unfold rcF
  repeat' split
  all_goals rfl
set_option maxRecDepth 100000 in
set_option maxHeartbeats 2000000 in
theorem pools_in (w : World) (b : Nat) (po : Nat → Int) (t : Nat) (N : Nums) (hA : AsidAt w b po t N) (hI : Inv po t N) :
    CallsIn Fence.wide 3 Try.prog 21 #[.pointer (some ⟨b, 0, none⟩)] w fun e w' => e = .returned (.agg (cellsF 80 (rcF po t N))) ∧ Below w.heap.size w w' := by
  have hzz := pz_cells
  have hb := hA.lt
  have ht8 : t ≤ 8 := by have := hI.t8; omega
  obtain ⟨w1, hw1⟩ : ∃ x, x = (w.alloc (.cells (cellsF 80 (pcF pz pzb pz pz)) 30)).alloc (.cells (cellsF 80 (pcF pz pzb pz pz)) 30) := ⟨_, rfl⟩
  have hb1 : Below w.heap.size w w1 := hw1 ▸ bal (bal (Below.refl _ _) _) _
  have hsz : w1.heap.size = w.heap.size + 2 := by rw [hw1]; simp
  have hp0 : PAt w1 w.heap.size pz pzb pz pz := ⟨by
    rw [hw1]
    exact (Below.heap_alloc _ _ _ (by simp)).trans (World.alloc_heap_new w _)⟩
  have hp1 : PAt w1 (w.heap.size + 1) pz pzb pz pz := ⟨by
    rw [hw1]
    have := World.alloc_heap_new (w.alloc (.cells (cellsF 80 (pcF pz pzb pz pz)) 30)) (.cells (cellsF 80 (pcF pz pzb pz pz)) 30)
    rwa [World.size_alloc] at this⟩
  have HA := Lib.hid (hA.call hb1)
  have HB1 := Lib.hid hb1
  have HP0 := Lib.hid hp0
  have HP1 := Lib.hid hp1
  have HW1 := Lib.hid hw1
  have HI := Lib.hid hI
  have htk := HA.out.taken
  have htI : (t : Int) ≤ 8 := by omega
  clear hA hb1 hp0 hp1 hw1 hI
  refine callsIn_of_wp_marks Try.func21 rfl trivial ?_ rfl
  simp only [Try.ntmps21, List.size_toArray, List.length_cons, List.length_nil, Nat.reduceAdd, Nat.reduceSub, Array.replicate_succ, Array.replicate_zero, List.push_toArray, List.append_toArray, List.nil_append, List.cons_append]
  gi_upto_region 2 with fail
  rw [← HW1.out]
  clear hzz
  gi_wp2
  gi_loopw [4, 15] (fun _ i wr => ∃ k : Nat, k ≤ t ∧ i = .int .i64 k ∧ BlkOnly (w.heap.size + 1) w1 wr ∧ PAt wr (w.heap.size + 1) (fun q => if q < k then po q else 0) (fun q => if q < k then (po q == 0) else false) pz pz)  (fun _ i _ => t - (intOf i).toNat)
  case atStart => exact ⟨0, by omega, rfl, BlkOnly.refl _ _, HP1.out.congr (fun _ _ => (if_neg (by omega)).symm) (fun _ _ => (if_neg (by omega)).symm) (fun _ _ => rfl) (fun _ _ => rfl)⟩
  case round =>
    obtain ⟨k, hk, rfl, hB, hP⟩ := hrel
    by_cases hlt : k < t
    · have hltI : (k : Int) < (t : Int) := by omega
      have hk8 : k < 8 := by omega
      have hkI : (k : Int) < 8 := by omega
      have hc := (HA.out.of_block hB.size (hB.block b HA.out.lt (by omega))).pool k hk8
      obtain ⟨x, hx⟩ : ∃ x, x = po k := ⟨_, rfl⟩
      rw [← hx] at hc
      have c3 := hP.cell (show k * 10 < 80 by omega)
      rw [pc_obj] at c3
      have f3 := hP.free
      have P3 := Lib.hid (hP.setObj k x)
      have O3 := Lib.hid (hB.set (k * 10) (.int .i64 x))
      have HX := Lib.hid hx
      clear hP hB hx
      gi_upto_region 8 with fail
      generalize wr.setCell ⟨w.heap.size + 1, k * 10, none⟩ (.int .i64 x) = w3 at *
      have c4 := P3.out.cell (show k * 10 + 1 < 80 by omega)
      rw [pc_dead] at c4
      have f4 := P3.out.free
      have hc4 := (HA.out.of_block O3.out.size (O3.out.block b HA.out.lt (by omega))).pool k hk8
      rw [← HX.out] at hc4
      have P4 := Lib.hid (P3.out.setDead k (x == 0))
      have O4 := Lib.hid (O3.out.set (k * 10 + 1) (.bool (x == 0)))
      gi_wp2
      go_roundw
      case rel =>
        refine ⟨k + 1, by omega, by go_num, O4.out, P4.out.congr (fun q hq => ?_) (fun q hq => ?_) (fun _ _ => rfl) (fun _ _ => rfl)⟩
        · by_cases e : q = k
          · subst e; rw [if_pos rfl, if_pos (by omega), HX.out]
          · rw [if_neg e]
            by_cases e2 : q < k
            · rw [if_pos e2, if_pos (by omega)]
            · rw [if_neg e2, if_neg (by omega)]
        · by_cases e : q = k
          · subst e; rw [if_pos rfl, if_pos (by omega), HX.out]
          · rw [if_neg e]
            by_cases e2 : q < k
            · rw [if_pos e2, if_pos (by omega)]
            · rw [if_neg e2, if_neg (by omega)]
      case measure => first | (simp [intOf]; done) | (simp [intOf]; omega)
    · obtain rfl : k = t := by omega
      have hP2 := hP.congr (po' := po) (dd' := deadB po k) (R' := pz) (S' := pz) (fun q hq => by
          split
          · rfl
          · exact (HI.out.far q hq (by omega)).symm) (fun q hq => by
          unfold deadB
          split
          · rw [decide_eq_true (show ((q : Int) < (k : Int)) by omega), Bool.true_and]; rfl
          · rw [decide_eq_false (show ¬ ((q : Int) < (k : Int)) by omega), Bool.false_and]) (fun _ _ => rfl) (fun _ _ => rfl)
      have HP2 := Lib.hid hP2
      have HB2 := Lib.hid hB
      clear hP hP2 hB
      gi_wp2_with (refine ⟨trivial, ?_⟩; gi_at_call 26; refine (assigned_in _ _ _).mono ?_; rintro e w' ⟨rfl, rfl⟩)
      obtain ⟨w2, hw2⟩ : ∃ x, x = wr.alloc (.cells #[.pointer (some ⟨b, 0, none⟩)] 24) := ⟨_, rfl⟩
      have hbw : Below wr.heap.size wr w2 := hw2 ▸ bal (Below.refl _ _) _
      have hs2 : w2.heap.size = wr.heap.size + 1 := by rw [hw2]; simp
      have hbx : w2.cell? ⟨wr.heap.size, 0, none⟩ = some (.pointer (some ⟨b, 0, none⟩)) := by rw [hw2]; go_simp
      have hG1 := HP2.out.lt
      have hAr := HA.out.of_block HB2.out.size (HB2.out.block b HA.out.lt (by omega))
      have hA2 := hAr.call hbw
      have inv : PlAt w b po k N wr.heap.size [] w2 := ⟨hA2, (HP2.out.of_block (hbw.block _ hG1)).congr (fun _ _ => rfl) (fun _ _ => rfl) (fun _ _ => rfl) (fun _ _ => rfl), (HP0.out.of_block (HB2.out.block _ HP0.out.lt (by omega))).of_block (hbw.block _ (by omega)), by omega,
        ⟨hbw.os.trans (HB2.out.os.trans HB1.out.os), hbw.tape.trans (HB2.out.tape.trans HB1.out.tape), hbw.output.trans (HB2.out.output.trans HB1.out.output), Nat.le_trans HB1.out.size (Nat.le_trans HB2.out.size hbw.size), fun q hq => (hbw.block q (by omega)).trans ((HB2.out.block q (by omega) (by omega)).trans (HB1.out.block q hq))⟩⟩
      rw [← hw2]
      clear hw2 hAr
      refine wpIn_rangeFunc_ownF (α := Fin 32) rfl (by decide) (gf := 28) (lb := #[.pointer (some ⟨wr.heap.size, 0, none⟩)]) rfl trivial (enters_of Try.func28 (by kernel_rfl) rfl)
        (encs := encA b) (Kp := KpA b wr.heap.size) (S := fun xs => xs = asgTo N 32) (Sp := fun pre => ∃ k, ∃ h : k < 32, (N k).1 ≠ 0 ∧ pre = asgTo N k ++ [⟨k, h⟩]) (N := 32) (w0 := w2) (assigned1_seq 1 b wr.heap.size po k N w2 hA2 hbx (by omega))
        (fun h k => h.trans k) ?hKb (Below.refl _ _) (fun _ => rfl) (PlAt w b po k N wr.heap.size) (fun _ _ _ => False) (hs2 ▸ PlAt.from hb (by omega)) (fun _ => fun _ _ _ _ h _ _ => h.elim) inv
        (fun x => { tmps := #[.pointer (some ⟨b, 0, none⟩), undef, .pointer (some ⟨w.heap.size, 0, none⟩), .pointer (some ⟨w.heap.size + 1, 0, none⟩), u4, .int .i64 x.1, .pointer (some ⟨b, 9 + x.1 * 3, none⟩), undef, .pointer (some ⟨b, 0, none⟩), .bool false, undef, .pointer (some ⟨b, 0, none⟩), .pointer (some ⟨b, 0, none⟩), .pointer (some ⟨b, 8, none⟩), .int .i64 k, .int .i64 k, .bool false, u17, u18, u19, u20, u21, u22, u23, u24, u25, u26, u27, u28, u29, u30, u31, u32, u33, u34, u35, u36, u37, .pointer (some ⟨b, 0, none⟩), .func (.func 28) #[] #[.pointer (some ⟨wr.heap.size, 0, none⟩)], .int .i64 x.1, .pointer (some ⟨b, 9 + x.1 * 3, none⟩), undef, undef, undef, undef, undef, undef, undef, undef, undef, undef, undef, undef, undef, undef, undef, undef, undef, undef, undef, undef, undef, undef, undef, undef], defers := [] }) ?hassign ?hbody ?hdone ?hstop
      case hKb =>
        intro W l o o' hl ho _ _
        exact ⟨heap_putObj_ne (by omega), heap_putObj_ne (by omega), by simp⟩
      case hassign =>
        intro l x W K hK
        gi_wp2
        exact hK
      case hbody =>
        rintro l pre x W hI2 hlen
        obtain ⟨c0, c1, c2⟩ := hI2.asid.num x.1 x.2
        obtain ⟨n, hn⟩ : ∃ n, n = x.1 := ⟨_, rfl⟩
        have hn32 : n < 32 := by rw [hn]; exact x.2
        rw [← hn] at c0 c1 c2
        have hn' : (n : Int) < 32 := by omega
        obtain ⟨p, hp⟩ : ∃ p, p = n / 4 := ⟨_, rfl⟩
        obtain ⟨m, hm0⟩ : ∃ m, m = n % 4 := ⟨_, rfl⟩
        have hd := tdiv4 (n := n)
        have hm := tmod4 (n := n)
        rw [← hp] at hd
        rw [← hm0] at hm
        have hp8 : p < 8 := by omega
        have hm4 : m < 4 := by omega
        have hpI : (p : Int) < 8 := by omega
        have hmI : (m : Int) < 4 := by omega
        have hwp : IntKind.i64.wrap (p : Int) = p := IntWalk.i64_in _ (by omega)
        have hwk : IntKind.i64.wrap (m : Int) = m := IntWalk.i64_in _ (by omega)
        have HEn := Lib.hid (show p * 4 + m = n by omega)
        have d0 := hI2.row.cell (show p * 10 + 2 + m < 80 by omega)
        rw [pc_root p hm4] at d0
        have d1 := hI2.row.cell (show p * 10 + 6 + m < 80 by omega)
        rw [pc_ser p hm4] at d1
        have f1 := hI2.row.free
        obtain ⟨rv, hrv⟩ : ∃ r, r = (N n).1 := ⟨_, rfl⟩
        obtain ⟨sv, hsv⟩ : ∃ r, r = (N n).2.1 := ⟨_, rfl⟩
        rw [← hrv] at c0
        rw [← hsv] at c1
        have HI2 := Lib.hid hI2
        have HN := Lib.hid (And.intro hn (And.intro hrv hsv))
        clear hI2 hp hm0 hrv hsv c2
        rw [← HN.out.1]
        clear hn
        have HS1 := Lib.hid (show W.drew.cell? ⟨b, 9 + n * 3, none⟩ = some (.int .i64 rv) ∧ W.drew.cell? ⟨b, 9 + n * 3 + 1, none⟩ = some (.int .i64 sv) from ⟨c0, c1⟩)
        have HS2 := Lib.hid (show (W.drew.setCell ⟨w.heap.size + 1, p * 10 + 2 + m, none⟩ (.int .i64 rv)).cell? ⟨b, 9 + n * 3, none⟩ = some (.int .i64 rv) ∧ (W.drew.setCell ⟨w.heap.size + 1, p * 10 + 2 + m, none⟩ (.int .i64 rv)).cell? ⟨b, 9 + n * 3 + 1, none⟩ = some (.int .i64 sv) from
          ⟨(World.cell?_setCell_far _ _ _ _ (by simp; omega)).trans c0, (World.cell?_setCell_far _ _ _ _ (by simp; omega)).trans c1⟩)
        have HS3 := Lib.hid (show ((W.drew.setCell ⟨w.heap.size + 1, p * 10 + 2 + m, none⟩ (.int .i64 rv)).setCell ⟨w.heap.size + 1, p * 10 + 6 + m, none⟩ (.int .i64 sv)).cell? ⟨b, 9 + n * 3, none⟩ = some (.int .i64 rv) ∧ ((W.drew.setCell ⟨w.heap.size + 1, p * 10 + 2 + m, none⟩ (.int .i64 rv)).setCell ⟨w.heap.size + 1, p * 10 + 6 + m, none⟩ (.int .i64 sv)).cell? ⟨b, 9 + n * 3 + 1, none⟩ = some (.int .i64 sv) from
          ⟨(World.cell?_setCell_far _ _ _ _ (by simp; omega)).trans HS2.out.1, (World.cell?_setCell_far _ _ _ _ (by simp; omega)).trans HS2.out.2⟩)
        gi_wp2
        refine wpIn_region_of_any (by kernel_rfl) (by kernel_rfl) ?_
        refine wpAny_of_held (S := fun W2 => W2.cell? ⟨b, 9 + n * 3, none⟩ = some (.int .i64 rv) ∧ W2.cell? ⟨b, 9 + n * 3 + 1, none⟩ = some (.int .i64 sv)) _ _ _ _ ?_
        change wpAnyH _ _ _ _ _ 22 #[false, false, false, false, false, false, false, false, false, false, false, false, false, false, false, false, false, false, false, false, false, false] { tmps := #[.pointer (some ⟨b, 0, none⟩), undef, .pointer (some ⟨w.heap.size, 0, none⟩), .pointer (some ⟨w.heap.size + 1, 0, none⟩), u4, .int .i64 n, .pointer (some ⟨b, 9 + n * 3, none⟩), .pointer (some ⟨w.heap.size + 1, p * 10, none⟩), .pointer (some ⟨b, 0, none⟩), .bool false, undef, .pointer (some ⟨b, 0, none⟩), .pointer (some ⟨b, 0, none⟩), .pointer (some ⟨b, 8, none⟩), .int .i64 k, .int .i64 k, .bool false, u17, u18, u19, u20, u21, u22, u23, u24, u25, u26, u27, u28, u29, u30, u31, u32, u33, u34, u35, u36, u37, .pointer (some ⟨b, 0, none⟩), .func (.func 28) #[] #[.pointer (some ⟨wr.heap.size, 0, none⟩)], .int .i64 n, .pointer (some ⟨b, 9 + n * 3, none⟩), .int .i64 n, .int .i64 p, .pointer (some ⟨w.heap.size + 1, p * 10, none⟩), undef, undef, undef, undef, undef, undef, undef, undef, undef, undef, undef, undef, undef, undef, undef, undef, undef, undef, undef, undef, undef], defers := [] } W.drew
        refine wpAnyH_take (i := 0) (v := .pointer (some ⟨w.heap.size + 1, p * 10, none⟩)) (fuel := 21) rfl (by kernel_rfl) (by kernel_rfl) (by kernel_rfl) (fun _ _ _ h => h) (.inl ⟨rfl, fun W2 hS => (by first | rfl | (simp [go_sem, Act.eval, hS.1, hS.2, hd, hm, hwp, hwk, Try.underlying29]; done) | (go_simp; done) | go_simp)⟩) HS1.out ?_
        change wpAnyH _ _ _ _ _ 21 #[true, false, false, false, false, false, false, false, false, false, false, false, false, false, false, false, false, false, false, false, false, false] { tmps := #[.pointer (some ⟨b, 0, none⟩), undef, .pointer (some ⟨w.heap.size, 0, none⟩), .pointer (some ⟨w.heap.size + 1, 0, none⟩), u4, .int .i64 n, .pointer (some ⟨b, 9 + n * 3, none⟩), .pointer (some ⟨w.heap.size + 1, p * 10, none⟩), .pointer (some ⟨b, 0, none⟩), .bool false, undef, .pointer (some ⟨b, 0, none⟩), .pointer (some ⟨b, 0, none⟩), .pointer (some ⟨b, 8, none⟩), .int .i64 k, .int .i64 k, .bool false, u17, u18, u19, u20, u21, u22, u23, u24, u25, u26, u27, u28, u29, u30, u31, u32, u33, u34, u35, u36, u37, .pointer (some ⟨b, 0, none⟩), .func (.func 28) #[] #[.pointer (some ⟨wr.heap.size, 0, none⟩)], .int .i64 n, .pointer (some ⟨b, 9 + n * 3, none⟩), .int .i64 n, .int .i64 p, .pointer (some ⟨w.heap.size + 1, p * 10, none⟩), .pointer (some ⟨w.heap.size + 1, p * 10, none⟩), undef, undef, undef, undef, undef, undef, undef, undef, undef, undef, undef, undef, undef, undef, undef, undef, undef, undef, undef, undef], defers := [] } W.drew
        refine wpAnyH_take (i := 1) (v := .int .i64 n) (fuel := 20) rfl (by kernel_rfl) (by kernel_rfl) (by kernel_rfl) (fun _ _ _ h => h) (.inl ⟨rfl, fun W2 hS => (by first | rfl | (simp [go_sem, Act.eval, hS.1, hS.2, hd, hm, hwp, hwk, Try.underlying29]; done) | (go_simp; done) | go_simp)⟩) HS1.out ?_
        change wpAnyH _ _ _ _ _ 20 #[true, true, false, false, false, false, false, false, false, false, false, false, false, false, false, false, false, false, false, false, false, false] { tmps := #[.pointer (some ⟨b, 0, none⟩), undef, .pointer (some ⟨w.heap.size, 0, none⟩), .pointer (some ⟨w.heap.size + 1, 0, none⟩), u4, .int .i64 n, .pointer (some ⟨b, 9 + n * 3, none⟩), .pointer (some ⟨w.heap.size + 1, p * 10, none⟩), .pointer (some ⟨b, 0, none⟩), .bool false, undef, .pointer (some ⟨b, 0, none⟩), .pointer (some ⟨b, 0, none⟩), .pointer (some ⟨b, 8, none⟩), .int .i64 k, .int .i64 k, .bool false, u17, u18, u19, u20, u21, u22, u23, u24, u25, u26, u27, u28, u29, u30, u31, u32, u33, u34, u35, u36, u37, .pointer (some ⟨b, 0, none⟩), .func (.func 28) #[] #[.pointer (some ⟨wr.heap.size, 0, none⟩)], .int .i64 n, .pointer (some ⟨b, 9 + n * 3, none⟩), .int .i64 n, .int .i64 p, .pointer (some ⟨w.heap.size + 1, p * 10, none⟩), .pointer (some ⟨w.heap.size + 1, p * 10, none⟩), .int .i64 n, undef, undef, undef, undef, undef, undef, undef, undef, undef, undef, undef, undef, undef, undef, undef, undef, undef, undef, undef], defers := [] } W.drew
        refine wpAnyH_take (i := 2) (v := .int .i64 m) (fuel := 19) rfl (by kernel_rfl) (by kernel_rfl) (by kernel_rfl) (fun _ _ _ h => h) (.inl ⟨rfl, fun W2 hS => (by first | rfl | (simp [go_sem, Act.eval, hS.1, hS.2, hd, hm, hwp, hwk, Try.underlying29]; done) | (go_simp; done) | go_simp)⟩) HS1.out ?_
        change wpAnyH _ _ _ _ _ 19 #[true, true, true, false, false, false, false, false, false, false, false, false, false, false, false, false, false, false, false, false, false, false] { tmps := #[.pointer (some ⟨b, 0, none⟩), undef, .pointer (some ⟨w.heap.size, 0, none⟩), .pointer (some ⟨w.heap.size + 1, 0, none⟩), u4, .int .i64 n, .pointer (some ⟨b, 9 + n * 3, none⟩), .pointer (some ⟨w.heap.size + 1, p * 10, none⟩), .pointer (some ⟨b, 0, none⟩), .bool false, undef, .pointer (some ⟨b, 0, none⟩), .pointer (some ⟨b, 0, none⟩), .pointer (some ⟨b, 8, none⟩), .int .i64 k, .int .i64 k, .bool false, u17, u18, u19, u20, u21, u22, u23, u24, u25, u26, u27, u28, u29, u30, u31, u32, u33, u34, u35, u36, u37, .pointer (some ⟨b, 0, none⟩), .func (.func 28) #[] #[.pointer (some ⟨wr.heap.size, 0, none⟩)], .int .i64 n, .pointer (some ⟨b, 9 + n * 3, none⟩), .int .i64 n, .int .i64 p, .pointer (some ⟨w.heap.size + 1, p * 10, none⟩), .pointer (some ⟨w.heap.size + 1, p * 10, none⟩), .int .i64 n, .int .i64 m, undef, undef, undef, undef, undef, undef, undef, undef, undef, undef, undef, undef, undef, undef, undef, undef, undef, undef], defers := [] } W.drew
        refine wpAnyH_take (i := 3) (v := .pointer (some ⟨w.heap.size + 1, p * 10, none⟩)) (fuel := 18) rfl (by kernel_rfl) (by kernel_rfl) (by kernel_rfl) (fun _ _ _ h => h) (.inl ⟨rfl, fun W2 hS => (by first | rfl | (simp [go_sem, Act.eval, hS.1, hS.2, hd, hm, hwp, hwk, Try.underlying29]; done) | (go_simp; done) | go_simp)⟩) HS1.out ?_
        change wpAnyH _ _ _ _ _ 18 #[true, true, true, true, false, false, false, false, false, false, false, false, false, false, false, false, false, false, false, false, false, false] { tmps := #[.pointer (some ⟨b, 0, none⟩), undef, .pointer (some ⟨w.heap.size, 0, none⟩), .pointer (some ⟨w.heap.size + 1, 0, none⟩), u4, .int .i64 n, .pointer (some ⟨b, 9 + n * 3, none⟩), .pointer (some ⟨w.heap.size + 1, p * 10, none⟩), .pointer (some ⟨b, 0, none⟩), .bool false, undef, .pointer (some ⟨b, 0, none⟩), .pointer (some ⟨b, 0, none⟩), .pointer (some ⟨b, 8, none⟩), .int .i64 k, .int .i64 k, .bool false, u17, u18, u19, u20, u21, u22, u23, u24, u25, u26, u27, u28, u29, u30, u31, u32, u33, u34, u35, u36, u37, .pointer (some ⟨b, 0, none⟩), .func (.func 28) #[] #[.pointer (some ⟨wr.heap.size, 0, none⟩)], .int .i64 n, .pointer (some ⟨b, 9 + n * 3, none⟩), .int .i64 n, .int .i64 p, .pointer (some ⟨w.heap.size + 1, p * 10, none⟩), .pointer (some ⟨w.heap.size + 1, p * 10, none⟩), .int .i64 n, .int .i64 m, .pointer (some ⟨w.heap.size + 1, p * 10, none⟩), undef, undef, undef, undef, undef, undef, undef, undef, undef, undef, undef, undef, undef, undef, undef, undef, undef], defers := [] } W.drew
        refine wpAnyH_take (i := 4) (v := .int .i64 n) (fuel := 17) rfl (by kernel_rfl) (by kernel_rfl) (by kernel_rfl) (fun _ _ _ h => h) (.inl ⟨rfl, fun W2 hS => (by first | rfl | (simp [go_sem, Act.eval, hS.1, hS.2, hd, hm, hwp, hwk, Try.underlying29]; done) | (go_simp; done) | go_simp)⟩) HS1.out ?_
        change wpAnyH _ _ _ _ _ 17 #[true, true, true, true, true, false, false, false, false, false, false, false, false, false, false, false, false, false, false, false, false, false] { tmps := #[.pointer (some ⟨b, 0, none⟩), undef, .pointer (some ⟨w.heap.size, 0, none⟩), .pointer (some ⟨w.heap.size + 1, 0, none⟩), u4, .int .i64 n, .pointer (some ⟨b, 9 + n * 3, none⟩), .pointer (some ⟨w.heap.size + 1, p * 10, none⟩), .pointer (some ⟨b, 0, none⟩), .bool false, undef, .pointer (some ⟨b, 0, none⟩), .pointer (some ⟨b, 0, none⟩), .pointer (some ⟨b, 8, none⟩), .int .i64 k, .int .i64 k, .bool false, u17, u18, u19, u20, u21, u22, u23, u24, u25, u26, u27, u28, u29, u30, u31, u32, u33, u34, u35, u36, u37, .pointer (some ⟨b, 0, none⟩), .func (.func 28) #[] #[.pointer (some ⟨wr.heap.size, 0, none⟩)], .int .i64 n, .pointer (some ⟨b, 9 + n * 3, none⟩), .int .i64 n, .int .i64 p, .pointer (some ⟨w.heap.size + 1, p * 10, none⟩), .pointer (some ⟨w.heap.size + 1, p * 10, none⟩), .int .i64 n, .int .i64 m, .pointer (some ⟨w.heap.size + 1, p * 10, none⟩), .int .i64 n, undef, undef, undef, undef, undef, undef, undef, undef, undef, undef, undef, undef, undef, undef, undef, undef], defers := [] } W.drew
        refine wpAnyH_take (i := 5) (v := .int .i64 m) (fuel := 16) rfl (by kernel_rfl) (by kernel_rfl) (by kernel_rfl) (fun _ _ _ h => h) (.inl ⟨rfl, fun W2 hS => (by first | rfl | (simp [go_sem, Act.eval, hS.1, hS.2, hd, hm, hwp, hwk, Try.underlying29]; done) | (go_simp; done) | go_simp)⟩) HS1.out ?_
        change wpAnyH _ _ _ _ _ 16 #[true, true, true, true, true, true, false, false, false, false, false, false, false, false, false, false, false, false, false, false, false, false] { tmps := #[.pointer (some ⟨b, 0, none⟩), undef, .pointer (some ⟨w.heap.size, 0, none⟩), .pointer (some ⟨w.heap.size + 1, 0, none⟩), u4, .int .i64 n, .pointer (some ⟨b, 9 + n * 3, none⟩), .pointer (some ⟨w.heap.size + 1, p * 10, none⟩), .pointer (some ⟨b, 0, none⟩), .bool false, undef, .pointer (some ⟨b, 0, none⟩), .pointer (some ⟨b, 0, none⟩), .pointer (some ⟨b, 8, none⟩), .int .i64 k, .int .i64 k, .bool false, u17, u18, u19, u20, u21, u22, u23, u24, u25, u26, u27, u28, u29, u30, u31, u32, u33, u34, u35, u36, u37, .pointer (some ⟨b, 0, none⟩), .func (.func 28) #[] #[.pointer (some ⟨wr.heap.size, 0, none⟩)], .int .i64 n, .pointer (some ⟨b, 9 + n * 3, none⟩), .int .i64 n, .int .i64 p, .pointer (some ⟨w.heap.size + 1, p * 10, none⟩), .pointer (some ⟨w.heap.size + 1, p * 10, none⟩), .int .i64 n, .int .i64 m, .pointer (some ⟨w.heap.size + 1, p * 10, none⟩), .int .i64 n, .int .i64 m, undef, undef, undef, undef, undef, undef, undef, undef, undef, undef, undef, undef, undef, undef, undef], defers := [] } W.drew
        refine wpAnyH_take (i := 6) (v := .pointer (some ⟨b, 9 + n * 3, none⟩)) (fuel := 15) rfl (by kernel_rfl) (by kernel_rfl) (by kernel_rfl) (fun _ _ _ h => h) (.inl ⟨rfl, fun W2 hS => (by first | rfl | (simp [go_sem, Act.eval, hS.1, hS.2, hd, hm, hwp, hwk, Try.underlying29]; done) | (go_simp; done) | go_simp)⟩) HS1.out ?_
        change wpAnyH _ _ _ _ _ 15 #[true, true, true, true, true, true, true, false, false, false, false, false, false, false, false, false, false, false, false, false, false, false] { tmps := #[.pointer (some ⟨b, 0, none⟩), undef, .pointer (some ⟨w.heap.size, 0, none⟩), .pointer (some ⟨w.heap.size + 1, 0, none⟩), u4, .int .i64 n, .pointer (some ⟨b, 9 + n * 3, none⟩), .pointer (some ⟨w.heap.size + 1, p * 10, none⟩), .pointer (some ⟨b, 0, none⟩), .bool false, undef, .pointer (some ⟨b, 0, none⟩), .pointer (some ⟨b, 0, none⟩), .pointer (some ⟨b, 8, none⟩), .int .i64 k, .int .i64 k, .bool false, u17, u18, u19, u20, u21, u22, u23, u24, u25, u26, u27, u28, u29, u30, u31, u32, u33, u34, u35, u36, u37, .pointer (some ⟨b, 0, none⟩), .func (.func 28) #[] #[.pointer (some ⟨wr.heap.size, 0, none⟩)], .int .i64 n, .pointer (some ⟨b, 9 + n * 3, none⟩), .int .i64 n, .int .i64 p, .pointer (some ⟨w.heap.size + 1, p * 10, none⟩), .pointer (some ⟨w.heap.size + 1, p * 10, none⟩), .int .i64 n, .int .i64 m, .pointer (some ⟨w.heap.size + 1, p * 10, none⟩), .int .i64 n, .int .i64 m, .pointer (some ⟨b, 9 + n * 3, none⟩), undef, undef, undef, undef, undef, undef, undef, undef, undef, undef, undef, undef, undef, undef], defers := [] } W.drew
        refine wpAnyH_take (i := 7) (v := .pointer (some ⟨b, 9 + n * 3, none⟩)) (fuel := 14) rfl (by kernel_rfl) (by kernel_rfl) (by kernel_rfl) (fun _ _ _ h => h) (.inl ⟨rfl, fun W2 hS => (by first | rfl | (simp [go_sem, Act.eval, hS.1, hS.2, hd, hm, hwp, hwk, Try.underlying29]; done) | (go_simp; done) | go_simp)⟩) HS1.out ?_
        change wpAnyH _ _ _ _ _ 14 #[true, true, true, true, true, true, true, true, false, false, false, false, false, false, false, false, false, false, false, false, false, false] { tmps := #[.pointer (some ⟨b, 0, none⟩), undef, .pointer (some ⟨w.heap.size, 0, none⟩), .pointer (some ⟨w.heap.size + 1, 0, none⟩), u4, .int .i64 n, .pointer (some ⟨b, 9 + n * 3, none⟩), .pointer (some ⟨w.heap.size + 1, p * 10, none⟩), .pointer (some ⟨b, 0, none⟩), .bool false, undef, .pointer (some ⟨b, 0, none⟩), .pointer (some ⟨b, 0, none⟩), .pointer (some ⟨b, 8, none⟩), .int .i64 k, .int .i64 k, .bool false, u17, u18, u19, u20, u21, u22, u23, u24, u25, u26, u27, u28, u29, u30, u31, u32, u33, u34, u35, u36, u37, .pointer (some ⟨b, 0, none⟩), .func (.func 28) #[] #[.pointer (some ⟨wr.heap.size, 0, none⟩)], .int .i64 n, .pointer (some ⟨b, 9 + n * 3, none⟩), .int .i64 n, .int .i64 p, .pointer (some ⟨w.heap.size + 1, p * 10, none⟩), .pointer (some ⟨w.heap.size + 1, p * 10, none⟩), .int .i64 n, .int .i64 m, .pointer (some ⟨w.heap.size + 1, p * 10, none⟩), .int .i64 n, .int .i64 m, .pointer (some ⟨b, 9 + n * 3, none⟩), .pointer (some ⟨b, 9 + n * 3, none⟩), undef, undef, undef, undef, undef, undef, undef, undef, undef, undef, undef, undef, undef], defers := [] } W.drew
        refine wpAnyH_take (i := 8) (v := .pointer (some ⟨b, 9 + n * 3, none⟩)) (fuel := 13) rfl (by kernel_rfl) (by kernel_rfl) (by kernel_rfl) (fun _ _ _ h => h) (.inl ⟨rfl, fun W2 hS => (by first | rfl | (simp [go_sem, Act.eval, hS.1, hS.2, hd, hm, hwp, hwk, Try.underlying29]; done) | (go_simp; done) | go_simp)⟩) HS1.out ?_
        change wpAnyH _ _ _ _ _ 13 #[true, true, true, true, true, true, true, true, true, false, false, false, false, false, false, false, false, false, false, false, false, false] { tmps := #[.pointer (some ⟨b, 0, none⟩), undef, .pointer (some ⟨w.heap.size, 0, none⟩), .pointer (some ⟨w.heap.size + 1, 0, none⟩), u4, .int .i64 n, .pointer (some ⟨b, 9 + n * 3, none⟩), .pointer (some ⟨w.heap.size + 1, p * 10, none⟩), .pointer (some ⟨b, 0, none⟩), .bool false, undef, .pointer (some ⟨b, 0, none⟩), .pointer (some ⟨b, 0, none⟩), .pointer (some ⟨b, 8, none⟩), .int .i64 k, .int .i64 k, .bool false, u17, u18, u19, u20, u21, u22, u23, u24, u25, u26, u27, u28, u29, u30, u31, u32, u33, u34, u35, u36, u37, .pointer (some ⟨b, 0, none⟩), .func (.func 28) #[] #[.pointer (some ⟨wr.heap.size, 0, none⟩)], .int .i64 n, .pointer (some ⟨b, 9 + n * 3, none⟩), .int .i64 n, .int .i64 p, .pointer (some ⟨w.heap.size + 1, p * 10, none⟩), .pointer (some ⟨w.heap.size + 1, p * 10, none⟩), .int .i64 n, .int .i64 m, .pointer (some ⟨w.heap.size + 1, p * 10, none⟩), .int .i64 n, .int .i64 m, .pointer (some ⟨b, 9 + n * 3, none⟩), .pointer (some ⟨b, 9 + n * 3, none⟩), .pointer (some ⟨b, 9 + n * 3, none⟩), undef, undef, undef, undef, undef, undef, undef, undef, undef, undef, undef, undef], defers := [] } W.drew
        refine wpAnyH_take (i := 9) (v := .int .i64 rv) (fuel := 12) rfl (by kernel_rfl) (by kernel_rfl) (by kernel_rfl) (fun _ _ _ h => h) (.inl ⟨rfl, fun W2 hS => (by first | rfl | (simp [go_sem, Act.eval, hS.1, hS.2, hd, hm, hwp, hwk, Try.underlying29]; done) | (go_simp; done) | go_simp)⟩) HS1.out ?_
        change wpAnyH _ _ _ _ _ 12 #[true, true, true, true, true, true, true, true, true, true, false, false, false, false, false, false, false, false, false, false, false, false] { tmps := #[.pointer (some ⟨b, 0, none⟩), undef, .pointer (some ⟨w.heap.size, 0, none⟩), .pointer (some ⟨w.heap.size + 1, 0, none⟩), u4, .int .i64 n, .pointer (some ⟨b, 9 + n * 3, none⟩), .pointer (some ⟨w.heap.size + 1, p * 10, none⟩), .pointer (some ⟨b, 0, none⟩), .bool false, undef, .pointer (some ⟨b, 0, none⟩), .pointer (some ⟨b, 0, none⟩), .pointer (some ⟨b, 8, none⟩), .int .i64 k, .int .i64 k, .bool false, u17, u18, u19, u20, u21, u22, u23, u24, u25, u26, u27, u28, u29, u30, u31, u32, u33, u34, u35, u36, u37, .pointer (some ⟨b, 0, none⟩), .func (.func 28) #[] #[.pointer (some ⟨wr.heap.size, 0, none⟩)], .int .i64 n, .pointer (some ⟨b, 9 + n * 3, none⟩), .int .i64 n, .int .i64 p, .pointer (some ⟨w.heap.size + 1, p * 10, none⟩), .pointer (some ⟨w.heap.size + 1, p * 10, none⟩), .int .i64 n, .int .i64 m, .pointer (some ⟨w.heap.size + 1, p * 10, none⟩), .int .i64 n, .int .i64 m, .pointer (some ⟨b, 9 + n * 3, none⟩), .pointer (some ⟨b, 9 + n * 3, none⟩), .pointer (some ⟨b, 9 + n * 3, none⟩), .int .i64 rv, undef, undef, undef, undef, undef, undef, undef, undef, undef, undef, undef], defers := [] } W.drew
        refine wpAnyH_take (i := 10) (v := .pointer (some ⟨b, 9 + n * 3, none⟩)) (fuel := 11) rfl (by kernel_rfl) (by kernel_rfl) (by kernel_rfl) (fun _ _ _ h => h) (.inl ⟨rfl, fun W2 hS => (by first | rfl | (simp [go_sem, Act.eval, hS.1, hS.2, hd, hm, hwp, hwk, Try.underlying29]; done) | (go_simp; done) | go_simp)⟩) HS1.out ?_
        change wpAnyH _ _ _ _ _ 11 #[true, true, true, true, true, true, true, true, true, true, true, false, false, false, false, false, false, false, false, false, false, false] { tmps := #[.pointer (some ⟨b, 0, none⟩), undef, .pointer (some ⟨w.heap.size, 0, none⟩), .pointer (some ⟨w.heap.size + 1, 0, none⟩), u4, .int .i64 n, .pointer (some ⟨b, 9 + n * 3, none⟩), .pointer (some ⟨w.heap.size + 1, p * 10, none⟩), .pointer (some ⟨b, 0, none⟩), .bool false, undef, .pointer (some ⟨b, 0, none⟩), .pointer (some ⟨b, 0, none⟩), .pointer (some ⟨b, 8, none⟩), .int .i64 k, .int .i64 k, .bool false, u17, u18, u19, u20, u21, u22, u23, u24, u25, u26, u27, u28, u29, u30, u31, u32, u33, u34, u35, u36, u37, .pointer (some ⟨b, 0, none⟩), .func (.func 28) #[] #[.pointer (some ⟨wr.heap.size, 0, none⟩)], .int .i64 n, .pointer (some ⟨b, 9 + n * 3, none⟩), .int .i64 n, .int .i64 p, .pointer (some ⟨w.heap.size + 1, p * 10, none⟩), .pointer (some ⟨w.heap.size + 1, p * 10, none⟩), .int .i64 n, .int .i64 m, .pointer (some ⟨w.heap.size + 1, p * 10, none⟩), .int .i64 n, .int .i64 m, .pointer (some ⟨b, 9 + n * 3, none⟩), .pointer (some ⟨b, 9 + n * 3, none⟩), .pointer (some ⟨b, 9 + n * 3, none⟩), .int .i64 rv, .pointer (some ⟨b, 9 + n * 3, none⟩), undef, undef, undef, undef, undef, undef, undef, undef, undef, undef], defers := [] } W.drew
        refine wpAnyH_take (i := 11) (v := .pointer (some ⟨b, 9 + n * 3, none⟩)) (fuel := 10) rfl (by kernel_rfl) (by kernel_rfl) (by kernel_rfl) (fun _ _ _ h => h) (.inl ⟨rfl, fun W2 hS => (by first | rfl | (simp [go_sem, Act.eval, hS.1, hS.2, hd, hm, hwp, hwk, Try.underlying29]; done) | (go_simp; done) | go_simp)⟩) HS1.out ?_
        change wpAnyH _ _ _ _ _ 10 #[true, true, true, true, true, true, true, true, true, true, true, true, false, false, false, false, false, false, false, false, false, false] { tmps := #[.pointer (some ⟨b, 0, none⟩), undef, .pointer (some ⟨w.heap.size, 0, none⟩), .pointer (some ⟨w.heap.size + 1, 0, none⟩), u4, .int .i64 n, .pointer (some ⟨b, 9 + n * 3, none⟩), .pointer (some ⟨w.heap.size + 1, p * 10, none⟩), .pointer (some ⟨b, 0, none⟩), .bool false, undef, .pointer (some ⟨b, 0, none⟩), .pointer (some ⟨b, 0, none⟩), .pointer (some ⟨b, 8, none⟩), .int .i64 k, .int .i64 k, .bool false, u17, u18, u19, u20, u21, u22, u23, u24, u25, u26, u27, u28, u29, u30, u31, u32, u33, u34, u35, u36, u37, .pointer (some ⟨b, 0, none⟩), .func (.func 28) #[] #[.pointer (some ⟨wr.heap.size, 0, none⟩)], .int .i64 n, .pointer (some ⟨b, 9 + n * 3, none⟩), .int .i64 n, .int .i64 p, .pointer (some ⟨w.heap.size + 1, p * 10, none⟩), .pointer (some ⟨w.heap.size + 1, p * 10, none⟩), .int .i64 n, .int .i64 m, .pointer (some ⟨w.heap.size + 1, p * 10, none⟩), .int .i64 n, .int .i64 m, .pointer (some ⟨b, 9 + n * 3, none⟩), .pointer (some ⟨b, 9 + n * 3, none⟩), .pointer (some ⟨b, 9 + n * 3, none⟩), .int .i64 rv, .pointer (some ⟨b, 9 + n * 3, none⟩), .pointer (some ⟨b, 9 + n * 3, none⟩), undef, undef, undef, undef, undef, undef, undef, undef, undef], defers := [] } W.drew
        refine wpAnyH_take (i := 12) (v := .pointer (some ⟨b, 9 + n * 3 + 1, none⟩)) (fuel := 9) rfl (by kernel_rfl) (by kernel_rfl) (by kernel_rfl) (fun _ _ _ h => h) (.inl ⟨rfl, fun W2 hS => (by first | rfl | (simp [go_sem, Act.eval, hS.1, hS.2, hd, hm, hwp, hwk, Try.underlying29]; done) | (go_simp; done) | go_simp)⟩) HS1.out ?_
        change wpAnyH _ _ _ _ _ 9 #[true, true, true, true, true, true, true, true, true, true, true, true, true, false, false, false, false, false, false, false, false, false] { tmps := #[.pointer (some ⟨b, 0, none⟩), undef, .pointer (some ⟨w.heap.size, 0, none⟩), .pointer (some ⟨w.heap.size + 1, 0, none⟩), u4, .int .i64 n, .pointer (some ⟨b, 9 + n * 3, none⟩), .pointer (some ⟨w.heap.size + 1, p * 10, none⟩), .pointer (some ⟨b, 0, none⟩), .bool false, undef, .pointer (some ⟨b, 0, none⟩), .pointer (some ⟨b, 0, none⟩), .pointer (some ⟨b, 8, none⟩), .int .i64 k, .int .i64 k, .bool false, u17, u18, u19, u20, u21, u22, u23, u24, u25, u26, u27, u28, u29, u30, u31, u32, u33, u34, u35, u36, u37, .pointer (some ⟨b, 0, none⟩), .func (.func 28) #[] #[.pointer (some ⟨wr.heap.size, 0, none⟩)], .int .i64 n, .pointer (some ⟨b, 9 + n * 3, none⟩), .int .i64 n, .int .i64 p, .pointer (some ⟨w.heap.size + 1, p * 10, none⟩), .pointer (some ⟨w.heap.size + 1, p * 10, none⟩), .int .i64 n, .int .i64 m, .pointer (some ⟨w.heap.size + 1, p * 10, none⟩), .int .i64 n, .int .i64 m, .pointer (some ⟨b, 9 + n * 3, none⟩), .pointer (some ⟨b, 9 + n * 3, none⟩), .pointer (some ⟨b, 9 + n * 3, none⟩), .int .i64 rv, .pointer (some ⟨b, 9 + n * 3, none⟩), .pointer (some ⟨b, 9 + n * 3, none⟩), .pointer (some ⟨b, 9 + n * 3 + 1, none⟩), undef, undef, undef, undef, undef, undef, undef, undef], defers := [] } W.drew
        refine wpAnyH_take (i := 13) (v := .int .i64 sv) (fuel := 8) rfl (by kernel_rfl) (by kernel_rfl) (by kernel_rfl) (fun _ _ _ h => h) (.inl ⟨rfl, fun W2 hS => (by first | rfl | (simp [go_sem, Act.eval, hS.1, hS.2, hd, hm, hwp, hwk, Try.underlying29]; done) | (go_simp; done) | go_simp)⟩) HS1.out ?_
        change wpAnyH _ _ _ _ _ 8 #[true, true, true, true, true, true, true, true, true, true, true, true, true, true, false, false, false, false, false, false, false, false] { tmps := #[.pointer (some ⟨b, 0, none⟩), undef, .pointer (some ⟨w.heap.size, 0, none⟩), .pointer (some ⟨w.heap.size + 1, 0, none⟩), u4, .int .i64 n, .pointer (some ⟨b, 9 + n * 3, none⟩), .pointer (some ⟨w.heap.size + 1, p * 10, none⟩), .pointer (some ⟨b, 0, none⟩), .bool false, undef, .pointer (some ⟨b, 0, none⟩), .pointer (some ⟨b, 0, none⟩), .pointer (some ⟨b, 8, none⟩), .int .i64 k, .int .i64 k, .bool false, u17, u18, u19, u20, u21, u22, u23, u24, u25, u26, u27, u28, u29, u30, u31, u32, u33, u34, u35, u36, u37, .pointer (some ⟨b, 0, none⟩), .func (.func 28) #[] #[.pointer (some ⟨wr.heap.size, 0, none⟩)], .int .i64 n, .pointer (some ⟨b, 9 + n * 3, none⟩), .int .i64 n, .int .i64 p, .pointer (some ⟨w.heap.size + 1, p * 10, none⟩), .pointer (some ⟨w.heap.size + 1, p * 10, none⟩), .int .i64 n, .int .i64 m, .pointer (some ⟨w.heap.size + 1, p * 10, none⟩), .int .i64 n, .int .i64 m, .pointer (some ⟨b, 9 + n * 3, none⟩), .pointer (some ⟨b, 9 + n * 3, none⟩), .pointer (some ⟨b, 9 + n * 3, none⟩), .int .i64 rv, .pointer (some ⟨b, 9 + n * 3, none⟩), .pointer (some ⟨b, 9 + n * 3, none⟩), .pointer (some ⟨b, 9 + n * 3 + 1, none⟩), .int .i64 sv, undef, undef, undef, undef, undef, undef, undef], defers := [] } W.drew
        refine wpAnyH_take (i := 14) (v := .pointer (some ⟨w.heap.size + 1, p * 10, none⟩)) (fuel := 7) rfl (by kernel_rfl) (by kernel_rfl) (by kernel_rfl) (fun _ _ _ h => h) (.inl ⟨rfl, fun W2 hS => (by first | rfl | (simp [go_sem, Act.eval, hS.1, hS.2, hd, hm, hwp, hwk, Try.underlying29]; done) | (go_simp; done) | go_simp)⟩) HS1.out ?_
        change wpAnyH _ _ _ _ _ 7 #[true, true, true, true, true, true, true, true, true, true, true, true, true, true, true, false, false, false, false, false, false, false] { tmps := #[.pointer (some ⟨b, 0, none⟩), undef, .pointer (some ⟨w.heap.size, 0, none⟩), .pointer (some ⟨w.heap.size + 1, 0, none⟩), u4, .int .i64 n, .pointer (some ⟨b, 9 + n * 3, none⟩), .pointer (some ⟨w.heap.size + 1, p * 10, none⟩), .pointer (some ⟨b, 0, none⟩), .bool false, undef, .pointer (some ⟨b, 0, none⟩), .pointer (some ⟨b, 0, none⟩), .pointer (some ⟨b, 8, none⟩), .int .i64 k, .int .i64 k, .bool false, u17, u18, u19, u20, u21, u22, u23, u24, u25, u26, u27, u28, u29, u30, u31, u32, u33, u34, u35, u36, u37, .pointer (some ⟨b, 0, none⟩), .func (.func 28) #[] #[.pointer (some ⟨wr.heap.size, 0, none⟩)], .int .i64 n, .pointer (some ⟨b, 9 + n * 3, none⟩), .int .i64 n, .int .i64 p, .pointer (some ⟨w.heap.size + 1, p * 10, none⟩), .pointer (some ⟨w.heap.size + 1, p * 10, none⟩), .int .i64 n, .int .i64 m, .pointer (some ⟨w.heap.size + 1, p * 10, none⟩), .int .i64 n, .int .i64 m, .pointer (some ⟨b, 9 + n * 3, none⟩), .pointer (some ⟨b, 9 + n * 3, none⟩), .pointer (some ⟨b, 9 + n * 3, none⟩), .int .i64 rv, .pointer (some ⟨b, 9 + n * 3, none⟩), .pointer (some ⟨b, 9 + n * 3, none⟩), .pointer (some ⟨b, 9 + n * 3 + 1, none⟩), .int .i64 sv, .pointer (some ⟨w.heap.size + 1, p * 10, none⟩), undef, undef, undef, undef, undef, undef], defers := [] } W.drew
        refine wpAnyH_take (i := 15) (v := .pointer (some ⟨w.heap.size + 1, p * 10 + 2, none⟩)) (fuel := 6) rfl (by kernel_rfl) (by kernel_rfl) (by kernel_rfl) (fun _ _ _ h => h) (.inl ⟨rfl, fun W2 hS => (by first | rfl | (simp [go_sem, Act.eval, hS.1, hS.2, hd, hm, hwp, hwk, Try.underlying29]; done) | (go_simp; done) | go_simp)⟩) HS1.out ?_
        change wpAnyH _ _ _ _ _ 6 #[true, true, true, true, true, true, true, true, true, true, true, true, true, true, true, true, false, false, false, false, false, false] { tmps := #[.pointer (some ⟨b, 0, none⟩), undef, .pointer (some ⟨w.heap.size, 0, none⟩), .pointer (some ⟨w.heap.size + 1, 0, none⟩), u4, .int .i64 n, .pointer (some ⟨b, 9 + n * 3, none⟩), .pointer (some ⟨w.heap.size + 1, p * 10, none⟩), .pointer (some ⟨b, 0, none⟩), .bool false, undef, .pointer (some ⟨b, 0, none⟩), .pointer (some ⟨b, 0, none⟩), .pointer (some ⟨b, 8, none⟩), .int .i64 k, .int .i64 k, .bool false, u17, u18, u19, u20, u21, u22, u23, u24, u25, u26, u27, u28, u29, u30, u31, u32, u33, u34, u35, u36, u37, .pointer (some ⟨b, 0, none⟩), .func (.func 28) #[] #[.pointer (some ⟨wr.heap.size, 0, none⟩)], .int .i64 n, .pointer (some ⟨b, 9 + n * 3, none⟩), .int .i64 n, .int .i64 p, .pointer (some ⟨w.heap.size + 1, p * 10, none⟩), .pointer (some ⟨w.heap.size + 1, p * 10, none⟩), .int .i64 n, .int .i64 m, .pointer (some ⟨w.heap.size + 1, p * 10, none⟩), .int .i64 n, .int .i64 m, .pointer (some ⟨b, 9 + n * 3, none⟩), .pointer (some ⟨b, 9 + n * 3, none⟩), .pointer (some ⟨b, 9 + n * 3, none⟩), .int .i64 rv, .pointer (some ⟨b, 9 + n * 3, none⟩), .pointer (some ⟨b, 9 + n * 3, none⟩), .pointer (some ⟨b, 9 + n * 3 + 1, none⟩), .int .i64 sv, .pointer (some ⟨w.heap.size + 1, p * 10, none⟩), .pointer (some ⟨w.heap.size + 1, p * 10 + 2, none⟩), undef, undef, undef, undef, undef], defers := [] } W.drew
        refine wpAnyH_take (i := 16) (v := .pointer (some ⟨w.heap.size + 1, p * 10 + 2 + m, none⟩)) (fuel := 5) rfl (by kernel_rfl) (by kernel_rfl) (by kernel_rfl) (fun _ _ _ h => h) (.inl ⟨rfl, fun W2 hS => (by first | rfl | (simp [go_sem, Act.eval, hS.1, hS.2, hd, hm, hwp, hwk, Try.underlying29]; done) | (go_simp; done) | go_simp)⟩) HS1.out ?_
        change wpAnyH _ _ _ _ _ 5 #[true, true, true, true, true, true, true, true, true, true, true, true, true, true, true, true, true, false, false, false, false, false] { tmps := #[.pointer (some ⟨b, 0, none⟩), undef, .pointer (some ⟨w.heap.size, 0, none⟩), .pointer (some ⟨w.heap.size + 1, 0, none⟩), u4, .int .i64 n, .pointer (some ⟨b, 9 + n * 3, none⟩), .pointer (some ⟨w.heap.size + 1, p * 10, none⟩), .pointer (some ⟨b, 0, none⟩), .bool false, undef, .pointer (some ⟨b, 0, none⟩), .pointer (some ⟨b, 0, none⟩), .pointer (some ⟨b, 8, none⟩), .int .i64 k, .int .i64 k, .bool false, u17, u18, u19, u20, u21, u22, u23, u24, u25, u26, u27, u28, u29, u30, u31, u32, u33, u34, u35, u36, u37, .pointer (some ⟨b, 0, none⟩), .func (.func 28) #[] #[.pointer (some ⟨wr.heap.size, 0, none⟩)], .int .i64 n, .pointer (some ⟨b, 9 + n * 3, none⟩), .int .i64 n, .int .i64 p, .pointer (some ⟨w.heap.size + 1, p * 10, none⟩), .pointer (some ⟨w.heap.size + 1, p * 10, none⟩), .int .i64 n, .int .i64 m, .pointer (some ⟨w.heap.size + 1, p * 10, none⟩), .int .i64 n, .int .i64 m, .pointer (some ⟨b, 9 + n * 3, none⟩), .pointer (some ⟨b, 9 + n * 3, none⟩), .pointer (some ⟨b, 9 + n * 3, none⟩), .int .i64 rv, .pointer (some ⟨b, 9 + n * 3, none⟩), .pointer (some ⟨b, 9 + n * 3, none⟩), .pointer (some ⟨b, 9 + n * 3 + 1, none⟩), .int .i64 sv, .pointer (some ⟨w.heap.size + 1, p * 10, none⟩), .pointer (some ⟨w.heap.size + 1, p * 10 + 2, none⟩), .pointer (some ⟨w.heap.size + 1, p * 10 + 2 + m, none⟩), undef, undef, undef, undef], defers := [] } W.drew
        refine wpAnyH_take (i := 18) (v := .pointer (some ⟨w.heap.size + 1, p * 10, none⟩)) (fuel := 4) rfl (by kernel_rfl) (by kernel_rfl) (by kernel_rfl) (fun _ _ _ h => h) (.inl ⟨rfl, fun W2 hS => (by first | rfl | (simp [go_sem, Act.eval, hS.1, hS.2, hd, hm, hwp, hwk, Try.underlying29]; done) | (go_simp; done) | go_simp)⟩) HS1.out ?_
        change wpAnyH _ _ _ _ _ 4 #[true, true, true, true, true, true, true, true, true, true, true, true, true, true, true, true, true, false, true, false, false, false] { tmps := #[.pointer (some ⟨b, 0, none⟩), undef, .pointer (some ⟨w.heap.size, 0, none⟩), .pointer (some ⟨w.heap.size + 1, 0, none⟩), u4, .int .i64 n, .pointer (some ⟨b, 9 + n * 3, none⟩), .pointer (some ⟨w.heap.size + 1, p * 10, none⟩), .pointer (some ⟨b, 0, none⟩), .bool false, undef, .pointer (some ⟨b, 0, none⟩), .pointer (some ⟨b, 0, none⟩), .pointer (some ⟨b, 8, none⟩), .int .i64 k, .int .i64 k, .bool false, u17, u18, u19, u20, u21, u22, u23, u24, u25, u26, u27, u28, u29, u30, u31, u32, u33, u34, u35, u36, u37, .pointer (some ⟨b, 0, none⟩), .func (.func 28) #[] #[.pointer (some ⟨wr.heap.size, 0, none⟩)], .int .i64 n, .pointer (some ⟨b, 9 + n * 3, none⟩), .int .i64 n, .int .i64 p, .pointer (some ⟨w.heap.size + 1, p * 10, none⟩), .pointer (some ⟨w.heap.size + 1, p * 10, none⟩), .int .i64 n, .int .i64 m, .pointer (some ⟨w.heap.size + 1, p * 10, none⟩), .int .i64 n, .int .i64 m, .pointer (some ⟨b, 9 + n * 3, none⟩), .pointer (some ⟨b, 9 + n * 3, none⟩), .pointer (some ⟨b, 9 + n * 3, none⟩), .int .i64 rv, .pointer (some ⟨b, 9 + n * 3, none⟩), .pointer (some ⟨b, 9 + n * 3, none⟩), .pointer (some ⟨b, 9 + n * 3 + 1, none⟩), .int .i64 sv, .pointer (some ⟨w.heap.size + 1, p * 10, none⟩), .pointer (some ⟨w.heap.size + 1, p * 10 + 2, none⟩), .pointer (some ⟨w.heap.size + 1, p * 10 + 2 + m, none⟩), .pointer (some ⟨w.heap.size + 1, p * 10, none⟩), undef, undef, undef], defers := [] } W.drew
        refine wpAnyH_take (i := 19) (v := .pointer (some ⟨w.heap.size + 1, p * 10 + 6, none⟩)) (fuel := 3) rfl (by kernel_rfl) (by kernel_rfl) (by kernel_rfl) (fun _ _ _ h => h) (.inl ⟨rfl, fun W2 hS => (by first | rfl | (simp [go_sem, Act.eval, hS.1, hS.2, hd, hm, hwp, hwk, Try.underlying29]; done) | (go_simp; done) | go_simp)⟩) HS1.out ?_
        change wpAnyH _ _ _ _ _ 3 #[true, true, true, true, true, true, true, true, true, true, true, true, true, true, true, true, true, false, true, true, false, false] { tmps := #[.pointer (some ⟨b, 0, none⟩), undef, .pointer (some ⟨w.heap.size, 0, none⟩), .pointer (some ⟨w.heap.size + 1, 0, none⟩), u4, .int .i64 n, .pointer (some ⟨b, 9 + n * 3, none⟩), .pointer (some ⟨w.heap.size + 1, p * 10, none⟩), .pointer (some ⟨b, 0, none⟩), .bool false, undef, .pointer (some ⟨b, 0, none⟩), .pointer (some ⟨b, 0, none⟩), .pointer (some ⟨b, 8, none⟩), .int .i64 k, .int .i64 k, .bool false, u17, u18, u19, u20, u21, u22, u23, u24, u25, u26, u27, u28, u29, u30, u31, u32, u33, u34, u35, u36, u37, .pointer (some ⟨b, 0, none⟩), .func (.func 28) #[] #[.pointer (some ⟨wr.heap.size, 0, none⟩)], .int .i64 n, .pointer (some ⟨b, 9 + n * 3, none⟩), .int .i64 n, .int .i64 p, .pointer (some ⟨w.heap.size + 1, p * 10, none⟩), .pointer (some ⟨w.heap.size + 1, p * 10, none⟩), .int .i64 n, .int .i64 m, .pointer (some ⟨w.heap.size + 1, p * 10, none⟩), .int .i64 n, .int .i64 m, .pointer (some ⟨b, 9 + n * 3, none⟩), .pointer (some ⟨b, 9 + n * 3, none⟩), .pointer (some ⟨b, 9 + n * 3, none⟩), .int .i64 rv, .pointer (some ⟨b, 9 + n * 3, none⟩), .pointer (some ⟨b, 9 + n * 3, none⟩), .pointer (some ⟨b, 9 + n * 3 + 1, none⟩), .int .i64 sv, .pointer (some ⟨w.heap.size + 1, p * 10, none⟩), .pointer (some ⟨w.heap.size + 1, p * 10 + 2, none⟩), .pointer (some ⟨w.heap.size + 1, p * 10 + 2 + m, none⟩), .pointer (some ⟨w.heap.size + 1, p * 10, none⟩), .pointer (some ⟨w.heap.size + 1, p * 10 + 6, none⟩), undef, undef], defers := [] } W.drew
        refine wpAnyH_all (rs := [17]) (fuel := 2) (by kernel_rfl) (by simp) ?_
        intro i hi
        obtain rfl : i = 17 := by simpa using hi
        refine wpOp_put (W2 := W.drew.setCell ⟨w.heap.size + 1, p * 10 + 2 + m, none⟩ (.int .i64 rv)) rfl rfl (by first | (go_simp; done) | (simp [go_sem, Act.eval, d0, d1, f1]; done) | go_simp) ⟨HS2.out, ?_⟩
        change wpAnyH _ _ _ _ _ 2 #[true, true, true, true, true, true, true, true, true, true, true, true, true, true, true, true, true, true, true, true, false, false] { tmps := #[.pointer (some ⟨b, 0, none⟩), undef, .pointer (some ⟨w.heap.size, 0, none⟩), .pointer (some ⟨w.heap.size + 1, 0, none⟩), u4, .int .i64 n, .pointer (some ⟨b, 9 + n * 3, none⟩), .pointer (some ⟨w.heap.size + 1, p * 10, none⟩), .pointer (some ⟨b, 0, none⟩), .bool false, undef, .pointer (some ⟨b, 0, none⟩), .pointer (some ⟨b, 0, none⟩), .pointer (some ⟨b, 8, none⟩), .int .i64 k, .int .i64 k, .bool false, u17, u18, u19, u20, u21, u22, u23, u24, u25, u26, u27, u28, u29, u30, u31, u32, u33, u34, u35, u36, u37, .pointer (some ⟨b, 0, none⟩), .func (.func 28) #[] #[.pointer (some ⟨wr.heap.size, 0, none⟩)], .int .i64 n, .pointer (some ⟨b, 9 + n * 3, none⟩), .int .i64 n, .int .i64 p, .pointer (some ⟨w.heap.size + 1, p * 10, none⟩), .pointer (some ⟨w.heap.size + 1, p * 10, none⟩), .int .i64 n, .int .i64 m, .pointer (some ⟨w.heap.size + 1, p * 10, none⟩), .int .i64 n, .int .i64 m, .pointer (some ⟨b, 9 + n * 3, none⟩), .pointer (some ⟨b, 9 + n * 3, none⟩), .pointer (some ⟨b, 9 + n * 3, none⟩), .int .i64 rv, .pointer (some ⟨b, 9 + n * 3, none⟩), .pointer (some ⟨b, 9 + n * 3, none⟩), .pointer (some ⟨b, 9 + n * 3 + 1, none⟩), .int .i64 sv, .pointer (some ⟨w.heap.size + 1, p * 10, none⟩), .pointer (some ⟨w.heap.size + 1, p * 10 + 2, none⟩), .pointer (some ⟨w.heap.size + 1, p * 10 + 2 + m, none⟩), .pointer (some ⟨w.heap.size + 1, p * 10, none⟩), .pointer (some ⟨w.heap.size + 1, p * 10 + 6, none⟩), undef, undef], defers := [] } (W.drew.setCell ⟨w.heap.size + 1, p * 10 + 2 + m, none⟩ (.int .i64 rv))
        refine wpAnyH_take (i := 20) (v := .pointer (some ⟨w.heap.size + 1, p * 10 + 6 + m, none⟩)) (fuel := 1) rfl (by kernel_rfl) (by kernel_rfl) (by kernel_rfl) (fun _ _ _ h => h) (.inl ⟨rfl, fun W2 hS => (by first | rfl | (simp [go_sem, Act.eval, hS.1, hS.2, hd, hm, hwp, hwk, Try.underlying29]; done) | (go_simp; done) | go_simp)⟩) HS2.out ?_
        change wpAnyH _ _ _ _ _ 1 #[true, true, true, true, true, true, true, true, true, true, true, true, true, true, true, true, true, true, true, true, true, false] { tmps := #[.pointer (some ⟨b, 0, none⟩), undef, .pointer (some ⟨w.heap.size, 0, none⟩), .pointer (some ⟨w.heap.size + 1, 0, none⟩), u4, .int .i64 n, .pointer (some ⟨b, 9 + n * 3, none⟩), .pointer (some ⟨w.heap.size + 1, p * 10, none⟩), .pointer (some ⟨b, 0, none⟩), .bool false, undef, .pointer (some ⟨b, 0, none⟩), .pointer (some ⟨b, 0, none⟩), .pointer (some ⟨b, 8, none⟩), .int .i64 k, .int .i64 k, .bool false, u17, u18, u19, u20, u21, u22, u23, u24, u25, u26, u27, u28, u29, u30, u31, u32, u33, u34, u35, u36, u37, .pointer (some ⟨b, 0, none⟩), .func (.func 28) #[] #[.pointer (some ⟨wr.heap.size, 0, none⟩)], .int .i64 n, .pointer (some ⟨b, 9 + n * 3, none⟩), .int .i64 n, .int .i64 p, .pointer (some ⟨w.heap.size + 1, p * 10, none⟩), .pointer (some ⟨w.heap.size + 1, p * 10, none⟩), .int .i64 n, .int .i64 m, .pointer (some ⟨w.heap.size + 1, p * 10, none⟩), .int .i64 n, .int .i64 m, .pointer (some ⟨b, 9 + n * 3, none⟩), .pointer (some ⟨b, 9 + n * 3, none⟩), .pointer (some ⟨b, 9 + n * 3, none⟩), .int .i64 rv, .pointer (some ⟨b, 9 + n * 3, none⟩), .pointer (some ⟨b, 9 + n * 3, none⟩), .pointer (some ⟨b, 9 + n * 3 + 1, none⟩), .int .i64 sv, .pointer (some ⟨w.heap.size + 1, p * 10, none⟩), .pointer (some ⟨w.heap.size + 1, p * 10 + 2, none⟩), .pointer (some ⟨w.heap.size + 1, p * 10 + 2 + m, none⟩), .pointer (some ⟨w.heap.size + 1, p * 10, none⟩), .pointer (some ⟨w.heap.size + 1, p * 10 + 6, none⟩), .pointer (some ⟨w.heap.size + 1, p * 10 + 6 + m, none⟩), undef], defers := [] } (W.drew.setCell ⟨w.heap.size + 1, p * 10 + 2 + m, none⟩ (.int .i64 rv))
        refine wpAnyH_all (rs := [21]) (fuel := 0) (by kernel_rfl) (by simp) ?_
        intro i hi
        obtain rfl : i = 21 := by simpa using hi
        refine wpOp_put (W2 := (W.drew.setCell ⟨w.heap.size + 1, p * 10 + 2 + m, none⟩ (.int .i64 rv)).setCell ⟨w.heap.size + 1, p * 10 + 6 + m, none⟩ (.int .i64 sv)) rfl rfl (by first | (go_simp; done) | (simp [go_sem, Act.eval, d0, d1, f1]; done) | go_simp) ⟨HS3.out, ?_⟩
        change wpAnyH _ _ _ _ _ 0 #[true, true, true, true, true, true, true, true, true, true, true, true, true, true, true, true, true, true, true, true, true, true] { tmps := #[.pointer (some ⟨b, 0, none⟩), undef, .pointer (some ⟨w.heap.size, 0, none⟩), .pointer (some ⟨w.heap.size + 1, 0, none⟩), u4, .int .i64 n, .pointer (some ⟨b, 9 + n * 3, none⟩), .pointer (some ⟨w.heap.size + 1, p * 10, none⟩), .pointer (some ⟨b, 0, none⟩), .bool false, undef, .pointer (some ⟨b, 0, none⟩), .pointer (some ⟨b, 0, none⟩), .pointer (some ⟨b, 8, none⟩), .int .i64 k, .int .i64 k, .bool false, u17, u18, u19, u20, u21, u22, u23, u24, u25, u26, u27, u28, u29, u30, u31, u32, u33, u34, u35, u36, u37, .pointer (some ⟨b, 0, none⟩), .func (.func 28) #[] #[.pointer (some ⟨wr.heap.size, 0, none⟩)], .int .i64 n, .pointer (some ⟨b, 9 + n * 3, none⟩), .int .i64 n, .int .i64 p, .pointer (some ⟨w.heap.size + 1, p * 10, none⟩), .pointer (some ⟨w.heap.size + 1, p * 10, none⟩), .int .i64 n, .int .i64 m, .pointer (some ⟨w.heap.size + 1, p * 10, none⟩), .int .i64 n, .int .i64 m, .pointer (some ⟨b, 9 + n * 3, none⟩), .pointer (some ⟨b, 9 + n * 3, none⟩), .pointer (some ⟨b, 9 + n * 3, none⟩), .int .i64 rv, .pointer (some ⟨b, 9 + n * 3, none⟩), .pointer (some ⟨b, 9 + n * 3, none⟩), .pointer (some ⟨b, 9 + n * 3 + 1, none⟩), .int .i64 sv, .pointer (some ⟨w.heap.size + 1, p * 10, none⟩), .pointer (some ⟨w.heap.size + 1, p * 10 + 2, none⟩), .pointer (some ⟨w.heap.size + 1, p * 10 + 2 + m, none⟩), .pointer (some ⟨w.heap.size + 1, p * 10, none⟩), .pointer (some ⟨w.heap.size + 1, p * 10 + 6, none⟩), .pointer (some ⟨w.heap.size + 1, p * 10 + 6 + m, none⟩), undef], defers := [] } ((W.drew.setCell ⟨w.heap.size + 1, p * 10 + 2 + m, none⟩ (.int .i64 rv)).setCell ⟨w.heap.size + 1, p * 10 + 6 + m, none⟩ (.int .i64 sv))
        refine wpAnyH_done (by kernel_rfl) ?_ _
        simp only [QsN]
        gi_wp2
        rw [HN.out.2.1, HN.out.2.2]
        obtain ⟨hs1, hs2⟩ := HI2.out.step hb HN.out.1 HEn.out hm4
        exact ⟨KeepsOthers.step_set (KeepsOthers.step_set (KeepsOthers.of_drew W) _ _) _ _, ⟨hs2.block b HI2.out.asid.lt (by omega), hs2.block wr.heap.size (by have := HI2.out.lt; omega) (by omega), hs2.size⟩, hs1⟩
      case hdone =>
        rintro D xs W hD rfl hI2 hK
        have hrow : PAt W (w.heap.size + 1) po (deadB po k) (fun n => (N n).1) (fun n => (N n).2.1) := hI2.row.congr (fun _ _ => rfl) (fun _ _ => rfl) (fun n hn => by
            rw [inP_all N n hn]
            by_cases hz : (N n).1 = 0
            · simp [hz]
            · simp [hz]) (fun n hn => by
            rw [inP_all N n hn]
            by_cases hz : (N n).1 = 0
            · simp [hz, (HI.out.ser n hn).1 hz]
            · simp [hz])
        obtain ⟨cs, hcs⟩ : ∃ cs, cs = cellsF 80 (rcF po k N) := ⟨_, rfl⟩
        have hr1 : W.heap[w.heap.size + 1]? = some (.cells cs 30 (0, 0)) := by rw [hcs, rc_pc]; exact hrow.row
        have hsz : cs.size = 80 := by rw [hcs]; exact cellsF_size _ _
        have hi : (Try.prog.info? 30).map (·.size) = some cs.size := by rw [hsz]; kernel_rfl
        have h1c : cs.all (·.oneCell') = true := by rw [hcs]; exact cellsF_one _ _ (rc_one _ _ _)
        have qL := run_loadVar_row (P := Try.prog) W (w.heap.size + 1) 30 30 cs (0, 0) _ hr1 Try.underlying30 rfl hi
        have qS := run_storeVar_row (P := Try.prog) W w.heap.size 30 30 (cellsF 80 (pcF pz pzb pz pz)) cs hI2.r0.row hi (by rw [hsz]; exact cellsF_size _ _) h1c
        have BI := hI2.below
        have hlt := hI2.lt
        have HR0 := Lib.hid hI2.r0.row
        have HCS := Lib.hid hcs
        have HR1 := Lib.hid hr1
        clear hrow hr1 hI2 hcs qL qS
        gi_upto_region 15 with fail
        refine wpIn_wide.2 ?_
        go_wp2_with (first
          | (refine wpList_load_row rfl 30 (.tmp 3) rfl (w.heap.size + 1) rfl _ _ _ _ HR1.out Try.underlying30 rfl hi ?_)
          | (refine wpList_store_row rfl 30 (.tmp 2) _ rfl w.heap.size cs rfl rfl _ _ HR0.out hi (by rw [hsz]; exact cellsF_size _ _) h1c ?_))
        obtain ⟨U, hU⟩ : ∃ U, U = W.setRow w.heap.size cs := ⟨_, rfl⟩
        have hKU : U.heap[D]? = some (.deferred (some [])) := by rw [hU, setRow_other _ _ _ _ (by omega)]; exact hK
        have hRU : U.heap[w.heap.size]? = some (.cells cs 30 (0, 0)) := by rw [hU]; exact setRow_heap _ _ _ _ _ _ HR0.out
        have BU : Below w.heap.size w U := hU ▸ belowRow BI (Nat.le_refl _) cs
        rw [← hU]
        clear hU
        gi_wp2
        refine ⟨by simp, .inl ⟨_, _, rfl, run_takeDeferred hKU, ?_⟩⟩
        have g0 : (U.putObj D (.deferred none)).heap[w.heap.size]? = some (.cells cs 30 (0, 0)) := (heap_putObj_ne (by omega)).trans hRU
        exact ⟨.agg cs, results_cell_row (by rfl) _ _ w.heap.size _ cs _ _ rfl g0 Try.underlying30 rfl hi, by rw [HCS.out], BU.trans (belowK_b (w := w) (Nat.le_refl _) U D _ _ (by omega) hKU rfl rfl)⟩
      case hstop =>
        rintro D c pre W hD _ hF hK
        exact hF.elim
end Go.Proofs.Ytfladcnkphcicaa
