/- The law QueueOnce. -/
import Derived.Test.YthbjjamjpbfehaaQueP
import Derived.Deep.CutRange
import Derived.BigQuiet
namespace Go.Proofs.Ythbjjamjpbfehaa
set_option linter.unusedVariables false
set_option linter.unusedSimpArgs false
open Go.ChangeShapes Go.WideShapes Go.ChangeAt Go.RowKit Go.Shelf

/-- Who is in it has a number from 1 to 9, and the law's own note of his priority. -/
def PR (R : List (Int × Nat)) (P : Nat → Int) : Prop := ∀ e ∈ R, e.1 ≤ 9 ∧ P e.1.toNat = (e.2 : Int)
def PrioAt (w : World) (b : Nat) (P : Nat → Int) : Prop := (∀ j, j < 10 → w.cell? ⟨b, j, none⟩ = some (.int .i64 (P j))) ∧ ∀ j, w.frozen? ⟨b, j, none⟩ = false
theorem PrioAt.of_block {w w' : World} {b : Nat} {P : Nat → Int} (h : PrioAt w b P) (e : w'.heap[b]? = w.heap[b]?) : PrioAt w' b P :=
  ⟨fun j hj => (cell_of_block e).trans (h.1 j hj), fun j => (frozen_of_block e).trans (h.2 j)⟩
theorem prio_new (w : World) : PrioAt (w.alloc (.cells #[.int .i64 0, .int .i64 0, .int .i64 0, .int .i64 0, .int .i64 0, .int .i64 0, .int .i64 0, .int .i64 0, .int .i64 0, .int .i64 0] 45)) w.heap.size (fun _ => 0) := by
  refine ⟨fun j hj => ?_, fun j => ?_⟩
  · rcases (by omega : j = 0 ∨ j = 1 ∨ j = 2 ∨ j = 3 ∨ j = 4 ∨ j = 5 ∨ j = 6 ∨ j = 7 ∨ j = 8 ∨ j = 9) with rfl | rfl | rfl | rfl | rfl | rfl | rfl | rfl | rfl | rfl <;> simp [go_sem]
  · unfold World.frozen?
    rw [World.alloc_heap_new]
    rfl
def pput (P : Nat → Int) (k : Nat) (p : Int) : Nat → Int := fun j => if j = k then p else P j
theorem prio_put {w : World} {b k : Nat} {P : Nat → Int} (h : PrioAt w b P) (hk : k < 10) (p : Int) : PrioAt (w.setCell ⟨b, k, none⟩ (.int .i64 p)) b (pput P k p) := by
  refine ⟨fun j hj => ?_, fun j => (World.frozen?_setCell _ _ _ _).trans (h.2 j)⟩
  unfold pput
  by_cases e : j = k
  · subst e
    rw [if_pos rfl]
    exact World.cell?_setCell_same' _ _ _ (by rw [h.1 j hj]; rfl)
  · rw [if_neg e]
    exact (World.cell?_setCell_other _ _ _ _ (by intro q; injection q with _ q _; exact e q.symm)).trans (h.1 j hj)
theorem pr_nil (P : Nat → Int) : PR [] P := by intro e he; simp at he
theorem pr_drop {R : List (Int × Nat)} {P : Nat → Int} (h : PR R P) (x : Int) : PR (dropR R x) P := fun e he => h e (List.mem_filter.1 he).1
theorem pr_back {R : List (Int × Nat)} {P : Nat → Int} (h : PR R P) (x : Int) : PR (backR R x) P := by
  unfold backR
  cases e : fR R x with
  | none => exact h
  | some p =>
    obtain ⟨a, ha, rfl, rfl⟩ := fR_some e
    intro q hq
    rcases ins_mem.1 hq with rfl | hq
    · rw [Int.toNat_natCast]; exact h a ha
    · exact pr_drop h _ q hq
theorem pr_add {R : List (Int × Nat)} {P : Nat → Int} (h : PR R P) (hg : ∀ e ∈ R, 1 ≤ e.1) (d : Nat) (hd : d < 9) (p : Int) (hc : addE R (1 + (d : Int)) p = 0) : PR (addR R (1 + (d : Int)) p) (pput P (1 + d) p) := by
  have e2 : addR R (1 + (d : Int)) p = insR R (1 + (d : Int)) p.toNat := by unfold addR; rw [if_pos hc]
  rw [e2]
  unfold addE at hc
  by_cases c : 1 + (d : Int) < 1 ∨ p < 0 ∨ 7 < p
  · rw [if_pos c] at hc; simp at hc
  · rw [if_neg c] at hc
    by_cases c2 : hasR R (1 + (d : Int)) = true
    · rw [if_pos c2] at hc; simp at hc
    · have hn : fR R (1 + (d : Int)) = none := by
        unfold hasR at c2
        cases e : fR R (1 + (d : Int)) with
        | none => rfl
        | some _ => rw [e] at c2; exact absurd rfl c2
      intro q hq
      rcases ins_mem.1 hq with rfl | hq
      · refine ⟨by simp only; omega, ?_⟩
        simp only
        have e : (1 + (d : Int)).toNat = 1 + d := by omega
        rw [e]
        unfold pput
        rw [if_pos rfl]
        omega
      · obtain ⟨h1, h2⟩ := h q hq
        refine ⟨h1, ?_⟩
        have h3 := hg q hq
        have h4 := fR_none hn q hq
        unfold pput
        rw [if_neg (by omega)]
        exact h2
theorem pr_addno {R : List (Int × Nat)} {P : Nat → Int} (h : PR R P) (x p : Int) (hc : ¬ addE R x p = 0) : PR (addR R x p) P := by
  have e2 : addR R x p = R := by unfold addR; rw [if_neg hc]
  rw [e2]; exact h
/-- One who stands in it. -/
theorem stands {R : List (Int × Nat)} {P : Nat → Int} (hG : Good R) (hP : PR R P) {j : Nat} (hj : j < R.length) : ∃ (d q : Nat), R[j]? = some ((d : Int), q) ∧ 1 ≤ d ∧ d ≤ 9 ∧ P d = (q : Int) ∧ hasR R (d : Int) = true := by
  have hm := List.getElem_mem hj
  obtain ⟨h1, h2⟩ := hP _ hm
  obtain ⟨h3, h4⟩ := hG.ids _ hm
  have hf := fR_yes hG.nd hm
  have hg : R[j]? = some R[j] := List.getElem?_eq_getElem hj
  obtain ⟨⟨x, q⟩, he⟩ : ∃ e, R[j] = e := ⟨_, rfl⟩
  rw [he] at h1 h2 h3 hf hg
  simp only at h1 h2 h3 hf
  refine ⟨x.toNat, q, ?_, by omega, by omega, h2, ?_⟩
  · rw [hg, show ((x.toNat : Nat) : Int) = x by omega]
  · rw [show ((x.toNat : Nat) : Int) = x by omega]
    unfold hasR; rw [hf]; rfl
theorem falls {R : List (Int × Nat)} (hG : Good R) {i j : Nat} {a b : Int × Nat} (hij : i < j) (ha : R[i]? = some a) (hb : R[j]? = some b) : b.2 ≤ a.2 ∧ a.1 ≠ b.1 := by
  obtain ⟨h1, rfl⟩ := List.getElem?_eq_some_iff.1 ha
  obtain ⟨h2, rfl⟩ := List.getElem?_eq_some_iff.1 hb
  exact ⟨List.pairwise_iff_getElem.1 hG.srt i j h1 h2 hij, List.pairwise_iff_getElem.1 hG.nd i j h1 h2 hij⟩
theorem QR.good {w : World} {B b mb n : Nat} {vs : Nat → Value} {R : List (Int × Nat)} (h : QR w B b mb n vs R) : Good R := by
  obtain ⟨m, hm, h, g⟩ := h
  exact g
theorem QR.drawn {w : World} {B b mb n : Nat} {vs : Nat → Value} {R : List (Int × Nat)} (h : QR w B b mb n vs R) (q : Nat) : QR (w.drewN q) B b mb n vs R := h.call (below_drewN (Below.refl _ _) _)
theorem QR.set {w : World} {B b mb n k i : Nat} {vs : Nat → Value} {R : List (Int × Nat)} (h : QR w B b mb n vs R) (hf : Free w b mb vs k) (v : Value) : QR (w.setCell ⟨k, i, none⟩ v) B b mb n vs R := by
  obtain ⟨m, hm, h, g⟩ := h
  obtain ⟨h1, h2, h3, h4⟩ := hf
  refine ⟨m, hm, ?_, g⟩
  have eb : ∀ j, j ≠ k → (w.setCell ⟨k, i, none⟩ v).heap[j]? = w.heap[j]? := fun j hj => Go.heap_setCell_other _ _ _ _ hj
  exact ⟨⟨h.lt.1, by simpa using h.lt.2⟩, h.mlt, h.ne, fun j hj => (cell_of_block (eb _ (Ne.symm h2))).trans (h.cell j hj), fun j => (frozen_of_block (eb _ (Ne.symm h2))).trans (h.free j), (cell_of_block (eb _ (Ne.symm h2))).trans h.mcell,
    fun j hj => row_of_block (h.row j hj) (fun g hg => eb g (fun e => h4 j hj (e ▸ hg))), h.rb, h.apart, h.len, h.map.of_block (eb _ (Ne.symm h3))⟩
theorem has_yes_r (w : World) {B b mb n : Nat} {vs : Nat → Value} {R : List (Int × Nat)} (x : Int) (hx : InI x) (hh : hasR R x = true) (h : QR w B b mb n vs R) :
    Calls Try.prog 19 #[.pointer (some ⟨b, 0, none⟩), .int .i64 x] w fun e w' => e = .returned (.bool true) ∧ w' = w := by
  have := has_r w x hx h
  rwa [hh] at this
set_option maxRecDepth 100000 in
set_option maxHeartbeats 4000000 in
theorem walk_queueOnce {W : World} (p : Option Addr) (n c : Nat) (hx : n ≤ c ∧ c ≤ maxLen ∧ ∃ D, ActsAt W p n D) :
    Calls Try.prog 5 #[.slice p n c] W fun e w' => e = .returned (.bool true) ∧ Below W.heap.size W w' := by
  obtain ⟨h1, h2, D, pb, off, hp, hD⟩ := hx
  unfold maxLen at h2
  have HD := Lib.hid hD
  have HP := Lib.hid hp
  clear hD hp
  by_cases hn : 120 < n
  · go_enter Try.func5, Try.ntmps5
    go_wp2_with (first
      | (go_at_call 7; refine (awake21 _).mono ?_; rintro e w3 ⟨rfl, hb3⟩))
    go_ret
    exact ⟨rfl, hb3⟩
  have hn' : n ≤ 120 := by omega
  clear hn
  go_enter Try.func5, Try.ntmps5
  go_wp2_with (first
    | (go_at_call 8; refine (new_r _).mono ?_; rintro e w1 ⟨rfl, hq1, hb1⟩; have HQ1 := Lib.hid hq1; have HB1 := Lib.hid hb1; have hs1 := hb1.size; clear hq1 hb1))
  have hpa := Lib.hid (prio_new w1)
  have hfa := Lib.hid (HQ1.out.free (w' := w1.alloc (.cells #[.int .i64 0, .int .i64 0, .int .i64 0, .int .i64 0, .int .i64 0, .int .i64 0, .int .i64 0, .int .i64 0, .int .i64 0, .int .i64 0] 45)) (Nat.le_refl _) (by simp))
  have hqa := Lib.hid (HQ1.out.call (bal (Below.refl _ _) (.cells #[.int .i64 0, .int .i64 0, .int .i64 0, .int .i64 0, .int .i64 0, .int .i64 0, .int .i64 0, .int .i64 0, .int .i64 0, .int .i64 0] 45)))
  have hba := Lib.hid (HB1.out.alloc hs1 (.cells #[.int .i64 0, .int .i64 0, .int .i64 0, .int .i64 0, .int .i64 0, .int .i64 0, .int .i64 0, .int .i64 0, .int .i64 0, .int .i64 0] 45))
  clear HQ1 HB1
  go_loopw [5, 6, 7, 8, 9] (fun i id al kk jj wr => ∃ (k : Nat) (vs : Nat → Value) (R : List (Int × Nat)) (P : Nat → Int), k ≤ n ∧ i = .int .i64 k ∧ Hid (QR wr W.heap.size (W.heap.size + 1) W.heap.size k vs R) ∧ Hid (PR R P) ∧ Hid (PrioAt wr w1.heap.size P) ∧ Hid (Free wr (W.heap.size + 1) W.heap.size vs w1.heap.size) ∧ Hid (Below W.heap.size W wr)) (fun i _ _ _ _ _ => n - (intOf i).toNat)
  case atStart => exact ⟨0, no8, [], fun _ => 0, by omega, rfl, hqa, Lib.hid (pr_nil _), hpa, hfa, hba⟩
  case round =>
    obtain ⟨k, vs, R, P, hk, rfl, HQ, HR, HPA, HF, HB⟩ := hrel
    clear hpa hfa hqa hba
    by_cases hlt : k < n
    · obtain ⟨rfl, hpb⟩ := HP.out (by omega)
      obtain ⟨⟨c0, c1, c2⟩, -, i1, i2⟩ := HD.out k hlt
      obtain ⟨⟨xd, xa, xb⟩, hx⟩ : ∃ x, D k = x := ⟨_, rfl⟩
      rw [hx] at c0 c1 c2 i1 i2
      simp only at c0 c1 c2 i1 i2
      have hB := HB.out
      have e0 := (hB.cell (p := ⟨pb, off + k * 3, none⟩) hpb).trans c0
      have e1 := (hB.cell (p := ⟨pb, off + k * 3 + 1, none⟩) hpb).trans c1
      have e2 := (hB.cell (p := ⟨pb, off + k * 3 + 2, none⟩) hpb).trans c2
      clear c0 c1 c2 hx hB
      obtain ⟨d, hd⟩ : ∃ d : Nat, lowI xa 9 = (d : Int) := ⟨(lowI xa 9).toNat, by have := lowI_0 xa 9 (by omega); omega⟩
      have bd : d < 9 := by have := lowI_1 xa 9 (by omega); omega
      have L0 := Lib.hid (low_any xa 9 · i1 (by omega) (by omega))
      rw [hd] at L0
      have HI2 := Lib.hid i2
      clear hd i1 i2
      have HIX : Hid (InI (1 + (d : Int))) := Lib.hid ⟨by omega, by omega⟩
      go_upto_if 35 with (go_at_call 23; refine (L0.out _).mono ?_; rintro e wl ⟨rfl, rfl⟩)
      go_cut [6] from 17 to 126 (fun s6 wx => ∃ (vs' : Nat → Value) (R' : List (Int × Nat)) (P' : Nat → Int), Hid (QR wx W.heap.size (W.heap.size + 1) W.heap.size (k + 1) vs' R') ∧ Hid (PR R' P') ∧ Hid (PrioAt wx w1.heap.size P') ∧ Hid (Free wx (W.heap.size + 1) W.heap.size vs' w1.heap.size) ∧ Hid (Below W.heap.size W wx))
      case first =>
        by_cases d0 : xd = 0
        · subst d0
          by_cases hc : addE R (1 + (d : Int)) xb = 0
          · have hpr := Lib.hid (pr_add HR.out (fun e he => (HQ.out.good.ids e he).1) d bd xb hc)
            have HC := Lib.hid hc
            clear hc
            go_wp2_with (go_at_call 10; refine (add_r _ (1 + (d : Int)) xb HIX.out HI2.out (by omega) HQ.out).mono ?_; rw [HC.out]; rintro e w2 ⟨rfl, vs2, hq2, ho2⟩; have hB2 := HQ.out.below ho2; have e2' := (hB2.cell (p := ⟨pb, off + k * 3 + 2, none⟩) hpb).trans e2; obtain ⟨hz2, hf2⟩ := HF.out.keep ho2; have hp2 := HPA.out.of_block hz2; have pc := hp2.1 (1 + d) (by omega); have pf := hp2.2 (1 + d); have HQ2 := Lib.hid hq2; have HP2 := Lib.hid hp2; have HF2 := Lib.hid hf2; have HB2 := Lib.hid (HB.out.trans hB2); clear hq2 ho2 hB2 hz2 hf2 hp2)
            go_meet
            case rel => exact ⟨vs2, _, _, Lib.hid (HQ2.out.set HF2.out _), hpr, Lib.hid (prio_put HP2.out (by omega) _), Lib.hid (HF2.out.more (by simp)), Lib.hid (HB2.out.setCell (p := ⟨w1.heap.size, 1 + d, none⟩) (by simp only; omega) _)⟩
          · have hpr := Lib.hid (pr_addno HR.out (1 + (d : Int)) xb hc)
            obtain ⟨y, hy⟩ : ∃ y, addE R (1 + (d : Int)) xb = y := ⟨_, rfl⟩
            rw [hy] at hc
            have HY := Lib.hid hy
            clear hy
            go_wp2_with (go_at_call 10; refine (add_r _ (1 + (d : Int)) xb HIX.out HI2.out (by omega) HQ.out).mono ?_; rw [HY.out]; rintro e w2 ⟨rfl, vs2, hq2, ho2⟩; have hB2 := HQ.out.below ho2; obtain ⟨hz2, hf2⟩ := HF.out.keep ho2; have hp2 := HPA.out.of_block hz2; have HQ2 := Lib.hid hq2; have HP2 := Lib.hid hp2; have HF2 := Lib.hid hf2; have HB2 := Lib.hid (HB.out.trans hB2); clear hq2 ho2 hB2 hz2 hf2 hp2)
            go_meet
            case rel => exact ⟨vs2, _, _, HQ2, hpr, HP2, HF2, HB2⟩
        · by_cases d1 : xd = 1
          · subst d1
            go_wp2_with (go_at_call 12; refine (drop_r _ (1 + (d : Int)) HIX.out (by omega) HQ.out).mono ?_; rintro e w2 ⟨rfl, vs2, hq2, ho2⟩; have hB2 := HQ.out.below ho2; obtain ⟨hz2, hf2⟩ := HF.out.keep ho2; have hp2 := HPA.out.of_block hz2; have HQ2 := Lib.hid (hq2.more (Nat.le_succ k)); have HP2 := Lib.hid hp2; have HF2 := Lib.hid hf2; have HB2 := Lib.hid (HB.out.trans hB2); clear hq2 ho2 hB2 hz2 hf2 hp2)
            go_meet
            case rel => exact ⟨vs2, _, _, HQ2, Lib.hid (pr_drop HR.out _), HP2, HF2, HB2⟩
          · go_wp2_with (go_at_call 14; refine (back_r _ (1 + (d : Int)) HIX.out (by omega) HQ.out).mono ?_; rintro e w2 ⟨rfl, vs2, hq2, ho2⟩; have hB2 := HQ.out.below ho2; obtain ⟨hz2, hf2⟩ := HF.out.keep ho2; have hp2 := HPA.out.of_block hz2; have HQ2 := Lib.hid hq2; have HP2 := Lib.hid hp2; have HF2 := Lib.hid hf2; have HB2 := Lib.hid (HB.out.trans hB2); clear hq2 ho2 hB2 hz2 hf2 hp2)
            go_meet
            case rel => exact ⟨vs2, _, _, HQ2, Lib.hid (pr_back HR.out _), HP2, HF2, HB2⟩
      case rest =>
        obtain ⟨vs2, R2, P2, HQ2, HR2, HP2, HF2, HB2⟩ := hcut
        clear HQ HR HPA HF HB HI2 L0
        have hG2 := Lib.hid HQ2.out.good
        go_wp2_with (go_at_call 18; refine (all_r _ (by omega) HQ2.out).mono ?_; rintro e w3 ⟨q, cq, rfl, ha, hb3⟩; have HQ3 := Lib.hid (HQ2.out.call hb3); have HP3 := Lib.hid (HP2.out.of_block (hb3.block w1.heap.size HF2.out.1)); have HF3 := Lib.hid (HF2.out.more hb3.size); have HB3 := Lib.hid (HB2.out.trans (hb3.mono HB2.out.size)); have HA3 := Lib.hid (row_place ha); clear ha hb3)
        clear HQ2 HP2 HF2 HB2
        go_loopw [8, 9] (fun kk jj wi => ∃ (i q' : Nat), i ≤ R2.length ∧ kk = .int .i64 i ∧ wi = w3.drewN q') (fun kk _ _ => R2.length - (intOf kk).toNat)
        case atStart => exact ⟨0, 0, by omega, rfl, rfl⟩
        case round =>
          obtain ⟨i, q', hi, rfl, rfl⟩ := hrel
          by_cases hil : i < R2.length
          · obtain ⟨hle, hmx, hrow⟩ := HA3.out
            obtain ⟨g, rfl, -, hgl, hcell⟩ := hrow (by omega)
            unfold maxLen at hmx
            clear HA3 hrow
            obtain ⟨d2, q2, hget, hd1, hd9, hPd, hhas⟩ := stands hG2.out HR2.out hil
            have cd := hcell i _ (ids_get hget)
            have cp := HP3.out.1 d2 (by omega)
            rw [hPd] at cp
            simp only at cd
            have n1 : decide ((d2 : Int) < 1) = false := decide_eq_false (by omega)
            have n2 : decide ((9 : Int) < (d2 : Int)) = false := decide_eq_false (by omega)
            have n2' : decide ((d2 : Int) > 9) = false := n2
            have hix : (i : Int) < R2.length := by omega
            have HHAS := Lib.hid hhas
            have HD2 : Hid (InI (d2 : Int)) := Lib.hid ⟨by omega, by omega⟩
            have HCELL := Lib.hid hcell
            have HGET := Lib.hid hget
            clear hhas hPd
            by_cases hi0 : i = 0
            · have hgt : decide ((0 : Int) < (i : Int)) = false := decide_eq_false (by omega)
              have hgt' : decide ((i : Int) > 0) = false := hgt
              have hgt2 : decide (0 < i) = false := decide_eq_false (by omega)
              have HI0 := Lib.hid hi0
              clear hcell hget hi0
              go_wp2
              go_quiet ((go_at_call 19; refine (has_yes_r _ (d2 : Int) HD2.out HHAS.out (HQ3.out.call (by repeat (first | exact Below.refl _ _ | refine below_drewN ?_ _ | refine Below.drew ?_)))).mono ?_; rintro e w' ⟨rfl, rfl⟩; exact ⟨rfl, _, rfl⟩))
              all_goals
                go_wp2
                go_loopw [9] (fun jj wi => ∃ (j q3 : Nat), j ≤ i ∧ jj = .int .i64 j ∧ wi = w3.drewN q3) (fun jj _ => i - (intOf jj).toNat)
                case atStart => exact ⟨0, q' + nq, by omega, rfl, by first | rfl | simp⟩
                case round =>
                  obtain ⟨j, q3, hj, rfl, rfl⟩ := hrel
                  have hi0 := HI0.out
                  have hji : ¬ (j : Int) < (i : Int) := by omega
                  clear hi0
                  go_wp2
                  go_roundw
                  case rel =>
                   first | exact ⟨i + 1, _, by omega, by go_num, rfl⟩ | ((repeat apply Exists.intro); exact ⟨⟨i + 1, _, by omega, by go_num, rfl⟩, rfl⟩)
                  case measure => simp [intOf]; omega
            · obtain ⟨i1, hi1⟩ : ∃ i1, i1 + 1 = i := ⟨i - 1, by omega⟩
              have hgt : decide ((0 : Int) < (i : Int)) = true := decide_eq_true (by omega)
              have hgt' : decide ((i : Int) > 0) = true := hgt
              have hgt2 : decide (0 < i) = true := decide_eq_true (by omega)
              have hsub : (i : Int) - 1 = (i1 : Int) := by omega
              have hi1l : (i1 : Int) < R2.length := by omega
              obtain ⟨d3, q3, hget3, hd31, hd39, hPd3, -⟩ := stands hG2.out HR2.out (show i1 < R2.length by omega)
              have cd3 := hcell i1 _ (ids_get hget3)
              have cp3 := HP3.out.1 d3 (by omega)
              rw [hPd3] at cp3
              simp only at cd3
              have hfall := (falls hG2.out (show i1 < i by omega) hget3 hget).1
              simp only at hfall
              have n3 : decide ((q3 : Int) < (q2 : Int)) = false := decide_eq_false (by omega)
              have n3' : decide (q3 < q2) = false := decide_eq_false (by omega)
              have n3'' : q2 ≤ q3 := by omega
              have HI1 := Lib.hid hi1
              clear hcell hget hget3 hPd3 hfall hi1 hi0
              go_wp2
              go_quiet ((go_at_call 19; refine (has_yes_r _ (d2 : Int) HD2.out HHAS.out (HQ3.out.call (by repeat (first | exact Below.refl _ _ | refine below_drewN ?_ _ | refine Below.drew ?_)))).mono ?_; rintro e w' ⟨rfl, rfl⟩; exact ⟨rfl, _, rfl⟩))
              all_goals
                go_wp2
                go_loopw [9] (fun jj wi => ∃ (j q4 : Nat), j ≤ i ∧ jj = .int .i64 j ∧ wi = w3.drewN q4) (fun jj _ => i - (intOf jj).toNat)
                case atStart => exact ⟨0, q' + nq, by omega, rfl, by first | rfl | simp⟩
                case round =>
                  obtain ⟨j, q4, hj, rfl, rfl⟩ := hrel
                  by_cases hji : j < i
                  · have hji' : (j : Int) < (i : Int) := by omega
                    obtain ⟨d5, q5, hget5, -, -, -, -⟩ := stands hG2.out HR2.out (show j < R2.length by omega)
                    have cd5 := HCELL.out j _ (ids_get hget5)
                    simp only at cd5
                    have hne := (falls hG2.out hji hget5 HGET.out).2
                    simp only at hne
                    have n5 : ¬ d5 = d2 := by omega
                    have hjl : (j : Int) < R2.length := by omega
                    clear hget5 hne
                    go_wp2
                    go_quiet (fail)
                    all_goals
                      go_wp2
                      go_roundw
                      case rel => first | exact ⟨j + 1, _, by omega, by go_num, by first | rfl | simp⟩ | ((repeat apply Exists.intro); exact ⟨⟨j + 1, _, by omega, by go_num, by first | rfl | simp⟩, rfl⟩)
                      case measure => simp [intOf]; omega
                  · obtain rfl : j = i := by omega
                    go_wp2
                    go_roundw
                    case rel => first | exact ⟨j + 1, _, by omega, by go_num, rfl⟩ | ((repeat apply Exists.intro); exact ⟨⟨j + 1, _, by omega, by go_num, rfl⟩, rfl⟩)
                    case measure => simp [intOf]; omega
          · obtain rfl : i = R2.length := by omega
            go_wp2
            go_roundw
            case rel =>
              first
                | exact ⟨k + 1, _, _, _, by omega, by go_num, Lib.hid (HQ3.out.drawn _), HR2, Lib.hid (HP3.out.of_block (by simp)), Lib.hid (HF3.out.more (by simp)), Lib.hid (below_drewN HB3.out _)⟩
                | ((repeat apply Exists.intro); exact ⟨⟨k + 1, _, _, _, by omega, by go_num, Lib.hid (HQ3.out.drawn _), HR2, Lib.hid (HP3.out.of_block (by simp)), Lib.hid (HF3.out.more (by simp)), Lib.hid (below_drewN HB3.out _)⟩, rfl⟩)
            case measure => simp [intOf]; omega
    · obtain rfl : k = n := by omega
      go_wp2_with (first
        | (go_at_call 7; refine (awake21 _).mono ?_; rintro e w3 ⟨rfl, hb3⟩))
      go_ret
      exact ⟨rfl, HB.out.trans (hb3.mono HB.out.size)⟩
end Go.Proofs.Ythbjjamjpbfehaa
