/- chapter 19: the law AsidScript. -/
import Derived.Test.YtfladcnkphcicaaAs6
import Derived.Test.YtfladcnkphcicaaAsidNone
import Derived.Deep.RegionHeld3
import Derived.Deep.Cut
import Derived.Deep.CutRange
import Derived.Deep.CutBlock
import Derived.Laws.Rows
namespace Go.Proofs.Ytfladcnkphcicaa
set_option linter.unusedVariables false
set_option linter.unusedSimpArgs false
open Go.ChangeShapes Go.WideShapes Go.ChangeAt Go.RowKit Go.Shelf
section
variable {P : Program} {o : Oper} {a : Act} {C : World → Prop}
theorem quietQ_load_varA {K : Act → Prop} (ty : TypeId) (x : Operand) (ho : o.op = .load ty x) (p : Addr) (hx : a.eval x = .pointer (some p)) (v : Value) (hc : ∀ w, C w → (loadVar ty p).run P w = .ok v w)
    (hk : K (a.put o.dst v)) : o.quiet P a C K := by
  refine ⟨_, fun w hw => ?_, hk⟩
  have hrun := hc w hw
  unfold Oper.quietAt execOp
  simp only [ho, hx, Instr.loadAt, Instr.sureAddr, Sem.run_bind, Sem.run_pure, Result.andThen_ok, hrun]
  exact ⟨rfl, rfl⟩
end
theorem ref_load {w : World} {b : Nat} {po : Nat → Int} {tk : Int} {N : Nums} (h : RefAt w b po tk N) : (loadVar 30 ⟨b, 0, none⟩).run Try.prog w = .ok (.agg (cellsF 80 (rcF po tk N))) w := by
  have hl := run_loadCells_list (P := Try.prog) w ⟨b, 0, none⟩ ((List.range 80).map (rcF po tk N)) (fun j v hv => by
    have hadd : (⟨b, 0, none⟩ : Addr).add j = ⟨b, j, none⟩ := by unfold Addr.add; split <;> simp_all
    have hj : j < 80 := by have := (List.getElem?_eq_some_iff.1 hv).1; simpa using this
    rw [hadd, h.cell (by omega)]
    rw [List.getElem?_map, List.getElem?_range hj] at hv
    simpa using hv)
  have hi : (Try.prog.info? 30).map (·.size) = some 80 := by kernel_rfl
  cases hq : Try.prog.info? 30 with
  | none => simp [hq] at hi
  | some i =>
    have hs : i.size = 80 := by simpa [hq] using hi
    have hagg : (isAgg 30).run Try.prog w = .ok true w := by
      unfold isAgg
      rw [Sem.run_bind, run_underlying Try.underlying30 w]
      rfl
    have hl' : (loadCells ⟨b, 0, none⟩ 80).run Try.prog w = .ok ((List.range 80).map (rcF po tk N)).toArray w := by simpa using hl
    simp [loadVar, Sem.run_bind, hagg, sizeOf, typeInfo, hq, hs, hl', cellsF]
theorem drop_len (po : Nat → Int) (N : Nums) (pool : Int) : (dropNL po N pool).2.length ≤ 4 := by
  have hd : ∀ p k, k ≤ 4 → (dfold p N (fst4 k)).2.length ≤ k := by
    intro p k
    induction k with
    | zero => intro _; exact Nat.le_refl _
    | succ k ih =>
      intro hk
      have := ih (by omega)
      rw [fst4_succ k (by omega), dfold_snoc]
      unfold dstep
      simp only
      split
      · omega
      · simp; omega
  unfold dropNL
  split
  · exact hd _ 4 (Nat.le_refl _)
  · simp
/-- What stands inside a round. -/
structure St (w : World) (A R X : Nat) (po : Nat → Int) (tk : Int) (N : Nums) (xa xb : Int) : Prop where
  asid : AsidAt w A po tk N
  ref : RefAt w R po tk N
  inv : Inv po tk N
  x1 : w.cell? ⟨X, 1, none⟩ = some (.int .i64 xa)
  x2 : w.cell? ⟨X, 2, none⟩ = some (.int .i64 xb)
  lt : X < w.heap.size
theorem St.call {w w' : World} {A R X : Nat} {po : Nat → Int} {tk : Int} {N : Nums} {xa xb : Int} (h : St w A R X po tk N xa xb) (hb : Below w.heap.size w w') : St w' A R X po tk N xa xb :=
  ⟨h.asid.call hb, h.ref.call hb, h.inv, (hb.cell (p := ⟨X, 1, none⟩) h.lt).trans h.x1, (hb.cell (p := ⟨X, 2, none⟩) h.lt).trans h.x2, Nat.lt_of_lt_of_le h.lt hb.size⟩
/-- Behind a call of either: what the one leaves, then what the other leaves. -/
theorem St.both {w w2 w3 : World} {A R X : Nat} {po po' : Nat → Int} {tk tk' : Int} {N N' : Nums} {xa xb : Int} (h : St w A R X po tk N xa xb) (hAR : A < R) (hRX : R < X) (a2 : AsidAt w2 A po' tk' N') (o2 : BlkOnly A w w2) (r3 : RefAt w3 R po' tk' N') (o3 : BlkOnly R w2 w3) (hi : Inv po' tk' N') : St w3 A R X po' tk' N' xa xb :=
  ⟨a2.of_block o3.size (o3.block A a2.lt (by omega)), r3, hi, o3.cell (Nat.lt_of_lt_of_le h.lt o2.size) (by omega) (o2.cell h.lt (by omega) h.x1), o3.cell (Nat.lt_of_lt_of_le h.lt o2.size) (by omega) (o2.cell h.lt (by omega) h.x2), Nat.lt_of_lt_of_le h.lt (Nat.le_trans o2.size o3.size)⟩
theorem St.mid {w w2 : World} {A R X : Nat} {po : Nat → Int} {tk : Int} {N : Nums} {xa xb : Int} (h : St w A R X po tk N xa xb) (hAR : A < R) (hRX : R < X) (o2 : BlkOnly A w w2) : RefAt w2 R po tk N ∧ w2.cell? ⟨X, 1, none⟩ = some (.int .i64 xa) ∧ w2.cell? ⟨X, 2, none⟩ = some (.int .i64 xb) :=
  ⟨h.ref.of_block (o2.block R h.ref.lt (by omega)), o2.cell h.lt (by omega) h.x1, o2.cell h.lt (by omega) h.x2⟩
theorem St.grown {w w' : World} {A R X B : Nat} {po : Nat → Int} {tk : Int} {N : Nums} {xa xb : Int} {r : Option Nat} (h : St w A R X po tk N xa xb) (hAR : A < R) (hRX : R < X) (hX : X < B) (hg : w.grownBy w' r) (hr : ∀ k, r = some k → B ≤ k) : St w' A R X po tk N xa xb := by
  have e : ∀ k, k ≤ X → k < w.heap.size → w'.heap[k]? = w.heap[k]? := fun k hk hl => hg.block k hl (fun e => by have := hr k e.symm; omega)
  exact ⟨h.asid.of_block hg.size (e A (by omega) h.asid.lt), h.ref.of_block (e R (by omega) h.ref.lt), h.inv, (cell_of_block (e X (Nat.le_refl _) h.lt)).trans h.x1, (cell_of_block (e X (Nat.le_refl _) h.lt)).trans h.x2, Nat.lt_of_lt_of_le h.lt hg.size⟩
theorem zeroRef : ∀ w, (zeroValue 33).run Try.prog w = .ok (.agg (cellsF 112 (rcF po0 0 N0))) w := fun _ => by kernel_rfl
set_option maxRecDepth 100000 in
set_option maxHeartbeats 8000000 in
theorem walk_asidScript {W : World} (p : Option Addr) (n c : Nat) (hx : n ≤ c ∧ c ≤ maxLen ∧ ∃ D, ActsAt W p n D) :
    Calls Try.prog 3 #[.slice p n c] W fun e w' => e = .returned (.bool true) ∧ Below W.heap.size W w' := by
  obtain ⟨h1, h2, D, pb, off, hp, hD⟩ := hx
  unfold maxLen at h2
  have HD := Lib.hid hD
  have HP := Lib.hid hp
  clear hD hp
  by_cases hn : 120 < n
  · go_enter Try.func3, Try.ntmps3
    go_wp2_with (first
      | (go_at_call 4; refine (awake19 _).mono ?_; rintro e w3 ⟨rfl, hb3⟩))
    go_ret
    exact ⟨rfl, hb3⟩
  have hn' : n ≤ 120 := by omega
  clear hn
  have hzr := zeroRef
  obtain ⟨Z, hZ⟩ : ∃ Z, Z = cellsF 112 (rcF po0 0 N0) := ⟨_, rfl⟩
  rw [← hZ] at hzr
  have HZZ := Lib.hid hZ
  clear hZ
  go_enter Try.func3, Try.ntmps3
  go_upto_region 4 with (first
    | (go_at_call 5; refine (new_any _).mono ?_; rintro e w1 ⟨rfl, ha1, hb1⟩; have hl1 := ha1.lt; have HA1 := Lib.hid ha1; have HB1 := Lib.hid hb1; clear ha1 hb1))
  clear hzr
  obtain ⟨w2, hw2⟩ : ∃ y, y = w1.alloc (.cells Z 33) := ⟨_, rfl⟩
  have hb2 : Below w1.heap.size w1 w2 := hw2 ▸ bal (Below.refl _ _) _
  have HR2 := Lib.hid (show RefAt w2 w1.heap.size po0 0 N0 from ⟨by rw [hw2, ← HZZ.out]; exact World.alloc_heap_new _ _⟩)
  have HA2 := Lib.hid (HA1.out.call hb2)
  have HB2 := Lib.hid (bgo HB1.out hb2)
  rw [← hw2]
  clear hw2 hb2 HA1 HB1
  obtain ⟨R, hR⟩ : ∃ R, R = w1.heap.size := ⟨_, rfl⟩
  rw [← hR] at HR2 hl1 ⊢
  clear hR
  obtain ⟨A, hA⟩ : ∃ A, A = W.heap.size := ⟨_, rfl⟩
  rw [← hA] at HA2 hl1 ⊢
  have HEA := Lib.hid hA
  clear hA
  go_wp2
  go_loopw [5] (fun i wr => ∃ (k : Nat) (po : Nat → Int) (tk : Int) (N : Nums), k ≤ n ∧ i = .int .i64 k ∧ Hid (AsidAt wr A po tk N) ∧ Hid (RefAt wr R po tk N) ∧ Hid (Inv po tk N) ∧ Hid (Below W.heap.size W wr)) (fun i _ => n - (intOf i).toNat)
  case atStart => exact ⟨0, po0, 0, N0, by omega, rfl, HA2, HR2, Lib.hid inv_0, HB2⟩
  case round =>
    obtain ⟨k, po, tk, N, hk, rfl, HA, HR, HI, HB⟩ := hrel
    clear HA2 HR2 HB2
    by_cases hlt : k < n
    · obtain ⟨rfl, hpb⟩ := HP.out (by omega)
      obtain ⟨⟨c0, c1, c2⟩, -, -, -⟩ := HD.out k hlt
      obtain ⟨⟨xd, xa, xb⟩, hx⟩ : ∃ x, D k = x := ⟨_, rfl⟩
      rw [hx] at c0 c1 c2
      simp only at c0 c1 c2
      have e0 := (HB.out.cell (p := ⟨pb, off + k * 3, none⟩) hpb).trans c0
      have e1 := (HB.out.cell (p := ⟨pb, off + k * 3 + 1, none⟩) hpb).trans c1
      have e2 := (HB.out.cell (p := ⟨pb, off + k * 3 + 2, none⟩) hpb).trans c2
      clear c0 c1 c2 hx
      have hzR := HR.out.lt
      go_upto_region 10 with fail
      obtain ⟨wa, hwa⟩ : ∃ y, y = wr.alloc (.cells #[.int .i64 xd, .int .i64 xa, .int .i64 xb] 35) := ⟨_, rfl⟩
      have hba : Below wr.heap.size wr wa := hwa ▸ bal (Below.refl _ _) _
      have x0 : wa.cell? ⟨wr.heap.size, 0, none⟩ = some (.int .i64 xd) := by rw [hwa]; go_simp
      have x1 : wa.cell? ⟨wr.heap.size, 1, none⟩ = some (.int .i64 xa) := by rw [hwa]; go_simp
      have x2 : wa.cell? ⟨wr.heap.size, 2, none⟩ = some (.int .i64 xb) := by rw [hwa]; go_simp
      have HS := Lib.hid (show St wa A R wr.heap.size po tk N xa xb from ⟨HA.out.call hba, HR.out.call hba, HI.out, x1, x2, by rw [hwa]; simp⟩)
      have HBa := Lib.hid (HB.out.trans (hba.mono HB.out.size))
      rw [← hwa]
      clear hwa hba e0 e1 e2 HA HR HB
      obtain ⟨X, hX⟩ : ∃ X, X = wr.heap.size := ⟨_, rfl⟩
      rw [← hX] at HS x0 x1 x2 hzR ⊢
      clear hX
      have hAW : A = W.heap.size := HEA.out
      have HAW := Lib.hid hAW
      clear hAW
      go_upto_block 2 with fail
      go_cut [7, 8, 9, 10, 11, 12, 13, 14, 15, 16, 17, 18, 19, 20, 21, 22, 23, 24, 25] from 47 to 244 (fun okv _ _ _ _ _ _ _ _ _ _ _ _ _ _ _ _ _ _ wc => okv = .bool true ∧ ∃ (po' : Nat → Int) (tk' : Int) (N' : Nums), Hid (St wc A R X po' tk' N' xa xb) ∧ Hid (Below W.heap.size W wc))
      case first =>
        by_cases d0 : xd = 0
        · as_aux_lemma =>
            subst d0
            have hI := HI.out
            go_wp2_with (first
              | (go_at_call 6; refine (addPool_any _ A po tk N xa HS.out.asid hI.t0 hI.t8).mono ?_; rintro e w2 ⟨rfl, ha2, ho2⟩; have HA2 := Lib.hid ha2; have HO2 := Lib.hid ho2; have hm := HS.out.mid hl1 hzR ho2; have HM := Lib.hid hm.1; have x1 := hm.2.1; have x2 := hm.2.2; clear ha2 ho2 hm)
              | (go_at_call 7; refine (refadd_any _ R po tk N xa HM.out HI.out).mono ?_; rintro e w3 ⟨rfl, hr3, ho3⟩; have HBa := Lib.hid (HBa.out.trans ((HO2.out.below (Nat.le_of_eq HAW.out.symm) HS.out.asid.lt).trans (ho3.below (by have := HAW.out; omega) HM.out.lt))); have HS := Lib.hid (HS.out.both hl1 hzR HA2.out HO2.out hr3 ho3 (inv_add HI.out xa)); have x1 := HS.out.x1; have x2 := HS.out.x2; clear hr3 ho3)
              | (go_at_call 8; refine (num_any _ _).mono ?_; rintro e w5 ⟨rfl, rfl⟩))
            go_meet
            exact ⟨rfl, _, _, _, HS, HBa⟩
        by_cases d1 : xd = 1
        · as_aux_lemma =>
            subst d1
            clear d0
            have hdl := Lib.hid (drop_len po N xa)
            obtain ⟨er, her⟩ : ∃ er, (if (placeF po xa).2 = true then (0 : Int) else 2) = er := ⟨_, rfl⟩
            have HER := Lib.hid her
            clear her
            go_wp2_with (first
              | (go_at_call 9; refine (dropPool_any _ A po tk N xa HS.out.asid).mono ?_; rw [HER.out]; rintro e w2 ⟨v1, rfl, hv1, ha2, ho2⟩; have HA2 := Lib.hid ha2; have HO2 := Lib.hid ho2; have HV1 := Lib.hid hv1; have hm := HS.out.mid hl1 hzR ho2; have HM := Lib.hid hm.1; have x1 := hm.2.1; have x2 := hm.2.2; clear ha2 ho2 hm hv1)
              | (go_at_call 10; refine (refdrop_any _ R po tk N xa HM.out HI.out).mono ?_; rw [HER.out]; rintro e w3 ⟨v2, rfl, hv2, hr3, ho3⟩; have HV2 := Lib.hid hv2; have HBa := Lib.hid (HBa.out.trans ((HO2.out.below (Nat.le_of_eq HAW.out.symm) HS.out.asid.lt).trans (ho3.below (by have := HAW.out; omega) HM.out.lt))); have HV1 := Lib.hid (row_other HV1.out ho3 (Nat.lt_trans hzR HS.out.lt)); have HXL := Lib.hid HS.out.lt; have HS := Lib.hid (HS.out.both hl1 hzR HA2.out HO2.out hr3 ho3 (inv_drop HI.out xa)); have x1 := HS.out.x1; have x2 := HS.out.x2; clear hr3 ho3 hv2)
              | (go_at_call 11; refine (same_own hdl.out HV1.out HV2.out).mono ?_; rintro e w4 ⟨rfl, hb⟩; have HV1 := Lib.hid (row_below HV1.out hb); have HBa := Lib.hid (HBa.out.trans (hb.mono HBa.out.size)); have HS := Lib.hid (HS.out.call hb); have x1 := HS.out.x1; have x2 := HS.out.x2; clear hb)
              | (go_at_call 12; refine (over_own hdl.out HV1.out).mono ?_; rintro e w5 ⟨⟨r5, rfl⟩, hg⟩; have hrB := fun j ej => (HV1.out.lt j ej).1; have HBa := Lib.hid (HBa.out.trans (show Below W.heap.size _ _ from ⟨hg.os, hg.tape, hg.output, hg.size, fun q hq => hg.block q (Nat.lt_of_lt_of_le hq HBa.out.size) (fun e => by have := hrB q e.symm; have := HXL.out; have := HAW.out; omega)⟩)); have HS := Lib.hid (HS.out.grown hl1 hzR HXL.out hg hrB); have x1 := HS.out.x1; have x2 := HS.out.x2; clear hg hrB)
              | (go_at_call 8; refine (num_any _ _).mono ?_; rintro e w5 ⟨rfl, rfl⟩))
            go_meet
            exact ⟨rfl, _, _, _, HS, HBa⟩
        by_cases d2 : xd = 2
        · as_aux_lemma =>
            subst d2
            clear d0 d1
            go_wp2_with (first
              | (go_at_call 13; refine (assign_any _ A po tk N xa xb HS.out.asid HI.out.ok).mono ?_; rintro e w2 ⟨rfl, ha2, ho2⟩; have HA2 := Lib.hid ha2; have HO2 := Lib.hid ho2; have hm := HS.out.mid hl1 hzR ho2; have HM := Lib.hid hm.1; have x1 := hm.2.1; have x2 := hm.2.2; clear ha2 ho2 hm)
              | (go_at_call 14; refine (refassign_any _ R po tk N xa xb HM.out HI.out).mono ?_; rintro e w3 ⟨rfl, hr3, ho3⟩; have HBa := Lib.hid (HBa.out.trans ((HO2.out.below (Nat.le_of_eq HAW.out.symm) HS.out.asid.lt).trans (ho3.below (by have := HAW.out; omega) HM.out.lt))); have HS := Lib.hid (HS.out.both hl1 hzR HA2.out HO2.out hr3 ho3 (inv_assign HI.out xa xb)); have x1 := HS.out.x1; have x2 := HS.out.x2; clear hr3 ho3)
              | (go_at_call 8; refine (num_any _ _).mono ?_; rintro e w5 ⟨rfl, rfl⟩))
            go_meet
            exact ⟨rfl, _, _, _, HS, HBa⟩
        by_cases d3 : xd = 3
        · as_aux_lemma =>
            subst d3
            clear d0 d1 d2
            go_wp2_with (first
              | (go_at_call 15; refine (unassign_any _ A po tk N xb HS.out.asid).mono ?_; rintro e w2 ⟨rfl, ha2, ho2⟩; have HA2 := Lib.hid ha2; have HO2 := Lib.hid ho2; have hm := HS.out.mid hl1 hzR ho2; have HM := Lib.hid hm.1; have x1 := hm.2.1; have x2 := hm.2.2; clear ha2 ho2 hm)
              | (go_at_call 16; refine (refunassign_any _ R po tk N xb HM.out HI.out).mono ?_; rintro e w3 ⟨rfl, hr3, ho3⟩; have HBa := Lib.hid (HBa.out.trans ((HO2.out.below (Nat.le_of_eq HAW.out.symm) HS.out.asid.lt).trans (ho3.below (by have := HAW.out; omega) HM.out.lt))); have HS := Lib.hid (HS.out.both hl1 hzR HA2.out HO2.out hr3 ho3 (inv_unassign HI.out xb)); have x1 := HS.out.x1; have x2 := HS.out.x2; clear hr3 ho3)
              | (go_at_call 8; refine (num_any _ _).mono ?_; rintro e w5 ⟨rfl, rfl⟩))
            go_meet
            exact ⟨rfl, _, _, _, HS, HBa⟩
        go_wp2
        go_meet
        exact ⟨rfl, _, _, _, HS, HBa⟩
      case rest =>
        as_aux_lemma =>
          clear HS HBa x0 x1 x2 HI
          obtain ⟨rfl, po', tk', N', HS, HBa⟩ := hcut
          have x1 := HS.out.x1
          have x2 := HS.out.x2
          go_wp2_with (first
            | (go_at_call 17; refine (of_any _ A _ _ _ xb HS.out.asid).mono ?_; rintro e w6 ⟨rfl, hb⟩; have HBa := Lib.hid (HBa.out.trans (hb.mono HBa.out.size)); have HS := Lib.hid (HS.out.call hb); have x1 := HS.out.x1; have x2 := HS.out.x2; clear hb)
            | (go_at_call 18; refine (refof_any _ R _ _ _ xb HS.out.ref HS.out.inv).mono ?_; rintro e w6 ⟨rfl, hb⟩; have HBa := Lib.hid (HBa.out.trans (hb.mono HBa.out.size)); have HS := Lib.hid (HS.out.call hb); have x1 := HS.out.x1; have x2 := HS.out.x2; clear hb)
            | (go_at_call 19; refine (root_any _ A _ _ _ xa HS.out.asid).mono ?_; rintro e w6 ⟨rfl, hb⟩; have HBa := Lib.hid (HBa.out.trans (hb.mono HBa.out.size)); have HS := Lib.hid (HS.out.call hb); have x1 := HS.out.x1; have x2 := HS.out.x2; clear hb)
            | (go_at_call 20; refine (refroot_any _ R _ _ _ xa HS.out.ref HS.out.inv).mono ?_; rintro e w9 ⟨rfl, hb⟩; have HBa := Lib.hid (HBa.out.trans (hb.mono HBa.out.size)); have HS := Lib.hid (HS.out.call hb); clear hb))
          have RS := Lib.hid (fun w' (hw : KeptQ w9.heap.size w9 w') => HS.out.call hw.1)
          obtain ⟨PV, hPV⟩ : ∃ PV, PV = cellsF 80 (rcF po' tk' N') := ⟨_, rfl⟩
          have hne := nePools po' tk' N'
          rw [← hPV] at hne
          have RL := Lib.hid (fun w' (hw : KeptQ w9.heap.size w9 w') => ref_load (HS.out.call hw.1).ref)
          rw [← hPV] at RL
          have HPV := Lib.hid hPV
          clear hPV
          have RB := Lib.hid (fun w' (hw : KeptQ w9.heap.size w9 w') => HBa.out.trans (hw.1.mono HBa.out.size))
          refine wp_region_keptQ w9.heap.size w9 (by kernel_rfl) (by kernel_rfl) (KeptQ.refl (Nat.le_refl _)) ?_
          repeat (first
            | go_big_quiet_skip
            | (go_big_quiet_want; first
              | (refine quietQ_load_varA 30 _ rfl ⟨R, 0, none⟩ rfl _ RL.out ?_; simp only [Act.put, List.setIfInBounds_toArray, List.set_cons_zero, List.set_cons_succ]; go_big_quiet_on)
              | (go_big_quiet_op; first
                | go_big_quiet_on
                | (refine ⟨_, fun _ _ => rfl, ?_⟩; go_big_quiet_on)
                | go_big_quiet_call ((intro hw; first
                  | (go_at_call 21; refine (pools_any _ A _ _ _ (RS.out _ hw).asid (RS.out _ hw).inv).mono ?_; rw [← HPV.out]; rintro e w7 ⟨rfl, hb⟩; exact ⟨rfl, hw.call hb⟩))))))
          refine wpQuiet_nil ?_
          intro w7 hw7
          have HS7 := Lib.hid (RS.out _ hw7)
          have HB7 := Lib.hid (RB.out _ hw7)
          clear RS RL RB hw7 hne
          go_wp2
          go_roundw
          case rel => first | exact ⟨k + 1, _, _, _, by omega, by go_num, Lib.hid HS7.out.asid, Lib.hid HS7.out.ref, Lib.hid HS7.out.inv, HB7⟩ | ((repeat apply Exists.intro); exact ⟨⟨k + 1, _, _, _, by omega, by go_num, Lib.hid HS7.out.asid, Lib.hid HS7.out.ref, Lib.hid HS7.out.inv, HB7⟩, rfl⟩)
          case measure => first | (simp [intOf]; done) | (simp [intOf]; omega)
    · as_aux_lemma =>
        obtain rfl : k = n := by omega
        go_wp2
        have hwA := HA.out
        have hwR := HR.out
        have RA := Lib.hid (fun w' (hw : KeptQ wr.heap.size wr w') => hwA.call hw.1)
        have RL := Lib.hid (fun w' (hw : KeptQ wr.heap.size wr w') => ref_load (hwR.call hw.1))
        have RB := Lib.hid (fun w' (hw : KeptQ wr.heap.size wr w') => HB.out.trans (hw.1.mono HB.out.size))
        obtain ⟨PV, hPV⟩ : ∃ PV, PV = cellsF 80 (rcF po tk N) := ⟨_, rfl⟩
        have heq := eqPools po tk N
        rw [← hPV] at heq RL
        have HPV := Lib.hid hPV
        clear hPV
        clear hwA hwR
        refine wp_region_keptQ wr.heap.size wr (by kernel_rfl) (by kernel_rfl) (KeptQ.refl (Nat.le_refl _)) ?_
        repeat (first
          | go_big_quiet_skip
          | (go_big_quiet_want; first
            | (refine quietQ_load_varA 30 _ rfl ⟨R, 0, none⟩ rfl _ RL.out ?_; simp only [Act.put, List.setIfInBounds_toArray, List.set_cons_zero, List.set_cons_succ]; go_big_quiet_on)
            | (go_big_quiet_op; first
              | go_big_quiet_on
              | (refine ⟨_, fun _ _ => rfl, ?_⟩; go_big_quiet_on)
              | go_big_quiet_call ((intro hw; first
                | (go_at_call 21; refine (pools_any _ A _ _ _ (RA.out _ hw) HI.out).mono ?_; rw [← HPV.out]; rintro e w7 ⟨rfl, hb⟩; exact ⟨rfl, hw.call hb⟩)
                | (go_at_call 4; refine (awake19 _).mono ?_; rintro e w7 ⟨rfl, hb⟩; exact ⟨rfl, hw.call hb⟩))))))
        refine wpQuiet_nil ?_
        intro w7 hw7
        have HB7 := Lib.hid (RB.out _ hw7)
        clear RA RL RB hw7 heq
        go_wp2
        go_ret
        exact ⟨rfl, HB7.out⟩
end Go.Proofs.Ytfladcnkphcicaa
