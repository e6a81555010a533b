/- The law CoresDown. -/
import Derived.Test.YtedapbliebiblaaCoE
import Derived.Test.YtedapbliebiblaaKq
namespace Go.Proofs.Ytedapbliebiblaa
set_option linter.unusedVariables false
set_option linter.unusedSimpArgs false
open Go.ChangeShapes Go.WideShapes Go.ChangeAt Go.RowKit Go.Shelf

section
variable {P : Program} {o : Oper} {a : Act} {C : World → Prop}
theorem quietQ_load_var {K : Act → Prop} (ty : TypeId) (x : Operand) (ho : o.op = .load ty x) (p : Addr) (hx : a.eval x = .pointer (some p)) (v : Value) (hc : ∀ w, C w → (loadVar ty p).run P w = .ok v w)
    (hk : K (a.put o.dst v)) : o.quiet P a C K := by
  refine ⟨_, fun w hw => ?_, hk⟩
  have hrun := hc w hw
  unfold Oper.quietAt execOp
  simp only [ho, hx, Instr.loadAt, Instr.sureAddr, Sem.run_bind, Sem.run_pure, Result.andThen_ok, hrun]
  exact ⟨rfl, rfl⟩
end
theorem neTr (s p : Int) (w : World) : (binOp .neq 52 (.agg #[.int .i64 s, .int .i64 p, .int .i64 3, .bool true, .bool false]) (.agg #[.int .i64 s, .int .i64 p, .int .i64 3, .bool true, .bool false])).run Try.prog w = .ok (.bool false) w := by
  go_simp
  try simp
theorem loadTr (w : World) (g i : Nat) (s p : Int) (h : TCells w g i ⟨s, p, 3, true, false⟩) : (loadVar 52 ⟨g, i * 5, none⟩).run Try.prog w = .ok (.agg #[.int .i64 s, .int .i64 p, .int .i64 3, .bool true, .bool false]) w := by
  obtain ⟨c0, c1, c2, c3, c4⟩ := h
  go_simp
/-- The space of core i, less one. -/
def spN (which : Int) (i : Nat) : Nat := (lowI (which / 2 ^ i) 2).toNat
theorem spN_lt (which : Int) (i : Nat) : spN which i < 2 := by
  unfold spN
  have h0 := lowI_0 (which / 2 ^ i) 2 (by decide)
  have h1 := lowI_1 (which / 2 ^ i) 2 (by decide)
  omega
theorem spN_low (which : Int) (i : Nat) : lowI (which / 2 ^ i) 2 = (spN which i : Int) := by
  unfold spN
  have h0 := lowI_0 (which / 2 ^ i) 2 (by decide)
  omega
def RkD (k : Nat) : Nat → Int := fun i => if i < k then 0 else -1
def QkD (which : Int) (k : Nat) : Nat → Int := fun i => if i < k then (spN which i : Int) + 1 else 0
def SkD (which : Int) (P Q k : Nat) : Nat → TS := fun i => if i < k then stD ((spN which i : Int) + 1) P Q else S0
def cntD (which : Int) : Nat → Nat
  | 0 => 0
  | k + 1 => cntD which k + if spN which k = 0 then 1 else 0
theorem RkD_succ (k : Nat) : setR (RkD k) k 0 = RkD (k + 1) := by
  funext i
  unfold setR RkD
  by_cases h : i = k
  · rw [if_pos h, if_pos (by omega)]
  · rw [if_neg h]
    by_cases h2 : i < k
    · rw [if_pos h2, if_pos (by omega)]
    · rw [if_neg h2, if_neg (by omega)]
theorem QkD_succ (which : Int) (k : Nat) : setR (QkD which k) k ((spN which k : Int) + 1) = QkD which (k + 1) := by
  funext i
  unfold setR QkD
  by_cases h : i = k
  · rw [if_pos h, if_pos (by omega), h]
  · rw [if_neg h]
    by_cases h2 : i < k
    · rw [if_pos h2, if_pos (by omega)]
    · rw [if_neg h2, if_neg (by omega)]
theorem SkD_succ (which : Int) (P Q k : Nat) : setT (SkD which P Q k) k (stD ((spN which k : Int) + 1) P Q) = SkD which P Q (k + 1) := by
  funext i
  unfold setT SkD
  by_cases h : i = k
  · rw [if_pos h, if_pos (by omega), h]
  · rw [if_neg h]
    by_cases h2 : i < k
    · rw [if_pos h2, if_pos (by omega)]
    · rw [if_neg h2, if_neg (by omega)]
theorem setT_setT (S : Nat → TS) (k : Nat) (a b : TS) : setT (setT S k a) k b = setT S k b := by
  funext i
  unfold setT
  by_cases h : i = k
  · rw [if_pos h, if_pos h]
  · rw [if_neg h, if_neg h, if_neg h]
theorem dropL_cnt {n : Nat} (S : Nat → TS) (out : TransX → Bool) (f : Nat → Nat) (hf : ∀ i, i < n → (dropF (S i) out (fullP (S i) 8)).2 = f i) : ∀ k, k ≤ n → (dropL S out (frs n k)).2 = ((List.range k).map f).sum
  | 0, _ => by simp [frs, dropL]
  | k + 1, hk => by
    have ih := dropL_cnt S out f hf k (by omega)
    rw [frs_succ (l0 := n) (k := k) (by omega), dropL_snoc]
    simp only [List.range_succ, List.map_append, List.sum_append, List.map_cons, List.map_nil, List.sum_cons, List.sum_nil, Nat.add_zero]
    rw [ih]
    congr 1
    rw [dropL_at S out k (by omega) k, if_neg (Nat.lt_irrefl _)]
    exact hf k (by omega)
/-- Prefetch of a page that is not in the cache, out of the eight leaves. -/
theorem cpf4 (w : World) (b g n c k : Nat) (R Q : Nat → Int) (T : Nat → Nat) (S : Nat → TS) (mb mg mc : Nat) (P : Nat) (s : Int) (h : CoresAt w b g n c R Q T S) (hk : k < n) (hM : MemAt w mb mg 4 mc (mF 8)) (hr : R k = 0) (hq : Q k = s) (hP : P < 8) (hf : (findS (S k) s (P : Int)).2 = false) :
    Calls Try.prog 22 #[.pointer (some ⟨b, 0, none⟩), .int .i64 k, .pointer (some ⟨mb, 0, none⟩), .int .i64 P] w fun e w' => e = .returned (.bool true) ∧ CoresAt w' b g n c R Q T (setT S k (fillS (S k) (lf s P))) ∧ TlbOnly (T k) w w' := by
  have h := cpref_ok w b g n c k R Q T S mb mg 4 mc (mF 8) (P : Int) h hk hM (by rw [hr]; decide) (by omega) (by omega)
  rw [hr, hq, trans4 hP hf] at h
  exact h
theorem SkD_at (which : Int) (P Q k : Nat) : SkD which P Q k k = S0 := by unfold SkD; rw [if_neg (Nat.lt_irrefl _)]
theorem quo_in (a : Int) (k : Nat) (hk : k < 3) (h : -9223372036854775808 ≤ a ∧ a ≤ 9223372036854775807) : -9223372036854775808 ≤ a / 2 ^ k ∧ a / 2 ^ k ≤ 9223372036854775807 := by
  obtain rfl | rfl | rfl : k = 0 ∨ k = 1 ∨ k = 2 := by omega
  all_goals omega
theorem set_down {w' : World} {b g k : Nat} {a0 s : Int} {T : Nat → Nat} {S : Nat → TS} (h : CoresAt w' b g 3 3 (setR (RkD k) k 0) (setR (QkD a0 k) k s) T S) (hs : s = (spN a0 k : Int) + 1) : CoresAt w' b g 3 3 (RkD (k + 1)) (QkD a0 (k + 1)) T S := by
  rw [RkD_succ, hs, QkD_succ] at h
  exact h
theorem RkD_at (k : Nat) : RkD (k + 1) k = 0 := by unfold RkD; rw [if_pos (by omega)]
theorem QkD_at (a0 : Int) (k : Nat) : QkD a0 (k + 1) k = (spN a0 k : Int) + 1 := by unfold QkD; rw [if_pos (by omega)]
theorem st_down {w : World} {b g k P Q : Nat} {a0 s : Int} {R R' : Nat → Int} {T : Nat → Nat} {x : TS} {y : TransX} (h : CoresAt w b g 3 3 R R' T (setT (setT (SkD a0 P Q k) k x) k (fillS (setT (SkD a0 P Q k) k x k) y))) (he : stD s P Q = fillS x y) (hs : spN a0 k + 1 = s) : CoresAt w b g 3 3 R R' T (SkD a0 P Q (k + 1)) := by
  have e : setT (SkD a0 P Q k) k x k = x := by unfold setT; rw [if_pos rfl]
  rw [e, setT_setT, ← he, ← hs, SkD_succ] at h
  exact h
theorem st_down1 {w : World} {b g k P : Nat} {a0 s : Int} {R R' : Nat → Int} {T : Nat → Nat} (h : CoresAt w b g 3 3 R R' T (setT (SkD a0 P P k) k (fillS S0 (lf s P)))) (hs : spN a0 k + 1 = s) : CoresAt w b g 3 3 R R' T (SkD a0 P P (k + 1)) := by
  have e : stD s P P = fillS S0 (lf s P) := by unfold stD; rw [if_pos rfl]
  rw [← e, ← hs, SkD_succ] at h
  exact h
theorem SkD_in (a0 : Int) (P Q k i : Nat) (h : i < k) : SkD a0 P Q k i = stD ((spN a0 i : Int) + 1) P Q := by unfold SkD; rw [if_pos h]
def dl1 (a0 : Int) (P Q : Nat) : (Nat → TS) × Nat := dropL (SkD a0 P Q 3) (pageOut 1 (P : Int)) (frs 3 3)
def dl2 (a0 : Int) (P Q : Nat) : (Nat → TS) × Nat := dropL (dl1 a0 P Q).1 (pageOut 1 (P : Int)) (frs 3 3)
theorem dl1_at (a0 : Int) {P Q : Nat} (i : Nat) (h : i < 3) : (dl1 a0 P Q).1 i = (drD ((spN a0 i : Int) + 1) P Q).1 := by
  unfold dl1
  rw [dropL_at _ _ 3 (Nat.le_refl _) i, if_pos h, SkD_in a0 P Q 3 i h]
  rfl
theorem dl1_n (a0 : Int) {P Q : Nat} (hP : P < 8) (hQ : Q < 8) : (dl1 a0 P Q).2 = cntD a0 3 := by
  unfold dl1
  rw [dropL_cnt _ _ (fun i => if spN a0 i = 0 then 1 else 0) (fun i hi => by rw [SkD_in a0 P Q 3 i hi]; exact drop4_n P hP Q hQ _ (spN_lt a0 i)) 3 (Nat.le_refl _)]
  simp [List.range_succ, cntD, Nat.add_assoc]
theorem dl2_n (a0 : Int) {P Q : Nat} (hP : P < 8) (hQ : Q < 8) : (dl2 a0 P Q).2 = 0 := by
  unfold dl2
  rw [dropL_cnt _ _ (fun i => 0) (fun i hi => by rw [dl1_at a0 i hi]; exact drop4_2 P hP Q hQ _ (spN_lt a0 i)) 3 (Nat.le_refl _)]
  simp [List.range_succ]
theorem dl2_at (a0 : Int) {P Q : Nat} (i : Nat) (h : i < 3) : (dl2 a0 P Q).1 i = d2D ((spN a0 i : Int) + 1) P Q := by
  unfold dl2
  rw [dropL_at _ _ 3 (Nat.le_refl _) i, if_pos h, dl1_at a0 i h]
  rfl
theorem OnlyT.whole {n : Nat} {T : Nat → Nat} {D : Nat} {a d : World} (h : OnlyT n T a d) (hT : ∀ i, i < n → D ≤ T i) (hs : D ≤ a.heap.size) : Below D a d := h.below hs hT
theorem setT_at (S : Nat → TS) (k : Nat) (s : TS) : setT S k s k = s := by unfold setT; rw [if_pos rfl]
set_option maxRecDepth 100000 in
set_option maxHeartbeats 8000000 in
theorem walk_coresDown (a0 : Int) (w0 : (Lit.int .i64 a0).wf = true) (a1 : Int) (w1 : (Lit.int .i64 a1).wf = true) (a2 : Int) (w2 : (Lit.int .i64 a2).wf = true) (W : World) :
    Calls Try.prog 8 #[.int .i64 a0, .int .i64 a1, .int .i64 a2] W fun e w' => e = .returned (.bool true) ∧ Below W.heap.size W w' := by
  have HA0 := Lib.hid (show -9223372036854775808 ≤ a0 ∧ a0 ≤ 9223372036854775807 from i64_of w0)
  have HA1 := Lib.hid (show -9223372036854775808 ≤ a1 ∧ a1 ≤ 9223372036854775807 from i64_of w1)
  have HA2 := Lib.hid (show -9223372036854775808 ≤ a2 ∧ a2 ≤ 9223372036854775807 from i64_of w2)
  clear w0 w1 w2
  have hv257 : WordI 257 := ⟨by decide, by decide⟩
  have hv513 : WordI 513 := ⟨by decide, by decide⟩
  have hv775 : WordI 775 := ⟨by decide, by decide⟩
  have p0 := lowI_0 a1 8 (by decide)
  have p1 := lowI_1 a1 8 (by decide)
  obtain ⟨P, hP⟩ : ∃ q : Nat, lowI a1 8 = q := ⟨(lowI a1 8).toNat, by omega⟩
  rw [hP] at p0 p1
  have HPP := Lib.hid hP
  have q0 := lowI_0 a2 8 (by decide)
  have q1 := lowI_1 a2 8 (by decide)
  obtain ⟨Q, hQ⟩ : ∃ q : Nat, lowI a2 8 = q := ⟨(lowI a2 8).toNat, by omega⟩
  rw [hQ] at q0 q1
  have HQQ := Lib.hid hQ
  clear hP hQ
  go_enter Try.func8, Try.ntmps8
  go_wp2_with (fail)
  refine (new_ok _ 4 (by decide) (by decide)).mono ?_
  rintro e w1 ⟨mb, mg, mc, rfl, hm1, hb1, hg1, hw1⟩
  have HM1 := Lib.hid hm1
  have lmg := hm1.lg
  have lmb := hm1.lb
  clear hm1
  go_wp2_with (fail)
  refine (cnew_ok _ 3 (by decide) (by decide)).mono ?_
  rintro e w2 ⟨b, g, T, rfl, hc2, hb2, hg2, ht2, hw2⟩
  have HC2 := Lib.hid hc2
  have HT := Lib.hid ht2
  have HM2 := Lib.hid (HM1.out.call hw2)
  have hTm : ∀ i, i < 3 → T i ≠ mg := fun i hi => by have := ht2 i hi; omega
  have HTM := Lib.hid hTm
  have hbm : b ≠ mg := by omega
  have hgm : g ≠ mg := by omega
  clear hc2 ht2 hTm
  go_wp2_with (first
    | (go_at_call 15; with_reducible refine (store_at w2 mb mg 4 mc _ 0 0 257 HM2.out (by decide) (by decide) hv257).mono ?_; rintro e w4 ⟨rfl, hm4, ho4⟩; have HM4 := Lib.hid hm4; have HO4 := Lib.hid ho4; have HC4 := Lib.hid (HC2.out.blk ho4 hbm hgm HTM.out); clear hm4 ho4)
    | (go_at_call 15; with_reducible refine (store_at w4 mb mg 4 mc _ 64 8 513 HM4.out (by decide) (by decide) hv513).mono ?_; rintro e w5 ⟨rfl, hm5, ho5⟩; have HM5 := Lib.hid hm5; have HO5 := Lib.hid ho5; have HC5 := Lib.hid (HC4.out.blk ho5 hbm hgm HTM.out); clear hm5 ho5))
  have B2 := bgo hw1 hw2
  have B5 : Below W.heap.size W w5 := (B2.trans (HO4.out.below hg1 (by have := hw2.size; omega))).trans (HO5.out.below hg1 (by have := hw2.size; have := HO4.out.size; omega))
  have hm5 := HM5.out
  rw [mF_0] at hm5
  have HM5' := Lib.hid hm5
  clear HM1 HM2 HM4 HM5 HC2 HC4 HO4 HO5 B2 hm5 hv257 hv513
  go_loopw [11] (fun i wr => ∃ k : Nat, k ≤ 8 ∧ i = .int .u64 k ∧ Hid (MemAt wr mb mg 4 mc (mF k)) ∧ Hid (CoresAt wr b g 3 3 (fun _ => -1) (fun _ => 0) T (fun _ => S0)) ∧ Below W.heap.size W wr) (fun i _ => 8 - (intOf i).toNat)
  case atStart => exact ⟨0, by omega, rfl, HM5', HC5, B5⟩
  case round =>
    clear HM5' HC5 B5
    obtain ⟨k, hk, rfl, HM, HC, hB⟩ := hrel
    by_cases hlt : k < 8
    · go_wp2_with (first
        | (go_at_call 15; refine (store_at wr mb mg 4 mc _ _ (16 + k) 775 HM.out (by omega) (by omega) hv775).mono ?_; rintro e w6 ⟨rfl, hm6, ho6⟩; have HM6 := Lib.hid hm6; have HO6 := Lib.hid ho6; clear hm6 ho6))
      go_roundw
      case rel => exact ⟨k + 1, by omega, by go_num, Lib.hid (by rw [← mF_succ]; exact HM6.out), Lib.hid (HC.out.blk HO6.out hbm hgm HTM.out), hB.trans (HO6.out.below hg1 HM.out.lg)⟩
      case measure => simp [intOf]; omega
    · obtain rfl : k = 8 := by omega
      have HC0 : Hid (CoresAt wr b g 3 3 (RkD 0) (QkD a0 0) T (SkD a0 P Q 0)) := HC
      clear HC
      have h8a : (0 : Int) < 8 := by decide
      have h8b : (8 : Int) ≤ 1000000 := by decide
      go_wp2_with (first
        | (go_at_call 20; (with_reducible refine (low_any a1 8 _ HA1.out h8a h8b).mono ?_); rw [HPP.out]; rintro e w7 ⟨rfl, rfl⟩)
        | (go_at_call 20; (with_reducible refine (low_any a2 8 _ HA2.out h8a h8b).mono ?_); rw [HQQ.out]; rintro e w8 ⟨rfl, rfl⟩))
      go_loopw [14, 15] (fun c i wr => ∃ k : Nat, k ≤ 3 ∧ c = .int .i64 (cntD a0 k) ∧ i = .int .i64 k ∧ Hid (MemAt wr mb mg 4 mc (mF 8)) ∧ Hid (CoresAt wr b g 3 3 (RkD k) (QkD a0 k) T (SkD a0 P Q k)) ∧ Below W.heap.size W wr) (fun _ i _ => 3 - (intOf i).toNat)
      case atStart => exact ⟨0, by omega, rfl, rfl, HM, HC0, hB⟩
      case round =>
        clear HM HC0 hB
        obtain ⟨k, hk, rfl, rfl, HM, HC, hB⟩ := hrel
        by_cases hlt : k < 3
        · have hlt' : (k : Int) < 3 := by omega
          obtain ⟨sN, hsN⟩ : ∃ x, spN a0 k = x := ⟨_, rfl⟩
          have hs2 : sN < 2 := hsN ▸ spN_lt a0 k
          have HSN := Lib.hid hsN
          have HLOW : Hid (lowI (a0 / 2 ^ k) 2 = (sN : Int)) := Lib.hid (by rw [spN_low, hsN])
          have HQB := Lib.hid (quo_in a0 k hlt HA0.out)
          have h2a : (0 : Int) < 2 := by decide
          have h2b : (2 : Int) ≤ 1000000 := by decide
          have hPn : P < 8 := by omega
          have hQn : Q < 8 := by omega
          have hcnt : cntD a0 k ≤ k := by
            have : ∀ m, cntD a0 m ≤ m := fun m => by
              induction m with
              | zero => exact Nat.le_refl _
              | succ m ih => unfold cntD; split <;> omega
            exact this k
          have hcs : cntD a0 (k + 1) = cntD a0 k + if sN = 0 then 1 else 0 := by rw [← hsN]; rfl
          have HCS := Lib.hid hcs
          obtain ⟨cn, hcn⟩ : ∃ x, cntD a0 k = x := ⟨_, rfl⟩
          have HCN := Lib.hid hcn
          rw [hcn] at hcnt
          clear hsN hcs
          rw [hcn]
          clear hcn
          by_cases hPQ : P = Q
          · subst hPQ
            clear q0 q1
            go_wp2_with (first
              | (go_at_call 20; refine (low_any (a0 / 2 ^ k) 2 _ HQB.out h2a h2b).mono ?_; rw [HLOW.out]; rintro e w7 ⟨rfl, rfl⟩)
              | (go_at_call 19; refine (cset_some wr b g 3 3 k _ _ T _ 0 _ HC.out hlt (by decide) (by decide) (by omega)).mono ?_; rintro e w3 ⟨rfl, hc3, ho3⟩; have HC3 := Lib.hid (set_down hc3 (by rw [HSN.out]; omega)); have HO3 := Lib.hid ho3; have HM3 := Lib.hid (ho3.mem HM.out (by omega) (by omega)); clear hc3 ho3)
              | (go_at_call 22; (with_reducible refine (cpf4 w3 b g 3 3 k _ _ T _ mb mg mc P ((sN : Int) + 1) HC3.out hlt HM3.out (RkD_at k) (by rw [QkD_at, HSN.out]) hPn (by rw [SkD_at]; exact find4_0 P hPn sN hs2)).mono ?_); rw [SkD_at]; rintro e w4 ⟨rfl, hc4, ho4⟩; have HC4 := Lib.hid hc4; have HO4 := Lib.hid ho4; have HM4 := Lib.hid (HM3.out.of_blocks ho4.size (ho4.block _ HM3.out.lb (by have := HT.out k hlt; omega)) (ho4.block _ HM3.out.lg (by have := HT.out k hlt; omega))); clear hc4 ho4))
            all_goals
              refine ⟨⟨k + 1, by omega, ?_, by go_num, HM4, Lib.hid (st_down1 HC4.out (by rw [HSN.out])), ?_⟩, by simp [intOf]; omega⟩
              · rw [HCS.out, HCN.out]
                first
                  | (rw [if_pos (by have hz := beq_iff_eq.1 ‹((sN : Int) == 0) = true›; omega)]; go_num)
                  | (rw [if_neg (by have hz := beq_eq_false_iff_ne.1 ‹((sN : Int) == 0) = false›; omega)]; go_num)
              · have l3 := HO3.out.size
                have l4 := HO4.out.size
                have hTk := (HC.out.tlb k hlt).lt
                have hTw := HT.out k hlt
                have lw1 := hw1.size
                have lgr := HC.out.lg
                have B4 := (hB.trans (HO3.out.below (by omega) (by omega))).trans (HO4.out.below (by omega) (by omega))
                exact B4
          · have hPQ' : ¬ ((P : Int) = Q) := by omega
            have HF2 := Lib.hid (find4_1 P hPn Q hQn sN hs2 hPQ)
            have HST : Hid (stD ((sN : Int) + 1) P Q = fillS (fillS S0 (lf ((sN : Int) + 1) P)) (lf ((sN : Int) + 1) Q)) := Lib.hid (by unfold stD; rw [if_neg hPQ])
            clear hPQ
            go_wp2_with (first
              | (go_at_call 20; refine (low_any (a0 / 2 ^ k) 2 _ HQB.out h2a h2b).mono ?_; rw [HLOW.out]; rintro e w7 ⟨rfl, rfl⟩)
              | (go_at_call 19; refine (cset_some wr b g 3 3 k _ _ T _ 0 _ HC.out hlt (by decide) (by decide) (by omega)).mono ?_; rintro e w3 ⟨rfl, hc3, ho3⟩; have HC3 := Lib.hid (set_down hc3 (by rw [HSN.out]; omega)); have HO3 := Lib.hid ho3; have HM3 := Lib.hid (ho3.mem HM.out (by omega) (by omega)); clear hc3 ho3)
              | (go_at_call 22; (with_reducible refine (cpf4 w4 b g 3 3 k _ _ T _ mb mg mc Q ((sN : Int) + 1) HC4.out hlt HM4.out (RkD_at k) (by rw [QkD_at, HSN.out]) hQn (by rw [setT_at]; exact HF2.out)).mono ?_); rintro e w5 ⟨rfl, hc5, ho5⟩; have HC5 := Lib.hid hc5; have HO5 := Lib.hid ho5; clear hc5 ho5)
              | (go_at_call 22; (with_reducible refine (cpf4 w3 b g 3 3 k _ _ T _ mb mg mc P ((sN : Int) + 1) HC3.out hlt HM3.out (RkD_at k) (by rw [QkD_at, HSN.out]) hPn (by rw [SkD_at]; exact find4_0 P hPn sN hs2)).mono ?_); rw [SkD_at]; rintro e w4 ⟨rfl, hc4, ho4⟩; have HC4 := Lib.hid hc4; have HO4 := Lib.hid ho4; have HM4 := Lib.hid (HM3.out.of_blocks ho4.size (ho4.block _ HM3.out.lb (by have := HT.out k hlt; omega)) (ho4.block _ HM3.out.lg (by have := HT.out k hlt; omega))); clear hc4 ho4))
            all_goals
              refine ⟨⟨k + 1, by omega, ?_, by go_num, Lib.hid (HM4.out.of_blocks HO5.out.size (HO5.out.block _ HM4.out.lb (by have := HT.out k hlt; omega)) (HO5.out.block _ HM4.out.lg (by have := HT.out k hlt; omega))), Lib.hid (st_down HC5.out HST.out (by rw [HSN.out])), ?_⟩, by simp [intOf]; omega⟩
              · rw [HCS.out, HCN.out]
                first
                  | (rw [if_pos (by have hz := beq_iff_eq.1 ‹((sN : Int) == 0) = true›; omega)]; go_num)
                  | (rw [if_neg (by have hz := beq_eq_false_iff_ne.1 ‹((sN : Int) == 0) = false›; omega)]; go_num)
              · have l3 := HO3.out.size
                have l4 := HO4.out.size
                have hTk := (HC.out.tlb k hlt).lt
                have hTw := HT.out k hlt
                have lw1 := hw1.size
                have lgr := HC.out.lg
                have B4 := (hB.trans (HO3.out.below (by omega) (by omega))).trans (HO4.out.below (by omega) (by omega))
                exact B4.trans (HO5.out.below (by omega) (by omega))
        · obtain rfl : k = 3 := by omega
          have hPn : P < 8 := by omega
          have hQn : Q < 8 := by omega
          have HD1 := Lib.hid (dl1_n a0 hPn hQn)
          have HD2 := Lib.hid (dl2_n a0 hPn hQn)
          have hdd1 : dropL (SkD a0 P Q 3) (pageOut 1 (P : Int)) (frs 3 3) = dl1 a0 P Q := rfl
          have hdd2 : dropL (dl1 a0 P Q).1 (pageOut 1 (P : Int)) (frs 3 3) = dl2 a0 P Q := rfl
          have HE1 := Lib.hid hdd1
          have HE2 := Lib.hid hdd2
          clear hdd1 hdd2
          obtain ⟨cn, hcn⟩ : ∃ x, cntD a0 3 = x := ⟨_, rfl⟩
          have HCN := Lib.hid hcn
          rw [hcn]
          clear hcn
          go_wp2_with (first
            | (go_at_call 21; (with_reducible refine (callsIn_wide.1 (cdropP_in w3 b g 3 3 _ _ T _ 1 (P : Int) HC3.out)).mono ?_); rw [HE2.out, HD2.out]; rintro e w4 ⟨rfl, hc4, ho4⟩; have HC4 := Lib.hid hc4; have HO4 := Lib.hid ho4; clear hc4 ho4)
            | (go_at_call 21; (with_reducible refine (callsIn_wide.1 (cdropP_in wr b g 3 3 _ _ T _ 1 (P : Int) HC.out)).mono ?_); rw [HE1.out, HD1.out, HCN.out]; rintro e w3 ⟨rfl, hc3, ho3⟩; have HC3 := Lib.hid hc3; have HO3 := Lib.hid ho3; clear hc3 ho3))
          have HC5 : Hid (CoresAt w4 b g 3 3 (RkD 3) (QkD a0 3) T (dl2 a0 P Q).1) := HC4
          have B5 : Below W.heap.size W w4 := (hB.trans (HO3.out.below (by have := hB.size; omega) (fun i hi => by have := HT.out i hi; have := hw1.size; omega))).trans (HO4.out.below (by have := hB.size; have := HO3.out.size; omega) (fun i hi => by have := HT.out i hi; have := hw1.size; omega))
          clear HC4 HC3 HO3 HO4 HC HM hB HD1 HD2 HE1 HE2
          go_loopw [16] (fun i wr => ∃ k : Nat, k ≤ 3 ∧ i = .int .i64 k ∧ Hid (CoresAt wr b g 3 3 (RkD 3) (QkD a0 3) T (dl2 a0 P Q).1) ∧ Below W.heap.size W wr) (fun i _ => 3 - (intOf i).toNat)
          case atStart => exact ⟨0, by omega, rfl, HC5, B5⟩
          case round =>
            clear HC5 B5
            obtain ⟨k, hk, rfl, HC, hB⟩ := hrel
            by_cases hlt : k < 3
            · have hlt' : (k : Int) < 3 := by omega
              have HN := Lib.hid (all4_n P hPn Q hQn (spN a0 k) (spN_lt a0 k))
              have HTT := Lib.hid (all4_t P hPn Q hQn (spN a0 k) (spN_lt a0 k))
              have HSK := Lib.hid (dl2_at (P := P) (Q := Q) a0 k hlt)
              obtain ⟨sN, hsN⟩ : ∃ x, spN a0 k = x := ⟨_, rfl⟩
              have hs2 : sN < 2 := hsN ▸ spN_lt a0 k
              have HLOW : Hid (lowI (a0 / 2 ^ k) 2 = (sN : Int)) := Lib.hid (by rw [spN_low, hsN])
              rw [hsN] at HN HTT HSK
              have HQB := Lib.hid (quo_in a0 k hlt HA0.out)
              have h2a : (0 : Int) < 2 := by decide
              have h2b : (2 : Int) ≤ 1000000 := by decide
              obtain ⟨Sk, hSk⟩ : ∃ x, d2D ((sN : Int) + 1) P Q = x := ⟨_, rfl⟩
              rw [hSk] at HN HTT HSK
              obtain ⟨N, hN⟩ : ∃ x, allN Sk = x := ⟨_, rfl⟩
              rw [hN] at HN HTT
              have HNN := Lib.hid hN
              clear hsN hSk hN
              have hN2 : N ≤ 2 := by have := HN.out; split at this <;> split at this <;> omega
              obtain ⟨z, hz⟩ : ∃ z : Int, (sN : Int) = z := ⟨_, rfl⟩
              have hz2 : z = 0 ∨ z = 1 := by omega
              rw [hz] at HLOW
              have HZ := Lib.hid hz
              clear hz
              rcases hz2 with rfl | rfl
              · have hsv : sN = 0 := by have := HZ.out; omega
                subst hsv
                go_wp2_with (first
                  | (go_at_call 20; refine (low_any (a0 / 2 ^ k) 2 _ HQB.out h2a h2b).mono ?_; rw [HLOW.out]; rintro e w7 ⟨rfl, rfl⟩)
                  | (go_at_call 26; refine (call_ok _ b g 3 3 k _ _ T _ HC.out hlt).mono ?_; rw [HSK.out, HNN.out]; rintro e w8 ⟨ps, cs, gs, rfl, hp8, hr8, hb8⟩; have HP8 := Lib.hid hp8; have HR8 := Lib.hid hr8; clear hp8 hr8))
                go_loopw [19] (fun j wq => ∃ l : Nat, l ≤ N ∧ j = .int .i64 l ∧ Below w8.heap.size w8 wq) (fun j _ => N - (intOf j).toNat)
                case atStart => exact ⟨0, by omega, rfl, Below.refl _ _⟩
                case round =>
                  obtain ⟨l, hl, rfl, hq⟩ := hrel
                  by_cases hll : l < N
                  · have hll' : (l : Int) < N := by omega
                    obtain ⟨rfl, hg1, hg2⟩ := HP8.out (by omega)
                    have hrow := HR8.out l (by first | omega | (rw [HNN.out]; exact hll))
                    obtain ⟨hx, hxp⟩ := rowB_of (HTT.out l (by omega) (decide_eq_true hll))
                    rw [hx] at hrow
                    obtain ⟨xp, hxpp⟩ : ∃ y, (allT Sk l).p = y := ⟨_, rfl⟩
                    rw [hxpp] at hrow hxp
                    have hrow' : TCells w8 gs l ⟨0 + 1, xp, 3, true, false⟩ := hrow
                    have hpz : (xp == (P : Int)) = false := beq_eq_false_iff_ne.2 (hxp rfl)
                    have RW : Hid (∀ w', KeptQ wr.heap.size wr w' → TCells w' gs l ⟨0 + 1, xp, 3, true, false⟩) := Lib.hid fun w' hw' => by
                      have e1 : w'.heap[gs]? = w8.heap[gs]? := (hw'.1.block gs (Nat.lt_of_lt_of_le hg2 hq.size)).trans (hq.block gs hg2)
                      obtain ⟨c0, c1, c2, c3, c4⟩ := hrow'
                      exact ⟨(cell_of_block e1).trans c0, (cell_of_block e1).trans c1, (cell_of_block e1).trans c2, (cell_of_block e1).trans c3, (cell_of_block e1).trans c4⟩
                    have HQ := Lib.hid hq
                    clear hrow hrow' hx hxp hxpp hq
                    go_wp2
                    refine wp_region_keptQ wr.heap.size wr (by kernel_rfl) (by kernel_rfl) (KeptQ.refl (Nat.le_refl _)) ?_
                    repeat (first
                      | go_big_quiet_skip
                      | (go_big_quiet_want; first
                        | (refine quietQ_load_cell 3 _ rfl ⟨gs, l * 5, none⟩ rfl _ (fun w hw => (RW.out w hw).1) _ Try.underlying3 rfl ?_; simp only [Act.put, List.setIfInBounds_toArray, List.set_cons_zero, List.set_cons_succ]; go_big_quiet_on)
                        | (refine quietQ_load_cell 3 _ rfl ⟨gs, l * 5 + 1, none⟩ rfl _ (fun w hw => (RW.out w hw).2.1) _ Try.underlying3 rfl ?_; simp only [Act.put, List.setIfInBounds_toArray, List.set_cons_zero, List.set_cons_succ]; go_big_quiet_on)
                        | (refine quietQ_load_var 52 _ rfl ⟨gs, l * 5, none⟩ rfl _ (fun w hw => loadTr w gs l _ xp (RW.out w hw)) ?_; simp only [Act.put, List.setIfInBounds_toArray, List.set_cons_zero, List.set_cons_succ]; go_big_quiet_on)
                        | (go_big_quiet_op; first
                          | go_big_quiet_on
                          | (refine ⟨_, fun _ _ => rfl, ?_⟩; go_big_quiet_on)
                          | (refine ⟨_, fun w _ => neTr _ xp w, ?_⟩; go_big_quiet_on)
                          | go_big_quiet_call ((intro hw; first
                            | (go_at_call 20; refine (low_any (a0 / 2 ^ k) 2 _ HQB.out h2a h2b).mono ?_; rw [HLOW.out]; rintro e w7 ⟨rfl, rfl⟩; exact ⟨rfl, hw⟩))))))
                    refine wpQuiet_nil ?_
                    intro w7 hw7
                    have hb7 := HQ.out.trans (hw7.1.mono HQ.out.size)
                    clear RW hw7
                    go_wp2
                    go_roundw
                    case rel => exact ⟨l + 1, by omega, by go_num, hb7⟩
                    case measure => simp [intOf]; omega
                  · obtain rfl : l = N := by omega
                    have hNv := HN.out
                    have hbb := bgo hb8 hq
                    by_cases hPQ : P = Q
                    · have hPQi : (P : Int) = Q := by omega
                      rw [if_pos trivial, if_pos hPQ] at hNv
                      subst hNv
                      subst hPQ
                      go_wp2
                      go_roundw
                      case rel => exact ⟨k + 1, by omega, by go_num, Lib.hid (HC.out.call hbb), bgo hB hbb⟩
                      case measure => simp [intOf]; omega
                    · have hPQ' : ¬ ((P : Int) = Q) := by omega
                      rw [if_pos trivial, if_neg hPQ] at hNv
                      clear hPQ
                      subst hNv
                      go_wp2
                      go_roundw
                      case rel => exact ⟨k + 1, by omega, by go_num, Lib.hid (HC.out.call hbb), bgo hB hbb⟩
                      case measure => simp [intOf]; omega
              · have hsv : sN = 1 := by have := HZ.out; omega
                subst hsv
                go_wp2_with (first
                  | (go_at_call 20; refine (low_any (a0 / 2 ^ k) 2 _ HQB.out h2a h2b).mono ?_; rw [HLOW.out]; rintro e w7 ⟨rfl, rfl⟩)
                  | (go_at_call 26; refine (call_ok _ b g 3 3 k _ _ T _ HC.out hlt).mono ?_; rw [HSK.out, HNN.out]; rintro e w8 ⟨ps, cs, gs, rfl, hp8, hr8, hb8⟩; have HP8 := Lib.hid hp8; have HR8 := Lib.hid hr8; clear hp8 hr8))
                go_loopw [19] (fun j wq => ∃ l : Nat, l ≤ N ∧ j = .int .i64 l ∧ Below w8.heap.size w8 wq) (fun j _ => N - (intOf j).toNat)
                case atStart => exact ⟨0, by omega, rfl, Below.refl _ _⟩
                case round =>
                  obtain ⟨l, hl, rfl, hq⟩ := hrel
                  by_cases hll : l < N
                  · have hll' : (l : Int) < N := by omega
                    obtain ⟨rfl, hg1, hg2⟩ := HP8.out (by omega)
                    have hrow := HR8.out l (by first | omega | (rw [HNN.out]; exact hll))
                    obtain ⟨hx, hxp⟩ := rowB_of (HTT.out l (by omega) (decide_eq_true hll))
                    rw [hx] at hrow
                    obtain ⟨xp, hxpp⟩ : ∃ y, (allT Sk l).p = y := ⟨_, rfl⟩
                    rw [hxpp] at hrow hxp
                    have hrow' : TCells w8 gs l ⟨1 + 1, xp, 3, true, false⟩ := hrow
                    have hpz : True := trivial
                    have RW : Hid (∀ w', KeptQ wr.heap.size wr w' → TCells w' gs l ⟨1 + 1, xp, 3, true, false⟩) := Lib.hid fun w' hw' => by
                      have e1 : w'.heap[gs]? = w8.heap[gs]? := (hw'.1.block gs (Nat.lt_of_lt_of_le hg2 hq.size)).trans (hq.block gs hg2)
                      obtain ⟨c0, c1, c2, c3, c4⟩ := hrow'
                      exact ⟨(cell_of_block e1).trans c0, (cell_of_block e1).trans c1, (cell_of_block e1).trans c2, (cell_of_block e1).trans c3, (cell_of_block e1).trans c4⟩
                    have HQ := Lib.hid hq
                    clear hrow hrow' hx hxp hxpp hq
                    go_wp2
                    refine wp_region_keptQ wr.heap.size wr (by kernel_rfl) (by kernel_rfl) (KeptQ.refl (Nat.le_refl _)) ?_
                    repeat (first
                      | go_big_quiet_skip
                      | (go_big_quiet_want; first
                        | (refine quietQ_load_cell 3 _ rfl ⟨gs, l * 5, none⟩ rfl _ (fun w hw => (RW.out w hw).1) _ Try.underlying3 rfl ?_; simp only [Act.put, List.setIfInBounds_toArray, List.set_cons_zero, List.set_cons_succ]; go_big_quiet_on)
                        | (refine quietQ_load_cell 3 _ rfl ⟨gs, l * 5 + 1, none⟩ rfl _ (fun w hw => (RW.out w hw).2.1) _ Try.underlying3 rfl ?_; simp only [Act.put, List.setIfInBounds_toArray, List.set_cons_zero, List.set_cons_succ]; go_big_quiet_on)
                        | (refine quietQ_load_var 52 _ rfl ⟨gs, l * 5, none⟩ rfl _ (fun w hw => loadTr w gs l _ xp (RW.out w hw)) ?_; simp only [Act.put, List.setIfInBounds_toArray, List.set_cons_zero, List.set_cons_succ]; go_big_quiet_on)
                        | (go_big_quiet_op; first
                          | go_big_quiet_on
                          | (refine ⟨_, fun _ _ => rfl, ?_⟩; go_big_quiet_on)
                          | (refine ⟨_, fun w _ => neTr _ xp w, ?_⟩; go_big_quiet_on)
                          | go_big_quiet_call ((intro hw; first
                            | (go_at_call 20; refine (low_any (a0 / 2 ^ k) 2 _ HQB.out h2a h2b).mono ?_; rw [HLOW.out]; rintro e w7 ⟨rfl, rfl⟩; exact ⟨rfl, hw⟩))))))
                    refine wpQuiet_nil ?_
                    intro w7 hw7
                    have hb7 := HQ.out.trans (hw7.1.mono HQ.out.size)
                    clear RW hw7
                    go_wp2
                    go_roundw
                    case rel => exact ⟨l + 1, by omega, by go_num, hb7⟩
                    case measure => simp [intOf]; omega
                  · obtain rfl : l = N := by omega
                    have hNv := HN.out
                    have hbb := bgo hb8 hq
                    by_cases hPQ : P = Q
                    · have hPQi : (P : Int) = Q := by omega
                      rw [if_neg (by decide), if_pos hPQ] at hNv
                      subst hNv
                      subst hPQ
                      go_wp2
                      go_roundw
                      case rel => exact ⟨k + 1, by omega, by go_num, Lib.hid (HC.out.call hbb), bgo hB hbb⟩
                      case measure => simp [intOf]; omega
                    · have hPQ' : ¬ ((P : Int) = Q) := by omega
                      rw [if_neg (by decide), if_neg hPQ] at hNv
                      clear hPQ
                      subst hNv
                      go_wp2
                      go_roundw
                      case rel => exact ⟨k + 1, by omega, by go_num, Lib.hid (HC.out.call hbb), bgo hB hbb⟩
                      case measure => simp [intOf]; omega

            · obtain rfl : k = 3 := by omega
              go_wp2_with (first
                | (go_at_call 9; refine (awake7 _).mono ?_; rintro e w9 ⟨rfl, hb9⟩))
              go_ret
              exact ⟨rfl, bgo hB hb9⟩
end Go.Proofs.Ytedapbliebiblaa
