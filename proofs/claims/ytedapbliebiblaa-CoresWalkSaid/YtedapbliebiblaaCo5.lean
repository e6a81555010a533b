/- package cores: Translate, Prefetch, Set, Regs, Len; of none. -/
import Derived.Test.YtedapbliebiblaaCo3
import Derived.Test.YtedapbliebiblaaCo4
namespace Go.Proofs.Ytedapbliebiblaa
set_option linter.unusedVariables false
set_option linter.unusedSimpArgs false
open Go.ChangeShapes Go.WideShapes Go.ChangeAt Go.RowKit Go.Shelf

/-- The translation that a walk tells. -/
def leafT (n : Nat) (m : Nat → Int) (r q p : Int) : TransX := ⟨q, p, ((leafW m (atF n m r p 3).1 / 256 % 64 : Nat) : Int), (leafW m (atF n m r p 3).1).testBit 2, (leafW m (atF n m r p 3).1).testBit 3⟩
theorem walkC_leaf {n : Nat} {m : Nat → Int} {r p : Int} (h : walkC n m r p = 0) : (leafW m (atF n m r p 3).1).testBit 1 = true ∧ ((leafW m (atF n m r p 3).1).testBit 2 || (leafW m (atF n m r p 3).1).testBit 3) = true ∧ leafW m (atF n m r p 3).1 / 256 % 64 < n := by
  unfold walkC at h
  split at h
  · unfold leafC at h
    generalize leafW m (atF n m r p 3).1 = x at h ⊢
    split at h
    · rename_i he
      split at h
      · rename_i hl
        unfold entC at he
        split at he
        · rename_i ho
          split at he
          · rename_i hv
            split at he
            · rename_i hf
              unfold okB at ho
              rw [Bool.and_eq_true] at ho
              have hm := ho.2
              rw [hv, hl] at hm
              unfold mayE at hm
              simp only [if_true, Bool.and_eq_true, beq_iff_eq] at hm
              exact ⟨hl, hm.2.symm, hf⟩
            · cases he
          · cases he
        · cases he
      · cases h
    · rename_i he
      exact absurd h he
  · rename_i h0
    exact absurd h h0
theorem may_leaf {n : Nat} {m : Nat → Int} {r q p : Int} (hn : n ≤ 64) (h : walkC n m r p = 0) (hq : 1 ≤ q) (p0 : 0 ≤ p) (p1 : p < 512) : mayX (leafT n m r q p) = true := by
  obtain ⟨h1, h2, h3⟩ := walkC_leaf h
  unfold mayX leafT
  simp only [h2, Bool.and_true, decide_eq_true_eq]
  omega
/-- What Translate tells of a core that walks, and its cache behind it. -/
def transF (n : Nat) (m : Nat → Int) (r q p : Int) (s : TS) : (TransX × Bool × Int) × TS :=
  if (findS s q p).2 = true then (((findS s q p).1, true, 0), s) else if walkC n m r p = 0 then ((leafT n m r q p, false, 0), fillS s (leafT n m r q p)) else ((zT, false, walkC n m r p), s)
theorem good_trans {n : Nat} {m : Nat → Int} {r q p : Int} {s : TS} (h : Good s) : Good (transF n m r q p s).2 := by
  unfold transF
  split
  · exact h
  · split
    · exact good_fill h _
    · exact h
theorem CoresAt.far {w : World} {b g n c d j : Nat} {R Q : Nat → Int} {T : Nat → Nat} {S : Nat → TS} (h : CoresAt w b g n c R Q T S) (h1 : b ≠ d) (h2 : g ≠ d) (h3 : ∀ i, i < n → T i ≠ d) (v : Value) : CoresAt (w.setCell ⟨d, j, none⟩ v) b g n c R Q T S :=
  h.of_blocks (by simp) (Go.heap_setCell_other _ _ _ _ h1) (Go.heap_setCell_other _ _ _ _ h2) fun i hi => Go.heap_setCell_other _ _ _ _ (h3 i hi)
theorem setT_same (S : Nat → TS) (k : Nat) : setT S k (S k) = S := by
  funext i; unfold setT; split
  · rename_i e; rw [e]
  · rfl
theorem RegOk.pos {r s : Int} (h : RegOk r s) (hr : r ≠ -1) : 0 ≤ r ∧ r < 64 ∧ 1 ≤ s := by
  rcases h with h | h
  · exact absurd h.1 hr
  · exact h
theorem translate_any (w : World) (b g n c k : Nat) (R Q : Nat → Int) (T : Nat → Nat) (S : Nat → TS) (mb mg mn mc : Nat) (m : Nat → Int) (p : Int) (h : CoresAt w b g n c R Q T S) (hk : k < n) (hM : MemAt w mb mg mn mc m) (hr : R k ≠ -1) (p0 : 0 ≤ p) (p1 : p < 512) :
    Calls Try.prog 46 #[.pointer (some ⟨g, k * 3, none⟩), .pointer (some ⟨mb, 0, none⟩), .int .i64 p] w fun e w' => e = .returned (.tuple #[trX (transF mn m (R k) (Q k) p (S k)).1.1, .bool (transF mn m (R k) (Q k) p (S k)).1.2.1, .int .i64 (transF mn m (R k) (Q k) p (S k)).1.2.2]) ∧ CoresAt w' b g n c R Q T (setT S k (transF mn m (R k) (Q k) p (S k)).2) ∧ TlbOnly (T k) w w' := by
  obtain ⟨⟨x, t⟩, hf⟩ : ∃ z, findS (S k) (Q k) p = z := ⟨_, rfl⟩
  have hq := (h.regs k hk).pos hr
  cases t with
  | true =>
    have e : transF mn m (R k) (Q k) p (S k) = ((x, true, 0), S k) := by unfold transF; rw [hf]; rfl
    rw [e]
    exact (translate_hit w b g n c k R Q T S _ p x h hk hf).mono fun e' w' ⟨h1, h2⟩ => ⟨h1, by rw [setT_same]; exact h.call h2, TlbOnly.of_below h2⟩
  | false =>
    by_cases hw : walkC mn m (R k) p = 0
    · have e : transF mn m (R k) (Q k) p (S k) = ((leafT mn m (R k) (Q k) p, false, 0), fillS (S k) (leafT mn m (R k) (Q k) p)) := by unfold transF; rw [hf, if_neg (by simp), if_pos hw]
      rw [e]
      have hmay := may_leaf (q := Q k) hM.n64 hw hq.2.2 p0 p1
      have hy : entW (leafW m (atF mn m (R k) p 3).1) = entV true true ((leafW m (atF mn m (R k) p 3).1).testBit 2) ((leafW m (atF mn m (R k) p 3).1).testBit 3) ((leafW m (atF mn m (R k) p 3).1 / 256 % 64 : Nat) : Int) := by unfold entW; rw [(walkC_leaf hw).1]
      exact (translate_fill w b g n c k R Q T S mb mg mn mc m p x 0 _ _ _ _ h hk hM hf hw hy hmay).mono fun e' w' ⟨h1, h2, h3⟩ => ⟨h1, h.put hk h2 (good_fill (h.good k hk) _) h3, h3⟩
    · have e : transF mn m (R k) (Q k) p (S k) = ((zT, false, walkC mn m (R k) p), S k) := by unfold transF; rw [hf, if_neg (by simp), if_neg hw]
      rw [e]
      exact (translate_miss w b g n c k R Q T S mb mg mn mc m p _ x h hk hM hf rfl hw).mono fun e' w' ⟨h1, h2⟩ => ⟨h1, by rw [setT_same]; exact h.call h2, TlbOnly.of_below h2⟩
set_option maxRecDepth 100000 in
set_option maxHeartbeats 1000000 in
theorem ctrans_ok (w : World) (b g n c k : Nat) (R Q : Nat → Int) (T : Nat → Nat) (S : Nat → TS) (mb mg mn mc : Nat) (m : Nat → Int) (p : Int) (h : CoresAt w b g n c R Q T S) (hk : k < n) (hM : MemAt w mb mg mn mc m) (hr : R k ≠ -1) (p0 : 0 ≤ p) (p1 : p < 512) :
    Calls Try.prog 24 #[.pointer (some ⟨b, 0, none⟩), .int .i64 k, .pointer (some ⟨mb, 0, none⟩), .int .i64 p] w fun e w' => e = .returned (.tuple #[trX (transF mn m (R k) (Q k) p (S k)).1.1, .bool (transF mn m (R k) (Q k) p (S k)).1.2.1, .int .i64 (transF mn m (R k) (Q k) p (S k)).1.2.2]) ∧ CoresAt w' b g n c R Q T (setT S k (transF mn m (R k) (Q k) p (S k)).2) ∧ TlbOnly (T k) w w' := by
  obtain ⟨⟨⟨x, hit, cd⟩, s'⟩, hz⟩ : ∃ z, transF mn m (R k) (Q k) p (S k) = z := ⟨_, rfl⟩
  rw [hz]
  have HZ := Lib.hid hz
  have H := Lib.hid h
  have HM := Lib.hid hM
  have c0 := (h.row k hk).1
  have hg := h.lg
  have hTl := (h.tlb k hk).lt
  have hr1 : (R k == -1) = false := beq_eq_false_iff_ne.2 hr
  have HR := Lib.hid hr
  clear h hM hz hr
  go_enter Try.func24, Try.ntmps24
  have hTw : w.heap.size ≠ T k := by omega
  have hTk2 : T k ≠ w.heap.size := Ne.symm hTw
  have hwz : w.heap.size < (w.alloc (.cells #[.int .i64 0, .int .i64 0, .int .i64 0, .bool false, .bool false] 52)).heap.size := by simp
  obtain ⟨r0, r1, r2, r3, r4⟩ := tr_new w zT
  have fr := fun j => frozE w #[.int .i64 0, .int .i64 0, .int .i64 0, .bool false, .bool false] 52 j
  go_wp2_with (first
    | (go_at_call 42; refine (get_ok _ b g n c k R Q T S (H.out.call (bal (Below.refl _ _) _)) hk).mono ?_; rintro e w1 ⟨rfl, rfl⟩)
    | (go_at_call 46; refine (translate_any _ b g n c k R Q T S mb mg mn mc m p (H.out.call (bal (Below.refl _ _) _)) hk (HM.out.call (bal (Below.refl _ _) _)) HR.out p0 p1).mono ?_; rw [HZ.out]; rintro e w3 ⟨rfl, hc3, ho3⟩; have HC3 := Lib.hid hc3; have HO3 := Lib.hid ho3; have s0 := (ho3.cell hwz hTw r0); have s1 := (ho3.cell hwz hTw r1); have s2 := (ho3.cell hwz hTw r2); have s3 := (ho3.cell hwz hTw r3); have s4 := (ho3.cell hwz hTw r4); have x0 := ((frozen_of_block (ho3.block _ hwz hTw)).trans (fr 0)); have x1 := ((frozen_of_block (ho3.block _ hwz hTw)).trans (fr 1)); have x2 := ((frozen_of_block (ho3.block _ hwz hTw)).trans (fr 2)); have x3 := ((frozen_of_block (ho3.block _ hwz hTw)).trans (fr 3)); have x4 := ((frozen_of_block (ho3.block _ hwz hTw)).trans (fr 4)); clear hc3 ho3))
  have hoff := H.out.off
  have hlt := fun i hi => (H.out.tlb i hi).lt
  exact bodyPost_ret (v := .tuple #[trX x, .bool hit, .int .i64 cd]) (by simp [results, Try.results24, go_sem, s0, s1, s2, s3, s4]) rfl ⟨rfl, ((((HC3.out.far (Nat.ne_of_lt H.out.lb) (Nat.ne_of_lt hg) (fun i hi => Nat.ne_of_lt (hlt i hi)) _).far (Nat.ne_of_lt H.out.lb) (Nat.ne_of_lt hg) (fun i hi => Nat.ne_of_lt (hlt i hi)) _).far (Nat.ne_of_lt H.out.lb) (Nat.ne_of_lt hg) (fun i hi => Nat.ne_of_lt (hlt i hi)) _).far (Nat.ne_of_lt H.out.lb) (Nat.ne_of_lt hg) (fun i hi => Nat.ne_of_lt (hlt i hi)) _).far (Nat.ne_of_lt H.out.lb) (Nat.ne_of_lt hg) (fun i hi => Nat.ne_of_lt (hlt i hi)) _, by repeat (first | with_reducible exact (TlbOnly.of_below (bal (Below.refl _ _) _)).trans HO3.out | with_reducible refine TlbOnly.far ?_ (Nat.le_refl _) _)⟩
end Go.Proofs.Ytedapbliebiblaa
