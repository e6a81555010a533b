/- What a cache has is what a walk tells: facts for CoresWalk. -/
import Derived.Test.YtedapbliebiblaaCo9
import Derived.Test.YtedapbliebiblaaCo7
import Derived.Test.YtedapbliebiblaaActs
import Derived.Test.YtedapbliebiblaaLowL
namespace Go.Proofs.Ytedapbliebiblaa
set_option linter.unusedVariables false
set_option linter.unusedSimpArgs false
open Go.ChangeShapes Go.WideShapes Go.ChangeAt Go.RowKit Go.Shelf

/-- Two tables lead to the table of leaves in frame 2. -/
def ChainM (M : Nat → Int) : Prop := M 0 = 257 ∧ M 8 = 513
theorem next8_257 : nextC 8 257 = 0 := by decide +kernel
theorem next8_513 : nextC 8 513 = 0 := by decide +kernel
theorem at_chain {M : Nat → Int} (h : ChainM M) {q : Int} (q0 : 0 ≤ q) (q1 : q < 8) : atF 8 M 0 q 3 = (128 + 8 * q, 0) := by
  unfold atF
  rw [if_pos ⟨by decide, by decide, q0, by omega, by decide, by decide⟩]
  show (if nextC 8 (M (8 * 0 + (q / 64).toNat)).toNat = 0 then (if nextC 8 (M (8 * ((M (8 * 0 + (q / 64).toNat)).toNat / 256 % 64) + (q / 8 % 8).toNat)).toNat = 0 then ((64 * (((M (8 * ((M (8 * 0 + (q / 64).toNat)).toNat / 256 % 64) + (q / 8 % 8).toNat)).toNat / 256 % 64 : Nat) : Int) + 8 * (q % 8), 0) : Int × Int) else (0, nextC 8 (M (8 * ((M (8 * 0 + (q / 64).toNat)).toNat / 256 % 64) + (q / 8 % 8).toNat)).toNat)) else (0, nextC 8 (M (8 * 0 + (q / 64).toNat)).toNat)) = _
  have a : 8 * 0 + (q / 64).toNat = 0 := by omega
  have b : (q / 8 % 8).toNat = 0 := by omega
  rw [a, h.1, b]
  rw [if_pos (show nextC 8 (257 : Int).toNat = 0 from next8_257), show (257 : Int).toNat / 256 % 64 = 1 by decide, show 8 * 1 + 0 = 8 by decide, h.2]
  rw [if_pos (show nextC 8 (513 : Int).toNat = 0 from next8_513), show (513 : Int).toNat / 256 % 64 = 2 by decide]
  have e : q % 8 = q := by omega
  rw [e]
  rfl
def leafM (M : Nat → Int) (q : Int) : Nat := (M (16 + q.toNat)).toNat
theorem leafW_chain {M : Nat → Int} (h : ChainM M) {q : Int} (q0 : 0 ≤ q) (q1 : q < 8) : leafW M (atF 8 M 0 q 3).1 = leafM M q := by
  rw [at_chain h q0 q1]
  unfold leafW leafM
  congr 2
  simp only
  omega
theorem walkC_chain {M : Nat → Int} (h : ChainM M) {q : Int} (q0 : 0 ≤ q) (q1 : q < 8) : walkC 8 M 0 q = leafC 8 (leafM M q) := by
  unfold walkC
  rw [leafW_chain h q0 q1, at_chain h q0 q1]
  rfl
theorem leafT_chain {M : Nat → Int} (h : ChainM M) {q : Int} (q0 : 0 ≤ q) (q1 : q < 8) : leafT 8 M 0 1 q = ⟨1, q, ((leafM M q / 256 % 64 : Nat) : Int), (leafM M q).testBit 2, (leafM M q).testBit 3⟩ := by
  unfold leafT
  rw [leafW_chain h q0 q1]
theorem chain_set {M : Nat → Int} (h : ChainM M) {p : Int} {v : Int} : ChainM (updM M (16 + p.toNat) v) := by
  unfold ChainM updM
  rw [if_neg (by omega), if_neg (by omega)]
  exact h
theorem leafM_other {M : Nat → Int} {p q v : Int} (p0 : 0 ≤ p) (q0 : 0 ≤ q) (h : q ≠ p) : leafM (updM M (16 + p.toNat) v) q = leafM M q := by
  unfold leafM updM
  rw [if_neg (by omega)]
/-- A way has nothing, or what a walk tells. -/
def WayOk (M : Nat → Int) (x : TransX) : Prop := x = zT ∨ (x.s = 1 ∧ 0 ≤ x.p ∧ x.p < 8 ∧ walkC 8 M 0 x.p = 0 ∧ x = leafT 8 M 0 1 x.p)
def CacheOk (M : Nat → Int) (s : TS) : Prop := ∀ k j, k < 4 → j < 2 → WayOk M (wayP s (k, j))
theorem ck_S0 (M : Nat → Int) : CacheOk M S0 := fun k j _ _ => .inl (by unfold wayP; split <;> rfl)
theorem ck_fill {M : Nat → Int} {s : TS} (h : CacheOk M s) {q : Int} (q0 : 0 ≤ q) (q1 : q < 8) (hw : walkC 8 M 0 q = 0) : CacheOk M (fillS s (leafT 8 M 0 1 q)) := by
  have hm := may_leaf (q := 1) (by decide) hw (by decide) q0 (by omega)
  obtain ⟨j, hj, h1, h2⟩ := fill_one (S := s) (leafT 8 M 0 1 q) hm
  intro k i hk hi
  by_cases e : (k, i) = (setNo (leafT 8 M 0 1 q).p, j)
  · rw [e, h2]
    exact .inr ⟨rfl, q0, q1, hw, rfl⟩
  · rw [h1 _ hi e]
    exact h k i hk hi
theorem ck_trans {M : Nat → Int} {s : TS} (h : CacheOk M s) {q : Int} (q0 : 0 ≤ q) (q1 : q < 8) : CacheOk M (transF 8 M 0 1 q s).2 := by
  unfold transF
  split
  · exact h
  · split
    · rename_i hw
      exact ck_fill h q0 q1 hw
    · exact h
theorem setNo_lt4 {q : Int} (q0 : 0 ≤ q) : setNo q < 4 := by unfold setNo; omega
theorem find_chain {M : Nat → Int} {s : TS} (h : CacheOk M s) {q : Int} (q0 : 0 ≤ q) (q1 : q < 8) (hf : (findS s 1 q).2 = true) : walkC 8 M 0 q = 0 ∧ (findS s 1 q).1 = leafT 8 M 0 1 q := by
  have key : ∀ x, WayOk M x → x.s = 1 → x.p = q → walkC 8 M 0 q = 0 ∧ x = leafT 8 M 0 1 q := by
    intro x hx hs hp
    rcases hx with hx | ⟨-, -, -, h3, h4⟩
    · subst hx; simp at hs
    · rw [← hp]; exact ⟨h3, h4⟩
  have hq := setNo_lt4 q0
  have w0 := h (setNo q) 0 hq (by decide)
  have w1 := h (setNo q) 1 hq (by decide)
  unfold wayP at w0 w1
  simp only [if_true] at w0
  rw [if_neg (by simp)] at w1
  unfold findS at hf ⊢
  rw [if_pos ⟨by decide, q0, by omega⟩] at hf ⊢
  split at hf
  · rename_i h1
    rw [if_pos h1]
    exact key _ w0 h1.1 h1.2
  · rename_i h1
    rw [if_neg h1]
    split at hf
    · rename_i h2
      rw [if_pos h2]
      exact key _ w1 h2.1 h2.2
    · cases hf
/-- What Translate tells is what a walk tells. -/
theorem trans_says {M : Nat → Int} {s : TS} (h : CacheOk M s) {q : Int} (q0 : 0 ≤ q) (q1 : q < 8) : (transF 8 M 0 1 q s).1.2.2 = walkC 8 M 0 q ∧ (walkC 8 M 0 q = 0 → (transF 8 M 0 1 q s).1.1 = leafT 8 M 0 1 q) := by
  by_cases hf : (findS s 1 q).2 = true
  · obtain ⟨h1, h2⟩ := find_chain h q0 q1 hf
    unfold transF
    rw [if_pos hf]
    exact ⟨h1.symm, fun _ => h2⟩
  · unfold transF
    rw [if_neg hf]
    by_cases hw : walkC 8 M 0 q = 0
    · rw [if_pos hw]
      exact ⟨hw.symm, fun _ => rfl⟩
    · rw [if_neg hw]
      exact ⟨rfl, fun h => absurd h hw⟩
theorem ck_evict {M : Nat → Int} {s : TS} (h : CacheOk M s) (i j : Int) : CacheOk M (evictS s i j).1 := by
  unfold evictS
  split
  · rename_i hc
    intro k l hk hl
    by_cases e : (k, l) = (i.toNat, j.toNat)
    · rw [e]
      exact .inl (wipe_yes (x := (i.toNat, j.toNat)) (by simp only; omega))
    · rw [wipeP_no hl e]
      exact h k l hk hl
  · exact h
theorem wayOk_other {M : Nat → Int} (hM : ChainM M) {p v : Int} (p0 : 0 ≤ p) {x : TransX} (h : WayOk M x) (ho : pageOut 1 p x = false) : WayOk (updM M (16 + p.toNat) v) x := by
  rcases h with h | ⟨h0, h1, h2, h3, h4⟩
  · exact .inl h
  · have hne : x.p ≠ p := by
      intro e
      unfold pageOut at ho
      rw [h0, e] at ho
      simp at ho
    have hl := leafM_other (M := M) (v := v) p0 h1 hne
    refine .inr ⟨h0, h1, h2, ?_, ?_⟩
    · rw [walkC_chain (chain_set hM) h1 h2, hl, ← walkC_chain hM h1 h2]
      exact h3
    · rw [leafT_chain (chain_set hM) h1 h2, hl, ← leafT_chain hM h1 h2]
      exact h4
theorem ck_drop {M : Nat → Int} (hM : ChainM M) {s : TS} (h : CacheOk M s) {p v : Int} (p0 : 0 ≤ p) : CacheOk (updM M (16 + p.toNat) v) (dropF s (pageOut 1 p) (fullP s 8)).1 := by
  intro k j hk hj
  have e := dropF_way (pageOut 1 p) (k, j) hj (fullP s 8) (s, 0) (full_nodup s)
  have e2 : wayP (dropF s (pageOut 1 p) (fullP s 8)).1 (k, j) = if (k, j) ∈ fullP s 8 ∧ pageOut 1 p (wayP s (k, j)) = true then zT else wayP s (k, j) := e
  rw [e2]
  split
  · exact .inl rfl
  · rename_i hc
    by_cases hz : wayP s (k, j) = zT
    · exact .inl hz
    · have hm : (k, j) ∈ fullP s 8 := full_mem.2 ⟨hk, hj, hz⟩
      refine wayOk_other hM p0 (h k j hk hj) ?_
      cases ho : pageOut 1 p (wayP s (k, j))
      · rfl
      · exact absurd ⟨hm, ho⟩ hc
/-- An act of chapter 7. -/
structure ActC where
  d : Int
  co : Int
  ro : Int
  sp : Int
  pg : Int
  st : Int
  wy : Int
  ad : Int
  v : Int
def ActCells (w : World) (b o : Nat) (x : ActC) : Prop :=
  w.cell? ⟨b, o, none⟩ = some (.int .i64 x.d) ∧ w.cell? ⟨b, o + 1, none⟩ = some (.int .i64 x.co) ∧ w.cell? ⟨b, o + 2, none⟩ = some (.int .i64 x.ro) ∧ w.cell? ⟨b, o + 3, none⟩ = some (.int .i64 x.sp) ∧ w.cell? ⟨b, o + 4, none⟩ = some (.int .i64 x.pg) ∧ w.cell? ⟨b, o + 5, none⟩ = some (.int .i64 x.st) ∧ w.cell? ⟨b, o + 6, none⟩ = some (.int .i64 x.wy) ∧ w.cell? ⟨b, o + 7, none⟩ = some (.int .u64 x.ad) ∧ w.cell? ⟨b, o + 8, none⟩ = some (.int .u64 x.v)
structure ActC.Ok (x : ActC) : Prop where
  d : I64 x.d
  co : I64 x.co
  ro : I64 x.ro
  sp : I64 x.sp
  pg : I64 x.pg
  st : I64 x.st
  wy : I64 x.wy
  ad : WordI x.ad
  v : WordI x.v
def ActsAt (w : World) (p : Option Addr) (n : Nat) (D : Nat → ActC) : Prop :=
  ∃ b off, (0 < n → p = some ⟨b, off, none⟩ ∧ b < w.heap.size) ∧ ∀ k, k < n → ActCells w b (off + k * 9) (D k) ∧ (D k).Ok
set_option maxRecDepth 100000 in
theorem open_s23 {H : Type} {enc : TypeId × Value → H} {W : World} {base : Nat} {v : Value} {d : DataW H} {ps : List MemPlace} (hval : Value.okWide Try.prog W .any base 23 v) (hd : DataW.Trod enc Try.prog W 0 (fun _ => true) true 23 v d ps) :
    ∃ p n c, v = .slice p n c ∧ n ≤ c ∧ c ≤ maxLen ∧ ∃ D, ActsAt W p n D := by
  obtain ⟨p, n, c, rfl, h1, h2, b, off, h3, h4⟩ := open_rows (C := 9) Try.underlying23 (by kernel_rfl) (by kernel_rfl) (by decide) hval hd
  refine ⟨p, n, c, rfl, h1, h2, fun k => ⟨intAt W b (off + (k * 9 + 0)), intAt W b (off + (k * 9 + 1)), intAt W b (off + (k * 9 + 2)), intAt W b (off + (k * 9 + 3)), intAt W b (off + (k * 9 + 4)), intAt W b (off + (k * 9 + 5)), intAt W b (off + (k * 9 + 6)), intAt W b (off + (k * 9 + 7)), intAt W b (off + (k * 9 + 8))⟩, b, off, h3, fun k hk => ?_⟩
  obtain ⟨c0, o0⟩ := h4 k hk 0 (.i .i64) (by kernel_rfl)
  obtain ⟨c1, o1⟩ := h4 k hk 1 (.i .i64) (by kernel_rfl)
  obtain ⟨c2, o2⟩ := h4 k hk 2 (.i .i64) (by kernel_rfl)
  obtain ⟨c3, o3⟩ := h4 k hk 3 (.i .i64) (by kernel_rfl)
  obtain ⟨c4, o4⟩ := h4 k hk 4 (.i .i64) (by kernel_rfl)
  obtain ⟨c5, o5⟩ := h4 k hk 5 (.i .i64) (by kernel_rfl)
  obtain ⟨c6, o6⟩ := h4 k hk 6 (.i .i64) (by kernel_rfl)
  obtain ⟨c7, o7⟩ := h4 k hk 7 (.i .u64) (by kernel_rfl)
  obtain ⟨c8, o8⟩ := h4 k hk 8 (.i .u64) (by kernel_rfl)
  refine ⟨⟨?_, ?_, ?_, ?_, ?_, ?_, ?_, ?_, ?_⟩, ⟨i64_of o0, i64_of o1, i64_of o2, i64_of o3, i64_of o4, i64_of o5, i64_of o6, u64_of o7, u64_of o8⟩⟩
  all_goals first | exact c0 | exact c1 | exact c2 | exact c3 | exact c4 | exact c5 | exact c6 | exact c7 | exact c8 | (simp only [Nat.add_assoc]; first | exact c0 | exact c1 | exact c2 | exact c3 | exact c4 | exact c5 | exact c6 | exact c7 | exact c8)
theorem and1_i64 (x : Int) : ∃ K : Nat, K < 2 ∧ bits BinOp.and IntKind.i64 x 1 = (K : Int) := by
  unfold bits
  simp only
  obtain ⟨n, hn⟩ : ∃ n, (BitVec.ofInt IntKind.i64.bits x &&& BitVec.ofInt IntKind.i64.bits 1).toNat = n := ⟨_, rfl⟩
  have h : n ≤ 1 := by
    rw [← hn, BitVec.toNat_and]
    exact Nat.le_trans Nat.and_le_right (by decide)
  rw [hn]
  exact ⟨n, by omega, IntWalk.i64_in _ (by omega)⟩
theorem wrap_i64_in (x : Int) : I64 (wrap64 x) := by
  unfold wrap64 I64
  omega
/-- Translate, in space 1 of root 0. -/
theorem ctr01 (w : World) (b g n c k : Nat) (R Q : Nat → Int) (T : Nat → Nat) (S : Nat → TS) (mb mg mc : Nat) (M : Nat → Int) (p : Int) (x : TransX) (hit : Bool) (cd : Int) (s' : TS) (h : CoresAt w b g n c R Q T S) (hk : k < n) (hM : MemAt w mb mg 8 mc M) (hr : R k = 0) (hq : Q k = 1) (p0 : 0 ≤ p) (p1 : p < 8) (hz : transF 8 M 0 1 p (S k) = ((x, hit, cd), s')) :
    Calls Try.prog 24 #[.pointer (some ⟨b, 0, none⟩), .int .i64 k, .pointer (some ⟨mb, 0, none⟩), .int .i64 p] w fun e w' => e = .returned (.tuple #[trX x, .bool hit, .int .i64 cd]) ∧ CoresAt w' b g n c R Q T (setT S k s') ∧ TlbOnly (T k) w w' := by
  have h := ctrans_ok w b g n c k R Q T S mb mg 8 mc M p h hk hM (by rw [hr]; decide) p0 (by omega)
  rw [hr, hq, hz] at h
  exact h
theorem cpf01 (w : World) (b g n c k : Nat) (R Q : Nat → Int) (T : Nat → Nat) (S : Nat → TS) (mb mg mc : Nat) (M : Nat → Int) (p : Int) (s' : TS) (h : CoresAt w b g n c R Q T S) (hk : k < n) (hM : MemAt w mb mg 8 mc M) (hr : R k = 0) (hq : Q k = 1) (p0 : 0 ≤ p) (p1 : p < 8) (hz : (transF 8 M 0 1 p (S k)).2 = s') :
    Calls Try.prog 22 #[.pointer (some ⟨b, 0, none⟩), .int .i64 k, .pointer (some ⟨mb, 0, none⟩), .int .i64 p] w fun e w' => (∃ v : Bool, e = .returned (.bool v)) ∧ CoresAt w' b g n c R Q T (setT S k s') ∧ TlbOnly (T k) w w' := by
  have h := cpref_ok w b g n c k R Q T S mb mg 8 mc M p h hk hM (by rw [hr]; decide) p0 (by omega)
  rw [hr, hq, hz] at h
  exact h.mono fun e w' hh => ⟨⟨_, hh.1⟩, hh.2⟩
theorem entW_form (x : Nat) : entW x = entV true (x.testBit 1) (x.testBit 2) (x.testBit 3) ((x / 256 % 64 : Nat) : Int) := rfl
/-- All of both caches is told by the walks. -/
structure WalkInv (W wr : World) (b g : Nat) (R Q : Nat → Int) (T : Nat → Nat) (mb mg mc : Nat) (S : Nat → TS) (M : Nat → Int) : Prop where
  cores : CoresAt wr b g 2 2 R Q T S
  mem : MemAt wr mb mg 8 mc M
  chain : ChainM M
  ok : ∀ i, i < 2 → CacheOk M (S i)
  bel : Below W.heap.size W wr
  T : ∀ i, i < 2 → W.heap.size ≤ T i
theorem WalkInv.blk {W wr w' : World} {b g mb mg mc : Nat} {R Q : Nat → Int} {T : Nat → Nat} {S : Nat → TS} {M : Nat → Int} (h : WalkInv W wr b g R Q T mb mg mc S M) (k : Below wr.heap.size wr w') : WalkInv W w' b g R Q T mb mg mc S M :=
  ⟨h.cores.call k, h.mem.call k, h.chain, h.ok, bgo h.bel k, h.T⟩
theorem WalkInv.turn {W wr w' : World} {b g mb mg mc : Nat} {R Q : Nat → Int} {T : Nat → Nat} {S : Nat → TS} {M : Nat → Int} {k : Nat} {s' : TS} (h : WalkInv W wr b g R Q T mb mg mc S M) (hk : k < 2) (hT : ∀ i, i < 2 → T i ≠ mb ∧ T i ≠ mg) (hc : CoresAt w' b g 2 2 R Q T (setT S k s')) (ho : TlbOnly (T k) wr w') (hs : CacheOk M s') : WalkInv W w' b g R Q T mb mg mc (setT S k s') M :=
  ⟨hc, h.mem.of_blocks ho.size (ho.block _ h.mem.lb (Ne.symm (hT k hk).1)) (ho.block _ h.mem.lg (Ne.symm (hT k hk).2)), h.chain, fun i hi => by
    unfold setT
    split
    · exact hs
    · exact h.ok i hi, h.bel.trans (ho.below (h.T k hk) (h.cores.tlb k hk).lt), h.T⟩
theorem dropL2 (S : Nat → TS) (out : TransX → Bool) (i : Nat) (hi : i < 2) : (dropL S out (frs 2 2)).1 i = (dropF (S i) out (fullP (S i) 8)).1 := by
  rw [dropL_at S out 2 (Nat.le_refl _) i, if_pos hi]
theorem WalkInv.dropped {W wr w2 w' : World} {b g mb mg mc : Nat} {R Q : Nat → Int} {T : Nat → Nat} {S : Nat → TS} {M : Nat → Int} {P : Nat} {v : Int} (h : WalkInv W wr b g R Q T mb mg mc S M) (hT : ∀ i, i < 2 → T i ≠ mb ∧ T i ≠ mg) (hg : W.heap.size ≤ mg) (hm : MemAt w2 mb mg 8 mc (updM M (16 + P) v)) (h2 : BlkOnly mg wr w2) (hc : CoresAt w' b g 2 2 R Q T (dropL S (pageOut 1 (P : Int)) (frs 2 2)).1) (ho : OnlyT 2 T w2 w') : WalkInv W w' b g R Q T mb mg mc (dropL S (pageOut 1 (P : Int)) (frs 2 2)).1 (updM M (16 + P) v) := by
  have e : (P : Int).toNat = P := by omega
  refine ⟨hc, hm.of_blocks ho.size (ho.block _ hm.lb fun i hi => Ne.symm (hT i hi).1) (ho.block _ hm.lg fun i hi => Ne.symm (hT i hi).2), ?_, fun i hi => ?_, ?_, h.T⟩
  · have := chain_set (p := (P : Int)) (v := v) h.chain
    rwa [e] at this
  · have := ck_drop (v := v) h.chain (h.ok i hi) (p := (P : Int)) (by omega)
    rw [e] at this
    rw [dropL2 S _ i hi]
    exact this
  · exact (h.bel.trans (h2.below hg h.mem.lg)).trans (ho.below (by have := h.bel.size; have := h2.size; omega) h.T)
theorem act_keep {W wt : World} {pb o : Nat} {x : ActC} (h : Below W.heap.size W wt) (hp : pb < W.heap.size) (hc : ActCells W pb o x) : ActCells wt pb o x := by
  have e := h.block pb hp
  obtain ⟨c0, c1, c2, c3, c4, c5, c6, c7, c8⟩ := hc
  exact ⟨(cell_of_block e).trans c0, (cell_of_block e).trans c1, (cell_of_block e).trans c2, (cell_of_block e).trans c3, (cell_of_block e).trans c4, (cell_of_block e).trans c5, (cell_of_block e).trans c6, (cell_of_block e).trans c7, (cell_of_block e).trans c8⟩
end Go.Proofs.Ytedapbliebiblaa
