/- package queue: Add. -/
import Derived.Test.YthbjjamjpbfehaaQueS
import Derived.Deep.AppendLies
import Derived.Deep.RegionLaw
namespace Go.Proofs.Ythbjjamjpbfehaa
set_option linter.unusedVariables false
set_option linter.unusedSimpArgs false
open Go.ChangeShapes Go.WideShapes Go.ChangeAt Go.RowKit Go.Shelf
open Go.Maps (Keyed IsMap int_keyed keyOf_int_mk)

theorem op_append_at {P : Program} {o : Oper} {a : Act} {w : World} {K : Act → World → Prop} {Q : Exit → Act → World → Prop}
    (s x : Operand) (t : TypeId) (hop : o.op = Op.call { callee := Callee.builtin Builtin.append, args := #[s, x], argTypes := #[t, t] })
    (base : Nat) (e : TypeId) (i : TypeInfo) (z : Value) (size bytes : Nat) (h1 : P.underlying t = some (.slice e)) (h2 : P.info? e = some i) (h3 : i.zero = some z) (h4 : i.size = size) (h5 : i.bytes = bytes) (h6 : z.cells.size = size) (h7 : 0 < size)
    (v : Value) (k : Nat) (xs : List Value) (hs : a.eval s = v) (hown : w.ownsRow base e size v k xs) (ad : Addr) (m c : Nat) (news : List Value) (hx : a.eval x = .slice (some ad) m c) (hn : news.length = m * size)
    (hc : ∀ j u, news[j]? = some u → w.cell? (ad.add j) = some u) (h1c : ∀ u ∈ news, u.oneCell' = true) (b1 : k + m ≤ maxLen) (b2 : (k + m) * bytes ≤ 140737488355328) (b3 : base ≤ w.heap.size)
    (hK : ∀ v' w', w'.ownsRow base e size v' (k + m) (xs ++ news) → w.grownBy w' v.ownBlock → (v'.ownBlock = v.ownBlock ∨ v'.ownBlock = some w.heap.size) → K (a.put o.dst v') w') :
    o.wp P a w K Q := by
  obtain ⟨v', w', hrun, r1, r2, r3, r4⟩ := run_append_own_at (P := P) (w := w) base t o.type e i z size bytes h1 h2 h3 h4 h5 h6 h7 v k xs hown ad m c news hn hc h1c b1 b2 b3
  unfold Oper.wp
  simp [execOp, hop, resolve, invoke, builtin, hs, hx, hrun, Result.andThen]
  exact hK v' w' r1 r2 r4
theorem step_append_at {P : Program} {ops : Array Oper} {o : Oper} {a : Act} {w : World} {K : Act → World → Prop} {Q : Exit → Act → World → Prop} {E : Prop}
    (hg : o.guard = none) (s x : Operand) (t : TypeId) (hop : o.op = Op.call { callee := Callee.builtin Builtin.append, args := #[s, x], argTypes := #[t, t] })
    (base : Nat) (e : TypeId) (i : TypeInfo) (z : Value) (size bytes : Nat) (h1 : P.underlying t = some (.slice e)) (h2 : P.info? e = some i) (h3 : i.zero = some z) (h4 : i.size = size) (h5 : i.bytes = bytes) (h6 : z.cells.size = size) (h7 : 0 < size)
    (v : Value) (k : Nat) (xs : List Value) (hs : a.eval s = v) (hown : w.ownsRow base e size v k xs) (ad : Addr) (m c : Nat) (news : List Value) (hx : a.eval x = .slice (some ad) m c) (hn : news.length = m * size)
    (hc : ∀ j u, news[j]? = some u → w.cell? (ad.add j) = some u) (h1c : ∀ u ∈ news, u.oneCell' = true) (b1 : k + m ≤ maxLen) (b2 : (k + m) * bytes ≤ 140737488355328) (b3 : base ≤ w.heap.size)
    (hK : ∀ v' w', w'.ownsRow base e size v' (k + m) (xs ++ news) → w.grownBy w' v.ownBlock → (v'.ownBlock = v.ownBlock ∨ v'.ownBlock = some w.heap.size) → K (a.put o.dst v') w') :
    if Region.wanted o (yielded ops a.tmps) = true then Oper.wp P o a w K Q else E := by
  have hw : Region.wanted o (yielded ops a.tmps) = true := by simp [Region.wanted, hg]
  rw [if_pos hw]
  exact op_append_at s x t hop base e i z size bytes h1 h2 h3 h4 h5 h6 h7 v k xs hs hown ad m c news hx hn hc h1c b1 b2 b3 hK
theorem row_form {w : World} {base : Nat} {e : TypeId} {s : Nat} {v : Value} {n : Nat} {xs : List Value} (h : w.ownsRow base e s v (n + 1) xs) : ∃ g cap, v = .slice (some ⟨g, 0, none⟩) (n + 1) cap := by
  rcases h.2 with ⟨_, h⟩ | ⟨g, cap, cur, rfl, _⟩
  · omega
  · exact ⟨g, cap, rfl⟩
/-- What Add leaves of the lists. -/
def vput (vs : Nat → Value) (p : Nat) (v : Value) : Nat → Value := fun k => if k = p then v else vs k
def lput (L : Nat → List Int) (p : Nat) (l : List Int) : Nat → List Int := fun k => if k = p then l else L k
theorem infoI : (Try.prog.info? 3).map (fun i => (i.zero, i.size, i.bytes)) = some (some (.int .i64 0), 1, 8) := by kernel_rfl
theorem row_of_block {w w' : World} {base : Nat} {e : TypeId} {s : Nat} {v : Value} {n : Nat} {xs : List Value} (h : w.ownsRow base e s v n xs) (k : ∀ g, v.ownBlock = some g → w'.heap[g]? = w.heap[g]?) : w'.ownsRow base e s v n xs := by
  refine ⟨h.1, ?_⟩
  rcases h.2 with h2 | ⟨g, cap, cur, rfl, q1, q2, q3⟩
  · exact .inl h2
  · exact .inr ⟨g, cap, cur, rfl, q1, (k g rfl).trans q2, q3⟩
/-- What an act leaves of the world: only the queue's own blocks are turned; its lists lie where they lay, or in new blocks. -/
structure QOnly (w w' : World) (b mb : Nat) (vs vs' : Nat → Value) : Prop where
  os : w'.os = w.os
  tape : w'.tape = w.tape
  output : w'.output = w.output
  size : w.heap.size ≤ w'.heap.size
  block : ∀ k, k < w.heap.size → k ≠ b → k ≠ mb → (∀ i, i < 8 → (vs i).ownBlock ≠ some k) → w'.heap[k]? = w.heap[k]?
  foot : ∀ i k, i < 8 → (vs' i).ownBlock = some k → k < w.heap.size → ∃ j, j < 8 ∧ (vs j).ownBlock = some k
theorem QOnly.trans {a c d : World} {b mb : Nat} {v0 v1 v2 : Nat → Value} (h : QOnly a c b mb v0 v1) (k : QOnly c d b mb v1 v2) : QOnly a d b mb v0 v2 :=
  ⟨k.os.trans h.os, k.tape.trans h.tape, k.output.trans h.output, Nat.le_trans h.size k.size,
   fun j hj h1 h2 h3 => (k.block j (Nat.lt_of_lt_of_le hj h.size) h1 h2 (fun i hi e => by
     obtain ⟨q, hq, e'⟩ := h.foot i j hi e hj
     exact h3 q hq e')).trans (h.block j hj h1 h2 h3),
   fun i j hi e hj => by
     obtain ⟨q, hq, e'⟩ := k.foot i j hi e (Nat.lt_of_lt_of_le hj h.size)
     exact h.foot q j hq e' hj⟩
theorem QOnly.below {w w' : World} {B b mb n : Nat} {vs vs' : Nat → Value} {L : Nat → List Int} {f : Int → Option Int} (h : QueAt w B b mb n vs L f) (k : QOnly w w' b mb vs vs') : Below B w w' :=
  ⟨k.os, k.tape, k.output, k.size, fun j hj => k.block j (by have := h.lt; omega) (by have := h.lt; omega) (by have := h.mlt; omega) (fun i hi e => by have := ((h.row i hi).lt j e).1; omega)⟩
theorem QueAt.turn {w w3 : World} {B b mb n n' : Nat} {vs : Nat → Value} {L : Nat → List Int} {f f' : Int → Option Int} {p : Nat} {v' : Value} {l' : List Int} (h : QueAt w B b mb n vs L f) (hp : p < 8)
    (sz : w.heap.size ≤ w3.heap.size) (hc : ∀ k, k ≠ p → w3.cell? ⟨b, k, none⟩ = w.cell? ⟨b, k, none⟩) (hcp : w3.cell? ⟨b, p, none⟩ = some v') (hfz : ∀ k, w3.frozen? ⟨b, k, none⟩ = false)
    (ho : ∀ k, k < w.heap.size → k ≠ b → k ≠ mb → (vs p).ownBlock ≠ some k → w3.heap[k]? = w.heap[k]?) (hr : w3.ownsRow B 3 1 v' l'.length (l'.map (Value.int .i64)))
    (hat : v'.ownBlock = (vs p).ownBlock ∨ ∃ k, v'.ownBlock = some k ∧ w.heap.size ≤ k) (hl : l'.length ≤ n') (hn : n ≤ n') (hm : MapIs w3 mb n' f') :
    QueAt w3 B b mb n' (vput vs p v') (lput L p l') f' := by
  have hmb : mb < w.heap.size := h.map.lt
  have hlt := h.lt
  have hown : ∀ i k, i < 8 → (vs i).ownBlock = some k → k < w.heap.size := fun i k hi e => ((h.row i hi).lt k e).2
  refine ⟨⟨hlt.1, by omega⟩, h.mlt, h.ne, ?_, hfz, (hc 8 (by omega)).trans h.mcell, ?_, ?_, ?_, ?_, hm⟩
  · intro k hk
    unfold vput
    by_cases e : k = p
    · rw [if_pos e, e]; exact hcp
    · rw [if_neg e]; exact (hc k e).trans (h.cell k hk)
  · intro k hk
    unfold vput lput
    by_cases e : k = p
    · rw [if_pos e, if_pos e]; exact hr
    · rw [if_neg e, if_neg e]
      refine row_of_block (h.row k hk) (fun g hg => ho g (hown k g hk hg) (fun e2 => (h.rb k hk).1 (e2 ▸ hg)) (fun e2 => (h.rb k hk).2 (e2 ▸ hg)) (fun e2 => ?_))
      rcases h.apart k p hk hp e with q | q
      · rw [q] at hg; cases hg
      · exact q (hg.trans e2.symm)
  · intro k hk
    unfold vput
    by_cases e : k = p
    · rw [if_pos e]
      rcases hat with q | ⟨g, q, hg⟩
      · rw [q]; exact h.rb p hp
      · rw [q]; exact ⟨fun e2 => by injection e2; omega, fun e2 => by injection e2; omega⟩
    · rw [if_neg e]; exact h.rb k hk
  · intro i j hi hj hij
    unfold vput
    by_cases e1 : i = p
    · have e2 : j ≠ p := fun q => hij (e1.trans q.symm)
      rw [if_pos e1, if_neg e2]
      rcases hat with q | ⟨g, q, hg⟩
      · rw [q]; exact h.apart p j hp hj (fun q => e2 q.symm)
      · right; rw [q]
        intro e3
        have := hown j g hj e3.symm
        omega
    · rw [if_neg e1]
      by_cases e2 : j = p
      · rw [if_pos e2]
        rcases hat with q | ⟨g, q, hg⟩
        · rw [q]; exact h.apart i p hi hp e1
        · right; rw [q]
          intro e3
          have := hown i g hi e3
          omega
      · rw [if_neg e2]; exact h.apart i j hi hj hij
  · intro k hk
    unfold lput
    by_cases e : k = p
    · rw [if_pos e]; exact hl
    · rw [if_neg e]; exact Nat.le_trans (h.len k hk) hn
theorem foot_vput {w : World} {vs : Nat → Value} {p : Nat} {v' : Value} (hp : p < 8) (hat : v'.ownBlock = (vs p).ownBlock ∨ ∃ k, v'.ownBlock = some k ∧ w.heap.size ≤ k) :
    ∀ i k, i < 8 → (vput vs p v' i).ownBlock = some k → k < w.heap.size → ∃ j, j < 8 ∧ (vs j).ownBlock = some k := by
  intro i k hi e hk
  unfold vput at e
  by_cases q : i = p
  · rw [if_pos q] at e
    rcases hat with h | ⟨g, h, hg⟩
    · exact ⟨p, hp, h ▸ e⟩
    · rw [h] at e
      injection e with e
      omega
  · rw [if_neg q] at e
    exact ⟨i, hi, e⟩
theorem add_end {w w2 w3 : World} {B b mb n : Nat} {vs : Nat → Value} {L : Nat → List Int} {f f' : Int → Option Int} {p : Nat} {v' : Value} {x : Int} (o : Obj) (h : QueAt w B b mb n vs L f) (hp : p < 8)
    (hg : (w.alloc o).drew.grownBy w2 (vs p).ownBlock) (ho2 : w2.ownsRow B 3 1 v' ((L p).length + 1) ((L p).map (Value.int .i64) ++ [.int .i64 x])) (hat : v'.ownBlock = (vs p).ownBlock ∨ v'.ownBlock = some (w.alloc o).drew.heap.size)
    (ht : (w2.setCell ⟨b, p, none⟩ v').mapTurned w3 mb) (hm : MapIs w3 mb (n + 1) f') :
    ∃ vs', QueAt w3 B b mb (n + 1) vs' (lput L p (L p ++ [x])) f' ∧ QOnly w w3 b mb vs vs' := by
  have hlt := h.lt
  have hmb : mb < w.heap.size := h.map.lt
  have hbp : some b ≠ (vs p).ownBlock := (h.rb p hp).1.symm
  have sz1 : w.heap.size ≤ w2.heap.size := by have := hg.size; simp at this; omega
  have hgm := ht.grown
  have sz : w.heap.size ≤ w3.heap.size := by have := hgm.size; simp at this; omega
  have hat' : v'.ownBlock = (vs p).ownBlock ∨ ∃ k, v'.ownBlock = some k ∧ w.heap.size ≤ k := hat.imp id (fun e => ⟨_, e, by simp⟩)
  have hblk : ∀ k, k < w.heap.size → k ≠ b → k ≠ mb → (vs p).ownBlock ≠ some k → w3.heap[k]? = w.heap[k]? := by
    intro k hk h1 h2 h3
    rw [hgm.block k (by simp; omega) (fun e => by injection e with e; exact h2 e), Go.heap_setCell_other _ _ _ _ h1, hg.block k (by simp; omega) (fun e => h3 e.symm)]
    exact Below.heap_alloc _ _ _ hk
  have hb3 : w3.heap[b]? = (w2.setCell ⟨b, p, none⟩ v').heap[b]? := hgm.block b (by simp; omega) (fun e => by injection e with e; exact h.ne e)
  have hc : ∀ k, w2.cell? ⟨b, k, none⟩ = w.cell? ⟨b, k, none⟩ := fun k => (hg.cell_far ⟨b, k, none⟩ (by simp; omega) hbp).trans (cell_of_block (Below.heap_alloc w o b hlt.2))
  have hfz : ∀ k, w3.frozen? ⟨b, k, none⟩ = false := fun k => (frozen_of_block hb3).trans ((World.frozen?_setCell _ _ _ _).trans ((hg.frozen_far ⟨b, k, none⟩ (by simp; omega) hbp).trans ((frozen_of_block (Below.heap_alloc w o b hlt.2)).trans (h.free k))))
  have hr : w3.ownsRow B 3 1 v' (L p ++ [x]).length ((L p ++ [x]).map (Value.int .i64)) := by
    have e : (L p ++ [x]).length = (L p).length + 1 := by simp
    rw [e, List.map_append]
    refine row_of_block ho2 (fun g hg' => ?_)
    have hgb : g ≠ b ∧ g ≠ mb := by
      rcases hat' with q | ⟨k, q, hk⟩
      · rw [q] at hg'
        exact ⟨fun e => (h.rb p hp).1 (e ▸ hg'), fun e => (h.rb p hp).2 (e ▸ hg')⟩
      · rw [q] at hg'
        injection hg' with e
        exact ⟨by omega, by omega⟩
    have := (ho2.lt g hg').2
    rw [hgm.block g (by simp; omega) (fun e => by injection e with e; exact hgb.2 e), Go.heap_setCell_other _ _ _ _ hgb.1]
  have hl := h.len p hp
  refine ⟨vput vs p v', h.turn hp sz (fun k hk => ?_) ?_ hfz hblk hr hat' (by simp; omega) (by omega) hm, ?_, ?_, ?_, sz, ?_, foot_vput hp hat'⟩
  · exact (cell_of_block hb3).trans ((World.cell?_setCell_other _ _ _ _ (by intro e; injection e with _ e _; exact hk e.symm)).trans (hc k))
  · exact (cell_of_block hb3).trans (World.cell?_setCell_same' _ _ _ (by rw [hc p, h.cell p hp]; rfl))
  · exact hgm.os.trans (hg.os)
  · exact hgm.tape.trans (hg.tape)
  · exact hgm.output.trans (hg.output)
  · intro k hk h1 h2 h3
    exact hblk k hk h1 h2 (h3 p hp)
set_option maxRecDepth 100000 in
set_option maxHeartbeats 1000000 in
theorem add_yes (w : World) (B b mb n : Nat) (vs : Nat → Value) (L : Nat → List Int) (f : Int → Option Int) (x : Int) (p : Nat) (hx : InI x) (h1 : 1 ≤ x) (hp : p < 8) (hn : n < 1000000) (hf : f x = none) (h : QueAt w B b mb n vs L f) :
    Calls Try.prog 10 #[.pointer (some ⟨b, 0, none⟩), .int .i64 x, .int .i64 p] w fun e w' => e = .returned (.int .i64 0) ∧ ∃ vs', QueAt w' B b mb (n + 1) vs' (lput L p (L p ++ [x])) (fput f x p) ∧ QOnly w w' b mb vs vs' := by
  obtain ⟨i0, hi, hz0, hz1, hz2⟩ := info_parts infoI
  have HI := Lib.hid hi
  clear hi
  have hx1 : ¬ x < 1 := by omega
  have hp0 : ¬ (p : Int) < 0 := by omega
  have hp7 : ¬ (p : Int) > 7 := by omega
  have hpa : (0 : Int) ≤ p := by omega
  have hpb : (p : Int) < 8 := by omega
  have HH := Lib.hid h
  have hc := h.cell p hp
  have hfr := h.free p
  have hmc := h.mcell
  have hr := h.row p hp
  have HR := Lib.hid hr
  have hlen := h.len p hp
  clear h hr
  go_enter Try.func10, Try.ntmps10
  go_wp2_with (first
    | (go_at_call 19; refine (has_any _ B b mb n vs L f x hx HH.out).mono ?_; rw [hf]; rintro e w1 ⟨rfl, rfl⟩))
  have hr2 : (w1.alloc (.cells #[.int .i64 x] 3)).drew.ownsRow B 3 1 (vs p) (L p).length ((L p).map (Value.int .i64)) := HR.out.alloc _
  have hc2 : ∀ j u, ([.int .i64 x] : List Value)[j]? = some u → (w1.alloc (.cells #[.int .i64 x] 3)).cell? ((⟨w1.heap.size, 0, none⟩ : Addr).add j) = some u := cell_one_new w1 _ _
  have HR2 := Lib.hid hr2
  have hc3 : ∀ j u, ([.int .i64 x] : List Value)[j]? = some u → (w1.alloc (.cells #[.int .i64 x] 3)).drew.cell? ((⟨w1.heap.size, 0, none⟩ : Addr).add j) = some u := hc2
  have HC2 := Lib.hid hc3
  have hB := HH.out.lt
  have hA : ∀ v' w2, w2.ownsRow B 3 1 v' ((L p).length + 1) ((L p).map (Value.int .i64) ++ [.int .i64 x]) → (w1.alloc (.cells #[.int .i64 x] 3)).drew.grownBy w2 (vs p).ownBlock →
      w2.cell? ⟨b, 8, none⟩ = some (.map (some mb)) ∧ (∃ u, w2.cell? ⟨b, p, none⟩ = some u) ∧ w2.frozen? ⟨b, p, none⟩ = false ∧ b < w2.heap.size := by
    intro v' w2 _ hg
    have hne : some b ≠ (vs p).ownBlock := (HH.out.rb p hp).1.symm
    have e1 := hg.cell_far ⟨b, 8, none⟩ (by simp; omega) hne
    have e2 := hg.cell_far ⟨b, p, none⟩ (by simp; omega) hne
    have e3 := hg.frozen_far ⟨b, p, none⟩ (by simp; omega) hne
    have sz := hg.size
    simp at sz
    refine ⟨e1.trans ?_, ⟨vs p, e2.trans ?_⟩, e3.trans ?_, by omega⟩
    · exact cell_more _ hmc
    · exact cell_more _ hc
    · exact frozen_more _ hc hfr
  have HA := Lib.hid hA
  obtain ⟨D, hoD, hfD⟩ := HH.out.map
  have hM : ∀ w2 w4 v, (w1.alloc (.cells #[.int .i64 x] 3)).drew.grownBy w2 (vs p).ownBlock → w4 = w2.setCell ⟨b, p, none⟩ v → w4.ownsMap Try.prog 3 (plainElem Try.prog 3) mb n D ∧ w4.cell? ⟨b, 8, none⟩ = some (.map (some mb)) := by
    intro w2 w4 v hg hw
    have hlt := hoD.lt
    have hne : some b ≠ (vs p).ownBlock := (HH.out.rb p hp).1.symm
    have e1 := hg.cell_far ⟨b, 8, none⟩ (by simp; omega) hne
    constructor
    · rw [hw]
      refine World.ownsMap.setCell ?_ (HH.out.ne.symm) v
      exact (hoD.alloc _).drew.kept hg (HH.out.rb p hp).2.symm
    · rw [hw]
      exact (World.cell?_setCell_other _ _ _ _ (by intro e; injection e with _ e _; omega)).trans (e1.trans (cell_more _ hmc))
  have HM := Lib.hid hM
  have hk : keyOf Try.prog 3 (.int .i64 x) = some (KI x) := keyOf_int_mk Try.underlying3 (wf_in hx)
  have HK := Lib.hid hk
  have hwp : (Lit.int .i64 (p : Int)).wf = true := wf_in ⟨by omega, by omega⟩
  have HP := Lib.hid hwp
  have HI2 := Lib.hid hoD.isMap
  have HF := Lib.hid hfD
  clear hM hk hwp hoD hfD
  clear hr2 hc2 hc3 hA
  go_region_law (refine step_append_at rfl (.tmp 29) (.tmp 31) 39 rfl B 3 i0 (.int .i64 0) 1 8 Try.underlying39 HI.out hz0 hz1 hz2 rfl (by decide) (vs p) (L p).length _ (by simp [Act.eval, Act.put]) HR2.out ⟨w1.heap.size, 0, none⟩ 1 1 [.int .i64 x] (by simp [Act.eval, Act.put]) rfl HC2.out (by simp [Value.oneCell']) (by unfold maxLen; omega) (by omega) (by simp; omega) ?_; intro v' w2 ho2 hg2 hat2; obtain ⟨g, cap, rfl⟩ := row_form ho2; obtain ⟨q8, ⟨u, qp⟩, qf, qz⟩ := HA.out _ w2 ho2 hg2; have HO2 := Lib.hid ho2; have HG2 := Lib.hid hg2; have HAT := Lib.hid hat2; clear ho2 hg2 hat2)
  all_goals
    (obtain ⟨w4, hw4⟩ : ∃ y, y = w2.setCell ⟨b, p, none⟩ (Value.slice (some ⟨g, 0, none⟩) ((L p).length + 1) cap) := ⟨_, rfl⟩
     rw [← hw4]
     obtain ⟨ho4, c8⟩ := HM.out w2 w4 _ HG2.out hw4
     have HO4 := Lib.hid ho4
     have HW4 := Lib.hid hw4
     clear ho4 q8 qp qf qz hw4
     go_wp2_with (at_mapUpdate; refine wpList_mapUpdate_in _ rfl _ _ _ 46 rfl 3 3 lawI Try.underlying46 (plainElem Try.prog 3) mb n D rfl HO4.out (by unfold maxLen; omega) _ _ _ rfl rfl HK.out _ [] (plainElem_int Try.underlying3 HP.out) ?_; intro w3 hown3 hturn3)
     go_ret
     refine ⟨rfl, add_end _ HH.out hp HG2.out HO2.out HAT.out (HW4.out ▸ hturn3) (MapIs.put HI2.out HF.out hown3)⟩)
end Go.Proofs.Ythbjjamjpbfehaa
