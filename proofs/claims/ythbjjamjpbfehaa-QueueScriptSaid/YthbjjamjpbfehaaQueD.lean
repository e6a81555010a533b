/- package queue: Drop. -/
import Derived.Test.YthbjjamjpbfehaaQueA
import Derived.Sort.OwnSortedInts
import Derived.Lib.OwnBridge
namespace Go.Proofs.Ythbjjamjpbfehaa
set_option linter.unusedVariables false
set_option linter.unusedSimpArgs false
open Go.ChangeShapes Go.WideShapes Go.ChangeAt Go.RowKit Go.Shelf
open Go.Maps (Keyed IsMap int_keyed keyOf_int_mk)
open Go.Sort Go.Lib

/-- Behind a Delete of one: the row, and all else. -/
theorem put_row {w : World} {B g cap q : Nat} {e : TypeId} {zs ts : List Int} (h : w.ownsRow B e 1 (.slice (some ⟨g, 0, none⟩) zs.length cap) zs.length (zs.map (Value.int .i64))) (ht : ts.length + 1 = zs.length) :
    (putRow (Value.int .i64) (Sort.ahead w q) g 0 (ts ++ [0]).toArray).ownsRow B e 1 (.slice (some ⟨g, 0, none⟩) ts.length cap) ts.length (ts.map (Value.int .i64)) ∧
    w.grownBy (putRow (Value.int .i64) (Sort.ahead w q) g 0 (ts ++ [0]).toArray) (some g) := by
  have e0 : ∀ W : World, grow W #[] = W := fun W => by simp [grow]
  constructor
  · rcases h.2 with ⟨h0, _⟩ | ⟨g', cap', cur, hv, hg, hb, hn, hcap, hs, _⟩
    · cases h0
    cases hv
    have hh := heap_sortedI (n := q) (os := #[]) (ts ++ [0]).toArray hb
    rw [e0] at hh
    refine ⟨by simp, .inr ⟨g, cap, _, rfl, hg, hh, by omega, hcap, by simp [putCells, hs], ?_⟩⟩
    have := take_putCellsI cur (ts ++ [0]) (by simp; omega)
    rw [Nat.mul_one]
    have e2 : ts.map (Value.int .i64) = ((ts ++ [0]).map (Value.int .i64)).take ts.length := by simp
    rw [e2, ← this, List.take_take]
    congr 1
    simp
  · have := grownBy_sortedI (w := w) (g := g) (n := q) (os := #[]) (ts ++ [0]).toArray
    rw [e0] at this
    exact this
theorem delete_row (w : World) (B g cap n : Nat) (i j : Int) (zs l1 l2 : List Int) (x : Int) (hz : zs = l1 ++ x :: l2) (hn : n = zs.length) (hi : i = (l1.length : Int)) (hj : j = (l1.length : Int) + 1)
    (h : w.ownsRow B 3 1 (.slice (some ⟨g, 0, none⟩) zs.length cap) zs.length (zs.map (Value.int .i64))) :
    Calls Try.prog 26 #[.slice (some ⟨g, 0, none⟩) n cap, .int .i64 i, .int .i64 j] w fun e w' => e = .returned (.slice (some ⟨g, 0, none⟩) (l1 ++ l2).length cap) ∧
      w'.ownsRow B 3 1 (.slice (some ⟨g, 0, none⟩) (l1 ++ l2).length cap) (l1 ++ l2).length ((l1 ++ l2).map (Value.int .i64)) ∧ w.grownBy w' (some g) := by
  obtain ⟨g', cap', e1, _, _, hle, hmax, _, hH⟩ := holds_of_ownsRow h (by intro e; cases e)
  cases e1
  have hl : zs.length = l1.length + l2.length + 1 := by rw [hz]; simp; omega
  have hd := delete_any g 0 cap l1.length (l1.length + 1) zs w hH hle (by unfold maxLen at hmax; omega) (by omega) (by omega)
  subst hn hi
  rw [hj, show ((l1.length : Int) + 1) = ((l1.length + 1 : Nat) : Int) by omega]
  refine hd.mono ?_
  rintro e w' ⟨rfl, q, rfl⟩
  have e2 : zs.take l1.length ++ zs.drop (l1.length + 1) = l1 ++ l2 := by
    rw [hz]; simp [List.take_append, List.drop_append]
  have e3 : zs.length - (l1.length + 1 - l1.length) = (l1 ++ l2).length := by simp; omega
  have e4 : l1.length + 1 - l1.length = 1 := by omega
  rw [e3, e4, e2]
  exact ⟨rfl, put_row h (by simp; omega)⟩
theorem turn_end {w w0 w2 w3 : World} {B b mb n n' : Nat} {vs : Nat → Value} {L : Nat → List Int} {f f' : Int → Option Int} {p : Nat} {v' : Value} {l' : List Int} (h : QueAt w B b mb n vs L f) (hp : p < 8) (h0 : w.grownBy w0 none)
    (hg : w0.grownBy w2 (vs p).ownBlock) (ho2 : w2.ownsRow B 3 1 v' l'.length (l'.map (Value.int .i64))) (hat' : v'.ownBlock = (vs p).ownBlock ∨ ∃ k, v'.ownBlock = some k ∧ w.heap.size ≤ k)
    (ht : (w2.setCell ⟨b, p, none⟩ v').mapTurned w3 mb) (hl : l'.length ≤ n') (hn : n ≤ n') (hm : MapIs w3 mb n' f') :
    ∃ vs', QueAt w3 B b mb n' vs' (lput L p l') f' ∧ QOnly w w3 b mb vs vs' := by
  have hlt := h.lt
  have hmb : mb < w.heap.size := h.map.lt
  have hbp : some b ≠ (vs p).ownBlock := (h.rb p hp).1.symm
  have sz0 := h0.size
  have sz1 : w.heap.size ≤ w2.heap.size := Nat.le_trans sz0 hg.size
  have hgm := ht.grown
  have sz : w.heap.size ≤ w3.heap.size := by have := hgm.size; simp at this; omega
  have hblk : ∀ k, k < w.heap.size → k ≠ b → k ≠ mb → (vs p).ownBlock ≠ some k → w3.heap[k]? = w.heap[k]? := by
    intro k hk h1 h2 h3
    rw [hgm.block k (by simp; omega) (fun e => by injection e with e; exact h2 e), Go.heap_setCell_other _ _ _ _ h1, hg.block k (by omega) (fun e => h3 e.symm), h0.block k hk (by simp)]
  have hb3 : w3.heap[b]? = (w2.setCell ⟨b, p, none⟩ v').heap[b]? := hgm.block b (by simp; omega) (fun e => by injection e with e; exact h.ne e)
  have hb0 : w0.heap[b]? = w.heap[b]? := h0.block b hlt.2 (by simp)
  have hc : ∀ k, w2.cell? ⟨b, k, none⟩ = w.cell? ⟨b, k, none⟩ := fun k => (hg.cell_far ⟨b, k, none⟩ (by simp; omega) hbp).trans (cell_of_block hb0)
  have hfz : ∀ k, w3.frozen? ⟨b, k, none⟩ = false := fun k => (frozen_of_block hb3).trans ((World.frozen?_setCell _ _ _ _).trans ((hg.frozen_far ⟨b, k, none⟩ (by simp; omega) hbp).trans ((frozen_of_block hb0).trans (h.free k))))
  have hr : w3.ownsRow B 3 1 v' l'.length (l'.map (Value.int .i64)) := by
    refine row_of_block ho2 (fun g hg' => ?_)
    have hgb : g ≠ b ∧ g ≠ mb := by
      rcases hat' with q | ⟨k, q, hk⟩
      · rw [q] at hg'
        exact ⟨fun e => (h.rb p hp).1 (e ▸ hg'), fun e => (h.rb p hp).2 (e ▸ hg')⟩
      · rw [q] at hg'
        injection hg' with e
        exact ⟨by omega, by omega⟩
    have := (ho2.lt g hg').2
    rw [hgm.block g (by simp; omega) (fun e => by injection e with e; exact hgb.2 e), Go.heap_setCell_other _ _ _ _ hgb.1]
  refine ⟨vput vs p v', h.turn hp sz (fun k hk => ?_) ?_ hfz hblk hr hat' hl hn hm, ?_, ?_, ?_, sz, ?_, foot_vput hp hat'⟩
  · exact (cell_of_block hb3).trans ((World.cell?_setCell_other _ _ _ _ (by intro e; injection e with _ e _; exact hk e.symm)).trans (hc k))
  · exact (cell_of_block hb3).trans (World.cell?_setCell_same' _ _ _ (by rw [hc p, h.cell p hp]; rfl))
  · exact hgm.os.trans (hg.os.trans h0.os)
  · exact hgm.tape.trans (hg.tape.trans h0.tape)
  · exact hgm.output.trans (hg.output.trans h0.output)
  · intro k hk h1 h2 h3
    exact hblk k hk h1 h2 (h3 p hp)
set_option maxRecDepth 100000 in
set_option maxHeartbeats 1000000 in
theorem drop_yes (w : World) (B b mb n : Nat) (vs : Nat → Value) (L : Nat → List Int) (f : Int → Option Int) (x : Int) (p : Nat) (l1 l2 : List Int) (hx : InI x) (hp : p < 8) (hn : n < 1000000) (hf : f x = some (p : Int)) (hL : L p = l1 ++ x :: l2) (hx1 : ∀ y ∈ l1, y ≠ x) (h : QueAt w B b mb n vs L f) :
    Calls Try.prog 12 #[.pointer (some ⟨b, 0, none⟩), .int .i64 x] w fun e w' => e = .returned (.bool true) ∧ ∃ vs', QueAt w' B b mb n vs' (lput L p (l1 ++ l2)) (fdel f x) ∧ QOnly w w' b mb vs vs' := by
  have hpa : (0 : Int) ≤ p := by omega
  have hpb : (p : Int) < 8 := by omega
  have hr := h.row p hp
  have hlen := h.len p hp
  obtain ⟨g, cap, hv⟩ : ∃ g cap, vs p = .slice (some ⟨g, 0, none⟩) (L p).length cap := by
    rcases hr.2 with ⟨_, h0⟩ | ⟨g, cap, cur, e, _⟩
    · rw [hL] at h0; simp at h0
    · exact ⟨g, cap, e⟩
  have HH := Lib.hid h
  have hc := h.cell p hp
  have hfr := h.free p
  have hmc := h.mcell
  obtain ⟨D, hoD, hfD⟩ := h.map
  have hk : keyOf Try.prog 3 (.int .i64 x) = some (KI x) := keyOf_int_mk Try.underlying3 (wf_in hx)
  obtain ⟨c, hrun, hat, _⟩ := hoD.drew.lookup_int lawI Try.underlying46 Try.underlying3 (zeroI _) hk
  have hcp : c = (p : Int) := by
    have e := hat.symm.trans (hfD x hx).2
    rw [hf] at e
    injection e with e
    injection e
  subst hcp
  rw [hv] at hc hr
  have HR := Lib.hid hr
  have HOD := Lib.hid hoD
  have HFD := Lib.hid hfD
  have HK := Lib.hid hk
  have hidx : Lib.idxOf ((L p).take (L p).length) x = (l1.length : Int) := by
    refine Lib.idxOf_hit (L p) _ l1.length x (by rw [hL]; simp) (Nat.le_refl _) (by rw [hL]; simp [List.getD]) ?_
    intro j hj
    rw [hL]
    simp only [List.getD, List.getElem?_append_left hj]
    rw [List.getElem?_eq_getElem hj]
    exact hx1 _ (List.getElem_mem hj)
  have hci : ∀ j, j < (L p).length → w.drew.cell? ⟨g, 0 + j, none⟩ = some (.int .i64 ((L p).getD j 0)) := by
    intro j hj
    have := hr.cellAt j (by omega)
    rw [Nat.zero_add]
    refine this.trans ?_
    simp [List.getD, List.getElem?_eq_getElem hj]
  have HIX := Lib.hid hidx
  have HCI := Lib.hid hci
  have hgb : g ≠ b ∧ g ≠ mb := by
    have := h.rb p hp
    rw [hv] at this
    exact ⟨fun e => this.1 (by rw [e]; rfl), fun e => this.2 (by rw [e]; rfl)⟩
  have hlt := h.lt
  have hA : ∀ w2, w.drew.grownBy w2 (some g) → w2.cell? ⟨b, 8, none⟩ = some (.map (some mb)) ∧ (∃ u, w2.cell? ⟨b, p, none⟩ = some u) ∧ w2.frozen? ⟨b, p, none⟩ = false ∧ b < w2.heap.size := by
    intro w2 hg
    have hne : some b ≠ some g := fun e => hgb.1 (by injection e with e; exact e.symm)
    exact ⟨(hg.cell_far ⟨b, 8, none⟩ hlt.2 hne).trans hmc, ⟨_, (hg.cell_far ⟨b, p, none⟩ hlt.2 hne).trans hc⟩, (hg.frozen_far ⟨b, p, none⟩ hlt.2 hne).trans hfr, Nat.lt_of_lt_of_le hlt.2 hg.size⟩
  have hM : ∀ w2 v, w.drew.grownBy w2 (some g) → (w2.setCell ⟨b, p, none⟩ v).ownsMap Try.prog 3 (plainElem Try.prog 3) mb n D := by
    intro w2 v hg
    refine World.ownsMap.setCell ?_ (h.ne.symm) v
    exact hoD.drew.kept hg (fun e => hgb.2 (by injection e with e; exact e.symm))
  have h8 : ∀ (W : World) v, (W.setCell ⟨b, p, none⟩ v).cell? ⟨b, 8, none⟩ = W.cell? ⟨b, 8, none⟩ := fun W v => World.cell?_setCell_other _ _ _ _ (by intro e; injection e with _ e _; omega)
  have HA := Lib.hid hA
  have HM := Lib.hid hM
  have hl1 : l1.length < 1000000 := by
    have : (L p).length = l1.length + l2.length + 1 := by rw [hL]; simp; omega
    omega
  have HL := Lib.hid hL
  have hbz := hlt.2
  have hl12 : (l1 ++ l2).length ≤ n := by
    have : (L p).length = l1.length + l2.length + 1 := by rw [hL]; simp; omega
    simp; omega
  have HL12 := Lib.hid hl12
  have HV := Lib.hid hv
  have hlp : (L p).length < 1000000 := by omega
  clear h hr hoD hfD hk hat hidx hci hA hM hx1 hL hl12 hv hlt
  go_enter Try.func12, Try.ntmps12
  go_wp2_with (first
    | (go_at_call 19; refine (has_any _ B b mb n vs L f x hx HH.out).mono ?_; rw [hf]; rintro e w1 ⟨rfl, rfl⟩))
  go_region
  all_goals
    (go_wp2_with (first
      | (go_at_call 25; refine (index_any g 0 (L p).length cap (L p) x _ (Nat.le_refl _) (by omega) HCI.out).mono ?_; rw [HIX.out]; rintro e w3 ⟨rfl, rfl⟩)
      | (go_at_call 26; refine (delete_row _ B g cap (L p).length _ _ (L p) l1 l2 x HL.out rfl rfl (by first | omega | go_num | (simp; omega)) HR.out.drew).mono ?_; rintro e w4 ⟨rfl, ho4, hg4⟩; obtain ⟨q8, ⟨u, qp⟩, qf, qz⟩ := HA.out _ hg4; have HO4 := Lib.hid ho4; have HG4 := Lib.hid hg4; clear ho4 hg4)
      | (at_delete; refine wpList_delete_own _ rfl _ _ 46 3 rfl 3 lawI Try.underlying46 (plainElem Try.prog 3) mb n D rfl (HM.out _ _ HG4.out) _ _ rfl HK.out ?_; intro w5 hown5 hturn5))
     go_ret
     have hg0 : w1.grownBy w1.drew none := ⟨rfl, rfl, rfl, Nat.le_refl _, fun _ _ _ => rfl⟩
     have hvo : (vs p).ownBlock = some g := by rw [HV.out]; rfl
     have hfin := HH.out
     exact ⟨rfl, turn_end hfin hp (w0 := w1.drew) hg0 (by rw [hvo]; exact HG4.out) HO4.out (.inl (by rw [hvo]; rfl)) (by rw [List.length_append]; exact hturn5) HL12.out (Nat.le_refl _) (MapIs.del HFD.out hown5)⟩)
end Go.Proofs.Ythbjjamjpbfehaa
