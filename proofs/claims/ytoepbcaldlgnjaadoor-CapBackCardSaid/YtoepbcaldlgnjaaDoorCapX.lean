/- Words lent, and kept. -/
import Derived.Test.YtoepbcaldlgnjaaDoorCapActs
import Derived.Deep.DeepAppendRoom
import Derived.Laws.MakeOwn
namespace Go.Proofs.YtoepbcaldlgnjaaDoor
set_option linter.unusedVariables false
set_option linter.unusedSimpArgs false
open Go.ChangeShapes Go.WideShapes Go.ChangeAt Go.RowKit Go.Shelf

/-- The n words that a slice holds. -/
def WordsIn (w : World) (p : Option Addr) (n : Nat) (X : Nat → Int) : Prop :=
  ∃ b off, (0 < n → p = some ⟨b, off, none⟩ ∧ b < w.heap.size) ∧ ∀ k, k < n → w.cell? ⟨b, off + k, none⟩ = some (.int .u64 (X k)) ∧ 0 ≤ X k ∧ X k ≤ 18446744073709551615
/-- A list that is lent: the words, and three more behind them. -/
def Lent (w : World) (g n : Nat) (X : Nat → Int) : Prop :=
  (∀ j, j < n → w.cell? ⟨g, j, none⟩ = some (.int .u64 (X j))) ∧ (∀ j, j < 3 → w.cell? ⟨g, n + j, none⟩ = some (.int .u64 777)) ∧ g < w.heap.size
theorem Lent.go {w w' : World} {g n : Nat} {X : Nat → Int} (h : Lent w g n X) (k : Below w.heap.size w w') : Lent w' g n X :=
  ⟨fun j hj => (k.cell (p := ⟨g, j, none⟩) h.2.2).trans (h.1 j hj), fun j hj => (k.cell (p := ⟨g, n + j, none⟩) h.2.2).trans (h.2.1 j hj), Nat.lt_of_lt_of_le h.2.2 k.size⟩
def wl (X : Nat → Int) (n : Nat) : List Value := (List.range n).map fun j => Value.int .u64 (X j)
theorem wl_len (X : Nat → Int) (n : Nat) : (wl X n).length = n := by simp [wl]
theorem wl_get (X : Nat → Int) (n j : Nat) (u : Value) (h : (wl X n)[j]? = some u) : j < n ∧ u = .int .u64 (X j) := by
  unfold wl at h
  rw [List.getElem?_map] at h
  by_cases hj : j < n
  · rw [List.getElem?_range hj] at h
    exact ⟨hj, by injection h with h; exact h.symm⟩
  · rw [List.getElem?_eq_none (by simp; omega)] at h
    cases h
theorem wl_one (X : Nat → Int) (n : Nat) : ∀ u ∈ wl X n, u.oneCell' = true := by
  intro u hu
  unfold wl at hu
  obtain ⟨j, _, rfl⟩ := List.mem_map.1 hu
  rfl
/-- On the way there: k of the three are written. -/
structure LentTo (w wr : World) (n k : Nat) (X : Nat → Int) : Prop where
  words : ∀ j, j < n → wr.cell? ⟨w.heap.size, j, none⟩ = some (.int .u64 (X j))
  more : ∀ j, j < k → wr.cell? ⟨w.heap.size, n + j, none⟩ = some (.int .u64 777)
  there : ∀ j, j < 3 → ∃ v, wr.cell? ⟨w.heap.size, n + j, none⟩ = some v
  free : ∀ j, wr.frozen? ⟨w.heap.size, j, none⟩ = false
  lt : w.heap.size < wr.heap.size
  bel : Below w.heap.size w wr
theorem LentTo.done {w wr : World} {n : Nat} {X : Nat → Int} (h : LentTo w wr n 3 X) : Lent wr w.heap.size n X := ⟨h.words, h.more, h.lt⟩
theorem LentTo.step {w wr : World} {n k : Nat} {X : Nat → Int} (h : LentTo w wr n k X) (hk : k < 3) : LentTo w (wr.setCell ⟨w.heap.size, n + k, none⟩ (.int .u64 777)) n (k + 1) X := by
  have other : ∀ j, j ≠ n + k → (wr.setCell ⟨w.heap.size, n + k, none⟩ (.int .u64 777)).cell? ⟨w.heap.size, j, none⟩ = wr.cell? ⟨w.heap.size, j, none⟩ := fun j hj => World.cell?_setCell_other _ _ _ _ (by intro e; injection e with _ e _; exact hj e.symm)
  have same : (wr.setCell ⟨w.heap.size, n + k, none⟩ (.int .u64 777)).cell? ⟨w.heap.size, n + k, none⟩ = some (.int .u64 777) := by
    obtain ⟨v, hv⟩ := h.there k hk
    exact World.cell?_setCell_same' _ _ _ (by rw [hv]; rfl)
  refine ⟨fun j hj => (other j (by omega)).trans (h.words j hj), fun j hj => ?_, fun j hj => ?_, fun j => (World.frozen?_setCell _ _ _ _).trans (h.free j), by simpa using h.lt, h.bel.setCell (Nat.le_refl _) _⟩
  · by_cases e : j = k
    · rw [e]; exact same
    · exact (other (n + j) (by omega)).trans (h.more j (by omega))
  · by_cases e : j = k
    · rw [e]; exact ⟨_, same⟩
    · obtain ⟨v, hv⟩ := h.there j hj
      exact ⟨v, (other (n + j) (by omega)).trans hv⟩
theorem own_cur {w : World} {B g n cap : Nat} {xs : List Value} (h : w.ownsRow B 22 1 (.slice (some ⟨g, 0, none⟩) n cap) n xs) : ∃ cur : Array Value, w.heap[g]? = some (.cells cur 22 (0, 0)) ∧ cur.size = cap ∧ cur.toList.take n = xs := by
  obtain ⟨hl, h | ⟨g', cap', cur, hv, hg, hb, h1, h2, h3, h4⟩⟩ := h
  · cases h.1
  · cases hv
    exact ⟨cur, hb, by omega, by simpa using h4⟩
theorem lent_start {w w2 : World} {n : Nat} {cur : Array Value} {X : Nat → Int} (hb : w2.heap[w.heap.size]? = some (.cells cur 22 (0, 0))) (hs : cur.size = n + 3) (ht : cur.toList.take n = wl X n) (hB : Below w.heap.size w w2) : LentTo w w2 n 0 X := by
  have hc : ∀ j, w2.cell? ⟨w.heap.size, j, none⟩ = cur[j]? := fun j => cell_of_row _ _ j _ _ _ hb
  refine ⟨fun j hj => ?_, fun j hj => absurd hj (by omega), fun j hj => ?_, fun j => by simp [World.frozen?, hb], (Array.getElem?_eq_some_iff.1 hb).1, hB⟩
  · rw [hc, ← Array.getElem?_toList, ← List.getElem?_take_of_lt hj, ht]
    simp [wl, hj]
  · rw [hc]
    exact ⟨_, Array.getElem?_eq_getElem (by omega)⟩
set_option maxRecDepth 100000 in
set_option maxHeartbeats 2000000 in
theorem lend_any (w : World) (p : Option Addr) (n c : Nat) (X : Nat → Int) (hn : n ≤ 8) (hX : WordsIn w p n X) (hp : p = none → n = 0 ∧ c = 0) :
    Calls Tryd.prog 15 #[.slice p n c] w fun e w' => ∃ g, e = .returned (.slice (some ⟨g, 0, none⟩) n (n + 3)) ∧ w.heap.size ≤ g ∧ Lent w' g n X ∧ Below w.heap.size w w' := by
  obtain ⟨b, off, hb, hX⟩ := hX
  obtain ⟨i0, hi, hz0, hz1, hz2⟩ := info_parts infoW
  obtain ⟨w1, hrun, hown, hgr⟩ := run_make_own (P := Tryd.prog) w w.heap.size 25 22 i0 _ 1 Tryd.underlying25 hi hz0 hz1 .i64 .i64 (n + 3) (by rw [hz2]; omega) (by unfold maxLen; omega) (Nat.le_refl _)
  have hrun2 : (Instr.makeSlice 25 (.int .i64 0) (.int .i64 ((n : Int) + 3))).run Tryd.prog w = .ok (.slice (some ⟨w.heap.size, 0, none⟩) 0 (n + 3)) w1 := by
    have e : ((n + 3 : Nat) : Int) = (n : Int) + 3 := by omega
    rw [← e]; exact hrun
  have i64 : (n : Int) ≤ 8 := by omega
  have B1 : Below w.heap.size w w1 := (Below.refl _ _).grown hgr (Nat.le_refl _) (fun j e => by cases e)
  have HI := Lib.hid hi
  have HOWN := Lib.hid hown
  have HB1 := Lib.hid B1
  have hnews : ∀ (q : Nat), ∀ j u, (wl X n)[j]? = some u → 0 < n → w1.cell? ((⟨b, off, none⟩ : Addr).add j) = some u := by
    intro _ j u hj h0
    obtain ⟨h1, rfl⟩ := wl_get X n j u hj
    have hbb := (hb h0).2
    have := (B1.cell (p := ⟨b, off + j, none⟩) hbb).trans (hX j h1).1
    unfold Addr.add
    split
    · rename_i e; subst e; exact this
    · exact this
  have HN := Lib.hid (hnews 0)
  have HW := Lib.hid hX
  clear hrun hown hgr hnews hX B1
  by_cases h0 : 0 < n
  · obtain ⟨rfl, hbb⟩ := hb h0
    clear hb hp hi
    go_enter Tryd.func15, Tryd.ntmps15
    go_wp2_with (at_builtin; refine wpList_append_own_spare _ rfl _ _ 25 rfl w.heap.size 22 i0 1 Tryd.underlying25 HI.out hz1 w.heap.size 0 (n + 3) [] rfl HOWN.out ⟨b, off, none⟩ n c (wl X n) rfl (by simp [wl_len]) (fun j u hj => HN.out j u hj h0) (wl_one X n) (by omega) ?_; intro w2 hown2 hgr2)
    obtain ⟨cur, hcur, hcs, htk⟩ := own_cur hown2
    have B2 : Below w.heap.size w w2 := HB1.out.trans ⟨hgr2.os, hgr2.tape, hgr2.output, hgr2.size, fun j hj => hgr2.block j (by have := HB1.out.size; omega) (fun e => by injection e; omega)⟩
    have hl := lent_start hcur (by omega) (by simpa using htk) B2
    have HL := Lib.hid hl
    clear hcur hcs htk hown2 hgr2 hl B2
    simp only [Nat.add_sub_cancel_left]
    go_loopw [5] (fun i wr => ∃ k : Nat, k ≤ 3 ∧ i = .int .i64 k ∧ LentTo w wr n k X) (fun i _ => 3 - (intOf i).toNat)
    case atStart => exact ⟨0, by omega, rfl, HL.out⟩
    case round =>
      obtain ⟨k, hk, rfl, hL⟩ := hrel
      by_cases hlt : k < 3
      · have hlt' : (k : Int) < 3 := by omega
        obtain ⟨v, cv⟩ := hL.there k hlt
        have fv := hL.free (n + k)
        have HL2 := Lib.hid (hL.step hlt)
        clear hL
        go_wp2
        go_roundw
        case rel => exact ⟨k + 1, by omega, by go_num, HL2.out⟩
        case measure => simp [intOf]; omega
      · obtain rfl : k = 3 := by omega
        go_wp2
        go_ret
        exact ⟨_, rfl, Nat.le_refl _, hL.done, hL.bel⟩
  · obtain rfl : n = 0 := by omega
    have hrun3 : (Instr.makeSlice 25 (.int .i64 0) (.int .i64 3)).run Tryd.prog w = .ok (.slice (some ⟨w.heap.size, 0, none⟩) 0 3) w1 := hrun2
    clear hrun2
    cases p with
    | none =>
      obtain ⟨-, rfl⟩ := hp rfl
      have hap : (Builtin.append_ #[25, 25] 25 #[.slice (some ⟨w.heap.size, 0, none⟩) 0 3, .slice none 0 0]).run Tryd.prog w1 = .ok (.slice (some ⟨w.heap.size, 0, none⟩) 0 3) w1 := run_append_owned_none w1 w.heap.size 25 25 22 i0 1 Tryd.underlying25 HI.out _ _ _ HOWN.out
      obtain ⟨cur, hcur, hcs, htk⟩ := own_cur HOWN.out
      have hl := lent_start (X := X) hcur (by omega) (by simp [wl]) HB1.out
      have HL := Lib.hid hl
      clear hb hi hcur hcs htk hl
      go_enter Tryd.func15, Tryd.ntmps15
      go_wp2
      go_loopw [5] (fun i wr => ∃ k : Nat, k ≤ 3 ∧ i = .int .i64 k ∧ LentTo w wr 0 k X) (fun i _ => 3 - (intOf i).toNat)
      case atStart => exact ⟨0, by omega, rfl, HL.out⟩
      case round =>
        obtain ⟨k, hk, rfl, hL⟩ := hrel
        by_cases hlt : k < 3
        · have hlt' : (k : Int) < 3 := by omega
          obtain ⟨v, cv⟩ := hL.there k hlt
          have fv := hL.free (0 + k)
          have HL2 := Lib.hid (hL.step hlt)
          rw [Nat.zero_add] at cv fv HL2
          clear hL
          go_wp2
          go_roundw
          case rel => exact ⟨k + 1, by omega, by go_num, HL2.out⟩
          case measure => simp [intOf]; omega
        · obtain rfl : k = 3 := by omega
          go_wp2
          go_ret
          exact ⟨_, rfl, Nat.le_refl _, hL.done, hL.bel⟩
    | some ad =>
      clear hb hi
      go_enter Tryd.func15, Tryd.ntmps15
      go_wp2_with (at_builtin; refine wpList_append_own_spare _ rfl _ _ 25 rfl w.heap.size 22 i0 1 Tryd.underlying25 HI.out hz1 w.heap.size 0 3 [] rfl HOWN.out ad 0 c [] rfl rfl (fun j u hj => by simp at hj) (by simp) (by omega) ?_; intro w2 hown2 hgr2)
      obtain ⟨cur, hcur, hcs, htk⟩ := own_cur hown2
      have B2 : Below w.heap.size w w2 := HB1.out.trans ⟨hgr2.os, hgr2.tape, hgr2.output, hgr2.size, fun j hj => hgr2.block j (by have := HB1.out.size; omega) (fun e => by injection e; omega)⟩
      have hl := lent_start (X := X) hcur (by omega) (by simp [wl]) B2
      have HL := Lib.hid hl
      clear hcur hcs htk hown2 hgr2 hl B2
      go_loopw [5] (fun i wr => ∃ k : Nat, k ≤ 3 ∧ i = .int .i64 k ∧ LentTo w wr 0 k X) (fun i _ => 3 - (intOf i).toNat)
      case atStart => exact ⟨0, by omega, rfl, HL.out⟩
      case round =>
        obtain ⟨k, hk, rfl, hL⟩ := hrel
        by_cases hlt : k < 3
        · have hlt' : (k : Int) < 3 := by omega
          obtain ⟨v, cv⟩ := hL.there k hlt
          have fv := hL.free (0 + k)
          have HL2 := Lib.hid (hL.step hlt)
          rw [Nat.zero_add] at cv fv HL2
          clear hL
          go_wp2
          go_roundw
          case rel => exact ⟨k + 1, by omega, by go_num, HL2.out⟩
          case measure => simp [intOf]; omega
        · obtain rfl : k = 3 := by omega
          go_wp2
          go_ret
          exact ⟨_, rfl, Nat.le_refl _, hL.done, hL.bel⟩
end Go.Proofs.YtoepbcaldlgnjaaDoor
