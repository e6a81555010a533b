/- Chapter 21's own answer: its list, at, Has, All. -/
import Derived.Test.YthbjjamjpbfehaaQueP
import Derived.BigQuiet
namespace Go.Proofs.Ythbjjamjpbfehaa
set_option linter.unusedVariables false
set_option linter.unusedSimpArgs false
open Go.ChangeShapes Go.WideShapes Go.ChangeAt Go.RowKit Go.Shelf

def cellsR (R : List (Int × Nat)) : List Value := R.flatMap fun e => [.int .i64 e.1, .int .i64 (e.2 : Int)]
theorem cellsR_len (R : List (Int × Nat)) : (cellsR R).length = R.length * 2 := by
  induction R with
  | nil => rfl
  | cons e t ih => simp [cellsR] at ih ⊢; omega
theorem cellsR_app (R T : List (Int × Nat)) : cellsR (R ++ T) = cellsR R ++ cellsR T := by simp [cellsR]
theorem cellsR_at : ∀ {R : List (Int × Nat)} {i : Nat} {e : Int × Nat}, R[i]? = some e → (cellsR R)[i * 2]? = some (.int .i64 e.1) ∧ (cellsR R)[i * 2 + 1]? = some (.int .i64 (e.2 : Int))
  | [], i, e, h => by simp at h
  | a :: t, 0, e, h => by
    simp at h; subst h
    exact ⟨rfl, rfl⟩
  | a :: t, i + 1, e, h => by
    have ih := cellsR_at (R := t) (i := i) (e := e) (by simpa using h)
    have e1 : (i + 1) * 2 = i * 2 + 1 + 1 := by omega
    have e2 : (i + 1) * 2 + 1 = i * 2 + 1 + 1 + 1 := by omega
    have c : cellsR (a :: t) = .int .i64 a.1 :: .int .i64 (a.2 : Int) :: cellsR t := rfl
    rw [e1, c]
    exact ih
/-- The chapter's queue in block rb stands as R. -/
structure RefQ (W : World) (B rb : Nat) (v : Value) (R : List (Int × Nat)) : Prop where
  lt : rb < W.heap.size
  cell : W.cell? ⟨rb, 0, none⟩ = some v
  free : W.frozen? ⟨rb, 0, none⟩ = false
  row : W.ownsRow B 52 2 v R.length (cellsR R)
  ne : v.ownBlock ≠ some rb
theorem RefQ.of_blocks {W W' : World} {B rb : Nat} {v : Value} {R : List (Int × Nat)} (h : RefQ W B rb v R) (sz : W.heap.size ≤ W'.heap.size) (h1 : W'.heap[rb]? = W.heap[rb]?) (h2 : ∀ g, v.ownBlock = some g → W'.heap[g]? = W.heap[g]?) : RefQ W' B rb v R :=
  ⟨Nat.lt_of_lt_of_le h.lt sz, (cell_of_block h1).trans h.cell, (frozen_of_block h1).trans h.free, row_of_block h.row h2, h.ne⟩
theorem RefQ.call {W W' : World} {B rb : Nat} {v : Value} {R : List (Int × Nat)} (h : RefQ W B rb v R) (k : Below W.heap.size W W') : RefQ W' B rb v R :=
  h.of_blocks k.size (k.block rb h.lt) (fun g hg => k.block g (h.row.lt g hg).2)
theorem one_place {B : Nat} {w : World} {e : TypeId} {q : Value} {n : Nat} {xs : List Value} (h : w.ownsRow B e 2 q n xs) (h0 : 0 < n) : ∃ g c, q = .slice (some ⟨g, 0, none⟩) n c ∧ n ≤ c ∧ c ≤ maxLen ∧ B ≤ g ∧ g < w.heap.size ∧ ∀ j u, xs[j]? = some u → w.cell? ⟨g, j, none⟩ = some u := by
  have hlt := h.lt
  have hcs := fun g hg => h.cells (g := g) hg
  obtain ⟨hl, h | ⟨g, cap, cur, rfl, hg, hblk, h1, h2, h3, h4⟩⟩ := h
  · omega
  · refine ⟨g, cap, rfl, h1, h2, hg, (hlt g rfl).2, fun j u hj => ?_⟩
    have := hcs g rfl j u hj
    have e : ((⟨g, 0, none⟩ : Addr).add j) = ⟨g, j, none⟩ := by unfold Addr.add; split <;> simp_all
    rwa [e] at this
/-- What the list's value is. -/
theorem one_form {B : Nat} {w : World} {e : TypeId} {q : Value} {n : Nat} {xs : List Value} (h : w.ownsRow B e 2 q n xs) : ∃ a c, q = .slice a n c ∧ n ≤ c ∧ c ≤ maxLen := by
  by_cases h0 : 0 < n
  · obtain ⟨g, c, rfl, h1, h2, _⟩ := one_place h h0
    exact ⟨_, c, rfl, h1, h2⟩
  · obtain rfl : n = 0 := by omega
    obtain ⟨hl, ⟨rfl, _⟩ | ⟨g, cap, cur, rfl, hg, hblk, h1, h2, h3, h4⟩⟩ := h
    · exact ⟨_, _, rfl, Nat.le_refl _, by unfold maxLen; omega⟩
    · exact ⟨_, _, rfl, h1, h2⟩
set_option maxHeartbeats 1000000 in
/-- Where one stands, -1 if he does not. -/
theorem at_any (w : World) (B rb : Nat) (v : Value) (R : List (Int × Nat)) (x : Int) (hR : R.length ≤ 1000) (h : RefQ w B rb v R) :
    Calls Try.prog 24 #[.pointer (some ⟨rb, 0, none⟩), .int .i64 x] w fun e w' => (∃ k : Int, e = .returned (.int .i64 k) ∧ ((k = -1 ∧ ∀ e ∈ R, e.1 ≠ x) ∨ ∃ (i : Nat) (a : Int × Nat), k = (i : Int) ∧ R[i]? = some a ∧ a.1 = x)) ∧ w' = w := by
  obtain ⟨a0, c0, rfl, hn, hm⟩ := one_form h.row
  unfold maxLen at hm
  have hc := h.cell
  have H := Lib.hid h
  have hR' : (R.length : Int) ≤ 1000 := by omega
  clear h
  go_enter Try.func24, Try.ntmps24
  go_wp2
  go_loopw [5] (fun i wr => ∃ k : Nat, k ≤ R.length ∧ i = .int .i64 k ∧ wr = w ∧ Hid (∀ (j : Nat) e, j < k → R[j]? = some e → e.1 ≠ x)) (fun i _ => R.length - (intOf i).toNat)
  case atStart => exact ⟨0, by omega, rfl, rfl, Lib.hid (fun j e hj => absurd hj (by omega))⟩
  case round =>
    obtain ⟨k, hk, rfl, rfl, HN⟩ := hrel
    by_cases hlt : k < R.length
    · have hlt' : (k : Int) < R.length := by omega
      obtain ⟨g, c1, hv, -, -, -, hg, hcs⟩ := one_place H.out.row (by omega)
      simp only [Value.slice.injEq, true_and] at hv
      obtain ⟨rfl, rfl⟩ := hv
      obtain ⟨e, he⟩ : ∃ e, R[k]? = some e := ⟨_, List.getElem?_eq_getElem hlt⟩
      have d0 := hcs _ _ (cellsR_at he).1
      have HE := Lib.hid he
      clear hcs he
      by_cases hx : e.1 = x
      · rw [hx] at d0
        have HX := Lib.hid hx
        clear hx
        go_wp2
        go_ret
        exact ⟨⟨_, rfl, .inr ⟨k, e, by first | rfl | trivial, HE.out, HX.out⟩⟩, by first | rfl | trivial⟩
      · obtain ⟨z, hz⟩ : ∃ z, e.1 = z := ⟨_, rfl⟩
        rw [hz] at d0 hx
        have HZ := Lib.hid hz
        clear hz
        go_wp2
        go_roundw
        case rel => exact ⟨k + 1, by omega, by go_num, by first | rfl | trivial, Lib.hid (fun j e' hj hj' => by
          by_cases q : j = k
          · subst q
            have := HE.out
            rw [hj'] at this
            cases this
            rw [HZ.out]; exact hx
          · exact HN.out j e' (by omega) hj')⟩
        case measure => simp [intOf]; omega
    · obtain rfl : k = R.length := by omega
      go_wp2
      go_ret
      refine ⟨⟨_, rfl, .inl ⟨by first | rfl | trivial, fun e he => ?_⟩⟩, by first | rfl | trivial⟩
      obtain ⟨j, hj, hje⟩ := List.mem_iff_getElem.1 he
      exact HN.out j e hj (by rw [List.getElem?_eq_getElem hj, hje])
theorem rhas_any (w : World) (B rb : Nat) (v : Value) (R : List (Int × Nat)) (x : Int) (hR : R.length ≤ 1000) (hg : Good R) (h : RefQ w B rb v R) :
    Calls Try.prog 20 #[.pointer (some ⟨rb, 0, none⟩), .int .i64 x] w fun e w' => e = .returned (.bool (hasR R x)) ∧ w' = w := by
  have H := Lib.hid h
  have HG := Lib.hid hg
  clear h hg
  cases hx : fR R x with
  | none =>
    have hh : hasR R x = false := by unfold hasR; rw [hx]; rfl
    have HN := Lib.hid (fR_none hx)
    rw [hh]
    clear hx hh
    go_enter Try.func20, Try.ntmps20
    go_wp2_with (go_at_call 24; refine (at_any _ B rb v R x hR H.out).mono ?_; rintro e w1 ⟨⟨k, rfl, hk⟩, rfl⟩; have hk' : k = -1 := (by rcases hk with ⟨h1, _⟩ | ⟨i, a, _, h2, h3⟩; exact h1; exact absurd h3 (HN.out a (List.mem_of_getElem? h2))); subst hk'; clear hk)
    go_ret
    exact ⟨rfl, rfl⟩
  | some q =>
    have hh : hasR R x = true := by unfold hasR; rw [hx]; rfl
    obtain ⟨a, ha, ha1, ha2⟩ := fR_some hx
    have HN := Lib.hid (show ¬ ∀ e ∈ R, e.1 ≠ x from fun q => q a ha ha1)
    rw [hh]
    clear hx hh ha ha1 ha2
    go_enter Try.func20, Try.ntmps20
    go_wp2_with (go_at_call 24; refine (at_any _ B rb v R x hR H.out).mono ?_; rintro e w1 ⟨⟨k, rfl, hk⟩, rfl⟩; have hk' : 0 ≤ k := (by rcases hk with ⟨_, h1⟩ | ⟨i, a, h1, _⟩; exact absurd h1 HN.out; omega); clear hk)
    go_ret
    exact ⟨rfl, rfl⟩
theorem all_ref {B : Nat} {w wr w1 : World} {e : TypeId} {vl : Value} {n : Nat} {xs : List Value} {o : Obj} (h : wr.ownsRow w.heap.size e n vl B xs) (hB : Below w.heap.size w wr) (hg : (wr.alloc o).grownBy w1 vl.ownBlock) : Below w.heap.size w w1 :=
  (hB.alloc hB.size o).grown hg (by have := hB.size; simp; omega) (fun k hk => (h.lt k hk).1)
set_option maxHeartbeats 1000000 in
theorem rall_any (w : World) (B rb : Nat) (v : Value) (R : List (Int × Nat)) (hR : R.length ≤ 1000) (h : RefQ w B rb v R) :
    Calls Try.prog 17 #[.pointer (some ⟨rb, 0, none⟩)] w fun e w' => ∃ a c, e = .returned (.slice a R.length c) ∧ w'.ownsRow w.heap.size 3 1 (.slice a R.length c) R.length ((R.map (·.1)).map (Value.int .i64)) ∧ Below w.heap.size w w' := by
  obtain ⟨i0, hi, hz0, hz1, hz2⟩ := info_parts infoI
  have HI := Lib.hid hi
  obtain ⟨a0, c0, rfl, hn, hm⟩ := one_form h.row
  unfold maxLen at hm
  have hc := h.cell
  have hlt := h.lt
  have H := Lib.hid h
  have hR' : (R.length : Int) ≤ 1000 := by omega
  clear h hi
  go_enter Try.func17, Try.ntmps17
  go_wp2
  go_loopw [3, 4] (fun l i wr => ∃ (k : Nat) (vl : Value), k ≤ R.length ∧ i = .int .i64 k ∧ l = vl ∧ Hid (wr.ownsRow w.heap.size 3 1 vl k (((R.take k).map (·.1)).map (Value.int .i64))) ∧ Hid (Below w.heap.size w wr)) (fun _ i _ => R.length - (intOf i).toNat)
  case atStart => exact ⟨0, _, by omega, rfl, rfl, Lib.hid (World.ownsRow_nil _ _ _ _), Lib.hid (Below.refl _ _)⟩
  case round =>
    obtain ⟨k, vl, hk, rfl, rfl, HR, HB⟩ := hrel
    have hc1 := (HB.out.cell (p := ⟨rb, 0, none⟩) hlt).trans hc
    by_cases hlk : k < R.length
    · have hlt' : (k : Int) < R.length := by omega
      obtain ⟨g, c1, hv, -, -, -, hg, hcs⟩ := one_place H.out.row (by omega)
      simp only [Value.slice.injEq, true_and] at hv
      obtain ⟨rfl, rfl⟩ := hv
      obtain ⟨e, he⟩ : ∃ e, R[k]? = some e := ⟨_, List.getElem?_eq_getElem hlk⟩
      have d0 := (HB.out.cell (p := ⟨g, k * 2, none⟩) hg).trans (hcs _ _ (cellsR_at he).1)
      have htk : R.take (k + 1) = R.take k ++ [e] := by rw [List.take_add_one, he]; rfl
      have HTK := Lib.hid htk
      have hsz := HB.out.size
      clear hcs he htk hc
      go_wp2_with (at_builtin; refine wpList_append_own _ rfl _ _ 39 rfl w.heap.size 3 i0 (.int .i64 0) 1 8 Try.underlying39 HI.out hz0 hz1 hz2 rfl (by decide) _ _ _ rfl (HR.out.alloc _) ⟨wr.heap.size, 0, none⟩ 1 1 [.int .i64 e.1] rfl rfl (Go.cell_one_new _ _ _) (by simp [Value.oneCell']) (by unfold maxLen; omega) (by omega) (by simp; omega) ?_; intro v' w1 hown' hgrow _)
      go_roundw
      case rel =>
        refine ⟨k + 1, v', by omega, by go_num, rfl, Lib.hid ?_, Lib.hid (all_ref HR.out HB.out hgrow)⟩
        rw [HTK.out]
        simpa using hown'
      case measure => simp [intOf]; omega
    · obtain rfl : k = R.length := by omega
      have hr := HR.out
      rw [List.take_length] at hr
      obtain ⟨a, c, rfl⟩ := row_len hr
      go_wp2
      go_ret
      exact ⟨a, c, rfl, hr, HB.out⟩
end Go.Proofs.Ythbjjamjpbfehaa
