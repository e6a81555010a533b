/- chapter 17's own answer: what it holds; At, End. -/
import Derived.Test.YtebgmphbkjpfcaaTrPb
namespace Go.Proofs.Ytebgmphbkjpfcaa
set_option linter.unusedVariables false
set_option linter.unusedSimpArgs false
open Go.ChangeShapes Go.WideShapes Go.ChangeAt Go.RowKit Go.Shelf

/-- The own answer in block rb: its list is v, which holds l. -/
structure RefT (W : World) (rb : Nat) (v : Value) (l : List Nod) : Prop where
  blk : W.heap[rb]? = some (.cells #[v] 29 (0, 0))
  row : W.ownsRow 0 49 3 v l.length (nodsC l)
  ne : v.ownBlock ≠ some rb
  le : l.length ≤ 1000
  dep : ∀ x ∈ l, -1000 ≤ x.d ∧ x.d ≤ 1000
theorem RefT.call {W W' : World} {rb : Nat} {v : Value} {l : List Nod} (h : RefT W rb v l) (hb : Below W.heap.size W W') : RefT W' rb v l :=
  { h with
    blk := (hb.block _ (Array.getElem?_eq_some_iff.1 h.blk).1).trans h.blk
    row := own_block h.row fun g hg => hb.block g (h.row.lt g hg).2 }
theorem RefT.form {W : World} {rb : Nat} {v : Value} {l : List Nod} (h : RefT W rb v l) : ∃ a c, v = .slice a l.length c := (nodes_row h.row).form
def atI (l : List Nod) (o i : Int) : Int := match idx l o i with
  | none => -1
  | some k => k
theorem atI_none {l : List Nod} {o i : Int} (h : ∀ (j : Nat) (x : Nod), l[j]? = some x → ¬ (x.o = o ∧ x.i = i)) : atI l o i = -1 := by
  unfold atI
  cases e : idx l o i with
  | none => rfl
  | some k =>
    obtain ⟨x, hx, e1⟩ := idx_some e
    exact absurd e1 (h k x hx)
theorem atI_first {l : List Nod} {o i : Int} {k : Nat} {x : Nod} (hx : l[k]? = some x) (he : x.o = o ∧ x.i = i) (h : ∀ (j : Nat) (y : Nod), j < k → l[j]? = some y → ¬ (y.o = o ∧ y.i = i)) : atI l o i = k := by
  unfold atI
  have hk := (List.getElem?_eq_some_iff.1 hx)
  have : idx l o i = some k := by
    unfold idx
    rw [List.findIdx?_eq_some_iff_getElem]
    refine ⟨hk.1, by rw [hk.2]; simpa using he, fun j hj => ?_⟩
    have := h j (l[j]'(by have := hk.1; omega)) hj (List.getElem?_eq_getElem _)
    simpa using this
  rw [this]
set_option maxRecDepth 100000 in
theorem rat_any (w : World) (rb : Nat) (v : Value) (l : List Nod) (o i : Int) (h : RefT w rb v l) :
    Calls Try.prog 18 #[.pointer (some ⟨rb, 0, none⟩), slV o i] w fun e w' => e = .returned (.int .i64 (atI l o i)) ∧ Below w.heap.size w w' := by
  have hN := nodes_row h.row
  have hrl := (Array.getElem?_eq_some_iff.1 h.blk).1
  have hle := h.le
  obtain ⟨r0, rz⟩ := cell_box h.blk
  rcases hN with ⟨rfl, rfl⟩ | ⟨g, c, rfl, hg, hc⟩
  · go_enter Try.func18, Try.ntmps18
    go_wp2
    refine wp_loop_rounds 1 ?_
    rw [rounds_succ]
    go_wp2
    go_ret
    exact ⟨rfl, bal (Below.refl _ _) _⟩
  · have HC := Lib.hid hc
    have HS := Lib.hid (Sl2.fresh w o i)
    have HB : Hid (Below w.heap.size w (w.alloc (slO o i))) := Lib.hid (bal (Below.refl _ _) _)
    clear hc h
    generalize hL : l.length = L at *
    have HL := Lib.hid hL
    clear hL
    go_enter Try.func18, Try.ntmps18
    go_wp2
    obtain ⟨w1, hw1⟩ : ∃ x, x = w.alloc (slO o i) := ⟨_, rfl⟩
    rw [show w.alloc (.cells #[.int .i64 o, .int .i64 i] 31) = w1 from hw1.symm]
    have hS : Sl2 w1 w.heap.size o i := hw1 ▸ HS.out
    have hB : Below w.heap.size w w1 := hw1 ▸ HB.out
    obtain ⟨s0, s1, sl⟩ := hS
    have q0 := (hB.cell (p := ⟨rb, 0, none⟩) hrl).trans r0
    have HB1 := Lib.hid hB
    clear hw1 hB HS HB r0 rz
    go_loopw [5] (fun t wr => ∃ (k z : Nat), k ≤ L ∧ t = .int .i64 k ∧ wr = w1.drewN z ∧ Hid (∀ (j : Nat) (x : Nod), j < k → l[j]? = some x → ¬ (x.o = o ∧ x.i = i))) (fun t _ => L - (intOf t).toNat)
    case atStart => exact ⟨0, 0, by omega, rfl, rfl, Lib.hid (fun j x h => by omega)⟩
    case round =>
      obtain ⟨k, z, hk, rfl, rfl, HN⟩ := hrel
      by_cases hlt : k < L
      · have hLL := HL.out
        obtain ⟨x, hx⟩ : ∃ x, l[k]? = some x := ⟨l[k]'(by omega), List.getElem?_eq_getElem _⟩
        obtain ⟨y0, y1, y2⟩ := HC.out k x hx
        have x0 := (HB1.out.cell (p := ⟨g, _, none⟩) hg).trans y0
        have x1 := (HB1.out.cell (p := ⟨g, _, none⟩) hg).trans y1
        have hlt' : (k : Int) < L := by omega
        have hes := eqS x.o x.i o i
        have HX := Lib.hid hx
        clear hLL y0 y1 y2 hx
        by_cases he : x.o = o ∧ x.i = i
        · have HSO := Lib.hid (atI_first HX.out he HN.out)
          simp only [he, and_self, decide_true] at hes
          rw [he.1] at x0
          rw [he.2] at x1
          clear he
          go_wp2
          go_quiet (fail)
          go_wp2
          go_ret
          rw [HSO.out]
          exact ⟨rfl, below_drewN (below_drewN HB1.out _) _⟩
        · simp only [he, decide_false] at hes
          have HE := Lib.hid he
          clear he
          go_wp2
          go_quiet (fail)
          go_wp2
          go_roundw
          case rel => exact ⟨k + 1, z + nq, by omega, by go_num, by first | rfl | simp, Lib.hid (fun j y h1 h2 => by
            rcases Nat.lt_or_ge j k with h3 | h3
            · exact HN.out j y h3 h2
            · have : j = k := by omega
              rw [this, HX.out] at h2
              cases h2
              exact HE.out)⟩
          case measure => first | (simp [intOf]; done) | (simp [intOf]; omega)
      · obtain rfl : k = L := by omega
        have HNO := Lib.hid (atI_none (l := l) (o := o) (i := i) (fun j x hj => HN.out j x (by have := (List.getElem?_eq_some_iff.1 hj).1; have := HL.out; omega) hj))
        go_wp2
        go_ret
        rw [HNO.out]
        exact ⟨rfl, below_drewN HB1.out _⟩
end Go.Proofs.Ytebgmphbkjpfcaa
