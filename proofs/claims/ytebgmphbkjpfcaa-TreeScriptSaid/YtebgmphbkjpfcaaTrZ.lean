/- lists of slots; who is below whom. -/
import Derived.Test.YtebgmphbkjpfcaaTrY
import Derived.Test.YtebgmphbkjpfcaaTrU
namespace Go.Proofs.Ytebgmphbkjpfcaa
set_option linter.unusedVariables false
set_option linter.unusedSimpArgs false
open Go.ChangeShapes Go.WideShapes Go.ChangeAt Go.RowKit Go.Shelf

/-- v is a slice of slots: those of l. -/
def SlotsAt (W : World) (v : Value) (l : List Nod) : Prop :=
  (v = .slice none 0 0 ∧ l = []) ∨ ∃ g c, v = .slice (some ⟨g, 0, none⟩) l.length c ∧ g < W.heap.size ∧ ∀ (k : Nat) (x : Nod), l[k]? = some x → W.cell? ⟨g, k * 2, none⟩ = some (.int .i64 x.o) ∧ W.cell? ⟨g, k * 2 + 1, none⟩ = some (.int .i64 x.i)
theorem SlotsAt.call {W W' : World} {v : Value} {l : List Nod} (h : SlotsAt W v l) (hb : Below W.heap.size W W') : SlotsAt W' v l := by
  rcases h with h | ⟨g, c, rfl, hg, hc⟩
  · exact .inl h
  · refine .inr ⟨g, c, rfl, Nat.lt_of_lt_of_le hg hb.size, fun k x hx => ?_⟩
    obtain ⟨a1, a2⟩ := hc k x hx
    exact ⟨(hb.cell (p := ⟨g, _, none⟩) hg).trans a1, (hb.cell (p := ⟨g, _, none⟩) hg).trans a2⟩
theorem slsC_get : ∀ (l : List Nod) (k : Nat) (x : Nod), l[k]? = some x → (slsC l)[k * 2]? = some (.int .i64 x.o) ∧ (slsC l)[k * 2 + 1]? = some (.int .i64 x.i)
  | [], k, x, h => by simp at h
  | y :: l, 0, x, h => by simp at h; subst h; exact ⟨rfl, rfl⟩
  | y :: l, k + 1, x, h => by
    obtain ⟨a1, a2⟩ := slsC_get l k x (by simpa using h)
    have e : slsC (y :: l) = .int .i64 y.o :: .int .i64 y.i :: slsC l := rfl
    rw [e, show (k + 1) * 2 = k * 2 + 1 + 1 by omega]
    exact ⟨a1, a2⟩
theorem slots_row {W : World} {B : Nat} {e : TypeId} {v : Value} {l : List Nod} (h : W.ownsRow B e 2 v l.length (slsC l)) : SlotsAt W v l := by
  have hlt := h.lt
  have hcs := fun g hg => h.cells (g := g) hg
  obtain ⟨hl, ⟨rfl, h⟩ | ⟨g, cap, cur, rfl, hg, hblk, h1, h2, h3, h4⟩⟩ := h
  · exact .inl ⟨rfl, List.length_eq_zero_iff.1 h⟩
  · refine .inr ⟨g, cap, rfl, (hlt g rfl).2, fun k x hx => ?_⟩
    have e : ∀ j, ((⟨g, 0, none⟩ : Addr).add j) = ⟨g, j, none⟩ := fun j => by unfold Addr.add; split <;> simp_all
    obtain ⟨a1, a2⟩ := slsC_get l k x hx
    have b1 := hcs g rfl _ _ a1
    have b2 := hcs g rfl _ _ a2
    rw [e] at b1 b2
    exact ⟨b1, b2⟩
set_option maxRecDepth 100000 in
theorem in_any (w : World) (v : Value) (l : List Nod) (o i : Int) (hv : SlotsAt w v l) (hn : l.length < 1000000) :
    Calls Try.prog 27 #[v, slV o i] w fun e w' => e = .returned (.bool (idx l o i).isSome) ∧ Below w.heap.size w w' := by
  rcases hv with ⟨rfl, rfl⟩ | ⟨g, c, rfl, hg, hc⟩
  · go_enter Try.func27, Try.ntmps27
    go_wp2
    refine wp_loop_rounds 1 ?_
    rw [rounds_succ]
    go_wp2
    go_ret
    exact ⟨rfl, bal (Below.refl _ _) _⟩
  · have HC := Lib.hid hc
    have HS := Lib.hid (Sl2.fresh w o i)
    have HB : Hid (Below w.heap.size w (w.alloc (slO o i))) := Lib.hid (bal (Below.refl _ _) _)
    clear hc
    generalize hL : l.length = L at *
    have HL := Lib.hid hL
    clear hL
    go_enter Try.func27, Try.ntmps27
    go_wp2
    obtain ⟨w1, hw1⟩ : ∃ x, x = w.alloc (slO o i) := ⟨_, rfl⟩
    rw [show w.alloc (.cells #[.int .i64 o, .int .i64 i] 31) = w1 from hw1.symm]
    have hS : Sl2 w1 w.heap.size o i := hw1 ▸ HS.out
    have hB : Below w.heap.size w w1 := hw1 ▸ HB.out
    obtain ⟨s0, s1, sl⟩ := hS
    have HB1 := Lib.hid hB
    clear hw1 hB HS HB
    go_loopw [5] (fun t wr => ∃ (k z : Nat), k ≤ L ∧ t = .int .i64 k ∧ wr = w1.drewN z ∧ Hid (∀ (j : Nat) (x : Nod), j < k → l[j]? = some x → ¬ (x.o = o ∧ x.i = i))) (fun t _ => L - (intOf t).toNat)
    case atStart => exact ⟨0, 0, by omega, rfl, rfl, Lib.hid (fun j x h => by omega)⟩
    case round =>
      obtain ⟨k, z, hk, rfl, rfl, HN⟩ := hrel
      by_cases hlt : k < L
      · have hLL := HL.out
        obtain ⟨x, hx⟩ : ∃ x, l[k]? = some x := ⟨l[k]'(by omega), List.getElem?_eq_getElem _⟩
        obtain ⟨y0, y1⟩ := HC.out k x hx
        have x0 := (HB1.out.cell (p := ⟨g, _, none⟩) hg).trans y0
        have x1 := (HB1.out.cell (p := ⟨g, _, none⟩) hg).trans y1
        have hlt' : (k : Int) < L := by omega
        have hes := eqS x.o x.i o i
        have HX := Lib.hid hx
        clear hLL y0 y1 hx
        by_cases he : x.o = o ∧ x.i = i
        · have hsome : (idx l o i).isSome = true := (idx_iff l o i).2 ⟨x, List.mem_of_getElem? HX.out, he⟩
          have HSO := Lib.hid hsome
          simp only [he, and_self, decide_true] at hes
          rw [he.1] at x0
          rw [he.2] at x1
          clear hsome he
          go_wp2
          go_quiet (fail)
          go_wp2
          go_ret
          rw [HSO.out]
          exact ⟨rfl, below_drewN (below_drewN HB1.out _) _⟩
        · simp only [he, decide_false] at hes
          have HE := Lib.hid he
          clear he
          go_wp2
          go_quiet (fail)
          go_wp2
          go_roundw
          case rel => exact ⟨k + 1, z + nq, by omega, by go_num, by first | rfl | simp, Lib.hid (fun j y h1 h2 => by
            rcases Nat.lt_or_ge j k with h3 | h3
            · exact HN.out j y h3 h2
            · have : j = k := by omega
              rw [this, HX.out] at h2
              cases h2
              exact HE.out)⟩
          case measure => first | (simp [intOf]; done) | (simp [intOf]; omega)
      · obtain rfl : k = L := by omega
        have hnone : (idx l o i).isSome = false := by
          rw [← Bool.not_eq_true, idx_iff]
          rintro ⟨x, hx, e⟩
          obtain ⟨j, hj⟩ := List.getElem?_of_mem hx
          exact HN.out j x (by have := (List.getElem?_eq_some_iff.1 hj).1; have := HL.out; omega) hj e
        have HNO := Lib.hid hnone
        clear hnone
        go_wp2
        go_ret
        rw [HNO.out]
        exact ⟨rfl, below_drewN HB1.out _⟩
/-- The depth of the k-th. -/
def dep (l : List Nod) (k : Nat) : Int := ((l[k]?).map Nod.d).getD 0
theorem dep_at {l : List Nod} {k : Nat} {x : Nod} (h : l[k]? = some x) : dep l k = x.d := by unfold dep; rw [h]; rfl
/-- The i-th is below the k-th. -/
def Bel (l : List Nod) (k i : Nat) : Prop := k < i ∧ i < l.length ∧ ∀ t, k < t → t ≤ i → dep l k < dep l t
theorem parUp_some {l : List Nod} {d : Int} : ∀ {i j : Nat}, i ≤ l.length → parUp l d i = some j → j < i ∧ dep l j < d ∧ ∀ t, j < t → t < i → d ≤ dep l t
  | 0, j, _, h => by cases h
  | i + 1, j, hi, h => by
    have hx : l[i]? = some (l[i]'(by omega)) := List.getElem?_eq_getElem _
    unfold parUp at h
    rw [hx] at h
    simp only [Option.map_some, Option.getD_some] at h
    split at h
    · rename_i hd
      cases h
      exact ⟨by omega, by rw [dep_at hx]; exact hd, fun t h1 h2 => by omega⟩
    · rename_i hd
      obtain ⟨a, b, c⟩ := parUp_some (by omega) h
      refine ⟨by omega, b, fun t h1 h2 => ?_⟩
      rcases Nat.lt_or_ge t i with h3 | h3
      · exact c t h1 h3
      · have : t = i := by omega
        rw [this, dep_at hx]
        omega
theorem parUp_none {l : List Nod} {d : Int} : ∀ {i : Nat}, i ≤ l.length → parUp l d i = none → ∀ t, t < i → d ≤ dep l t
  | 0, _, _, t, h => by omega
  | i + 1, hi, h, t, ht => by
    have hx : l[i]? = some (l[i]'(by omega)) := List.getElem?_eq_getElem _
    unfold parUp at h
    rw [hx] at h
    simp only [Option.map_some, Option.getD_some] at h
    split at h
    · cases h
    · rename_i hd
      rcases Nat.lt_or_ge t i with h3 | h3
      · exact parUp_none (by omega) h t h3
      · have : t = i := by omega
        rw [this, dep_at hx]
        omega
theorem bel_step {l : List Nod} {s j : Nat} (hs : s < l.length) (h : parUp l (dep l s) s = some j) (k : Nat) : Bel l k s ↔ k = j ∨ Bel l k j := by
  obtain ⟨h1, h2, h3⟩ := parUp_some (by omega) h
  constructor
  · rintro ⟨a, b, c⟩
    have hd := c s a (Nat.le_refl _)
    have hkj : k ≤ j := by
      rcases Nat.lt_or_ge j k with q | q
      · have := h3 k q a
        omega
      · exact q
    rcases Nat.lt_or_ge k j with q | q
    · exact .inr ⟨q, by omega, fun t t1 t2 => c t t1 (by omega)⟩
    · exact .inl (by omega)
  · rintro (rfl | ⟨a, b, c⟩)
    · refine ⟨h1, hs, fun t t1 t2 => ?_⟩
      rcases Nat.lt_or_ge t s with q | q
      · have := h3 t t1 q
        omega
      · have : t = s := by omega
        rw [this]; exact h2
    · refine ⟨by omega, hs, fun t t1 t2 => ?_⟩
      have hj := c j a (Nat.le_refl _)
      rcases Nat.lt_or_ge j t with q | q
      · rcases Nat.lt_or_ge t s with q2 | q2
        · have := h3 t q q2
          omega
        · have : t = s := by omega
          rw [this]; omega
      · exact c t t1 q
/-- The parent is one less deep. -/
theorem par_dep {l : List Nod} (hP : Dep l) {s j : Nat} (hs : s < l.length) (h : parUp l (dep l s) s = some j) : dep l j + 1 = dep l s := by
  obtain ⟨h1, h2, h3⟩ := parUp_some (by omega) h
  have e : ∀ t, t < l.length → l[t]? = some (l[t]?.getD ⟨0, 0, 0⟩) := fun t ht => by rw [List.getElem?_eq_getElem ht]; rfl
  have hj := e j (by omega)
  have hj1 := e (j + 1) (by omega)
  have hst := hP.step j _ _ hj hj1
  rw [← dep_at hj, ← dep_at hj1] at hst
  rcases Nat.lt_or_ge (j + 1) s with q | q
  · have := h3 (j + 1) (by omega) q
    omega
  · have e9 : j + 1 = s := by omega
    rw [e9] at hst
    omega
theorem par_has {l : List Nod} (hP : Dep l) {s : Nat} (hs : s < l.length) (hd : 0 < dep l s) : ∃ j, parUp l (dep l s) s = some j := by
  cases h : parUp l (dep l s) s with
  | some j => exact ⟨j, rfl⟩
  | none =>
    have h0 : 0 < l.length := by omega
    have hx : l[0]? = some (l[0]'h0) := List.getElem?_eq_getElem _
    have hz := hP.zero _ hx
    rw [← dep_at hx] at hz
    rcases Nat.eq_zero_or_pos s with q | q
    · rw [q] at hd; omega
    · have := parUp_none (by omega) h 0 q
      omega
theorem bel_iff {l : List Nod} (hO : Once l) {k i : Nat} {x y : Nod} (hy : l[k]? = some y) (hx : l[i]? = some x) : (idx (belowA l y.o y.i) x.o x.i).isSome = true ↔ Bel l k i := by
  have hk : idx l y.o y.i = some k := by
    cases e : idx l y.o y.i with
    | none => exact absurd ⟨rfl, rfl⟩ (idx_none e hy)
    | some k' =>
      obtain ⟨z, hz, h1, h2⟩ := idx_some e
      rw [hO k' k z y hz hy h1 h2]
  have hb : belowA l y.o y.i = (l.drop (k + 1)).take (belowN l k) := by unfold belowA; rw [hk]
  have hil := (List.getElem?_eq_some_iff.1 hx).1
  rw [hb, idx_iff]
  constructor
  · rintro ⟨z, hz, h1, h2⟩
    obtain ⟨t, ht⟩ := List.getElem?_of_mem hz
    rw [List.getElem?_take] at ht
    split at ht
    · rename_i htn
      rw [List.getElem?_drop] at ht
      have := hO _ _ _ _ ht hx h1 h2
      subst this
      refine ⟨by omega, hil, fun u u1 u2 => ?_⟩
      obtain ⟨c, rfl⟩ : ∃ c, u = k + 1 + c := ⟨u - (k + 1), by omega⟩
      obtain ⟨q, hq, hd⟩ := belowN_in hy (c := c) (by omega)
      rw [dep_at hy, dep_at hq]
      exact hd
    · cases ht
  · rintro ⟨a, _, c⟩
    have hin : i < k + 1 + belowN l k := by
      rcases Nat.lt_or_ge i (k + 1 + belowN l k) with q | q
      · exact q
      · have hu : l[k + 1 + belowN l k]? = some (l[k + 1 + belowN l k]'(by omega)) := List.getElem?_eq_getElem _
        have := belowN_out hy hu
        have h2 := c (k + 1 + belowN l k) (by omega) q
        rw [dep_at hy, dep_at hu] at h2
        omega
    refine ⟨x, List.mem_of_getElem? (i := i - (k + 1)) ?_, rfl, rfl⟩
    rw [List.getElem?_take, if_pos (by omega), List.getElem?_drop, show k + 1 + (i - (k + 1)) = i by omega]
    exact hx
end Go.Proofs.Ytebgmphbkjpfcaa
