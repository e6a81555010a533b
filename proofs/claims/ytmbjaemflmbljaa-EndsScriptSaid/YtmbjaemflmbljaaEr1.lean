/- chapter 22's own answer: its list; at, waits, First, List. -/
import Derived.Test.YtmbjaemflmbljaaEnP
namespace Go.Proofs.Ytmbjaemflmbljaa
set_option linter.unusedVariables false
set_option linter.unusedSimpArgs false
open Go.ChangeShapes Go.WideShapes Go.ChangeAt Go.RowKit Go.Shelf
open TabE

/-- The own answer's endpoints: a block of one cell, the row of its records, and the lists of these. -/
structure RefE (w : World) (rb base : Nat) (v : Value) (R : List En) : Prop where
  blk : w.heap[rb]? = some (.cells #[v] 29 (0, 0))
  row : w.ownsRow base 64 3 v R.length (flat (rowsN R))
  lt : rb < base
  bs : base ≤ w.heap.size
  own : ∀ x ∈ R, w.ownsRow base 3 1 x.v x.l.length (x.l.map (Value.int .i64))
  nt : ∀ x ∈ R, ∀ k, x.v.ownBlock = some k → v.ownBlock ≠ some k
theorem RefE.call {w w' : World} {rb base : Nat} {v : Value} {R : List En} (h : RefE w rb base v R) (hb : Below w.heap.size w w') : RefE w' rb base v R :=
  ⟨(hb.block rb (Nat.lt_of_lt_of_le h.lt h.bs)).trans h.blk, row_of_block h.row (fun g hg => hb.block g (h.row.lt g hg).2), h.lt, Nat.le_trans h.bs hb.size, fun x hx => row_of_block (h.own x hx) (fun g hg => hb.block g ((h.own x hx).lt g hg).2), h.nt⟩
theorem RefE.c0 {w : World} {rb base : Nat} {v : Value} {R : List En} (h : RefE w rb base v R) : w.cell? ⟨rb, 0, none⟩ = some v := (cell_cur (cur := [v]) h.blk 0).trans rfl
theorem RefE.f0 {w : World} {rb base : Nat} {v : Value} {R : List En} (h : RefE w rb base v R) : w.frozen? ⟨rb, 0, none⟩ = false := by
  unfold World.frozen?
  simp only [h.blk]
  simp
theorem RefE.wide {w : World} {rb base : Nat} {v : Value} {R : List En} (h : RefE w rb base v R) : Wide 3 (rowsN R) := by
  intro r hr
  obtain ⟨x, hx, rfl⟩ := List.mem_map.1 hr
  refine wideN x ?_ _ (List.mem_singleton.2 rfl)
  obtain ⟨a, c, e⟩ := own_len (h.own x hx)
  rw [e]; rfl
/-- A record's cells. -/
def EndAt (w : World) (g t : Nat) (y : En) : Prop := w.cell? ⟨g, t * 3, none⟩ = some (.int .i64 y.id) ∧ w.cell? ⟨g, t * 3 + 1, none⟩ = some y.v ∧ w.cell? ⟨g, t * 3 + 2, none⟩ = some (.bool y.s)
theorem RefE.form {w : World} {rb base : Nat} {v : Value} {R : List En} (h : RefE w rb base v R) : ∃ ra rc, v = .slice ra R.length rc ∧ R.length ≤ rc ∧ ∀ i, i < R.length → ∃ g, ra = some ⟨g, 0, none⟩ ∧ base ≤ g ∧ g < w.heap.size ∧ g ≠ rb ∧ (∀ j, w.frozen? ⟨g, j, none⟩ = false) ∧ ∀ (t : Nat) (y : En), R[t]? = some y → EndAt w g t y := by
  have hlt := h.row.lt
  have hl := h.lt
  have hw := h.wide
  have hcs := fun g hg => h.row.cells (g := g) hg
  rcases h.row.2 with ⟨rfl, h0⟩ | ⟨g, cap, cur, rfl, q1, q2, q3, q4, q5, q6⟩
  · exact ⟨none, 0, by rw [h0], by omega, fun i hi => by omega⟩
  · refine ⟨_, _, rfl, q3, fun _ _ => ⟨g, rfl, (hlt g rfl).1, (hlt g rfl).2, by have := (hlt g rfl).1; omega, fun j => Go.frozen_of_row _ _ _ _ _ q2, fun t y hy => ?_⟩⟩
    have hc : ∀ j u, (rcells (rowN y))[j]? = some u → w.cell? ⟨g, t * 3 + j, none⟩ = some u := fun j u hj => by
      have := hcs g rfl _ _ (flat_get hw (i := t) (r := rowN y) (by rw [rowsN_get, hy]; rfl) hj)
      rwa [Addr.add_mid, Nat.zero_add] at this
    exact ⟨hc 0 _ rfl, hc 1 _ rfl, hc 2 _ rfl⟩
/-- A record's list. -/
theorem RefE.lform {w : World} {rb base : Nat} {v : Value} {R : List En} (h : RefE w rb base v R) {y : En} (hy : y ∈ R) : ∃ a c, y.v = .slice a y.l.length c ∧ ∀ j z, y.l[j]? = some z → ∃ g, a = some ⟨g, 0, none⟩ ∧ w.cell? ⟨g, j, none⟩ = some (.int .i64 z) := by
  rcases own_form (h.own y hy) with ⟨e, e0⟩ | ⟨g, c, e, _, _, _, hc⟩
  · exact ⟨none, 0, by rw [e, e0]; rfl, fun j z hj => by rw [e0] at hj; simp at hj⟩
  · exact ⟨_, c, e, fun j z hj => ⟨g, rfl, hc j z hj⟩⟩
set_option maxRecDepth 100000 in
set_option maxHeartbeats 1000000 in
theorem at_no (w : World) (rb base : Nat) (v : Value) (R : List En) (id : Int) (h : RefE w rb base v R) (hl : R.length < 1000000) (hn : ∀ x ∈ R, x.id ≠ id) :
    Calls Try.prog 26 #[.pointer (some ⟨rb, 0, none⟩), .int .i64 id] w fun e w' => e = .returned (.int .i64 (-1)) ∧ w = w' := by
  obtain ⟨ra, rc, rfl, hrc, hra⟩ := h.form
  have c1 := h.c0
  have HRA := Lib.hid hra
  have HN := Lib.hid hn
  clear h hra hn
  go_enter Try.func26, Try.ntmps26
  go_wp2
  go_loopw [5] (fun i wr => ∃ t : Nat, t ≤ R.length ∧ i = .int .i64 t ∧ w = wr) (fun i _ => R.length - (intOf i).toNat)
  case atStart => exact ⟨0, Nat.zero_le _, rfl, rfl⟩
  case round =>
    obtain ⟨t, ht, rfl, rfl⟩ := hrel
    by_cases htL : t < R.length
    · have htI : (t : Int) < R.length := by omega
      obtain ⟨g, rfl, _, hgl, _, _, hobs⟩ := HRA.out t htL
      obtain ⟨y, hy⟩ : ∃ y, R[t]? = some y := ⟨R[t]'htL, List.getElem?_eq_getElem _⟩
      have hne := HN.out y (List.mem_of_getElem? hy)
      have v0 := (hobs t y hy).1
      clear hobs hy
      generalize y.id = yi at *
      go_wp2
      go_roundw
      case rel => exact ⟨t + 1, by omega, by go_num, trivial⟩
      case measure => first | (simp [intOf]; done) | (simp [intOf]; omega)
    · obtain rfl : t = R.length := by omega
      go_wp2
      go_ret
      exact ⟨rfl, rfl⟩
set_option maxRecDepth 100000 in
set_option maxHeartbeats 1000000 in
theorem at_yes (w : World) (rb base : Nat) (v : Value) (R : List En) (id : Int) (h : RefE w rb base v R) (hl : R.length < 1000000) (k : Nat) (x : En) (hk : R[k]? = some x) (hid : x.id = id) (hn : ∀ i y, i < k → R[i]? = some y → y.id ≠ id) :
    Calls Try.prog 26 #[.pointer (some ⟨rb, 0, none⟩), .int .i64 id] w fun e w' => e = .returned (.int .i64 k) ∧ w = w' := by
  obtain ⟨ra, rc, rfl, hrc, hra⟩ := h.form
  have c1 := h.c0
  have HN := Lib.hid hn
  have hkL := (List.getElem?_eq_some_iff.1 hk).1
  obtain ⟨g, rfl, _, hgl, _, _, hobs⟩ := hra k hkL
  have HOB := Lib.hid hobs
  have HK := Lib.hid hk
  subst hid
  clear h hra hn hobs hk
  go_enter Try.func26, Try.ntmps26
  go_wp2
  go_loopw [5] (fun i wr => ∃ t : Nat, t ≤ k ∧ i = .int .i64 t ∧ w = wr) (fun i _ => k - (intOf i).toNat)
  case atStart => exact ⟨0, Nat.zero_le _, rfl, rfl⟩
  case round =>
    obtain ⟨t, ht, rfl, rfl⟩ := hrel
    have htI : (t : Int) < R.length := by omega
    by_cases htk : t < k
    · obtain ⟨y, hy⟩ : ∃ y, R[t]? = some y := ⟨R[t]'(by omega), List.getElem?_eq_getElem _⟩
      have hne := HN.out t y htk hy
      have v0 := (HOB.out t y hy).1
      clear hy
      generalize y.id = yi at *
      generalize x.id = xi at *
      go_wp2
      go_roundw
      case rel => exact ⟨t + 1, by omega, by go_num, trivial⟩
      case measure => first | (simp [intOf]; done) | (simp [intOf]; omega)
    · obtain rfl : t = k := by omega
      have v0 := (HOB.out t x HK.out).1
      generalize x.id = xi at *
      go_wp2
      go_ret
      exact ⟨rfl, rfl⟩
set_option maxRecDepth 100000 in
set_option maxHeartbeats 2000000 in
theorem waits_no (w : World) (rb base : Nat) (v : Value) (R : List En) (t : Int) (h : RefE w rb base v R) (hl : R.length < 1000000) (hm : ∀ x ∈ R, x.l.length < 1000000) (hn : ∀ x ∈ R, t ∉ x.l) :
    Calls Try.prog 30 #[.pointer (some ⟨rb, 0, none⟩), .int .i64 t] w fun e w' => e = .returned (.tuple #[.int .i64 (-1), .int .i64 (-1)]) ∧ w = w' := by
  have H := Lib.hid h
  obtain ⟨ra, rc, rfl, hrc, hra⟩ := h.form
  have c1 := h.c0
  have HRA := Lib.hid hra
  have HN := Lib.hid hn
  have HM := Lib.hid hm
  clear h hra hn hm
  go_enter Try.func30, Try.ntmps30
  go_wp2
  go_loopw [6, 7] (fun i _ wr => ∃ t : Nat, t ≤ R.length ∧ i = .int .i64 t ∧ w = wr) (fun i _ _ => R.length - (intOf i).toNat)
  case atStart => exact ⟨0, Nat.zero_le _, rfl, rfl⟩
  case round =>
    obtain ⟨i, hi, rfl, rfl⟩ := hrel
    by_cases hiL : i < R.length
    · have hiI : (i : Int) < R.length := by omega
      obtain ⟨g, rfl, _, hgl, _, _, hobs⟩ := HRA.out i hiL
      obtain ⟨y, hy⟩ : ∃ y, R[i]? = some y := ⟨R[i]'hiL, List.getElem?_eq_getElem _⟩
      have hno := HN.out y (List.mem_of_getElem? hy)
      have hlm := HM.out y (List.mem_of_getElem? hy)
      have v1 := (hobs i y hy).2.1
      obtain ⟨a, c, ev, hcs⟩ := H.out.lform (List.mem_of_getElem? hy)
      rw [ev] at v1
      have HCS := Lib.hid hcs
      have HNO := Lib.hid hno
      clear hobs hy hcs hno ev
      generalize hyl : y.l = l at *
      obtain ⟨m, hmm⟩ : ∃ m, l.length = m := ⟨_, rfl⟩
      rw [hmm] at v1 hlm
      have HMM := Lib.hid hmm
      clear hmm hyl
      go_wp2
      go_loopw [7] (fun k wr => ∃ j : Nat, j ≤ m ∧ k = .int .i64 j ∧ w = wr) (fun k _ => m - (intOf k).toNat)
      case atStart => exact ⟨0, Nat.zero_le _, rfl, rfl⟩
      case round =>
        obtain ⟨j, hj, rfl, rfl⟩ := hrel
        by_cases hjm : j < m
        · have hjI : (j : Int) < m := by omega
          obtain ⟨z, hz⟩ : ∃ z, l[j]? = some z := ⟨l[j]'(by rw [HMM.out]; exact hjm), List.getElem?_eq_getElem _⟩
          obtain ⟨gl, rfl, cz⟩ := HCS.out j z hz
          have hne : ¬ z = t := fun e => HNO.out (by rw [← e]; exact List.mem_of_getElem? hz)
          clear hz
          go_wp2
          go_roundw
          case rel => exact ⟨j + 1, by omega, by go_num, trivial⟩
          case measure => first | (simp [intOf]; done) | (simp [intOf]; omega)
        · obtain rfl : j = m := by omega
          go_wp2
          go_roundw
          case rel => first | exact ⟨i + 1, by omega, by go_num, trivial⟩ | ((repeat apply Exists.intro); exact ⟨⟨i + 1, by omega, by go_num, trivial⟩, rfl⟩)
          case measure => first | (simp [intOf]; done) | (simp [intOf]; omega)
    · obtain rfl : i = R.length := by omega
      go_wp2
      go_ret2
      exact ⟨rfl, rfl⟩
set_option maxRecDepth 100000 in
set_option maxHeartbeats 2000000 in
theorem waits_yes (w : World) (rb base : Nat) (v : Value) (R : List En) (t : Int) (p q : Nat) (x : En) (h : RefE w rb base v R) (hl : R.length < 1000000) (hm : ∀ x ∈ R, x.l.length < 1000000) (hf : FindAt R t p x q) :
    Calls Try.prog 30 #[.pointer (some ⟨rb, 0, none⟩), .int .i64 t] w fun e w' => e = .returned (.tuple #[.int .i64 p, .int .i64 q]) ∧ w = w' := by
  have H := Lib.hid h
  obtain ⟨ra, rc, rfl, hrc, hra⟩ := h.form
  have c1 := h.c0
  have hpL := (List.getElem?_eq_some_iff.1 hf.1).1
  obtain ⟨g, rfl, _, hgl, _, _, hobs⟩ := hra p hpL
  have HOB := Lib.hid hobs
  have HF := Lib.hid hf
  have HM := Lib.hid hm
  clear h hra hf hm hobs
  go_enter Try.func30, Try.ntmps30
  go_wp2
  go_loopw [6, 7] (fun i _ wr => ∃ t : Nat, t ≤ p ∧ i = .int .i64 t ∧ w = wr) (fun i _ _ => p - (intOf i).toNat)
  case atStart => exact ⟨0, Nat.zero_le _, rfl, rfl⟩
  case round =>
    obtain ⟨i, hi, rfl, rfl⟩ := hrel
    have hiI : (i : Int) < R.length := by omega
    obtain ⟨y, hy⟩ : ∃ y, R[i]? = some y := ⟨R[i]'(by omega), List.getElem?_eq_getElem _⟩
    have hlm := HM.out y (List.mem_of_getElem? hy)
    have v1 := (HOB.out i y hy).2.1
    obtain ⟨a, c, ev, hcs⟩ := H.out.lform (List.mem_of_getElem? hy)
    rw [ev] at v1
    have HCS := Lib.hid hcs
    have HY := Lib.hid hy
    obtain ⟨m, hmm⟩ : ∃ m, y.l.length = m := ⟨_, rfl⟩
    rw [hmm] at v1 hlm
    have HMM := Lib.hid hmm
    clear hy hcs hmm ev
    by_cases hip : i < p
    · have hno : Hid (t ∉ y.l) := Lib.hid (HF.out.2.2 i y hip HY.out)
      go_wp2
      go_loopw [7] (fun k wr => ∃ j : Nat, j ≤ m ∧ k = .int .i64 j ∧ w = wr) (fun k _ => m - (intOf k).toNat)
      case atStart => exact ⟨0, Nat.zero_le _, rfl, rfl⟩
      case round =>
        obtain ⟨j, hj, rfl, rfl⟩ := hrel
        by_cases hjm : j < m
        · have hjI : (j : Int) < m := by omega
          obtain ⟨z, hz⟩ : ∃ z, y.l[j]? = some z := ⟨y.l[j]'(by rw [HMM.out]; exact hjm), List.getElem?_eq_getElem _⟩
          obtain ⟨gl, rfl, cz⟩ := HCS.out j z hz
          have hne : ¬ z = t := fun e => hno.out (by rw [← e]; exact List.mem_of_getElem? hz)
          clear hz
          go_wp2
          go_roundw
          case rel => exact ⟨j + 1, by omega, by go_num, trivial⟩
          case measure => first | (simp [intOf]; done) | (simp [intOf]; omega)
        · obtain rfl : j = m := by omega
          go_wp2
          go_roundw
          case rel => first | exact ⟨i + 1, by omega, by go_num, trivial⟩ | ((repeat apply Exists.intro); exact ⟨⟨i + 1, by omega, by go_num, trivial⟩, rfl⟩)
          case measure => first | (simp [intOf]; done) | (simp [intOf]; omega)
    · obtain rfl : i = p := by omega
      have hyx : x = y := by have := HF.out.1; rw [HY.out] at this; cases this; rfl
      subst hyx
      have hqm : q < m := by rw [← HMM.out]; exact (List.getElem?_eq_some_iff.1 HF.out.2.1.1).1
      go_wp2
      go_loopw [7] (fun k wr => ∃ j : Nat, j ≤ q ∧ k = .int .i64 j ∧ w = wr) (fun k _ => q - (intOf k).toNat)
      case atStart => exact ⟨0, Nat.zero_le _, rfl, rfl⟩
      case round =>
        obtain ⟨j, hj, rfl, rfl⟩ := hrel
        have hjI : (j : Int) < m := by omega
        obtain ⟨z, hz⟩ : ∃ z, x.l[j]? = some z := ⟨x.l[j]'(by rw [HMM.out]; omega), List.getElem?_eq_getElem _⟩
        obtain ⟨gl, rfl, cz⟩ := HCS.out j z hz
        by_cases hjq : j < q
        · have hne : ¬ z = t := HF.out.2.1.2 j z hjq hz
          clear hz
          go_wp2
          go_roundw
          case rel => exact ⟨j + 1, by omega, by go_num, trivial⟩
          case measure => first | (simp [intOf]; done) | (simp [intOf]; omega)
        · obtain rfl : j = q := by omega
          have hzt : z = t := by have := HF.out.2.1.1; rw [hz] at this; cases this; rfl
          subst hzt
          clear hz
          go_wp2
          go_ret2
          exact ⟨rfl, rfl⟩
end Go.Proofs.Ytmbjaemflmbljaa
