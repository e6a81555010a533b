/- chapter 20's own answer: its list; at, May, Server, Get. -/
import Derived.Test.YtiagkoiikmmgdaaTh9
namespace Go.Proofs.Ytiagkoiikmmgdaa
set_option linter.unusedVariables false
set_option linter.unusedSimpArgs false
open Go.ChangeShapes Go.WideShapes Go.ChangeAt Go.RowKit Go.Shelf
open TabT

/-- The own answer's threads: a block of one cell, and the row of its records. -/
structure RefT (w : World) (rb base : Nat) (v : Value) (L : List Th) : Prop where
  blk : w.heap[rb]? = some (.cells #[v] 29 (0, 0))
  row : w.ownsRow base 35 24 v L.length (thsC L)
  lt : rb < base
  bs : base ≤ w.heap.size
theorem RefT.call {w w' : World} {rb base : Nat} {v : Value} {L : List Th} (h : RefT w rb base v L) (hb : Below w.heap.size w w') : RefT w' rb base v L :=
  ⟨(hb.block rb (Nat.lt_of_lt_of_le h.lt h.bs)).trans h.blk, row_of_block h.row (fun g hg => hb.block g (h.row.lt g hg).2), h.lt, Nat.le_trans h.bs hb.size⟩
theorem RefT.c0 {w : World} {rb base : Nat} {v : Value} {L : List Th} (h : RefT w rb base v L) : w.cell? ⟨rb, 0, none⟩ = some v := (cell_box h.blk).1
theorem RefT.f0 {w : World} {rb base : Nat} {v : Value} {L : List Th} (h : RefT w rb base v L) : w.frozen? ⟨rb, 0, none⟩ = false := by
  unfold World.frozen?
  simp only [h.blk]
  simp
theorem ths_id {w : World} {g t : Nat} {L : List Th} {y : Th} (h : ThsAt w g L) (hy : L[t]? = some y) : w.cell? ⟨g, t * 24, none⟩ = some (.int .i64 y.id) := h t y hy 0 _ rfl
set_option maxRecDepth 100000 in
set_option maxHeartbeats 1000000 in
theorem at_no (w : World) (rb base : Nat) (v : Value) (L : List Th) (id : Int) (h : RefT w rb base v L) (hl : L.length < 1000000) (hn : ∀ x ∈ L, x.id ≠ id) :
    Calls Try.prog 26 #[.pointer (some ⟨rb, 0, none⟩), .int .i64 id] w fun e w' => e = .returned (.int .i64 (-1)) ∧ w = w' := by
  obtain ⟨ra, rc, rfl, hrc, hra⟩ := ths_of h.row
  have c1 := h.c0
  have HRA := Lib.hid hra
  have HN := Lib.hid hn
  clear h hra hn
  go_enter Try.func26, Try.ntmps26
  go_wp2
  go_loopw [5] (fun i wr => ∃ t : Nat, t ≤ L.length ∧ i = .int .i64 t ∧ w = wr) (fun i _ => L.length - (intOf i).toNat)
  case atStart => exact ⟨0, Nat.zero_le _, rfl, rfl⟩
  case round =>
    obtain ⟨t, ht, rfl, rfl⟩ := hrel
    by_cases htL : t < L.length
    · have htI : (t : Int) < L.length := by omega
      obtain ⟨g, rfl, _, hgl, hobs⟩ := HRA.out t htL
      obtain ⟨y, hy⟩ : ∃ y, L[t]? = some y := ⟨L[t]'htL, List.getElem?_eq_getElem _⟩
      have hne := HN.out y (List.mem_of_getElem? hy)
      have v0 := ths_id hobs hy
      clear hobs hy
      generalize y.id = yi at *
      go_wp2
      go_roundw
      case rel => exact ⟨t + 1, by omega, by go_num, trivial⟩
      case measure => first | (simp [intOf]; done) | (simp [intOf]; omega)
    · obtain rfl : t = L.length := by omega
      go_wp2
      go_ret
      exact ⟨rfl, rfl⟩
set_option maxRecDepth 100000 in
set_option maxHeartbeats 1000000 in
theorem at_yes (w : World) (rb base : Nat) (v : Value) (L : List Th) (id : Int) (h : RefT w rb base v L) (hl : L.length < 1000000) (k : Nat) (x : Th) (hk : L[k]? = some x) (hid : x.id = id) (hn : ∀ i y, i < k → L[i]? = some y → y.id ≠ id) :
    Calls Try.prog 26 #[.pointer (some ⟨rb, 0, none⟩), .int .i64 id] w fun e w' => e = .returned (.int .i64 k) ∧ w = w' := by
  obtain ⟨ra, rc, rfl, hrc, hra⟩ := ths_of h.row
  have c1 := h.c0
  have HN := Lib.hid hn
  have hkL := (List.getElem?_eq_some_iff.1 hk).1
  obtain ⟨g, rfl, _, hgl, hobs⟩ := hra k hkL
  have HOB := Lib.hid hobs
  have HK := Lib.hid hk
  subst hid
  clear h hra hn hobs hk
  go_enter Try.func26, Try.ntmps26
  go_wp2
  go_loopw [5] (fun i wr => ∃ t : Nat, t ≤ k ∧ i = .int .i64 t ∧ w = wr) (fun i _ => k - (intOf i).toNat)
  case atStart => exact ⟨0, Nat.zero_le _, rfl, rfl⟩
  case round =>
    obtain ⟨t, ht, rfl, rfl⟩ := hrel
    have htI : (t : Int) < L.length := by omega
    by_cases htk : t < k
    · obtain ⟨y, hy⟩ : ∃ y, L[t]? = some y := ⟨L[t]'(by omega), List.getElem?_eq_getElem _⟩
      have hne := HN.out t y htk hy
      have v0 := ths_id HOB.out hy
      clear hy
      generalize y.id = yi at *
      generalize x.id = xi at *
      go_wp2
      go_roundw
      case rel => exact ⟨t + 1, by omega, by go_num, trivial⟩
      case measure => first | (simp [intOf]; done) | (simp [intOf]; omega)
    · obtain rfl : t = k := by omega
      have v0 := ths_id HOB.out HK.out
      generalize x.id = xi at *
      go_wp2
      go_ret
      exact ⟨rfl, rfl⟩
/-- What the table's search tells of the list. -/
theorem at_facts {L : List Th} {id : Int} (hA : Asc (rowsH L)) (hh : hasH L id = true) : ∃ x p, L[p]? = some x ∧ x.id = id ∧ getT L id = some x ∧ posH L id = p ∧ ∀ i y, i < p → L[i]? = some y → y.id ≠ id := by
  rcases getT_has hA id with ⟨_, q⟩ | ⟨x, hg, _, hx, hid⟩
  · rw [q] at hh; cases hh
  · refine ⟨x, _, hx, hid, hg, rfl, fun i y hi hy e => ?_⟩
    have := hA.at hi (x := rowH y) (y := rowH x) (by rw [rowsH_get, hy]; rfl) (by rw [rowsH_get, hx]; rfl)
    change y.id < x.id at this
    omega
theorem at_none {L : List Th} {id : Int} (hh : hasH L id = false) : ∀ x ∈ L, x.id ≠ id := by
  intro x hx e
  have : hasR (rowsH L) id = true := by
    unfold hasR
    rw [List.any_eq_true]
    exact ⟨rowH x, List.mem_map.2 ⟨x, hx, rfl⟩, decide_eq_true e⟩
  rw [show hasR (rowsH L) id = false from hh] at this
  cases this
set_option maxRecDepth 100000 in
set_option maxHeartbeats 1000000 in
theorem rsrv_0 (w : World) (rb base : Nat) (v : Value) (L : List Th) (h : RefT w rb base v L) (hl : L.length < 1000000) :
    Calls Try.prog 21 #[.pointer (some ⟨rb, 0, none⟩), .int .i64 0] w fun e w' => e = .returned (.int .i64 0) ∧ w = w' := by
  obtain ⟨ra, rc, rfl, hrc, hra⟩ := ths_of h.row
  have c1 := h.c0
  clear h hra
  go_enter Try.func21, Try.ntmps21
  go_wp2
  go_loopw [5] (fun i wr => ∃ t : Nat, t ≤ L.length ∧ i = .int .i64 t ∧ w = wr) (fun i _ => L.length - (intOf i).toNat)
  case atStart => exact ⟨0, Nat.zero_le _, rfl, rfl⟩
  case round =>
    obtain ⟨t, ht, rfl, rfl⟩ := hrel
    by_cases htL : t < L.length
    · have htI : (t : Int) < L.length := by omega
      go_wp2
      go_roundw
      case rel => exact ⟨t + 1, by omega, by go_num, trivial⟩
      case measure => first | (simp [intOf]; done) | (simp [intOf]; omega)
    · obtain rfl : t = L.length := by omega
      go_wp2
      go_ret
      exact ⟨rfl, rfl⟩
set_option maxRecDepth 100000 in
set_option maxHeartbeats 1000000 in
theorem rsrv_n (w : World) (rb base : Nat) (v : Value) (L : List Th) (id : Int) (h : RefT w rb base v L) (hl : L.length < 1000000) (h0 : ¬ id = 0) :
    Calls Try.prog 21 #[.pointer (some ⟨rb, 0, none⟩), .int .i64 id] w fun e w' => e = .returned (.int .i64 (srvT L id)) ∧ w = w' := by
  obtain ⟨ra, rc, rfl, hrc, hra⟩ := ths_of h.row
  have c1 := h.c0
  have HRA := Lib.hid hra
  clear h hra
  have HSS : Hid (∀ (k : Nat) (x : Th), (∀ (j : Nat) (y : Th), j < k → L[j]? = some y → y.ca ≠ id) → L[k]? = some x → x.ca = id → srvT L id = x.id) := Lib.hid (fun k x a b c => srv_some h0 a b c)
  have HSN : Hid ((∀ (j : Nat) (y : Th), j < L.length → L[j]? = some y → y.ca ≠ id) → srvT L id = 0) := Lib.hid srv_none
  go_enter Try.func21, Try.ntmps21
  go_wp2
  go_loopw [5] (fun i wr => ∃ t : Nat, t ≤ L.length ∧ i = .int .i64 t ∧ Hid (∀ (j : Nat) (y : Th), j < t → L[j]? = some y → y.ca ≠ id) ∧ w = wr) (fun i _ => L.length - (intOf i).toNat)
  case atStart => exact ⟨0, Nat.zero_le _, rfl, Lib.hid (fun j y h => by omega), rfl⟩
  case round =>
    obtain ⟨t, ht, rfl, HI, rfl⟩ := hrel
    by_cases htL : t < L.length
    · have htI : (t : Int) < L.length := by omega
      obtain ⟨g, rfl, _, hgl, hobs⟩ := HRA.out t htL
      obtain ⟨y, hy⟩ : ∃ y, L[t]? = some y := ⟨L[t]'htL, List.getElem?_eq_getElem _⟩
      have v0 := ths_id hobs hy
      have v9 : w.cell? ⟨g, t * 24 + 9, none⟩ = some (.int .i64 y.ca) := hobs t y hy 9 _ rfl
      have HY := Lib.hid hy
      clear hobs hy
      by_cases he : y.ca = id
      · have HE := Lib.hid he
        go_wp2
        go_ret
        exact ⟨by rw [HSS.out t y HI.out HY.out HE.out]; rfl, rfl⟩
      · have HE := Lib.hid he
        have hd : decide (y.ca = id) = false := decide_eq_false he
        have hd2 : (y.ca == id) = false := by simp [he]
        go_wp2
        go_roundw
        case rel => exact ⟨t + 1, by omega, by go_num, Lib.hid (fun j z hj hz => by
          rcases Nat.lt_or_ge j t with q | q
          · exact HI.out j z q hz
          · obtain rfl : j = t := by omega
            rw [HY.out] at hz
            cases hz
            exact HE.out), trivial⟩
        case measure => first | (simp [intOf]; done) | (simp [intOf]; omega)
    · obtain rfl : t = L.length := by omega
      have HZ := Lib.hid (HSN.out HI.out)
      go_wp2
      go_ret
      exact ⟨by rw [HZ.out]; rfl, rfl⟩
theorem rsrv_any (w : World) (rb base : Nat) (v : Value) (L : List Th) (id : Int) (h : RefT w rb base v L) (hl : L.length < 1000000) :
    Calls Try.prog 21 #[.pointer (some ⟨rb, 0, none⟩), .int .i64 id] w fun e w' => e = .returned (.int .i64 (srvT L id)) ∧ w = w' := by
  by_cases h0 : id = 0
  · subst h0
    rw [show srvT L 0 = 0 by unfold srvT; rw [if_pos rfl]]
    exact rsrv_0 w rb base v L h hl
  · exact rsrv_n w rb base v L id h hl h0
set_option maxRecDepth 100000 in
set_option maxHeartbeats 2000000 in
theorem rmay_any (w : World) (x : Th) : Calls Try.prog 16 #[.agg x.cells.toArray] w fun e w' => e = .returned (.bool (mayT x)) ∧ Below w.heap.size w w' := by
  obtain ⟨b0, b1, b2, b9, b10, b16, b17⟩ := box_cells w x 35
  have hB := bal (Below.refl w.heap.size w) (.cells x.cells.toArray 35)
  have HB := Lib.hid hB
  clear hB
  have hne : x.cells.toArray ≠ #[] := by simp [Th.cells]
  have hsz : x.cells.toArray.size = 24 := rfl
  unfold mayT MayT
  generalize x.cells.toArray = xs at *
  obtain ⟨x_id, x_st, x_pr, x_m0, x_m1, x_m2, x_m3, x_bd, x_got, x_ca, x_wa, x_o0, x_o1, x_o2, x_o3, x_ob, x_gi, x_nn, x_cs, x_fl, x_rh, x_rw, x_va, x_vl⟩ := x
  simp only [] at b0 b1 b2 b9 b10 b16 b17 ⊢
  by_cases h0 : 1 ≤ x_id
  · by_cases h1 : 0 ≤ x_st
    · by_cases h2 : x_st ≤ 4
      · by_cases h3 : 0 ≤ x_pr
        · by_cases h4 : x_pr ≤ 7
          · by_cases h5 : 0 ≤ x_ca
            · by_cases h6 : 0 ≤ x_wa
              · by_cases h7 : 0 ≤ x_gi
                · by_cases h8 : x_gi ≤ 4096
                  · by_cases h9 : 0 ≤ x_nn
                    · by_cases h10 : x_nn ≤ 4096
                      · go_enter Try.func16, Try.ntmps16
                        go_wp2
                        go_ret
                        exact ⟨ret_bool (by first | exact decide_eq_false (by omega) | exact (decide_eq_false (by omega)).symm | exact decide_eq_true (by omega) | exact (decide_eq_true (by omega)).symm | (simp; omega)), HB.out⟩
                      · go_enter Try.func16, Try.ntmps16
                        go_wp2
                        go_ret
                        exact ⟨ret_bool (by first | exact decide_eq_false (by omega) | exact (decide_eq_false (by omega)).symm | exact decide_eq_true (by omega) | exact (decide_eq_true (by omega)).symm | (simp; omega)), HB.out⟩
                    · go_enter Try.func16, Try.ntmps16
                      go_wp2
                      go_ret
                      exact ⟨ret_bool (by first | exact decide_eq_false (by omega) | exact (decide_eq_false (by omega)).symm | exact decide_eq_true (by omega) | exact (decide_eq_true (by omega)).symm | (simp; omega)), HB.out⟩
                  · go_enter Try.func16, Try.ntmps16
                    go_wp2
                    go_ret
                    exact ⟨ret_bool (by first | exact decide_eq_false (by omega) | exact (decide_eq_false (by omega)).symm | exact decide_eq_true (by omega) | exact (decide_eq_true (by omega)).symm | (simp; omega)), HB.out⟩
                · go_enter Try.func16, Try.ntmps16
                  go_wp2
                  go_ret
                  exact ⟨ret_bool (by first | exact decide_eq_false (by omega) | exact (decide_eq_false (by omega)).symm | exact decide_eq_true (by omega) | exact (decide_eq_true (by omega)).symm | (simp; omega)), HB.out⟩
              · go_enter Try.func16, Try.ntmps16
                go_wp2
                go_ret
                exact ⟨ret_bool (by first | exact decide_eq_false (by omega) | exact (decide_eq_false (by omega)).symm | exact decide_eq_true (by omega) | exact (decide_eq_true (by omega)).symm | (simp; omega)), HB.out⟩
            · go_enter Try.func16, Try.ntmps16
              go_wp2
              go_ret
              exact ⟨ret_bool (by first | exact decide_eq_false (by omega) | exact (decide_eq_false (by omega)).symm | exact decide_eq_true (by omega) | exact (decide_eq_true (by omega)).symm | (simp; omega)), HB.out⟩
          · go_enter Try.func16, Try.ntmps16
            go_wp2
            go_ret
            exact ⟨ret_bool (by first | exact decide_eq_false (by omega) | exact (decide_eq_false (by omega)).symm | exact decide_eq_true (by omega) | exact (decide_eq_true (by omega)).symm | (simp; omega)), HB.out⟩
        · go_enter Try.func16, Try.ntmps16
          go_wp2
          go_ret
          exact ⟨ret_bool (by first | exact decide_eq_false (by omega) | exact (decide_eq_false (by omega)).symm | exact decide_eq_true (by omega) | exact (decide_eq_true (by omega)).symm | (simp; omega)), HB.out⟩
      · go_enter Try.func16, Try.ntmps16
        go_wp2
        go_ret
        exact ⟨ret_bool (by first | exact decide_eq_false (by omega) | exact (decide_eq_false (by omega)).symm | exact decide_eq_true (by omega) | exact (decide_eq_true (by omega)).symm | (simp; omega)), HB.out⟩
    · go_enter Try.func16, Try.ntmps16
      go_wp2
      go_ret
      exact ⟨ret_bool (by first | exact decide_eq_false (by omega) | exact (decide_eq_false (by omega)).symm | exact decide_eq_true (by omega) | exact (decide_eq_true (by omega)).symm | (simp; omega)), HB.out⟩
  · go_enter Try.func16, Try.ntmps16
    go_wp2
    go_ret
    exact ⟨ret_bool (by first | exact decide_eq_false (by omega) | exact (decide_eq_false (by omega)).symm | exact decide_eq_true (by omega) | exact (decide_eq_true (by omega)).symm | (simp; omega)), HB.out⟩
end Go.Proofs.Ytiagkoiikmmgdaa
