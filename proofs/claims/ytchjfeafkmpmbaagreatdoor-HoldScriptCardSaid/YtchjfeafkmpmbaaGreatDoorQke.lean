import Derived.Test.YtchjfeafkmpmbaaGreatDoorQkd
import Derived.StillTailTactics
import Derived.BigQuiet
import Derived.Maps.AppendAt
import Derived.Deep.MidRow
import Derived.BigRegion
namespace Go.Proofs.YtchjfeafkmpmbaaGreatDoor
set_option linter.unusedVariables false
set_option linter.unusedSimpArgs false
set_option maxRecDepth 100000
set_option maxHeartbeats 8000000
open Go.ChangeShapes Go.WideShapes Go.ChangeAt Go.RowKit Go.Shelf
section
section
namespace TabS
structure RefS (w : World) (rb base : Nat) (v : Value) (L : List Sn) : Prop where
 blk : w.heap[rb]? = some (.cells #[v] 107 (0, 0))
 row : w.ownsRow base 110 2 v L.length (flat (rowsS L))
 lt : rb < base
 bs : base ≤ w.heap.size
 cb : ∀ x ∈ L, w.heap[x.g]? = some (.cells (flatC x.l).toArray 33 (0, 0)) ∧ base ≤ x.g
 ap : L.Pairwise fun x y => x.g ≠ y.g
 nt : ∀ x ∈ L, v.ownBlock ≠ some x.g
 bd : ∀ x ∈ L, x.l.length ≤ 16
theorem RefS.glt {w : World} {rb base : Nat} {v : Value} {L : List Sn} (h : RefS w rb base v L) {x : Sn} (hx : x ∈ L) : x.g < w.heap.size := (ags (h.cb x hx).1).1
theorem RefS.call {w w' : World} {rb base : Nat} {v : Value} {L : List Sn} (h : RefS w rb base v L) (hb : Below w.heap.size w w') : RefS w' rb base v L :=
 ⟨(hb.block rb (Nat.lt_of_lt_of_le h.lt h.bs)).trans h.blk, row_of_block h.row (fun g hg => hb.block g (h.row.lt g hg).2), h.lt, Nat.le_trans h.bs hb.size, fun x hx => ⟨(hb.block x.g (h.glt hx)).trans (h.cb x hx).1, (h.cb x hx).2⟩, h.ap, h.nt, h.bd⟩
theorem RefS.c0 {w : World} {rb base : Nat} {v : Value} {L : List Sn} (h : RefS w rb base v L) : w.cell? ⟨rb, 0, none⟩ = some v := (cell_box h.blk).1
theorem RefS.f0 {w : World} {rb base : Nat} {v : Value} {L : List Sn} (h : RefS w rb base v L) : w.frozen? ⟨rb, 0, none⟩ = false := (cell_box h.blk).2
theorem RefS.wide {w : World} {rb base : Nat} {v : Value} {L : List Sn} (h : RefS w rb base v L) : Wide 2 (rowsS L) := by
 intro r hr
 obtain ⟨x, hx, rfl⟩ := List.mem_map.1 hr
 exact wideS x _ (List.mem_singleton.2 rfl)
theorem RefS.form {w : World} {rb base : Nat} {v : Value} {L : List Sn} (h : RefS w rb base v L) : ∃ ra rc, v = .slice ra L.length rc ∧ L.length ≤ rc ∧ ∀ i, i < L.length → ∃ g, ra = some ⟨g, 0, none⟩ ∧ base ≤ g ∧ g < w.heap.size ∧ g ≠ rb ∧ ∀ (t : Nat) (y : Sn), L[t]? = some y → w.cell? ⟨g, t * 2, none⟩ = some (.int .i64 y.id) ∧ w.cell? ⟨g, t * 2 + 1, none⟩ = some y.v := by
 have hlt := h.row.lt
 have hl := h.lt
 have hw := h.wide
 have hcs := fun g hg => h.row.cells (g := g) hg
 rcases h.row.2 with ⟨rfl, h0⟩ | ⟨g, cap, cur, rfl, q1, q2, q3, q4, q5, q6⟩
 ·exact ⟨none, 0, by rw [h0], by omega, fun i hi => by omega⟩
 ·refine ⟨_, _, rfl, q3, fun _ _ => ⟨g, rfl, (hlt g rfl).1, (hlt g rfl).2, by have := (hlt g rfl).1; omega, fun t y hy => ?_⟩⟩
  have hc : ∀ j u, (rcells (rowS y))[j]? = some u → w.cell? ⟨g, t * 2 + j, none⟩ = some u := fun j u hj => by
   have := hcs g rfl _ _ (flat_get hw (i := t) (r := rowS y) (by rw [rowsS_get, hy]; rfl) hj)
   rwa [Addr.add_mid, Nat.zero_add] at this
  exact ⟨hc 0 _ rfl, hc 1 _ rfl⟩
theorem RefS.cell {w : World} {rb base : Nat} {v : Value} {L : List Sn} (h : RefS w rb base v L) {x : Sn} (hx : x ∈ L) {i : Nat} {c : Cp} (hi : x.l[i]? = some c) {j : Nat} {u : Value} (hu : c.L[j]? = some u) : w.cell? ⟨x.g, i * 8 + j, none⟩ = some u := by
 rw [cell_of_row _ _ _ _ _ _ (h.cb x hx).1]
 simpa using flatC_get hi hu
theorem RefS.free {w : World} {rb base : Nat} {v : Value} {L : List Sn} (h : RefS w rb base v L) {x : Sn} (hx : x ∈ L) (j : Nat) : w.frozen? ⟨x.g, j, none⟩ = false := by
 simp [World.frozen?, (h.cb x hx).1]
def FirstS (L : List Sn) (id : Int) (k : Nat) (x : Sn) : Prop := L[k]? = some x ∧ x.id = id ∧ ∀ i y, i < k → L[i]? = some y → y.id ≠ id
theorem rat_no (w : World) (rb base : Nat) (v : Value) (R : List Sn) (id : Int) (h : RefS w rb base v R) (hl : R.length < 1000000) (hn : ∀ x ∈ R, x.id ≠ id) :
  Calls Tryz.prog 78 #[.pointer (some ⟨rb, 0, none⟩), .int .i64 id] w fun e w' => e = .returned (.int .i64 (-1)) ∧ w = w' := by
 obtain ⟨ra, rc, rfl, hrc, hra⟩ := h.form
 have c1 := h.c0
 have HRA := Lib.hid hra
 have HN := Lib.hid hn
 clear h hra hn
 go_enter Tryz.func78, Tryz.ntmps78
 go_wp2
 go_loopw [5] (fun i wr => ∃ t : Nat, t ≤ R.length ∧ i = .int .i64 t ∧ w = wr) (fun i _ => R.length - (intOf i).toNat)
 case atStart => exact ⟨0, Nat.zero_le _, rfl, rfl⟩
 case round =>
  obtain ⟨t, ht, rfl, rfl⟩ := hrel
  by_cases htL : t < R.length
  ·have htI : (t : Int) < R.length := by omega
   obtain ⟨g, rfl, _, hgl, _, hobs⟩ := HRA.out t htL
   obtain ⟨y, hy⟩ : ∃ y, R[t]? = some y := ⟨R[t]'htL, List.getElem?_eq_getElem _⟩
   have hne := HN.out y (List.mem_of_getElem? hy)
   have v0 := (hobs t y hy).1
   clear hobs hy
   generalize y.id = yi at *
   go_wp2
   go_roundw
   case rel => exact ⟨t + 1, by omega, by go_num, trivial⟩
   case measure => first | (simp [intOf]; done) | (simp [intOf]; omega)
  ·obtain rfl : t = R.length := by omega
   go_wp2
   go_ret
   exact ⟨rfl, rfl⟩
theorem rat_yes (w : World) (rb base : Nat) (v : Value) (R : List Sn) (id : Int) (k : Nat) (x : Sn) (h : RefS w rb base v R) (hl : R.length < 1000000) (hF : FirstS R id k x) :
  Calls Tryz.prog 78 #[.pointer (some ⟨rb, 0, none⟩), .int .i64 id] w fun e w' => e = .returned (.int .i64 k) ∧ w = w' := by
 obtain ⟨hk, hid, hn⟩ := hF
 obtain ⟨ra, rc, rfl, hrc, hra⟩ := h.form
 have c1 := h.c0
 have HN := Lib.hid hn
 have hkL := (lgs hk).1
 obtain ⟨g, rfl, _, hgl, _, hobs⟩ := hra k hkL
 have HOB := Lib.hid hobs
 have HK := Lib.hid hk
 subst hid
 clear h hra hn hobs hk
 go_enter Tryz.func78, Tryz.ntmps78
 go_wp2
 go_loopw [5] (fun i wr => ∃ t : Nat, t ≤ k ∧ i = .int .i64 t ∧ w = wr) (fun i _ => k - (intOf i).toNat)
 case atStart => exact ⟨0, Nat.zero_le _, rfl, rfl⟩
 case round =>
  obtain ⟨t, ht, rfl, rfl⟩ := hrel
  have htI : (t : Int) < R.length := by omega
  by_cases htk : t < k
  ·obtain ⟨y, hy⟩ : ∃ y, R[t]? = some y := ⟨R[t]'(by omega), List.getElem?_eq_getElem _⟩
   have hne := HN.out t y htk hy
   have v0 := (HOB.out t y hy).1
   clear hy
   generalize y.id = yi at *
   generalize x.id = xi at *
   go_wp2
   go_roundw
   case rel => exact ⟨t + 1, by omega, by go_num, trivial⟩
   case measure => first | (simp [intOf]; done) | (simp [intOf]; omega)
  ·obtain rfl : t = k := by omega
   have v0 := (HOB.out t x HK.out).1
   generalize x.id = xi at *
   go_wp2
   go_ret
   exact ⟨rfl, rfl⟩
theorem rsize_no (w : World) (rb base : Nat) (v : Value) (R : List Sn) (id : Int) (h : RefS w rb base v R) (hl : R.length < 1000000) (hn : ∀ x ∈ R, x.id ≠ id) :
  Calls Tryz.prog 109 #[.pointer (some ⟨rb, 0, none⟩), .int .i64 id] w fun e w' => e = .returned (.int .i64 0) ∧ w = w' := by
 have HA := Lib.hid (rat_no w rb base v R id h hl hn)
 clear h hn
 go_enter Tryz.func109, Tryz.ntmps109
 go_wp2_with (go_at_call 78; refine HA.out.mono ?_; rintro e w1 ⟨rfl, rfl⟩)
 go_ret
 exact ⟨rfl, rfl⟩
theorem rsize_yes (w : World) (rb base : Nat) (v : Value) (R : List Sn) (id : Int) (k : Nat) (x : Sn) (h : RefS w rb base v R) (hl : R.length < 1000000) (hF : FirstS R id k x) :
  Calls Tryz.prog 109 #[.pointer (some ⟨rb, 0, none⟩), .int .i64 id] w fun e w' => e = .returned (.int .i64 x.l.length) ∧ w = w' := by
 have HA := Lib.hid (rat_yes w rb base v R id k x h hl hF)
 obtain ⟨ra, rc, rfl, hrc, hra⟩ := h.form
 have c1 := h.c0
 have hkL := (lgs hF.1).1
 obtain ⟨g, rfl, _, hgl, _, hobs⟩ := hra k hkL
 have v1 := (hobs k x hF.1).2
 have hkI : (k : Int) < R.length := by omega
 obtain ⟨gx, hgx⟩ : ∃ y, y = x.g := ⟨_, rfl⟩
 obtain ⟨n, hn⟩ : ∃ y, y = x.l.length := ⟨_, rfl⟩
 rw [show x.v = .slice (some ⟨gx, 0, none⟩) n n by rw [hgx, hn]] at v1
 rw [← hn]
 clear h hra hobs hF hgx hn
 go_enter Tryz.func109, Tryz.ntmps109
 go_wp2_with (go_at_call 78; refine HA.out.mono ?_; rintro e w1 ⟨rfl, rfl⟩)
 go_ret
 exact ⟨rfl, rfl⟩
end TabS
end
section
namespace TabS
theorem rhas_low (w : World) (rb base : Nat) (v : Value) (R : List Sn) (id ix : Int) (h : RefS w rb base v R) (hl : R.length < 1000000) (hi : ix < 0) :
  Calls Tryz.prog 79 #[.pointer (some ⟨rb, 0, none⟩), .agg #[.int .i64 id, .int .i64 ix]] w fun e w' => e = .returned (.bool false) ∧ Below w.heap.size w w' := by
 have hd : decide (0 ≤ ix) = false := decide_eq_false (by omega)
 obtain ⟨w1, hw1⟩ : ∃ y, y = w.alloc (.cells #[.int .i64 id, .int .i64 ix] 30) := ⟨_, rfl⟩
 have x0 : w1.cell? ⟨w.heap.size, 0, none⟩ = some (.int .i64 id) := by rw [hw1]; simp [go_sem]
 have x1 : w1.cell? ⟨w.heap.size, 1, none⟩ = some (.int .i64 ix) := by rw [hw1]; simp [go_sem]
 have B1 : Below w.heap.size w w1 := hw1 ▸ bal (Below.refl _ _) _
 have HW1 := Lib.hid hw1
 have HB1 := Lib.hid B1
 clear h hw1 B1
 go_enter Tryz.func79, Tryz.ntmps79
 go_wp2
 rw [← HW1.out]
 go_quiet (fail)
 go_wp2
 go_ret
 first
  | exact ⟨rfl, below_drewN HB1.out _⟩
  | exact ⟨by have := of_decide_eq_true hd2; simp; omega, below_drewN HB1.out _⟩
theorem rhas_none (w : World) (rb base : Nat) (v : Value) (R : List Sn) (id ix : Int) (h : RefS w rb base v R) (hl : R.length < 1000000) (hi : 0 ≤ ix) (hn : ∀ x ∈ R, x.id ≠ id) :
  Calls Tryz.prog 79 #[.pointer (some ⟨rb, 0, none⟩), .agg #[.int .i64 id, .int .i64 ix]] w fun e w' => e = .returned (.bool false) ∧ Below w.heap.size w w' := by
 have hd : decide (0 ≤ ix) = true := decide_eq_true hi
 have hd2 : decide (ix < 0) = false := decide_eq_false (by omega)
 obtain ⟨w1, hw1⟩ : ∃ y, y = w.alloc (.cells #[.int .i64 id, .int .i64 ix] 30) := ⟨_, rfl⟩
 have x0 : w1.cell? ⟨w.heap.size, 0, none⟩ = some (.int .i64 id) := by rw [hw1]; simp [go_sem]
 have x1 : w1.cell? ⟨w.heap.size, 1, none⟩ = some (.int .i64 ix) := by rw [hw1]; simp [go_sem]
 have B1 : Below w.heap.size w w1 := hw1 ▸ bal (Below.refl _ _) _
 have HSZ : Hid (∀ j, Calls Tryz.prog 109 #[.pointer (some ⟨rb, 0, none⟩), .int .i64 id] (w1.drewN j) fun e w' => e = .returned (.int .i64 0) ∧ w1.drewN j = w') := Lib.hid (fun j => rsize_no _ rb base v R id (h.call (below_drewN B1 _)) hl hn)
 have HW1 := Lib.hid hw1
 have HB1 := Lib.hid B1
 clear h hw1 B1 hn
 go_enter Tryz.func79, Tryz.ntmps79
 go_wp2
 rw [← HW1.out]
 go_quiet ((go_at_call 109; with_reducible exact Calls.quiet_of_same (same_q (HSZ.out _))))
 go_wp2
 go_ret
 first
  | exact ⟨rfl, below_drewN HB1.out _⟩
  | exact ⟨by have := of_decide_eq_true hd2; simp; omega, below_drewN HB1.out _⟩
theorem rhas_high (w : World) (rb base : Nat) (v : Value) (R : List Sn) (id ix : Int) (k : Nat) (x : Sn) (h : RefS w rb base v R) (hl : R.length < 1000000) (hi : 0 ≤ ix) (hF : FirstS R id k x) (hx : (x.l.length : Int) ≤ ix) :
  Calls Tryz.prog 79 #[.pointer (some ⟨rb, 0, none⟩), .agg #[.int .i64 id, .int .i64 ix]] w fun e w' => e = .returned (.bool false) ∧ Below w.heap.size w w' := by
 have hd : decide (0 ≤ ix) = true := decide_eq_true hi
 have hd2 : decide (ix < (x.l.length : Int)) = false := decide_eq_false (by omega)
 obtain ⟨w1, hw1⟩ : ∃ y, y = w.alloc (.cells #[.int .i64 id, .int .i64 ix] 30) := ⟨_, rfl⟩
 have x0 : w1.cell? ⟨w.heap.size, 0, none⟩ = some (.int .i64 id) := by rw [hw1]; simp [go_sem]
 have x1 : w1.cell? ⟨w.heap.size, 1, none⟩ = some (.int .i64 ix) := by rw [hw1]; simp [go_sem]
 have B1 : Below w.heap.size w w1 := hw1 ▸ bal (Below.refl _ _) _
 have HSZ : Hid (∀ j, Calls Tryz.prog 109 #[.pointer (some ⟨rb, 0, none⟩), .int .i64 id] (w1.drewN j) fun e w' => e = .returned (.int .i64 x.l.length) ∧ w1.drewN j = w') := Lib.hid (fun j => rsize_yes _ rb base v R id k x (h.call (below_drewN B1 _)) hl hF)
 obtain ⟨n, hn⟩ : ∃ n, n = x.l.length := ⟨_, rfl⟩
 rw [← hn] at HSZ hd2
 have HW1 := Lib.hid hw1
 have HB1 := Lib.hid B1
 clear h hw1 B1 hF hn hx
 go_enter Tryz.func79, Tryz.ntmps79
 go_wp2
 rw [← HW1.out]
 go_quiet ((go_at_call 109; with_reducible exact Calls.quiet_of_same (same_q (HSZ.out _))))
 go_wp2
 go_ret
 first
  | exact ⟨rfl, below_drewN HB1.out _⟩
  | exact ⟨by have := of_decide_eq_true hd2; simp; omega, below_drewN HB1.out _⟩
theorem rhas_yes (w : World) (rb base : Nat) (v : Value) (R : List Sn) (id : Int) (i k : Nat) (x : Sn) (h : RefS w rb base v R) (hl : R.length < 1000000) (hF : FirstS R id k x) (hx : i < x.l.length) :
  Calls Tryz.prog 79 #[.pointer (some ⟨rb, 0, none⟩), .agg #[.int .i64 id, .int .i64 i]] w fun e w' => e = .returned (.bool true) ∧ Below w.heap.size w w' := by
 have hd : decide (0 ≤ (i : Int)) = true := decide_eq_true (by omega)
 have hd2 : decide ((i : Int) < (x.l.length : Int)) = true := decide_eq_true (by omega)
 obtain ⟨w1, hw1⟩ : ∃ y, y = w.alloc (.cells #[.int .i64 id, .int .i64 i] 30) := ⟨_, rfl⟩
 have x0 : w1.cell? ⟨w.heap.size, 0, none⟩ = some (.int .i64 id) := by rw [hw1]; simp [go_sem]
 have x1 : w1.cell? ⟨w.heap.size, 1, none⟩ = some (.int .i64 i) := by rw [hw1]; simp [go_sem]
 have B1 : Below w.heap.size w w1 := hw1 ▸ bal (Below.refl _ _) _
 have HSZ : Hid (∀ j, Calls Tryz.prog 109 #[.pointer (some ⟨rb, 0, none⟩), .int .i64 id] (w1.drewN j) fun e w' => e = .returned (.int .i64 x.l.length) ∧ w1.drewN j = w') := Lib.hid (fun j => rsize_yes _ rb base v R id k x (h.call (below_drewN B1 _)) hl hF)
 obtain ⟨n, hn⟩ : ∃ n, n = x.l.length := ⟨_, rfl⟩
 rw [← hn] at HSZ hd2
 have HW1 := Lib.hid hw1
 have HB1 := Lib.hid B1
 clear h hw1 B1 hF hn hx
 go_enter Tryz.func79, Tryz.ntmps79
 go_wp2
 rw [← HW1.out]
 go_quiet ((go_at_call 109; with_reducible exact Calls.quiet_of_same (same_q (HSZ.out _))))
 go_wp2
 go_ret
 first
  | exact ⟨rfl, below_drewN HB1.out _⟩
  | exact ⟨by have := of_decide_eq_true hd2; simp; omega, below_drewN HB1.out _⟩
def NoSlotR (R : List Sn) (id ix : Int) : Prop := (∀ x ∈ R, x.id ≠ id) ∨ ∃ k x, FirstS R id k x ∧ (ix < 0 ∨ (x.l.length : Int) ≤ ix)
theorem rhas_no (w : World) (rb base : Nat) (v : Value) (R : List Sn) (id ix : Int) (h : RefS w rb base v R) (hl : R.length < 1000000) (hn : NoSlotR R id ix) :
  Calls Tryz.prog 79 #[.pointer (some ⟨rb, 0, none⟩), .agg #[.int .i64 id, .int .i64 ix]] w fun e w' => e = .returned (.bool false) ∧ Below w.heap.size w w' := by
 by_cases hi : ix < 0
 ·exact rhas_low w rb base v R id ix h hl hi
 ·rcases hn with hn | ⟨k, x, hF, hx | hx⟩
  ·exact rhas_none w rb base v R id ix h hl (by omega) hn
  ·exact absurd hx hi
  ·exact rhas_high w rb base v R id ix k x h hl (by omega) hF hx
theorem rget_no (w : World) (rb base : Nat) (v : Value) (R : List Sn) (id ix : Int) (h : RefS w rb base v R) (hl : R.length < 1000000) (hn : NoSlotR R id ix) :
  Calls Tryz.prog 47 #[.pointer (some ⟨rb, 0, none⟩), .agg #[.int .i64 id, .int .i64 ix]] w fun e w' => e = .returned (.tuple #[zC.V, .int .i64 3]) ∧ Below w.heap.size w w' := by
 have HA := Lib.hid (fun (u : World) (hu : Below w.heap.size w u) => rhas_no u rb base v R id ix (h.call hu) hl hn)
 clear h hn
 go_enter Tryz.func47, Tryz.ntmps47
 go_wp2_with (first
  | (go_at_call 79; refine (HA.out _ (bal (bal (Below.refl _ _) _) _)).mono ?_; rintro e w1 ⟨rfl, hb1⟩; obtain ⟨hc1, hf1⟩ := bcell hb1; have hz1 := hb1.size; have hz2 : w.heap.size + 1 < w1.heap.size := (by simp at hz1; omega)))
 exact bodyPost_ret (v := .tuple #[zC.V, .int .i64 3]) (by simp [results, Tryz.results47, go_sem, hc1, hf1, hz2, zC]) rfl ⟨rfl, bs' (bs' (bs' (bs' (bs' (bs' (bs' (bs' (bgo (bal (bal (Below.refl _ _) _) _) hb1) _ _ _) _ _ _) _ _ _) _ _ _) _ _ _) _ _ _) _ _ _) _ _ _⟩
theorem cap_row (w : World) (m : Nat) (z c : Cp) (h : w.heap[m]? = some (.cells z.L.toArray 33 (0, 0))) : (((((((((w.setCell ⟨m, 0, none⟩ (.int .i64 c.a)).setCell ⟨m, 1, none⟩ (.int .i64 c.b)).setCell ⟨m, 2, none⟩ (.int .i64 c.c)).setCell ⟨m, 3, none⟩ (.int .u64 c.d)).setCell ⟨m, 4, none⟩ (.int .i64 c.e)).setCell ⟨m, 5, none⟩ (.int .i64 c.f)).setCell ⟨m, 6, none⟩ (.int .i64 c.g)).setCell ⟨m, 7, none⟩ (.int .i64 c.h)).drew).heap[m]? = some (.cells c.L.toArray 33 (0, 0)) := by
 have h8 := Go.heap_setCell_same _ m 7 _ _ (.int .i64 c.h) (Go.heap_setCell_same _ m 6 _ _ (.int .i64 c.g) (Go.heap_setCell_same _ m 5 _ _ (.int .i64 c.f) (Go.heap_setCell_same _ m 4 _ _ (.int .i64 c.e) (Go.heap_setCell_same _ m 3 _ _ (.int .u64 c.d) (Go.heap_setCell_same _ m 2 _ _ (.int .i64 c.c) (Go.heap_setCell_same _ m 1 _ _ (.int .i64 c.b) (Go.heap_setCell_same _ m 0 _ _ (.int .i64 c.a) h)))))))
 rw [Go.heap_drew, h8]
 simp [Cp.L]
theorem RefS.slot {w : World} {rb base : Nat} {v : Value} {R : List Sn} {id : Int} {k : Nat} {x : Sn} (h : RefS w rb base v R) (hF : FirstS R id k x) : ∃ g c, v = .slice (some ⟨g, 0, none⟩) R.length c ∧ g < w.heap.size ∧ w.cell? ⟨g, k * 2 + 1, none⟩ = some x.v := by
 obtain ⟨ra, rc, e, hrc, hra⟩ := h.form
 obtain ⟨g, rfl, _, hgl, _, hobs⟩ := hra k (lgs hF.1).1
 exact ⟨g, rc, e, hgl, (hobs k x hF.1).2⟩
theorem rget_yes (w : World) (rb base : Nat) (v : Value) (R : List Sn) (id : Int) (i k : Nat) (x : Sn) (c : Cp) (h : RefS w rb base v R) (hl : R.length < 1000000) (hF : FirstS R id k x) (hc : x.l[i]? = some c) :
  Calls Tryz.prog 47 #[.pointer (some ⟨rb, 0, none⟩), .agg #[.int .i64 id, .int .i64 i]] w fun e w' => e = .returned (.tuple #[c.V, .int .i64 0]) ∧ Below w.heap.size w w' := by
 have hi := (lgs hc).1
 have hmem := List.mem_of_getElem? hF.1
 have hkR := (lgs hF.1).1
 have hkI : (k : Int) < R.length := by omega
 have h16 := h.bd x hmem
 have HA := Lib.hid (fun (u : World) (hu : Below w.heap.size w u) => rhas_yes u rb base v R id i k x (h.call hu) hl hF hi)
 have HT := Lib.hid (fun (u : World) (hu : Below w.heap.size w u) => rat_yes u rb base v R id k x (h.call hu) hl hF)
 have HC := Lib.hid (fun (u : World) (hu : Below w.heap.size w u) (j : Nat) (z : Value) (hz : c.L[j]? = some z) => (h.call hu).cell hmem hc hz)
 obtain ⟨g, rc, rfl, hgl, hv1⟩ := h.slot hF
 have hC0 := h.c0
 have hrl : rb < w.heap.size := Nat.lt_of_lt_of_le h.lt h.bs
 have hxl := h.glt hmem
 obtain ⟨gx, hgx⟩ : ∃ y, y = x.g := ⟨_, rfl⟩
 obtain ⟨n, hn⟩ : ∃ y, y = x.l.length := ⟨_, rfl⟩
 rw [show x.v = .slice (some ⟨gx, 0, none⟩) n n by rw [hgx, hn]] at hv1
 rw [← hgx] at HC hxl
 rw [← hn] at hi h16
 have hiI : (i : Int) < n := by omega
 clear h hF hc hgx hn hmem
 go_enter Tryz.func47, Tryz.ntmps47
 go_upto_region 3 with (first
  | (go_at_call 79; refine (HA.out _ (bal (bal (Below.refl _ _) _) _)).mono ?_; rintro e w1 ⟨rfl, hb1⟩; have HB1 := Lib.hid (bgo (bal (bal (Below.refl w.heap.size w) _) _) hb1); obtain ⟨hc1, hf1⟩ := bcell hb1; have hz1 := hb1.size; have hz2 : w.heap.size + 1 < w1.heap.size := (by simp at hz1; omega)))
 have x0 : w1.cell? ⟨w.heap.size, 0, none⟩ = some (.int .i64 id) := (hc1 _ _ (by simp; omega)).trans (by simp [go_sem])
 have x1 : w1.cell? ⟨w.heap.size, 1, none⟩ = some (.int .i64 i) := (hc1 _ _ (by simp; omega)).trans (by simp [go_sem])
 have d0 := (HB1.out.cell (p := ⟨rb, 0, none⟩) hrl).trans hC0
 have d1 := (HB1.out.cell (p := ⟨g, k * 2 + 1, none⟩) hgl).trans hv1
 have k0 := HC.out w1 HB1.out 0 _ rfl
 rw [Nat.add_zero] at k0
 have k1 := HC.out w1 HB1.out 1 _ rfl
 have k2 := HC.out w1 HB1.out 2 _ rfl
 have k3 := HC.out w1 HB1.out 3 _ rfl
 have k4 := HC.out w1 HB1.out 4 _ rfl
 have k5 := HC.out w1 HB1.out 5 _ rfl
 have k6 := HC.out w1 HB1.out 6 _ rfl
 have k7 := HC.out w1 HB1.out 7 _ rfl
 have hbz : w1.heap[w.heap.size + 1]? = some (.cells #[.int .i64 0, .int .i64 0, .int .i64 0, .int .u64 0, .int .i64 0, .int .i64 0, .int .i64 0, .int .i64 0] 33 (0, 0)) := by
  refine (hb1.block _ (by simp)).trans ?_
  have := heap_alloc_new (w.alloc (.cells #[.int .i64 id, .int .i64 i] 30)) (.cells #[.int .i64 0, .int .i64 0, .int .i64 0, .int .u64 0, .int .i64 0, .int .i64 0, .int .i64 0, .int .i64 0] 33)
  rwa [show (w.alloc (.cells #[.int .i64 id, .int .i64 i] 30)).heap.size = w.heap.size + 1 by simp] at this
 have HBZ := Lib.hid (show w1.heap[w.heap.size + 1]? = some (.cells zC.L.toArray 33 (0, 0)) from hbz)
 have q : ∀ j, j < 8 → ∃ u, w1.cell? ⟨w.heap.size + 1, j, none⟩ = some u ∧ w1.frozen? ⟨w.heap.size + 1, j, none⟩ = false := by
  intro j hj
  have hb := hbz
  refine ⟨_, (cell_of_row _ _ j _ _ _ hb).trans (Array.getElem?_eq_getElem (by simpa using hj)), by simp [World.frozen?, hb]⟩
 have hx2 : Below w1.heap.size w1 w1.drew := (Below.refl _ _).drew
 have HT1 := Lib.hid (HT.out w1.drew (HB1.out.trans (hx2.mono HB1.out.size)))
 obtain ⟨q0, q0c, q0f⟩ := q 0 (by decide)
 obtain ⟨q1, q1c, q1f⟩ := q 1 (by decide)
 obtain ⟨q2, q2c, q2f⟩ := q 2 (by decide)
 obtain ⟨q3, q3c, q3f⟩ := q 3 (by decide)
 obtain ⟨q4, q4c, q4f⟩ := q 4 (by decide)
 obtain ⟨q5, q5c, q5f⟩ := q 5 (by decide)
 obtain ⟨q6, q6c, q6f⟩ := q 6 (by decide)
 obtain ⟨q7, q7c, q7f⟩ := q 7 (by decide)
 clear q hc1 hf1 hbz
 go_still_tail 15, (by kernel_rfl)
 still_call (same_q HT1.out)
 repeat still_step
 refine wpStill_nil ?_
 change wpList _ _ _ _ _ w1.drew
 go_wp2
 obtain ⟨wf, hwf⟩ : ∃ y, y = ((((((((w1.setCell ⟨w.heap.size + 1, 0, none⟩ (.int .i64 c.a)).setCell ⟨w.heap.size + 1, 1, none⟩ (.int .i64 c.b)).setCell ⟨w.heap.size + 1, 2, none⟩ (.int .i64 c.c)).setCell ⟨w.heap.size + 1, 3, none⟩ (.int .u64 c.d)).setCell ⟨w.heap.size + 1, 4, none⟩ (.int .i64 c.e)).setCell ⟨w.heap.size + 1, 5, none⟩ (.int .i64 c.f)).setCell ⟨w.heap.size + 1, 6, none⟩ (.int .i64 c.g)).setCell ⟨w.heap.size + 1, 7, none⟩ (.int .i64 c.h)).drew := ⟨_, rfl⟩
 rw [← hwf]
 have hbf : wf.heap[w.heap.size + 1]? = some (.cells c.L.toArray 33 (0, 0)) := by
  rw [hwf]
  exact cap_row w1 _ zC c HBZ.out
 have hBf : Below w.heap.size w wf := by rw [hwf]; exact (bs' (bs' (bs' (bs' (bs' (bs' (bs' (bs' HB1.out _ _ _) _ _ _) _ _ _) _ _ _) _ _ _) _ _ _) _ _ _) _ _ _).drew
 have t0 : wf.cell? ⟨w.heap.size + 1, 0, none⟩ = some (.int .i64 c.a) := cell_of_row _ _ 0 _ _ _ hbf
 have t1 : wf.cell? ⟨w.heap.size + 1, 1, none⟩ = some (.int .i64 c.b) := cell_of_row _ _ 1 _ _ _ hbf
 have t2 : wf.cell? ⟨w.heap.size + 1, 2, none⟩ = some (.int .i64 c.c) := cell_of_row _ _ 2 _ _ _ hbf
 have t3 : wf.cell? ⟨w.heap.size + 1, 3, none⟩ = some (.int .u64 c.d) := cell_of_row _ _ 3 _ _ _ hbf
 have t4 : wf.cell? ⟨w.heap.size + 1, 4, none⟩ = some (.int .i64 c.e) := cell_of_row _ _ 4 _ _ _ hbf
 have t5 : wf.cell? ⟨w.heap.size + 1, 5, none⟩ = some (.int .i64 c.f) := cell_of_row _ _ 5 _ _ _ hbf
 have t6 : wf.cell? ⟨w.heap.size + 1, 6, none⟩ = some (.int .i64 c.g) := cell_of_row _ _ 6 _ _ _ hbf
 have t7 : wf.cell? ⟨w.heap.size + 1, 7, none⟩ = some (.int .i64 c.h) := cell_of_row _ _ 7 _ _ _ hbf
 exact bodyPost_ret (v := .tuple #[c.V, .int .i64 0]) (by simp [results, Tryz.results47, go_sem, t0, t1, t2, t3, t4, t5, t6, t7]) rfl ⟨rfl, hBf⟩
structure OnlyS (w w' : World) (rb : Nat) (v v' : Value) (R R' : List Sn) : Prop where
 os : w'.os = w.os
 tape : w'.tape = w.tape
 output : w'.output = w.output
 size : w.heap.size ≤ w'.heap.size
 block : ∀ k, k < w.heap.size → k ≠ rb → v.ownBlock ≠ some k → (∀ x ∈ R, x.g ≠ k) → w'.heap[k]? = w.heap[k]?
 foot : ∀ k, k < w.heap.size → (v'.ownBlock = some k ∨ ∃ x ∈ R', x.g = k) → (v.ownBlock = some k ∨ ∃ x ∈ R, x.g = k)
theorem RefS.put {w : World} {rb base : Nat} {v : Value} {R : List Sn} (h : RefS w rb base v R) {k : Nat} {x : Sn} (hk : R[k]? = some x) {i : Nat} (hi : i < x.l.length) (c : Cp) :
  RefS (setL w x.g (i * 8) c.L) rb base v (putS R k x i c) ∧ OnlyS w (setL w x.g (i * 8) c.L) rb v v R (putS R k x i c) := by
 have hx := List.mem_of_getElem? hk
 have eo := fun j (hj : j ≠ x.g) => setL_other hj c.L w (i * 8)
 obtain ⟨s1, s2, s3, s4⟩ := setL_rest (m := x.g) c.L w (i * 8)
 have em : (setL w x.g (i * 8) c.L).heap[x.g]? = some (.cells (flatC (x.l.set i c)).toArray 33 (0, 0)) := by
  rw [setL_same c.L w (i * 8) _ (h.cb x hx).1, putL_eq _ _ _ (by rw [flatC_len]; simp [Cp.L]; omega), flatC_set c hi]
  rfl
 have hbx : rb ≠ x.g := by have := h.lt; have := (h.cb x hx).2; omega
 have hlen : (putS R k x i c).length = R.length := by unfold putS; rw [List.length_set]
 refine ⟨⟨(eo rb hbx).trans h.blk, ?_, h.lt, by rw [s4]; exact h.bs, fun y hy => ?_, pair_putS h.ap hk, fun y hy => ?_, fun y hy => ?_⟩, ⟨s1, s2, s3, Nat.le_of_eq s4.symm, fun j _ _ _ hL => eo j (fun e => hL x hx e.symm), fun j _ e => ?_⟩⟩
 ·rw [hlen, rowsS_put hk]
  exact row_of_block h.row (fun g hg => eo g (fun e => h.nt x hx (e ▸ hg)))
 ·rcases mem_putS h.ap hk hy with rfl | ⟨q1, q2⟩
  ·exact ⟨em, (h.cb x hx).2⟩
  ·exact ⟨(eo y.g q2).trans (h.cb y q1).1, (h.cb y q1).2⟩
 ·rcases mem_putS h.ap hk hy with rfl | ⟨q1, q2⟩
  ·exact h.nt x hx
  ·exact h.nt y q1
 ·rcases mem_putS h.ap hk hy with rfl | ⟨q1, q2⟩
  ·simpa using h.bd x hx
  ·exact h.bd y q1
 ·rcases e with e | ⟨y, hy, e⟩
  ·exact .inl e
  ·rcases mem_putS h.ap hk hy with rfl | ⟨q1, q2⟩
   ·exact .inr ⟨x, hx, e⟩
   ·exact .inr ⟨y, q1, e⟩
theorem rset_no (w : World) (rb base : Nat) (v : Value) (R : List Sn) (id ix : Int) (c : Cp) (h : RefS w rb base v R) (hl : R.length < 1000000) (hn : NoSlotR R id ix) :
  Calls Tryz.prog 82 #[.pointer (some ⟨rb, 0, none⟩), .agg #[.int .i64 id, .int .i64 ix], c.V] w fun e w' => e = .returned (.int .i64 3) ∧ Below w.heap.size w w' := by
 have HA := Lib.hid (fun (u : World) (hu : Below w.heap.size w u) => rhas_no u rb base v R id ix (h.call hu) hl hn)
 clear h hn
 go_enter Tryz.func82, Tryz.ntmps82
 go_wp2_with (first
  | (go_at_call 79; refine (HA.out _ (bal (bal (Below.refl _ _) _) _)).mono ?_; rintro e w1 ⟨rfl, hb1⟩; obtain ⟨hc1, hf1⟩ := bcell hb1))
 go_ret
 exact ⟨rfl, bgo (bal (bal (Below.refl _ _) _) _) hb1⟩
theorem rset_form (w : World) (rb base : Nat) (v : Value) (R : List Sn) (id : Int) (i k : Nat) (x : Sn) (c : Cp) (h : RefS w rb base v R) (hl : R.length < 1000000) (hF : FirstS R id k x) (hi : i < x.l.length) (hm : mayC c = false) :
  Calls Tryz.prog 82 #[.pointer (some ⟨rb, 0, none⟩), .agg #[.int .i64 id, .int .i64 i], c.V] w fun e w' => e = .returned (.int .i64 5) ∧ Below w.heap.size w w' := by
 have HA := Lib.hid (fun (u : World) (hu : Below w.heap.size w u) => rhas_yes u rb base v R id i k x (h.call hu) hl hF hi)
 have hmay : ∀ u, Calls Tryz.prog 110 #[c.V] u fun e w' => e = .returned (.bool false) ∧ Below u.heap.size u w' := fun u => hm ▸ CX.refMay13 c.a c.b c.c c.d c.e c.f c.g c.h u
 have HM := Lib.hid hmay
 clear h hF hi hm hmay
 go_enter Tryz.func82, Tryz.ntmps82
 go_wp2_with (first
  | (go_at_call 79; refine (HA.out _ (bal (bal (Below.refl _ _) _) _)).mono ?_; rintro e w1 ⟨rfl, hb1⟩; have HB1 := Lib.hid (bgo (bal (bal (Below.refl w.heap.size w) _) _) hb1); obtain ⟨hc1, hf1⟩ := bcell hb1; have hz1 := hb1.size; have hz2 : w.heap.size + 1 < w1.heap.size := (by simp at hz1; omega))
  | (go_at_call 110; refine (HM.out _).mono ?_; rintro e w2 ⟨rfl, hb2⟩))
 go_ret
 exact ⟨rfl, bgo HB1.out hb2⟩
end TabS
end
section
namespace TabS
theorem rset_yes (w : World) (rb base : Nat) (v : Value) (R : List Sn) (id : Int) (i k : Nat) (x : Sn) (c : Cp) (h : RefS w rb base v R) (hl : R.length < 1000000) (hF : FirstS R id k x) (hi : i < x.l.length) (hm : mayC c = true) :
  Calls Tryz.prog 82 #[.pointer (some ⟨rb, 0, none⟩), .agg #[.int .i64 id, .int .i64 i], c.V] w fun e w' => e = .returned (.int .i64 0) ∧ RefS w' rb base v (putS R k x i c) ∧ OnlyS w w' rb v v R (putS R k x i c) := by
 have hmem := List.mem_of_getElem? hF.1
 have hkR := (lgs hF.1).1
 have hkI : (k : Int) < R.length := by omega
 have h16 := h.bd x hmem
 have HA := Lib.hid (fun (u : World) (hu : Below w.heap.size w u) => rhas_yes u rb base v R id i k x (h.call hu) hl hF hi)
 have HT := Lib.hid (fun (u : World) (hu : Below w.heap.size w u) => rat_yes u rb base v R id k x (h.call hu) hl hF)
 have hmay : ∀ u, Calls Tryz.prog 110 #[c.V] u fun e w' => e = .returned (.bool true) ∧ Below u.heap.size u w' := fun u => hm ▸ CX.refMay13 c.a c.b c.c c.d c.e c.f c.g c.h u
 have HM := Lib.hid hmay
 obtain ⟨c0, hc0⟩ : ∃ c0, x.l[i]? = some c0 := ⟨_, List.getElem?_eq_getElem hi⟩
 have HC := Lib.hid (fun (u : World) (hu : Below w.heap.size w u) (j : Nat) (z : Value) (hz : c0.L[j]? = some z) => (h.call hu).cell hmem hc0 hz)
 have HZ := Lib.hid (fun (u : World) (hu : Below w.heap.size w u) (j : Nat) => (h.call hu).free hmem j)
 have hfin : ∀ u, Below w.heap.size w u → RefS ((setL u x.g (i * 8) c.L).drew) rb base v (putS R k x i c) ∧ OnlyS w ((setL u x.g (i * 8) c.L).drew) rb v v R (putS R k x i c) := by
  intro u hb
  obtain ⟨q1, q2⟩ := (h.call hb).put hF.1 hi c
  generalize setL u x.g (i * 8) c.L = W2 at *
  exact ⟨q1.call (Below.refl _ _).drew, q2.os.trans hb.os, q2.tape.trans hb.tape, q2.output.trans hb.output, Nat.le_trans hb.size q2.size, fun j hj p1 p2 p3 => (q2.block j (Nat.lt_of_lt_of_le hj hb.size) p1 p2 p3).trans (hb.block j hj), fun j hj e => q2.foot j (Nat.lt_of_lt_of_le hj hb.size) e⟩
 have HFN := Lib.hid hfin
 obtain ⟨g, rc, rfl, hgl, hv1⟩ := h.slot hF
 have hC0 := h.c0
 have hrl : rb < w.heap.size := Nat.lt_of_lt_of_le h.lt h.bs
 have hxl := h.glt hmem
 obtain ⟨gx, hgx⟩ : ∃ y, y = x.g := ⟨_, rfl⟩
 obtain ⟨n, hn⟩ : ∃ y, y = x.l.length := ⟨_, rfl⟩
 rw [show x.v = .slice (some ⟨gx, 0, none⟩) n n by rw [hgx, hn]] at hv1
 rw [← hgx] at HC hxl HZ HFN
 rw [← hn] at hi h16
 have hiI : (i : Int) < n := by omega
 clear h hF hgx hn hmem hc0 hmay hm hfin
 go_enter Tryz.func82, Tryz.ntmps82
 go_upto_region 5 with (first
  | (go_at_call 79; refine (HA.out _ (bal (bal (Below.refl _ _) _) _)).mono ?_; rintro e w1 ⟨rfl, hb1⟩; have HB1 := Lib.hid (bgo (bal (bal (Below.refl w.heap.size w) _) _) hb1); obtain ⟨hc1, hf1⟩ := bcell hb1; have hz1 := hb1.size; have hz2 : w.heap.size + 1 < w1.heap.size := (by simp at hz1; omega))
  | (go_at_call 110; refine (HM.out _).mono ?_; rintro e w2 ⟨rfl, hb2⟩; have HB2 := Lib.hid (bgo HB1.out hb2); have hc2 := (bcell hb2).1))
 have hcc : ∀ b o, b < w.heap.size + 2 → w2.cell? ⟨b, o, none⟩ = ((w.alloc (.cells #[.int .i64 id, .int .i64 i] 30)).alloc (.cells #[.int .i64 c.a, .int .i64 c.b, .int .i64 c.c, .int .u64 c.d, .int .i64 c.e, .int .i64 c.f, .int .i64 c.g, .int .i64 c.h] 33)).cell? ⟨b, o, none⟩ := fun b o hb => (hc2 b o (by omega)).trans (hc1 b o (by simp; omega))
 have x0 : w2.cell? ⟨w.heap.size, 0, none⟩ = some (.int .i64 id) := (hcc _ _ (by omega)).trans (by simp [go_sem])
 have x1 : w2.cell? ⟨w.heap.size, 1, none⟩ = some (.int .i64 i) := (hcc _ _ (by omega)).trans (by simp [go_sem])
 have y0 : w2.cell? ⟨w.heap.size + 1, 0, none⟩ = some (.int .i64 c.a) := (hcc _ _ (by omega)).trans (by simp [go_sem])
 have y1 : w2.cell? ⟨w.heap.size + 1, 1, none⟩ = some (.int .i64 c.b) := (hcc _ _ (by omega)).trans (by simp [go_sem])
 have y2 : w2.cell? ⟨w.heap.size + 1, 2, none⟩ = some (.int .i64 c.c) := (hcc _ _ (by omega)).trans (by simp [go_sem])
 have y3 : w2.cell? ⟨w.heap.size + 1, 3, none⟩ = some (.int .u64 c.d) := (hcc _ _ (by omega)).trans (by simp [go_sem])
 have y4 : w2.cell? ⟨w.heap.size + 1, 4, none⟩ = some (.int .i64 c.e) := (hcc _ _ (by omega)).trans (by simp [go_sem])
 have y5 : w2.cell? ⟨w.heap.size + 1, 5, none⟩ = some (.int .i64 c.f) := (hcc _ _ (by omega)).trans (by simp [go_sem])
 have y6 : w2.cell? ⟨w.heap.size + 1, 6, none⟩ = some (.int .i64 c.g) := (hcc _ _ (by omega)).trans (by simp [go_sem])
 have y7 : w2.cell? ⟨w.heap.size + 1, 7, none⟩ = some (.int .i64 c.h) := (hcc _ _ (by omega)).trans (by simp [go_sem])
 have d0 := (HB2.out.cell (p := ⟨rb, 0, none⟩) hrl).trans hC0
 have d1 := (HB2.out.cell (p := ⟨g, k * 2 + 1, none⟩) hgl).trans hv1
 have k0 := HC.out w2 HB2.out 0 _ rfl
 rw [Nat.add_zero] at k0
 have k1 := HC.out w2 HB2.out 1 _ rfl
 have k2 := HC.out w2 HB2.out 2 _ rfl
 have k3 := HC.out w2 HB2.out 3 _ rfl
 have k4 := HC.out w2 HB2.out 4 _ rfl
 have k5 := HC.out w2 HB2.out 5 _ rfl
 have k6 := HC.out w2 HB2.out 6 _ rfl
 have k7 := HC.out w2 HB2.out 7 _ rfl
 have f0 := HZ.out w2 HB2.out (i * 8)
 have f1 := HZ.out w2 HB2.out (i * 8 + 1)
 have f2 := HZ.out w2 HB2.out (i * 8 + 2)
 have f3 := HZ.out w2 HB2.out (i * 8 + 3)
 have f4 := HZ.out w2 HB2.out (i * 8 + 4)
 have f5 := HZ.out w2 HB2.out (i * 8 + 5)
 have f6 := HZ.out w2 HB2.out (i * 8 + 6)
 have f7 := HZ.out w2 HB2.out (i * 8 + 7)
 have HT1 := Lib.hid (HT.out w2.drew (HB2.out.trans (((Below.refl _ w2).drew).mono HB2.out.size)))
 clear hcc hc1 hc2 hf1
 go_still_tail 15, (by kernel_rfl)
 still_call (same_q HT1.out)
 repeat still_step
 refine wpStill_nil ?_
 change wpList _ _ _ _ _ w2.drew
 go_wp2
 go_ret
 have hs := HFN.out w2 HB2.out
 rw [setL_C] at hs
 exact ⟨rfl, hs⟩
end TabS
end
section
namespace TabS
theorem eqHd (x : Hd) (w : World) : (binOp .eql 46 (.agg x.L.toArray) (.agg x.L.toArray)).run Tryz.prog w = .ok (.bool true) w := by
 unfold Hd.L
 go_simp
theorem neq_of_eqlH (t : TypeId) (xs ys : Array Value) (w : World) (b : Bool) (hg : Tryz.prog.eqGuardType 10000 t = false) (h : (binOp .eql t (.agg xs) (.agg ys)).run Tryz.prog w = .ok (.bool b) w) : (binOp .neq t (.agg xs) (.agg ys)).run Tryz.prog w = .ok (.bool (!b)) w := by
 rw [run_eql_struct] at h
 rw [run_neq_struct]
 cases hr : (Op.equalIn 10000 t (.agg xs) (.agg ys)).run Tryz.prog w with
 | ok r w1 =>
  rw [hr] at h
  simp only [Result.andThen_ok] at h ⊢
  cases h
  rfl
 | halt c w1 =>
  rw [hr] at h
  cases h
theorem neHd (x : Hd) (w : World) : (binOp .neq 46 (.agg x.L.toArray) (.agg x.L.toArray)).run Tryz.prog w = .ok (.bool false) w := neq_of_eqlH _ _ _ w true (by kernel_rfl) (eqHd x w)
def HsAt (w : World) (g : Nat) (L : List Hd) : Prop := ∀ (i : Nat) (x : Hd), L[i]? = some x → w.rangeAt g (i * 10) x.L
theorem hs_get : ∀ (L : List Hd) (i j : Nat) (x : Hd) (u : Value), L[i]? = some x → x.L[j]? = some u → (hdsC L)[i * 10 + j]? = some u
 | [], i, j, x, u, hi, _ => by simp at hi
 | y :: L, 0, j, x, u, hi, hj => by
  simp at hi
  subst hi
  have e : hdsC (y :: L) = y.L ++ hdsC L := rfl
  have hl : y.L.length = 10 := rfl
  rw [e, List.getElem?_append_left (by have := (lgs hj).1; omega)]
  simpa using hj
 | y :: L, i + 1, j, x, u, hi, hj => by
  have e : hdsC (y :: L) = y.L ++ hdsC L := rfl
  have hl : y.L.length = 10 := rfl
  rw [e, List.getElem?_append_right (by omega), hl, show (i + 1) * 10 + j - 10 = i * 10 + j by omega]
  exact hs_get L i j x u (by simpa using hi) hj
theorem hs_of {w : World} {base : Nat} {r : Value} {L : List Hd} (h : w.ownsRow base 46 10 r L.length (hdsC L)) : ∃ ra rc, r = .slice ra L.length rc ∧ L.length ≤ rc ∧ ∀ i, i < L.length → ∃ g, ra = some ⟨g, 0, none⟩ ∧ base ≤ g ∧ g < w.heap.size ∧ HsAt w g L := by
 have hlt := h.lt
 have hcs := fun g hg => h.cells (g := g) hg
 rcases h.2 with ⟨rfl, h0⟩ | ⟨g, cap, cur, rfl, q1, q2, q3, q4, q5, q6⟩
 ·exact ⟨none, 0, by rw [h0], by omega, fun i hi => by omega⟩
 ·refine ⟨_, _, rfl, q3, fun _ _ => ⟨g, rfl, (hlt g rfl).1, (hlt g rfl).2, fun i x hi j u hj => ?_⟩⟩
  have := hcs g rfl _ _ (hs_get L i j x u hi hj)
  rwa [Addr.add_mid, Nat.zero_add] at this
theorem HsAt.kept {w w' : World} {g : Nat} {L : List Hd} (h : HsAt w g L) (e : w'.heap[g]? = w.heap[g]?) : HsAt w' g L := fun i x hi j u hj => (World.cell?_of_block e).trans (h i x hi j u hj)
theorem setCells_other (g : Nat) : ∀ (cs : List Value) (o : Nat) (w : World) (k : Nat), k ≠ g → (w.setCells g o cs).heap[k]? = w.heap[k]?
 | [], _, _, _, _ => rfl
 | u :: cs, o, w, k, h => by
  rw [World.setCells, setCells_other g cs (o + 1) _ k h]
  exact Go.heap_setCell_other _ _ _ _ h
theorem setCells_world (g : Nat) : ∀ (cs : List Value) (o : Nat) (w : World), (w.setCells g o cs).os = w.os ∧ (w.setCells g o cs).tape = w.tape ∧ (w.setCells g o cs).output = w.output ∧ (w.setCells g o cs).heap.size = w.heap.size
 | [], _, _ => ⟨rfl, rfl, rfl, rfl⟩
 | u :: cs, o, w => by
  obtain ⟨h1, h2, h3, h4⟩ := setCells_world g cs (o + 1) (w.setCell ⟨g, o, none⟩ u)
  exact ⟨h1, h2, h3, h4.trans (by simp)⟩
theorem run_load_hd {w : World} {b o : Nat} {x : Hd} (h : w.rangeAt b o x.L) : (loadVar 46 ⟨b, o, none⟩).run Tryz.prog w = .ok (.agg x.L.toArray) w :=
 run_loadVar_mid _ _ _ _ _ _ h Tryz.underlying46 rfl (by kernel_rfl)
theorem cell_drewT {w : World} {n : Nat} {a : Addr} {v : Value} (h : w.cell? a = some v) : (w.drewN n).cell? a = some v := by simpa using h
theorem range_drewT {w : World} {n b o : Nat} {cs : List Value} (h : w.rangeAt b o cs) : (w.drewN n).rangeAt b o cs := fun j v hj => cell_drewT (h j v hj)
def HsIs (w : World) (a : Option Addr) (L : List Hd) : Prop := ∀ i, i < L.length → ∃ g, a = some ⟨g, 0, none⟩ ∧ g < w.heap.size ∧ HsAt w g L
theorem hs_is {w : World} {base : Nat} {ra : Option Addr} {rc : Nat} {L : List Hd} (h : w.ownsRow base 46 10 (.slice ra L.length rc) L.length (hdsC L)) : HsIs w ra L := by
 obtain ⟨ra', rc', e, hrc, hra⟩ := hs_of h
 cases e
 exact fun i hi => by obtain ⟨g, h1, h2, h3, h4⟩ := hra i hi; exact ⟨g, h1, h3, h4⟩
theorem HsIs.call {w w' : World} {a : Option Addr} {L : List Hd} (h : HsIs w a L) (hb : Below w.heap.size w w') : HsIs w' a L := fun i hi => by
 obtain ⟨g, h1, h2, h3⟩ := h i hi
 exact ⟨g, h1, Nat.lt_of_lt_of_le h2 hb.size, h3.kept (hb.block g h2)⟩
theorem grown_setCells (w : World) (g o : Nat) (cs : List Value) : w.grownBy (w.setCells g o cs) (some g) := by
 obtain ⟨h1, h2, h3, h4⟩ := setCells_world g cs o w
 exact ⟨h1, h2, h3, Nat.le_of_eq h4.symm, fun k _ hk => setCells_other g cs o w k (fun e => hk (by rw [e]))⟩
theorem setCells_block {g : Nat} {t : TypeId} : ∀ (vs : List Value) (o : Nat) (w : World) (cs : Array Value), w.heap[g]? = some (.cells cs t (0, 0)) → ∃ cs', (w.setCells g o vs).heap[g]? = some (.cells cs' t (0, 0)) ∧ cs'.size = cs.size
 | [], _, _, cs, h => ⟨cs, h, rfl⟩
 | v :: vs, o, w, cs, h => by
  obtain ⟨cs', h1, h2⟩ := setCells_block vs (o + 1) (w.setCell ⟨g, o, none⟩ v) (cs.setIfInBounds o v) (Go.heap_setCell_same _ _ _ _ _ _ h)
  exact ⟨cs', h1, by simpa using h2⟩
theorem news_at (wr W : World) (cs : List Value) (t : TypeId) (h : W.heap = (wr.alloc (.cells cs.toArray t)).heap) : ∀ j u, cs[j]? = some u → W.cell? ((⟨wr.heap.size, 0, none⟩ : Addr).add j) = some u := by
 intro j u hj
 rw [Addr.add_mid, Nat.zero_add]
 have hb : W.heap[wr.heap.size]? = some (.cells cs.toArray t (0, 0)) := by rw [h]; exact World.alloc_heap_new _ _
 simp [World.cell?, hb, hj]
def overT : Hd := ⟨-9, 0, zC⟩
theorem over_hs (w : World) (v : Value) (n : Nat) (xs : List Value) (base : Nat) (h : w.ownsRow base 46 10 v n xs) (hl : n ≤ 1000000) :
  Calls Tryz.prog 53 #[v] w fun e w' => (∃ u, e = .returned u) ∧ w.grownBy w' v.ownBlock := by
 obtain ⟨i0, hi0, hz0, hz1, hz2⟩ := info_parts infoHd
 have HI0 := Lib.hid hi0
 clear hi0
 have hbs := h.1
 rcases h.2 with ⟨rfl, h0⟩ | ⟨g, cap, cur, rfl, hg, hb, hn, hcap, hs, _⟩
 ·rw [h0] at *
  go_enter Tryz.func53, Tryz.ntmps53
  go_wp2
  refine wp_loop_rounds 1 ?_
  rw [rounds_succ]
  go_wp2_with (at_builtin; refine wpList_append_own _ rfl _ _ 39 rfl 0 46 i0 (.agg #[.int .i64 0, .int .i64 0, .int .i64 0, .int .i64 0, .int .i64 0, .int .u64 0, .int .i64 0, .int .i64 0, .int .i64 0, .int .i64 0]) 10 80 Tryz.underlying39 HI0.out hz0 hz1 hz2 rfl (by decide) _ _ _ rfl ((World.ownsRow_nil w 0 46 10).alloc _) ⟨w.heap.size, 0, none⟩ 1 1 overT.L rfl rfl (news_at w _ overT.L _ rfl) (hd_one _) (by unfold maxLen; omega) (by omega) (by omega) ?_; intro v' w1 hown' hgrow _)
  go_end0
  exact ⟨⟨_, rfl⟩, grown_trans (World.grownBy_alloc w _ _) hgrow⟩
 ·go_enter Tryz.func53, Tryz.ntmps53
  go_wp2
  go_loopw [2] (fun i wr => ∃ (k : Nat) (cs : Array Value), k ≤ n ∧ i = .int .i64 k ∧ wr.heap[g]? = some (.cells cs 46 (0, 0)) ∧ cs.size = cap * 10 ∧ w.grownBy wr (some g)) (fun i _ => n - (intOf i).toNat)
  case atStart => exact ⟨0, cur, by omega, rfl, hb, by omega, ⟨rfl, rfl, rfl, Nat.le_refl _, fun _ _ _ => rfl⟩⟩
  case round =>
   obtain ⟨k, cs, hk, rfl, hB, hcs, hgr⟩ := hrel
   clear hb
   by_cases hlt : k < n
   ·have hth : wr.there g (k * 10) 10 := fun j hj => by
     refine ⟨?_, Go.frozen_of_row _ _ _ _ _ hB⟩
     unfold World.cell?
     simp only [hB]
     rw [Array.getElem?_eq_getElem (by omega)]
     rfl
    have HTH := Lib.hid hth
    have HB := Lib.hid hB
    obtain ⟨cs', q1, q2⟩ := setCells_block [.int .i64 (-9), .int .i64 0, .int .i64 0, .int .i64 0, .int .i64 0, .int .u64 0, .int .i64 0, .int .i64 0, .int .i64 0, .int .i64 0] (k * 10) wr cs hB
    have GQ := Lib.hid (grown_trans hgr (grown_setCells wr g (k * 10) [.int .i64 (-9), .int .i64 0, .int .i64 0, .int .i64 0, .int .i64 0, .int .u64 0, .int .i64 0, .int .i64 0, .int .i64 0, .int .i64 0]))
    have Q1 := Lib.hid q1
    have hcs' : cs'.size = cap * 10 := by omega
    clear hB hth hgr q1 q2 HB
    have hltI : (k : Int) < n := by omega
    go_wp2_with (refine wpList_store_mid rfl 46 _ _ rfl g (k * 10) _ rfl rfl ?ga ?gb ?gc ?gd; (case ga => exact HTH.out); (case gb => kernel_rfl); (case gc => decide +kernel))
    go_roundw
    case rel => exact ⟨k + 1, cs', by omega, by go_num, Q1.out, hcs', GQ.out⟩
    case measure => first | (simp [intOf]; done) | (simp [intOf]; omega)
   ·obtain rfl : k = n := by omega
    have hown : wr.ownsRow 0 46 10 (.slice (some ⟨g, 0, none⟩) k cap) k (cs.toList.take (k * 10)) := ⟨by simp; omega, .inr ⟨g, cap, cs, rfl, Nat.zero_le _, hB, hn, hcap, by omega, rfl⟩⟩
    go_wp2_with (at_builtin; refine wpList_append_own _ rfl _ _ 39 rfl 0 46 i0 (.agg #[.int .i64 0, .int .i64 0, .int .i64 0, .int .i64 0, .int .i64 0, .int .u64 0, .int .i64 0, .int .i64 0, .int .i64 0, .int .i64 0]) 10 80 Tryz.underlying39 HI0.out hz0 hz1 hz2 rfl (by decide) _ _ _ rfl (hown.alloc _) ⟨wr.heap.size, 0, none⟩ 1 1 overT.L rfl rfl (news_at wr _ overT.L _ rfl) (hd_one _) (by unfold maxLen; omega) (by omega) (by omega) ?_; intro v' w1 hown' hgrow _)
    go_end0
    exact ⟨⟨_, rfl⟩, grown_trans (grown_trans hgr (World.grownBy_alloc wr _ _)) hgrow⟩
attribute [local go_sem ↓] neHd
attribute [-go_sem] loadVar
theorem same_hs (w : World) (a b : Option Addr) (c d : Nat) (L : List Hd) (h1 : HsIs w a L) (h2 : HsIs w b L) (hn : L.length < 1000000) :
  Calls Tryz.prog 18 #[.slice a L.length c, .slice b L.length d] w fun e w' => e = .returned (.bool true) ∧ ∃ j, w' = w.drewN j := by
 have H1 := Lib.hid h1
 have H2 := Lib.hid h2
 clear h1 h2
 obtain ⟨N, hN⟩ : ∃ N, N = L.length := ⟨_, rfl⟩
 rw [← hN] at hn ⊢
 have HN := Lib.hid hN
 clear hN
 go_enter Tryz.func18, Tryz.ntmps18
 go_wp2
 go_loopw [5] (fun i wr => ∃ k : Nat, k ≤ N ∧ i = .int .i64 k ∧ (∃ j, wr = w.drewN j)) (fun i _ => N - (intOf i).toNat)
 case atStart => exact ⟨0, by omega, rfl, ⟨0, rfl⟩⟩
 case round =>
  obtain ⟨k, hk, rfl, ⟨j, rfl⟩⟩ := hrel
  by_cases hlt : k < N
  ·have hlt' : (k : Int) < N := by omega
   obtain ⟨g, rfl, _, hg⟩ := H1.out k (by have := HN.out; omega)
   obtain ⟨q, rfl, _, hq⟩ := H2.out k (by have := HN.out; omega)
   obtain ⟨y, hy⟩ : ∃ y, L[k]? = some y := ⟨L[k]'(by have := HN.out; omega), List.getElem?_eq_getElem _⟩
   have r1 : ∀ n, (loadVar 46 ⟨g, k * 10, none⟩).run Tryz.prog (w.drewN n) = .ok (.agg y.L.toArray) (w.drewN n) := fun n => run_load_hd (range_drewT (hg k y hy))
   have r2 : ∀ n, (loadVar 46 ⟨q, k * 10, none⟩).run Tryz.prog (w.drewN n) = .ok (.agg y.L.toArray) (w.drewN n) := fun n => run_load_hd (range_drewT (hq k y hy))
   have r3 : ∀ m n, (loadVar 46 ⟨g, k * 10, none⟩).run Tryz.prog ((w.drewN m).drewN n) = .ok (.agg y.L.toArray) ((w.drewN m).drewN n) := fun m n => run_load_hd (range_drewT (range_drewT (hg k y hy)))
   have r4 : ∀ m n, (loadVar 46 ⟨q, k * 10, none⟩).run Tryz.prog ((w.drewN m).drewN n) = .ok (.agg y.L.toArray) ((w.drewN m).drewN n) := fun m n => run_load_hd (range_drewT (range_drewT (hq k y hy)))
   clear hg hq hy
   go_wp2
   go_quiet (fail)
   go_wp2
   go_roundw
   case rel => exact ⟨k + 1, by omega, by go_num, ⟨_, rfl⟩⟩
   case measure => simp [intOf]; omega
  ·obtain rfl : k = N := by omega
   go_wp2
   go_ret
   exact ⟨rfl, _, rfl⟩
end TabS
end
section
attribute [-go_sem] Builtin.append_
namespace TabS
theorem own_weak {w : World} {B B' s n : Nat} {e : TypeId} {v : Value} {xs : List Value} (h : w.ownsRow B e s v n xs) (hB : B' ≤ B) : w.ownsRow B' e s v n xs := by
 refine ⟨h.1, ?_⟩
 rcases h.2 with h2 | ⟨g, cap, cur, rfl, q1, q2⟩
 ·exact .inl h2
 ·exact .inr ⟨g, cap, cur, rfl, Nat.le_trans hB q1, q2⟩
theorem own_slice {w : World} {B s n : Nat} {e : TypeId} {v : Value} {xs : List Value} (h : w.ownsRow B e s v n xs) : ∃ a k c, v = .slice a k c := by
 rcases h.2 with ⟨rfl, _⟩ | ⟨g, cap, cur, rfl, _⟩
 ·exact ⟨_, _, _, rfl⟩
 ·exact ⟨_, _, _, rfl⟩
def onesC (L : List Sn) : List Value := L.flatMap fun x => [.int .i64 x.id, x.v]
theorem ones_flat : ∀ (L : List Sn), flat (rowsS L) = onesC L
 | [] => rfl
 | x :: t => by
  show rcells (rowS x) ++ flat (rowsS t) = [.int .i64 x.id, x.v] ++ onesC t
  rw [ones_flat t]
  rfl
theorem ones_one {L : List Sn} : ∀ u ∈ onesC L, u.oneCell' = true := by
 intro u hu
 unfold onesC at hu
 obtain ⟨x, hx, hux⟩ := List.mem_flatMap.1 hu
 simp at hux
 rcases hux with rfl | rfl <;> rfl
theorem ones_len : ∀ (L : List Sn), (onesC L).length = L.length * 2
 | [] => rfl
 | x :: L => by
  have e : onesC (x :: L) = [.int .i64 x.id, x.v] ++ onesC L := rfl
  rw [e, List.length_append, ones_len L, List.length_cons]
  simp
  omega
theorem ones_app (A B : List Sn) : onesC (A ++ B) = onesC A ++ onesC B := by simp [onesC]
theorem ones_pre {L : List Sn} {p : Nat} (hp : p ≤ L.length) {j : Nat} {u : Value} (h : (onesC (L.take p))[j]? = some u) : (onesC L)[j]? = some u := by
 have e : onesC L = onesC (L.take p) ++ onesC (L.drop p) := by rw [← ones_app, List.take_append_drop]
 rw [e, List.getElem?_append_left (lgs h).1]
 exact h
theorem ones_suf {L : List Sn} {p : Nat} (hp : p ≤ L.length) {j : Nat} {u : Value} (h : (onesC (L.drop p))[j]? = some u) : (onesC L)[p * 2 + j]? = some u := by
 have e : onesC L = onesC (L.take p) ++ onesC (L.drop p) := by rw [← ones_app, List.take_append_drop]
 have hl : (onesC (L.take p)).length = p * 2 := by rw [ones_len, List.length_take, Nat.min_eq_left hp]
 rw [e, List.getElem?_append_right (by omega), hl, Nat.add_sub_cancel_left]
 exact h
theorem row_cellsO {w : World} {base : Nat} {g c n : Nat} {xs : List Value} (h : w.ownsRow base 110 2 (.slice (some ⟨g, 0, none⟩) n c) n xs) {j : Nat} {u : Value} (hj : xs[j]? = some u) : w.cell? ⟨g, j, none⟩ = some u := by
 have := h.cells (g := g) rfl _ _ hj
 rwa [Addr.add_mid, Nat.zero_add] at this
theorem infoOne : (Tryz.prog.info? 110).map (fun i => (i.zero, i.size, i.bytes)) = some (some (.agg #[.int .i64 0, .slice none 0 0]), 2, 32) := by kernel_rfl
theorem RefS.store {w w2 : World} {rb base : Nat} {v u : Value} {L L' : List Sn} (h : RefS w rb base v L) (hb : Below w.heap.size w w2) (ho : w2.ownsRow w.heap.size 110 2 u L'.length (onesC L'))
  (hc : ∀ x ∈ L', x ∈ L ∨ (w2.heap[x.g]? = some (.cells (flatC x.l).toArray 33 (0, 0)) ∧ w.heap.size ≤ x.g ∧ x.l.length ≤ 16 ∧ u.ownBlock ≠ some x.g)) (hp : L'.Pairwise fun x y => x.g ≠ y.g) :
  RefS (w2.setCell ⟨rb, 0, none⟩ u) rb base u L' ∧ OnlyS w (w2.setCell ⟨rb, 0, none⟩ u) rb v u L L' := by
 have hlt := h.lt
 have hbs := h.bs
 have hk := (hb.block rb (by omega)).trans h.blk
 have hn : u.ownBlock ≠ some rb := fun e => by have := (ho.lt rb e).1; omega
 have hsz := hb.size
 refine ⟨⟨Go.heap_setCell_same _ _ _ _ _ _ hk, by rw [ones_flat]; exact own_weak (ownsRow_setCell_other ho hn u) hbs, hlt, by simpa using Nat.le_trans hbs hb.size, fun x hx => ?_, hp, fun x hx e => ?_, fun x hx => ?_⟩, ⟨hb.os, hb.tape, hb.output, by simpa using hb.size, fun k hk' h1 h2 _ => ?_, fun k hk' e => ?_⟩⟩
 ·rcases hc x hx with q | ⟨q1, q2, _⟩
  ·have := h.cb x q
   exact ⟨(Go.heap_setCell_other _ _ _ _ (by simp; omega)).trans ((hb.block x.g (h.glt q)).trans this.1), this.2⟩
  ·exact ⟨(Go.heap_setCell_other _ _ _ _ (by simp; omega)).trans q1, by omega⟩
 ·rcases hc x hx with q | ⟨_, _, _, q4⟩
  ·have := (ho.lt _ e).1
   have := h.glt q
   omega
  ·exact q4 e
 ·rcases hc x hx with q | ⟨_, _, q3, _⟩
  ·exact h.bd x q
  ·exact q3
 ·exact (Go.heap_setCell_other _ _ _ _ h1).trans (hb.block k hk')
 ·rcases e with e | ⟨x, hx, e⟩
  ·have := (ho.lt k e).1; omega
  ·rcases hc x hx with q | ⟨_, q2, _⟩
   ·exact .inr ⟨x, q, e⟩
   ·omega
theorem heldL_nil {id : Int} : ∀ {l : List Cp} {o : Nat}, (heldL id o l).length = 0 ↔ ∀ c ∈ l, c.a = 0
 | [], o => by simp [heldL]
 | c :: t, o => by
  unfold heldL
  by_cases h : c.a = 0
  ·rw [if_pos h, heldL_nil]
   simp [h]
  ·rw [if_neg h]
   simp [h]
theorem rdrop_no (w : World) (rb base : Nat) (v : Value) (R : List Sn) (id : Int) (h : RefS w rb base v R) (hl : R.length < 1000000) (hn : ∀ x ∈ R, x.id ≠ id) :
  Calls Tryz.prog 46 #[.pointer (some ⟨rb, 0, none⟩), .int .i64 id] w fun e w' => e = .returned (.int .i64 2) ∧ w = w' := by
 have HA := Lib.hid (rat_no w rb base v R id h hl hn)
 clear h hn
 go_enter Tryz.func46, Tryz.ntmps46
 go_wp2_with (go_at_call 78; refine HA.out.mono ?_; rintro e w1 ⟨rfl, rfl⟩)
 go_ret
 exact ⟨rfl, rfl⟩
theorem rdrop_busy (w : World) (rb base : Nat) (v : Value) (R : List Sn) (id : Int) (k : Nat) (x : Sn) (h : RefS w rb base v R) (hl : R.length < 1000000) (hF : FirstS R id k x) (hb : (heldL id 0 x.l).length ≠ 0) :
  Calls Tryz.prog 46 #[.pointer (some ⟨rb, 0, none⟩), .int .i64 id] w fun e w' => e = .returned (.int .i64 16) ∧ w = w' := by
 have HA := Lib.hid (rat_yes w rb base v R id k x h hl hF)
 have hmem := List.mem_of_getElem? hF.1
 have hkR := (lgs hF.1).1
 have hkI : (k : Int) < R.length := by omega
 have h16 := h.bd x hmem
 have HC := Lib.hid (fun (t : Nat) (c : Cp) (ht : x.l[t]? = some c) => h.cell hmem ht (j := 0) rfl)
 have HB := Lib.hid (fun (hz : ∀ (t : Nat) (c : Cp), x.l[t]? = some c → c.a = 0) => hb (heldL_nil.2 (fun c hc => by obtain ⟨t, ht⟩ := List.getElem?_of_mem hc; exact hz t c ht)))
 obtain ⟨g, rc, rfl, hgl, hv1⟩ := h.slot hF
 have hC0 := h.c0
 obtain ⟨gx, hgx⟩ : ∃ y, y = x.g := ⟨_, rfl⟩
 obtain ⟨n, hn⟩ : ∃ y, y = x.l.length := ⟨_, rfl⟩
 rw [show x.v = .slice (some ⟨gx, 0, none⟩) n n by rw [hgx, hn]] at hv1
 rw [← hgx] at HC
 rw [← hn] at h16
 have HN := Lib.hid hn
 clear h hF hgx hn hmem hb
 go_enter Tryz.func46, Tryz.ntmps46
 go_wp2_with (go_at_call 78; refine HA.out.mono ?_; rintro e w1 ⟨rfl, rfl⟩)
 go_loopw [6] (fun i wr => ∃ t : Nat, t ≤ n ∧ i = .int .i64 t ∧ Hid (∀ (j : Nat) (c : Cp), j < t → x.l[j]? = some c → c.a = 0) ∧ w = wr) (fun i _ => n - (intOf i).toNat)
 case atStart => exact ⟨0, Nat.zero_le _, rfl, Lib.hid (fun j c h => by omega), rfl⟩
 case round =>
  obtain ⟨t, ht, rfl, HI, rfl⟩ := hrel
  by_cases htL : t < n
  ·have htI : (t : Int) < n := by omega
   obtain ⟨c, hc⟩ : ∃ c, x.l[t]? = some c := ⟨_, List.getElem?_eq_getElem (by have := HN.out; omega)⟩
   have z0 := HC.out t c hc
   rw [Nat.add_zero] at z0
   have HCC := Lib.hid hc
   clear hc
   obtain ⟨ca, hca⟩ : ∃ y, y = c.a := ⟨_, rfl⟩
   rw [← hca] at z0
   by_cases ha : ca = 0
   ·subst ha
    have HZ := Lib.hid hca
    clear hca
    go_wp2
    go_roundw
    case rel => exact ⟨t + 1, by omega, by go_num, Lib.hid (fun j d hj hd => by
     rcases Nat.lt_or_ge j t with q | q
     ·exact HI.out j d q hd
     ·obtain rfl : j = t := by omega
      rw [HCC.out] at hd
      cases hd
      exact HZ.out.symm), trivial⟩
    case measure => first | (simp [intOf]; done) | (simp [intOf]; omega)
   ·clear hca
    go_wp2
    go_ret
    exact ⟨rfl, rfl⟩
  ·obtain rfl : t = n := by omega
   exact (HB.out (fun j c hj => HI.out j c (by have := (lgs hj).1; have := HN.out; omega) hj)).elim
theorem rdrop_ok (w : World) (rb base : Nat) (v : Value) (R : List Sn) (id : Int) (p : Nat) (x : Sn) (h : RefS w rb base v R) (hl : R.length < 1000000) (hF : FirstS R id p x) (hb : (heldL id 0 x.l).length = 0) :
  Calls Tryz.prog 46 #[.pointer (some ⟨rb, 0, none⟩), .int .i64 id] w fun e w' => e = .returned (.int .i64 0) ∧ ∃ u, RefS w' rb base u (R.take p ++ R.drop (p + 1)) ∧ OnlyS w w' rb v u R (R.take p ++ R.drop (p + 1)) := by
 obtain ⟨i0, hi0, hz0, hz1, hz2⟩ := info_parts infoOne
 have HI0 := Lib.hid hi0
 clear hi0
 have HA := Lib.hid (rat_yes w rb base v R id p x h hl hF)
 have hmem := List.mem_of_getElem? hF.1
 have hpL := (lgs hF.1).1
 have h16 := h.bd x hmem
 have HC := Lib.hid (fun (t : Nat) (c : Cp) (ht : x.l[t]? = some c) => h.cell hmem ht (j := 0) rfl)
 have HB := Lib.hid (fun (t : Nat) (c : Cp) (ht : x.l[t]? = some c) => heldL_nil.1 hb c (List.mem_of_getElem? ht))
 obtain ⟨g, rc, rfl, hgl, hv1⟩ := h.slot hF
 have hrow := h.row
 rw [ones_flat] at hrow
 have hrc : R.length ≤ rc ∧ rc ≤ maxLen := by
  rcases hrow.2 with ⟨q, _⟩ | ⟨g', cap, cur, q, _, _, q3, q4, _⟩
  ·cases q
  ·cases q; exact ⟨q3, q4⟩
 obtain ⟨hrl, hcm⟩ := hrc
 obtain ⟨gx, hgx⟩ : ∃ y, y = x.g := ⟨_, rfl⟩
 obtain ⟨n, hn⟩ : ∃ y, y = x.l.length := ⟨_, rfl⟩
 rw [show x.v = .slice (some ⟨gx, 0, none⟩) n n by rw [hgx, hn]] at hv1
 rw [← hgx] at HC
 rw [← hn] at h16
 have HN := Lib.hid hn
 clear hgx hn hmem hb
 obtain ⟨u1, w1, hrun1, hown1, hgr1, _⟩ := run_append_own_at (P := Tryz.prog) (w := w.drew) w.heap.size 105 105 110 i0 (.agg #[.int .i64 0, .slice none 0 0]) 2 32 Tryz.underlying105 HI0.out hz0 hz1 hz2 rfl (by decide) (.slice none 0 0) 0 [] (World.ownsRow_nil _ _ _ _) ⟨g, 0, none⟩ p rc (onesC (R.take p)) (by rw [ones_len, List.length_take]; omega) (fun j u hj => by rw [Addr.add_mid, Nat.zero_add]; exact row_cellsO hrow (ones_pre (by omega) hj)) ones_one (by unfold maxLen; omega) (by omega) (Nat.le_refl _)
 have hb1 : Below w.heap.size w w1 := (Below.refl _ w).drew.grown hgr1 (Nat.le_refl _) (fun k e => by cases e)
 have hrow1 := (h.call hb1).row
 rw [ones_flat] at hrow1
 have c1 := h.c0
 have c2 := (h.call hb1).c0
 have f1 : w1.frozen? ⟨rb, 0, none⟩ = false := (h.call hb1).f0
 have hsuf : ∃ u w5, (Builtin.append_ #[105, 105] 105 #[u1, if rc = p + 1 then .slice (some ⟨g, 0, none⟩) (R.length - (p + 1)) 0 else .slice (some ⟨g, (p + 1) * 2, none⟩) (R.length - (p + 1)) (rc - (p + 1))]).run Tryz.prog w1 = .ok u w5 ∧ w5.ownsRow w.heap.size 110 2 u (0 + p + (R.length - (p + 1))) ([] ++ onesC (R.take p) ++ onesC (R.drop (p + 1))) ∧ w1.grownBy w5 u1.ownBlock := by
  split
  ·rename_i hcc
   have hl0 : R.length - (p + 1) = 0 := by omega
   have hdr : R.drop (p + 1) = [] := List.drop_eq_nil_iff.2 (by omega)
   rw [hl0, hdr]
   obtain ⟨u, w5, q1, q2, q3, _⟩ := run_append_own_at (P := Tryz.prog) (w := w1) w.heap.size 105 105 110 i0 (.agg #[.int .i64 0, .slice none 0 0]) 2 32 Tryz.underlying105 HI0.out hz0 hz1 hz2 rfl (by decide) u1 (0 + p) _ hown1 ⟨g, 0, none⟩ 0 0 (onesC []) rfl (fun j u hj => by simp [onesC] at hj) ones_one (by unfold maxLen; omega) (by omega) hb1.size
   exact ⟨u, w5, q1, q2, q3⟩
  ·obtain ⟨u, w5, q1, q2, q3, _⟩ := run_append_own_at (P := Tryz.prog) (w := w1) w.heap.size 105 105 110 i0 (.agg #[.int .i64 0, .slice none 0 0]) 2 32 Tryz.underlying105 HI0.out hz0 hz1 hz2 rfl (by decide) u1 (0 + p) _ hown1 ⟨g, (p + 1) * 2, none⟩ (R.length - (p + 1)) (rc - (p + 1)) (onesC (R.drop (p + 1))) (by rw [ones_len, List.length_drop]) (fun j u hj => by rw [Addr.add_mid]; exact row_cellsO hrow1 (ones_suf (by omega) hj)) ones_one (by unfold maxLen; omega) (by omega) hb1.size
   exact ⟨u, w5, q1, q2, q3⟩
 obtain ⟨u2, w2, hrun2, hown2, hgr2⟩ := hsuf
 have hb2 : Below w.heap.size w w2 := hb1.grown hgr2 hb1.size (fun k e => (hown1.lt k e).1)
 rw [List.nil_append, ← ones_app, show 0 + p + (R.length - (p + 1)) = (R.take p ++ R.drop (p + 1)).length by rw [List.length_append, List.length_take, List.length_drop]; omega] at hown2
 obtain ⟨ua, un, uc, rfl⟩ := own_slice hown2
 have hsub : (R.take p ++ R.drop (p + 1)).Sublist R := by
  conv => rhs; rw [← List.take_append_drop p R]
  refine List.Sublist.append (List.Sublist.refl _) ?_
  rw [← List.drop_drop]
  exact List.drop_sublist _ _
 have hst := h.store hb2 hown2 (fun y hy => .inl (hsub.subset hy)) (h.ap.sublist hsub)
 have HST := Lib.hid hst
 have c3 := (h.call hb2).c0
 have f2 : w2.frozen? ⟨rb, 0, none⟩ = false := (h.call hb2).f0
 have hpI : (p : Int) < R.length := by omega
 have hpI1 : (p : Int) + 1 ≤ R.length := by omega
 have hrI : (R.length : Int) ≤ rc := by omega
 have hr0 : ¬ rc = 0 := by omega
 have hw1 : IntKind.i64.wrap ((p : Int) + 1) = (p : Int) + 1 := IntWalk.i64_in _ (by omega)
 have ht1 : ((p : Int) + 1).toNat = p + 1 := by omega
 have hp0 : (0 : Int) ≤ (p : Int) + 1 := by omega
 clear h hF hrow hrow1 hown1 hgr1 hb1 hown2 hgr2 hb2 hst hsub
 by_cases hcc : rc = p + 1
 ·rw [if_pos hcc] at hrun2
  subst hcc
  rw [show R.length - (p + 1) = 0 by omega] at hrun2
  have hpp : (p : Int) ≤ (p : Int) + 1 := by omega
  go_enter Tryz.func46, Tryz.ntmps46
  go_wp2_with (go_at_call 78; refine HA.out.mono ?_; rintro e w1 ⟨rfl, rfl⟩)
  go_loopw [6] (fun i wr => ∃ t : Nat, t ≤ n ∧ i = .int .i64 t ∧ w = wr) (fun i _ => n - (intOf i).toNat)
  case atStart => exact ⟨0, Nat.zero_le _, rfl, rfl⟩
  case round =>
   obtain ⟨t, ht, rfl, rfl⟩ := hrel
   by_cases htL : t < n
   ·have htI : (t : Int) < n := by omega
    obtain ⟨c, hc⟩ : ∃ c, x.l[t]? = some c := ⟨_, List.getElem?_eq_getElem (by have := HN.out; omega)⟩
    have z0 := HC.out t c hc
    rw [Nat.add_zero, HB.out t c hc] at z0
    clear hc
    go_wp2
    go_roundw
    case rel => exact ⟨t + 1, by omega, by go_num, trivial⟩
    case measure => first | (simp [intOf]; done) | (simp [intOf]; omega)
   ·obtain rfl : t = n := by omega
    go_upto_region 9 with fail
    go_region
    all_goals go_wp2
    all_goals go_ret
    all_goals exact ⟨rfl, _, HST.out.1, HST.out.2⟩
 ·rw [if_neg hcc] at hrun2
  go_enter Tryz.func46, Tryz.ntmps46
  go_wp2_with (go_at_call 78; refine HA.out.mono ?_; rintro e w1 ⟨rfl, rfl⟩)
  go_loopw [6] (fun i wr => ∃ t : Nat, t ≤ n ∧ i = .int .i64 t ∧ w = wr) (fun i _ => n - (intOf i).toNat)
  case atStart => exact ⟨0, Nat.zero_le _, rfl, rfl⟩
  case round =>
   obtain ⟨t, ht, rfl, rfl⟩ := hrel
   by_cases htL : t < n
   ·have htI : (t : Int) < n := by omega
    obtain ⟨c, hc⟩ : ∃ c, x.l[t]? = some c := ⟨_, List.getElem?_eq_getElem (by have := HN.out; omega)⟩
    have z0 := HC.out t c hc
    rw [Nat.add_zero, HB.out t c hc] at z0
    clear hc
    go_wp2
    go_roundw
    case rel => exact ⟨t + 1, by omega, by go_num, trivial⟩
    case measure => first | (simp [intOf]; done) | (simp [intOf]; omega)
   ·obtain rfl : t = n := by omega
    go_upto_region 9 with fail
    go_region
    all_goals go_wp2
    all_goals go_ret
    all_goals exact ⟨rfl, _, HST.out.1, HST.out.2⟩
end TabS
end
section
namespace TabS
def insP (L : List Sn) (p t : Nat) (x : Sn) : List Sn := if p < t then L.take p ++ x :: (L.drop p).take (t - p) else L.take t
theorem insP_before {L : List Sn} {p t : Nat} {x y : Sn} (h : t < p) (hy : L[t]? = some y) : insP L p (t + 1) x = insP L p t x ++ [y] := by
 unfold insP
 rw [if_neg (by omega), if_neg (by omega), List.take_add_one, hy]
 rfl
theorem insP_at {L : List Sn} {p : Nat} {x y z : Sn} (hy : L[p]? = some y) : insP L p (p + 1) x = (insP L p p z ++ [x]) ++ [y] := by
 unfold insP
 rw [if_pos (by omega), if_neg (by omega), show p + 1 - p = 0 + 1 by omega, List.take_add_one, List.getElem?_drop, Nat.add_zero, hy]
 simp
theorem insP_after {L : List Sn} {p t : Nat} {x y : Sn} (h : p < t) (hy : L[t]? = some y) : insP L p (t + 1) x = insP L p t x ++ [y] := by
 unfold insP
 rw [if_pos (by omega), if_pos h, show t + 1 - p = (t - p) + 1 by omega, List.take_add_one, List.getElem?_drop, show p + (t - p) = t by omega, hy]
 simp
theorem insP_len {L : List Sn} {p t : Nat} {x : Sn} (hp : p ≤ L.length) (ht : t ≤ L.length) : (insP L p t x).length ≤ L.length + 1 := by
 unfold insP
 split
 ·simp; omega
 ·simp; omega
theorem insP_end {L : List Sn} {p : Nat} {x : Sn} (hp : posS L x.id = p) (h : p < L.length) : insP L p L.length x = insS L x := by
 have e : (L.drop p).take (L.length - p) = L.drop p := List.take_of_length_le (by rw [List.length_drop]; omega)
 unfold insP insS
 rw [if_pos h, hp, e]
theorem insP_last {L : List Sn} {p : Nat} {x z : Sn} (hp : posS L x.id = p) (h : p = L.length) : insP L p L.length z ++ [x] = insS L x := by
 unfold insP insS
 rw [if_neg (by omega), hp, List.drop_eq_nil_iff.2 (by omega), h]
structure InsS (w wr : World) (l : Value) (M : List Sn) (q : Bool) (G n : Nat) : Prop where
 bl : Below w.heap.size w wr
 row : wr.ownsRow w.heap.size 110 2 l M.length (onesC M)
 nw : q = true → wr.heap[G]? = some (.cells (flatC (List.replicate n zC)).toArray 33 (0, 0)) ∧ w.heap.size ≤ G
theorem row_tyO {w : World} {B G n s : Nat} {l : Value} {xs : List Value} {cs : Array Value} (h : w.ownsRow B 110 s l n xs) (hG : w.heap[G]? = some (.cells cs 33 (0, 0))) : l.ownBlock ≠ some G := by
 intro e
 rcases h.2 with ⟨h1, _⟩ | ⟨g, cap, cur, h1, _, q2, _⟩
 ·rw [h1] at e; cases e
 ·rw [h1] at e
  have e2 : g = G := Option.some.inj e
  rw [e2, hG] at q2
  simp at q2
theorem InsS.app {w wr w8 : World} {l v' : Value} {M : List Sn} {y : Sn} {o : Obj} {q : Bool} {G n : Nat} (h : InsS w wr l M q G n) (hown : w8.ownsRow w.heap.size 110 2 v' (M.length + 1) (onesC M ++ [.int .i64 y.id, y.v])) (hg : (wr.alloc o).grownBy w8 l.ownBlock) : InsS w w8 v' (M ++ [y]) q G n := by
 have hal : Below w.heap.size w (wr.alloc o) := h.bl.trans ((bal (Below.refl _ wr) o).mono h.bl.size)
 refine ⟨hal.grown hg hal.size (fun k e => (h.row.lt k e).1), ?_, fun hq => ?_⟩
 ·rw [ones_app, show onesC [y] = [.int .i64 y.id, y.v] by simp [onesC], List.length_append]
  exact hown
 ·obtain ⟨n1, n2⟩ := h.nw hq
  have hGl : G < wr.heap.size := (ags n1).1
  exact ⟨(hg.block G (by simp; omega) (fun e => row_tyO h.row n1 e.symm)).trans ((Below.heap_alloc _ _ _ hGl).trans n1), n2⟩
theorem InsS.call {w wr w8 : World} {l : Value} {M : List Sn} {q : Bool} {G n : Nat} (h : InsS w wr l M q G n) (hb : Below wr.heap.size wr w8) : InsS w w8 l M q G n :=
 ⟨h.bl.trans (hb.mono h.bl.size), row_of_block h.row (fun g hg => hb.block g (h.row.lt g hg).2), fun hq => ⟨(hb.block G (ags (h.nw hq).1).1).trans (h.nw hq).1, (h.nw hq).2⟩⟩
theorem pos_first {L : List Sn} {id : Int} (hA : Asc (rowsS L)) (hn : ∀ x ∈ L, x.id ≠ id) : (∀ (t : Nat) (y : Sn), t < posS L id → L[t]? = some y → y.id < id) ∧ (∀ (t : Nat) (y : Sn), posS L id ≤ t → L[t]? = some y → id < y.id) := by
 obtain ⟨h1, h2⟩ := posR_facts (k := id) hA
 refine ⟨fun t y ht hy => h1 t (rowS y) ht (by rw [rowsS_get, hy]; rfl), fun t y ht hy => ?_⟩
 have a := h2 t (rowS y) ht (by rw [rowsS_get, hy]; rfl)
 have b := hn y (List.mem_of_getElem? hy)
 change id ≤ y.id at a
 omega
theorem radd_arg (w : World) (rb : Nat) (id n : Int) (hn : id < 1 ∨ n < 1 ∨ 16 < n) :
  Calls Tryz.prog 32 #[.pointer (some ⟨rb, 0, none⟩), .int .i64 id, .int .i64 n] w fun e w' => e = .returned (.int .i64 2) ∧ w = w' := by
 by_cases h1 : id < 1
 ·go_enter Tryz.func32, Tryz.ntmps32
  go_wp2
  go_ret
  exact ⟨rfl, rfl⟩
 ·by_cases h2 : n < 1
  ·go_enter Tryz.func32, Tryz.ntmps32
   go_wp2
   go_ret
   exact ⟨rfl, rfl⟩
  ·have h3 : 16 < n := by omega
   go_enter Tryz.func32, Tryz.ntmps32
   go_wp2
   go_ret
   exact ⟨rfl, rfl⟩
theorem radd_full (w : World) (rb base : Nat) (v : Value) (R : List Sn) (id : Int) (n k : Nat) (x : Sn) (h : RefS w rb base v R) (hl : R.length < 1000000) (h1 : 1 ≤ id) (h2 : 1 ≤ n) (h3 : n ≤ 16) (hF : FirstS R id k x) :
  Calls Tryz.prog 32 #[.pointer (some ⟨rb, 0, none⟩), .int .i64 id, .int .i64 n] w fun e w' => e = .returned (.int .i64 11) ∧ w = w' := by
 have HA := Lib.hid (rat_yes w rb base v R id k x h hl hF)
 have h2' : 1 ≤ (n : Int) := by omega
 have h3' : (n : Int) ≤ 16 := by omega
 clear h hF
 go_enter Tryz.func32, Tryz.ntmps32
 go_wp2_with (go_at_call 78; refine HA.out.mono ?_; rintro e w1 ⟨rfl, rfl⟩)
 go_ret
 exact ⟨rfl, rfl⟩
theorem radd_yes (w : World) (rb base : Nat) (v : Value) (L : List Sn) (id : Int) (n : Nat) (h : RefS w rb base v L) (hasc : Asc (rowsS L)) (hl : L.length < 1000000) (h1 : 1 ≤ id) (h2 : 1 ≤ n) (h3 : n ≤ 16) (hn : ∀ x ∈ L, x.id ≠ id) :
  Calls Tryz.prog 32 #[.pointer (some ⟨rb, 0, none⟩), .int .i64 id, .int .i64 n] w fun e w' => e = .returned (.int .i64 0) ∧ ∃ u G, w.heap.size ≤ G ∧ RefS w' rb base u (insS L ⟨id, G, List.replicate n zC⟩) ∧ OnlyS w w' rb v u L (insS L ⟨id, G, List.replicate n zC⟩) := by
 obtain ⟨i0, hi0, hz0, hz1, hz2⟩ := info_parts infoOne
 have HI0 := Lib.hid hi0
 clear hi0
 have H := Lib.hid h
 have HA := Lib.hid (rat_no w rb base v L id h hl hn)
 obtain ⟨p, hp⟩ : ∃ p, posS L id = p := ⟨_, rfl⟩
 have hple : p ≤ L.length := by have := posR_le (rowsS L) id; rw [rowsS_len] at this; rw [← hp]; exact this
 obtain ⟨hlo, hhi⟩ := pos_first hasc hn
 rw [hp] at hlo hhi
 have HLO := Lib.hid hlo
 have HHI := Lib.hid hhi
 have HP := Lib.hid hp
 have HPL := Lib.hid hple
 have h2' : 1 ≤ (n : Int) := by omega
 have h3' : (n : Int) ≤ 16 := by omega
 have H16 := Lib.hid h3
 have hc0 := h.c0
 obtain ⟨ra, rc, rfl, hrc, hra⟩ := h.form
 have HRA := Lib.hid hra
 have hrl : rb < w.heap.size := Nat.lt_of_lt_of_le h.lt h.bs
 have hrlI : (L.length : Int) ≤ rc := by omega
 have HFIN : Hid (∀ (wr : World) (lv : Value) (G : Nat), InsS w wr lv (insS L ⟨id, G, List.replicate n zC⟩) true G n → RefS (wr.setCell ⟨rb, 0, none⟩ lv) rb base lv (insS L ⟨id, G, List.replicate n zC⟩) ∧ OnlyS w (wr.setCell ⟨rb, 0, none⟩ lv) rb (.slice ra L.length rc) lv L (insS L ⟨id, G, List.replicate n zC⟩)) := Lib.hid (fun wr lv G hI => by
  obtain ⟨n1, n2⟩ := hI.nw rfl
  exact H.out.store hI.bl hI.row (fun y hy => (mem_insS hy).elim (fun e => .inr (by rw [e]; exact ⟨n1, n2, by simpa using H16.out, row_tyO hI.row n1⟩)) .inl) (pair_insS H.out.ap _ (fun y hy => Nat.ne_of_lt (Nat.lt_of_lt_of_le (H.out.glt hy) n2))))
 clear h hn hasc hp hple hlo hhi hra h2 h3 hrc
 go_enter Tryz.func32, Tryz.ntmps32
 go_wp2_with (go_at_call 78; refine HA.out.mono ?_; rintro e w1 ⟨rfl, rfl⟩)
 go_loopw [7, 8, 9] (fun l q i wr => ∃ (t : Nat) (lv : Value) (G : Nat), lv = l ∧ t ≤ L.length ∧ i = .int .i64 t ∧ q = .bool (decide (p < t)) ∧ Hid (InsS w wr lv (insP L p t ⟨id, G, List.replicate n zC⟩) (decide (p < t)) G n)) (fun _ _ i _ => L.length - (intOf i).toNat)
 case atStart => exact ⟨0, _, 0, rfl, Nat.zero_le _, rfl, by simp, Lib.hid ⟨Below.refl _ _, by rw [show insP L p 0 ⟨id, 0, List.replicate n zC⟩ = [] by unfold insP; rw [if_neg (by omega)]; rfl]; exact World.ownsRow_nil _ _ _ _, fun h => by simp at h⟩⟩
 case round =>
  obtain ⟨t, lv, G, rfl, ht, rfl, rfl, HI⟩ := hrel
  have HLM : Hid ((insP L p t ⟨id, G, List.replicate n zC⟩).length ≤ 1000000) := Lib.hid (by have := insP_len (x := ⟨id, G, List.replicate n zC⟩) HPL.out ht; omega)
  have c1 := (H.out.call HI.out.bl).c0
  by_cases htL : t < L.length
  ·have htI : (t : Int) < L.length := by omega
   have HTL := Lib.hid htL
   obtain ⟨g, rfl, _, hgl, hgr, hobs⟩ := HRA.out t htL
   obtain ⟨y, hy⟩ : ∃ y, L[t]? = some y := ⟨L[t]'htL, List.getElem?_eq_getElem _⟩
   have HY := Lib.hid hy
   have v0 := (HI.out.bl.cell (p := ⟨g, t * 2, none⟩) hgl).trans (hobs t y hy).1
   have v1 := (HI.out.bl.cell (p := ⟨g, t * 2 + 1, none⟩) hgl).trans (hobs t y hy).2
   have hws := HI.out.bl.size
   have hgl2 : g < wr.heap.size := by omega
   have hrl2 : rb < wr.heap.size := by omega
   obtain ⟨yg, hyg⟩ : ∃ z, z = y.g := ⟨_, rfl⟩
   obtain ⟨m, hm⟩ : ∃ z, z = y.l.length := ⟨_, rfl⟩
   have hyv : y.v = .slice (some ⟨yg, 0, none⟩) m m := by rw [hyg, hm]
   have HYV := Lib.hid hyv
   obtain ⟨yi, hyi⟩ : ∃ z, z = y.id := ⟨_, rfl⟩
   rw [← hyi] at v0
   rw [hyv] at v1
   have HYI := Lib.hid hyi
   clear hobs hyg hm hyv
   rcases Nat.lt_trichotomy t p with hc | hc | hc
   ·have hyl := HLO.out t y hc hy
    rw [← hyi] at hyl
    have hd : decide (id < yi) = false := decide_eq_false (by omega)
    have e1 : decide (p < t) = false := decide_eq_false (by omega)
    have n1 : decide (p < t + 1) = false := decide_eq_false (by omega)
    have HC := Lib.hid hc
    clear hy hc hyi
    rw [e1] at HI ⊢
    go_wp2_with (at_builtin; refine wpList_append_own _ rfl _ _ 105 rfl w.heap.size 110 i0 (.agg #[.int .i64 0, .slice none 0 0]) 2 32 Tryz.underlying105 HI0.out hz0 hz1 hz2 rfl (by decide) lv _ _ rfl (HI.out.row.alloc _) ⟨wr.heap.size, 0, none⟩ 1 1 [.int .i64 yi, .slice (some ⟨yg, 0, none⟩) m m] rfl rfl (news_at wr _ [.int .i64 yi, .slice (some ⟨yg, 0, none⟩) m m] _ rfl) (by intro u hu; simp at hu; rcases hu with rfl | rfl <;> rfl) (by have := HLM.out; unfold maxLen; omega) (by have := HLM.out; omega) (by have := HI.out.bl.size; simp; omega) ?_; intro v2 w8 hown' hgrow _; have HQ := Lib.hid (HI.out.app (y := y) (by rw [HYV.out, ← HYI.out]; exact hown') hgrow); clear hown' hgrow)
    go_roundw
    case rel => exact ⟨t + 1, _, G, rfl, by have := HTL.out; omega, by go_num, by rw [n1], Lib.hid (by rw [n1, insP_before HC.out HY.out]; exact HQ.out)⟩
    case measure => have := HTL.out; first | (simp [intOf]; done) | (simp [intOf]; omega)
   ·subst hc
    have hyl := HHI.out t y (Nat.le_refl _) hy
    rw [← hyi] at hyl
    have hd : decide (id < yi) = true := decide_eq_true hyl
    have e1 : decide (t < t) = false := decide_eq_false (by omega)
    have n1 : decide (t < t + 1) = true := decide_eq_true (by omega)
    clear hy hyi
    rw [e1] at HI ⊢
    obtain ⟨wm, hrun, hblk, hbm⟩ := make_caps wr n H16.out
    obtain ⟨nB, hnB⟩ : ∃ z, z = wr.heap.size := ⟨_, rfl⟩
    rw [← hnB] at hrun hblk
    have HM : Hid (InsS w wm lv (insP L t t ⟨id, G, List.replicate n zC⟩) true nB n) := Lib.hid ⟨(HI.out.call hbm).bl, (HI.out.call hbm).row, fun _ => ⟨hblk, by rw [hnB]; exact HI.out.bl.size⟩⟩
    have hsz := hbm.size
    clear hblk hbm hnB
    go_upto_region 12 with (at_builtin; refine wpList_append_own _ rfl _ _ 105 rfl w.heap.size 110 i0 (.agg #[.int .i64 0, .slice none 0 0]) 2 32 Tryz.underlying105 HI0.out hz0 hz1 hz2 rfl (by decide) lv _ _ rfl (HM.out.row.alloc _) ⟨wm.heap.size, 0, none⟩ 1 1 [.int .i64 id, .slice (some ⟨nB, 0, none⟩) n n] rfl rfl (news_at wm _ [.int .i64 id, .slice (some ⟨nB, 0, none⟩) n n] _ rfl) (by intro u hu; simp at hu; rcases hu with rfl | rfl <;> rfl) (by have := HLM.out; unfold maxLen; omega) (by have := HLM.out; omega) (by have := HM.out.bl.size; simp; omega) ?_; intro v2 w8 hown' hgrow _; have HQ := Lib.hid (HM.out.app (y := Sn.mk id nB (List.replicate n zC)) (by rw [show (Sn.mk id nB (List.replicate n zC)).v = .slice (some ⟨nB, 0, none⟩) n n by simp [Sn.v]]; exact hown') hgrow); clear hown' hgrow)
    have HLM2 : Hid ((insP L t t ⟨id, G, List.replicate n zC⟩ ++ [Sn.mk id nB (List.replicate n zC)]).length ≤ 1000001) := Lib.hid (by have := HLM.out; rw [List.length_append]; simp; omega)
    clear c1 v0 v1 hrun
    have c1 := (H.out.call HQ.out.bl).c0
    obtain ⟨g', eg, _, hgl', hgr', hobs⟩ := HRA.out t HTL.out
    cases eg
    have v0 := (HQ.out.bl.cell (p := ⟨g, t * 2, none⟩) hgl).trans (hobs t y HY.out).1
    have v1 := (HQ.out.bl.cell (p := ⟨g, t * 2 + 1, none⟩) hgl).trans (hobs t y HY.out).2
    rw [← HYI.out] at v0
    rw [HYV.out] at v1
    have hg8 : g < w8.heap.size := by have := HQ.out.bl.size; omega
    have hr8 : rb < w8.heap.size := by have := HQ.out.bl.size; omega
    clear hobs
    go_wp2_with (at_builtin; refine wpList_append_own _ rfl _ _ 105 rfl w.heap.size 110 i0 (.agg #[.int .i64 0, .slice none 0 0]) 2 32 Tryz.underlying105 HI0.out hz0 hz1 hz2 rfl (by decide) v2 _ _ rfl (HQ.out.row.alloc _) ⟨w8.heap.size, 0, none⟩ 1 1 [.int .i64 yi, .slice (some ⟨yg, 0, none⟩) m m] rfl rfl (news_at w8 _ [.int .i64 yi, .slice (some ⟨yg, 0, none⟩) m m] _ rfl) (by intro u hu; simp at hu; rcases hu with rfl | rfl <;> rfl) (by have := HLM2.out; unfold maxLen; omega) (by have := HLM2.out; omega) (by have := HQ.out.bl.size; simp; omega) ?_; intro v3 w9 hown' hgrow _; have HQ2 := Lib.hid (HQ.out.app (y := y) (by rw [HYV.out, ← HYI.out]; exact hown') hgrow); clear hown' hgrow)
    go_roundw
    case rel => exact ⟨t + 1, _, nB, rfl, by have := HTL.out; omega, by go_num, by rw [n1], Lib.hid (by rw [n1, insP_at (z := ⟨id, G, List.replicate n zC⟩) HY.out]; exact HQ2.out)⟩
    case measure => have := HTL.out; first | (simp [intOf]; done) | (simp [intOf]; omega)
   ·have e1 : decide (p < t) = true := decide_eq_true hc
    have n1 : decide (p < t + 1) = true := decide_eq_true (by omega)
    have HC := Lib.hid hc
    clear hy hc hyi
    rw [e1] at HI ⊢
    go_wp2_with (at_builtin; refine wpList_append_own _ rfl _ _ 105 rfl w.heap.size 110 i0 (.agg #[.int .i64 0, .slice none 0 0]) 2 32 Tryz.underlying105 HI0.out hz0 hz1 hz2 rfl (by decide) lv _ _ rfl (HI.out.row.alloc _) ⟨wr.heap.size, 0, none⟩ 1 1 [.int .i64 yi, .slice (some ⟨yg, 0, none⟩) m m] rfl rfl (news_at wr _ [.int .i64 yi, .slice (some ⟨yg, 0, none⟩) m m] _ rfl) (by intro u hu; simp at hu; rcases hu with rfl | rfl <;> rfl) (by have := HLM.out; unfold maxLen; omega) (by have := HLM.out; omega) (by have := HI.out.bl.size; simp; omega) ?_; intro v2 w8 hown' hgrow _; have HQ := Lib.hid (HI.out.app (y := y) (by rw [HYV.out, ← HYI.out]; exact hown') hgrow); clear hown' hgrow)
    go_roundw
    case rel => exact ⟨t + 1, _, G, rfl, by have := HTL.out; omega, by go_num, by rw [n1], Lib.hid (by rw [n1, insP_after HC.out HY.out]; exact HQ.out)⟩
    case measure => have := HTL.out; first | (simp [intOf]; done) | (simp [intOf]; omega)
  ·obtain rfl : t = L.length := by omega
   have f1 := (H.out.call HI.out.bl).f0
   have hws := HI.out.bl.size
   have hrl2 : rb < wr.heap.size := by omega
   by_cases hpl : p < L.length
   ·have e1 : decide (p < L.length) = true := decide_eq_true hpl
    have HI2 := HI.out
    rw [e1, insP_end (x := ⟨id, G, List.replicate n zC⟩) HP.out hpl] at HI2
    obtain ⟨ua, un, uc, rfl⟩ := own_slice HI2.row
    have HST := Lib.hid (HFIN.out wr _ G HI2)
    have HGG := Lib.hid (HI2.nw rfl).2
    clear HI2
    rw [e1]
    go_wp2
    go_ret
    exact ⟨rfl, _, G, HGG.out, HST.out⟩
   ·have e1 : decide (p < L.length) = false := decide_eq_false hpl
    have hpe : p = L.length := by have := HPL.out; omega
    have HPE := Lib.hid hpe
    clear hpe
    rw [e1] at HI ⊢
    obtain ⟨wm, hrun, hblk, hbm⟩ := make_caps wr n H16.out
    obtain ⟨nB, hnB⟩ : ∃ z, z = wr.heap.size := ⟨_, rfl⟩
    rw [← hnB] at hrun hblk
    have HM : Hid (InsS w wm lv (insP L p L.length ⟨id, G, List.replicate n zC⟩) true nB n) := Lib.hid ⟨(HI.out.call hbm).bl, (HI.out.call hbm).row, fun _ => ⟨hblk, by rw [hnB]; exact HI.out.bl.size⟩⟩
    have hsz := hbm.size
    clear hblk hbm hnB
    go_upto_region 16 with (at_builtin; refine wpList_append_own _ rfl _ _ 105 rfl w.heap.size 110 i0 (.agg #[.int .i64 0, .slice none 0 0]) 2 32 Tryz.underlying105 HI0.out hz0 hz1 hz2 rfl (by decide) lv _ _ rfl (HM.out.row.alloc _) ⟨wm.heap.size, 0, none⟩ 1 1 [.int .i64 id, .slice (some ⟨nB, 0, none⟩) n n] rfl rfl (news_at wm _ [.int .i64 id, .slice (some ⟨nB, 0, none⟩) n n] _ rfl) (by intro u hu; simp at hu; rcases hu with rfl | rfl <;> rfl) (by have := HLM.out; unfold maxLen; omega) (by have := HLM.out; omega) (by have := HM.out.bl.size; simp; omega) ?_; intro v2 w8 hown' hgrow _; have HQ := Lib.hid (HM.out.app (y := Sn.mk id nB (List.replicate n zC)) (by rw [show (Sn.mk id nB (List.replicate n zC)).v = .slice (some ⟨nB, 0, none⟩) n n by simp [Sn.v]]; exact hown') hgrow); clear hown' hgrow)
    have HI2 := HQ.out
    rw [insP_last (x := ⟨id, nB, List.replicate n zC⟩) HP.out HPE.out] at HI2
    obtain ⟨ua, un, uc, rfl⟩ := own_slice HI2.row
    have HST := Lib.hid (HFIN.out w8 _ nB HI2)
    have HGG := Lib.hid (HI2.nw rfl).2
    have hr8 : rb < w8.heap.size := by have := HQ.out.bl.size; omega
    clear c1 f1 hrun
    have c1 := (H.out.call HQ.out.bl).c0
    have f1 := (H.out.call HQ.out.bl).f0
    clear HI2
    go_wp2
    go_ret
    exact ⟨rfl, _, nB, HGG.out, HST.out⟩
end TabS
end
section
attribute [-go_sem] Builtin.append_
namespace TabS
theorem heldL_succ {id : Int} {l : List Cp} {k : Nat} {c : Cp} (h : l[k]? = some c) : heldL id 0 (l.take (k + 1)) = heldL id 0 (l.take k) ++ (if c.a = 0 then [] else [⟨id, k, c⟩]) := by
 have hk := (lgs h).1
 rw [List.take_add_one, h, Option.toList_some, heldL_append, List.length_take, Nat.min_eq_left (by omega), Nat.zero_add]
 by_cases e : c.a = 0
 ·simp [heldL, e]
 ·simp [heldL, e]
theorem heldA_succ {L : List Sn} {k : Nat} {x : Sn} (h : L[k]? = some x) : heldA (L.take (k + 1)) = heldA (L.take k) ++ heldL x.id 0 x.l := by
 rw [List.take_add_one, h, Option.toList_some, heldA_append]
 simp [heldA]
theorem hds_app (A B : List Hd) : hdsC (A ++ B) = hdsC A ++ hdsC B := by simp [hdsC]
structure UsS (w wr : World) (l : Value) (H : List Hd) : Prop where
 bl : Below w.heap.size w wr
 row : wr.ownsRow w.heap.size 46 10 l H.length (hdsC H)
theorem UsS.app {w wr w8 : World} {l v' : Value} {H : List Hd} {y : Hd} {o : Obj} (h : UsS w wr l H) (hown : w8.ownsRow w.heap.size 46 10 v' (H.length + 1) (hdsC H ++ y.L)) (hg : ((wr.alloc o).drew).grownBy w8 l.ownBlock) : UsS w w8 v' (H ++ [y]) := by
 have hal : Below w.heap.size w ((wr.alloc o).drew) := (h.bl.trans ((bal (Below.refl _ wr) o).mono h.bl.size)).drew
 refine ⟨hal.grown hg hal.size (fun k e => (h.row.lt k e).1), ?_⟩
 rw [hds_app, show hdsC [y] = y.L by simp [hdsC], List.length_append]
 exact hown
theorem rused_any (w : World) (rb base : Nat) (v : Value) (R : List Sn) (h : RefS w rb base v R) (hl : R.length < 1000000) :
  Calls Tryz.prog 48 #[.pointer (some ⟨rb, 0, none⟩)] w fun e w' => ∃ r, e = .returned r ∧ w'.ownsRow w.heap.size 46 10 r (heldA R).length (hdsC (heldA R)) ∧ Below w.heap.size w w' := by
 obtain ⟨i0, hi0, hz0, hz1, hz2⟩ := info_parts infoHd
 have HI0 := Lib.hid hi0
 clear hi0
 have H := Lib.hid h
 obtain ⟨ra, rc, rfl, hrc, hra⟩ := h.form
 have HRA := Lib.hid hra
 have hc0 := h.c0
 have hrl : rb < w.heap.size := Nat.lt_of_lt_of_le h.lt h.bs
 clear h hra
 go_enter Tryz.func48, Tryz.ntmps48
 go_wp2
 go_loopw [3, 4, 5] (fun l i k wr => ∃ (t : Nat) (lv : Value), lv = l ∧ t ≤ R.length ∧ i = .int .i64 t ∧ Hid (UsS w wr lv (heldA (R.take t)))) (fun _ i _ _ => R.length - (intOf i).toNat)
 case atStart => exact ⟨0, _, rfl, Nat.zero_le _, rfl, Lib.hid ⟨Below.refl _ _, World.ownsRow_nil _ _ _ _⟩⟩
 case round =>
  obtain ⟨t, lv, rfl, ht, rfl, HI⟩ := hrel
  have c1 := (H.out.call HI.out.bl).c0
  by_cases htL : t < R.length
  ·have htI : (t : Int) < R.length := by omega
   have HTL := Lib.hid htL
   obtain ⟨x, hx⟩ : ∃ x, R[t]? = some x := ⟨R[t]'htL, List.getElem?_eq_getElem _⟩
   have h16 := H.out.bd x (List.mem_of_getElem? hx)
   obtain ⟨g, rfl, _, hgl, hgr, hobs⟩ := HRA.out t htL
   have HX := Lib.hid hx
   obtain ⟨n, hn⟩ : ∃ z, z = x.l.length := ⟨_, rfl⟩
   obtain ⟨xg, hxg⟩ : ∃ z, z = x.g := ⟨_, rfl⟩
   obtain ⟨xi, hxi⟩ : ∃ z, z = x.id := ⟨_, rfl⟩
   have hxv : x.v = .slice (some ⟨xg, 0, none⟩) n n := by rw [hxg, hn]
   have HROW : Hid (∀ wA, Below w.heap.size w wA → wA.cell? ⟨g, t * 2, none⟩ = some (.int .i64 xi) ∧ wA.cell? ⟨g, t * 2 + 1, none⟩ = some (.slice (some ⟨xg, 0, none⟩) n n) ∧ wA.cell? ⟨rb, 0, none⟩ = some (.slice (some ⟨g, 0, none⟩) R.length rc)) := Lib.hid (fun wA hb => by
    have q := hobs t x hx
    rw [hxv, ← hxi] at q
    exact ⟨(hb.cell (p := ⟨g, t * 2, none⟩) hgl).trans q.1, (hb.cell (p := ⟨g, t * 2 + 1, none⟩) hgl).trans q.2, (H.out.call hb).c0⟩)
   have HCL : Hid (∀ wA, Below w.heap.size w wA → ∀ (j : Nat) (c : Cp), x.l[j]? = some c → ∀ (q : Nat) (u : Value), c.L[q]? = some u → wA.cell? ⟨xg, j * 8 + q, none⟩ = some u) := Lib.hid (fun wA hb j c hj q u hu => by rw [hxg]; exact (H.out.call hb).cell (List.mem_of_getElem? hx) hj hu)
   have HXI := Lib.hid hxi
   have HNN := Lib.hid hn
   rw [← hn] at h16
   have hbd : (heldA (R.take t)).length ≤ 16 * R.length := by
    have := heldA_len (R.take t) (fun y hy => H.out.bd y (List.mem_of_mem_take hy))
    rw [List.length_take] at this
    omega
   clear hobs hx hn hxg hxi hxv
   go_wp2
   go_loopw [3, 5] (fun l k wr => ∃ (j : Nat) (lv : Value), lv = l ∧ j ≤ n ∧ k = .int .i64 j ∧ Hid (UsS w wr lv (heldA (R.take t) ++ heldL xi 0 (x.l.take j)))) (fun _ k _ => n - (intOf k).toNat)
   case atStart => exact ⟨0, _, rfl, Nat.zero_le _, rfl, Lib.hid (by rw [List.take_zero, show heldL xi 0 [] = [] from rfl, List.append_nil]; exact HI.out)⟩
   case round =>
    obtain ⟨j, lw, rfl, hj, rfl, HQ⟩ := hrel
    clear c1
    obtain ⟨r0, r1, c1⟩ := HROW.out _ HQ.out.bl
    by_cases hjn : j < n
    ·have hjI : (j : Int) < n := by omega
     obtain ⟨c, hc⟩ : ∃ c, x.l[j]? = some c := ⟨_, List.getElem?_eq_getElem (by have := HNN.out; omega)⟩
     have hcs := HCL.out _ HQ.out.bl j c hc
     have k0 := hcs 0 _ rfl
     rw [Nat.add_zero] at k0
     have HS := Lib.hid (heldL_succ (id := xi) hc)
     by_cases ha : c.a = 0
     ·rw [ha] at k0
      have HAZ := Lib.hid ha
      clear hcs hc ha
      go_wp2
      go_roundw
      case rel => exact ⟨j + 1, _, rfl, by omega, by go_num, Lib.hid (by rw [HS.out, if_pos HAZ.out, List.append_nil]; exact HQ.out)⟩
      case measure => first | (simp [intOf]; done) | (simp [intOf]; omega)
     ·have k1 := hcs 1 _ rfl
      have k2 := hcs 2 _ rfl
      have k3 := hcs 3 _ rfl
      have k4 := hcs 4 _ rfl
      have k5 := hcs 5 _ rfl
      have k6 := hcs 6 _ rfl
      have k7 := hcs 7 _ rfl
      have hHl : (heldA (R.take t) ++ heldL xi 0 (x.l.take j)).length ≤ 16 * R.length + 16 := by
       have := heldL_len xi (x.l.take j) 0
       rw [List.length_take] at this
       rw [List.length_append]
       omega
      have hnw : ∀ q u, (Hd.mk xi j c).L[q]? = some u → ((wr.alloc (.cells #[.int .i64 xi, .int .i64 (j : Int), .int .i64 c.a, .int .i64 c.b, .int .i64 c.c, .int .u64 c.d, .int .i64 c.e, .int .i64 c.f, .int .i64 c.g, .int .i64 c.h] 46)).drew).cell? ((⟨wr.heap.size, 0, none⟩ : Addr).add q) = some u := fun q u hq => by
       rw [Addr.add_mid, Nat.zero_add]
       exact (cell_cur (cur := (Hd.mk xi j c).L) (show ((wr.alloc (.cells #[.int .i64 xi, .int .i64 (j : Int), .int .i64 c.a, .int .i64 c.b, .int .i64 c.c, .int .u64 c.d, .int .i64 c.e, .int .i64 c.f, .int .i64 c.g, .int .i64 c.h] 46)).drew).heap[wr.heap.size]? = some (.cells (Hd.mk xi j c).L.toArray 46 (0, 0)) from heap_alloc_new wr _) q).trans hq
      have hrw : ((wr.alloc (.cells #[.int .i64 xi, .int .i64 (j : Int), .int .i64 c.a, .int .i64 c.b, .int .i64 c.c, .int .u64 c.d, .int .i64 c.e, .int .i64 c.f, .int .i64 c.g, .int .i64 c.h] 46)).drew).ownsRow w.heap.size 46 10 lw (heldA (R.take t) ++ heldL xi 0 (x.l.take j)).length (hdsC (heldA (R.take t) ++ heldL xi 0 (x.l.take j))) := row_of_block HQ.out.row (fun g hg => Below.heap_alloc _ _ _ (HQ.out.row.lt g hg).2)
      obtain ⟨v', w8, hrun, hown, hgr8, _⟩ := run_append_own_at (P := Tryz.prog) (w := (wr.alloc (.cells #[.int .i64 xi, .int .i64 (j : Int), .int .i64 c.a, .int .i64 c.b, .int .i64 c.c, .int .u64 c.d, .int .i64 c.e, .int .i64 c.f, .int .i64 c.g, .int .i64 c.h] 46)).drew) w.heap.size 39 39 46 i0 zHd 10 80 Tryz.underlying39 HI0.out hz0 hz1 hz2 rfl (by decide) lw _ _ hrw ⟨wr.heap.size, 0, none⟩ 1 1 (Hd.mk xi j c).L rfl hnw (hd_one _) (by unfold maxLen; omega) (by omega) (by have := HQ.out.bl.size; simp; omega)
      have HAPP : Hid (UsS w w8 v' (heldA (R.take t) ++ heldL xi 0 (x.l.take (j + 1)))) := Lib.hid (by
       rw [HS.out, if_neg ha, ← List.append_assoc]
       exact HQ.out.app hown hgr8)
      clear hcs hc hHl hnw hrw hown hgr8
      go_upto_region 9 with fail
      go_region
      all_goals go_wp2
      all_goals go_roundw
      all_goals first
       | exact ⟨j + 1, _, rfl, by omega, by go_num, HAPP⟩
       | (simp [intOf]; done)
       | (simp [intOf]; omega)
    ·obtain rfl : j = n := by omega
     have HQ2 : Hid (UsS w wr lw (heldA (R.take (t + 1)))) := Lib.hid (by
      have q := HQ.out
      rw [show x.l.take j = x.l from List.take_of_length_le (by have := HNN.out; omega)] at q
      rw [heldA_succ HX.out, ← HXI.out]
      exact q)
     go_wp2
     go_roundw
     case rel => exact ⟨t + 1, _, rfl, by have := HTL.out; omega, by go_num, HQ2⟩
     case measure => have := HTL.out; first | (simp [intOf]; done) | (simp [intOf]; omega)
  ·obtain rfl : t = R.length := by omega
   have hrow := HI.out.row
   rw [List.take_length] at hrow
   have HR := Lib.hid hrow
   clear hrow
   go_wp2
   go_ret
   exact ⟨_, rfl, HR.out, HI.out.bl⟩
end TabS
end
end
end Go.Proofs.YtchjfeafkmpmbaaGreatDoor
