/- The law TlbScript. -/
import Derived.Test.YtimgiplcejcaaaaTlbZe
import Derived.Test.YtimgiplcejcaaaaTlbOnce
import Derived.Deep.RegionHeld3
namespace Go.Proofs.Ytimgiplcejcaaaa
set_option linter.unusedVariables false
set_option linter.unusedSimpArgs false
open Go.ChangeShapes Go.WideShapes Go.ChangeAt Go.RowKit

/-- Two blocks alone are turned. -/
structure Only2 (b c : Nat) (w w' : World) : Prop where
  os : w'.os = w.os
  tape : w'.tape = w.tape
  output : w'.output = w.output
  size : w.heap.size ≤ w'.heap.size
  block : ∀ k, k < w.heap.size → k ≠ b → k ≠ c → w'.heap[k]? = w.heap[k]?
theorem Only2.refl (b c : Nat) (w : World) : Only2 b c w w := ⟨rfl, rfl, rfl, Nat.le_refl _, fun _ _ _ _ => rfl⟩
theorem Only2.drew {b c : Nat} {a d : World} (h : Only2 b c a d) : Only2 b c a d.drew := ⟨h.os, h.tape, h.output, h.size, h.block⟩
theorem Only2.drewN {b c : Nat} {a d : World} (h : Only2 b c a d) (k : Nat) : Only2 b c a (d.drewN k) := by
  induction k with
  | zero => exact h
  | succ k ih => exact ih.drew
theorem Only2.one {b c : Nat} {w d e : World} (h : Only2 b c w d) (k : TlbOnly b d e) : Only2 b c w e := ⟨k.os.trans h.os, k.tape.trans h.tape, k.output.trans h.output, Nat.le_trans h.size k.size, fun i hi h1 h2 => (k.block i (Nat.lt_of_lt_of_le hi h.size) h1).trans (h.block i hi h1 h2)⟩
theorem Only2.two {b c : Nat} {w d e : World} (h : Only2 b c w d) (k : TlbOnly c d e) : Only2 b c w e := ⟨k.os.trans h.os, k.tape.trans h.tape, k.output.trans h.output, Nat.le_trans h.size k.size, fun i hi h1 h2 => (k.block i (Nat.lt_of_lt_of_le hi h.size) h2).trans (h.block i hi h1 h2)⟩
theorem Only2.call {b c : Nat} {w d e : World} (h : Only2 b c w d) (k : Below d.heap.size d e) : Only2 b c w e := h.one (TlbOnly.of_below k)
theorem Only2.alloc {b c : Nat} {w d : World} (h : Only2 b c w d) (x : Obj) : Only2 b c w (d.alloc x) := h.call (bal (Below.refl _ _) _)
theorem Only2.below {b c B : Nat} {w d : World} (h : Only2 b c w d) (hb : B ≤ b) (hc : B ≤ c) (hw : B ≤ w.heap.size) : Below B w d := ⟨h.os, h.tape, h.output, h.size, fun k hk => h.block k (by omega) (by omega) (by omega)⟩
theorem Only2.cell {b c k j : Nat} {w d : World} {v : Option Value} (h : Only2 b c w d) (hk : k < w.heap.size) (h1 : k ≠ b) (h2 : k ≠ c) (q : w.cell? ⟨k, j, none⟩ = v) : d.cell? ⟨k, j, none⟩ = v := (cell_of_block (h.block k hk h1 h2)).trans q
theorem TlbOnly.drewN {b : Nat} {a d : World} (h : TlbOnly b a d) (k : Nat) : TlbOnly b a (d.drewN k) := by
  induction k with
  | zero => exact h
  | succ k ih => exact ih.drew
theorem TlbOnly.call {b : Nat} {w d e : World} (h : TlbOnly b w d) (k : Below d.heap.size d e) : TlbOnly b w e := h.trans (TlbOnly.of_below k)
theorem TlbOnly.alloc {b : Nat} {w d : World} (h : TlbOnly b w d) (x : Obj) : TlbOnly b w (d.alloc x) := h.call (bal (Below.refl _ _) _)
theorem TlbAt.other {w d : World} {b c : Nat} {S : Nat → TransX × TransX × Int} (h : TlbAt w b S) (ne : b ≠ c) (k : TlbOnly c w d) : TlbAt d b S := h.of_block k.size (k.block b h.lt ne)
theorem RefAt.other {w d : World} {b c : Nat} {S : Nat → TransX × TransX × Int} (h : RefAt w b S) (ne : b ≠ c) (k : TlbOnly c w d) : RefAt d b S := h.of_block k.size (k.block b h.lt ne)
theorem TlbAt.rest {w d : World} {b B : Nat} {S : Nat → TransX × TransX × Int} (h : TlbAt w b S) (k : Below B w d) (hb : b < B) : TlbAt d b S := h.of_block k.size (k.block b hb)
theorem RefAt.rest {w d : World} {b B : Nat} {S : Nat → TransX × TransX × Int} (h : RefAt w b S) (k : Below B w d) (hb : b < B) : RefAt d b S := h.of_block k.size (k.block b hb)
theorem tail_below {b c : Nat} {W wa wt w5 w6 w7 w8 : World} (Ba : Below W.heap.size W wa) (h5 : Below wt.heap.size wt w5) (h6 : Below w5.heap.size w5 w6) (h7 : Below w6.heap.size w6 w7) (h8 : Below wt.heap.size w7 w8) (hb : W.heap.size ≤ b) (hc : W.heap.size ≤ c) (h2 : Only2 b c wa wt) : Below W.heap.size W w8 := by
  have h := Ba.trans (h2.below hb hc Ba.size)
  exact (h.trans ((bgo (bgo h5 h6) h7).mono h.size)).trans (h8.mono h.size)
theorem overT_own (w : World) (base g : Nat) (p : Option Addr) (n c : Nat) (T : Nat → TransX) (h : OwnT w base g p n c T) (h4 : n ≤ 8) (hb : base ≤ w.heap.size) :
    Calls Try.prog 25 #[.slice p n c] w fun e w' => (∃ v, e = .returned v) ∧ Below base w w' := by
  obtain ⟨xs, hx⟩ := h.own
  refine (overT_any w base p n c xs hx h4).mono ?_
  rintro e w' ⟨hv, hg⟩
  exact ⟨hv, (Below.refl _ _).grown hg hb (fun k ek => (hx.lt k ek).1)⟩
theorem num_any (n : Int) (w : World) : Calls Try.prog 11 #[.int .i64 n] w fun e w' => e = .returned (.int .i64 n) ∧ w = w' := by
  go_enter Try.func11, Try.ntmps11
  go_wp2
  go_ret
  exact ⟨rfl, rfl⟩
theorem out_page {a c : Int} (h : (c == -1) = false) : outR a c false = pageOut a c := by
  funext x
  simp [outR, pageOut, h]
theorem out_space (a : Int) : outR a (-1) false = spaceOut a := by
  funext x
  simp [outR, spaceOut]
theorem out_all : outR 0 0 true = fun _ => true := by
  funext x
  simp [outR]
/-- An act in its box. -/
def ActBox (w : World) (X : Nat) (a : ActX) : Prop :=
  w.cell? ⟨X, 0, none⟩ = some (.int .i64 a.d) ∧ w.cell? ⟨X, 1, none⟩ = some (.int .i64 a.x.s) ∧ w.cell? ⟨X, 2, none⟩ = some (.int .i64 a.x.p) ∧ w.cell? ⟨X, 3, none⟩ = some (.int .i64 a.x.f) ∧ w.cell? ⟨X, 4, none⟩ = some (.bool a.x.r) ∧ w.cell? ⟨X, 5, none⟩ = some (.bool a.x.w) ∧ w.cell? ⟨X, 6, none⟩ = some (.int .i64 a.i) ∧ w.cell? ⟨X, 7, none⟩ = some (.int .i64 a.j)
theorem keepA {b c X : Nat} {wa w' : World} {v0 v1 v2 v3 v4 v5 v6 v7 : Value} (h0 : wa.cell? ⟨X, 0, none⟩ = some v0) (h1 : wa.cell? ⟨X, 1, none⟩ = some v1) (h2 : wa.cell? ⟨X, 2, none⟩ = some v2) (h3 : wa.cell? ⟨X, 3, none⟩ = some v3) (h4 : wa.cell? ⟨X, 4, none⟩ = some v4) (h5 : wa.cell? ⟨X, 5, none⟩ = some v5) (h6 : wa.cell? ⟨X, 6, none⟩ = some v6) (h7 : wa.cell? ⟨X, 7, none⟩ = some v7) (hX : X < wa.heap.size) (n1 : X ≠ b) (n2 : X ≠ c) (k : Only2 b c wa w') :
    w'.cell? ⟨X, 0, none⟩ = some v0 ∧ w'.cell? ⟨X, 1, none⟩ = some v1 ∧ w'.cell? ⟨X, 2, none⟩ = some v2 ∧ w'.cell? ⟨X, 3, none⟩ = some v3 ∧ w'.cell? ⟨X, 4, none⟩ = some v4 ∧ w'.cell? ⟨X, 5, none⟩ = some v5 ∧ w'.cell? ⟨X, 6, none⟩ = some v6 ∧ w'.cell? ⟨X, 7, none⟩ = some v7 ∧ Only2 b c wa w' :=
  ⟨k.cell hX n1 n2 h0, k.cell hX n1 n2 h1, k.cell hX n1 n2 h2, k.cell hX n1 n2 h3, k.cell hX n1 n2 h4, k.cell hX n1 n2 h5, k.cell hX n1 n2 h6, k.cell hX n1 n2 h7, k⟩
theorem refAt_new (W : World) : RefAt (W.alloc (.cells #[.int .i64 0, .int .i64 0, .int .i64 0, .bool false, .bool false, .int .i64 0, .int .i64 0, .int .i64 0, .bool false, .bool false, .int .i64 0, .int .i64 0, .int .i64 0, .bool false, .bool false, .int .i64 0, .int .i64 0, .int .i64 0, .bool false, .bool false, .int .i64 0, .int .i64 0, .int .i64 0, .bool false, .bool false, .int .i64 0, .int .i64 0, .int .i64 0, .bool false, .bool false, .int .i64 0, .int .i64 0, .int .i64 0, .bool false, .bool false, .int .i64 0, .int .i64 0, .int .i64 0, .bool false, .bool false, .int .i64 0, .int .i64 0, .int .i64 0, .int .i64 0] 33)) W.heap.size S0 := by
  refine ⟨fun k j hk hj => ?_, fun k hk => ?_, fun j => frozen_new _ _ _ _, by simp⟩
  · have e : wayP S0 (k, j) = zT := by simp [wayP]
    rw [e]
    obtain rfl | rfl | rfl | rfl : k = 0 ∨ k = 1 ∨ k = 2 ∨ k = 3 := by omega
    all_goals
      obtain rfl | rfl : j = 0 ∨ j = 1 := by omega
      all_goals
        refine ⟨?_, ?_, ?_, ?_, ?_⟩
        all_goals simp [go_sem]
  · obtain rfl | rfl | rfl | rfl : k = 0 ∨ k = 1 ∨ k = 2 ∨ k = 3 := by omega
    all_goals simp [go_sem]
set_option maxRecDepth 100000 in
set_option maxHeartbeats 8000000 in
theorem walk_tlbScript {W : World} (p : Option Addr) (n c : Nat) (hx : n ≤ c ∧ c ≤ maxLen ∧ ∃ D, ActsAt W p n D) :
    Calls Try.prog 3 #[.slice p n c] W fun e w' => e = .returned (.bool true) ∧ Below W.heap.size W w' := by
  obtain ⟨h1, h2, D, hD⟩ := hx
  unfold maxLen at h2
  have HD0 := Lib.hid hD
  clear hD
  by_cases hn : 120 < n
  · go_enter Try.func3, Try.ntmps3
    go_wp2_with (first
      | (go_at_call 9; refine (awake6 _).mono ?_; rintro e w3 ⟨rfl, hb3⟩))
    go_ret
    exact ⟨rfl, hb3⟩
  have hn' : n ≤ 120 := by omega
  clear hn
  obtain ⟨pb, off, hp, hD⟩ := HD0.out
  have HD := Lib.hid hD
  have HP := Lib.hid hp
  clear hD hp HD0
  have hNE : W.heap.size ≠ W.heap.size + 1 := by omega
  go_enter Try.func3, Try.ntmps3
  go_wp2_with (first
    | (go_at_call 10; go_in))
  obtain ⟨w0, hw0⟩ : ∃ w0, w0 = (W.alloc (.cells #[.int .i64 0, .int .i64 0, .int .i64 0, .bool false, .bool false, .int .i64 0, .int .i64 0, .int .i64 0, .bool false, .bool false, .int .i64 0, .int .i64 0, .int .i64 0, .int .i64 0, .bool false, .bool false, .int .i64 0, .int .i64 0, .int .i64 0, .bool false, .bool false, .int .i64 0, .int .i64 0, .int .i64 0, .int .i64 0, .bool false, .bool false, .int .i64 0, .int .i64 0, .int .i64 0, .bool false, .bool false, .int .i64 0, .int .i64 0, .int .i64 0, .int .i64 0, .bool false, .bool false, .int .i64 0, .int .i64 0, .int .i64 0, .bool false, .bool false, .int .i64 0] 61)).alloc (.cells #[.int .i64 0, .int .i64 0, .int .i64 0, .bool false, .bool false, .int .i64 0, .int .i64 0, .int .i64 0, .bool false, .bool false, .int .i64 0, .int .i64 0, .int .i64 0, .bool false, .bool false, .int .i64 0, .int .i64 0, .int .i64 0, .bool false, .bool false, .int .i64 0, .int .i64 0, .int .i64 0, .bool false, .bool false, .int .i64 0, .int .i64 0, .int .i64 0, .bool false, .bool false, .int .i64 0, .int .i64 0, .int .i64 0, .bool false, .bool false, .int .i64 0, .int .i64 0, .int .i64 0, .bool false, .bool false, .int .i64 0, .int .i64 0, .int .i64 0, .int .i64 0] 33) := ⟨_, rfl⟩
  rw [← hw0]
  have ht0 : TlbAt w0 W.heap.size S0 := hw0 ▸ (tlbAt_new W).call (bal (Below.refl _ _) _)
  have hr0 : RefAt w0 (W.heap.size + 1) S0 := by
    have := refAt_new (W.alloc (.cells #[.int .i64 0, .int .i64 0, .int .i64 0, .bool false, .bool false, .int .i64 0, .int .i64 0, .int .i64 0, .bool false, .bool false, .int .i64 0, .int .i64 0, .int .i64 0, .int .i64 0, .bool false, .bool false, .int .i64 0, .int .i64 0, .int .i64 0, .bool false, .bool false, .int .i64 0, .int .i64 0, .int .i64 0, .int .i64 0, .bool false, .bool false, .int .i64 0, .int .i64 0, .int .i64 0, .bool false, .bool false, .int .i64 0, .int .i64 0, .int .i64 0, .int .i64 0, .bool false, .bool false, .int .i64 0, .int .i64 0, .int .i64 0, .bool false, .bool false, .int .i64 0] 61))
    rw [World.size_alloc] at this
    exact hw0 ▸ this
  have B0 : Below W.heap.size W w0 := hw0 ▸ bal (bal (Below.refl _ _) _) _
  clear hw0
  go_loopw [5] (fun i wr => ∃ (k : Nat) (S : Nat → TransX × TransX × Int), k ≤ n ∧ i = .int .i64 k ∧ TlbAt wr W.heap.size S ∧ RefAt wr (W.heap.size + 1) S ∧ Good S ∧ Below W.heap.size W wr) (fun i _ => n - (intOf i).toNat)
  case atStart => exact ⟨0, S0, by omega, rfl, ht0, hr0, good_S0, B0⟩
  case round =>
    obtain ⟨k, S, hk, rfl, hT, hR, hG, hB⟩ := hrel
    have HG := Lib.hid hG
    have HT := Lib.hid hT
    have HR := Lib.hid hR
    have hb1 := hT.lt
    have hb2 := hR.lt
    have hX1 : wr.heap.size ≠ W.heap.size := by omega
    have hX2 : wr.heap.size ≠ W.heap.size + 1 := by omega
    clear ht0 hr0 B0 hT hR hG
    by_cases hlt : k < n
    · obtain ⟨rfl, hpb⟩ := HP.out (by omega)
      obtain ⟨hc0, hok⟩ := HD.out k hlt
      have hcc := hc0.below hB hpb
      generalize D k = a at *
      obtain ⟨d, x, i, j⟩ := a
      obtain ⟨c0, c1, c2, c3, c4, c5, c6, c7⟩ := hcc
      simp only at c0 c1 c2 c3 c4 c5 c6 c7
      clear hc0 hok
      by_cases h0 : d = 0
      · subst h0
        have hG1 := good_fill HG.out x
        obtain ⟨S1, hS1⟩ : ∃ S1, fillS S x = S1 := ⟨_, rfl⟩
        rw [hS1] at hG1
        have HG1 := Lib.hid hG1
        have HS1 := Lib.hid hS1
        clear hG1 hS1
        go_wp2
        obtain ⟨wa, hwa⟩ : ∃ wa, wa = wr.alloc (.cells #[.int .i64 0, .int .i64 x.s, .int .i64 x.p, .int .i64 x.f, .bool x.r, .bool x.w, .int .i64 i, .int .i64 j] 35) := ⟨_, rfl⟩
        have y0 : wa.cell? ⟨wr.heap.size, 0, none⟩ = some (.int .i64 0) := by rw [hwa]; simp [go_sem]
        have y1 : wa.cell? ⟨wr.heap.size, 1, none⟩ = some (.int .i64 x.s) := by rw [hwa]; simp [go_sem]
        have y2 : wa.cell? ⟨wr.heap.size, 2, none⟩ = some (.int .i64 x.p) := by rw [hwa]; simp [go_sem]
        have y3 : wa.cell? ⟨wr.heap.size, 3, none⟩ = some (.int .i64 x.f) := by rw [hwa]; simp [go_sem]
        have y4 : wa.cell? ⟨wr.heap.size, 4, none⟩ = some (.bool x.r) := by rw [hwa]; simp [go_sem]
        have y5 : wa.cell? ⟨wr.heap.size, 5, none⟩ = some (.bool x.w) := by rw [hwa]; simp [go_sem]
        have y6 : wa.cell? ⟨wr.heap.size, 6, none⟩ = some (.int .i64 i) := by rw [hwa]; simp [go_sem]
        have y7 : wa.cell? ⟨wr.heap.size, 7, none⟩ = some (.int .i64 j) := by rw [hwa]; simp [go_sem]
        have hta : TlbAt wa W.heap.size S := hwa ▸ HT.out.call (bal (Below.refl _ _) _)
        have hra : RefAt wa (W.heap.size + 1) S := hwa ▸ HR.out.call (bal (Below.refl _ _) _)
        have Ba : Below W.heap.size W wa := hwa ▸ hB.alloc (Nat.le_of_lt hb1) _
        have hXa : wr.heap.size < wa.heap.size := by rw [hwa]; simp
        have HTA := Lib.hid hta
        have HRA := Lib.hid hra
        rw [← hwa]
        clear hwa hta hra c0 c1 c2 c3 c4 c5 c6 c7
        go_region_held3 (fun w' => w'.cell? ⟨wr.heap.size, 0, none⟩ = some (.int .i64 0) ∧ w'.cell? ⟨wr.heap.size, 1, none⟩ = some (.int .i64 x.s) ∧ w'.cell? ⟨wr.heap.size, 2, none⟩ = some (.int .i64 x.p) ∧ w'.cell? ⟨wr.heap.size, 3, none⟩ = some (.int .i64 x.f) ∧ w'.cell? ⟨wr.heap.size, 4, none⟩ = some (.bool x.r) ∧ w'.cell? ⟨wr.heap.size, 5, none⟩ = some (.bool x.w) ∧ w'.cell? ⟨wr.heap.size, 6, none⟩ = some (.int .i64 i) ∧ w'.cell? ⟨wr.heap.size, 7, none⟩ = some (.int .i64 j) ∧ Only2 W.heap.size (W.heap.size + 1) wa w')
          (first | (refine keepA y0 y1 y2 y3 y4 y5 y6 y7 hXa hX1 hX2 ?_; repeat (first | with_reducible exact Only2.refl _ _ _ | with_reducible refine Only2.drew ?_ | with_reducible refine Only2.drewN ?_ _ | with_reducible refine Only2.alloc ?_ _ | with_reducible refine Only2.one ?_ (by with_reducible assumption) | with_reducible refine Only2.two ?_ (by with_reducible assumption) | with_reducible refine Only2.call ?_ (by with_reducible assumption))))
          (first
            | (go_at_call 12; refine (tfill_any _ W.heap.size S x (HTA.out.other hNE (by repeat (first | with_reducible exact TlbOnly.refl _ _ | with_reducible refine TlbOnly.drew ?_ | with_reducible refine TlbOnly.drewN ?_ _ | with_reducible refine TlbOnly.alloc ?_ _ | with_reducible refine TlbOnly.trans ?_ (by with_reducible assumption) | with_reducible refine TlbOnly.call ?_ (by with_reducible assumption)))) HG.out.ok).mono ?_; rw [HS1.out]; rintro e w1 ⟨rfl, ht1, ho1⟩)
            | (go_at_call 11; refine (num_any _ _).mono ?_; rintro e w9 ⟨rfl, rfl⟩)
            | (go_at_call 13; refine (refFill_any _ (W.heap.size + 1) S x (HRA.out.other hNE.symm (by repeat (first | with_reducible exact TlbOnly.refl _ _ | with_reducible refine TlbOnly.drew ?_ | with_reducible refine TlbOnly.drewN ?_ _ | with_reducible refine TlbOnly.alloc ?_ _ | with_reducible refine TlbOnly.trans ?_ (by with_reducible assumption) | with_reducible refine TlbOnly.call ?_ (by with_reducible assumption)))) HG.out.ok).mono ?_; rw [HS1.out]; rintro e w2 ⟨rfl, hr2, ho2⟩))
        all_goals
          go_wp2_with (first
            | (go_at_call 22; refine (tall_own _ W.heap.size S1 (ht1.other hNE (by repeat (first | with_reducible exact TlbOnly.refl _ _ | with_reducible refine TlbOnly.drew ?_ | with_reducible refine TlbOnly.drewN ?_ _ | with_reducible refine TlbOnly.alloc ?_ _ | with_reducible refine TlbOnly.trans ?_ (by with_reducible assumption) | with_reducible refine TlbOnly.call ?_ (by with_reducible assumption)))) HG1.out.ok).mono ?_; rintro e w5 ⟨p5, c5, g5, rfl, hO5, hb5⟩; have HO5 := Lib.hid hO5; clear hO5)
            | (go_at_call 24; refine (rall_own _ (W.heap.size + 1) S1 (hr2.other hNE.symm (by repeat (first | with_reducible exact TlbOnly.refl _ _ | with_reducible refine TlbOnly.drew ?_ | with_reducible refine TlbOnly.drewN ?_ _ | with_reducible refine TlbOnly.alloc ?_ _ | with_reducible refine TlbOnly.trans ?_ (by with_reducible assumption) | with_reducible refine TlbOnly.call ?_ (by with_reducible assumption)))) HG1.out.ok).mono ?_; rintro e w6 ⟨p6, c6, g6, rfl, hO6, hb6⟩; have HO6 := Lib.hid hO6; clear hO6)
            | (go_at_call 23; refine (sameT_yes _ p5 p6 c5 c6 g5 g6 (allN S1) (allT S1) (by have := fullP_len S1 8; unfold allN; omega) (HO5.out.below hb6).at_ HO6.out.at_ (HO5.out.below hb6).rows HO6.out.rows).mono ?_; rintro e w7 ⟨rfl, hb7⟩)
            | (go_at_call 25; refine (overT_own _ _ g5 p5 (allN S1) c5 (allT S1) ((HO5.out.below hb6).below hb7) (fullP_len S1 8) (Nat.le_trans hb5.size (Nat.le_trans hb6.size hb7.size))).mono ?_; rintro e w8 ⟨⟨uu, rfl⟩, hb8⟩))
          all_goals
            have hT8 := ((((ht1.other hNE (by repeat (first | with_reducible exact TlbOnly.refl _ _ | with_reducible refine TlbOnly.drew ?_ | with_reducible refine TlbOnly.drewN ?_ _ | with_reducible refine TlbOnly.alloc ?_ _ | with_reducible refine TlbOnly.trans ?_ (by with_reducible assumption) | with_reducible refine TlbOnly.call ?_ (by with_reducible assumption)))).call hb5).call hb6).call hb7).rest hb8 ((ht1.other hNE (by repeat (first | with_reducible exact TlbOnly.refl _ _ | with_reducible refine TlbOnly.drew ?_ | with_reducible refine TlbOnly.drewN ?_ _ | with_reducible refine TlbOnly.alloc ?_ _ | with_reducible refine TlbOnly.trans ?_ (by with_reducible assumption) | with_reducible refine TlbOnly.call ?_ (by with_reducible assumption))) : TlbAt _ _ _).lt)
            have hR8 := ((((hr2.other hNE.symm (by repeat (first | with_reducible exact TlbOnly.refl _ _ | with_reducible refine TlbOnly.drew ?_ | with_reducible refine TlbOnly.drewN ?_ _ | with_reducible refine TlbOnly.alloc ?_ _ | with_reducible refine TlbOnly.trans ?_ (by with_reducible assumption) | with_reducible refine TlbOnly.call ?_ (by with_reducible assumption)))).call hb5).call hb6).call hb7).rest hb8 ((hr2.other hNE.symm (by repeat (first | with_reducible exact TlbOnly.refl _ _ | with_reducible refine TlbOnly.drew ?_ | with_reducible refine TlbOnly.drewN ?_ _ | with_reducible refine TlbOnly.alloc ?_ _ | with_reducible refine TlbOnly.trans ?_ (by with_reducible assumption) | with_reducible refine TlbOnly.call ?_ (by with_reducible assumption))) : RefAt _ _ _).lt)
            have hW8 := Lib.hid (tail_below Ba hb5 hb6 hb7 hb8 (Nat.le_refl _) (Nat.le_succ _) (by repeat (first | with_reducible exact Only2.refl _ _ _ | with_reducible refine Only2.drew ?_ | with_reducible refine Only2.drewN ?_ _ | with_reducible refine Only2.alloc ?_ _ | with_reducible refine Only2.one ?_ (by with_reducible assumption) | with_reducible refine Only2.two ?_ (by with_reducible assumption) | with_reducible refine Only2.call ?_ (by with_reducible assumption))))
            have HT8 := Lib.hid hT8
            have HR8 := Lib.hid hR8
            go_roundw
            case rel => first | exact ⟨k + 1, S1, by omega, by go_num, HT8.out, HR8.out, HG1.out, hW8.out⟩ | ((repeat apply Exists.intro); exact ⟨⟨k + 1, S1, by omega, by go_num, HT8.out, HR8.out, HG1.out, hW8.out⟩, rfl⟩)
            case measure => simp [intOf]; omega
      by_cases h2 : d = 2
      · subst h2
        have hG1 := good_evict HG.out i j
        obtain ⟨⟨S1, m⟩, hS1⟩ : ∃ s, evictS S i j = s := ⟨_, rfl⟩
        rw [hS1] at hG1
        have HG1 : Hid (Good S1) := Lib.hid hG1
        have HS1 := Lib.hid hS1
        clear hG1 hS1
        go_wp2
        obtain ⟨wa, hwa⟩ : ∃ wa, wa = wr.alloc (.cells #[.int .i64 2, .int .i64 x.s, .int .i64 x.p, .int .i64 x.f, .bool x.r, .bool x.w, .int .i64 i, .int .i64 j] 35) := ⟨_, rfl⟩
        have y0 : wa.cell? ⟨wr.heap.size, 0, none⟩ = some (.int .i64 2) := by rw [hwa]; simp [go_sem]
        have y1 : wa.cell? ⟨wr.heap.size, 1, none⟩ = some (.int .i64 x.s) := by rw [hwa]; simp [go_sem]
        have y2 : wa.cell? ⟨wr.heap.size, 2, none⟩ = some (.int .i64 x.p) := by rw [hwa]; simp [go_sem]
        have y3 : wa.cell? ⟨wr.heap.size, 3, none⟩ = some (.int .i64 x.f) := by rw [hwa]; simp [go_sem]
        have y4 : wa.cell? ⟨wr.heap.size, 4, none⟩ = some (.bool x.r) := by rw [hwa]; simp [go_sem]
        have y5 : wa.cell? ⟨wr.heap.size, 5, none⟩ = some (.bool x.w) := by rw [hwa]; simp [go_sem]
        have y6 : wa.cell? ⟨wr.heap.size, 6, none⟩ = some (.int .i64 i) := by rw [hwa]; simp [go_sem]
        have y7 : wa.cell? ⟨wr.heap.size, 7, none⟩ = some (.int .i64 j) := by rw [hwa]; simp [go_sem]
        have hta : TlbAt wa W.heap.size S := hwa ▸ HT.out.call (bal (Below.refl _ _) _)
        have hra : RefAt wa (W.heap.size + 1) S := hwa ▸ HR.out.call (bal (Below.refl _ _) _)
        have Ba : Below W.heap.size W wa := hwa ▸ hB.alloc (Nat.le_of_lt hb1) _
        have hXa : wr.heap.size < wa.heap.size := by rw [hwa]; simp
        have HTA := Lib.hid hta
        have HRA := Lib.hid hra
        rw [← hwa]
        clear hwa hta hra c0 c1 c2 c3 c4 c5 c6 c7
        go_region_held3 (fun w' => w'.cell? ⟨wr.heap.size, 0, none⟩ = some (.int .i64 2) ∧ w'.cell? ⟨wr.heap.size, 1, none⟩ = some (.int .i64 x.s) ∧ w'.cell? ⟨wr.heap.size, 2, none⟩ = some (.int .i64 x.p) ∧ w'.cell? ⟨wr.heap.size, 3, none⟩ = some (.int .i64 x.f) ∧ w'.cell? ⟨wr.heap.size, 4, none⟩ = some (.bool x.r) ∧ w'.cell? ⟨wr.heap.size, 5, none⟩ = some (.bool x.w) ∧ w'.cell? ⟨wr.heap.size, 6, none⟩ = some (.int .i64 i) ∧ w'.cell? ⟨wr.heap.size, 7, none⟩ = some (.int .i64 j) ∧ Only2 W.heap.size (W.heap.size + 1) wa w')
          (first | (refine keepA y0 y1 y2 y3 y4 y5 y6 y7 hXa hX1 hX2 ?_; repeat (first | with_reducible exact Only2.refl _ _ _ | with_reducible refine Only2.drew ?_ | with_reducible refine Only2.drewN ?_ _ | with_reducible refine Only2.alloc ?_ _ | with_reducible refine Only2.one ?_ (by with_reducible assumption) | with_reducible refine Only2.two ?_ (by with_reducible assumption) | with_reducible refine Only2.call ?_ (by with_reducible assumption))))
          (first
            | (go_at_call 16; refine (tevict_any _ W.heap.size S i j (HTA.out.other hNE (by repeat (first | with_reducible exact TlbOnly.refl _ _ | with_reducible refine TlbOnly.drew ?_ | with_reducible refine TlbOnly.drewN ?_ _ | with_reducible refine TlbOnly.alloc ?_ _ | with_reducible refine TlbOnly.trans ?_ (by with_reducible assumption) | with_reducible refine TlbOnly.call ?_ (by with_reducible assumption)))) HG.out.ok).mono ?_; simp only [HS1.out]; rintro e w1 ⟨rfl, ht1, ho1⟩)
            | (go_at_call 17; refine (refEvict_any _ (W.heap.size + 1) S i j (HRA.out.other hNE.symm (by repeat (first | with_reducible exact TlbOnly.refl _ _ | with_reducible refine TlbOnly.drew ?_ | with_reducible refine TlbOnly.drewN ?_ _ | with_reducible refine TlbOnly.alloc ?_ _ | with_reducible refine TlbOnly.trans ?_ (by with_reducible assumption) | with_reducible refine TlbOnly.call ?_ (by with_reducible assumption)))) HG.out.ok).mono ?_; simp only [HS1.out]; rintro e w2 ⟨rfl, hr2, ho2⟩))
        all_goals
          go_wp2_with (first
            | (go_at_call 22; refine (tall_own _ W.heap.size S1 (ht1.other hNE (by repeat (first | with_reducible exact TlbOnly.refl _ _ | with_reducible refine TlbOnly.drew ?_ | with_reducible refine TlbOnly.drewN ?_ _ | with_reducible refine TlbOnly.alloc ?_ _ | with_reducible refine TlbOnly.trans ?_ (by with_reducible assumption) | with_reducible refine TlbOnly.call ?_ (by with_reducible assumption)))) HG1.out.ok).mono ?_; rintro e w5 ⟨p5, c5, g5, rfl, hO5, hb5⟩; have HO5 := Lib.hid hO5; clear hO5)
            | (go_at_call 24; refine (rall_own _ (W.heap.size + 1) S1 (hr2.other hNE.symm (by repeat (first | with_reducible exact TlbOnly.refl _ _ | with_reducible refine TlbOnly.drew ?_ | with_reducible refine TlbOnly.drewN ?_ _ | with_reducible refine TlbOnly.alloc ?_ _ | with_reducible refine TlbOnly.trans ?_ (by with_reducible assumption) | with_reducible refine TlbOnly.call ?_ (by with_reducible assumption)))) HG1.out.ok).mono ?_; rintro e w6 ⟨p6, c6, g6, rfl, hO6, hb6⟩; have HO6 := Lib.hid hO6; clear hO6)
            | (go_at_call 23; refine (sameT_yes _ p5 p6 c5 c6 g5 g6 (allN S1) (allT S1) (by have := fullP_len S1 8; unfold allN; omega) (HO5.out.below hb6).at_ HO6.out.at_ (HO5.out.below hb6).rows HO6.out.rows).mono ?_; rintro e w7 ⟨rfl, hb7⟩)
            | (go_at_call 25; refine (overT_own _ _ g5 p5 (allN S1) c5 (allT S1) ((HO5.out.below hb6).below hb7) (fullP_len S1 8) (Nat.le_trans hb5.size (Nat.le_trans hb6.size hb7.size))).mono ?_; rintro e w8 ⟨⟨uu, rfl⟩, hb8⟩))
          all_goals
            have hT8 := ((((ht1.other hNE (by repeat (first | with_reducible exact TlbOnly.refl _ _ | with_reducible refine TlbOnly.drew ?_ | with_reducible refine TlbOnly.drewN ?_ _ | with_reducible refine TlbOnly.alloc ?_ _ | with_reducible refine TlbOnly.trans ?_ (by with_reducible assumption) | with_reducible refine TlbOnly.call ?_ (by with_reducible assumption)))).call hb5).call hb6).call hb7).rest hb8 ((ht1.other hNE (by repeat (first | with_reducible exact TlbOnly.refl _ _ | with_reducible refine TlbOnly.drew ?_ | with_reducible refine TlbOnly.drewN ?_ _ | with_reducible refine TlbOnly.alloc ?_ _ | with_reducible refine TlbOnly.trans ?_ (by with_reducible assumption) | with_reducible refine TlbOnly.call ?_ (by with_reducible assumption))) : TlbAt _ _ _).lt)
            have hR8 := ((((hr2.other hNE.symm (by repeat (first | with_reducible exact TlbOnly.refl _ _ | with_reducible refine TlbOnly.drew ?_ | with_reducible refine TlbOnly.drewN ?_ _ | with_reducible refine TlbOnly.alloc ?_ _ | with_reducible refine TlbOnly.trans ?_ (by with_reducible assumption) | with_reducible refine TlbOnly.call ?_ (by with_reducible assumption)))).call hb5).call hb6).call hb7).rest hb8 ((hr2.other hNE.symm (by repeat (first | with_reducible exact TlbOnly.refl _ _ | with_reducible refine TlbOnly.drew ?_ | with_reducible refine TlbOnly.drewN ?_ _ | with_reducible refine TlbOnly.alloc ?_ _ | with_reducible refine TlbOnly.trans ?_ (by with_reducible assumption) | with_reducible refine TlbOnly.call ?_ (by with_reducible assumption))) : RefAt _ _ _).lt)
            have hW8 := Lib.hid (tail_below Ba hb5 hb6 hb7 hb8 (Nat.le_refl _) (Nat.le_succ _) (by repeat (first | with_reducible exact Only2.refl _ _ _ | with_reducible refine Only2.drew ?_ | with_reducible refine Only2.drewN ?_ _ | with_reducible refine Only2.alloc ?_ _ | with_reducible refine Only2.one ?_ (by with_reducible assumption) | with_reducible refine Only2.two ?_ (by with_reducible assumption) | with_reducible refine Only2.call ?_ (by with_reducible assumption))))
            have HT8 := Lib.hid hT8
            have HR8 := Lib.hid hR8
            go_roundw
            case rel => first | exact ⟨k + 1, S1, by omega, by go_num, HT8.out, HR8.out, HG1.out, hW8.out⟩ | ((repeat apply Exists.intro); exact ⟨⟨k + 1, S1, by omega, by go_num, HT8.out, HR8.out, HG1.out, hW8.out⟩, rfl⟩)
            case measure => simp [intOf]; omega
      by_cases h3 : d = 3
      · subst h3
        cases hpg : (x.p == -1)
        · have hG1 := good_dropF HG.out (pageOut x.s x.p)
          obtain ⟨⟨S1, m⟩, hS1⟩ : ∃ s, dropF S (pageOut x.s x.p) (fullP S 8) = s := ⟨_, rfl⟩
          rw [hS1] at hG1
          have HG1 : Hid (Good S1) := Lib.hid hG1
          have HS1 := Lib.hid hS1
          clear hG1 hS1
          have HOU := Lib.hid (out_page (a := x.s) hpg)
          go_wp2
          obtain ⟨wa, hwa⟩ : ∃ wa, wa = wr.alloc (.cells #[.int .i64 3, .int .i64 x.s, .int .i64 x.p, .int .i64 x.f, .bool x.r, .bool x.w, .int .i64 i, .int .i64 j] 35) := ⟨_, rfl⟩
          have y0 : wa.cell? ⟨wr.heap.size, 0, none⟩ = some (.int .i64 3) := by rw [hwa]; simp [go_sem]
          have y1 : wa.cell? ⟨wr.heap.size, 1, none⟩ = some (.int .i64 x.s) := by rw [hwa]; simp [go_sem]
          have y2 : wa.cell? ⟨wr.heap.size, 2, none⟩ = some (.int .i64 x.p) := by rw [hwa]; simp [go_sem]
          have y3 : wa.cell? ⟨wr.heap.size, 3, none⟩ = some (.int .i64 x.f) := by rw [hwa]; simp [go_sem]
          have y4 : wa.cell? ⟨wr.heap.size, 4, none⟩ = some (.bool x.r) := by rw [hwa]; simp [go_sem]
          have y5 : wa.cell? ⟨wr.heap.size, 5, none⟩ = some (.bool x.w) := by rw [hwa]; simp [go_sem]
          have y6 : wa.cell? ⟨wr.heap.size, 6, none⟩ = some (.int .i64 i) := by rw [hwa]; simp [go_sem]
          have y7 : wa.cell? ⟨wr.heap.size, 7, none⟩ = some (.int .i64 j) := by rw [hwa]; simp [go_sem]
          have hta : TlbAt wa W.heap.size S := hwa ▸ HT.out.call (bal (Below.refl _ _) _)
          have hra : RefAt wa (W.heap.size + 1) S := hwa ▸ HR.out.call (bal (Below.refl _ _) _)
          have Ba : Below W.heap.size W wa := hwa ▸ hB.alloc (Nat.le_of_lt hb1) _
          have hXa : wr.heap.size < wa.heap.size := by rw [hwa]; simp
          have HTA := Lib.hid hta
          have HRA := Lib.hid hra
          rw [← hwa]
          clear hwa hta hra c0 c1 c2 c3 c4 c5 c6 c7
          go_region_held3 (fun w' => w'.cell? ⟨wr.heap.size, 0, none⟩ = some (.int .i64 3) ∧ w'.cell? ⟨wr.heap.size, 1, none⟩ = some (.int .i64 x.s) ∧ w'.cell? ⟨wr.heap.size, 2, none⟩ = some (.int .i64 x.p) ∧ w'.cell? ⟨wr.heap.size, 3, none⟩ = some (.int .i64 x.f) ∧ w'.cell? ⟨wr.heap.size, 4, none⟩ = some (.bool x.r) ∧ w'.cell? ⟨wr.heap.size, 5, none⟩ = some (.bool x.w) ∧ w'.cell? ⟨wr.heap.size, 6, none⟩ = some (.int .i64 i) ∧ w'.cell? ⟨wr.heap.size, 7, none⟩ = some (.int .i64 j) ∧ Only2 W.heap.size (W.heap.size + 1) wa w')
            (first | (refine keepA y0 y1 y2 y3 y4 y5 y6 y7 hXa hX1 hX2 ?_; repeat (first | with_reducible exact Only2.refl _ _ _ | with_reducible refine Only2.drew ?_ | with_reducible refine Only2.drewN ?_ _ | with_reducible refine Only2.alloc ?_ _ | with_reducible refine Only2.one ?_ (by with_reducible assumption) | with_reducible refine Only2.two ?_ (by with_reducible assumption) | with_reducible refine Only2.call ?_ (by with_reducible assumption))))
            (first
              | (go_at_call 18; refine (dropPage_any _ W.heap.size S x.s x.p (HTA.out.other hNE (by repeat (first | with_reducible exact TlbOnly.refl _ _ | with_reducible refine TlbOnly.drew ?_ | with_reducible refine TlbOnly.drewN ?_ _ | with_reducible refine TlbOnly.alloc ?_ _ | with_reducible refine TlbOnly.trans ?_ (by with_reducible assumption) | with_reducible refine TlbOnly.call ?_ (by with_reducible assumption)))) HG.out.ok.way).mono ?_; simp only [HS1.out]; rintro e w1 ⟨rfl, ht1, ho1⟩)
              | (go_at_call 19; refine (refDrop_any _ (W.heap.size + 1) S x.s x.p false (HRA.out.other hNE.symm (by repeat (first | with_reducible exact TlbOnly.refl _ _ | with_reducible refine TlbOnly.drew ?_ | with_reducible refine TlbOnly.drewN ?_ _ | with_reducible refine TlbOnly.alloc ?_ _ | with_reducible refine TlbOnly.trans ?_ (by with_reducible assumption) | with_reducible refine TlbOnly.call ?_ (by with_reducible assumption)))) HG.out.ok).mono ?_; simp only [HOU.out, HS1.out]; rintro e w2 ⟨rfl, hr2, ho2⟩))
          all_goals
            go_wp2_with (first
              | (go_at_call 22; refine (tall_own _ W.heap.size S1 (ht1.other hNE (by repeat (first | with_reducible exact TlbOnly.refl _ _ | with_reducible refine TlbOnly.drew ?_ | with_reducible refine TlbOnly.drewN ?_ _ | with_reducible refine TlbOnly.alloc ?_ _ | with_reducible refine TlbOnly.trans ?_ (by with_reducible assumption) | with_reducible refine TlbOnly.call ?_ (by with_reducible assumption)))) HG1.out.ok).mono ?_; rintro e w5 ⟨p5, c5, g5, rfl, hO5, hb5⟩; have HO5 := Lib.hid hO5; clear hO5)
              | (go_at_call 24; refine (rall_own _ (W.heap.size + 1) S1 (hr2.other hNE.symm (by repeat (first | with_reducible exact TlbOnly.refl _ _ | with_reducible refine TlbOnly.drew ?_ | with_reducible refine TlbOnly.drewN ?_ _ | with_reducible refine TlbOnly.alloc ?_ _ | with_reducible refine TlbOnly.trans ?_ (by with_reducible assumption) | with_reducible refine TlbOnly.call ?_ (by with_reducible assumption)))) HG1.out.ok).mono ?_; rintro e w6 ⟨p6, c6, g6, rfl, hO6, hb6⟩; have HO6 := Lib.hid hO6; clear hO6)
              | (go_at_call 23; refine (sameT_yes _ p5 p6 c5 c6 g5 g6 (allN S1) (allT S1) (by have := fullP_len S1 8; unfold allN; omega) (HO5.out.below hb6).at_ HO6.out.at_ (HO5.out.below hb6).rows HO6.out.rows).mono ?_; rintro e w7 ⟨rfl, hb7⟩)
              | (go_at_call 25; refine (overT_own _ _ g5 p5 (allN S1) c5 (allT S1) ((HO5.out.below hb6).below hb7) (fullP_len S1 8) (Nat.le_trans hb5.size (Nat.le_trans hb6.size hb7.size))).mono ?_; rintro e w8 ⟨⟨uu, rfl⟩, hb8⟩))
            all_goals
              have hT8 := ((((ht1.other hNE (by repeat (first | with_reducible exact TlbOnly.refl _ _ | with_reducible refine TlbOnly.drew ?_ | with_reducible refine TlbOnly.drewN ?_ _ | with_reducible refine TlbOnly.alloc ?_ _ | with_reducible refine TlbOnly.trans ?_ (by with_reducible assumption) | with_reducible refine TlbOnly.call ?_ (by with_reducible assumption)))).call hb5).call hb6).call hb7).rest hb8 ((ht1.other hNE (by repeat (first | with_reducible exact TlbOnly.refl _ _ | with_reducible refine TlbOnly.drew ?_ | with_reducible refine TlbOnly.drewN ?_ _ | with_reducible refine TlbOnly.alloc ?_ _ | with_reducible refine TlbOnly.trans ?_ (by with_reducible assumption) | with_reducible refine TlbOnly.call ?_ (by with_reducible assumption))) : TlbAt _ _ _).lt)
              have hR8 := ((((hr2.other hNE.symm (by repeat (first | with_reducible exact TlbOnly.refl _ _ | with_reducible refine TlbOnly.drew ?_ | with_reducible refine TlbOnly.drewN ?_ _ | with_reducible refine TlbOnly.alloc ?_ _ | with_reducible refine TlbOnly.trans ?_ (by with_reducible assumption) | with_reducible refine TlbOnly.call ?_ (by with_reducible assumption)))).call hb5).call hb6).call hb7).rest hb8 ((hr2.other hNE.symm (by repeat (first | with_reducible exact TlbOnly.refl _ _ | with_reducible refine TlbOnly.drew ?_ | with_reducible refine TlbOnly.drewN ?_ _ | with_reducible refine TlbOnly.alloc ?_ _ | with_reducible refine TlbOnly.trans ?_ (by with_reducible assumption) | with_reducible refine TlbOnly.call ?_ (by with_reducible assumption))) : RefAt _ _ _).lt)
              have hW8 := Lib.hid (tail_below Ba hb5 hb6 hb7 hb8 (Nat.le_refl _) (Nat.le_succ _) (by repeat (first | with_reducible exact Only2.refl _ _ _ | with_reducible refine Only2.drew ?_ | with_reducible refine Only2.drewN ?_ _ | with_reducible refine Only2.alloc ?_ _ | with_reducible refine Only2.one ?_ (by with_reducible assumption) | with_reducible refine Only2.two ?_ (by with_reducible assumption) | with_reducible refine Only2.call ?_ (by with_reducible assumption))))
              have HT8 := Lib.hid hT8
              have HR8 := Lib.hid hR8
              go_roundw
              case rel => first | exact ⟨k + 1, S1, by omega, by go_num, HT8.out, HR8.out, HG1.out, hW8.out⟩ | ((repeat apply Exists.intro); exact ⟨⟨k + 1, S1, by omega, by go_num, HT8.out, HR8.out, HG1.out, hW8.out⟩, rfl⟩)
              case measure => simp [intOf]; omega
        · have HG1 := HG
          go_wp2
          obtain ⟨wa, hwa⟩ : ∃ wa, wa = wr.alloc (.cells #[.int .i64 3, .int .i64 x.s, .int .i64 x.p, .int .i64 x.f, .bool x.r, .bool x.w, .int .i64 i, .int .i64 j] 35) := ⟨_, rfl⟩
          have y0 : wa.cell? ⟨wr.heap.size, 0, none⟩ = some (.int .i64 3) := by rw [hwa]; simp [go_sem]
          have y1 : wa.cell? ⟨wr.heap.size, 1, none⟩ = some (.int .i64 x.s) := by rw [hwa]; simp [go_sem]
          have y2 : wa.cell? ⟨wr.heap.size, 2, none⟩ = some (.int .i64 x.p) := by rw [hwa]; simp [go_sem]
          have y3 : wa.cell? ⟨wr.heap.size, 3, none⟩ = some (.int .i64 x.f) := by rw [hwa]; simp [go_sem]
          have y4 : wa.cell? ⟨wr.heap.size, 4, none⟩ = some (.bool x.r) := by rw [hwa]; simp [go_sem]
          have y5 : wa.cell? ⟨wr.heap.size, 5, none⟩ = some (.bool x.w) := by rw [hwa]; simp [go_sem]
          have y6 : wa.cell? ⟨wr.heap.size, 6, none⟩ = some (.int .i64 i) := by rw [hwa]; simp [go_sem]
          have y7 : wa.cell? ⟨wr.heap.size, 7, none⟩ = some (.int .i64 j) := by rw [hwa]; simp [go_sem]
          have hta : TlbAt wa W.heap.size S := hwa ▸ HT.out.call (bal (Below.refl _ _) _)
          have hra : RefAt wa (W.heap.size + 1) S := hwa ▸ HR.out.call (bal (Below.refl _ _) _)
          have Ba : Below W.heap.size W wa := hwa ▸ hB.alloc (Nat.le_of_lt hb1) _
          have hXa : wr.heap.size < wa.heap.size := by rw [hwa]; simp
          have HTA := Lib.hid hta
          have HRA := Lib.hid hra
          rw [← hwa]
          clear hwa hta hra c0 c1 c2 c3 c4 c5 c6 c7
          go_quiet (fail)
          have ht1 := HTA.out
          have hr2 := HRA.out
          all_goals
            go_wp2_with (first
              | (go_at_call 22; refine (tall_own _ W.heap.size S (ht1.other hNE (by repeat (first | with_reducible exact TlbOnly.refl _ _ | with_reducible refine TlbOnly.drew ?_ | with_reducible refine TlbOnly.drewN ?_ _ | with_reducible refine TlbOnly.alloc ?_ _ | with_reducible refine TlbOnly.trans ?_ (by with_reducible assumption) | with_reducible refine TlbOnly.call ?_ (by with_reducible assumption)))) HG1.out.ok).mono ?_; rintro e w5 ⟨p5, c5, g5, rfl, hO5, hb5⟩; have HO5 := Lib.hid hO5; clear hO5)
              | (go_at_call 24; refine (rall_own _ (W.heap.size + 1) S (hr2.other hNE.symm (by repeat (first | with_reducible exact TlbOnly.refl _ _ | with_reducible refine TlbOnly.drew ?_ | with_reducible refine TlbOnly.drewN ?_ _ | with_reducible refine TlbOnly.alloc ?_ _ | with_reducible refine TlbOnly.trans ?_ (by with_reducible assumption) | with_reducible refine TlbOnly.call ?_ (by with_reducible assumption)))) HG1.out.ok).mono ?_; rintro e w6 ⟨p6, c6, g6, rfl, hO6, hb6⟩; have HO6 := Lib.hid hO6; clear hO6)
              | (go_at_call 23; refine (sameT_yes _ p5 p6 c5 c6 g5 g6 (allN S) (allT S) (by have := fullP_len S 8; unfold allN; omega) (HO5.out.below hb6).at_ HO6.out.at_ (HO5.out.below hb6).rows HO6.out.rows).mono ?_; rintro e w7 ⟨rfl, hb7⟩)
              | (go_at_call 25; refine (overT_own _ _ g5 p5 (allN S) c5 (allT S) ((HO5.out.below hb6).below hb7) (fullP_len S 8) (Nat.le_trans hb5.size (Nat.le_trans hb6.size hb7.size))).mono ?_; rintro e w8 ⟨⟨uu, rfl⟩, hb8⟩))
            all_goals
              have hT8 := ((((ht1.other hNE (by repeat (first | with_reducible exact TlbOnly.refl _ _ | with_reducible refine TlbOnly.drew ?_ | with_reducible refine TlbOnly.drewN ?_ _ | with_reducible refine TlbOnly.alloc ?_ _ | with_reducible refine TlbOnly.trans ?_ (by with_reducible assumption) | with_reducible refine TlbOnly.call ?_ (by with_reducible assumption)))).call hb5).call hb6).call hb7).rest hb8 ((ht1.other hNE (by repeat (first | with_reducible exact TlbOnly.refl _ _ | with_reducible refine TlbOnly.drew ?_ | with_reducible refine TlbOnly.drewN ?_ _ | with_reducible refine TlbOnly.alloc ?_ _ | with_reducible refine TlbOnly.trans ?_ (by with_reducible assumption) | with_reducible refine TlbOnly.call ?_ (by with_reducible assumption))) : TlbAt _ _ _).lt)
              have hR8 := ((((hr2.other hNE.symm (by repeat (first | with_reducible exact TlbOnly.refl _ _ | with_reducible refine TlbOnly.drew ?_ | with_reducible refine TlbOnly.drewN ?_ _ | with_reducible refine TlbOnly.alloc ?_ _ | with_reducible refine TlbOnly.trans ?_ (by with_reducible assumption) | with_reducible refine TlbOnly.call ?_ (by with_reducible assumption)))).call hb5).call hb6).call hb7).rest hb8 ((hr2.other hNE.symm (by repeat (first | with_reducible exact TlbOnly.refl _ _ | with_reducible refine TlbOnly.drew ?_ | with_reducible refine TlbOnly.drewN ?_ _ | with_reducible refine TlbOnly.alloc ?_ _ | with_reducible refine TlbOnly.trans ?_ (by with_reducible assumption) | with_reducible refine TlbOnly.call ?_ (by with_reducible assumption))) : RefAt _ _ _).lt)
              have hW8 := Lib.hid (tail_below Ba hb5 hb6 hb7 hb8 (Nat.le_refl _) (Nat.le_succ _) (by repeat (first | with_reducible exact Only2.refl _ _ _ | with_reducible refine Only2.drew ?_ | with_reducible refine Only2.drewN ?_ _ | with_reducible refine Only2.alloc ?_ _ | with_reducible refine Only2.one ?_ (by with_reducible assumption) | with_reducible refine Only2.two ?_ (by with_reducible assumption) | with_reducible refine Only2.call ?_ (by with_reducible assumption))))
              have HT8 := Lib.hid hT8
              have HR8 := Lib.hid hR8
              go_roundw
              case rel => first | exact ⟨k + 1, S, by omega, by go_num, HT8.out, HR8.out, HG1.out, hW8.out⟩ | ((repeat apply Exists.intro); exact ⟨⟨k + 1, S, by omega, by go_num, HT8.out, HR8.out, HG1.out, hW8.out⟩, rfl⟩)
              case measure => simp [intOf]; omega
      by_cases h4 : d = 4
      · subst h4
        have hG1 := good_dropF HG.out (spaceOut x.s)
        obtain ⟨⟨S1, m⟩, hS1⟩ : ∃ s, dropF S (spaceOut x.s) (fullP S 8) = s := ⟨_, rfl⟩
        rw [hS1] at hG1
        have HG1 : Hid (Good S1) := Lib.hid hG1
        have HS1 := Lib.hid hS1
        clear hG1 hS1
        have HOU := Lib.hid (out_space x.s)
        go_wp2
        obtain ⟨wa, hwa⟩ : ∃ wa, wa = wr.alloc (.cells #[.int .i64 4, .int .i64 x.s, .int .i64 x.p, .int .i64 x.f, .bool x.r, .bool x.w, .int .i64 i, .int .i64 j] 35) := ⟨_, rfl⟩
        have y0 : wa.cell? ⟨wr.heap.size, 0, none⟩ = some (.int .i64 4) := by rw [hwa]; simp [go_sem]
        have y1 : wa.cell? ⟨wr.heap.size, 1, none⟩ = some (.int .i64 x.s) := by rw [hwa]; simp [go_sem]
        have y2 : wa.cell? ⟨wr.heap.size, 2, none⟩ = some (.int .i64 x.p) := by rw [hwa]; simp [go_sem]
        have y3 : wa.cell? ⟨wr.heap.size, 3, none⟩ = some (.int .i64 x.f) := by rw [hwa]; simp [go_sem]
        have y4 : wa.cell? ⟨wr.heap.size, 4, none⟩ = some (.bool x.r) := by rw [hwa]; simp [go_sem]
        have y5 : wa.cell? ⟨wr.heap.size, 5, none⟩ = some (.bool x.w) := by rw [hwa]; simp [go_sem]
        have y6 : wa.cell? ⟨wr.heap.size, 6, none⟩ = some (.int .i64 i) := by rw [hwa]; simp [go_sem]
        have y7 : wa.cell? ⟨wr.heap.size, 7, none⟩ = some (.int .i64 j) := by rw [hwa]; simp [go_sem]
        have hta : TlbAt wa W.heap.size S := hwa ▸ HT.out.call (bal (Below.refl _ _) _)
        have hra : RefAt wa (W.heap.size + 1) S := hwa ▸ HR.out.call (bal (Below.refl _ _) _)
        have Ba : Below W.heap.size W wa := hwa ▸ hB.alloc (Nat.le_of_lt hb1) _
        have hXa : wr.heap.size < wa.heap.size := by rw [hwa]; simp
        have HTA := Lib.hid hta
        have HRA := Lib.hid hra
        rw [← hwa]
        clear hwa hta hra c0 c1 c2 c3 c4 c5 c6 c7
        go_region_held3 (fun w' => w'.cell? ⟨wr.heap.size, 0, none⟩ = some (.int .i64 4) ∧ w'.cell? ⟨wr.heap.size, 1, none⟩ = some (.int .i64 x.s) ∧ w'.cell? ⟨wr.heap.size, 2, none⟩ = some (.int .i64 x.p) ∧ w'.cell? ⟨wr.heap.size, 3, none⟩ = some (.int .i64 x.f) ∧ w'.cell? ⟨wr.heap.size, 4, none⟩ = some (.bool x.r) ∧ w'.cell? ⟨wr.heap.size, 5, none⟩ = some (.bool x.w) ∧ w'.cell? ⟨wr.heap.size, 6, none⟩ = some (.int .i64 i) ∧ w'.cell? ⟨wr.heap.size, 7, none⟩ = some (.int .i64 j) ∧ Only2 W.heap.size (W.heap.size + 1) wa w')
          (first | (refine keepA y0 y1 y2 y3 y4 y5 y6 y7 hXa hX1 hX2 ?_; repeat (first | with_reducible exact Only2.refl _ _ _ | with_reducible refine Only2.drew ?_ | with_reducible refine Only2.drewN ?_ _ | with_reducible refine Only2.alloc ?_ _ | with_reducible refine Only2.one ?_ (by with_reducible assumption) | with_reducible refine Only2.two ?_ (by with_reducible assumption) | with_reducible refine Only2.call ?_ (by with_reducible assumption))))
          (first
            | (go_at_call 20; refine (dropSpace_any _ W.heap.size S x.s (HTA.out.other hNE (by repeat (first | with_reducible exact TlbOnly.refl _ _ | with_reducible refine TlbOnly.drew ?_ | with_reducible refine TlbOnly.drewN ?_ _ | with_reducible refine TlbOnly.alloc ?_ _ | with_reducible refine TlbOnly.trans ?_ (by with_reducible assumption) | with_reducible refine TlbOnly.call ?_ (by with_reducible assumption)))) HG.out.ok.way).mono ?_; simp only [HS1.out]; rintro e w1 ⟨rfl, ht1, ho1⟩)
            | (go_at_call 19; refine (refDrop_any _ (W.heap.size + 1) S x.s (-1) false (HRA.out.other hNE.symm (by repeat (first | with_reducible exact TlbOnly.refl _ _ | with_reducible refine TlbOnly.drew ?_ | with_reducible refine TlbOnly.drewN ?_ _ | with_reducible refine TlbOnly.alloc ?_ _ | with_reducible refine TlbOnly.trans ?_ (by with_reducible assumption) | with_reducible refine TlbOnly.call ?_ (by with_reducible assumption)))) HG.out.ok).mono ?_; simp only [HOU.out, HS1.out]; rintro e w2 ⟨rfl, hr2, ho2⟩))
        all_goals
          go_wp2_with (first
            | (go_at_call 22; refine (tall_own _ W.heap.size S1 (ht1.other hNE (by repeat (first | with_reducible exact TlbOnly.refl _ _ | with_reducible refine TlbOnly.drew ?_ | with_reducible refine TlbOnly.drewN ?_ _ | with_reducible refine TlbOnly.alloc ?_ _ | with_reducible refine TlbOnly.trans ?_ (by with_reducible assumption) | with_reducible refine TlbOnly.call ?_ (by with_reducible assumption)))) HG1.out.ok).mono ?_; rintro e w5 ⟨p5, c5, g5, rfl, hO5, hb5⟩; have HO5 := Lib.hid hO5; clear hO5)
            | (go_at_call 24; refine (rall_own _ (W.heap.size + 1) S1 (hr2.other hNE.symm (by repeat (first | with_reducible exact TlbOnly.refl _ _ | with_reducible refine TlbOnly.drew ?_ | with_reducible refine TlbOnly.drewN ?_ _ | with_reducible refine TlbOnly.alloc ?_ _ | with_reducible refine TlbOnly.trans ?_ (by with_reducible assumption) | with_reducible refine TlbOnly.call ?_ (by with_reducible assumption)))) HG1.out.ok).mono ?_; rintro e w6 ⟨p6, c6, g6, rfl, hO6, hb6⟩; have HO6 := Lib.hid hO6; clear hO6)
            | (go_at_call 23; refine (sameT_yes _ p5 p6 c5 c6 g5 g6 (allN S1) (allT S1) (by have := fullP_len S1 8; unfold allN; omega) (HO5.out.below hb6).at_ HO6.out.at_ (HO5.out.below hb6).rows HO6.out.rows).mono ?_; rintro e w7 ⟨rfl, hb7⟩)
            | (go_at_call 25; refine (overT_own _ _ g5 p5 (allN S1) c5 (allT S1) ((HO5.out.below hb6).below hb7) (fullP_len S1 8) (Nat.le_trans hb5.size (Nat.le_trans hb6.size hb7.size))).mono ?_; rintro e w8 ⟨⟨uu, rfl⟩, hb8⟩))
          all_goals
            have hT8 := ((((ht1.other hNE (by repeat (first | with_reducible exact TlbOnly.refl _ _ | with_reducible refine TlbOnly.drew ?_ | with_reducible refine TlbOnly.drewN ?_ _ | with_reducible refine TlbOnly.alloc ?_ _ | with_reducible refine TlbOnly.trans ?_ (by with_reducible assumption) | with_reducible refine TlbOnly.call ?_ (by with_reducible assumption)))).call hb5).call hb6).call hb7).rest hb8 ((ht1.other hNE (by repeat (first | with_reducible exact TlbOnly.refl _ _ | with_reducible refine TlbOnly.drew ?_ | with_reducible refine TlbOnly.drewN ?_ _ | with_reducible refine TlbOnly.alloc ?_ _ | with_reducible refine TlbOnly.trans ?_ (by with_reducible assumption) | with_reducible refine TlbOnly.call ?_ (by with_reducible assumption))) : TlbAt _ _ _).lt)
            have hR8 := ((((hr2.other hNE.symm (by repeat (first | with_reducible exact TlbOnly.refl _ _ | with_reducible refine TlbOnly.drew ?_ | with_reducible refine TlbOnly.drewN ?_ _ | with_reducible refine TlbOnly.alloc ?_ _ | with_reducible refine TlbOnly.trans ?_ (by with_reducible assumption) | with_reducible refine TlbOnly.call ?_ (by with_reducible assumption)))).call hb5).call hb6).call hb7).rest hb8 ((hr2.other hNE.symm (by repeat (first | with_reducible exact TlbOnly.refl _ _ | with_reducible refine TlbOnly.drew ?_ | with_reducible refine TlbOnly.drewN ?_ _ | with_reducible refine TlbOnly.alloc ?_ _ | with_reducible refine TlbOnly.trans ?_ (by with_reducible assumption) | with_reducible refine TlbOnly.call ?_ (by with_reducible assumption))) : RefAt _ _ _).lt)
            have hW8 := Lib.hid (tail_below Ba hb5 hb6 hb7 hb8 (Nat.le_refl _) (Nat.le_succ _) (by repeat (first | with_reducible exact Only2.refl _ _ _ | with_reducible refine Only2.drew ?_ | with_reducible refine Only2.drewN ?_ _ | with_reducible refine Only2.alloc ?_ _ | with_reducible refine Only2.one ?_ (by with_reducible assumption) | with_reducible refine Only2.two ?_ (by with_reducible assumption) | with_reducible refine Only2.call ?_ (by with_reducible assumption))))
            have HT8 := Lib.hid hT8
            have HR8 := Lib.hid hR8
            go_roundw
            case rel => first | exact ⟨k + 1, S1, by omega, by go_num, HT8.out, HR8.out, HG1.out, hW8.out⟩ | ((repeat apply Exists.intro); exact ⟨⟨k + 1, S1, by omega, by go_num, HT8.out, HR8.out, HG1.out, hW8.out⟩, rfl⟩)
            case measure => simp [intOf]; omega
      by_cases h5 : d = 5
      · subst h5
        have hG1 := good_dropF HG.out (fun _ => true)
        obtain ⟨⟨S1, m⟩, hS1⟩ : ∃ s, dropF S (fun _ => true) (fullP S 8) = s := ⟨_, rfl⟩
        rw [hS1] at hG1
        have HG1 : Hid (Good S1) := Lib.hid hG1
        have HS1 := Lib.hid hS1
        clear hG1 hS1
        have HOU := Lib.hid out_all
        go_wp2_with (first
          | (go_at_call 21; refine (dropAll_any _ W.heap.size S (HT.out.other hNE (by repeat (first | with_reducible exact TlbOnly.refl _ _ | with_reducible refine TlbOnly.drew ?_ | with_reducible refine TlbOnly.drewN ?_ _ | with_reducible refine TlbOnly.alloc ?_ _ | with_reducible refine TlbOnly.trans ?_ (by with_reducible assumption) | with_reducible refine TlbOnly.call ?_ (by with_reducible assumption)))) HG.out.ok.way).mono ?_; simp only [HS1.out]; rintro e w1 ⟨rfl, ht1, ho1⟩)
          | (go_at_call 19; refine (refDrop_any _ (W.heap.size + 1) S 0 0 true (HR.out.other hNE.symm (by repeat (first | with_reducible exact TlbOnly.refl _ _ | with_reducible refine TlbOnly.drew ?_ | with_reducible refine TlbOnly.drewN ?_ _ | with_reducible refine TlbOnly.alloc ?_ _ | with_reducible refine TlbOnly.trans ?_ (by with_reducible assumption) | with_reducible refine TlbOnly.call ?_ (by with_reducible assumption)))) HG.out.ok).mono ?_; simp only [HOU.out, HS1.out]; rintro e w2 ⟨rfl, hr2, ho2⟩)
            | (go_at_call 22; refine (tall_own _ W.heap.size S1 (ht1.other hNE (by repeat (first | with_reducible exact TlbOnly.refl _ _ | with_reducible refine TlbOnly.drew ?_ | with_reducible refine TlbOnly.drewN ?_ _ | with_reducible refine TlbOnly.alloc ?_ _ | with_reducible refine TlbOnly.trans ?_ (by with_reducible assumption) | with_reducible refine TlbOnly.call ?_ (by with_reducible assumption)))) HG1.out.ok).mono ?_; rintro e w5 ⟨p5, c5, g5, rfl, hO5, hb5⟩; have HO5 := Lib.hid hO5; clear hO5)
            | (go_at_call 24; refine (rall_own _ (W.heap.size + 1) S1 (hr2.other hNE.symm (by repeat (first | with_reducible exact TlbOnly.refl _ _ | with_reducible refine TlbOnly.drew ?_ | with_reducible refine TlbOnly.drewN ?_ _ | with_reducible refine TlbOnly.alloc ?_ _ | with_reducible refine TlbOnly.trans ?_ (by with_reducible assumption) | with_reducible refine TlbOnly.call ?_ (by with_reducible assumption)))) HG1.out.ok).mono ?_; rintro e w6 ⟨p6, c6, g6, rfl, hO6, hb6⟩; have HO6 := Lib.hid hO6; clear hO6)
            | (go_at_call 23; refine (sameT_yes _ p5 p6 c5 c6 g5 g6 (allN S1) (allT S1) (by have := fullP_len S1 8; unfold allN; omega) (HO5.out.below hb6).at_ HO6.out.at_ (HO5.out.below hb6).rows HO6.out.rows).mono ?_; rintro e w7 ⟨rfl, hb7⟩)
            | (go_at_call 25; refine (overT_own _ _ g5 p5 (allN S1) c5 (allT S1) ((HO5.out.below hb6).below hb7) (fullP_len S1 8) (Nat.le_trans hb5.size (Nat.le_trans hb6.size hb7.size))).mono ?_; rintro e w8 ⟨⟨uu, rfl⟩, hb8⟩))
        all_goals
          have hT8 := ((((ht1.other hNE (by repeat (first | with_reducible exact TlbOnly.refl _ _ | with_reducible refine TlbOnly.drew ?_ | with_reducible refine TlbOnly.drewN ?_ _ | with_reducible refine TlbOnly.alloc ?_ _ | with_reducible refine TlbOnly.trans ?_ (by with_reducible assumption) | with_reducible refine TlbOnly.call ?_ (by with_reducible assumption)))).call hb5).call hb6).call hb7).rest hb8 ((ht1.other hNE (by repeat (first | with_reducible exact TlbOnly.refl _ _ | with_reducible refine TlbOnly.drew ?_ | with_reducible refine TlbOnly.drewN ?_ _ | with_reducible refine TlbOnly.alloc ?_ _ | with_reducible refine TlbOnly.trans ?_ (by with_reducible assumption) | with_reducible refine TlbOnly.call ?_ (by with_reducible assumption))) : TlbAt _ _ _).lt)
          have hR8 := ((((hr2.other hNE.symm (by repeat (first | with_reducible exact TlbOnly.refl _ _ | with_reducible refine TlbOnly.drew ?_ | with_reducible refine TlbOnly.drewN ?_ _ | with_reducible refine TlbOnly.alloc ?_ _ | with_reducible refine TlbOnly.trans ?_ (by with_reducible assumption) | with_reducible refine TlbOnly.call ?_ (by with_reducible assumption)))).call hb5).call hb6).call hb7).rest hb8 ((hr2.other hNE.symm (by repeat (first | with_reducible exact TlbOnly.refl _ _ | with_reducible refine TlbOnly.drew ?_ | with_reducible refine TlbOnly.drewN ?_ _ | with_reducible refine TlbOnly.alloc ?_ _ | with_reducible refine TlbOnly.trans ?_ (by with_reducible assumption) | with_reducible refine TlbOnly.call ?_ (by with_reducible assumption))) : RefAt _ _ _).lt)
          have hW8 := Lib.hid (tail_below hB hb5 hb6 hb7 hb8 (Nat.le_refl _) (Nat.le_succ _) (by repeat (first | with_reducible exact Only2.refl _ _ _ | with_reducible refine Only2.drew ?_ | with_reducible refine Only2.drewN ?_ _ | with_reducible refine Only2.alloc ?_ _ | with_reducible refine Only2.one ?_ (by with_reducible assumption) | with_reducible refine Only2.two ?_ (by with_reducible assumption) | with_reducible refine Only2.call ?_ (by with_reducible assumption))))
          have HT8 := Lib.hid hT8
          have HR8 := Lib.hid hR8
          go_roundw
          case rel => first | exact ⟨k + 1, S1, by omega, by go_num, HT8.out, HR8.out, HG1.out, hW8.out⟩ | ((repeat apply Exists.intro); exact ⟨⟨k + 1, S1, by omega, by go_num, HT8.out, HR8.out, HG1.out, hW8.out⟩, rfl⟩)
          case measure => simp [intOf]; omega
      by_cases h1 : d = 1
      · subst h1
        have HG1 := HG
        have ht1 := HT.out
        have hr2 := HR.out
        have hq : ∀ w, (binOp .eql 28 (trX (findS S x.s x.p).1) (trX (findS S x.s x.p).1)).run Try.prog w = .ok (.bool true) w := fun w => by rw [eqT]; simp
        obtain ⟨⟨r0, rb⟩, hfr⟩ : ∃ r, findS S x.s x.p = r := ⟨_, rfl⟩
        have HFR := Lib.hid hfr
        rw [hfr] at hq
        simp only at hq
        clear hfr
        go_wp2_with (first
          | (go_at_call 14; refine (tfind_any _ W.heap.size S x.s x.p (HT.out.other hNE (by repeat (first | with_reducible exact TlbOnly.refl _ _ | with_reducible refine TlbOnly.drew ?_ | with_reducible refine TlbOnly.drewN ?_ _ | with_reducible refine TlbOnly.alloc ?_ _ | with_reducible refine TlbOnly.trans ?_ (by with_reducible assumption) | with_reducible refine TlbOnly.call ?_ (by with_reducible assumption))))).mono ?_; simp only [HFR.out]; rintro e w1 ⟨rfl, hb21⟩; obtain ⟨hc21, hf21⟩ := bcell hb21; have hz21 : wr.heap.size < w1.heap.size := (by have := hb21.size; simp at this; omega))
          | (go_at_call 15; refine (refFind_any _ (W.heap.size + 1) S x.s x.p (HR.out.other hNE.symm (by repeat (first | with_reducible exact TlbOnly.refl _ _ | with_reducible refine TlbOnly.drew ?_ | with_reducible refine TlbOnly.drewN ?_ _ | with_reducible refine TlbOnly.alloc ?_ _ | with_reducible refine TlbOnly.trans ?_ (by with_reducible assumption) | with_reducible refine TlbOnly.call ?_ (by with_reducible assumption)))) HG.out).mono ?_; simp only [HFR.out]; rintro e w2 ⟨rfl, hb22⟩; obtain ⟨hc22, hf22⟩ := bcell hb22; have hz22 : w1.heap.size < w2.heap.size := (by have := hb22.size; simp at this; omega); have hz23 : wr.heap.size < w2.heap.size := (by omega))
            | (go_at_call 22; refine (tall_own _ W.heap.size S (ht1.other hNE (by repeat (first | with_reducible exact TlbOnly.refl _ _ | with_reducible refine TlbOnly.drew ?_ | with_reducible refine TlbOnly.drewN ?_ _ | with_reducible refine TlbOnly.alloc ?_ _ | with_reducible refine TlbOnly.trans ?_ (by with_reducible assumption) | with_reducible refine TlbOnly.call ?_ (by with_reducible assumption)))) HG1.out.ok).mono ?_; rintro e w5 ⟨p5, c5, g5, rfl, hO5, hb5⟩; have HO5 := Lib.hid hO5; clear hO5)
            | (go_at_call 24; refine (rall_own _ (W.heap.size + 1) S (hr2.other hNE.symm (by repeat (first | with_reducible exact TlbOnly.refl _ _ | with_reducible refine TlbOnly.drew ?_ | with_reducible refine TlbOnly.drewN ?_ _ | with_reducible refine TlbOnly.alloc ?_ _ | with_reducible refine TlbOnly.trans ?_ (by with_reducible assumption) | with_reducible refine TlbOnly.call ?_ (by with_reducible assumption)))) HG1.out.ok).mono ?_; rintro e w6 ⟨p6, c6, g6, rfl, hO6, hb6⟩; have HO6 := Lib.hid hO6; clear hO6)
            | (go_at_call 23; refine (sameT_yes _ p5 p6 c5 c6 g5 g6 (allN S) (allT S) (by have := fullP_len S 8; unfold allN; omega) (HO5.out.below hb6).at_ HO6.out.at_ (HO5.out.below hb6).rows HO6.out.rows).mono ?_; rintro e w7 ⟨rfl, hb7⟩)
            | (go_at_call 25; refine (overT_own _ _ g5 p5 (allN S) c5 (allT S) ((HO5.out.below hb6).below hb7) (fullP_len S 8) (Nat.le_trans hb5.size (Nat.le_trans hb6.size hb7.size))).mono ?_; rintro e w8 ⟨⟨uu, rfl⟩, hb8⟩))
        all_goals
          have hT8 := ((((ht1.other hNE (by repeat (first | with_reducible exact TlbOnly.refl _ _ | with_reducible refine TlbOnly.drew ?_ | with_reducible refine TlbOnly.drewN ?_ _ | with_reducible refine TlbOnly.alloc ?_ _ | with_reducible refine TlbOnly.trans ?_ (by with_reducible assumption) | with_reducible refine TlbOnly.call ?_ (by with_reducible assumption)))).call hb5).call hb6).call hb7).rest hb8 ((ht1.other hNE (by repeat (first | with_reducible exact TlbOnly.refl _ _ | with_reducible refine TlbOnly.drew ?_ | with_reducible refine TlbOnly.drewN ?_ _ | with_reducible refine TlbOnly.alloc ?_ _ | with_reducible refine TlbOnly.trans ?_ (by with_reducible assumption) | with_reducible refine TlbOnly.call ?_ (by with_reducible assumption))) : TlbAt _ _ _).lt)
          have hR8 := ((((hr2.other hNE.symm (by repeat (first | with_reducible exact TlbOnly.refl _ _ | with_reducible refine TlbOnly.drew ?_ | with_reducible refine TlbOnly.drewN ?_ _ | with_reducible refine TlbOnly.alloc ?_ _ | with_reducible refine TlbOnly.trans ?_ (by with_reducible assumption) | with_reducible refine TlbOnly.call ?_ (by with_reducible assumption)))).call hb5).call hb6).call hb7).rest hb8 ((hr2.other hNE.symm (by repeat (first | with_reducible exact TlbOnly.refl _ _ | with_reducible refine TlbOnly.drew ?_ | with_reducible refine TlbOnly.drewN ?_ _ | with_reducible refine TlbOnly.alloc ?_ _ | with_reducible refine TlbOnly.trans ?_ (by with_reducible assumption) | with_reducible refine TlbOnly.call ?_ (by with_reducible assumption))) : RefAt _ _ _).lt)
          have hW8 := Lib.hid (tail_below hB hb5 hb6 hb7 hb8 (Nat.le_refl _) (Nat.le_succ _) (by repeat (first | with_reducible exact Only2.refl _ _ _ | with_reducible refine Only2.drew ?_ | with_reducible refine Only2.drewN ?_ _ | with_reducible refine Only2.alloc ?_ _ | with_reducible refine Only2.one ?_ (by with_reducible assumption) | with_reducible refine Only2.two ?_ (by with_reducible assumption) | with_reducible refine Only2.call ?_ (by with_reducible assumption))))
          have HT8 := Lib.hid hT8
          have HR8 := Lib.hid hR8
          go_roundw
          case rel => first | exact ⟨k + 1, S, by omega, by go_num, HT8.out, HR8.out, HG1.out, hW8.out⟩ | ((repeat apply Exists.intro); exact ⟨⟨k + 1, S, by omega, by go_num, HT8.out, HR8.out, HG1.out, hW8.out⟩, rfl⟩)
          case measure => simp [intOf]; omega
      have HG1 := HG
      have ht1 := HT.out
      have hr2 := HR.out
      have k0 : (d == 0) = false := beq_eq_false_iff_ne.2 h0
      have k1 : (d == 1) = false := beq_eq_false_iff_ne.2 h1
      have k2 : (d == 2) = false := beq_eq_false_iff_ne.2 h2
      have k3 : (d == 3) = false := beq_eq_false_iff_ne.2 h3
      have k4 : (d == 4) = false := beq_eq_false_iff_ne.2 h4
      have k5 : (d == 5) = false := beq_eq_false_iff_ne.2 h5
      clear h0 h1 h2 h3 h4 h5
      go_wp2_with (first
        | (go_at_call 22; refine (tall_own _ W.heap.size S (ht1.other hNE (by repeat (first | with_reducible exact TlbOnly.refl _ _ | with_reducible refine TlbOnly.drew ?_ | with_reducible refine TlbOnly.drewN ?_ _ | with_reducible refine TlbOnly.alloc ?_ _ | with_reducible refine TlbOnly.trans ?_ (by with_reducible assumption) | with_reducible refine TlbOnly.call ?_ (by with_reducible assumption)))) HG1.out.ok).mono ?_; rintro e w5 ⟨p5, c5, g5, rfl, hO5, hb5⟩; have HO5 := Lib.hid hO5; clear hO5)
        | (go_at_call 24; refine (rall_own _ (W.heap.size + 1) S (hr2.other hNE.symm (by repeat (first | with_reducible exact TlbOnly.refl _ _ | with_reducible refine TlbOnly.drew ?_ | with_reducible refine TlbOnly.drewN ?_ _ | with_reducible refine TlbOnly.alloc ?_ _ | with_reducible refine TlbOnly.trans ?_ (by with_reducible assumption) | with_reducible refine TlbOnly.call ?_ (by with_reducible assumption)))) HG1.out.ok).mono ?_; rintro e w6 ⟨p6, c6, g6, rfl, hO6, hb6⟩; have HO6 := Lib.hid hO6; clear hO6)
        | (go_at_call 23; refine (sameT_yes _ p5 p6 c5 c6 g5 g6 (allN S) (allT S) (by have := fullP_len S 8; unfold allN; omega) (HO5.out.below hb6).at_ HO6.out.at_ (HO5.out.below hb6).rows HO6.out.rows).mono ?_; rintro e w7 ⟨rfl, hb7⟩)
        | (go_at_call 25; refine (overT_own _ _ g5 p5 (allN S) c5 (allT S) ((HO5.out.below hb6).below hb7) (fullP_len S 8) (Nat.le_trans hb5.size (Nat.le_trans hb6.size hb7.size))).mono ?_; rintro e w8 ⟨⟨uu, rfl⟩, hb8⟩))
      all_goals
        have hT8 := ((((ht1.other hNE (by repeat (first | with_reducible exact TlbOnly.refl _ _ | with_reducible refine TlbOnly.drew ?_ | with_reducible refine TlbOnly.drewN ?_ _ | with_reducible refine TlbOnly.alloc ?_ _ | with_reducible refine TlbOnly.trans ?_ (by with_reducible assumption) | with_reducible refine TlbOnly.call ?_ (by with_reducible assumption)))).call hb5).call hb6).call hb7).rest hb8 ((ht1.other hNE (by repeat (first | with_reducible exact TlbOnly.refl _ _ | with_reducible refine TlbOnly.drew ?_ | with_reducible refine TlbOnly.drewN ?_ _ | with_reducible refine TlbOnly.alloc ?_ _ | with_reducible refine TlbOnly.trans ?_ (by with_reducible assumption) | with_reducible refine TlbOnly.call ?_ (by with_reducible assumption))) : TlbAt _ _ _).lt)
        have hR8 := ((((hr2.other hNE.symm (by repeat (first | with_reducible exact TlbOnly.refl _ _ | with_reducible refine TlbOnly.drew ?_ | with_reducible refine TlbOnly.drewN ?_ _ | with_reducible refine TlbOnly.alloc ?_ _ | with_reducible refine TlbOnly.trans ?_ (by with_reducible assumption) | with_reducible refine TlbOnly.call ?_ (by with_reducible assumption)))).call hb5).call hb6).call hb7).rest hb8 ((hr2.other hNE.symm (by repeat (first | with_reducible exact TlbOnly.refl _ _ | with_reducible refine TlbOnly.drew ?_ | with_reducible refine TlbOnly.drewN ?_ _ | with_reducible refine TlbOnly.alloc ?_ _ | with_reducible refine TlbOnly.trans ?_ (by with_reducible assumption) | with_reducible refine TlbOnly.call ?_ (by with_reducible assumption))) : RefAt _ _ _).lt)
        have hW8 := Lib.hid (tail_below hB hb5 hb6 hb7 hb8 (Nat.le_refl _) (Nat.le_succ _) (by repeat (first | with_reducible exact Only2.refl _ _ _ | with_reducible refine Only2.drew ?_ | with_reducible refine Only2.drewN ?_ _ | with_reducible refine Only2.alloc ?_ _ | with_reducible refine Only2.one ?_ (by with_reducible assumption) | with_reducible refine Only2.two ?_ (by with_reducible assumption) | with_reducible refine Only2.call ?_ (by with_reducible assumption))))
        have HT8 := Lib.hid hT8
        have HR8 := Lib.hid hR8
        go_roundw
        case rel => first | exact ⟨k + 1, S, by omega, by go_num, HT8.out, HR8.out, HG1.out, hW8.out⟩ | ((repeat apply Exists.intro); exact ⟨⟨k + 1, S, by omega, by go_num, HT8.out, HR8.out, HG1.out, hW8.out⟩, rfl⟩)
        case measure => simp [intOf]; omega
    · obtain rfl : k = n := by omega
      have ht1 := HT.out
      have hr2 := HR.out
      go_wp2_with (first
        | (go_at_call 22; refine (tall_own _ W.heap.size S (ht1.other hNE (by repeat (first | with_reducible exact TlbOnly.refl _ _ | with_reducible refine TlbOnly.drew ?_ | with_reducible refine TlbOnly.drewN ?_ _ | with_reducible refine TlbOnly.alloc ?_ _ | with_reducible refine TlbOnly.trans ?_ (by with_reducible assumption) | with_reducible refine TlbOnly.call ?_ (by with_reducible assumption)))) HG.out.ok).mono ?_; rintro e w5 ⟨p5, c5, g5, rfl, hO5, hb5⟩; have HO5 := Lib.hid hO5; clear hO5)
        | (go_at_call 24; refine (rall_own _ (W.heap.size + 1) S (hr2.other hNE.symm (by repeat (first | with_reducible exact TlbOnly.refl _ _ | with_reducible refine TlbOnly.drew ?_ | with_reducible refine TlbOnly.drewN ?_ _ | with_reducible refine TlbOnly.alloc ?_ _ | with_reducible refine TlbOnly.trans ?_ (by with_reducible assumption) | with_reducible refine TlbOnly.call ?_ (by with_reducible assumption)))) HG.out.ok).mono ?_; rintro e w6 ⟨p6, c6, g6, rfl, hO6, hb6⟩; have HO6 := Lib.hid hO6; clear hO6)
        | (go_at_call 23; refine (sameT_yes _ p5 p6 c5 c6 g5 g6 (allN S) (allT S) (by have := fullP_len S 8; unfold allN; omega) (HO5.out.below hb6).at_ HO6.out.at_ (HO5.out.below hb6).rows HO6.out.rows).mono ?_; rintro e w7 ⟨rfl, hb7⟩)
        | (go_at_call 9; refine (awake6 _).mono ?_; rintro e w8 ⟨rfl, hb8⟩))
      go_ret
      exact ⟨rfl, bgo (bgo (bgo (bgo hB hb5) hb6) hb7) hb8⟩
end Go.Proofs.Ytimgiplcejcaaaa
