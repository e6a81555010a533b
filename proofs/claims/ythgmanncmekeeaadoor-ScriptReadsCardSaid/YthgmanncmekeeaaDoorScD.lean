/- chapter 35: a word of digits read, by the package; the number put where it belongs. -/
import Derived.Test.YthgmanncmekeeaaDoorScO
namespace Go.Proofs.YthgmanncmekeeaaDoor
set_option linter.unusedVariables false
set_option linter.unusedSimpArgs false
open Go.ChangeShapes Go.WideShapes Go.ChangeAt Go.RowKit
attribute [-go_sem] binOp_string_add binOp_string_eql binOp_string_neq run_index_string
attribute [local go_sem] Sc.bs_size
namespace Sc
set_option maxRecDepth 100000 in
set_option maxHeartbeats 2000000 in
theorem parse_any (l : Bs) (hl : l.length ≤ 100000) (w : World) (hE : EnvAt w) : Calls Tryd.prog 50 #[.string (bs l)] w fun e w' => (∃ x, e = .returned (.tuple #[.int .u64 x, .bool (numB l)]) ∧ (numB l = true → x = (numV l : Nat))) ∧ Below w.heap.size w w' := by
  obtain ⟨nb, hnb⟩ : ∃ v : Bool, v = numB l := ⟨_, rfl⟩
  have HPU : Hid (l.all dig = true → (1 < l.length → l.head? ≠ some 48) → _) := Lib.hid (fun h1 h2 => puint_any h1 h2 hl w hE)
  rw [← hnb]
  have HNB := Lib.hid hnb
  have hl2 : l.length < 9223372036854775807 := by omega
  clear hE hnb
  go_enter Tryd.func50, Tryd.ntmps50
  go_wp2
  go_loopw [9, 4] (fun i i4 wr => ∃ k : Nat, k ≤ l.length ∧ i = .int .i64 k ∧ Hid ((l.take k).all dig = true) ∧ wr = w) (fun i _ _ => l.length - (intOf i).toNat)
  case atStart => exact ⟨0, by omega, rfl, Lib.hid rfl, rfl⟩
  case round =>
    obtain ⟨k, hk, rfl, HA, rfl⟩ := hrel
    by_cases hlt : k < l.length
    · have q5 : ((k : Int) < (l.length : Int)) = True := by rw [eq_iff_iff, iff_true]; omega
      have hxk := idx_bs l k hlt
      obtain ⟨ck, hck⟩ : ∃ c : Nat, c = (l[k]'hlt).toNat := ⟨_, rfl⟩
      rw [← hck] at hxk
      have HLT := Lib.hid hlt
      have HNO : Hid (¬ (48 ≤ ck ∧ ck ≤ 57) → numB l = false) := Lib.hid (fun q => (num_none (numW_no (.inl (fun e => by
        have := dig_of ((List.all_eq_true.1 e) (l[k]'hlt) (List.getElem_mem _))
        rw [← hck] at this
        exact q this)))).2)
      have HAL : Hid (48 ≤ ck ∧ ck ≤ 57 → (l.take (k + 1)).all dig = true) := Lib.hid (fun q => by
        rw [List.take_add_one, List.getElem?_eq_getElem hlt, List.all_append, HA.out]
        simp [dig, ← hck, q.1, q.2])
      clear hck hlt
      by_cases g1 : ck < 48
      · have g1' : ((ck : Int) < 48) = True := by rw [eq_iff_iff, iff_true]; omega
        obtain rfl := HNB.out.trans (HNO.out (by omega))
        clear HNO HAL HNB
        go_wp2
        go_ret2
        exact ⟨⟨_, rfl, fun q => by cases q⟩, Below.refl _ _⟩
      · have g1' : ((ck : Int) < 48) = False := by rw [eq_iff_iff, iff_false]; omega
        by_cases g2 : 57 < ck
        · have g2' : ((57 : Int) < (ck : Int)) = True := by rw [eq_iff_iff, iff_true]; omega
          obtain rfl := HNB.out.trans (HNO.out (by omega))
          clear HNO HAL HNB
          go_wp2
          go_ret2
          exact ⟨⟨_, rfl, fun q => by cases q⟩, Below.refl _ _⟩
        · have g2' : ((57 : Int) < (ck : Int)) = False := by rw [eq_iff_iff, iff_false]; omega
          clear HNO
          go_wp2
          go_roundw
          case rel => exact ⟨k + 1, HLT.out, by go_num, Lib.hid (HAL.out (by omega)), (by first | trivial | rfl)⟩
          case measure => first | (simp [intOf]; done) | (have := HLT.out; simp [intOf]; omega)
    · have q5 : ((k : Int) < (l.length : Int)) = False := by rw [eq_iff_iff, iff_false]; omega
      obtain rfl : k = l.length := by omega
      rw [List.take_length] at HA
      by_cases h1 : 1 < l.length
      · have q6 : ((1 : Int) < (l.length : Int)) = True := by rw [eq_iff_iff, iff_true]; omega
        have hpos : 0 < l.length := by omega
        have hx0 : ∀ w, (Instr.index 9 (.string (bs l)) (.int .i64 0)).run Tryd.prog w = .ok (.int .u8 (l[0]'hpos).toNat) w := idx_bs l 0 hpos
        have hd := head_at hpos
        obtain ⟨c0, hc0⟩ : ∃ c : Nat, c = (l[0]'hpos).toNat := ⟨_, rfl⟩
        rw [← hc0] at hx0
        by_cases hz : c0 = 48
        · have hn : numB l = false := (num_none (numW_no (.inr (.inl (fun q => by
            refine q h1 ?_
            rw [hd]
            have : (l[0]'hpos).toNat = (48 : UInt8).toNat := by rw [← hc0, hz]; rfl
            rw [UInt8.toNat_inj.1 this]))))).2
          obtain rfl := HNB.out.trans hn
          subst hz
          clear hd hc0 HNB hn
          go_wp2
          go_ret2
          exact ⟨⟨_, rfl, fun q => by cases q⟩, Below.refl _ _⟩
        · have HP := Lib.hid (HPU.out HA.out (fun _ e => hz (by rw [hd] at e; injection e with e; rw [hc0, e]; rfl)))
          have hcI : ((c0 : Int) == 48) = false := beq_eq_false_iff_ne.2 (by omega)
          clear hd hc0 HPU hz
          go_wp2_with (go_at_call 62; (with_reducible refine HP.out.mono ?_); rintro e w1 ⟨⟨x, er, rfl, hx⟩, hb⟩)
          rcases hx with ⟨rfl, q1, rfl⟩ | ⟨⟨t, p, rfl⟩, q1⟩
          · obtain rfl := HNB.out.trans q1
            clear HNB q1
            go_quiet (fail)
            go_wp2
            go_ret2
            first | exact ⟨⟨_, rfl, fun _ => rfl⟩, below_drewN hb _⟩ | exact ⟨rfl, below_drewN hb _⟩
          · obtain rfl := HNB.out.trans q1
            clear HNB q1
            go_quiet (fail)
            go_wp2
            go_ret2
            exact ⟨⟨_, rfl, fun q => by cases q⟩, below_drewN hb _⟩
      · have q6 : ((1 : Int) < (l.length : Int)) = False := by rw [eq_iff_iff, iff_false]; omega
        have HP := Lib.hid (HPU.out HA.out (fun q => absurd q h1))
        clear HPU
        go_wp2_with (go_at_call 62; (with_reducible refine HP.out.mono ?_); rintro e w1 ⟨⟨x, er, rfl, hx⟩, hb⟩)
        rcases hx with ⟨rfl, q1, rfl⟩ | ⟨⟨t, p, rfl⟩, q1⟩
        · obtain rfl := HNB.out.trans q1
          clear HNB q1
          go_quiet (fail)
          go_wp2
          go_ret2
          first | exact ⟨⟨_, rfl, fun _ => rfl⟩, below_drewN hb _⟩ | exact ⟨rfl, below_drewN hb _⟩
        · obtain rfl := HNB.out.trans q1
          clear HNB q1
          go_quiet (fail)
          go_wp2
          go_ret2
          exact ⟨⟨_, rfl, fun q => by cases q⟩, below_drewN hb _⟩
theorem evAt_set {w : World} {b : Nat} {c : Ev} (h : EvAt w b c) (i : Nat) (v : Int) (hi : 3 ≤ i ∧ i ≤ 11) : EvAt (w.setCell ⟨b, i, none⟩ (.int .u64 v)) b (upd c i v) := by
  unfold EvAt
  rw [Go.heap_setCell_same _ _ _ _ _ _ h]
  obtain ⟨h1, h2⟩ := hi
  obtain rfl | rfl | rfl | rfl | rfl | rfl | rfl | rfl | rfl : i = 3 ∨ i = 4 ∨ i = 5 ∨ i = 6 ∨ i = 7 ∨ i = 8 ∨ i = 9 ∨ i = 10 ∨ i = 11 := by omega
  all_goals (simp [evA, upd])
theorem evAt_setI {w : World} {b : Nat} {c : Ev} (h : EvAt w b c) (i : Nat) (v : Int) (hi : i < 3 ∨ 11 < i ∧ i < 15) : EvAt (w.setCell ⟨b, i, none⟩ (.int .i64 v)) b (upd c i v) := by
  unfold EvAt
  rw [Go.heap_setCell_same _ _ _ _ _ _ h]
  obtain rfl | rfl | rfl | rfl | rfl | rfl : i = 0 ∨ i = 1 ∨ i = 2 ∨ i = 12 ∨ i = 13 ∨ i = 14 := by omega
  all_goals (simp [evA, upd])
/-- Where a field lies, where a word lies. -/
def PlOk (p : Bool × Nat) : Prop := if p.1 = true then 3 ≤ p.2 ∧ p.2 ≤ 11 else p.2 < 3 ∨ 11 < p.2 ∧ p.2 < 15
theorem places_pl (k : Int) : ∀ p ∈ places k, PlOk p := by
  unfold places PlOk
  repeat' split
  all_goals decide
/-- A number's struct. -/
def numV2 (b : Nat) (p : Bool × Nat) : Value := .agg #[if p.1 = true then .pointer none else .pointer (some ⟨b, p.2, none⟩), if p.1 = true then .pointer (some ⟨b, p.2, none⟩) else .pointer none]
/-- What a block's turning leaves. -/
structure OneTurn (b : Nat) (w w' : World) : Prop where
  os : w'.os = w.os
  tape : w'.tape = w.tape
  output : w'.output = w.output
  size : w.heap.size ≤ w'.heap.size
  block : ∀ k, k < w.heap.size → k ≠ b → w'.heap[k]? = w.heap[k]?
theorem OneTurn.of_below {b : Nat} {u v : World} (h : Below u.heap.size u v) : OneTurn b u v := ⟨h.os, h.tape, h.output, h.size, fun k hk _ => h.block k hk⟩
theorem OneTurn.set {b : Nat} {u v : World} (h : OneTurn b u v) (j : Nat) (x : Value) : OneTurn b u (v.setCell ⟨b, j, none⟩ x) :=
  ⟨h.os, h.tape, h.output, by simpa using h.size, fun k hk h1 => (Go.heap_setCell_other _ _ _ _ (by simpa using h1)).trans (h.block k hk h1)⟩
set_option maxRecDepth 100000 in
set_option maxHeartbeats 2000000 in
theorem read_any (l : Bs) (hl : l.length ≤ 100000) (w : World) (hE : EnvAt w) (b : Nat) (c : Ev) (h : EvAt w b c) (p : Bool × Nat) (hp : PlOk p) :
    Calls Tryd.prog 40 #[.string (bs l), numV2 b p] w fun e w' => ((numB l = true ∧ farP p.1 (numV l) = false) ∧ e = .returned (.bool true) ∧ EvAt w' b (upd c p.2 (numV l)) ∧ OneTurn b w w' ∨ ¬ (numB l = true ∧ farP p.1 (numV l) = false) ∧ e = .returned (.bool false) ∧ EvAt w' b c ∧ OneTurn b w w') := by
  have hb0 : Below w.heap.size w (w.alloc (.cells #[if p.1 = true then .pointer none else .pointer (some ⟨b, p.2, none⟩), if p.1 = true then .pointer (some ⟨b, p.2, none⟩) else .pointer none] 66)) := bal (Below.refl _ _) _
  have HB0 := Lib.hid hb0
  have HEV := Lib.hid h
  have HPL := Lib.hid hp
  have hbs : b < w.heap.size := (Array.getElem?_eq_some_iff.1 h).1
  have HBS := Lib.hid hbs
  obtain ⟨nb, hnb⟩ : ∃ v : Bool, v = numB l := ⟨_, rfl⟩
  obtain ⟨nv, hnv⟩ : ∃ v : Nat, v = numV l := ⟨_, rfl⟩
  have hlt : nv < 18446744073709551616 := by rw [hnv]; exact numV_lt l
  have HP : Hid (∀ v, Below w.heap.size w v → Calls Tryd.prog 50 #[.string (bs l)] v fun e w' => (∃ x, e = .returned (.tuple #[.int .u64 x, .bool nb]) ∧ (nb = true → x = (nv : Nat))) ∧ Below v.heap.size v w') := Lib.hid (fun v hv => by rw [hnb, hnv]; exact parse_any l hl v (hE.call hv))
  rw [← hnb, ← hnv]
  clear hE h hp hnb hnv hl
  obtain ⟨wd, i⟩ := p
  cases wd
  · -- a field
    have hpl : i < 3 ∨ 11 < i ∧ i < 15 := by simpa [PlOk] using HPL.out
    have HPI := Lib.hid hpl
    simp only [numV2, farP, Bool.false_eq_true, if_false, Bool.not_false, Bool.true_and] at *
    clear HPL hpl
    obtain ⟨w0, hw0⟩ : ∃ y, y = (w.alloc (.cells #[.pointer (some ⟨b, i, none⟩), .pointer none] 66)) := ⟨_, rfl⟩
    rw [← hw0] at hb0
    have HW := Lib.hid hw0
    have hx0 : w0.heap[w.heap.size]? = some (.cells #[.pointer (some ⟨b, i, none⟩), .pointer none] 66 (0, 0)) := by rw [hw0]; exact World.alloc_heap_new w _
    have HX0 := Lib.hid hx0
    have HB0 := Lib.hid hb0
    have HP0 := Lib.hid (HP.out w0 hb0)
    clear hb0 hw0 hx0 HP
    go_enter Tryd.func40, Tryd.ntmps40
    go_upto_region 1 with fail
    rw [← HW.out]
    go_upto_region 3 with (go_at_call 50; (with_reducible refine HP0.out.mono ?_); rintro e w1 ⟨⟨x, rfl, hx⟩, hb⟩; have HB1 := Lib.hid hb; have HXV := Lib.hid hx; clear hb hx)
    have hw1 := (HB1.out.block _ (Array.getElem?_eq_some_iff.1 HX0.out).1).trans HX0.out
    have n0 : w1.cell? ⟨w.heap.size, 0, none⟩ = some (.pointer (some ⟨b, i, none⟩)) := by rw [row_cell hw1]; rfl
    have n1 : w1.cell? ⟨w.heap.size, 1, none⟩ = some (.pointer none) := by rw [row_cell hw1]; rfl
    have HBW := Lib.hid (bgo HB0.out HB1.out)
    have hev : EvAt w1 b c := (HBW.out.block _ HBS.out).trans HEV.out
    have HE1 := Lib.hid hev
    have hfz : w1.frozen? ⟨b, i, none⟩ = false := by simp [World.frozen?, hev]
    have hci : w1.cell? ⟨b, i, none⟩ = some (.int .i64 (c i)) := by
      rw [row_cell hev]
      have := HPI.out
      obtain rfl | rfl | rfl | rfl | rfl | rfl : i = 0 ∨ i = 1 ∨ i = 2 ∨ i = 12 ∨ i = 13 ∨ i = 14 := by omega
      all_goals rfl
    have hbl : b < w1.heap.size := Nat.lt_of_lt_of_le HBS.out HBW.out.size
    clear hw1 hev
    cases nb
    · clear HXV
      go_wp2
      go_ret
      exact .inr ⟨by simp, rfl, HE1.out, OneTurn.of_below HBW.out⟩
    · obtain rfl := HXV.out rfl
      clear HXV
      by_cases g : 999999 < nv
      · have g' : ((999999 : Int) < (nv : Int)) = True := by rw [eq_iff_iff, iff_true]; omega
        go_wp2
        go_ret
        exact ⟨rfl, HE1.out, OneTurn.of_below HBW.out⟩
      · have g' : ((999999 : Int) < (nv : Int)) = False := by rw [eq_iff_iff, iff_false]; omega
        have HG := Lib.hid g
        go_wp2
        go_ret
        exact ⟨rfl, evAt_setI HE1.out i nv HPI.out, (OneTurn.of_below HBW.out).set i _⟩
  · have hpl : 3 ≤ i ∧ i ≤ 11 := by simpa [PlOk] using HPL.out
    have HPI := Lib.hid hpl
    simp only [numV2, farP, if_true, Bool.not_true, Bool.false_and, and_true] at *
    clear HPL hpl
    obtain ⟨w0, hw0⟩ : ∃ y, y = (w.alloc (.cells #[.pointer none, .pointer (some ⟨b, i, none⟩)] 66)) := ⟨_, rfl⟩
    rw [← hw0] at hb0
    have HW := Lib.hid hw0
    have hx0 : w0.heap[w.heap.size]? = some (.cells #[.pointer none, .pointer (some ⟨b, i, none⟩)] 66 (0, 0)) := by rw [hw0]; exact World.alloc_heap_new w _
    have HX0 := Lib.hid hx0
    have HB0 := Lib.hid hb0
    have HP0 := Lib.hid (HP.out w0 hb0)
    clear hb0 hw0 hx0 HP
    go_enter Tryd.func40, Tryd.ntmps40
    go_upto_region 1 with fail
    rw [← HW.out]
    go_upto_region 3 with (go_at_call 50; (with_reducible refine HP0.out.mono ?_); rintro e w1 ⟨⟨x, rfl, hx⟩, hb⟩; have HB1 := Lib.hid hb; have HXV := Lib.hid hx; clear hb hx)
    have hw1 := (HB1.out.block _ (Array.getElem?_eq_some_iff.1 HX0.out).1).trans HX0.out
    have n0 : w1.cell? ⟨w.heap.size, 0, none⟩ = some (.pointer none) := by rw [row_cell hw1]; rfl
    have n1 : w1.cell? ⟨w.heap.size, 1, none⟩ = some (.pointer (some ⟨b, i, none⟩)) := by rw [row_cell hw1]; rfl
    have HBW := Lib.hid (bgo HB0.out HB1.out)
    have hev : EvAt w1 b c := (HBW.out.block _ HBS.out).trans HEV.out
    have HE1 := Lib.hid hev
    have hfz : w1.frozen? ⟨b, i, none⟩ = false := by simp [World.frozen?, hev]
    have hci : w1.cell? ⟨b, i, none⟩ = some (.int .u64 (c i)) := by
      rw [row_cell hev]
      have := HPI.out
      obtain rfl | rfl | rfl | rfl | rfl | rfl | rfl | rfl | rfl : i = 3 ∨ i = 4 ∨ i = 5 ∨ i = 6 ∨ i = 7 ∨ i = 8 ∨ i = 9 ∨ i = 10 ∨ i = 11 := by omega
      all_goals rfl
    have hbl : b < w1.heap.size := Nat.lt_of_lt_of_le HBS.out HBW.out.size
    clear hw1 hev
    cases nb
    · clear HXV
      go_wp2
      go_ret
      exact .inr ⟨by simp, rfl, HE1.out, OneTurn.of_below HBW.out⟩
    · obtain rfl := HXV.out rfl
      clear HXV
      go_wp2
      go_ret
      exact ⟨rfl, evAt_set HE1.out i nv HPI.out, (OneTurn.of_below HBW.out).set i _⟩
end Sc
end Go.Proofs.YthgmanncmekeeaaDoor
