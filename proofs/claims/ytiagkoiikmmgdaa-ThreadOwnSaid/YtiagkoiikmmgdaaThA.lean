/- ThreadOwn: five threads; what is set of one changes no other one. -/
import Derived.Test.YtiagkoiikmmgdaaTh9
import Derived.Test.YtiagkoiikmmgdaaLowL
import Derived.BigQuiet
namespace Go.Proofs.Ytiagkoiikmmgdaa
set_option linter.unusedVariables false
set_option linter.unusedSimpArgs false
open Go.ChangeShapes Go.WideShapes Go.ChangeAt Go.RowKit Go.Shelf
open TabT

/-- What the first loop leaves. -/
def putL : Nat → List Th
  | 0 => []
  | t + 1 => addTL (putL t) (5 - t)
theorem put_len : ∀ t, (putL t).length ≤ t
  | 0 => Nat.le_refl _
  | t + 1 => by
    have := put_len t
    show (addTL (putL t) (5 - t)).length ≤ _
    unfold addTL
    split
    · omega
    · split
      · omega
      · unfold insH; simp; omega
theorem put5 : putL 5 = [newT 1, newT 2, newT 3, newT 4, newT 5] := rfl
/-- Five threads, by their numbers. -/
def Five (L : List Th) : Prop := L.length = 5 ∧ ∀ (i : Nat) (x : Th), L[i]? = some x → x.id = i + 1
theorem five0 : Five (putL 5) := by
  rw [put5]
  refine ⟨rfl, fun i x h => ?_⟩
  match i, h with
  | 0, h => cases h; rfl
  | 1, h => cases h; rfl
  | 2, h => cases h; rfl
  | 3, h => cases h; rfl
  | 4, h => cases h; rfl
  | i + 5, h => simp at h
theorem five_set {L : List Th} (h : Five L) (hA : Asc (rowsH L)) {x : Th} {p : Nat} (hx : x.id = p + 1) (hp : p < 5) : hasH L x.id = true ∧ posH L x.id = p := by
  obtain ⟨y, hy⟩ : ∃ y, L[p]? = some y := ⟨L[p]'(by have := h.1; omega), List.getElem?_eq_getElem _⟩
  have hyi := h.2 p y hy
  rcases getT_has hA x.id with ⟨_, hh⟩ | ⟨z, _, hh, hz, hzi⟩
  · exfalso
    have : hasR (rowsH L) x.id = true := by
      unfold hasR
      rw [List.any_eq_true]
      exact ⟨rowH y, by unfold rowsH; exact List.mem_map.2 ⟨y, List.mem_of_getElem? hy, rfl⟩, decide_eq_true (by show y.id = x.id; omega)⟩
    rw [show hasR (rowsH L) x.id = false from hh] at this
    cases this
  · refine ⟨hh, ?_⟩
    have := h.2 _ z hz
    omega
theorem five_keep {L : List Th} (h : Five L) {x : Th} {p : Nat} (hx : x.id = p + 1) : Five (L.set p x) := by
  refine ⟨by rw [List.length_set]; exact h.1, fun i z hz => ?_⟩
  by_cases e : p = i
  · subst e
    have hl := (List.getElem?_eq_some_iff.1 hz).1
    rw [List.length_set] at hl
    rw [List.getElem?_set_self hl] at hz
    cases hz
    exact hx
  · rw [List.getElem?_set_ne e] at hz
    exact h.2 i z hz
theorem own_step {L : List Th} (h : Five L) (hA : Asc (rowsH L)) {y : Th} {p : Nat} (hy : y.id = p + 1) (hp : p < 5) : ∃ L' e, setTL L y = L' ∧ setTR L y = e ∧ Five L' ∧ (∀ i, i ≠ p → L'[i]? = L[i]?) ∧ ((mayT y = true ∧ e = 0 ∧ L'[p]? = some y) ∨ (mayT y = false ∧ e = 2)) := by
  obtain ⟨h1, h2⟩ := five_set h hA hy hp
  refine ⟨_, _, rfl, rfl, ?_⟩
  unfold setTL setTR
  rw [h1, h2]
  cases hm : mayT y with
  | true =>
    refine ⟨five_keep h hy, fun i hi => List.getElem?_set_ne (fun e => hi e.symm), .inl ⟨rfl, rfl, List.getElem?_set_self (by have := h.1; omega)⟩⟩
  | false => exact ⟨h, fun i hi => rfl, .inr ⟨rfl, rfl⟩⟩
theorem XT.froz {w : World} {k : Nat} {x : Th} (h : XT w k x) (j : Nat) : w.frozen? ⟨k, j, none⟩ = false := by
  unfold World.frozen?
  simp only [show w.heap[k]? = some (.cells x.cells.toArray 35 (0, 0)) from h]
  simp
theorem run_load_int {w : World} {a : Addr} {n : Int} (h : w.cell? a = some (.int .i64 n)) : (loadVar 3 a).run Try.prog w = .ok (.int .i64 n) w := by
  simp [go_sem, loadVar, h]
theorem run_load_th {w : World} {b o : Nat} {x : Th} (h : w.rangeAt b o x.cells) : (loadVar 35 ⟨b, o, none⟩).run Try.prog w = .ok (.agg x.cells.toArray) w :=
  run_loadVar_mid _ _ _ _ _ _ h Try.underlying35 rfl (by kernel_rfl)
theorem cell_drewT {w : World} {n : Nat} {a : Addr} {v : Value} (h : w.cell? a = some v) : (w.drewN n).cell? a = some v := by simpa using h
theorem range_drewT {w : World} {n b o : Nat} {cs : List Value} (h : w.rangeAt b o cs) : (w.drewN n).rangeAt b o cs := fun j v hj => cell_drewT (h j v hj)
/-- All that a round holds behind its last call: the threads now, those that were, and the thread that was set. -/
structure OwnW (W w : World) (b xB gw gn : Nat) (L L' : List Th) (x : Th) : Prop where
  st : StT W w b L'
  xt : XT w xB x
  lw : ThsAt w gw L
  ln : ThsAt w gn L'
  zw : gw < w.heap.size
  zn : gn < w.heap.size
theorem OwnW.call {W w w' : World} {b xB gw gn : Nat} {L L' : List Th} {x : Th} (h : OwnW W w b xB gw gn L L' x) (hb : Below w.heap.size w w') : OwnW W w' b xB gw gn L L' x :=
  ⟨h.st.call hb, h.xt.call hb, h.lw.kept (hb.block _ h.zw), h.ln.kept (hb.block _ h.zn), Nat.lt_of_lt_of_le h.zw hb.size, Nat.lt_of_lt_of_le h.zn hb.size⟩
theorem StS.lt {W w : World} {b k : Nat} {L : List Th} {S : Nat → Prop} (h : StS W w b L S) (hk : S k) : k < w.heap.size := (h.choose_spec.choose_spec.2.2.2 k hk).1
attribute [local go_sem ↓] neT
attribute [-go_sem] loadVar
set_option maxRecDepth 100000 in
set_option maxHeartbeats 2000000 in
theorem own_any (q : Option Addr) (n c : Nat) (D : Nat → ActT) (W : World) (hn : n ≤ 60) (hD : ActsAt W q n D) :
    Calls Try.prog 4 #[.slice q n c] W fun e w' => e = .returned (.bool true) ∧ Below W.heap.size W w' := by
  have HD := Lib.hid hD
  have hn' : ¬ (n : Int) > 60 := by omega
  clear hD
  go_enter Try.func4, Try.ntmps4
  go_wp2_with (go_at_call 7; refine (tnew_any _).mono ?_; rintro e w1 ⟨rfl, ha1, hb1⟩; have HA1 := Lib.hid (StT.new ha1 hb1); clear ha1 hb1)
  obtain ⟨b, hb⟩ : ∃ b, b = W.heap.size := ⟨_, rfl⟩
  rw [← hb] at HA1 ⊢
  clear hb
  go_loopw [4] (fun i wr => ∃ t : Nat, t ≤ 5 ∧ i = .int .i64 (5 - t) ∧ Hid (StT W wr b (putL t))) (fun i _ => (intOf i).toNat)
  case atStart => exact ⟨0, by omega, rfl, HA1⟩
  case round =>
    obtain ⟨t, ht, rfl, HO⟩ := hrel
    by_cases hlt : t < 5
    · have h1 : (1 : Int) ≤ 5 - t := by omega
      have hl := put_len t
      have HL := Lib.hid (show (putL t).length < 1000000 by omega)
      clear hl
      go_wp2_with (go_at_call 9; (with_reducible refine (HO.out.add HL.out (5 - t)).mono ?_); rintro e w2 ⟨rfl, ha2⟩; have HA2 := Lib.hid (show StT W w2 b (putL (t + 1)) from ha2); clear ha2)
      go_roundw
      case rel => exact ⟨t + 1, by omega, by go_num, HA2⟩
      case measure => first | (simp [intOf]; done) | (simp [intOf]; omega)
    · obtain rfl : t = 5 := by omega
      clear ht hlt HA1
      have h5 := five0
      have HF := Lib.hid h5
      clear h5
      generalize putL 5 = L0 at *
      rw [show ((5 : Int) - ((5 : Nat) : Int)) = 0 from rfl]
      go_wp2
      go_loopw [5] (fun i w2 => ∃ (t : Nat) (L : List Th), t ≤ n ∧ i = .int .i64 t ∧ Hid (StT W w2 b L ∧ Five L)) (fun i _ => n - (intOf i).toNat)
      case atStart => exact ⟨0, L0, by omega, rfl, Lib.hid ⟨HO.out, HF.out⟩⟩
      case round =>
        obtain ⟨t, L, ht, rfl, HO2⟩ := hrel
        clear HO HF
        by_cases hlt : t < n
        · have hltI : (t : Int) < n := by omega
          obtain ⟨aB, aO, hq, hcs⟩ := HD.out
          obtain ⟨rfl, hal⟩ := hq (by omega)
          obtain ⟨hrow, hok⟩ := hcs t hlt
          have hbl := HO2.out.1.below
          have hthr : wr.rangeAt aB (aO + t * 26 + 2) (D t).t.cells := fun j v hj => by
            have := hrow (j + 2) v hj
            rw [show aO + t * 26 + 2 + j = aO + t * 26 + (j + 2) by omega]
            exact (hbl.cell (p := ⟨aB, _, none⟩) hal).trans this
          have HT := Lib.hid hthr
          have hid := hok.2.2
          have HID := Lib.hid hid
          clear hq hcs hrow hok hbl hthr hid
          generalize (D t).t = x at *
          go_upto_region 14 with (first
            | (refine wpList_load_mid rfl 35 _ rfl aB (aO + t * 26 + 2) rfl x.cells _ HT.out Try.underlying35 rfl (by kernel_rfl) ?_)
            | (refine wpList_store_row rfl 35 _ _ rfl wr.heap.size x.cells.toArray rfl rfl _ _ (heap_alloc_new wr _) (by kernel_rfl) rfl (th_one' _) ?_))
          rw [alloc_setRow]
          obtain ⟨w2, hw2⟩ : ∃ y, y = wr.alloc (.cells x.cells.toArray 35) := ⟨_, rfl⟩
          rw [← hw2]
          have hx2 : XT w2 wr.heap.size x := by rw [hw2]; exact heap_alloc_new wr _
          have hb2 : Below wr.heap.size wr w2 := by rw [hw2]; exact bal (Below.refl _ _) _
          have HX2 := Lib.hid hx2
          have HB2 := Lib.hid hb2
          have q1 := run_load_int (hx2.cell 0)
          have c0 : w2.cell? ⟨wr.heap.size, 0, none⟩ = some (.int .i64 x.id) := hx2.cell 0
          have f0 := hx2.froz 0
          obtain ⟨p, hp, hp5⟩ : ∃ p : Nat, lowI x.id 5 = p ∧ p < 5 := ⟨(lowI x.id 5).toNat, by have := lowI_0 x.id 5 (by decide); omega, by have := lowI_0 x.id 5 (by decide); have := lowI_1 x.id 5 (by decide); omega⟩
          have HP := Lib.hid hp
          clear hw2 hx2 hb2 hp HT
          go_upto_region 15 with (go_at_call 24; refine (low_any x.id 5 _ HID.out (by decide) (by decide)).mono ?_; rw [HP.out]; rintro e w3 ⟨rfl, rfl⟩)
          obtain ⟨w3, hw3⟩ : ∃ y, y = w2.setCell ⟨wr.heap.size, 0, none⟩ (.int .i64 (1 + (p : Int))) := ⟨_, rfl⟩
          rw [← hw3]
          obtain ⟨y, hy⟩ : ∃ y : Th, y = { x with id := 1 + (p : Int) } := ⟨_, rfl⟩
          have HX3 : Hid (XT w3 wr.heap.size y) := Lib.hid (by rw [hw3, hy]; exact HX2.out.putid _)
          have HB3 : Hid (Below wr.heap.size wr w3) := Lib.hid (by rw [hw3]; exact HB2.out.setCell (Nat.le_refl _) _)
          have HYI : Hid (y.id = p + 1) := Lib.hid (by rw [hy]; show (1 : Int) + p = p + 1; omega)
          have HFL := Lib.hid (show L.length < 1000000 by have := HO2.out.2.1; omega)
          clear hw3 hy q1 c0 f0 HX2 HB2
          go_upto_region 16 with (go_at_call 19; (with_reducible refine ((HO2.out.1.call HB3.out).all HFL.out).mono ?_); rintro e w4 ⟨r, rfl, hr, hb4⟩; have HR := Lib.hid hr; have HB4 := Lib.hid hb4; clear hr hb4)
          obtain ⟨ra, rc, rfl, hrc, hra⟩ := ths_of HR.out
          obtain ⟨gw, rfl, hg1, hg2, hgl⟩ := hra 0 (by have := HO2.out.2.1; omega)
          have HS4 := Lib.hid (HO2.out.1.beside (HB3.out.trans (HB4.out.mono HB3.out.size)))
          have HX4 := Lib.hid (HX3.out.call HB4.out)
          have HW4 := Lib.hid hgl
          have HG4 : Hid (wr.heap.size ≤ gw ∧ gw < w4.heap.size) := Lib.hid ⟨Nat.le_trans HB3.out.size hg1, hg2⟩
          obtain ⟨L', er, hL', her, h5', hkeep, hway⟩ := own_step HO2.out.2 HO2.out.1.asc HYI.out hp5
          have HLL := Lib.hid hL'
          have HER := Lib.hid her
          have H5 := Lib.hid h5'
          have HKP := Lib.hid hkeep
          have q4 := run_load_th HX4.out.range
          clear hra hgl hg1 hg2 hrc HR HX3 hL' her h5' hkeep
          go_upto_region 17 with (go_at_call 13; (with_reducible refine (HS4.out.set y).mono ?_); rw [HER.out, HLL.out]; rintro e w5 ⟨rfl, hs5, hk5⟩; have HS5 := Lib.hid hs5; have HX5 : Hid (XT w5 wr.heap.size y) := Lib.hid ((hk5 _ ⟨Nat.le_refl _, HX4.out.lt⟩).trans HX4.out); have HW5 := Lib.hid (HW4.out.kept (hk5 gw HG4.out)); clear hs5 hk5)
          have HFL5 := Lib.hid (show L'.length < 1000000 by have := H5.out.1; omega)
          clear q4 HX4 HW4
          go_upto_region 18 with (go_at_call 19; (with_reducible refine (HS5.out.st.all HFL5.out).mono ?_); rintro e w6 ⟨r, rfl, hr, hb6⟩; have HR := Lib.hid hr; have HB6 := Lib.hid hb6; clear hr hb6)
          obtain ⟨ra, rc5, rfl, hrc, hra⟩ := ths_of HR.out
          obtain ⟨gn, rfl, hg1, hg2, hgl⟩ := hra 0 (by have := H5.out.1; omega)
          have hgw5 := HS5.out.lt (k := gw) HG4.out
          have HOW : Hid (OwnW W w6 b wr.heap.size gw gn L L' y) := Lib.hid ⟨HS5.out.st.call HB6.out, HX5.out.call HB6.out, HW5.out.kept (HB6.out.block _ hgw5), hgl, Nat.lt_of_lt_of_le hgw5 HB6.out.size, hg2⟩
          have hl5 := H5.out.1
          have hlL := HO2.out.2.1
          rw [hl5, hlL]
          rw [hl5] at hrc
          have q6 := run_load_th HOW.out.xt.range
          clear hra hgl hg1 hg2 HR hgw5 HS5 HX5 HW5 HS4 HB3 HB4 HB6 hl5 hlL
          have HLL2 := Lib.hid HO2.out.2
          clear HO2
          generalize wr.heap.size = xB at *
          rcases hway with ⟨hm, rfl, hpy⟩ | ⟨hm, rfl⟩
          · have HM := Lib.hid hm
            have HPY := Lib.hid hpy
            clear hm hpy
            go_wp2_with (go_at_call 15; (with_reducible refine (may_any _ y).mono ?_); rw [HM.out]; rintro e w7 ⟨rfl, hb7⟩; have HOW7 := Lib.hid (HOW.out.call hb7); clear hb7)
            go_loopw [10] (fun i wr => ∃ k : Nat, k ≤ 5 ∧ i = .int .i64 k ∧ Hid (OwnW W wr b xB gw gn L L' y)) (fun i _ => 5 - (intOf i).toNat)
            case atStart => exact ⟨0, by omega, rfl, HOW7⟩
            case round =>
              obtain ⟨k, hk, rfl, HQ⟩ := hrel
              clear HOW HOW7 q6
              by_cases hk5 : k < 5
              · have hkI : (k : Int) < 5 := by omega
                obtain ⟨z, hz⟩ : ∃ z, L'[k]? = some z := ⟨L'[k]'(by have := H5.out.1; omega), List.getElem?_eq_getElem _⟩
                have hzi : z.id = k + 1 := H5.out.2 k z hz
                have r1 : ∀ n, (loadVar 3 ⟨gn, k * 24, none⟩).run Try.prog (wr.drewN n) = .ok (.int .i64 ((k : Int) + 1)) (wr.drewN n) := fun n => run_load_int (cell_drewT (by rw [← hzi]; exact HQ.out.ln k z hz 0 _ rfl))
                have r2 : ∀ n, (loadVar 3 ⟨xB, 0, none⟩).run Try.prog (wr.drewN n) = .ok (.int .i64 ((p : Int) + 1)) (wr.drewN n) := fun n => run_load_int (cell_drewT (by rw [← HYI.out]; exact HQ.out.xt.cell 0))
                have r3 : ∀ n, (loadVar 35 ⟨gn, k * 24, none⟩).run Try.prog (wr.drewN n) = .ok (.agg z.cells.toArray) (wr.drewN n) := fun n => run_load_th (range_drewT (HQ.out.ln k z hz))
                have r4 : ∀ n, (loadVar 35 ⟨xB, 0, none⟩).run Try.prog (wr.drewN n) = .ok (.agg y.cells.toArray) (wr.drewN n) := fun n => run_load_th (range_drewT HQ.out.xt.range)
                by_cases hkp : k = p
                · have HKPE := Lib.hid hkp
                  have hd : decide ((k : Int) = p) = true := decide_eq_true (by omega)
                  have hd2 : decide (k = p) = true := decide_eq_true hkp
                  have hd3 : ((k : Int) == (p : Int)) = true := by simp [hkp]
                  have hd4 : ((k : Int) + 1 != (p : Int) + 1) = false := by simp [hkp]
                  have hd5 : ((k : Int) + 1 == (p : Int) + 1) = true := by simp [hkp]
                  have hzy : z = y := by have := HPY.out; rw [← hkp, hz] at this; cases this; rfl
                  subst hzy
                  clear hzi hkp hz
                  have hwr : IntKind.i64.wrap ((k : Int) + 1) = (k : Int) + 1 := IntWalk.i64_in _ (by omega)
                  go_wp2
                  go_quiet (fail)
                  go_wp2
                  go_roundw
                  case rel => exact ⟨k + 1, by omega, by go_num, Lib.hid (HQ.out.call (below_drewN (Below.refl _ _) _))⟩
                  case measure => first | (simp [intOf]; done) | (simp [intOf]; omega)
                · have hd : decide ((k : Int) = p) = false := decide_eq_false (by omega)
                  have hd2 : decide (k = p) = false := decide_eq_false hkp
                  have hd3 : ((k : Int) == (p : Int)) = false := by simp; omega
                  have hd4 : ((k : Int) + 1 != (p : Int) + 1) = true := by simp; omega
                  have hd5 : ((k : Int) + 1 == (p : Int) + 1) = false := by simp; omega
                  have r5 : ∀ n, (loadVar 35 ⟨gw, k * 24, none⟩).run Try.prog (wr.drewN n) = .ok (.agg z.cells.toArray) (wr.drewN n) := fun n => run_load_th (range_drewT (HQ.out.lw k z ((HKP.out k hkp).symm.trans hz)))
                  have hzi2 := Lib.hid hzi
                  clear hzi hz hkp
                  have hwr : IntKind.i64.wrap ((k : Int) + 1) = (k : Int) + 1 := IntWalk.i64_in _ (by omega)
                  go_wp2
                  go_quiet (fail)
                  go_wp2
                  go_roundw
                  case rel => exact ⟨k + 1, by omega, by go_num, Lib.hid (HQ.out.call (below_drewN (Below.refl _ _) _))⟩
                  case measure => first | (simp [intOf]; done) | (simp [intOf]; omega)
              · obtain rfl : k = 5 := by omega
                go_wp2
                go_roundw
                case rel => exact ⟨t + 1, L', by omega, by go_num, Lib.hid ⟨HQ.out.st, H5.out⟩⟩
                case measure => first | (simp [intOf]; done) | (simp [intOf]; omega)
          · have HM := Lib.hid hm
            clear hm
            go_wp2_with (go_at_call 15; (with_reducible refine (may_any _ y).mono ?_); rw [HM.out]; rintro e w7 ⟨rfl, hb7⟩; have HOW7 := Lib.hid (HOW.out.call hb7); clear hb7)
            go_loopw [10] (fun i wr => ∃ k : Nat, k ≤ 5 ∧ i = .int .i64 k ∧ Hid (OwnW W wr b xB gw gn L L' y)) (fun i _ => 5 - (intOf i).toNat)
            case atStart => exact ⟨0, by omega, rfl, HOW7⟩
            case round =>
              obtain ⟨k, hk, rfl, HQ⟩ := hrel
              clear HOW HOW7 q6
              by_cases hk5 : k < 5
              · have hkI : (k : Int) < 5 := by omega
                obtain ⟨z, hz⟩ : ∃ z, L'[k]? = some z := ⟨L'[k]'(by have := H5.out.1; omega), List.getElem?_eq_getElem _⟩
                have hzi : z.id = k + 1 := H5.out.2 k z hz
                have r1 : ∀ n, (loadVar 3 ⟨gn, k * 24, none⟩).run Try.prog (wr.drewN n) = .ok (.int .i64 ((k : Int) + 1)) (wr.drewN n) := fun n => run_load_int (cell_drewT (by rw [← hzi]; exact HQ.out.ln k z hz 0 _ rfl))
                have r2 : ∀ n, (loadVar 3 ⟨xB, 0, none⟩).run Try.prog (wr.drewN n) = .ok (.int .i64 ((p : Int) + 1)) (wr.drewN n) := fun n => run_load_int (cell_drewT (by rw [← HYI.out]; exact HQ.out.xt.cell 0))
                have r3 : ∀ n, (loadVar 35 ⟨gn, k * 24, none⟩).run Try.prog (wr.drewN n) = .ok (.agg z.cells.toArray) (wr.drewN n) := fun n => run_load_th (range_drewT (HQ.out.ln k z hz))
                have r4 : ∀ n, (loadVar 35 ⟨xB, 0, none⟩).run Try.prog (wr.drewN n) = .ok (.agg y.cells.toArray) (wr.drewN n) := fun n => run_load_th (range_drewT HQ.out.xt.range)
                by_cases hkp : k = p
                · have HKPE := Lib.hid hkp
                  have hd : decide ((k : Int) = p) = true := decide_eq_true (by omega)
                  have hd2 : decide (k = p) = true := decide_eq_true hkp
                  have hd3 : ((k : Int) == (p : Int)) = true := by simp [hkp]
                  have hd4 : ((k : Int) + 1 != (p : Int) + 1) = false := by simp [hkp]
                  have hd5 : ((k : Int) + 1 == (p : Int) + 1) = true := by simp [hkp]
                  have hskip := HKPE
                  clear hzi hkp hz
                  have hwr : IntKind.i64.wrap ((k : Int) + 1) = (k : Int) + 1 := IntWalk.i64_in _ (by omega)
                  go_wp2
                  go_quiet (fail)
                  go_wp2
                  go_roundw
                  case rel => exact ⟨k + 1, by omega, by go_num, Lib.hid (HQ.out.call (below_drewN (Below.refl _ _) _))⟩
                  case measure => first | (simp [intOf]; done) | (simp [intOf]; omega)
                · have hd : decide ((k : Int) = p) = false := decide_eq_false (by omega)
                  have hd2 : decide (k = p) = false := decide_eq_false hkp
                  have hd3 : ((k : Int) == (p : Int)) = false := by simp; omega
                  have hd4 : ((k : Int) + 1 != (p : Int) + 1) = true := by simp; omega
                  have hd5 : ((k : Int) + 1 == (p : Int) + 1) = false := by simp; omega
                  have r5 : ∀ n, (loadVar 35 ⟨gw, k * 24, none⟩).run Try.prog (wr.drewN n) = .ok (.agg z.cells.toArray) (wr.drewN n) := fun n => run_load_th (range_drewT (HQ.out.lw k z ((HKP.out k hkp).symm.trans hz)))
                  have hzi2 := Lib.hid hzi
                  clear hzi hz hkp
                  have hwr : IntKind.i64.wrap ((k : Int) + 1) = (k : Int) + 1 := IntWalk.i64_in _ (by omega)
                  go_wp2
                  go_quiet (fail)
                  go_wp2
                  go_roundw
                  case rel => exact ⟨k + 1, by omega, by go_num, Lib.hid (HQ.out.call (below_drewN (Below.refl _ _) _))⟩
                  case measure => first | (simp [intOf]; done) | (simp [intOf]; omega)
              · obtain rfl : k = 5 := by omega
                go_wp2
                go_roundw
                case rel => exact ⟨t + 1, L', by omega, by go_num, Lib.hid ⟨HQ.out.st, H5.out⟩⟩
                case measure => first | (simp [intOf]; done) | (simp [intOf]; omega)
        · obtain rfl : t = n := by omega
          go_wp2_with (go_at_call 6; (with_reducible refine (awake20 _).mono ?_); rintro e w9 ⟨rfl, hb9⟩)
          go_ret
          exact ⟨rfl, HO2.out.1.below.trans (hb9.mono HO2.out.1.below.size)⟩
end Go.Proofs.Ytiagkoiikmmgdaa
