/- package ends, over tables of any number of rows: List, First. -/
import Derived.Test.YtmbjaemflmbljaaEn1
import Derived.Lib.SliceRun
import Derived.Deep.RegionHeld3
import Derived.Deep.RegionWith
namespace Go.Proofs.Ytmbjaemflmbljaa
set_option linter.unusedVariables false
set_option linter.unusedSimpArgs false
open Go.ChangeShapes Go.WideShapes Go.ChangeAt Go.RowKit Go.Shelf
open TabE

def getN (L : List En) (id : Int) : Option En := if hasN L id then L[posN L id]? else none
theorem getN_has {L : List En} (hA : Asc (rowsN L)) (id : Int) : (getN L id = none ∧ hasN L id = false) ∨ ∃ x, getN L id = some x ∧ hasN L id = true ∧ L[posN L id]? = some x ∧ x.id = id := by
  unfold getN
  cases hh : hasN L id with
  | false => exact .inl ⟨rfl, rfl⟩
  | true =>
    obtain ⟨r, hr, e⟩ := (hasR_at hA).1 (show hasR (rowsN L) id = true from hh)
    rw [rowsN_get] at hr
    obtain ⟨x, hx⟩ : ∃ x, L[posR (rowsN L) id]? = some x := by
      cases hz : L[posR (rowsN L) id]? with
      | none => rw [hz] at hr; cases hr
      | some z => exact ⟨z, rfl⟩
    rw [hx] at hr
    cases hr
    exact .inr ⟨x, hx, rfl, hx, e⟩
theorem EndsAt.vform {w : World} {b base : Nat} {tv : Value} {L : List En} (h : EndsAt w b base tv L) {k : Nat} {x : En} (hx : L[k]? = some x) : ∃ g c, tv = .slice (some ⟨g, 0, none⟩) L.length c ∧ g < w.heap.size ∧ g ≠ b ∧ base ≤ g ∧ w.cell? ⟨g, k * 3 + 1, none⟩ = some x.v ∧ w.cell? ⟨g, k * 3 + 2, none⟩ = some (.bool x.s) ∧ ∀ j, w.frozen? ⟨g, j, none⟩ = false := by
  have hne := h.tab.ne
  have hrow := h.tab.row
  rcases h.tab.form with ⟨rfl, h0⟩ | ⟨g, c, rfl, h1, h2, h3, h4, h5⟩
  · have : L = [] := by cases L with
      | nil => rfl
      | cons y M => cases h0
    rw [this] at hx
    cases hx
  · have q := fun j u => h5 k j (rowN x) u (by rw [rowsN_get, hx]; rfl)
    refine ⟨g, c, by rw [rowsN_len], h1, by omega, h2, q 1 _ rfl, q 2 _ rfl, fun j => ?_⟩
    rcases hrow.2 with ⟨e, _⟩ | ⟨g', cap, cur, e, p1, p2, _⟩
    · cases e
    · cases e
      exact Go.frozen_of_row _ _ _ _ _ p2
theorem own_form {w : World} {B : Nat} {v : Value} {l : List Int} (h : w.ownsRow B 3 1 v l.length (l.map (Value.int .i64))) : (v = .slice none 0 0 ∧ l = []) ∨ ∃ g c, v = .slice (some ⟨g, 0, none⟩) l.length c ∧ l.length ≤ c ∧ B ≤ g ∧ g < w.heap.size ∧ ∀ j z, l[j]? = some z → w.cell? ⟨g, j, none⟩ = some (.int .i64 z) := by
  have hlt := h.lt
  have hcs := fun g hg => h.cells (g := g) hg
  rcases h.2 with ⟨e, h0⟩ | ⟨g, cap, cur, e, q1, q2, q3, q4, q5, q6⟩
  · exact .inl ⟨e, List.length_eq_zero_iff.1 h0⟩
  · subst e
    refine .inr ⟨g, cap, rfl, q3, q1, (hlt g rfl).2, fun j z hj => ?_⟩
    have := hcs g rfl j (.int .i64 z) (by rw [List.getElem?_map, hj]; rfl)
    rwa [show ((⟨g, 0, none⟩ : Addr).add j) = ⟨g, j, none⟩ by unfold Addr.add; split <;> simp_all] at this
theorem own_len {w : World} {B : Nat} {v : Value} {l : List Int} (h : w.ownsRow B 3 1 v l.length (l.map (Value.int .i64))) : ∃ a c, v = .slice a l.length c := by
  rcases own_form h with ⟨e, h0⟩ | ⟨g, c, e, _⟩
  · exact ⟨none, 0, by rw [e, h0]; rfl⟩
  · exact ⟨_, _, e⟩
theorem tabget_no (w : World) (b base : Nat) (tv : Value) (L : List En) (id : Int) (h : EndsAt w b base tv L) (hh : hasN L id = false) :
    Calls Try.prog 28 #[.pointer (some ⟨b, 0, none⟩), .int .i64 id] w fun e w' => e = .returned (.tuple #[.pointer none, .bool false]) ∧ Below w.heap.size w w' := by
  have := get_any w b 0 base tv (rowsN L) id h.tab
  rw [show hasR (rowsN L) id = false from hh] at this
  exact this
theorem tabget_yes (w : World) (b base g c : Nat) (L : List En) (id : Int) (h : EndsAt w b base (.slice (some ⟨g, 0, none⟩) L.length c) L) (hh : hasN L id = true) :
    Calls Try.prog 28 #[.pointer (some ⟨b, 0, none⟩), .int .i64 id] w fun e w' => e = .returned (.tuple #[.pointer (some ⟨g, posN L id * 3 + 1, none⟩), .bool true]) ∧ Below w.heap.size w w' := by
  have := get_any w b 0 base _ (rowsN L) id h.tab
  rw [show hasR (rowsN L) id = true from hh] at this
  exact this
theorem infoI : (Try.prog.info? 3).map (fun i => (i.zero, i.size, i.bytes)) = some (some (.int .i64 0), 1, 8) := by kernel_rfl
theorem clone_w (w : World) (g n c : Nat) (l : List Int) (hl : l.length = n) (hn : 0 < n) (hm : n ≤ 1000000) (hg : g < w.heap.size) (hc : ∀ j z, l[j]? = some z → w.cell? ⟨g, j, none⟩ = some (.int .i64 z)) :
    Calls Try.prog 32 #[.slice (some ⟨g, 0, none⟩) n c] w fun e w' => ∃ v, e = .returned v ∧ w'.ownsRow w.heap.size 3 1 v n (l.map (Value.int .i64)) ∧ Below w.heap.size w w' := by
  obtain ⟨i0, hi, hz0, hz1, hz2⟩ := info_parts infoI
  have HI := Lib.hid hi
  have HL := Lib.hid hl
  have hk : ∀ ob, ∀ j u, (l.map (Value.int .i64))[j]? = some u → (w.alloc ob).cell? ((⟨g, 0, none⟩ : Addr).add j) = some u := fun ob j u hj => by
    rw [show ((⟨g, 0, none⟩ : Addr).add j) = ⟨g, j, none⟩ by unfold Addr.add; split <;> simp_all]
    rw [List.getElem?_map] at hj
    cases hz : l[j]? with
    | none => rw [hz] at hj; cases hj
    | some z =>
      rw [hz] at hj
      cases hj
      exact ((bal (Below.refl _ _) ob).cell (p := ⟨g, j, none⟩) hg).trans (hc j z hz)
  have HK := Lib.hid hk
  clear hi hc hl hk
  have hq := fun w => Go.Lib.run_eql_slice_nil (P := Try.prog) w 36 3 (some ⟨g, 0, none⟩) n c 0 0 Try.underlying36
  go_enter Try.func32, Try.ntmps32
  go_wp2_with (at_builtin; refine wpList_append_own _ rfl _ _ 36 rfl w.heap.size 3 i0 (.int .i64 0) 1 8 Try.underlying36 HI.out hz0 hz1 hz2 rfl (by decide) _ 0 [] rfl (World.ownsRow_made w #[] 0 (Nat.le_refl _) (by unfold maxLen; omega) rfl) ⟨g, 0, none⟩ n c (l.map (Value.int .i64)) rfl (by rw [List.length_map, HL.out]; omega) (HK.out _) (by simp [Value.oneCell']) (by unfold maxLen; omega) (by omega) (by simp) ?_; intro v' w1 hown' hgrow _)
  go_ret
  refine ⟨v', rfl, by simpa using hown', (bal (Below.refl _ _) _).grown hgrow (by simp) (fun jj ej => ?_)⟩
  simp [Value.ownBlock, go_sem] at ej
  omega
/-- Who waits at an endpoint, and for what. -/
def listN (L : List En) (id : Int) : List Int × Bool := match getN L id with
  | none => ([], false)
  | some x => if x.l = [] then ([], false) else (x.l, x.s)
theorem own_big {L : List En} {w : World} {b base : Nat} {tv : Value} (h : EndsAt w b base tv L) {x : En} (hx : x ∈ L) : w.ownsRow base 3 1 x.v x.l.length (x.l.map (Value.int .i64)) := h.own x hx
set_option maxRecDepth 100000 in
set_option maxHeartbeats 1000000 in
theorem elist_any (w : World) (b base : Nat) (tv : Value) (L : List En) (id : Int) (h : EndsAt w b base tv L) (hm : ∀ x ∈ L, x.l.length ≤ 1000000) :
    Calls Try.prog 22 #[.pointer (some ⟨b, 0, none⟩), .int .i64 id] w fun e w' => ∃ r, e = .returned (.tuple #[r, .bool (listN L id).2]) ∧ w'.ownsRow w.heap.size 3 1 r (listN L id).1.length ((listN L id).1.map (Value.int .i64)) ∧ Below w.heap.size w w' := by
  have H := Lib.hid h
  unfold listN
  rcases getN_has h.tab.asc id with ⟨hg, hh⟩ | ⟨x, hg, hh, hx, hid⟩
  · rw [hg]
    have HH := Lib.hid hh
    clear h hh hg
    go_enter Try.func22, Try.ntmps22
    go_wp2_with (go_at_call 28; refine (tabget_no _ b base tv L id H.out HH.out).mono ?_; rintro e w1 ⟨rfl, hb1⟩)
    go_ret2
    exact ⟨_, rfl, World.ownsRow_nil _ _ _ _, hb1⟩
  · rw [hg]
    obtain ⟨g, c, rfl, hgl, hgb, hga, hc1, hc2, _⟩ := h.vform hx
    have HH := Lib.hid hh
    have hxm := List.mem_of_getElem? hx
    have hrow := h.own x hxm
    have hml := hm x hxm
    have HX := Lib.hid hx
    clear h hh hg hm
    generalize hp : posN L id = p at *
    have HP := Lib.hid hp
    clear hp hx
    by_cases h0 : x.l = []
    · simp only [h0, if_true]
      rw [h0] at hrow
      obtain ⟨a, cc, hv⟩ : ∃ a cc, x.v = .slice a 0 cc := by
        rcases own_form hrow with ⟨e, _⟩ | ⟨gx, cx, e, _⟩
        · exact ⟨_, _, e⟩
        · exact ⟨_, _, e⟩
      rw [hv] at hc1
      clear hrow hml hv
      go_enter Try.func22, Try.ntmps22
      go_wp2_with (go_at_call 28; refine (tabget_yes _ b base g c L id H.out HH.out).mono ?_; rw [HP.out]; rintro e w1 ⟨rfl, hb1⟩; obtain ⟨hc, hf⟩ := bcell hb1)
      go_ret2
      exact ⟨_, rfl, World.ownsRow_nil _ _ _ _, hb1⟩
    · simp only [h0, if_false]
      rcases own_form hrow with ⟨_, e0⟩ | ⟨gx, cx, hv, hle, hgx1, hgx2, hcells⟩
      · exact absurd e0 h0
      · rw [hv] at hc1
        obtain ⟨n, hn⟩ : ∃ n, x.l.length = n := ⟨_, rfl⟩
        have hn0 : 0 < n := by rw [← hn]; exact List.length_pos_iff.2 h0
        rw [hn] at hc1 hml
        have HN := Lib.hid hn
        have HCS := Lib.hid hcells
        have hnI : ¬ (n : Int) = 0 := by omega
        have hn1 : ¬ n = 0 := by omega
        generalize x.s = xs at *
        clear hrow hv hle hcells h0 hn
        go_enter Try.func22, Try.ntmps22
        go_upto_region 6 with (go_at_call 28; refine (tabget_yes _ b base g c L id H.out HH.out).mono ?_; rw [HP.out]; rintro e w1 ⟨rfl, hb1⟩; obtain ⟨hbc, hbf⟩ := bcell hb1; have HB1 := Lib.hid hb1)
        clear hbc hbf
        have d1 : w1.cell? ⟨g, p * 3 + 1, none⟩ = some (.slice (some ⟨gx, 0, none⟩) n cx) := (HB1.out.cell (p := ⟨g, _, none⟩) hgl).trans hc1
        have d2 : w1.cell? ⟨g, p * 3 + 2, none⟩ = some (.bool xs) := (HB1.out.cell (p := ⟨g, _, none⟩) hgl).trans hc2
        have HD : Hid (w1.cell? ⟨g, p * 3 + 1, none⟩ = some (.slice (some ⟨gx, 0, none⟩) n cx) ∧ w1.cell? ⟨g, p * 3 + 2, none⟩ = some (.bool xs)) := Lib.hid ⟨d1, d2⟩
        have hgl1 : g < w1.heap.size := Nat.lt_of_lt_of_le hgl HB1.out.size
        go_region_held3 (fun w' => w'.cell? ⟨g, p * 3 + 1, none⟩ = some (.slice (some ⟨gx, 0, none⟩) n cx) ∧ w'.cell? ⟨g, p * 3 + 2, none⟩ = some (.bool xs))
          (first | exact ⟨(HB2.out.cell (p := ⟨g, _, none⟩) hgl1).trans HD.out.1, (HB2.out.cell (p := ⟨g, _, none⟩) hgl1).trans HD.out.2⟩ | exact HD.out)
          (first
            | (go_at_call 32; (with_reducible refine (clone_w _ gx n cx x.l HN.out hn0 hml (Nat.lt_of_lt_of_le hgx2 HB1.out.drew.size) (fun j z hj => (HB1.out.drew.cell (p := ⟨gx, j, none⟩) hgx2).trans (HCS.out j z hj))).mono ?_); rintro e w2 ⟨v2, rfl, ho2, hb2⟩; have HO2 := Lib.hid ho2; have HB2 : Hid (Below w1.heap.size w1 w2) := Lib.hid ⟨hb2.os, hb2.tape, hb2.output, hb2.size, hb2.block⟩; clear ho2 hb2))
        all_goals
          go_wp2
          go_ret2
          refine ⟨_, rfl, ?_, HB1.out.trans (HB2.out.mono HB1.out.size)⟩
          have ho := HO2.out
          rw [HN.out]
          refine ⟨ho.1, ?_⟩
          rcases ho.2 with q | ⟨g', cap, cur, e, q1, q2⟩
          · exact .inl q
          · exact .inr ⟨g', cap, cur, e, Nat.le_trans HB1.out.size q1, q2⟩
end Go.Proofs.Ytmbjaemflmbljaa
