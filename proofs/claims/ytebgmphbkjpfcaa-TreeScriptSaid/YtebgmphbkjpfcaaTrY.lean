/- package tree: Below of anything; Parent. -/
import Derived.Test.YtebgmphbkjpfcaaTrX
namespace Go.Proofs.Ytebgmphbkjpfcaa
set_option linter.unusedVariables false
set_option linter.unusedSimpArgs false
open Go.ChangeShapes Go.WideShapes Go.ChangeAt Go.RowKit Go.Shelf

theorem below_any (w : World) (B b m n : Nat) (ps : List Nat) (l : List Nod) (f : Int → Int → Option Nat) (o i : Int) (ho : InS o) (hi : InS i) (h : TreeAt w B b m n ps l f) (hn : n < 1000000) :
    Calls Try.prog 15 #[.pointer (some ⟨b, 0, none⟩), slV o i] w fun e w' => ∃ v, e = .returned v ∧ w'.ownsRow w.heap.size 31 2 v (belowA l o i).length (slsC (belowA l o i)) ∧ Below w.heap.size w w' := by
  unfold belowA
  cases hk : idx l o i with
  | some k =>
    obtain ⟨x, hx, hxs⟩ := idx_some hk
    obtain ⟨p, hp⟩ := get_len h.len.symm hx
    exact callsIn_wide.1 (below_fn_in w B b m n ps l f o i k p x ho hi h hn hp hx hxs)
  | none =>
    have hf := h.find ho hi
    rw [hk] at hf
    change f o i = none at hf
    have hal : Below w.heap.size w (w.alloc (slO o i)) := bal (Below.refl _ _) _
    have HA := Lib.hid hal
    have H := Lib.hid h
    have HF := Lib.hid hf
    clear h hal hf hk
    go_enter Try.func15, Try.ntmps15
    go_wp2_with (go_at_call 17; refine (has_any _ B b m n ps l f o i ho hi (H.out.call HA.out)).mono ?_; rw [HF.out]; rintro e w1 ⟨rfl, hb1⟩)
    go_ret
    exact ⟨_, rfl, World.ownsRow_nil _ _ _ _, HA.out.trans (hb1.mono HA.out.size)⟩
/-- The last place ahead of the k-th that is less deep than d. -/
def parUp (l : List Nod) (d : Int) : Nat → Option Nat
  | 0 => none
  | j + 1 => if ((l[j]?).map Nod.d).getD d < d then some j else parUp l d j
def parentA (l : List Nod) (o i : Int) : Option Nod := (idx l o i).bind fun k => (parUp l (((l[k]?).map Nod.d).getD 0) k).bind fun j => l[j]?
def parV (x : Option Nod) : Value := .tuple #[slV ((x.map Nod.o).getD 0) ((x.map Nod.i).getD 0), .bool x.isSome]
/-- Where a pointer stands, from behind. -/
def posB (ps : List Nat) : Value → Nat
  | .pointer (some a) => ps.idxOf a.block + 1
  | _ => 0
theorem posB_at {ps : List Nat} (hi : ∀ (k j p : Nat), ps[k]? = some p → ps[j]? = some p → k = j) (j : Nat) (hj : j ≤ ps.length) : posB ps (ptrV (prv ps j)) = j := by
  cases j with
  | zero => rfl
  | succ j =>
    have h : ps[j]? = some (ps[j]'(by omega)) := List.getElem?_eq_getElem _
    show posB ps (ptrV ps[j]?) = j + 1
    rw [h]
    show ps.idxOf _ + 1 = j + 1
    rw [idx_of hi h]
theorem fr_one (W : World) (k : Nat) : (W.alloc (slO 0 0)).drew.frozen? ⟨W.heap.size, k, none⟩ = false := by
  have hb := World.alloc_heap_new W (slO 0 0)
  have : (W.alloc (slO 0 0)).drew.heap[W.heap.size]? = some (slO 0 0) := hb
  exact Go.frozen_of_row _ _ _ _ _ this
theorem fr_two {w w1 : World} {o i : Int} (hb : Below ((w.alloc (slO o i)).alloc (slO 0 0)).heap.size ((w.alloc (slO o i)).alloc (slO 0 0)) w1) (k : Nat) : w1.frozen? ⟨w.heap.size + 1, k, none⟩ = false := by
  have e := hb.frozen (p := ⟨w.heap.size + 1, k, none⟩) (by simp)
  rw [e]
  have hb := World.alloc_heap_new (w.alloc (slO o i)) (slO 0 0)
  rw [World.size_alloc] at hb
  exact Go.frozen_of_row _ _ _ _ _ hb
set_option maxRecDepth 100000 in
set_option maxHeartbeats 1000000 in
theorem parent_some (w : World) (B b m n : Nat) (ps : List Nat) (l : List Nod) (f : Int → Int → Option Nat) (o i : Int) (k p : Nat) (x : Nod) (ho : InS o) (hi : InS i) (h : TreeAt w B b m n ps l f) (hn : n < 1000000) (hk : ps[k]? = some p) (hx : l[k]? = some x) (hxs : x.o = o ∧ x.i = i) :
    Calls Try.prog 13 #[.pointer (some ⟨b, 0, none⟩), slV o i] w fun e w' => e = .returned (parV ((parUp l x.d k).bind fun j => l[j]?)) ∧ Below w.heap.size w w' := by
  have hf : f o i = some p := (h.finds o i p ho hi).2 ⟨k, x, hk, hx, hxs⟩
  have hal : Below w.heap.size w ((w.alloc (slO o i)).alloc (slO 0 0)) := bal (bal (Below.refl _ _) _) _
  have HA := Lib.hid hal
  have HS := Lib.hid (Sl2.fresh2 w o i 0 0)
  have H := Lib.hid h
  have HF := Lib.hid hf
  clear hal hf
  go_enter Try.func13, Try.ntmps13
  go_wp2
  go_step3
  go_wp2_with (go_at_call 17; refine (has_any _ B b m n ps l f o i ho hi (H.out.call HA.out)).mono ?_; rw [HF.out]; rintro e w1 ⟨rfl, hb1⟩; obtain ⟨s0, s1, sl⟩ := HS.out.1.call hb1; have HB1 := Lib.hid (HA.out.trans (hb1.mono HA.out.size)); have hT := H.out.call HB1.out; obtain ⟨c0, c1, c2, cz⟩ := head_cells hT.head; have hbl : b < w1.heap.size := hT.lt (.inl rfl); have hl := hT.look (W := w1.drew) rfl ho hi; rw [HF.out] at hl; simp only [ptrV] at hl; have HR := Lib.hid (HS.out.2.call hb1); have HFR := Lib.hid (fr_two hb1); have HT := Lib.hid hT; clear hb1 hT)
  obtain ⟨p0, p1, p2, p3, p4, pz⟩ := place_cells (HT.out.row k p x hk hx)
  have hpl : p < w1.heap.size := HT.out.lt (foot_at hk)
  clear p0 p1 p4
  go_region
  all_goals
    go_wp2
    refine wp_label ?_
    obtain ⟨w2, hw2⟩ : ∃ x, x = (w1.alloc (slO 0 0)).drew := ⟨_, rfl⟩
    rw [show (w1.alloc (.cells #[.int .i64 0, .int .i64 0] 31)).drew = w2 from hw2.symm]
    have hb2 : Below w1.heap.size w1 w2 := hw2 ▸ (bal (Below.refl _ _) _).drew
    have hX : Sl2 w2 w1.heap.size 0 0 ∧ (∀ k, w2.frozen? ⟨w1.heap.size, k, none⟩ = false) := by
      rw [hw2]
      refine ⟨(Sl2.fresh w1 0 0).call (Below.refl _ _).drew, fun k => ?_⟩
      exact fr_one w1 k
    have HX2 := Lib.hid hX
    have HR2 := Lib.hid (HR.out.call hb2)
    have HFR2 : Hid (∀ k, w2.frozen? ⟨w.heap.size + 1, k, none⟩ = false) := Lib.hid (fun k => (hb2.frozen (p := ⟨w.heap.size + 1, k, none⟩) HR.out.lt).trans (HFR.out k))
    have HT2 := Lib.hid (HT.out.call hb2)
    have HB2 := Lib.hid (HB1.out.trans (hb2.mono HB1.out.size))
    have hlt12 : w.heap.size + 1 < w1.heap.size := HR.out.lt
    obtain ⟨e0, e1, el⟩ := HX2.out.1
    obtain ⟨d0, d1, dl⟩ := HR2.out
    have ez := HX2.out.2
    have dz := HFR2.out
    have hkl : k ≤ ps.length := by have := (List.getElem?_eq_some_iff.1 hk).1; omega
    obtain ⟨q0, q1, q2, q3, q4, qz⟩ := place_cells (HT2.out.row k p x hk hx)
    have hpl2 : p < w2.heap.size := HT2.out.lt (foot_at hk)
    have hne1 : p ≠ w1.heap.size := by omega
    clear hw2 hb2 hX p2 p3 pz c0 c1 c2 cz s0 s1 hl
    go_wp2
    clear q0 q1 q3 q4
    go_loopw [8, 9] (fun t q wr => ∃ (j z : Nat), j ≤ k ∧ t = .bool false ∧ q = ptrV (prv ps j) ∧ wr = w2.drewN z ∧ Hid (parUp l x.d k = parUp l x.d j)) (fun _ q _ => posB ps q)
    case atStart => exact ⟨k, 0, Nat.le_refl _, rfl, rfl, rfl, Lib.hid rfl⟩
    case round =>
      obtain ⟨j, z, hj, rfl, rfl, rfl, HP⟩ := hrel
      rcases j with _ | j
      · rw [show ptrV (prv ps 0) = .pointer none from rfl]
        have hpn := HP.out
        rw [show parUp l x.d 0 = none from rfl] at hpn
        have HPN := Lib.hid hpn
        clear hpn
        go_wp2
        (try rw [Exit.noGoto_ret])
        refine bodyPost_ret (v := parV none) (by simp [results, Try.results13, go_sem, parV, d0, d1, e0, e1]) rfl ⟨by rw [HPN.out]; rfl, ?_⟩
        (repeat (first | with_reducible exact HB2.out | with_reducible refine below_drewN ?_ _ | with_reducible refine Below.drew ?_ | with_reducible refine Below.setCell ?_ (by first | (simp; done) | (simp; omega)) _))
      · have hjl : j < l.length := by rw [← HT.out.len]; omega
        obtain ⟨y, hy⟩ : ∃ y, l[j]? = some y := ⟨l[j]'hjl, List.getElem?_eq_getElem _⟩
        obtain ⟨r, hr⟩ := get_len HT.out.len.symm hy
        rw [show ptrV (prv ps (j + 1)) = .pointer (some ⟨r, 0, none⟩) from by show ptrV ps[j]? = _; rw [hr]; rfl]
        obtain ⟨r0, r1, r2, r3, r4, rz⟩ := place_cells (HT2.out.row j r y hr hy)
        have hrl : r < w2.heap.size := HT2.out.lt (foot_at hr)
        have hstep : parUp l x.d (j + 1) = if y.d < x.d then some j else parUp l x.d j := by
          show (if ((l[j]?).map Nod.d).getD x.d < x.d then some j else parUp l x.d j) = _
          rw [hy]; rfl
        have HSTEP := Lib.hid hstep
        have HY := Lib.hid hy
        have HRR := Lib.hid hr
        clear hstep hy hr
        by_cases hd : y.d < x.d
        · have hd' : decide (y.d < x.d) = true := decide_eq_true hd
          have HND := Lib.hid hd
          have HZ : Hid (parUp l x.d k = some j) := Lib.hid (by rw [HP.out, HSTEP.out, if_pos HND.out])
          go_wp2
          go_quiet (fail)
          go_wp2
          (try rw [Exit.noGoto_ret])
          refine bodyPost_ret (v := parV (some y)) (by simp [results, Try.results13, go_sem, parV, d0, d1, e0, e1]) rfl ⟨by rw [HZ.out]; simp [HY.out], ?_⟩
          (repeat (first | with_reducible exact HB2.out | with_reducible refine below_drewN ?_ _ | with_reducible refine Below.drew ?_ | with_reducible refine Below.setCell ?_ (by first | (simp; done) | (simp; omega)) _))
        · have hd' : decide (y.d < x.d) = false := decide_eq_false hd
          have HND := Lib.hid hd
          go_wp2
          go_quiet (fail)
          go_wp2
          go_roundw
          case rel => exact ⟨j, z + nq, by omega, rfl, rfl, by first | rfl | simp, Lib.hid (by rw [HP.out, HSTEP.out, if_neg (by have := HND.out; omega)])⟩
          case measure =>
            rw [posB_at HT.out.inj j (by omega)]
            have := posB_at HT.out.inj (j + 1) (by omega)
            rw [show ptrV (prv ps (j + 1)) = .pointer (some ⟨r, 0, none⟩) from by show ptrV ps[j]? = _; rw [HRR.out]; rfl] at this
            omega
theorem parent_any (w : World) (B b m n : Nat) (ps : List Nat) (l : List Nod) (f : Int → Int → Option Nat) (o i : Int) (ho : InS o) (hi : InS i) (h : TreeAt w B b m n ps l f) (hn : n < 1000000) :
    Calls Try.prog 13 #[.pointer (some ⟨b, 0, none⟩), slV o i] w fun e w' => e = .returned (parV (parentA l o i)) ∧ Below w.heap.size w w' := by
  unfold parentA
  cases hk : idx l o i with
  | some k =>
    obtain ⟨x, hx, hxs⟩ := idx_some hk
    obtain ⟨p, hp⟩ := get_len h.len.symm hx
    have := parent_some w B b m n ps l f o i k p x ho hi h hn hp hx hxs
    simp only [Option.bind_some]
    rw [show ((l[k]?).map Nod.d).getD 0 = x.d by rw [hx]; rfl]
    exact this
  | none =>
    have hf := h.find ho hi
    rw [hk] at hf
    change f o i = none at hf
    have hal : Below w.heap.size w ((w.alloc (slO o i)).alloc (slO 0 0)) := bal (bal (Below.refl _ _) _) _
    have HA := Lib.hid hal
    have H := Lib.hid h
    have HF := Lib.hid hf
    have HS := Lib.hid (Sl2.fresh2 w o i 0 0)
    clear h hal hf hk
    go_enter Try.func13, Try.ntmps13
    go_wp2
    go_step3
    go_wp2_with (go_at_call 17; refine (has_any _ B b m n ps l f o i ho hi (H.out.call HA.out)).mono ?_; rw [HF.out]; rintro e w1 ⟨rfl, hb1⟩; obtain ⟨d0, d1, dl⟩ := HS.out.2.call hb1; have dz := fr_two hb1; have HB1 := Lib.hid (HA.out.trans (hb1.mono HA.out.size)))
    (try rw [Exit.noGoto_ret])
    refine bodyPost_ret (v := parV none) (by simp [results, Try.results13, go_sem, parV, d0, d1]) rfl ⟨rfl, ?_⟩
    (repeat (first | with_reducible exact HB1.out | with_reducible refine Below.setCell ?_ (by first | (simp; done) | (simp; omega)) _))
end Go.Proofs.Ytebgmphbkjpfcaa
