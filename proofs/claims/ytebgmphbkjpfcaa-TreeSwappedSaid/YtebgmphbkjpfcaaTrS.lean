/- TreeSwapped: two slots that are swapped twice stand where they stood. -/
import Derived.Test.YtebgmphbkjpfcaaTrK
import Derived.Deep.RegionHeld3
namespace Go.Proofs.Ytebgmphbkjpfcaa
set_option linter.unusedVariables false
set_option linter.unusedSimpArgs false
open Go.ChangeShapes Go.WideShapes Go.ChangeAt Go.RowKit Go.Shelf

structure SlX where
  o : Int
  i : Int
abbrev SlX.val (x : SlX) : Value := slV x.o x.i
def SlX.Ok (x : SlX) : Prop := InS x.o ∧ InS x.i
theorem open_t31 {W : World} {base : Nat} {v : Value} (hv : Value.okWide Try.prog W .any base 31 v) : ∃ x : SlX, v = x.val ∧ x.Ok := by
  obtain ⟨cs, rfl, hl, hc⟩ := agg_cells (ts := [3, 3]) Try.underlying31 (by kernel_rfl) (by kernel_rfl) hv
  obtain ⟨v0, e0, o0⟩ := hc 0 _ rfl
  obtain ⟨a, rfl, b0⟩ := cell_i64 Try.underlying3 o0
  obtain ⟨v1, e1, o1⟩ := hc 1 _ rfl
  obtain ⟨b, rfl, b1⟩ := cell_i64 Try.underlying3 o1
  match cs, hl with
  | [c0, c1], _ =>
    cases e0
    cases e1
    exact ⟨⟨a, b⟩, rfl, ⟨b0, b1⟩⟩
abbrev zval_t31 : Value := .agg #[.int .i64 0, .int .i64 0]
abbrev zdat_t31 {H : Type} : DataW H := .agg [.lit (.int .i64 0), .lit (.int .i64 0)]
theorem played_ex (W : World) (p : Option Addr) (n c : Nat) (D : Nat → ActT) (hD : ActsAt W p n D) (hn : n ≤ 100) :
    Calls Try.prog 24 #[.slice p n c] W fun e w' => ∃ b m, e = .returned (.pointer (some ⟨b, 0, none⟩)) ∧ StK W b m (2 * n) (playL D n) (fun _ => False) w' :=
  (played_any W p n c D hD hn).mono fun e w' ⟨he, h⟩ => ⟨_, _, he, h.k⟩
theorem same_same (w : World) (u v : Value) (l : List Nod) (hu : NodesAt w u l) (hv : NodesAt w v l) (hn : l.length < 1000000) :
    Calls Try.prog 21 #[u, v] w fun e w' => e = .returned (.bool true) ∧ ∃ j, w' = w.drewN j := by
  have := same_nodes w u v l l hu hv hn hn
  rwa [decide_eq_true rfl] at this
theorem StK.draw {w0 W : World} {b m n : Nat} {l : List Nod} {K : Nat → Prop} (h : StK w0 b m n l K W) (j : Nat) : StK w0 b m n l K (W.drewN j) := (h.call (below_drewN (Below.refl _ _) j)).1
theorem StK.drew {w0 W : World} {b m n : Nat} {l : List Nod} {K : Nat → Prop} (h : StK w0 b m n l K W) : StK w0 b m n l K W.drew := (h.call (Below.refl _ _).drew).1
theorem NodesAt.drew {W : World} {v : Value} {l : List Nod} (h : NodesAt W v l) : NodesAt W.drew v l := h.call (Below.refl _ _).drew
theorem NodesAt.draw {W : World} {v : Value} {l : List Nod} (h : NodesAt W v l) (j : Nat) : NodesAt (W.drewN j) v l := h.call (below_drewN (Below.refl _ _) j)
theorem NodesAt.kept {W W' : World} {v : Value} {l : List Nod} {w0 : World} {b m n : Nat} {r : List Nod} (h : NodesAt W v l) (hs : SameK (KV v) W W') (hz : W.heap.size ≤ W'.heap.size) : NodesAt W' v l := h.same hs (fun k e => e) hz
theorem StK.swapk {w0 W : World} {b m n : Nat} {l l2 : List Nod} {v : Value} {o i p j : Int} (h : StK w0 b m n l (KV v) W) (hv : NodesAt W v l2) (ho : InS o) (hi : InS i) (hp : InS p) (hj : InS j) (hn : n < 1000000) :
    Calls Try.prog 28 #[.pointer (some ⟨b, 0, none⟩), slV o i, slV p j] W fun e w' => e = .returned (.int .i64 0) ∧ StK w0 b m (n + 1 + 1) (swapA l o i p j) (KV v) w' ∧ NodesAt w' v l2 := by
  obtain ⟨ps, f, hT, hB, hK⟩ := h
  refine (swap_any W _ b m n ps l f o i p j ho hi hp hj hT hn).mono ?_
  rintro e w' ⟨he, hL⟩
  obtain ⟨h1, h2⟩ := StK.left hT hB hK hL
  obtain ⟨_, _, _, hO⟩ := hL
  exact ⟨he, h1, hv.same h2 (fun k e => e) hO.size⟩
theorem StK.movek {w0 W : World} {b m n : Nat} {l l2 : List Nod} {v : Value} {o i p j : Int} (h : StK w0 b m n l (KV v) W) (hv : NodesAt W v l2) (ho : InS o) (hi : InS i) (hp : InS p) (hj : InS j) (hn : n < 1000000) :
    Calls Try.prog 29 #[.pointer (some ⟨b, 0, none⟩), slV o i, slV p j] W fun e w' => e = .returned (.int .i64 (moveA l o i p j).2) ∧ StK w0 b m (n + 1 + 1) (moveA l o i p j).1 (KV v) w' ∧ NodesAt w' v l2 := by
  obtain ⟨ps, f, hT, hB, hK⟩ := h
  refine (move_any W _ b m n ps l f o i p j ho hi hp hj hT hn).mono ?_
  rintro e w' ⟨he, hL⟩
  obtain ⟨h1, h2⟩ := StK.left hT hB hK hL
  obtain ⟨_, _, _, hO⟩ := hL
  exact ⟨he, h1, hv.same h2 (fun k e => e) hO.size⟩
theorem StK.allk {w0 W : World} {b m n : Nat} {l l2 : List Nod} {v : Value} (h : StK w0 b m n l (KV v) W) (hv : NodesAt W v l2) (hn : n < 1000000) :
    Calls Try.prog 16 #[.pointer (some ⟨b, 0, none⟩)] W fun e w' => ∃ u, e = .returned u ∧ NodesAt w' u l ∧ StK w0 b m n l (KV v) w' ∧ NodesAt w' v l2 := by
  refine (h.all hn).mono ?_
  rintro e w' ⟨u, he, hu, hT, _, hb⟩
  exact ⟨u, he, hu, hT.weak (fun k e => .inl e), hv.call hb⟩
set_option maxRecDepth 100000 in
set_option maxHeartbeats 1000000 in
theorem swapped_any (q : Option Addr) (n c : Nat) (D : Nat → ActT) (o i p j : Int) (ho : InS o) (hi : InS i) (hp : InS p) (hj : InS j) (W : World) (hn : n ≤ 60) (hD : ActsAt W q n D) :
    Calls Try.prog 7 #[.slice q n c, slV o i, slV p j] W fun e w' => e = .returned (.bool true) ∧ Below W.heap.size W w' := by
  have hal : Below W.heap.size W ((W.alloc (slO o i)).alloc (slO p j)) := bal (bal (Below.refl _ _) _) _
  have HB := Lib.hid hal
  have HS := Lib.hid (Sl2.fresh2 W o i p j)
  have HD := Lib.hid (hD.below hal)
  have hn' : ¬ (n : Int) > 60 := by omega
  have HN2 : Hid (n ≤ 100) := Lib.hid (by omega)
  have HN3 : Hid (2 * n ≤ 200) := Lib.hid (by omega)
  clear hD hal
  go_enter Try.func7, Try.ntmps7
  go_upto_region 7 with (first
    | (go_at_call 24; with_reducible refine (played_ex _ q n c D HD.out HN2.out).mono ?_; rintro e w1 ⟨b, m, rfl, hS⟩; have HT := Lib.hid (hS.mono HN3.out); generalize playL D n = l at *; clear hS)
    | (go_at_call 16; with_reducible refine (HT.out.all (by decide)).mono ?_; rintro e w2 ⟨v, rfl, hN, hT, hK, hb⟩; have HW := Lib.hid hN; have HT := Lib.hid (hT.weak (K' := KV v) (fun k e => .inr e)); clear hN hT hK hb))
  have HLEN : Hid (l.length < 1000000) := Lib.hid (Nat.lt_of_le_of_lt HT.out.st.len (by decide))
  have HSW1 := Lib.hid (HT.out.drew.swapk HW.out.drew ho hi hp hj (by decide))
  have hA2 := HS.out.1.call HT.out.below
  have hC2 := HS.out.2.call HT.out.below
  go_region_held3 (fun w' => w'.cell? ⟨W.heap.size, 0, none⟩ = some (.int .i64 o) ∧ w'.cell? ⟨W.heap.size, 1, none⟩ = some (.int .i64 i) ∧ w'.cell? ⟨W.heap.size + 1, 0, none⟩ = some (.int .i64 p) ∧ w'.cell? ⟨W.heap.size + 1, 1, none⟩ = some (.int .i64 j) ∧ W.heap.size + 1 < w'.heap.size)
    (first | exact ⟨hA4.c0, hA4.c1, hC4.c0, hC4.c1, hC4.lt⟩ | exact ⟨hA3.c0, hA3.c1, hC3.c0, hC3.c1, hC3.lt⟩ | exact ⟨hA2.c0, hA2.c1, hC2.c0, hC2.c1, hC2.lt⟩)
    (first
    | (go_at_call 28; with_reducible refine HSW2.out.mono ?_; rintro e w4 ⟨rfl, hS4, hW4⟩; rw [swapA_twice] at hS4; have HT := Lib.hid hS4; have HW := Lib.hid hW4; have hA4 := HS.out.1.call HT.out.below; have hC4 := HS.out.2.call HT.out.below; clear hS4 hW4)
    | (go_at_call 28; with_reducible refine HSW1.out.mono ?_; rintro e w3 ⟨rfl, hS3, hW3⟩; have HT := Lib.hid hS3; have HSW2 := Lib.hid (hS3.swapk hW3 ho hi hp hj (by decide)); have hA3 := HS.out.1.call HT.out.below; have hC3 := HS.out.2.call HT.out.below; clear hS3 hW3))
  all_goals
    clear hA2 hC2
    (try clear hA3 hC3)
    obtain ⟨s0, s1, sl⟩ := hA4
    obtain ⟨t0, t1, tl⟩ := hC4
    by_cases hmv : (moveA l o i p j).2 = 0
    · have HM := Lib.hid hmv
      clear hmv
      go_wp2_with (first
        | (go_at_call 16; with_reducible refine (HT.out.allk HW.out (by decide)).mono ?_; rintro e wa ⟨u, rfl, hu, hT, hW⟩; have HU := Lib.hid hu; have HT := Lib.hid hT; have HW := Lib.hid hW; (try clear s0 s1 sl t0 t1 tl); obtain ⟨s0, s1, sl⟩ := HS.out.1.call HT.out.below; obtain ⟨t0, t1, tl⟩ := HS.out.2.call HT.out.below; clear hu hT hW)
        | (go_at_call 21; with_reducible refine (same_same _ _ _ l HU.out HW.out HLEN.out).mono ?_; rintro e wz ⟨rfl, jz, rfl⟩; have HT := Lib.hid (HT.out.draw jz); have HW := Lib.hid (HW.out.draw jz); (try clear s0 s1 sl t0 t1 tl); obtain ⟨s0, s1, sl⟩ := HS.out.1.call HT.out.below; obtain ⟨t0, t1, tl⟩ := HS.out.2.call HT.out.below; skip)
        | (go_at_call 29; with_reducible refine HMB.out.mono ?_; rw [move_back HM.out]; rintro e wm ⟨rfl, hT, hW⟩; have HT := Lib.hid hT; have HW := Lib.hid hW; (try clear s0 s1 sl t0 t1 tl); obtain ⟨s0, s1, sl⟩ := HS.out.1.call HT.out.below; obtain ⟨t0, t1, tl⟩ := HS.out.2.call HT.out.below; clear hT hW)
        | (go_at_call 29; with_reducible refine (HT.out.movek HW.out ho hi hp hj (by decide)).mono ?_; rw [HM.out]; rintro e wm ⟨rfl, hT, hW⟩; have HT := Lib.hid hT; have HMB := Lib.hid (hT.movek hW hp hj ho hi (by decide)); (try clear s0 s1 sl t0 t1 tl); obtain ⟨s0, s1, sl⟩ := HS.out.1.call HT.out.below; obtain ⟨t0, t1, tl⟩ := HS.out.2.call HT.out.below; clear hT hW)
        | (go_at_call 10; refine (awake17 _).mono ?_; rintro e wy ⟨rfl, hby⟩; have HY := Lib.hid hby; clear hby))
      go_ret
      exact ⟨rfl, bgo (HB.out.trans (HT.out.below.mono HB.out.size)) HY.out⟩
    · obtain ⟨r, hr⟩ : ∃ r, (moveA l o i p j).2 = r := ⟨_, rfl⟩
      have hr0 : ¬ r = 0 := hr ▸ hmv
      have HR := Lib.hid hr
      have HM2 := Lib.hid (move_not hmv)
      clear hmv hr
      go_wp2_with (first
        | (go_at_call 16; with_reducible refine (HT.out.allk HW.out (by decide)).mono ?_; rintro e wa ⟨u, rfl, hu, hT, hW⟩; have HU := Lib.hid hu; have HT := Lib.hid hT; have HW := Lib.hid hW; (try clear s0 s1 sl t0 t1 tl); obtain ⟨s0, s1, sl⟩ := HS.out.1.call HT.out.below; obtain ⟨t0, t1, tl⟩ := HS.out.2.call HT.out.below; clear hu hT hW)
        | (go_at_call 21; with_reducible refine (same_same _ _ _ l HU.out HW.out HLEN.out).mono ?_; rintro e wz ⟨rfl, jz, rfl⟩; have HT := Lib.hid (HT.out.draw jz); have HW := Lib.hid (HW.out.draw jz); (try clear s0 s1 sl t0 t1 tl); obtain ⟨s0, s1, sl⟩ := HS.out.1.call HT.out.below; obtain ⟨t0, t1, tl⟩ := HS.out.2.call HT.out.below; skip)
        | (go_at_call 29; with_reducible refine (HT.out.movek HW.out ho hi hp hj (by decide)).mono ?_; rw [HR.out, HM2.out]; rintro e wm ⟨rfl, hT, hW⟩; have HT := Lib.hid hT; have HW := Lib.hid hW; (try clear s0 s1 sl t0 t1 tl); obtain ⟨s0, s1, sl⟩ := HS.out.1.call HT.out.below; obtain ⟨t0, t1, tl⟩ := HS.out.2.call HT.out.below; clear hT hW)
        | (go_at_call 10; refine (awake17 _).mono ?_; rintro e wy ⟨rfl, hby⟩; have HY := Lib.hid hby; clear hby))
      go_ret
      exact ⟨rfl, bgo (HB.out.trans (HT.out.below.mono HB.out.size)) HY.out⟩
theorem walk_treeSwapped {W : World} (q : Option Addr) (n c : Nat) (hx : n ≤ c ∧ c ≤ maxLen ∧ ∃ D, ActsAt W q n D) (a1 : SlX) (w1 : a1.Ok) (a2 : SlX) (w2 : a2.Ok) :
    Calls Try.prog 7 #[.slice q n c, a1.val, a2.val] W fun e w' => e = .returned (.bool true) ∧ Below W.heap.size W w' := by
  obtain ⟨h1, h2, D, hD⟩ := hx
  unfold maxLen at h2
  by_cases hn : n ≤ 60
  · exact swapped_any q n c D a1.o a1.i a2.o a2.i w1.1 w1.2 w2.1 w2.2 W hn hD
  · have hn' : (n : Int) > 60 := by omega
    obtain ⟨o, i⟩ := a1
    obtain ⟨p, j⟩ := a2
    clear hD w1 w2
    go_enter Try.func7, Try.ntmps7
    go_wp2_with (go_at_call 10; refine (awake17 _).mono ?_; rintro e w3 ⟨rfl, hb3⟩)
    go_ret
    exact ⟨rfl, bgo (bal (bal (Below.refl _ _) _) _) hb3⟩
end Go.Proofs.Ytebgmphbkjpfcaa
