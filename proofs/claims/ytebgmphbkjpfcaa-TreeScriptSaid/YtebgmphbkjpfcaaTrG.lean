/- package tree: lists of nodes compared; awake17. -/
import Derived.Test.YtebgmphbkjpfcaaTrF
import Derived.Lib.SmallJoins
namespace Go.Proofs.Ytebgmphbkjpfcaa
set_option linter.unusedVariables false
set_option linter.unusedSimpArgs false
open Go.ChangeShapes Go.WideShapes Go.ChangeAt Go.RowKit Go.Shelf

theorem remove_any (w : World) (B b m n : Nat) (ps : List Nat) (l : List Nod) (f : Int → Int → Option Nat) (o i : Int) (ho : InS o) (hi : InS i) (h : TreeAt w B b m n ps l f) (hn : n < 1000000) :
    Calls Try.prog 26 #[.pointer (some ⟨b, 0, none⟩), slV o i] w fun e w' => e = .returned (.int .i64 (removeA l o i).2) ∧ Left w w' B b m (n + 1) ps (removeA l o i).1 := by
  unfold removeA
  cases hk : idx l o i with
  | some k =>
    obtain ⟨x, hx, hxs⟩ := idx_some hk
    obtain ⟨p, hp⟩ := get_len h.len.symm hx
    exact callsIn_wide.1 (remove_in w B b m n ps l f o i k p x ho hi h hn hp hx hxs)
  | none =>
    have hf := h.find ho hi
    rw [hk] at hf
    change f o i = none at hf
    have hal : Below w.heap.size w (w.alloc (slO o i)) := bal (Below.refl _ _) _
    have HA := Lib.hid hal
    have hl := h.look_ok (W := (w.alloc (slO o i)).drew) (hal.drew.block m (h.lt (.inr (.inl rfl)))) ho hi
    rw [hf] at hl
    simp only [ptrV, Option.isSome] at hl
    obtain ⟨c0, c1, c2, cz⟩ := head_cells h.head
    have hbl : b < w.heap.size := h.lt (.inl rfl)
    have H := Lib.hid h
    clear h hal hf hk
    go_enter Try.func26, Try.ntmps26
    go_upto_region 3 with fail
    go_region
    all_goals
      go_wp2
      go_ret
      exact ⟨rfl, Left.same H.out HA.out.drew (Nat.le_succ _)⟩
abbrev ndV (x : Nod) : Value := .agg #[.int .i64 x.o, .int .i64 x.i, .int .i64 x.d]
set_option maxHeartbeats 1000000 in
theorem eqN (x y : Nod) (w : World) : (binOp .eql 49 (ndV x) (ndV y)).run Try.prog w = .ok (.bool (decide (x = y))) w := by
  obtain ⟨s, p, f⟩ := x
  obtain ⟨s', p', f'⟩ := y
  go_simp
  repeat (split <;> simp_all)
set_option maxHeartbeats 1000000 in
theorem neN (x y : Nod) (w : World) : (binOp .neq 49 (ndV x) (ndV y)).run Try.prog w = .ok (.bool (!decide (x = y))) w := by
  obtain ⟨s, p, f⟩ := x
  obtain ⟨s', p', f'⟩ := y
  go_simp
  repeat (split <;> simp_all)
/-- v is a slice that holds l. -/
def NodesAt (W : World) (v : Value) (l : List Nod) : Prop :=
  (v = .slice none 0 0 ∧ l = []) ∨ ∃ g c, v = .slice (some ⟨g, 0, none⟩) l.length c ∧ g < W.heap.size ∧ ∀ (k : Nat) (x : Nod), l[k]? = some x → W.cell? ⟨g, k * 3, none⟩ = some (.int .i64 x.o) ∧ W.cell? ⟨g, k * 3 + 1, none⟩ = some (.int .i64 x.i) ∧ W.cell? ⟨g, k * 3 + 2, none⟩ = some (.int .i64 x.d)
theorem NodesAt.call {W W' : World} {v : Value} {l : List Nod} (h : NodesAt W v l) (hb : Below W.heap.size W W') : NodesAt W' v l := by
  rcases h with h | ⟨g, c, rfl, hg, hc⟩
  · exact .inl h
  · refine .inr ⟨g, c, rfl, Nat.lt_of_lt_of_le hg hb.size, fun k x hx => ?_⟩
    obtain ⟨a1, a2, a3⟩ := hc k x hx
    exact ⟨(hb.cell (p := ⟨g, _, none⟩) hg).trans a1, (hb.cell (p := ⟨g, _, none⟩) hg).trans a2, (hb.cell (p := ⟨g, _, none⟩) hg).trans a3⟩
theorem nodsC_get : ∀ (l : List Nod) (k : Nat) (x : Nod), l[k]? = some x → (nodsC l)[k * 3]? = some (.int .i64 x.o) ∧ (nodsC l)[k * 3 + 1]? = some (.int .i64 x.i) ∧ (nodsC l)[k * 3 + 2]? = some (.int .i64 x.d)
  | [], k, x, h => by simp at h
  | y :: l, 0, x, h => by simp at h; subst h; exact ⟨rfl, rfl, rfl⟩
  | y :: l, k + 1, x, h => by
    obtain ⟨a1, a2, a3⟩ := nodsC_get l k x (by simpa using h)
    have e : nodsC (y :: l) = .int .i64 y.o :: .int .i64 y.i :: .int .i64 y.d :: nodsC l := rfl
    rw [e, show (k + 1) * 3 = k * 3 + 1 + 1 + 1 by omega, show k * 3 + 1 + 1 + 1 + 1 = k * 3 + 1 + 1 + 1 + 1 from rfl]
    exact ⟨a1, a2, a3⟩
theorem nodes_row {W : World} {B : Nat} {e : TypeId} {v : Value} {l : List Nod} (h : W.ownsRow B e 3 v l.length (nodsC l)) : NodesAt W v l := by
  have hlt := h.lt
  have hcs := fun g hg => h.cells (g := g) hg
  obtain ⟨hl, ⟨rfl, h⟩ | ⟨g, cap, cur, rfl, hg, hblk, h1, h2, h3, h4⟩⟩ := h
  · exact .inl ⟨rfl, List.length_eq_zero_iff.1 h⟩
  · refine .inr ⟨g, cap, rfl, (hlt g rfl).2, fun k x hx => ?_⟩
    have e : ∀ j, ((⟨g, 0, none⟩ : Addr).add j) = ⟨g, j, none⟩ := fun j => by unfold Addr.add; split <;> simp_all
    obtain ⟨a1, a2, a3⟩ := nodsC_get l k x hx
    have b1 := hcs g rfl _ _ a1
    have b2 := hcs g rfl _ _ a2
    have b3 := hcs g rfl _ _ a3
    rw [e] at b1 b2 b3
    exact ⟨b1, b2, b3⟩
theorem NodesAt.form {W : World} {v : Value} {l : List Nod} (h : NodesAt W v l) : ∃ a c, v = .slice a l.length c := by
  rcases h with ⟨rfl, rfl⟩ | ⟨g, c, rfl, _⟩
  · exact ⟨none, 0, rfl⟩
  · exact ⟨_, c, rfl⟩
set_option maxRecDepth 100000 in
theorem same_nodes (w : World) (u v : Value) (l r : List Nod) (hu : NodesAt w u l) (hv : NodesAt w v r) (hn : l.length < 1000000) (hr : r.length < 1000000) :
    Calls Try.prog 21 #[u, v] w fun e w' => e = .returned (.bool (decide (l = r))) ∧ ∃ j, w' = w.drewN j := by
  by_cases hl : l.length = r.length
  · rcases hu with ⟨rfl, rfl⟩ | ⟨g, c, rfl, hg, hcg⟩
    · have hr0 : r = [] := List.length_eq_zero_iff.1 hl.symm
      subst hr0
      obtain ⟨a, c, rfl⟩ := hv.form
      go_enter Try.func21, Try.ntmps21
      go_wp2
      refine wp_loop_rounds 1 ?_
      rw [rounds_succ]
      go_wp2
      go_ret
      exact ⟨rfl, 0, rfl⟩
    · rcases hv with ⟨rfl, rfl⟩ | ⟨q, d, rfl, hq, hcq⟩
      · have hr0 : l = [] := List.length_eq_zero_iff.1 hl
        subst hr0
        go_enter Try.func21, Try.ntmps21
        go_wp2
        refine wp_loop_rounds 1 ?_
        rw [rounds_succ]
        go_wp2
        go_ret
        exact ⟨rfl, 0, rfl⟩
      · have HG := Lib.hid hcg
        have HQ := Lib.hid hcq
        clear hcg hcq
        rw [← hl]
        generalize hN : l.length = N at *
        go_enter Try.func21, Try.ntmps21
        go_wp2
        go_loopw [5] (fun i wr => ∃ k : Nat, k ≤ N ∧ i = .int .i64 k ∧ (∃ j, wr = w.drewN j) ∧ Hid (l.take k = r.take k)) (fun i _ => N - (intOf i).toNat)
        case atStart => exact ⟨0, by omega, rfl, ⟨0, rfl⟩, Lib.hid (by simp)⟩
        case round =>
          obtain ⟨k, hk, rfl, ⟨j, rfl⟩, HE⟩ := hrel
          by_cases hlt : k < N
          · obtain ⟨x, hx⟩ : ∃ x, l[k]? = some x := ⟨l[k]'(by omega), List.getElem?_eq_getElem _⟩
            obtain ⟨y, hy⟩ : ∃ y, r[k]? = some y := ⟨r[k]'(by omega), List.getElem?_eq_getElem _⟩
            obtain ⟨x0, x1, x2⟩ := HG.out k x hx
            obtain ⟨y0, y1, y2⟩ := HQ.out k y hy
            have hne := neN x y
            have hlt' : (k : Int) < N := by omega
            have HX := Lib.hid hx
            have HY := Lib.hid hy
            clear hx hy
            by_cases hxy : x = y
            · simp only [hxy, decide_true, Bool.not_true] at hne
              subst hxy
              go_wp2
              go_quiet (fail)
              go_wp2
              go_roundw
              case rel => exact ⟨k + 1, by omega, by go_num, ⟨_, rfl⟩, Lib.hid (by rw [List.take_add_one, List.take_add_one, HX.out, HY.out, HE.out])⟩
              case measure => simp [intOf]; omega
            · simp only [hxy, decide_false, Bool.not_false] at hne
              have hlr : l ≠ r := fun e => hxy (by have := HX.out; rw [e, HY.out] at this; exact (Option.some.inj this).symm)
              go_wp2
              go_quiet (fail)
              go_wp2
              go_ret
              rw [decide_eq_false hlr]
              exact ⟨rfl, _, World.drewN_drewN _ _ _⟩
          · have hkN : k = N := by omega
            have hlr : l = r := by
              have := HE.out
              rw [List.take_of_length_le (by omega), List.take_of_length_le (by omega)] at this
              exact this
            subst hkN
            go_wp2
            go_ret
            rw [decide_eq_true hlr]
            exact ⟨rfl, _, rfl⟩
  · have hne : l ≠ r := fun e => hl (by rw [e])
    obtain ⟨a, c, rfl⟩ := hu.form
    obtain ⟨a', c', rfl⟩ := hv.form
    have hl' : ¬ (l.length : Int) = r.length := by omega
    simp only [hne, decide_false]
    clear hu hv
    generalize l.length = N at *
    generalize r.length = M at *
    go_enter Try.func21, Try.ntmps21
    go_wp2
    go_ret
    exact ⟨rfl, 0, rfl⟩
theorem sl_any (i : Int) (w : World) : Calls Try.prog 32 #[.int .i64 i] w fun e w' => e = .returned (slV 1 i) ∧ Below w.heap.size w w' := by
  go_enter Try.func32, Try.ntmps32
  go_wp2
  refine bodyPost_ret (v := slV 1 i) (by simp [results, Try.results32, go_sem]) rfl ⟨rfl, bal (Below.refl _ _) _⟩
theorem ins1 (i : Int) (h : 0 ≤ i) (h2 : i ≤ 10) : InS i := ⟨by omega, by omega⟩
/-- A tree that was made behind w0 and holds l. -/
def St (w0 : World) (b m n : Nat) (l : List Nod) (W : World) : Prop := ∃ ps f, TreeAt W w0.heap.size b m n ps l f ∧ Below w0.heap.size w0 W
theorem St.call {w0 W W' : World} {b m n : Nat} {l : List Nod} (h : St w0 b m n l W) (hb : Below W.heap.size W W') : St w0 b m n l W' := by
  obtain ⟨ps, f, hT, hB⟩ := h
  exact ⟨ps, f, hT.call hb, hB.trans (hb.mono hB.size)⟩
theorem St.left {w0 W W' : World} {b m n n' : Nat} {ps : List Nat} {l l' : List Nod} {f : Int → Int → Option Nat} (hT : TreeAt W w0.heap.size b m n ps l f) (hB : Below w0.heap.size w0 W) (hL : Left W W' w0.heap.size b m n' ps l') : St w0 b m n' l' W' := by
  obtain ⟨ps', f', hT', hO⟩ := hL
  exact ⟨ps', f', hT', hB.trans (hO.below hT hB.size)⟩
theorem St.root {w0 W : World} {b m n : Nat} {l : List Nod} {o i : Int} (h : St w0 b m n l W) (ho : InS o) (hi : InS i) (hn : n < 1000000) :
    Calls Try.prog 30 #[.pointer (some ⟨b, 0, none⟩), slV o i] W fun e w' => e = .returned (.int .i64 (rootA l o i).2) ∧ St w0 b m (n + 1) (rootA l o i).1 w' := by
  obtain ⟨ps, f, hT, hB⟩ := h
  exact (root_any W _ b m n ps l f o i ho hi hT (by unfold maxLen; omega) hB.size).mono fun e w' ⟨he, hL⟩ => ⟨he, .left hT hB hL⟩
theorem St.child {w0 W : World} {b m n : Nat} {l : List Nod} {o i p j : Int} (h : St w0 b m n l W) (ho : InS o) (hi : InS i) (hp : InS p) (hj : InS j) (hn : n < 1000000) :
    Calls Try.prog 31 #[.pointer (some ⟨b, 0, none⟩), slV o i, slV p j] W fun e w' => e = .returned (.int .i64 (childA l o i p j).2) ∧ St w0 b m (n + 1) (childA l o i p j).1 w' := by
  obtain ⟨ps, f, hT, hB⟩ := h
  exact (child_any W _ b m n ps l f o i p j ho hi hp hj hT hn hB.size).mono fun e w' ⟨he, hL⟩ => ⟨he, .left hT hB hL⟩
theorem St.remove {w0 W : World} {b m n : Nat} {l : List Nod} {o i : Int} (h : St w0 b m n l W) (ho : InS o) (hi : InS i) (hn : n < 1000000) :
    Calls Try.prog 26 #[.pointer (some ⟨b, 0, none⟩), slV o i] W fun e w' => e = .returned (.int .i64 (removeA l o i).2) ∧ St w0 b m (n + 1) (removeA l o i).1 w' := by
  obtain ⟨ps, f, hT, hB⟩ := h
  exact (remove_any W _ b m n ps l f o i ho hi hT hn).mono fun e w' ⟨he, hL⟩ => ⟨he, .left hT hB hL⟩
theorem St.has {w0 W : World} {b m n : Nat} {l : List Nod} {o i : Int} (h : St w0 b m n l W) (ho : InS o) (hi : InS i) :
    Calls Try.prog 17 #[.pointer (some ⟨b, 0, none⟩), slV o i] W fun e w' => e = .returned (.bool (idx l o i).isSome) ∧ Below W.heap.size W w' := by
  obtain ⟨ps, f, hT, hB⟩ := h
  rw [← hT.isSome ho hi]
  exact has_any W _ b m n ps l f o i ho hi hT
theorem St.all {w0 W : World} {b m n : Nat} {l : List Nod} (h : St w0 b m n l W) (hn : n < 1000000) :
    Calls Try.prog 16 #[.pointer (some ⟨b, 0, none⟩)] W fun e w' => ∃ v, e = .returned v ∧ w'.ownsRow W.heap.size 49 3 v l.length (nodsC l) ∧ Below W.heap.size W w' := by
  obtain ⟨ps, f, hT, hB⟩ := h
  exact all_any W _ b m n ps l f hT hn
theorem new_st (w : World) : Calls Try.prog 11 #[] w fun e w' => e = .returned (.pointer (some ⟨w.heap.size + 1, 0, none⟩)) ∧ St w (w.heap.size + 1) w.heap.size 0 [] w' :=
  (new_any w).mono fun e w' ⟨he, hT, hb⟩ => ⟨he, [], _, hT, hb⟩
theorem St.below {w0 W : World} {b m n : Nat} {l : List Nod} (h : St w0 b m n l W) : Below w0.heap.size w0 W := by
  obtain ⟨ps, f, hT, hB⟩ := h
  exact hB
theorem St.below' {w0 W : World} {b m n : Nat} {l : List Nod} (h : St w0 b m n l W) : Below w0.heap.size w0 W := h.below
theorem nodes_two (W : World) : NodesAt (W.alloc (.cells #[.int .i64 1, .int .i64 0, .int .i64 0, .int .i64 1, .int .i64 2, .int .i64 1] 49)) (.slice (some ⟨W.heap.size, 0, none⟩) 2 2) [⟨1, 0, 0⟩, ⟨1, 2, 1⟩] := by
  have hb := World.alloc_heap_new W (.cells #[.int .i64 1, .int .i64 0, .int .i64 0, .int .i64 1, .int .i64 2, .int .i64 1] 49)
  refine .inr ⟨W.heap.size, 2, rfl, by simp, fun k x hx => ?_⟩
  match k, hx with
  | 0, hx => cases hx; refine ⟨?_, ?_, ?_⟩ <;> (unfold World.cell?; simp only [hb]; rfl)
  | 1, hx => cases hx; refine ⟨?_, ?_, ?_⟩ <;> (unfold World.cell?; simp only [hb]; rfl)
  | k + 2, hx => simp at hx
set_option maxRecDepth 100000 in
set_option maxHeartbeats 1000000 in
theorem awake17 (w : World) : Calls Try.prog 10 #[] w fun e w' => e = .returned (.bool true) ∧ Below w.heap.size w w' := by
  have i0 := ins1 0 (by decide) (by decide)
  have i1 := ins1 1 (by decide) (by decide)
  have i2 := ins1 2 (by decide) (by decide)
  have e1 : rootA [] 1 0 = ([⟨1, 0, 0⟩], 0) := by decide
  have e2 : childA [⟨1, 0, 0⟩] 1 0 1 1 = ([⟨1, 0, 0⟩, ⟨1, 1, 1⟩], 0) := by decide
  have e3 : childA [⟨1, 0, 0⟩, ⟨1, 1, 1⟩] 1 1 1 2 = ([⟨1, 0, 0⟩, ⟨1, 1, 1⟩, ⟨1, 2, 2⟩], 0) := by decide
  have e4 : removeA [⟨1, 0, 0⟩, ⟨1, 1, 1⟩, ⟨1, 2, 2⟩] 1 1 = ([⟨1, 0, 0⟩, ⟨1, 2, 1⟩], 0) := by decide
  have E1 := Lib.hid e1
  have E2 := Lib.hid e2
  have E3 := Lib.hid e3
  have E4 := Lib.hid e4
  clear e1 e2 e3 e4
  go_enter Try.func10, Try.ntmps10
  go_wp2_with (first
    | (go_at_call 11; refine (new_st _).mono ?_; rintro e w1 ⟨rfl, hS⟩; have HS := Lib.hid hS; clear hS)
    | (go_at_call 32; refine (sl_any _ _).mono ?_; rintro e ws ⟨rfl, hbs⟩; have HS := Lib.hid (HS.out.call hbs); (try have HN := Lib.hid (HN.out.call hbs)); clear hbs)
    | (go_at_call 30; with_reducible refine (HS.out.root i1 i0 (by decide)).mono ?_; rw [E1.out]; rintro e w2 ⟨rfl, hS⟩; have HS := Lib.hid hS; clear hS)
    | (go_at_call 31; with_reducible refine (HS.out.child i1 i0 i1 i1 (by decide)).mono ?_; rw [E2.out]; rintro e w3 ⟨rfl, hS⟩; have HS := Lib.hid hS; clear hS)
    | (go_at_call 31; with_reducible refine (HS.out.child i1 i1 i1 i2 (by decide)).mono ?_; rw [E3.out]; rintro e w4 ⟨rfl, hS⟩; have HS := Lib.hid hS; clear hS)
    | (go_at_call 26; with_reducible refine (HS.out.remove i1 i1 (by decide)).mono ?_; rw [E4.out]; rintro e w5 ⟨rfl, hS⟩; have HS := Lib.hid hS; clear hS)
    | (go_at_call 16; with_reducible refine (HS.out.all (by decide)).mono ?_; rintro e w6 ⟨v, rfl, hrow, hb6⟩; have HN := Lib.hid (nodes_row hrow); have HS := Lib.hid (HS.out.call hb6); clear hrow hb6)
    | (go_at_call 21; with_reducible refine (same_nodes _ _ _ _ _ (HN.out.call (bal (Below.refl _ _) _)) (nodes_two _) (by decide) (by decide)).mono ?_; rintro e w7 ⟨rfl, j, rfl⟩))
  go_ret
  refine ⟨rfl, ?_⟩
  exact below_drewN (bgo HS.out.below' (bal (Below.refl _ _) _)) j
end Go.Proofs.Ytebgmphbkjpfcaa
