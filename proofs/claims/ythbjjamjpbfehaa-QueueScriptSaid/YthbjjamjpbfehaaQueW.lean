/- Chapter 21's own answer: Drop, Back. -/
import Derived.Test.YthbjjamjpbfehaaQueV
namespace Go.Proofs.Ythbjjamjpbfehaa
set_option linter.unusedVariables false
set_option linter.unusedSimpArgs false
open Go.ChangeShapes Go.WideShapes Go.ChangeAt Go.RowKit Go.Shelf

theorem drop_at {R : List (Int × Nat)} {i : Nat} {a : Int × Nat} (h : Good R) (hi : R[i]? = some a) : dropR R a.1 = R.take i ++ R.drop (i + 1) ∧ fR R a.1 = some (a.2 : Int) := by
  have hm := List.mem_of_getElem? hi
  refine ⟨?_, fR_yes h.nd hm⟩
  obtain ⟨hil, rfl⟩ := List.getElem?_eq_some_iff.1 hi
  have e : R = R.take i ++ R[i] :: R.drop (i + 1) := by rw [List.getElem_cons_drop, List.take_append_drop]
  have hnd : (R.take i ++ R[i] :: R.drop (i + 1)).Pairwise (fun a b => a.1 ≠ b.1) := e ▸ h.nd
  obtain ⟨h1, h2, h3⟩ := List.pairwise_append.1 hnd
  obtain ⟨h4, h5⟩ := List.pairwise_cons.1 h2
  have ha : ∀ q ∈ R.take i, q.1 ≠ R[i].1 := fun q hq => h3 q hq R[i] (List.mem_cons.2 (.inl rfl))
  have hc : ∀ q ∈ R.drop (i + 1), q.1 ≠ R[i].1 := fun q hq e2 => h4 q hq e2.symm
  have e3 : dropR R R[i].1 = dropR (R.take i ++ R[i] :: R.drop (i + 1)) R[i].1 := congrArg (fun L => dropR L R[i].1) e
  refine e3.trans ?_
  generalize R[i] = a at *
  unfold dropR
  rw [List.filter_append, List.filter_cons_of_neg (by simp)]
  have e1 := dropR_self ha
  have e2 := dropR_self hc
  unfold dropR at e1 e2
  rw [e1, e2]
theorem cells_pre {R : List (Int × Nat)} {i j : Nat} {u : Value} (h : (cellsR (R.take i))[j]? = some u) : (cellsR R)[j]? = some u := by
  have e : cellsR R = cellsR (R.take i) ++ cellsR (R.drop i) := by rw [← cellsR_app, List.take_append_drop]
  rw [e, List.getElem?_append_left (List.getElem?_eq_some_iff.1 h).1]
  exact h
theorem cells_post {R : List (Int × Nat)} {i j : Nat} {u : Value} (hi : i ≤ R.length) (h : (cellsR (R.drop i))[j]? = some u) : (cellsR R)[i * 2 + j]? = some u := by
  have e : cellsR R = cellsR (R.take i) ++ cellsR (R.drop i) := by rw [← cellsR_app, List.take_append_drop]
  have hl : (cellsR (R.take i)).length = i * 2 := by rw [cellsR_len]; simp; omega
  rw [e, List.getElem?_append_right (by omega), hl, show i * 2 + j - i * 2 = j by omega]
  exact h
theorem cells_one {R : List (Int × Nat)} : ∀ u ∈ cellsR R, u.oneCell' = true := by
  intro u hu
  unfold cellsR at hu
  obtain ⟨e, _, he⟩ := List.mem_flatMap.1 hu
  simp at he
  rcases he with rfl | rfl <;> rfl
theorem ite_o {c i g o : Nat} {inst : Decidable (c = i + 1)} (h1 : c = i + 1 → o = 0) (h2 : ¬ c = i + 1 → o = (i + 1) * 2) (n m : Nat) :
    Value.slice (@ite _ (c = i + 1) inst (some (⟨g, 0, none⟩ : Addr)) (some ⟨g, (i + 1) * 2, none⟩)) n m = .slice (some ⟨g, o, none⟩) n m := by
  by_cases h : c = i + 1
  · rw [if_pos h, h1 h]
  · rw [if_neg h, h2 h]
theorem drop_row {w w2 w3 : World} {v2 v3 : Value} {i m : Nat} {A C : List (Int × Nat)} (hb : Below w.heap.size w w2) (h2 : w2.ownsRow w.heap.size 52 2 v2 (0 + i) ([] ++ cellsR A)) (h3 : w3.ownsRow w.heap.size 52 2 v3 (0 + i + m) ([] ++ cellsR A ++ cellsR C)) (hg : w2.grownBy w3 v2.ownBlock) :
    w3.ownsRow w.heap.size 52 2 v3 (A ++ C).length (cellsR (A ++ C)) ∧ Below w.heap.size w w3 := by
  refine ⟨?_, hb.grown hg hb.size (fun k hk => (h2.lt k hk).1)⟩
  have e : [] ++ cellsR A ++ cellsR C = cellsR (A ++ C) := by rw [cellsR_app]; rfl
  rw [e] at h3
  have hl := h3.1
  rw [cellsR_len] at hl
  have : 0 + i + m = (A ++ C).length := by omega
  rwa [this] at h3
set_option maxRecDepth 100000 in
set_option maxHeartbeats 2000000 in
theorem rdrop_yes (w : World) (B rb : Nat) (v : Value) (R : List (Int × Nat)) (x : Int) (hR : R.length ≤ 200) (hG : Good R) (hB : B ≤ w.heap.size) (hx : ¬ ∀ e ∈ R, e.1 ≠ x) (h : RefQ w B rb v R) :
    Calls Try.prog 13 #[.pointer (some ⟨rb, 0, none⟩), .int .i64 x] w fun e w' => e = .returned (.bool true) ∧ ∃ v', RefQ w' B rb v' (dropR R x) ∧ ROnly rb w w' ∧ NewAt w v v' := by
  obtain ⟨i0, hi, hz0, hz1, hz2⟩ := info_parts infoOne
  have HI := Lib.hid hi
  have hpos : 0 < R.length := by
    cases R with
    | nil => exact absurd (fun e he => by simp at he) hx
    | cons _ _ => simp
  obtain ⟨g, c, hv, hnc, hm, -, hg, hcs⟩ := one_place h.row hpos
  unfold maxLen at hm
  have hc := h.cell
  rw [hv] at hc
  have hfr := h.free
  have hlt := h.lt
  have H := Lib.hid h
  have HG := Lib.hid hG
  have HN := Lib.hid hx
  have HCS := Lib.hid hcs
  have hR' : (R.length : Int) ≤ 200 := by omega
  have hne : g ≠ rb := fun e => by have := h.ne; rw [hv, e] at this; exact this rfl
  clear h hi hG hx hcs hv
  go_enter Try.func13, Try.ntmps13
  go_wp2_with (go_at_call 24; refine (at_any _ B rb _ R x (by omega) H.out).mono ?_; rintro e w1 ⟨⟨k, rfl, hk⟩, rfl⟩; have hk' : ∃ (i : Nat) (a : Int × Nat), k = (i : Int) ∧ R[i]? = some a ∧ a.1 = x := (by rcases hk with ⟨_, h1⟩ | h1; exact absurd h1 HN.out; exact h1); clear hk; obtain ⟨i, ⟨ax, aq⟩, rfl, hia, rfl⟩ := hk')
  have hil : i < R.length := (List.getElem?_eq_some_iff.1 hia).1
  have hil' : (i : Int) < R.length := by omega
  have hic : (i : Int) ≤ c := by omega
  have hi1 : (i : Int) + 1 ≤ R.length := by omega
  have hD := Lib.hid (drop_at HG.out hia).1
  have hwr : IntKind.i64.wrap ((i : Int) + 1) = (i : Int) + 1 := by rw [IntKind.wrap_i64]; omega
  have hrc : (R.length : Int) ≤ c := by omega
  have h01 : (0 : Int) ≤ (i : Int) + 1 := by omega
  have hln : (cellsR (R.take i)).length = i * 2 := by rw [cellsR_len]; simp; omega
  have HCA : Hid (∀ j u, (cellsR R)[j]? = some u → w1.cell? ((⟨g, 0, none⟩ : Addr).add j) = some u) := Lib.hid (fun j u hj => by
    have e : ((⟨g, 0, none⟩ : Addr).add j) = ⟨g, j, none⟩ := by unfold Addr.add; split <;> simp_all
    rw [e]; exact HCS.out j u hj)
  have hld : (cellsR (R.drop (i + 1))).length = (R.length - (i + 1)) * 2 := by rw [cellsR_len, List.length_drop]
  have hO : ∃ o, ((c = i + 1 → o = 0) ∧ (¬ c = i + 1 → o = (i + 1) * 2)) ∧ ∀ j u, (cellsR (R.drop (i + 1)))[j]? = some u → w1.cell? ((⟨g, o, none⟩ : Addr).add j) = some u := by
    by_cases hci : c = i + 1
    · refine ⟨0, ⟨fun _ => rfl, fun e => absurd hci e⟩, fun j u hj => ?_⟩
      have := (List.getElem?_eq_some_iff.1 hj).1
      rw [hld] at this
      omega
    · refine ⟨(i + 1) * 2, ⟨fun e => absurd e hci, fun _ => rfl⟩, fun j u hj => ?_⟩
      have e : ((⟨g, (i + 1) * 2, none⟩ : Addr).add j) = ⟨g, (i + 1) * 2 + j, none⟩ := by unfold Addr.add; split <;> simp_all
      rw [e]
      exact HCS.out _ u (cells_post (by omega) hj)
  obtain ⟨o, hO⟩ := hO
  have HO := Lib.hid hO
  have HO2 := Lib.hid hO.1
  have HAD : Hid (∀ j, ((⟨g, o, none⟩ : Addr).add j).block < w1.heap.size) := Lib.hid (fun j => by unfold Addr.add; split <;> exact hg)
  have HM1 : Hid (0 + i + (R.length - (i + 1)) ≤ maxLen) := Lib.hid (by unfold maxLen; omega)
  have HM2 : Hid ((0 + i + (R.length - (i + 1))) * 16 ≤ 140737488355328) := Lib.hid (by omega)
  clear hia hO
  go_region_law
    (first
      | (have _t := hown2; (refine step_append_at rfl (.tmp 18) (.tmp 25) 27 rfl w1.heap.size 52 i0 _ 2 16 Try.underlying27 HI.out hz0 hz1 hz2 rfl (by decide) v2 (0 + i) _ rfl hown2.out ⟨g, o, none⟩ (R.length - (i + 1)) (c - (i + 1)) (cellsR (R.drop (i + 1))) (by exact ite_o HO2.out.1 HO2.out.2 _ _) hld (fun j u hj => (HB2.out.cell (p := (⟨g, o, none⟩ : Addr).add j) (HAD.out j)).trans (HO.out.2 j u hj)) cells_one HM1.out HM2.out HB2.out.size ?_; intro v3 w3 hown3' hgr3 _; have hr3 := drop_row HB2.out hown2.out hown3' hgr3; obtain ⟨hr3a, hb3⟩ := hr3; obtain ⟨nn, hnn⟩ : ∃ nn, (R.take i ++ R.drop (i + 1)).length = nn := ⟨_, rfl⟩; rw [hnn] at hr3a; have HNN := Lib.hid hnn; clear hnn; have HR3 := Lib.hid hr3a; have HB3 := Lib.hid hb3; obtain ⟨a3, c3, rfl, -, -⟩ := one_form hr3a; have K3 := Lib.hid (show w3.cell? ⟨rb, 0, none⟩ = some (.slice (some ⟨g, 0, none⟩) R.length c) ∧ w3.frozen? ⟨rb, 0, none⟩ = false ∧ rb < w3.heap.size from ⟨(hb3.cell (p := ⟨rb, 0, none⟩) hlt).trans hc, (hb3.frozen (p := ⟨rb, 0, none⟩) hlt).trans hfr, Nat.lt_of_lt_of_le hlt hb3.size⟩); have k3a := K3.out.1; have k3b := K3.out.2.1; have k3c := K3.out.2.2; clear hown3' hgr3 hr3a hb3))
      | (refine step_append_at rfl (.const (.slice none 0 0)) (.tmp 17) 27 rfl w1.heap.size 52 i0 _ 2 16 Try.underlying27 HI.out hz0 hz1 hz2 rfl (by decide) (.slice none 0 0) 0 [] rfl (World.ownsRow_nil _ _ _ _) ⟨g, 0, none⟩ i c (cellsR (R.take i)) rfl hln (fun j u hj => HCA.out j u (cells_pre hj)) cells_one (by unfold maxLen; omega) (by omega) (Nat.le_refl _) ?_; intro v2 w2 hown2' hgr2 _; have hown2 := Lib.hid hown2'; have hb2 : Below w1.heap.size w1 w2 := ⟨hgr2.os, hgr2.tape, hgr2.output, hgr2.size, fun k hk => hgr2.block k hk (fun e => by cases e)⟩; have HB2 := Lib.hid hb2; have K2 := Lib.hid (show w2.cell? ⟨rb, 0, none⟩ = some (.slice (some ⟨g, 0, none⟩) R.length c) ∧ w2.frozen? ⟨rb, 0, none⟩ = false ∧ rb < w2.heap.size from ⟨(hb2.cell (p := ⟨rb, 0, none⟩) hlt).trans hc, (hb2.frozen (p := ⟨rb, 0, none⟩) hlt).trans hfr, Nat.lt_of_lt_of_le hlt hb2.size⟩); have k2a := K2.out.1; have k2b := K2.out.2.1; have k2c := K2.out.2.2; clear hown2' hgr2 hb2))
  all_goals
    go_wp2
    all_goals
      go_ret
      refine ⟨rfl, ?_⟩
      rw [hD.out]
      exact ⟨_, ref_end H.out hB HB3.out (by rw [HNN.out]; exact HR3.out)⟩
theorem rdrop_no (w : World) (B rb : Nat) (v : Value) (R : List (Int × Nat)) (x : Int) (hR : R.length ≤ 1000) (hx : ∀ e ∈ R, e.1 ≠ x) (h : RefQ w B rb v R) :
    Calls Try.prog 13 #[.pointer (some ⟨rb, 0, none⟩), .int .i64 x] w fun e w' => e = .returned (.bool false) ∧ w' = w := by
  have H := Lib.hid h
  have HN := Lib.hid hx
  clear h hx
  go_enter Try.func13, Try.ntmps13
  go_wp2_with (go_at_call 24; refine (at_any _ B rb v R x hR H.out).mono ?_; rintro e w1 ⟨⟨k, rfl, hk⟩, rfl⟩; have hk' : k = -1 := (by rcases hk with ⟨h1, _⟩ | ⟨i, a, _, h2, h3⟩; exact h1; exact absurd h3 (HN.out a (List.mem_of_getElem? h2))); subst hk'; clear hk)
  go_ret
  exact ⟨rfl, rfl⟩
theorem rback_no (w : World) (B rb : Nat) (v : Value) (R : List (Int × Nat)) (x : Int) (hR : R.length ≤ 1000) (hx : ∀ e ∈ R, e.1 ≠ x) (h : RefQ w B rb v R) :
    Calls Try.prog 15 #[.pointer (some ⟨rb, 0, none⟩), .int .i64 x] w fun e w' => e = .returned (.bool false) ∧ w' = w := by
  have H := Lib.hid h
  have HN := Lib.hid hx
  clear h hx
  go_enter Try.func15, Try.ntmps15
  go_wp2_with (go_at_call 24; refine (at_any _ B rb v R x hR H.out).mono ?_; rintro e w1 ⟨⟨k, rfl, hk⟩, rfl⟩; have hk' : k = -1 := (by rcases hk with ⟨h1, _⟩ | ⟨i, a, _, h2, h3⟩; exact h1; exact absurd h3 (HN.out a (List.mem_of_getElem? h2))); subst hk'; clear hk)
  go_ret
  exact ⟨rfl, rfl⟩
theorem drop_none (R : List (Int × Nat)) (x : Int) : ∀ e ∈ dropR R x, e.1 ≠ x := fun e he => by simpa using (List.mem_filter.1 he).2
theorem drop_len (R : List (Int × Nat)) (x : Int) : (dropR R x).length ≤ R.length := List.length_filter_le _ _
theorem NewAt.trans {a b : World} {v1 v2 v3 : Value} (h : NewAt a v1 v2) (k : NewAt b v2 v3) (hs : a.heap.size ≤ b.heap.size) : NewAt a v1 v3 := by
  rcases k with k | k
  · rcases h with h | h
    · exact .inl (k.trans h)
    · exact .inr (fun g hg => h g (k ▸ hg))
  · exact .inr (fun g hg => Nat.le_trans hs (k g hg))
set_option maxHeartbeats 1000000 in
theorem rback_yes (w : World) (B rb : Nat) (v : Value) (R : List (Int × Nat)) (x : Int) (hR : R.length ≤ 200) (hG : Good R) (hB : B ≤ w.heap.size) (hx : ¬ ∀ e ∈ R, e.1 ≠ x) (h : RefQ w B rb v R) :
    Calls Try.prog 15 #[.pointer (some ⟨rb, 0, none⟩), .int .i64 x] w fun e w' => e = .returned (.bool true) ∧ ∃ v', RefQ w' B rb v' (backR R x) ∧ ROnly rb w w' ∧ NewAt w v v' := by
  have hpos : 0 < R.length := by
    cases R with
    | nil => exact absurd (fun e he => by simp at he) hx
    | cons _ _ => simp
  obtain ⟨g, c, rfl, hnc, hm, -, hg, hcs⟩ := one_place h.row hpos
  unfold maxLen at hm
  have hc := h.cell
  have H := Lib.hid h
  have HG := Lib.hid hG
  have HN := Lib.hid hx
  have HCS := Lib.hid hcs
  have hR' : (R.length : Int) ≤ 200 := by omega
  clear h hG hx hcs
  go_enter Try.func15, Try.ntmps15
  go_wp2_with (first
    | (go_at_call 24; refine (at_any _ B rb _ R x (by omega) H.out).mono ?_; rintro e w1 ⟨⟨k, rfl, hk⟩, rfl⟩; have hk' : ∃ (i : Nat) (a : Int × Nat), k = (i : Int) ∧ R[i]? = some a ∧ a.1 = x := (by rcases hk with ⟨_, h1⟩ | h1; exact absurd h1 HN.out; exact h1); clear hk; obtain ⟨i, ⟨ax, aq⟩, rfl, hia, rfl⟩ := hk'; have hil : (i : Int) < R.length := (by have := (List.getElem?_eq_some_iff.1 hia).1; omega); have hd1 := HCS.out _ _ (cellsR_at hia).2; have HD := Lib.hid (drop_at HG.out hia); have HA := Lib.hid (And.intro (HG.out.ids _ (List.mem_of_getElem? hia)) (HG.out.bd _ (List.mem_of_getElem? hia))); clear hia)
    | (go_at_call 13; refine (rdrop_yes _ B rb _ R _ hR HG.out hB HN.out H.out).mono ?_; rintro e w2 ⟨rfl, v2, hr2, ho2, hn2⟩; have HR2 := Lib.hid hr2; have HO2 := Lib.hid ho2; have HN2 := Lib.hid hn2; clear hr2 ho2 hn2)
    | (go_at_call 11; refine (radd_yes _ B rb v2 (dropR R ax) ax aq (Nat.le_trans (drop_len _ _) hR) (good_drop HG.out _) (Nat.le_trans hB HO2.out.size) HA.out.1.1 HA.out.2 (drop_none _ _) HR2.out).mono ?_; rintro e w3 ⟨rfl, v3, hr3, ho3, hn3⟩; have HR3 := Lib.hid hr3; have HO3 := Lib.hid ho3; have HN3 := Lib.hid hn3; clear hr3 ho3 hn3))
  go_ret
  have e : backR R ax = insR (dropR R ax) ax aq := by
    unfold backR
    rw [HD.out.2]
    simp
  rw [e]
  exact ⟨rfl, v3, HR3.out, HO2.out.trans HO3.out, HN2.out.trans HN3.out HO2.out.size⟩
end Go.Proofs.Ythbjjamjpbfehaa
