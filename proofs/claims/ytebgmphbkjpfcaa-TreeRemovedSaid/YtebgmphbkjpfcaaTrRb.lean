/- TreeRemoved, walked. -/
import Derived.Test.YtebgmphbkjpfcaaTrRa
import Derived.Test.YtebgmphbkjpfcaaLowL
namespace Go.Proofs.Ytebgmphbkjpfcaa
set_option linter.unusedVariables false
set_option linter.unusedSimpArgs false
open Go.ChangeShapes Go.WideShapes Go.ChangeAt Go.RowKit Go.Shelf

/-- A tree somewhere that holds l. -/
def Tr (b m n : Nat) (l : List Nod) (W : World) : Prop := ∃ B ps f, TreeAt W B b m n ps l f
theorem Tr.call {W W' : World} {b m n : Nat} {l : List Nod} (h : Tr b m n l W) (hb : Below W.heap.size W W') : Tr b m n l W' := by
  obtain ⟨B, ps, f, hT⟩ := h
  exact ⟨B, ps, f, hT.call hb⟩
theorem Tr.has {W : World} {b m n : Nat} {l : List Nod} {o i : Int} (h : Tr b m n l W) (ho : InS o) (hi : InS i) :
    Calls Try.prog 17 #[.pointer (some ⟨b, 0, none⟩), slV o i] W fun e w' => e = .returned (.bool (idx l o i).isSome) ∧ Below W.heap.size W w' := by
  obtain ⟨B, ps, f, hT⟩ := h
  rw [← hT.isSome ho hi]
  exact has_any W _ b m n ps l f o i ho hi hT
theorem Tr.belowf {W : World} {b m n : Nat} {l : List Nod} {o i : Int} (h : Tr b m n l W) (ho : InS o) (hi : InS i) (hn : n < 1000000) :
    Calls Try.prog 15 #[.pointer (some ⟨b, 0, none⟩), slV o i] W fun e w' => ∃ v, e = .returned v ∧ SlotsAt w' v (belowA l o i) ∧ Below W.heap.size W w' := by
  obtain ⟨B, ps, f, hT⟩ := h
  refine (below_any W _ b m n ps l f o i ho hi hT hn).mono ?_
  rintro e w' ⟨v, he, hr, hb⟩
  exact ⟨v, he, slots_row hr, hb⟩
theorem St.tr {w0 W : World} {b m n : Nat} {l : List Nod} (h : St w0 b m n l W) : Tr b m n l W := by
  obtain ⟨ps, f, hT, _⟩ := h
  exact ⟨_, ps, f, hT⟩
theorem SlotsAt.form {W : World} {v : Value} {l : List Nod} (h : SlotsAt W v l) : ∃ a c, v = .slice a l.length c := by
  rcases h with ⟨rfl, rfl⟩ | ⟨g, c, rfl, _⟩
  · exact ⟨none, 0, rfl⟩
  · exact ⟨_, c, rfl⟩
/-- Remove on a tree that was there at w1 leaves all that came behind w1. -/
theorem remove_beside {w0 w1 w4 : World} {b m n : Nat} {l : List Nod} {r : Nat} {p : Nod} (h : St w0 b m n l w1) (hb : Below w1.heap.size w1 w4) (hn : n < 1000000) (hp : l[r]? = some p) :
    Calls Try.prog 26 #[.pointer (some ⟨b, 0, none⟩), slV p.o p.i] w4 fun e w5 => e = .returned (.int .i64 0) ∧ St w0 b m (n + 1) (rem l r) w5 ∧ (∀ k, w1.heap.size ≤ k → k < w4.heap.size → w5.heap[k]? = w4.heap[k]?) ∧ w4.heap.size ≤ w5.heap.size := by
  have hO := h.once
  obtain ⟨ps, f, hT, hB⟩ := h
  have hT4 := hT.call hb
  have hB4 : Below w0.heap.size w0 w4 := hB.trans (hb.mono hB.size)
  obtain ⟨ho, hi, _⟩ := hT.ins r p hp
  refine (remove_any w4 _ b m n ps l f p.o p.i ho hi hT4 hn).mono ?_
  rintro e w5 ⟨he, ps', f', hT5, hO5⟩
  rw [remove_eq hO hp] at he hT5
  refine ⟨he, ⟨ps', f', hT5, hB4.trans (hO5.below hT4 hB4.size)⟩, fun k h1 h2 => hO5.block k h2 (fun q => ?_), hO5.size⟩
  have := hT.lt q
  omega
theorem tr_same {w1 w4 w5 : World} {b m n : Nat} {l : List Nod} (h : St w1 b m n l w4) (hs : ∀ k, w1.heap.size ≤ k → k < w4.heap.size → w5.heap[k]? = w4.heap[k]?) : Tr b m n l w5 := by
  obtain ⟨ps, f, hT, _⟩ := h
  exact ⟨_, ps, f, hT.of_blocks fun k hk => hs k (hT.ge hk) (hT.lt hk)⟩
theorem Bx.same {W W' : World} {s : Nat} {o i : Int} (h : Bx W s o i) (e : W'.heap[s]? = W.heap[s]?) (hz : W.heap.size ≤ W'.heap.size) : Bx W' s o i := by
  have hb := e.trans h.blk
  refine ⟨?_, ?_, fun k => Go.frozen_of_row _ _ _ _ _ hb, Nat.lt_of_lt_of_le h.lt hz, hb⟩ <;> (unfold World.cell?; simp only [hb]; rfl)
theorem below_gone {l : List Nod} (hO : Once l) {k : Nat} {p : Nod} (hp : l[k]? = some p) : belowA (rem l k) p.o p.i = [] := by
  unfold belowA
  rw [rem_gone hO hp]
def cnt (was : List Nod) (p : Nod) (c : Nat) : Nat := ((was.take c).filter fun z => decide (¬ (z.o = p.o ∧ z.i = p.i))).length
theorem cnt_no {was : List Nod} {p z : Nod} {c : Nat} (hz : was[c]? = some z) (h : z.o = p.o ∧ z.i = p.i) : cnt was p (c + 1) = cnt was p c := by
  unfold cnt
  rw [take_at hz, List.filter_append]
  simp [h]
theorem cnt_yes {was : List Nod} {p z : Nod} {c : Nat} (hz : was[c]? = some z) (h : ¬ (z.o = p.o ∧ z.i = p.i)) : cnt was p (c + 1) = cnt was p c + 1 := by
  unfold cnt
  rw [take_at hz, List.filter_append, List.length_append]
  have : [z].filter (fun z => decide (¬ (z.o = p.o ∧ z.i = p.i))) = [z] := by simp only [List.filter_cons, h, not_false_eq_true, decide_true, if_true, List.filter_nil]
  rw [this]; rfl
theorem cnt_le (was : List Nod) (p : Nod) (c : Nat) : cnt was p c ≤ c := by
  unfold cnt
  exact Nat.le_trans (List.length_filter_le _ _) (List.length_take_le _ _)
set_option maxRecDepth 100000 in
set_option maxHeartbeats 1000000 in
theorem removed_any (q : Option Addr) (n c : Nat) (D : Nat → ActT) (a : Int) (ha : (Lit.int .i64 a).wf = true) (W : World) (hn : n ≤ 60) (hD : ActsAt W q n D) :
    Calls Try.prog 5 #[.slice q n c, .int .i64 a] W fun e w' => e = .returned (.bool true) ∧ Below W.heap.size W w' := by
  have HD := Lib.hid hD
  have hn' : ¬ (n : Int) > 60 := by omega
  have HN3 : Hid (2 * n ≤ 200) := Lib.hid (by omega)
  have HN2 : Hid (n ≤ 100) := Lib.hid (by omega)
  have hdep := dep_play D n
  obtain ⟨l, hl⟩ : ∃ l, playL D n = l := ⟨_, rfl⟩
  rw [hl] at hdep
  have HLQ := Lib.hid hl
  have HAI : Hid (-9223372036854775808 ≤ a ∧ a ≤ 9223372036854775807) := Lib.hid (wf_S ha)
  clear hD hl ha
  go_enter Try.func5, Try.ntmps5
  go_upto_region 7 with (first
    | (go_at_call 24; with_reducible refine (played_ex _ q n c D HD1.out HN2.out).mono ?_; rw [HLQ.out]; rintro e w2 ⟨b2, m2, rfl, hS⟩; have HU := Lib.hid (hS.mono HN3.out).st; clear hS)
    | (go_at_call 24; with_reducible refine (played_ex _ q n c D HD.out HN2.out).mono ?_; rw [HLQ.out]; rintro e w1 ⟨b, m, rfl, hS⟩; have HT := Lib.hid (hS.mono HN3.out).st; have HD1 := Lib.hid (HD.out.below hS.below); clear hS)
    | (go_at_call 16; with_reducible refine ((HT.out.call HU.out.below).all (by decide)).mono ?_; rintro e w3 ⟨v, rfl, hr, hb⟩; have HR := Lib.hid hr; have HB3 := Lib.hid hb; clear hr hb))
  have hlen : l.length ≤ 200 := HT.out.len
  have HO := Lib.hid HT.out.once
  have HM := Lib.hid HT.out.small
  have HDEP := Lib.hid hdep
  have HU3 := Lib.hid (HU.out.call HB3.out)
  have HBW : Hid (Below W.heap.size W w3) := Lib.hid (HT.out.below.trans (HU3.out.below.mono HT.out.below.size))
  have hform : ∃ a c, v = .slice a l.length c := (nodes_row HR.out).form
  clear hdep
  by_cases hL0 : l.length = 0
  · obtain ⟨a1, c1, rfl⟩ := hform
    rw [hL0] at *
    clear HR HU3 HU HT
    go_wp2_with (go_at_call 10; refine (awake17 _).mono ?_; rintro e w4 ⟨rfl, hb4⟩)
    go_ret
    exact ⟨rfl, bgo HBW.out hb4⟩
  · have HHR := HR.out
    have HNO := Lib.hid (nodes_row HHR)
    rcases HNO.out with ⟨rfl, h0⟩ | ⟨g, cp, rfl, hg, hcell⟩
    · exact absurd (by rw [h0]; rfl) hL0
    · have hgl := (HHR.lt g rfl).1
      have HGL := Lib.hid hgl
      have HG := Lib.hid hg
      have HC := Lib.hid hcell
      clear HHR hgl hg hcell HNO HR hform
      generalize hL : l.length = L at *
      have HL := Lib.hid hL
      have l0 := lowI_0 a L (by omega)
      have l1 := lowI_1 a L (by omega)
      obtain ⟨r, hr⟩ := Int.eq_ofNat_of_zero_le l0
      have hrL : r < L := by omega
      obtain ⟨p, hp⟩ : ∃ p, l[r]? = some p := ⟨l[r]'(by omega), List.getElem?_eq_getElem _⟩
      obtain ⟨p0, p1, p2⟩ := HC.out r p hp
      have HP := Lib.hid hp
      have HRI := Lib.hid hr
      have HPI := Lib.hid (HM.out r p hp)
      have hrL' : (r : Int) < L := by omega
      have HL2 : Hid (0 < (L : Int) ∧ (L : Int) ≤ 1000000) := Lib.hid (by omega)
      have hLz : ¬ (L : Int) = 0 := by omega
      have hLz' : ((L : Int) == 0) = false := beq_eq_false_iff_ne.2 hLz
      clear hL l0 l1 hr hp p2
      go_upto_region 10 with (first
        | (go_at_call 25; with_reducible refine (low_any a L _ HAI.out HL2.out.1 HL2.out.2).mono ?_; rw [HRI.out]; rintro e wl ⟨rfl, rfl⟩)
        | (go_at_call 26; with_reducible refine HREM.out.mono ?_; rintro e w5 ⟨rfl, hS5, hsame, hsz⟩))
      obtain ⟨w4, hw4⟩ : ∃ w4, w4 = w3.alloc (slO p.o p.i) := ⟨_, rfl⟩
      rw [show w3.alloc (.cells #[.int .i64 p.o, .int .i64 p.i] 31) = w4 from hw4.symm]
      have hb34 : Below w3.heap.size w3 w4 := hw4 ▸ bal (Below.refl _ _) _
      have hbx4 : Bx w4 w3.heap.size p.o p.i := hw4 ▸ Bx.fresh w3 p.o p.i
      have hu4 := HU3.out.call hb34
      have HREM := Lib.hid (remove_beside HT.out hu4.below (by decide) HP.out)
      have HU4 := Lib.hid hu4
      have HBX4 := Lib.hid hbx4
      have HB34 := Lib.hid hb34
      have HB23 : Hid (w1.heap.size ≤ w2.heap.size ∧ w2.heap.size ≤ w3.heap.size) := Lib.hid ⟨HU.out.below.size, HB3.out.size⟩
      clear hw4 hb34 hu4 p0 p1
      obtain ⟨s0, s1, sz, sl, sb⟩ := hbx4
      clear sb
      go_wp2_with (first
        | (go_at_call 26; with_reducible refine HREM.out.mono ?_; rintro e w5 ⟨rfl, hS5, hsame, hsz⟩; have HT5 := Lib.hid hS5; have HTR5 := Lib.hid hS5.tr; have HTU5 := Lib.hid (tr_same HU4.out hsame); have HBX5 := Lib.hid (HBX4.out.same (hsame _ (by have := HB23.out; omega) HBX4.out.lt) hsz); have HSM := Lib.hid hsame; have HSZ5 := Lib.hid hsz; obtain ⟨s0, s1, sz, sl, sb⟩ := HBX5.out; clear sb hS5 hsame)
        | (go_at_call 17; with_reducible refine (HTR5.out.has HPI.out.2.1 HPI.out.2.2).mono ?_; rw [rem_gone HO.out HP.out]; rintro e w6 ⟨rfl, hb6⟩; have HB6 := Lib.hid hb6; obtain ⟨s0, s1, sz, sl, sb⟩ := HBX5.out.call hb6; clear sb hb6)
        | (go_at_call 15; with_reducible refine ((HTR5.out.call HB6.out).belowf HPI.out.2.1 HPI.out.2.2 (by decide)).mono ?_; rw [below_gone HO.out HP.out]; rintro e w7 ⟨v7, rfl, hv7, hb7⟩; obtain ⟨a7, c7, rfl⟩ := hv7.form; have HB7 := Lib.hid (HB6.out.trans (hb7.mono HB6.out.size)); obtain ⟨s0, s1, sz, sl, sb⟩ := HBX5.out.call HB7.out; clear sb hb7 hv7))
      have hg7 : w7.heap[g]? = w3.heap[g]? := by
        have h1 := HG.out
        have h2 := HB34.out.size
        have h3 := HGL.out
        have h4 := HB23.out
        have h5 := HT5.out
        exact (HB7.out.block g (Nat.lt_of_lt_of_le h1 (Nat.le_trans h2 (HSZ5.out)))).trans ((HSM.out g (by omega) (by omega)).trans (HB34.out.block g h1))
      have hsz7 : w3.heap.size ≤ w7.heap.size := Nat.le_trans HB34.out.size (Nat.le_trans HSZ5.out HB7.out.size)
      have HC7 : Hid (∀ (k : Nat) (x : Nod), l[k]? = some x → w7.cell? ⟨g, k * 3, none⟩ = some (.int .i64 x.o) ∧ w7.cell? ⟨g, k * 3 + 1, none⟩ = some (.int .i64 x.i) ∧ w7.cell? ⟨g, k * 3 + 2, none⟩ = some (.int .i64 x.d)) := Lib.hid (fun k x hx => by
        have e : ∀ j, w7.cell? ⟨g, j, none⟩ = w3.cell? ⟨g, j, none⟩ := fun j => by unfold World.cell?; simp only [hg7]
        obtain ⟨a1, a2, a3⟩ := HC.out k x hx
        exact ⟨(e _).trans a1, (e _).trans a2, (e _).trans a3⟩)
      have HG7 : Hid (g < w7.heap.size) := Lib.hid (Nat.lt_of_lt_of_le HG.out hsz7)
      have HT7 := Lib.hid (HTR5.out.call HB7.out)
      have HU7 := Lib.hid (HTU5.out.call HB7.out)
      have HX7 := Lib.hid (HBX5.out.call HB7.out)
      have HW7 : Hid (Below W.heap.size W w7) := Lib.hid (HT5.out.below.trans (HB7.out.mono HT5.out.below.size))
      have HO' := Lib.hid HT5.out.once
      clear hg7 hsz7 s0 s1 sz sl
      go_loopw [9] (fun s wr => ∃ (i : Nat), i ≤ L ∧ s = .int .i64 (i : Int) ∧ Hid (Below w7.heap.size w7 wr)) (fun s _ => L - (intOf s).toNat)
      case atStart => exact ⟨0, by omega, rfl, Lib.hid (Below.refl _ _)⟩
      case round =>
        obtain ⟨i, hi, rfl, HBR⟩ := hrel
        by_cases hiL : i < L
        · have hLL := HL.out
          obtain ⟨x, hx⟩ : ∃ x, l[i]? = some x := ⟨l[i]'(by omega), List.getElem?_eq_getElem _⟩
          obtain ⟨x0, x1, x2⟩ := three_cells HG7.out (HC7.out i x hx) HBR.out
          have hiL' : (i : Int) < L := by omega
          obtain ⟨s0, s1, sz, sl, sb⟩ := HX7.out.call HBR.out
          have hes := eqS x.o x.i p.o p.i
          have HX := Lib.hid hx
          have HXI := Lib.hid (HM.out i x hx)
          clear hLL hx x2 sb sz
          by_cases he : x.o = p.o ∧ x.i = p.i
          · simp only [he, and_self, decide_true] at hes
            rw [he.1] at x0
            rw [he.2] at x1
            clear he
            go_wp2
            go_quiet (fail)
            go_wp2
            go_roundw
            case rel => exact ⟨i + 1, by omega, by go_num, Lib.hid (below_drewN HBR.out _)⟩
            case measure => first | (simp [intOf]; done) | (simp [intOf]; omega)
          · simp only [he, decide_false] at hes
            have hrb := rem_below HO.out HDEP.out HP.out HO'.out HX.out he
            have HRB := Lib.hid hrb
            have HBLN : Hid ((belowA (rem l r) x.o x.i).length < 1000000 ∧ (belowA l x.o x.i).length < 1000000) := Lib.hid (by
              have h1 := belowA_len l x.o x.i
              have h2 := belowA_len (rem l r) x.o x.i
              have h3 : r < l.length := (List.getElem?_eq_some_iff.1 HP.out).1
              have h4 := rem_len h3
              have h5 := HL.out
              omega)
            clear hrb he
            go_wp2
            go_quiet (fail)
            clear hes
            go_wp2
            obtain ⟨w8, hw8⟩ : ∃ w8, w8 = wr.drewN nq := ⟨_, rfl⟩
            have hbq := below_drewN HBR.out nq
            rw [← hw8] at hbq ⊢
            have HBQ := Lib.hid hbq
            clear hw8 hbq
            have hq0 := three_cells HG7.out (HC7.out i x HX.out) HBQ.out.drew
            obtain ⟨q0, q1, q2⟩ := hq0
            have HTQ := Lib.hid (HT7.out.call HBQ.out.drew)
            have HUQ := Lib.hid (HU7.out.call HBQ.out.drew)
            clear q2 x0 x1
            go_region_held3 (fun w' => w'.cell? ⟨g, i * 3, none⟩ = some (.int .i64 x.o) ∧ w'.cell? ⟨g, i * 3 + 1, none⟩ = some (.int .i64 x.i))
              (first | exact ⟨c30, c31⟩ | exact ⟨c20, c21⟩ | exact ⟨q0, q1⟩)
              (first
                | (go_at_call 15; with_reducible refine (HTU9.out.belowf HXI.out.2.1 HXI.out.2.2 (by decide)).mono ?_; rintro e w10 ⟨v10, rfl, hv10, hb10⟩; have HV10 := Lib.hid hv10; have HB10 := Lib.hid hb10; obtain ⟨c30, c31, c32⟩ := three_cells HG7.out (HC7.out i x HX.out) (HBQ.out.drew.trans ((HB9.out.trans (hb10.mono HB9.out.size)).mono HBQ.out.drew.size)); clear hv10 hb10 c32)
                | (go_at_call 15; with_reducible refine (HUQ.out.belowf HXI.out.2.1 HXI.out.2.2 (by decide)).mono ?_; rintro e w9 ⟨v9, rfl, hv9, hb9⟩; have HV9 := Lib.hid hv9; have HB9 := Lib.hid hb9; have HTU9 := Lib.hid (HTQ.out.call hb9); obtain ⟨c20, c21, c22⟩ := three_cells HG7.out (HC7.out i x HX.out) (HBQ.out.drew.trans (hb9.mono HBQ.out.drew.size)); clear hv9 hb9 c22))
            all_goals
              have hb910 : Below w8.drew.heap.size w8.drew w10 := HB9.out.trans (HB10.out.mono HB9.out.size)
              have HB710 : Hid (Below w7.heap.size w7 w10) := Lib.hid (HBQ.out.drew.trans (hb910.mono HBQ.out.drew.size))
              obtain ⟨a10, c10, rfl⟩ := HV10.out.form
              have hwas := HV9.out.call HB10.out
              clear hb910 q0 q1 c20 c21 c30 c31 s0 s1 sl
              generalize hnow : belowA (rem l r) x.o x.i = now at *
              generalize hwsl : belowA l x.o x.i = was at *
              clear hnow hwsl
              have hcnt : cnt was p was.length = now.length := by
                unfold cnt
                rw [List.take_length]
                exact HRB.out.2.symm
              generalize hN : now.length = N at *
              have HN := Lib.hid hN
              have hNb : N < 1000000 := HBLN.out.1
              have hMb : was.length < 1000000 := HBLN.out.2
              clear hN
              rcases hwas with ⟨rfl, rfl⟩ | ⟨g9, c9, rfl, hg9, hc9⟩
              · have hN0 : N = 0 := by rw [← hcnt]; rfl
                subst hN0
                clear hcnt
                go_wp2
                refine wp_loop_rounds 1 ?_
                rw [rounds_succ]
                go_wp2
                go_roundw
                case rel => exact ⟨i + 1, by omega, by go_num, Lib.hid HB710.out⟩
                case measure => first | (simp [intOf]; done) | (simp [intOf]; omega)
              · have HC9 := Lib.hid hc9
                have HG9 := Lib.hid hg9
                have HCNT := Lib.hid hcnt
                clear hc9 hg9 hcnt
                generalize hM : was.length = M at *
                have HMM := Lib.hid hM
                clear hM
                go_wp2
                go_loopw [12, 13] (fun nn kk wj => ∃ (cc : Nat), cc ≤ M ∧ kk = .int .i64 (cc : Int) ∧ nn = .int .i64 ((cnt was p cc : Nat) : Int) ∧ Hid (Below w10.heap.size w10 wj)) (fun _ kk _ => M - (intOf kk).toNat)
                case atStart => exact ⟨0, by omega, rfl, rfl, Lib.hid (Below.refl _ _)⟩
                case round =>
                  obtain ⟨cc, hcc, rfl, rfl, HBJ⟩ := hrel
                  by_cases hcM : cc < M
                  · have hMM := HMM.out
                    obtain ⟨z, hz⟩ : ∃ z, was[cc]? = some z := ⟨was[cc]'(by omega), List.getElem?_eq_getElem _⟩
                    obtain ⟨y0, y1⟩ := HC9.out cc z hz
                    have z0 := (HBJ.out.cell (p := ⟨g9, _, none⟩) HG9.out).trans y0
                    have z1 := (HBJ.out.cell (p := ⟨g9, _, none⟩) HG9.out).trans y1
                    have HB7J : Hid (Below w7.heap.size w7 wr) := Lib.hid (HB710.out.trans (HBJ.out.mono HB710.out.size))
                    obtain ⟨s0, s1, sz, sl, sb⟩ := HX7.out.call HB7J.out
                    have hcM' : (cc : Int) < M := by omega
                    have hns := neS z.o z.i p.o p.i
                    have HZ := Lib.hid hz
                    have HYY := Lib.hid (show _ ∧ _ from ⟨y0, y1⟩)
                    clear hMM hz y0 y1 sz sb
                    by_cases he : z.o = p.o ∧ z.i = p.i
                    · simp only [he, and_self, decide_true, Bool.not_true] at hns
                      rw [he.1] at z0
                      rw [he.2] at z1
                      have HCN := Lib.hid (cnt_no HZ.out he)
                      clear he
                      generalize cnt was p cc = t at *
                      go_wp2
                      go_quiet (fail)
                      go_wp2
                      go_quiet (fail)
                      go_wp2
                      go_roundw
                      case rel => exact ⟨cc + 1, by omega, by go_num, by rw [HCN.out], Lib.hid (by first | exact below_drewN HBJ.out _ | exact below_drewN (below_drewN HBJ.out _) _)⟩
                      case measure => first | (simp [intOf]; done) | (simp [intOf]; omega)
                    · simp only [he, decide_false, Bool.not_false] at hns
                      have HCN := Lib.hid (cnt_yes HZ.out he)
                      have hin := HRB.out.1 z (List.mem_of_getElem? HZ.out) he
                      have HIN := Lib.hid hin
                      have hcl := cnt_le was p cc
                      have HVJ := Lib.hid ((HV10.out.call HBJ.out).call (Below.refl _ _).drew)
                      have HNL : Hid (now.length < 1000000) := Lib.hid (by rw [HN.out]; exact hNb)
                      clear he hin
                      generalize cnt was p cc = t at *
                      have ht : t ≤ 1000000 := by omega
                      go_wp2
                      go_region_held3 (fun w' => w'.cell? ⟨g9, cc * 2, none⟩ = some (.int .i64 z.o) ∧ w'.cell? ⟨g9, cc * 2 + 1, none⟩ = some (.int .i64 z.i) ∧ w'.cell? ⟨w3.heap.size, 0, none⟩ = some (.int .i64 p.o) ∧ w'.cell? ⟨w3.heap.size, 1, none⟩ = some (.int .i64 p.i))
                        (first | exact ⟨f0, f1, f2, f3⟩ | exact ⟨z0, z1, s0, s1⟩)
                        (first
                          | (go_at_call 27; with_reducible refine (in_any _ _ now z.o z.i HVJ.out HNL.out).mono ?_; rw [HIN.out]; rintro e w11 ⟨rfl, hb11⟩; have HB11 := Lib.hid hb11; have f0 := (HBJ.out.drew.trans (hb11.mono HBJ.out.drew.size)).cell (p := ⟨g9, cc * 2, none⟩) HG9.out |>.trans HYY.out.1; have f1 := (HBJ.out.drew.trans (hb11.mono HBJ.out.drew.size)).cell (p := ⟨g9, cc * 2 + 1, none⟩) HG9.out |>.trans HYY.out.2; obtain ⟨f2, f3, fz, fl, fb⟩ := HX7.out.call (HB7J.out.drew.trans (hb11.mono HB7J.out.drew.size)); clear hb11 fz fb))
                      all_goals
                        clear z0 z1 s0 s1 sl
                        go_wp2
                        go_quiet (fail)
                        go_wp2
                        go_roundw
                        case rel => exact ⟨cc + 1, by omega, by go_num, by first | (rw [HCN.out]; done) | (rw [HCN.out]; go_num), Lib.hid (below_drewN (HBJ.out.drew.trans (HB11.out.mono HBJ.out.drew.size)) _)⟩
                        case measure => first | (simp [intOf]; done) | (simp [intOf]; omega)
                  · have hcE : cc = M := by omega
                    have hcM' : ¬ (cc : Int) < M := by omega
                    have hce := HCNT.out
                    rw [← hcE] at hce
                    rw [hce]
                    clear hce
                    go_wp2
                    go_roundw
                    case rel => exact ⟨i + 1, by omega, by go_num, Lib.hid (HB710.out.trans (HBJ.out.mono HB710.out.size))⟩
                    case measure => first | (simp [intOf]; done) | (simp [intOf]; omega)
        · have hiL' : ¬ (i : Int) < L := by omega
          go_wp2_with (go_at_call 10; refine (awake17 _).mono ?_; rintro e w9 ⟨rfl, hb9⟩)
          go_ret
          exact ⟨rfl, bgo (HW7.out.trans (HBR.out.mono HW7.out.size)) hb9⟩
theorem walk_treeRemoved {W : World} (q : Option Addr) (n c : Nat) (hx : n ≤ c ∧ c ≤ maxLen ∧ ∃ D, ActsAt W q n D) (a : Int) (ha : (Lit.int .i64 a).wf = true) :
    Calls Try.prog 5 #[.slice q n c, .int .i64 a] W fun e w' => e = .returned (.bool true) ∧ Below W.heap.size W w' := by
  obtain ⟨h1, h2, D, hD⟩ := hx
  unfold maxLen at h2
  by_cases hn : n ≤ 60
  · exact removed_any q n c D a ha W hn hD
  · have hn' : (n : Int) > 60 := by omega
    clear hD ha
    go_enter Try.func5, Try.ntmps5
    go_wp2_with (go_at_call 10; refine (awake17 _).mono ?_; rintro e w3 ⟨rfl, hb3⟩)
    go_ret
    exact ⟨rfl, hb3⟩
end Go.Proofs.Ytebgmphbkjpfcaa
