/- TreeScript: the tree and its own answer, act by act. -/
import Derived.Test.YtebgmphbkjpfcaaTrSl
namespace Go.Proofs.Ytebgmphbkjpfcaa
set_option linter.unusedVariables false
set_option linter.unusedSimpArgs false
open Go.ChangeShapes Go.WideShapes Go.ChangeAt Go.RowKit Go.Shelf

theorem St.parentf {w0 W : World} {b m n : Nat} {l : List Nod} {o i : Int} (h : St w0 b m n l W) (ho : InS o) (hi : InS i) (hn : n < 1000000) :
    Calls Try.prog 13 #[.pointer (some ⟨b, 0, none⟩), slV o i] W fun e w' => e = .returned (parV (parentA l o i)) ∧ Below W.heap.size W w' := by
  obtain ⟨ps, f, hT, hB⟩ := h
  exact parent_any W _ b m n ps l f o i ho hi hT hn
theorem St.belowr {w0 W : World} {b m n : Nat} {l : List Nod} {o i : Int} (h : St w0 b m n l W) (ho : InS o) (hi : InS i) (hn : n < 1000000) :
    Calls Try.prog 15 #[.pointer (some ⟨b, 0, none⟩), slV o i] W fun e w' => ∃ v, e = .returned v ∧ w'.ownsRow W.heap.size 31 2 v (belowA l o i).length (slsC (belowA l o i)) ∧ Below W.heap.size W w' := by
  obtain ⟨ps, f, hT, hB⟩ := h
  exact below_any W _ b m n ps l f o i ho hi hT hn
theorem PT.ans {w0 W : World} {b m n rb : Nat} {S : Nat → Prop} {l l2 : List Nod} (h : PT w0 W b m n rb l l2 S) : ∃ v, RefT W rb v l2 := by
  obtain ⟨v, _, h2, _⟩ := h
  exact ⟨v, h2⟩
theorem PT.start {W w1 : World} {b m : Nat} (h : St W b m 0 [] w1) : PT W (w1.alloc (.cells #[.slice none 0 0] 29)) b m 0 w1.heap.size [] [] (fun _ => False) := by
  have hb : Below w1.heap.size w1 (w1.alloc (.cells #[.slice none 0 0] 29)) := bal (Below.refl _ _) _
  obtain ⟨ps, f, hT, hB⟩ := h
  refine ⟨.slice none 0 0, ⟨ps, f, hT.call hb, hB.trans (hb.mono hB.size), fun k e => ?_⟩, ⟨World.alloc_heap_new _ _, World.ownsRow_nil _ _ _ _, (fun e => by cases e), by simp, by simp⟩, hB.size, fun k e => e.elim⟩
  rcases e with (rfl | e) | e
  · exact ⟨by simp, fun q => by have := hT.lt q; omega⟩
  · cases e
  · exact e.elim
theorem slot_no (w : World) (o i : Int) : NoNode (w.alloc (slO o i)) w.heap.size := fun cs q => by
  have := (World.alloc_heap_new w (slO o i)).symm.trans q
  injection this with e
  injection e with e1 e2 e3
  exact absurd e2 (by decide)
theorem atI_has (l : List Nod) (o i : Int) : decide (0 ≤ atI l o i) = (idx l o i).isSome := by
  unfold atI
  cases idx l o i with
  | none => rfl
  | some k => simp
theorem belowA_short (l : List Nod) (o i : Int) : (belowA l o i).length ≤ l.length := belowA_len l o i
structure Sev (W : World) (a b x rb : Nat) (pa pb o i : Int) (v : Value) : Prop where
  c : W.cell? ⟨a, 0, none⟩ = some (.int .i64 pa) ∧ W.cell? ⟨a, 1, none⟩ = some (.int .i64 pb) ∧ W.cell? ⟨b, 0, none⟩ = some (.int .i64 pa) ∧ W.cell? ⟨b, 1, none⟩ = some (.int .i64 pb) ∧ W.cell? ⟨x, 1, none⟩ = some (.int .i64 o) ∧ W.cell? ⟨x, 2, none⟩ = some (.int .i64 i) ∧ W.cell? ⟨rb, 0, none⟩ = some v
  la : a < W.heap.size
  lb : b < W.heap.size
  lx : x < W.heap.size
  lr : rb < W.heap.size
theorem Sev.call {W W' : World} {a b x rb : Nat} {pa pb o i : Int} {v : Value} (h : Sev W a b x rb pa pb o i v) (hb : Below W.heap.size W W') : Sev W' a b x rb pa pb o i v := by
  obtain ⟨⟨c1, c2, c3, c4, c5, c6, c7⟩, la, lb, lx, lr⟩ := h
  exact ⟨⟨(hb.cell (p := ⟨a, 0, none⟩) la).trans c1, (hb.cell (p := ⟨a, 1, none⟩) la).trans c2, (hb.cell (p := ⟨b, 0, none⟩) lb).trans c3, (hb.cell (p := ⟨b, 1, none⟩) lb).trans c4, (hb.cell (p := ⟨x, 1, none⟩) lx).trans c5, (hb.cell (p := ⟨x, 2, none⟩) lx).trans c6, (hb.cell (p := ⟨rb, 0, none⟩) lr).trans c7⟩, Nat.lt_of_lt_of_le la hb.size, Nat.lt_of_lt_of_le lb hb.size, Nat.lt_of_lt_of_le lx hb.size, Nat.lt_of_lt_of_le lr hb.size⟩
theorem row_call {W W' : World} {B : Nat} {e : TypeId} {s : Nat} {v : Value} {n : Nat} {xs : List Value} (h : W.ownsRow B e s v n xs) (hb : Below W.heap.size W W') : W'.ownsRow B e s v n xs := own_block h fun g hg => hb.block g (h.lt g hg).2
theorem same_true {l : List Nod} {w : World} {u v : Value} (hu : NodesAt w u l) (hv : NodesAt w v l) (hn : l.length < 1000000) :
    Calls Try.prog 21 #[u, v] w fun e w' => e = .returned (.bool true) ∧ Below w.heap.size w w' := by
  have := same_nodes w u v l l hu hv hn hn
  rw [decide_eq_true rfl] at this
  refine this.mono ?_
  rintro e w' ⟨he, j, rfl⟩
  exact ⟨he, below_drewN (Below.refl _ _) _⟩
theorem slots_true {l : List Nod} {w : World} {u v : Value} (hu : SlotsAt w u l) (hv : SlotsAt w v l) (hn : l.length < 1000000) :
    Calls Try.prog 19 #[u, v] w fun e w' => e = .returned (.bool true) ∧ Below w.heap.size w w' := by
  have := same_slots w u v l l hu hv hn hn
  rw [decide_eq_true rfl] at this
  refine this.mono ?_
  rintro e w' ⟨he, j, rfl⟩
  exact ⟨he, below_drewN (Below.refl _ _) _⟩
set_option maxRecDepth 100000 in
set_option maxHeartbeats 2000000 in
theorem script_any (q : Option Addr) (n c : Nat) (D : Nat → ActT) (W : World) (hn : n ≤ 100) (hD : ActsAt W q n D) :
    Calls Try.prog 3 #[.slice q n c] W fun e w' => e = .returned (.bool true) ∧ Below W.heap.size W w' := by
  have HD := Lib.hid hD
  have hn' : ¬ (n : Int) > 100 := by omega
  clear hD
  go_enter Try.func3, Try.ntmps3
  go_wp2_with (go_at_call 11; refine (new_st _).mono ?_; rintro e w1 ⟨rfl, hS⟩)
  have HP0 := Lib.hid (PT.start hS)
  obtain ⟨B, hB⟩ : ∃ B, B = W.heap.size + 1 := ⟨_, rfl⟩
  obtain ⟨rb, hrb⟩ : ∃ B, B = w1.heap.size := ⟨_, rfl⟩
  rw [← hB, ← hrb] at HP0
  rw [← hB, ← hrb]
  clear hB hrb hS
  go_loopw [5] (fun i wr => ∃ k : Nat, k ≤ n ∧ i = .int .i64 k ∧ Hid (PT W wr B W.heap.size (2 * k) rb (playL D k) (playL D k) (fun _ => False))) (fun i _ => n - (intOf i).toNat)
  case atStart => exact ⟨0, by omega, rfl, HP0⟩
  case round =>
    obtain ⟨k, hk, rfl, HP⟩ := hrel
    by_cases hlt : k < n
    · have hlt' : (k : Int) < n := by omega
      obtain ⟨gb, off, hb, hcell⟩ := HD.out.below HP.out.st.below
      obtain ⟨rfl, hbl⟩ := hb (by omega)
      obtain ⟨⟨a0, a1, a2, a3, a4⟩, hok⟩ := hcell k hlt
      have hstep : playL D (k + 1) = stepA (playL D k) (D k) := rfl
      have hdep := dep_play D k
      have HDN : Hid (∀ wA, PT W wA B W.heap.size (2 * k) rb (playL D k) (playL D k) (fun j => False ∨ j = wr.heap.size) → Calls Try.prog 12 #[.pointer (some ⟨B, 0, none⟩), .pointer (some ⟨rb, 0, none⟩), actV (D k).d (D k).a (D k).b (D k).p (D k).q] wA fun e w' => e = .returned (.bool true) ∧ PT W w' B W.heap.size (2 * k + 2) rb (playL D (k + 1)) (playL D (k + 1)) (fun j => False ∨ j = wr.heap.size) ∧ SameK (fun j => False ∨ j = wr.heap.size) wA w') := Lib.hid (fun wA h => by rw [hstep]; exact done_any (D k) hok h (by omega) hdep)
      generalize D k = x at *
      obtain ⟨d, o, i, p', j⟩ := x
      obtain ⟨x1, x2, x3, x4⟩ := hok
      simp only at a0 a1 a2 a3 a4 x1 x2 x3 x4 HDN
      have HPA := Lib.hid (HP.out.beside (bal (Below.refl wr.heap.size wr) (actO d o i p' j)) (Nat.le_refl _) (by simp) (four_new wr d o i p' j).2.2)
      have HFA := Lib.hid (four_new wr d o i p' j).1
      clear hb hcell hstep hdep
      go_upto_region 12 with (go_at_call 12; (with_reducible refine (HDN.out _ HPA.out).mono ?_); rintro e w2 ⟨rfl, hP2, hS2⟩; have HP2 := Lib.hid hP2; have HF2 := Lib.hid (HFA.out.kept (hS2 _ (.inr rfl))); obtain ⟨c1, c2, c3, c4⟩ := HF2.out; clear hP2 hS2)
      clear a0 a1 a2 a3 a4 c1 c2
      obtain ⟨l, hl⟩ : ∃ q, q = playL D (k + 1) := ⟨_, rfl⟩
      rw [← hl] at HP2
      have HL := Lib.hid hl
      clear hl
      have hs2 : wr.heap.size < w2.heap.size := HP2.out.lts.2 _ (.inr rfl)
      have hlen := HP2.out.len.1
      have HPV := Lib.hid (show parV (parentA l p' j) = .tuple #[slV (((parentA l p' j).map Nod.o).getD 0) (((parentA l p' j).map Nod.i).getD 0), .bool (parentA l p' j).isSome] from rfl)
      generalize ((parentA l p' j).map Nod.o).getD 0 = pa at HPV
      generalize ((parentA l p' j).map Nod.i).getD 0 = pb at HPV
      generalize (parentA l p' j).isSome = pt at HPV
      go_upto_region 13 with (go_at_call 13; (with_reducible refine (HP2.out.st.parentf x3 x4 (by omega)).mono ?_); rw [HPV.out]; rintro e w3 ⟨rfl, hb3⟩; have HB3 := Lib.hid hb3; clear hb3)
      have HB4 : Hid (Below w2.heap.size w2 (w3.alloc (slO pa pb))) := Lib.hid (bal HB3.out _)
      have HX4 := Lib.hid (Bx.fresh w3 pa pb)
      obtain ⟨a3, ha3⟩ : ∃ z, z = w3.heap.size := ⟨_, rfl⟩
      obtain ⟨w4, hw4⟩ : ∃ z, z = w3.alloc (.cells #[.int .i64 pa, .int .i64 pb] 31) := ⟨_, rfl⟩
      rw [← ha3, ← hw4] at HX4
      rw [← hw4] at HB4
      rw [← ha3, ← hw4]
      clear ha3 hw4 c3 c4
      obtain ⟨v, hv⟩ := HP2.out.ans
      have HV4 := Lib.hid (hv.call HB4.out)
      clear hv
      obtain ⟨c1, c2, c3, c4⟩ := HF2.out.kept (HB4.out.block _ hs2)
      have hz4 : wr.heap.size < w4.heap.size := Nat.lt_of_lt_of_le hs2 HB4.out.size
      go_upto_region 14 with (go_at_call 14; (with_reducible refine (rparent_any _ rb v l p' j HV4.out).mono ?_); rw [HPV.out]; rintro e w5 ⟨rfl, hb5⟩; have HB5 := Lib.hid hb5; clear hb5)
      have HB46 : Hid (Below w4.heap.size w4 (w5.alloc (slO pa pb))) := Lib.hid (bal HB5.out _)
      have HX6 := Lib.hid (Bx.fresh w5 pa pb)
      obtain ⟨a5, ha5⟩ : ∃ z, z = w5.heap.size := ⟨_, rfl⟩
      obtain ⟨w6, hw6⟩ : ∃ z, z = w5.alloc (.cells #[.int .i64 pa, .int .i64 pb] 31) := ⟨_, rfl⟩
      rw [← ha5, ← hw6] at HX6
      rw [← hw6] at HB46
      rw [← ha5, ← hw6]
      clear ha5 hw6 c1 c2 c3 c4
      have HB6 := Lib.hid (HB4.out.trans (HB46.out.mono HB4.out.size))
      have HP6 := Lib.hid (HP2.out.call HB6.out)
      have HF6 := Lib.hid (HF2.out.kept (HB6.out.block _ hs2))
      have HV6 := Lib.hid (HV4.out.call HB46.out)
      have HX46 := Lib.hid (HX4.out.call HB46.out)
      have hz6 : wr.heap.size < w6.heap.size := Nat.lt_of_lt_of_le hs2 HB6.out.size
      obtain ⟨c1, c2, c3, c4⟩ := HF6.out
      clear c3 c4
      go_upto_region 15 with (first
        | (go_at_call 15; (with_reducible refine (HP6.out.st.belowr x1 x2 (by omega)).mono ?_); rintro e w7 ⟨u, rfl, hu, hb7⟩; have HU := Lib.hid hu; have HB7 := Lib.hid hb7; clear hu hb7)
        | (go_at_call 16; (with_reducible refine ((HP6.out.st.call HB7.out).all (by omega)).mono ?_); rintro e w8 ⟨all, rfl, ha, hb8⟩; have HAL := Lib.hid ha; have HB8 := Lib.hid hb8; clear ha hb8))
      have HB68 := Lib.hid ((HB7.out.trans (HB8.out.mono HB7.out.size)).drew)
      have HU8 := Lib.hid (row_call HU.out HB8.out.drew)
      have HAL8 := Lib.hid (row_call HAL.out (Below.refl _ _).drew)
      have HV8 := Lib.hid (HV6.out.call HB68.out)
      have HST8 := Lib.hid (HP6.out.st.call HB68.out)
      have HSV6 : Hid (Sev w6 a3 a5 wr.heap.size rb pa pb o i v) := Lib.hid ⟨⟨HX46.out.c0, HX46.out.c1, HX6.out.c0, HX6.out.c1, HF6.out.1, HF6.out.2.1, (cell_box HV6.out.blk).1⟩, HX46.out.lt, HX6.out.lt, hz6, HP6.out.lts.1⟩
      have HSV := Lib.hid (HSV6.out.call HB68.out)
      have hne := neS pa pb pa pb
      simp only [and_self, decide_true, Bool.not_true] at hne
      have hbl := belowA_short l o i
      obtain ⟨az, haz⟩ : ∃ z, atI l o i = z := ⟨_, rfl⟩
      obtain ⟨hbb, hhb⟩ : ∃ z, (idx l o i).isSome = z := ⟨_, rfl⟩
      have hah := atI_has l o i
      rw [haz, hhb] at hah
      have HAZ := Lib.hid haz
      have HHB := Lib.hid hhb
      have HBL : Hid ((belowA l o i).length ≤ 1000 ∧ (belowA l o i).length < 1000000 ∧ l.length < 1000000 ∧ l.length ≤ 1000) := Lib.hid (by omega)
      clear haz hhb hbl c1 c2 hlen
      cases hbb
      all_goals
        go_region_held3 (fun w' => w'.cell? ⟨a3, 0, none⟩ = some (.int .i64 pa) ∧ w'.cell? ⟨a3, 1, none⟩ = some (.int .i64 pb) ∧ w'.cell? ⟨a5, 0, none⟩ = some (.int .i64 pa) ∧ w'.cell? ⟨a5, 1, none⟩ = some (.int .i64 pb) ∧ w'.cell? ⟨wr.heap.size, 1, none⟩ = some (.int .i64 o) ∧ w'.cell? ⟨wr.heap.size, 2, none⟩ = some (.int .i64 i) ∧ w'.cell? ⟨rb, 0, none⟩ = some v)
          (exact HSV.out.c)
          (first
            | (go_at_call 21; (with_reducible refine (same_true (nodes_row (row_call HAL8.out HB12.out)) (nodes_row (HV8.out.call HB12.out).row) HBL.out.2.2.1).mono ?_); rintro e w13 ⟨rfl, hb13⟩; have HSV := Lib.hid (HSV.out.call hb13); have HB13 := Lib.hid (HB12.out.trans (hb13.mono HB12.out.size)); clear hb13)
            | (go_at_call 19; (with_reducible refine (slots_true (slots_row (row_call HU8.out HB11.out)) HUB.out HBL.out.2.1).mono ?_); rintro e w12 ⟨rfl, hb12⟩; have HSV := Lib.hid (HSV.out.call hb12); have HB12 := Lib.hid (HB11.out.trans (hb12.mono HB11.out.size)); clear hb12)
            | (go_at_call 20; (with_reducible refine (rbelow_any _ rb v l o i HV10.out).mono ?_); rintro e w11 ⟨ub, rfl, hub, hb11⟩; have HSV := Lib.hid (HSV.out.call hb11); have HUB := Lib.hid hub; have HB11 := Lib.hid (HB10.out.trans (hb11.mono HB10.out.size)); clear hb11 hub)
            | (go_at_call 18; (with_reducible refine (rat_any _ rb v l o i HV9.out).mono ?_); rw [HAZ.out]; rintro e w10 ⟨rfl, hb10⟩; have HSV := Lib.hid (HSV.out.call hb10); have HV10 := Lib.hid (HV9.out.call hb10); have HB10 := Lib.hid (HB9.out.trans (hb10.mono HB9.out.size)); clear hb10)
            | (go_at_call 17; (with_reducible refine (HST8.out.has x1 x2).mono ?_); rw [HHB.out]; rintro e w9 ⟨rfl, hb9⟩; have HSV := Lib.hid (HSV.out.call hb9); have HV9 := Lib.hid (HV8.out.call hb9); have HB9 := Lib.hid hb9; clear hb9))
        all_goals
          have HB613 := Lib.hid (HB68.out.trans (HB13.out.mono HB68.out.size))
          have HOS := Lib.hid (own_base (row_call HU8.out HB13.out) (Nat.zero_le _))
          have HON := Lib.hid (own_base (row_call HAL8.out HB13.out) (Nat.zero_le _))
          go_wp2_with (first
            | (go_at_call 22; (with_reducible refine (over_slots _ u (belowA l o i) _ HOS.out HBL.out.1).mono ?_); rintro e w14 ⟨⟨r14, rfl⟩, hg14⟩; have HB14 := Lib.hid (HB613.out.grown hg14 HB613.out.size (fun k e => (HU.out.lt k e).1)); have HON := Lib.hid (own_block HON.out (fun g hg => hg14.block g (HON.out.lt g hg).2 (fun e => by have q1 := (HU.out.lt g e.symm).2; have q2 := (HAL.out.lt g hg).1; omega))); clear hg14)
            | (go_at_call 23; (with_reducible refine (over_nodes _ all l _ HON.out HBL.out.2.2.2).mono ?_); rintro e w15 ⟨⟨r15, rfl⟩, hg15⟩; have HB15 := Lib.hid (HB14.out.grown hg15 HB14.out.size (fun k e => Nat.le_trans HB7.out.size (HAL.out.lt k e).1)); clear hg15))
          go_roundw
          case rel => exact ⟨k + 1, by omega, by go_num, Lib.hid (by rw [← HL.out]; exact ((HP6.out.call HB15.out).weak (fun _ e => e.elim)).mono (by omega))⟩
          case measure => first | (simp [intOf]; done) | (simp [intOf]; omega)
    · obtain rfl : k = n := by omega
      have hlen := HP.out.len.1
      have HLN : Hid ((playL D k).length < 1000000) := Lib.hid (by omega)
      obtain ⟨v, hv⟩ := HP.out.ans
      have HV := Lib.hid (hv.call (Below.refl _ _).drew)
      have HST := Lib.hid (HP.out.st.call (Below.refl _ _).drew)
      have HBW := Lib.hid HST.out.below
      obtain ⟨r0, rz⟩ := cell_box HV.out.blk
      obtain ⟨q0, qz⟩ := cell_box hv.blk
      clear hv
      go_upto_region 19 with (fail)
      go_region_held3 (fun w' => w'.cell? ⟨rb, 0, none⟩ = some v)
        (first | exact s0 | exact t0 | exact r0)
        (first
          | (go_at_call 10; (with_reducible refine (awake17 _).mono ?_); rintro e w22 ⟨rfl, hb22⟩; have HB22 := Lib.hid (HB21.out.trans (hb22.mono HB21.out.size)); obtain ⟨s0, sz⟩ := cell_box (HV21.out.call hb22).blk; clear hb22)
          | (go_at_call 21; (with_reducible refine (same_true (nodes_row HAL.out) (nodes_row HV20.out.row) HLN.out).mono ?_); rintro e w21 ⟨rfl, hb21⟩; have HB21 := Lib.hid (HB20.out.trans (hb21.mono HB20.out.size)); have HV21 := Lib.hid (HV20.out.call hb21); obtain ⟨s0, sz⟩ := cell_box (HV20.out.call hb21).blk; clear hb21)
          | (go_at_call 16; (with_reducible refine (HST.out.all (by omega)).mono ?_); rintro e w20 ⟨all, rfl, ha, hb20⟩; have HAL := Lib.hid ha; have HV20 := Lib.hid (HV.out.call hb20); have HB20 := Lib.hid (HBW.out.trans (hb20.mono HBW.out.size)); obtain ⟨t0, tz⟩ := cell_box (HV.out.call hb20).blk; clear hb20 ha))
      all_goals
        go_wp2
        go_ret
        exact ⟨rfl, HB22.out⟩
theorem walk_treeScript {W : World} (q : Option Addr) (n c : Nat) (hx : n ≤ c ∧ c ≤ maxLen ∧ ∃ D, ActsAt W q n D) :
    Calls Try.prog 3 #[.slice q n c] W fun e w' => e = .returned (.bool true) ∧ Below W.heap.size W w' := by
  obtain ⟨h1, h2, D, hD⟩ := hx
  unfold maxLen at h2
  by_cases hn : n ≤ 100
  · exact script_any q n c D W hn hD
  · have hn' : (n : Int) > 100 := by omega
    clear hD
    go_enter Try.func3, Try.ntmps3
    go_wp2_with (go_at_call 10; refine (awake17 _).mono ?_; rintro e w3 ⟨rfl, hb3⟩)
    go_ret
    exact ⟨rfl, hb3⟩
end Go.Proofs.Ytebgmphbkjpfcaa
