import Derived.Test.YtchjfeafkmpmbaaGreatDoorQkt
namespace Go.Proofs.YtchjfeafkmpmbaaGreatDoor
set_option linter.unusedVariables false
set_option linter.unusedSimpArgs false
set_option maxRecDepth 100000
set_option maxHeartbeats 8000000
open Lib (hid)
open Go.ChangeShapes Go.WideShapes Go.ChangeAt Go.RowKit Go.Shelf
section
namespace HpS
open TabS (Cp Sn zC mayC sizS getR getN FootP foot_ltP SameS AddRel addSR setN setM rowsS hasS dropSR dropSL heldA hdsC insS)
open TabP (Two Pr)
theorem slots_one (W : World) (a b : Int) : SlotsAt (W.alloc (.cells #[.int .i64 a, .int .i64 b] 30)) (.slice (some ⟨W.heap.size, 0, none⟩) 1 1) [⟨a, b, 0⟩] := by
 have hb := World.alloc_heap_new W (.cells #[.int .i64 a, .int .i64 b] 30)
 refine .inr ⟨W.heap.size, 1, rfl, by simp, fun k x hx => ?_⟩
 match k, hx with
 | 0, hx => cases hx; refine ⟨?_, ?_⟩ <;> (unfold World.cell?; simp only [hb]; rfl)
 | k + 1, hx => simp at hx
theorem same_slots_one {w : World} {u v : Value} (hu : SlotsAt w u [⟨7, 1, 1⟩]) (hv : SlotsAt w v [⟨7, 1, 0⟩]) : Calls Tryz.prog 25 #[u, v] w fun e w' => e = .returned (.bool true) ∧ Below w.heap.size w w' := by
 refine (same_slots w u v _ _ hu hv (by decide) (by decide)).mono ?_
 rintro e w' ⟨rfl, j, rfl⟩
 exact ⟨rfl, below_drewN (Below.refl _ _) _⟩
theorem awake18 (W : World) (hT : CX.TabG W) : Calls Tryz.prog 8 #[] W fun e w' => e = .returned (.bool true) ∧ Below W.heap.size W w' := by
 have HT := hid hT
 have HNW := hid (hnew W)
 clear hT
 go_enter Tryz.func8, Tryz.ntmps8
 go_upto_region 2 with (go_at_call 28; (with_reducible refine HNW.out.mono ?_); rintro e w1 ⟨hb, s, rfl, h1⟩; have H1 := hid h1; clear h1)
 have HC1 := hid (hadd H1.out (by decide) 7 4)
 rw [show addSR [] 7 4 = 0 by decide +kernel] at HC1
 have HRT : Hid (∀ v g, Hd W s hb 0 0 (A1 g) [] [] [] (fun _ => False) v → Calls Tryz.prog 30 #[.pointer (some ⟨hb, 0, none⟩), .agg #[.int .i64 7, .int .i64 0], .agg #[.int .i64 8, .int .i64 3, .int .i64 7, .int .u64 0, .int .i64 0, .int .i64 0, .int .i64 0, .int .i64 0]] v fun e w' => e = .returned (.int .i64 0) ∧ Hd W s hb 0 1 (A2 g) [] [⟨7, 0, 0⟩] [] (fun _ => False) w') := hid (fun v g hv => by
  refine (hroot_yes hv HT.out 7 0 in7.1 in7.2.1 cE (by decide) (by decide) (root_E g)).mono ?_
  rintro e w' ⟨rfl, h2, -⟩
  rw [set_E] at h2
  exact ⟨rfl, h2⟩)
 have HCP : Hid (∀ v g, Hd W s hb 0 1 (A2 g) [] [⟨7, 0, 0⟩] [] (fun _ => False) v → Calls Tryz.prog 16 #[.pointer (some ⟨hb, 0, none⟩), .agg #[.int .i64 7, .int .i64 0], .agg #[.int .i64 7, .int .i64 1], .int .i64 1] v fun e w' => e = .returned (.int .i64 0) ∧ Hd W s hb 0 2 (A3 g) [] [⟨7, 0, 0⟩, ⟨7, 1, 1⟩] [] (fun _ => False) w') := hid (fun v g hv => by
  have hg : gt (A2 g) 7 0 = cE := rfl
  have := hcopy hv HT.out 7 0 7 1 in7.1 in7.2.1 in7.1 in7.2.2 1 (by rw [hg]; decide) (by rw [hg, cpy_E]; decide) (by decide)
  rw [hg, cpy_E, der_N, der_L, der_T] at this
  refine this.mono ?_
  rintro e w' ⟨rfl, h2, -⟩
  exact ⟨rfl, h2⟩)
 have HGT : Hid (∀ v g, Hd W s hb 0 2 (A3 g) [] [⟨7, 0, 0⟩, ⟨7, 1, 1⟩] [] (fun _ => False) v → Calls Tryz.prog 20 #[.pointer (some ⟨hb, 0, none⟩), .agg #[.int .i64 7, .int .i64 1]] v fun e w' => e = .returned (.tuple #[.agg #[.int .i64 8, .int .i64 3, .int .i64 1, .int .u64 0, .int .i64 0, .int .i64 0, .int .i64 0, .int .i64 0], .int .i64 0]) ∧ Below v.heap.size v w') := hid (fun v g hv => hget hv 7 1)
 have HFN : Hid (∀ v g, Hd W s hb 0 2 (A3 g) [] [⟨7, 0, 0⟩, ⟨7, 1, 1⟩] [] (fun _ => False) v → Calls Tryz.prog 26 #[.pointer (some ⟨hb, 0, none⟩), .agg #[.int .i64 7, .int .i64 0]] v fun e w' => e = .returned (.bool false) ∧ Below v.heap.size v w') := hid (fun v g hv => by
  have := hfinal hv HT.out 7 0 (by show cE.e ≤ _; decide) (fun k => by
   show (TabS.hdAt [⟨7, 0, cE⟩, ⟨7, 1, cF⟩] k).c.e ≤ _
   match k with
   | 0 => decide
   | 1 => decide
   | k + 2 => exact (by decide : (0 : Int) ≤ 9223372036854775807)) (show 1 < 1000000 by decide) (show 2 < 1000000 by decide)
  rw [fin_E] at this
  exact this)
 have HUN : Hid (∀ v g, Hd W s hb 0 2 (A3 g) [] [⟨7, 0, 0⟩, ⟨7, 1, 1⟩] [] (fun _ => False) v → Calls Tryz.prog 21 #[.pointer (some ⟨hb, 0, none⟩), .agg #[.int .i64 7, .int .i64 0]] v fun e w' => ∃ u, e = .returned u ∧ SlotsAt w' u [⟨7, 1, 1⟩] ∧ Below v.heap.size v w') := hid (fun v g hv => by
  refine (hunder hv 7 0 in7.1 in7.2.1 (by decide)).mono ?_
  rintro e w' ⟨u, rfl, h1, h2⟩
  exact ⟨u, rfl, slots_row h1, h2⟩)
 clear HNW
 go_upto_region 4 with (first
  | (go_at_call 29; (with_reducible refine HC1.out.mono ?_); rintro e w2 ⟨rfl, L', hr, h2, -⟩; obtain ⟨g, rfl⟩ := a_add hr; have HC2 := hid (HRT.out w2 g h2); clear hr h2)
  | (go_at_call 30; (with_reducible refine HC2.out.mono ?_); rintro e w3 ⟨rfl, h3⟩; have HC3 := hid (HCP.out w3 g h3); clear h3))
 go_upto_region 5 with (go_at_call 16; (with_reducible refine HC3.out.mono ?_); rintro e w4 ⟨rfl, h4⟩; have H4 := hid h4; have HC4 := hid (HGT.out w4 g h4); clear h4)
 go_upto_region 6 with (go_at_call 20; (with_reducible refine HC4.out.mono ?_); rintro e w5 ⟨rfl, hb5⟩; have HB5 := hid hb5; clear hb5)
 obtain ⟨w6, hw6⟩ : ∃ y, y = w5.alloc (.cells #[.int .i64 8, .int .i64 3, .int .i64 1, .int .u64 0, .int .i64 0, .int .i64 0, .int .i64 0, .int .i64 0] 33) := ⟨_, rfl⟩
 have hb6 : Below w4.heap.size w4 w6 := hw6 ▸ bal HB5.out _
 have hx6 : w6.heap[w5.heap.size]? = some (.cells (⟨8, 3, 1, 0, 0, 0, 0, 0⟩ : Cp).L.toArray 33 (0, 0)) := by rw [hw6]; exact heap_alloc_new w5 _
 have H6 := hid (H4.out.call hb6)
 have HF6 := hid (HFN.out w6 g H6.out)
 obtain ⟨-, -, x2, -⟩ := cap_cells hx6
 simp only [] at x2
 rw [← hw6]
 generalize w5.heap.size = xB at *
 clear hw6 hb6 hx6 HC4 HC3 HC2 HC1 HGT HCP HRT
 go_wp2_with (first
  | (go_at_call 26; (with_reducible refine HF6.out.mono ?_); rintro e w7 ⟨rfl, hb7⟩; have H7 := hid (H6.out.call hb7); have HU7 := hid (HUN.out w7 g H7.out); clear hb7)
  | (go_at_call 21; (with_reducible refine HU7.out.mono ?_); rintro e w8 ⟨u, rfl, hu, hb8⟩; have H8 := hid (H7.out.call hb8); have HU8 := hid hu; clear hu hb8)
  | (go_at_call 25; refine (same_slots_one (HU8.out.call (bal (Below.refl _ _) _)) (slots_one w8 7 1)).mono ?_; rintro e w9 ⟨rfl, hb9⟩; have HB9 := hid ((bal (Below.refl w8.heap.size w8) _).trans (hb9.mono (bal (Below.refl w8.heap.size w8) _).size)); clear hb9))
 go_ret
 exact ⟨rfl, (H8.out.call HB9.out).below⟩
end HpS
end
section
namespace HdS
open TabS (Cp Sn zC mayC sizS getR getN Two Pr FootP foot_ltP foot_ltR SameS AddRel addSR setN setM rowsS hasS dropSR dropSL heldA hdsC)
variable {W w w' : World} {s : Sh} {hb rhb n n' t : Nat} {L M L' M' : List Sn} {l l2 l' l2' : List Nod} {S T : Nat → Prop}
structure A18 where
 d : Int
 o : Int
 i : Int
 p : Int
 j : Int
 c : Cp
 m : Int
 u : Nat
abbrev A18.V (x : A18) : Value := .agg #[.int .i64 x.d, .int .i64 x.o, .int .i64 x.i, .int .i64 x.p, .int .i64 x.j, .int .i64 x.c.a, .int .i64 x.c.b, .int .i64 x.c.c, .int .u64 x.c.d, .int .i64 x.c.e, .int .i64 x.c.f, .int .i64 x.c.g, .int .i64 x.c.h, .int .i64 x.m, .int .u64 x.u]
def A18.row (x : A18) : List Value := [.int .i64 x.d, .int .i64 x.o, .int .i64 x.i, .int .i64 x.p, .int .i64 x.j, .int .i64 x.c.a, .int .i64 x.c.b, .int .i64 x.c.c, .int .u64 x.c.d, .int .i64 x.c.e, .int .i64 x.c.f, .int .i64 x.c.g, .int .i64 x.c.h, .int .i64 x.m, .int .u64 x.u]
def A18.Ok (x : A18) : Prop := InS x.o ∧ InS x.i ∧ InS x.p ∧ InS x.j ∧ x.c.e ≤ 9223372036854775807 ∧ x.u < 2 ^ 64
theorem done_none (h : HSt W s hb rhb t S w) (d : Int) (o i p j ca cb cx cd ce cf cg ch m : Int) (u : Nat) (h0 : ¬ d = 0) (h1 : ¬ d = 1) (h2 : ¬ d = 2) (h3 : ¬ d = 3) (h4 : ¬ d = 4) (h5 : ¬ d = 5) (h6 : ¬ d = 6) (h7 : ¬ d = 7) (h8 : ¬ d = 8) (h9 : ¬ d = 9) :
  Calls Tryz.prog 10 #[.pointer (some ⟨hb, 0, none⟩), .pointer (some ⟨rhb, 0, none⟩), .agg #[.int .i64 d, .int .i64 o, .int .i64 i, .int .i64 p, .int .i64 j, .int .i64 ca, .int .i64 cb, .int .i64 cx, .int .u64 cd, .int .i64 ce, .int .i64 cf, .int .i64 cg, .int .i64 ch, .int .i64 m, .int .u64 u]] w fun e w' => e = .returned (.bool true) ∧ HSt W s hb rhb (t + 1) S w' ∧ SameK S w w' := by
 have hal : Below w.heap.size w (w.alloc (.cells #[.int .i64 d, .int .i64 o, .int .i64 i, .int .i64 p, .int .i64 j, .int .i64 ca, .int .i64 cb, .int .i64 cx, .int .u64 cd, .int .i64 ce, .int .i64 cf, .int .i64 cg, .int .i64 ch, .int .i64 m, .int .u64 u] 35)) := bal (Below.refl _ _) _
 have HE := hid (And.intro ((h.call hal).mono (t' := t + 1) (by omega)) (show SameK S w (w.alloc (.cells #[.int .i64 d, .int .i64 o, .int .i64 i, .int .i64 p, .int .i64 j, .int .i64 ca, .int .i64 cb, .int .i64 cx, .int .u64 cd, .int .i64 ce, .int .i64 cf, .int .i64 cg, .int .i64 ch, .int .i64 m, .int .u64 u] 35)) from fun k e => hal.block k (h.lt e)))
 clear h hal
 go_enter Tryz.func10, Tryz.ntmps10
 go_wp2
 go_ret
 exact ⟨rfl, HE.out⟩
theorem done_any (hT0 : CX.TabG W) (ht : t ≤ 110) (h : HSt W s hb rhb t S w) (x : A18) (hx : x.Ok) :
  Calls Tryz.prog 10 #[.pointer (some ⟨hb, 0, none⟩), .pointer (some ⟨rhb, 0, none⟩), x.V] w fun e w' => e = .returned (.bool true) ∧ HSt W s hb rhb (t + 1) S w' ∧ SameK S w w' := by
 obtain ⟨d, o, i, p, j, ⟨ca, cb, cx, cd, ce, cf, cg, ch⟩, m, u⟩ := x
 obtain ⟨x1, x2, x3, x4, x5, x6⟩ := hx
 simp only at x1 x2 x3 x4 x5 x6
 by_cases h0 : d = 0
 ·subst h0; exact done_0 hT0 ht h o i p j ca cb cx cd ce cf cg ch m u x1 x2 x3 x4 x5 x6
 by_cases h1 : d = 1
 ·subst h1; exact done_1 hT0 ht h o i p j ca cb cx cd ce cf cg ch m u x1 x2 x3 x4 x5 x6
 by_cases h2 : d = 2
 ·subst h2; exact done_2 hT0 ht h o i p j ca cb cx cd ce cf cg ch m u x1 x2 x3 x4 x5 x6
 by_cases h3 : d = 3
 ·subst h3; exact done_3 hT0 ht h o i p j ca cb cx cd ce cf cg ch m u x1 x2 x3 x4 x5 x6
 by_cases h4 : d = 4
 ·subst h4; exact done_4 hT0 ht h o i p j ca cb cx cd ce cf cg ch m u x1 x2 x3 x4 x5 x6
 by_cases h5 : d = 5
 ·subst h5; exact done_5 hT0 ht h o i p j ca cb cx cd ce cf cg ch m u x1 x2 x3 x4 x5 x6
 by_cases h6 : d = 6
 ·subst h6; exact done_6 hT0 ht h o i p j ca cb cx cd ce cf cg ch m u x1 x2 x3 x4 x5 x6
 by_cases h7 : d = 7
 ·subst h7; exact done_7 hT0 ht h o i p j ca cb cx cd ce cf cg ch m u x1 x2 x3 x4 x5 x6
 by_cases h8 : d = 8
 ·subst h8; exact done_8 hT0 ht h o i p j ca cb cx cd ce cf cg ch m u x1 x2 x3 x4 x5 x6
 by_cases h9 : d = 9
 ·subst h9; exact done_9 hT0 ht h o i p j ca cb cx cd ce cf cg ch m u x1 x2 x3 x4 x5 x6
 exact done_none h d o i p j ca cb cx cd ce cf cg ch m u h0 h1 h2 h3 h4 h5 h6 h7 h8 h9
theorem rnew (W : World) : Calls Tryz.prog 31 #[] W fun e w' => e = .returned (.pointer (some ⟨W.heap.size + 2, 0, none⟩)) ∧ w' = ((W.alloc (.cells #[.slice none 0 0] 107)).alloc (.cells #[.slice none 0 0] 85)).alloc (.cells #[.pointer (some ⟨W.heap.size, 0, none⟩), .pointer (some ⟨W.heap.size + 1, 0, none⟩)] 71) := by
 go_enter Tryz.func31, Tryz.ntmps31
 go_wp2
 go_ret
 first | trivial | exact ⟨rfl, rfl⟩ | rfl
theorem start_hd {w1 : World} {hb : Nat} {s : HpS.Sh} (h : HpS.Hd W s hb 0 0 [] [] [] [] (fun _ => False) w1) : ∃ s', Hd W s' hb (w1.heap.size + 2) 0 [] [] [] [] (fun _ => False) (((w1.alloc (.cells #[.slice none 0 0] 107)).alloc (.cells #[.slice none 0 0] 85)).alloc (.cells #[.pointer (some ⟨w1.heap.size, 0, none⟩), .pointer (some ⟨w1.heap.size + 1, 0, none⟩)] 71)) := by
 obtain ⟨w4, hw4⟩ : ∃ y, y = ((w1.alloc (.cells #[.slice none 0 0] 107)).alloc (.cells #[.slice none 0 0] 85)).alloc (.cells #[.pointer (some ⟨w1.heap.size, 0, none⟩), .pointer (some ⟨w1.heap.size + 1, 0, none⟩)] 71) := ⟨_, rfl⟩
 have hb4 : Below w1.heap.size w1 w4 := hw4 ▸ bal (bal (bal (Below.refl _ _) _) _) _
 have hsz : w4.heap.size = w1.heap.size + 3 := by rw [hw4]; simp
 have b0 : w4.heap[w1.heap.size]? = some (.cells #[.slice none 0 0] 107 (0, 0)) := by
  rw [hw4]; exact (Below.heap_alloc _ _ _ (by simp; omega)).trans ((Below.heap_alloc _ _ _ (by simp)).trans (heap_alloc_new w1 _))
 have b1 : w4.heap[w1.heap.size + 1]? = some (.cells #[.slice none 0 0] 85 (0, 0)) := by
  have := heap_alloc_new (w1.alloc (.cells #[.slice none 0 0] 107)) (.cells #[.slice none 0 0] 85)
  rw [World.size_alloc] at this
  rw [hw4]; exact (Below.heap_alloc _ _ _ (by simp)).trans this
 have b2 : w4.heap[w1.heap.size + 2]? = some (.cells #[.pointer (some ⟨w1.heap.size, 0, none⟩), .pointer (some ⟨w1.heap.size + 1, 0, none⟩)] 71 (0, 0)) := by
  have := heap_alloc_new ((w1.alloc (.cells #[.slice none 0 0] 107)).alloc (.cells #[.slice none 0 0] 85)) (.cells #[.pointer (some ⟨w1.heap.size, 0, none⟩), .pointer (some ⟨w1.heap.size + 1, 0, none⟩)] 71)
  rw [World.size_alloc, World.size_alloc] at this
  rw [hw4]; exact this
 rw [← hw4]
 clear hw4
 have hbl := h.below
 have hdb := (h.call hb4).hd
 have hhb := h.c.2.2
 obtain ⟨⟨ps, f, u, hB⟩, hd⟩ := h
 obtain ⟨base, tv, hT⟩ := hB.pr
 have hW := hbl.size
 have hF : ∀ k, foot s.tb s.m ps k → k < w1.heap.size := fun k q => hB.tr.lt q
 have hK : ∀ k, k = hb → ¬ foot s.tb s.m ps k := fun k e => hB.bs k (.inl e)
 refine ⟨⟨s.sb, w1.heap.size, s.tb, s.m, w1.heap.size + 1⟩, ⟨⟨ps, f, .slice none 0 0, hB.tr.call hb4, ⟨b1, World.ownsRow_nil _ _ _ _, (fun e => by cases e), by simp, by simp⟩, by show W.heap.size ≤ w1.heap.size + 1; omega, ⟨base, tv, w1.heap.size + 1, .slice none 0 0, ⟨hT.pk.call hb4, ⟨b0, World.ownsRow_nil _ _ _ _, Nat.lt_succ_self _, by omega, (fun x hx => by cases hx), List.Pairwise.nil, (fun x hx => by cases hx), (fun x hx => by cases hx)⟩, hT.lo, hW, hbl.trans (hb4.mono hW), fun k p q => ?_, fun k q => ?_⟩⟩, fun k q => ?_, fun k q => ?_⟩, hdb, b2⟩⟩
 ·have := foot_ltP hT.pk p
  rcases q with q | q | ⟨x, hx, _⟩
  ·have e : k = w1.heap.size := q
   omega
  ·cases q
  ·cases hx
 ·have hlow : (k < w1.heap.size ∧ ¬ FootP s.sb tv [] k) ∨ (w1.heap.size < k ∧ k < w4.heap.size) := by
   rcases q with q | (q | q) | q | q | q
   ·exact .inl ⟨hF k q, (hT.bs k (.inl q)).2⟩
   ·have e : k = w1.heap.size + 1 := q
    exact .inr (by omega)
   ·cases q
   ·exact .inl ⟨by omega, (hT.bs k (.inr (.inl q))).2⟩
   ·exact .inr (by omega)
   ·exact q.elim
  have hR : ∀ j, FootP w1.heap.size (.slice none 0 0) [] j → j = w1.heap.size := fun j q => by
   rcases q with q | q | ⟨x, hx, _⟩
   ·exact q
   ·cases q
   ·cases hx
  rcases hlow with ⟨q1, q2⟩ | ⟨q1, q2⟩
  ·exact ⟨by omega, q2, fun p => by have := hR k p; omega⟩
  ·exact ⟨q2, fun p => by have := foot_ltP hT.pk p; omega, fun p => by have := hR k p; omega⟩
 ·rcases q with q | q
  ·have e : k = w1.heap.size + 1 := q
   exact fun p => by have := hF k p; omega
  ·cases q
 ·have hRK : ∀ j, RK (w1.heap.size + 1) (.slice none 0 0) j → j = w1.heap.size + 1 := fun j q => by
   rcases q with q | q
   ·exact q
   ·cases q
  rcases q with q | q | q
  ·exact ⟨hK k q, fun p => by have := hRK k p; omega⟩
  ·exact ⟨fun p => by have := hF k p; omega, fun p => by have := hRK k p; omega⟩
  ·exact q.elim
theorem same_nil : SameS [] [] := rfl
theorem start18 (W : World) (hT0 : CX.TabG W) : Calls Tryz.prog 9 #[] W fun e w' => ∃ s hb rhb, e = .returned (.tuple #[.pointer (some ⟨hb, 0, none⟩), .pointer (some ⟨rhb, 0, none⟩)]) ∧ HSt W s hb rhb 3 (fun _ => False) w' := by
 have HT := hid hT0
 have HNW := hid (HpS.hnew W)
 clear hT0
 go_enter Tryz.func9, Tryz.ntmps9
 go_upto_region 4 with (first
  | (go_at_call 28; (with_reducible refine HNW.out.mono ?_); rintro e w1 ⟨hb, s0, rfl, h1⟩; have H1 := hid (start_hd h1); clear h1)
  | (go_at_call 31; refine (rnew w1).mono ?_; rintro e w2 ⟨rfl, hw2⟩; rw [← hw2] at H1; have HW2 := hid hw2; clear hw2))
 obtain ⟨s, h2⟩ := H1.out
 obtain ⟨rhb, hrhb⟩ : ∃ y, y = w1.heap.size + 2 := ⟨_, rfl⟩
 rw [← hrhb] at h2 ⊢
 have H2 : Hid (HSt W s hb rhb 0 (fun _ => False) w2) := hid ⟨[], [], [], h2, inv_nil, same_nil, by decide⟩
 clear h2 hrhb H1 HW2
 go_wp2
 go_loopw [4, 5] (fun k nn wr => ∃ t : Nat, t ≤ 3 ∧ k = .int .i64 ((t : Int) + 1) ∧ Hid (HSt W s hb rhb t (fun _ => False) wr)) (fun k nn _ => 4 - (intOf k).toNat)
 case atStart => exact ⟨0, by omega, rfl, H2⟩
 case round =>
  obtain ⟨t, ht, rfl, HP⟩ := hrel
  by_cases hlt : t < 3
  ·have hle : ((t : Int) + 1 ≤ 3) := by omega
   obtain ⟨k4, hk4⟩ := act_add (by omega) HP.out ((t : Int) + 1) 4
   obtain ⟨k2, hk2⟩ := act_add (by omega) HP.out ((t : Int) + 1) 2
   have HC4 := hid hk4
   have HC2 := hid hk2
   clear hk4 hk2
   by_cases h3 : t = 2
   ·subst h3
    rw [show ((2 : Nat) : Int) + 1 = 3 from rfl] at HC2
    go_wp2_with (first
     | (go_at_call 29; (with_reducible refine HC2.out.mono ?_); rintro e w3 ⟨rfl, -, ⟨r0, r2⟩, h3⟩; have HD := hid h3; clear h3)
     | (go_at_call 32; (with_reducible refine HD.out.mono ?_); rintro e w4 ⟨rfl, h4, -⟩; have H4 := hid h4; clear h4))
    go_roundw
    case rel => exact ⟨3, by omega, rfl, H4⟩
    case measure => first | (simp [intOf]; done) | (simp [intOf]; omega) | decide
   ·have hne : ((t : Int) + 1 == 3) = false := beq_eq_false_iff_ne.2 (by omega)
    go_wp2_with (first
     | (go_at_call 29; (with_reducible refine HC4.out.mono ?_); rintro e w3 ⟨rfl, -, ⟨r0, r2⟩, h3⟩; have HD := hid h3; clear h3)
     | (go_at_call 32; (with_reducible refine HD.out.mono ?_); rintro e w4 ⟨rfl, h4, -⟩; have H4 := hid h4; clear h4))
    go_roundw
    case rel => exact ⟨t + 1, by omega, by go_num, H4⟩
    case measure => first | (simp [intOf]; done) | (simp [intOf]; omega)
  ·obtain rfl : t = 3 := by omega
   go_wp2
   go_ret2
   exact ⟨s, hb, rhb, rfl, HP.out⟩
end HdS
end
end Go.Proofs.YtchjfeafkmpmbaaGreatDoor
