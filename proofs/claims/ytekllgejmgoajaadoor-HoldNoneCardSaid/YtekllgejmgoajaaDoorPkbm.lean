import Derived.Test.YtekllgejmgoajaaDoorPkbl
import Derived.RangeFuncNested
import Derived.RangeFuncBound
import Derived.RangeFuncCalls
import Derived.RangeFuncLeaves
import Derived.RangeFuncFrom
import Derived.RangeFuncWrites
import Derived.RangeFuncBox
import Derived.OwnWalkIn
import Derived.TacticsInMore
import Derived.LoopNIn
import Derived.LoopIn
import Derived.Stop.RegionWithIn
namespace Go.Proofs.YtekllgejmgoajaaDoor
set_option linter.unusedVariables false
set_option linter.unusedSimpArgs false
set_option maxRecDepth 100000
set_option maxHeartbeats 8000000
open Lib (hid)
section
open Go.ChangeShapes Go.WideShapes Go.ChangeAt Go.RowKit Go.Shelf
namespace HpS
open TabS (Cp Sn zC mayC sizS getR getN FootP foot_ltP SameS AddRel addSR setN setM rowsS hasS dropSR dropSL heldA hdsC insS)
open TabP (Two Pr)
variable {W w w' : World} {s : Sh} {hb rhb n n' : Nat} {L M L' M' : List Sn} {l l2 l' l2' : List Nod} {S : Nat → Prop}
theorem tree_base {W : World} {B B' b m n : Nat} {ps : List Nat} {l : List Nod} {f : Int → Int → Option Nat} (h : TreeAt W B b m n ps l f) (hB : B' ≤ B) : TreeAt W B' b m n ps l f :=
 ⟨h.len, h.le, h.head, h.row, h.inj, Nat.le_trans hB h.gb, Nat.le_trans hB h.gm, fun k p hp => Nat.le_trans hB (h.gp k p hp), h.slots, h.ins, h.map, h.finds⟩
theorem hnew (W : World) : Calls Tryd.prog 42 #[] W fun e w' => ∃ hb s, e = .returned (.pointer (some ⟨hb, 0, none⟩)) ∧ Hd W s hb 0 0 [] [] [] [] (fun _ => False) w' := by
 go_enter Tryd.func42, Tryd.ntmps42
 go_wp2_with (first
  | (go_at_call 61; refine (TabS.snew_any' _).mono ?_; rintro e w1 ⟨rfl, ha1, hb1⟩; have HA := hid ha1; have HB := hid hb1; clear ha1 hb1)
  | (go_at_call 62; refine (new_st _).mono ?_; rintro e w2 ⟨rfl, hS⟩; have HS := hid hS; clear hS))
 go_ret
 have hs2 : Below w1.heap.size w1 w2 := HS.out.below
 obtain ⟨ps, f, hT, -⟩ := HS.out
 have hal : Below w2.heap.size w2 (w2.alloc (.cells #[.pointer (some ⟨W.heap.size, 0, none⟩), .pointer (some ⟨w1.heap.size + 1, 0, none⟩)] 53)) := bal (Below.refl _ _) _
 have hz := HA.out.lt
 have hBW := HB.out
 have hT3 := (tree_base hT hBW.size).call hal
 have hA3 := (HA.out.call hs2).call hal
 have hW3 : Below W.heap.size W (w2.alloc (.cells #[.pointer (some ⟨W.heap.size, 0, none⟩), .pointer (some ⟨w1.heap.size + 1, 0, none⟩)] 53)) := hBW.trans ((hs2.trans (hal.mono hs2.size)).mono hBW.size)
 have hps : ps = [] := List.length_eq_zero_iff.1 hT.len
 subst hps
 have hf : ∀ k, foot (w1.heap.size + 1) w1.heap.size [] k → w1.heap.size ≤ k ∧ k < w2.heap.size := fun k q => by
  refine ⟨?_, hT.lt q⟩
  rcases q with rfl | rfl | ⟨j, hj⟩
  ·omega
  ·omega
  ·simp at hj
 refine ⟨w2.heap.size, ⟨W.heap.size, 0, w1.heap.size + 1, w1.heap.size, 0⟩, rfl, ⟨⟨[], f, .slice none 0 0, hT3, ⟨_, _, hA3, Nat.le_refl _, hW3, fun k q => ?_⟩, fun k q p => ?_⟩, heap_alloc_new w2 _⟩⟩
 ·have hk : w1.heap.size ≤ k ∧ k < w2.heap.size + 1 := by
   rcases q with q | q | q
   ·have := hf k q; omega
   ·have := hs2.size; omega
   ·exact q.elim
  refine ⟨by simpa using hk.2, fun p => ?_⟩
  rcases p with p | p | ⟨x, hx, _⟩
  ·have e : k = W.heap.size := p
   omega
  ·cases p
  ·cases hx
 ·rcases q with q | q
  ·have := hf k p; omega
  ·exact q.elim
def cE : Cp := ⟨8, 3, 7, 0, 0, 0, 0, 0⟩
def cF : Cp := ⟨8, 3, 1, 0, 0, 0, 0, 0⟩
def A1 (g : Nat) : List Sn := [⟨7, g, [zC, zC, zC, zC]⟩]
def A2 (g : Nat) : List Sn := [⟨7, g, [cE, zC, zC, zC]⟩]
def A3 (g : Nat) : List Sn := [⟨7, g, [cE, cF, zC, zC]⟩]
theorem a_add {L' : List Sn} (h : AddRel [] 7 4 L') : ∃ g, L' = A1 g := by
 rcases h with ⟨_, g, rfl⟩ | ⟨h, _⟩
 ·exact ⟨g, rfl⟩
 ·exact (h (by decide +kernel)).elim
theorem may_E : mayC cE = true := by decide +kernel
theorem may_F : mayC cF = true := by decide +kernel
theorem cpy_E : cpy cE 1 = (cF, 0) := by kernel_rfl
theorem root_E (g : Nat) : rootOn (A1 g) 7 0 cE := ⟨rfl, by unfold someB; rw [may_E]; rfl, rfl⟩
theorem set_E (g : Nat) : setM (A1 g) 7 0 cE = A2 g := by
 have h : setN (A1 g) 7 0 cE = 0 := by
  have e : getR (A1 g) 7 0 = some zC := rfl
  unfold setN
  rw [e]
  simp [may_E]
 unfold setM
 rw [if_pos h]
 rfl
theorem set_F (g : Nat) : setM (A2 g) 7 1 cF = A3 g := by
 have h : setN (A2 g) 7 1 cF = 0 := by
  have e : getR (A2 g) 7 1 = some zC := rfl
  unfold setN
  rw [e]
  simp [may_F]
 unfold setM
 rw [if_pos h]
 rfl
theorem pair_E (g : Nat) : pairN (A2 g) 7 0 7 1 = 0 := rfl
theorem ch_E (g : Nat) : chB (A2 g) 7 0 7 1 cF = true := by
 unfold chB someB
 rw [pair_E, may_F]
 rfl
theorem der_N (g : Nat) : derN (A2 g) [⟨7, 0, 0⟩] 7 0 7 1 (cF, 0) = 0 := by
 unfold derN childN
 rw [pair_E]
 have : someB cF = true := by unfold someB; rw [may_F]; rfl
 rw [this]
 rfl
theorem der_L (g : Nat) : derL (A2 g) 7 0 7 1 (cF, 0) = A3 g := by
 unfold derL chL
 rw [pair_E, if_pos ⟨rfl, rfl⟩, ch_E, if_pos rfl, set_F]
theorem der_T (g : Nat) : derT (A2 g) [⟨7, 0, 0⟩] 7 0 7 1 (cF, 0) = [⟨7, 0, 0⟩, ⟨7, 1, 1⟩] := by
 unfold derT chT
 rw [pair_E, if_pos ⟨rfl, rfl⟩, ch_E, if_pos rfl]
 rfl
theorem same_EF : sameC cF cE = true := by decide +kernel
theorem fin_E (g : Nat) : finB (A3 g) 7 0 = false := by
 have h1 : gt (A3 g) 7 0 = cE := rfl
 have h2 : heldA (A3 g) = [⟨7, 0, cE⟩, ⟨7, 1, cF⟩] := rfl
 unfold finB
 rw [h1, h2]
 have : onlyB [⟨7, 0, cE⟩, ⟨7, 1, cF⟩] 7 0 cE = false := by
  unfold onlyB
  rw [List.all_eq_false]
  refine ⟨⟨1, by decide⟩, List.mem_finRange _, ?_⟩
  have e : likeP cE [⟨7, 0, cE⟩, ⟨7, 1, cF⟩] 1 = true := same_EF
  rw [e]
  decide
 rw [this, Bool.and_false]
theorem in7 : InS 7 ∧ InS 0 ∧ InS 1 := ⟨⟨by decide, by decide⟩, ⟨by decide, by decide⟩, ⟨by decide, by decide⟩⟩
end HpS
end
section
open Go.ChangeShapes Go.WideShapes Go.ChangeAt Go.RowKit Go.Shelf
namespace HpS
open TabS (Cp Sn zC mayC sizS getR getN FootP foot_ltP SameS AddRel addSR setN setM rowsS hasS dropSR dropSL heldA hdsC insS)
open TabP (Two Pr)
theorem slots_one (W : World) (a b : Int) : SlotsAt (W.alloc (.cells #[.int .i64 a, .int .i64 b] 23)) (.slice (some ⟨W.heap.size, 0, none⟩) 1 1) [⟨a, b, 0⟩] := by
 have hb := World.alloc_heap_new W (.cells #[.int .i64 a, .int .i64 b] 23)
 refine .inr ⟨W.heap.size, 1, rfl, by simp, fun k x hx => ?_⟩
 match k, hx with
 | 0, hx => cases hx; refine ⟨?_, ?_⟩ <;> (unfold World.cell?; simp only [hb]; rfl)
 | k + 1, hx => simp at hx
theorem same_slots_one {w : World} {u v : Value} (hu : SlotsAt w u [⟨7, 1, 1⟩]) (hv : SlotsAt w v [⟨7, 1, 0⟩]) : Calls Tryd.prog 43 #[u, v] w fun e w' => e = .returned (.bool true) ∧ Below w.heap.size w w' := by
 refine (same_slots w u v _ _ hu hv (by decide) (by decide)).mono ?_
 rintro e w' ⟨rfl, j, rfl⟩
 exact ⟨rfl, below_drewN (Below.refl _ _) _⟩
theorem awake18 (W : World) (hT : CX.TabG W) : Calls Tryd.prog 20 #[] W fun e w' => e = .returned (.bool true) ∧ Below W.heap.size W w' := by
 have HT := hid hT
 have HNW := hid (hnew W)
 clear hT
 go_enter Tryd.func20, Tryd.ntmps20
 go_upto_region 2 with (go_at_call 42; (with_reducible refine HNW.out.mono ?_); rintro e w1 ⟨hb, s, rfl, h1⟩; have H1 := hid h1; clear h1)
 have HC1 := hid (hadd H1.out (by decide) 7 4)
 rw [show addSR [] 7 4 = 0 by decide +kernel] at HC1
 have HRT : Hid (∀ v g, Hd W s hb 0 0 (A1 g) [] [] [] (fun _ => False) v → Calls Tryd.prog 6 #[.pointer (some ⟨hb, 0, none⟩), .agg #[.int .i64 7, .int .i64 0], .agg #[.int .i64 8, .int .i64 3, .int .i64 7, .int .u64 0, .int .i64 0, .int .i64 0, .int .i64 0, .int .i64 0]] v fun e w' => e = .returned (.int .i64 0) ∧ Hd W s hb 0 1 (A2 g) [] [⟨7, 0, 0⟩] [] (fun _ => False) w') := hid (fun v g hv => by
  refine (hroot_yes hv HT.out 7 0 in7.1 in7.2.1 cE (by decide) (by decide) (root_E g)).mono ?_
  rintro e w' ⟨rfl, h2, -⟩
  rw [set_E] at h2
  exact ⟨rfl, h2⟩)
 have HCP : Hid (∀ v g, Hd W s hb 0 1 (A2 g) [] [⟨7, 0, 0⟩] [] (fun _ => False) v → Calls Tryd.prog 9 #[.pointer (some ⟨hb, 0, none⟩), .agg #[.int .i64 7, .int .i64 0], .agg #[.int .i64 7, .int .i64 1], .int .i64 1] v fun e w' => e = .returned (.int .i64 0) ∧ Hd W s hb 0 2 (A3 g) [] [⟨7, 0, 0⟩, ⟨7, 1, 1⟩] [] (fun _ => False) w') := hid (fun v g hv => by
  have hg : gt (A2 g) 7 0 = cE := rfl
  have := hcopy hv HT.out 7 0 7 1 in7.1 in7.2.1 in7.1 in7.2.2 1 (by rw [hg]; decide) (by rw [hg, cpy_E]; decide) (by decide)
  rw [hg, cpy_E, der_N, der_L, der_T] at this
  refine this.mono ?_
  rintro e w' ⟨rfl, h2, -⟩
  exact ⟨rfl, h2⟩)
 have HGT : Hid (∀ v g, Hd W s hb 0 2 (A3 g) [] [⟨7, 0, 0⟩, ⟨7, 1, 1⟩] [] (fun _ => False) v → Calls Tryd.prog 4 #[.pointer (some ⟨hb, 0, none⟩), .agg #[.int .i64 7, .int .i64 1]] v fun e w' => e = .returned (.tuple #[.agg #[.int .i64 8, .int .i64 3, .int .i64 1, .int .u64 0, .int .i64 0, .int .i64 0, .int .i64 0, .int .i64 0], .int .i64 0]) ∧ Below v.heap.size v w') := hid (fun v g hv => hget hv 7 1)
 have HFN : Hid (∀ v g, Hd W s hb 0 2 (A3 g) [] [⟨7, 0, 0⟩, ⟨7, 1, 1⟩] [] (fun _ => False) v → Calls Tryd.prog 15 #[.pointer (some ⟨hb, 0, none⟩), .agg #[.int .i64 7, .int .i64 0]] v fun e w' => e = .returned (.bool false) ∧ Below v.heap.size v w') := hid (fun v g hv => by
  have := hfinal hv HT.out 7 0 (by show cE.e ≤ _; decide) (fun k => by
   show (TabS.hdAt [⟨7, 0, cE⟩, ⟨7, 1, cF⟩] k).c.e ≤ _
   match k with
   | 0 => decide
   | 1 => decide
   | k + 2 => exact (by decide : (0 : Int) ≤ 9223372036854775807)) (show 1 < 1000000 by decide) (show 2 < 1000000 by decide)
  rw [fin_E] at this
  exact this)
 have HUN : Hid (∀ v g, Hd W s hb 0 2 (A3 g) [] [⟨7, 0, 0⟩, ⟨7, 1, 1⟩] [] (fun _ => False) v → Calls Tryd.prog 16 #[.pointer (some ⟨hb, 0, none⟩), .agg #[.int .i64 7, .int .i64 0]] v fun e w' => ∃ u, e = .returned u ∧ SlotsAt w' u [⟨7, 1, 1⟩] ∧ Below v.heap.size v w') := hid (fun v g hv => by
  refine (hunder hv 7 0 in7.1 in7.2.1 (by decide)).mono ?_
  rintro e w' ⟨u, rfl, h1, h2⟩
  exact ⟨u, rfl, slots_row h1, h2⟩)
 clear HNW
 go_upto_region 4 with (first
  | (go_at_call 13; (with_reducible refine HC1.out.mono ?_); rintro e w2 ⟨rfl, L', hr, h2, -⟩; obtain ⟨g, rfl⟩ := a_add hr; have HC2 := hid (HRT.out w2 g h2); clear hr h2)
  | (go_at_call 6; (with_reducible refine HC2.out.mono ?_); rintro e w3 ⟨rfl, h3⟩; have HC3 := hid (HCP.out w3 g h3); clear h3))
 go_upto_region 5 with (go_at_call 9; (with_reducible refine HC3.out.mono ?_); rintro e w4 ⟨rfl, h4⟩; have H4 := hid h4; have HC4 := hid (HGT.out w4 g h4); clear h4)
 go_upto_region 6 with (go_at_call 4; (with_reducible refine HC4.out.mono ?_); rintro e w5 ⟨rfl, hb5⟩; have HB5 := hid hb5; clear hb5)
 obtain ⟨w6, hw6⟩ : ∃ y, y = w5.alloc (.cells #[.int .i64 8, .int .i64 3, .int .i64 1, .int .u64 0, .int .i64 0, .int .i64 0, .int .i64 0, .int .i64 0] 26) := ⟨_, rfl⟩
 have hb6 : Below w4.heap.size w4 w6 := hw6 ▸ bal HB5.out _
 have hx6 : w6.heap[w5.heap.size]? = some (.cells (⟨8, 3, 1, 0, 0, 0, 0, 0⟩ : Cp).L.toArray 26 (0, 0)) := by rw [hw6]; exact heap_alloc_new w5 _
 have H6 := hid (H4.out.call hb6)
 have HF6 := hid (HFN.out w6 g H6.out)
 obtain ⟨-, -, x2, -⟩ := cap_cells hx6
 simp only [] at x2
 rw [← hw6]
 generalize w5.heap.size = xB at *
 clear hw6 hb6 hx6 HC4 HC3 HC2 HC1 HGT HCP HRT
 go_wp2_with (first
  | (go_at_call 15; (with_reducible refine HF6.out.mono ?_); rintro e w7 ⟨rfl, hb7⟩; have H7 := hid (H6.out.call hb7); have HU7 := hid (HUN.out w7 g H7.out); clear hb7)
  | (go_at_call 16; (with_reducible refine HU7.out.mono ?_); rintro e w8 ⟨u, rfl, hu, hb8⟩; have H8 := hid (H7.out.call hb8); have HU8 := hid hu; clear hu hb8)
  | (go_at_call 43; refine (same_slots_one (HU8.out.call (bal (Below.refl _ _) _)) (slots_one w8 7 1)).mono ?_; rintro e w9 ⟨rfl, hb9⟩; have HB9 := hid ((bal (Below.refl w8.heap.size w8) _).trans (hb9.mono (bal (Below.refl w8.heap.size w8) _).size)); clear hb9))
 go_ret
 exact ⟨rfl, (H8.out.call HB9.out).below⟩
end HpS
end
section
namespace SX
open Go.ChangeShapes Go.WideShapes Go.ChangeAt Go.RowKit Go.Shelf
attribute [local go_sem] Oper.semAt_some
def KpH (cb nb m : Nat) (W W' : World) : Prop := W'.heap[cb]? = W.heap[cb]? ∧ W'.heap[nb]? = W.heap[nb]? ∧ W'.heap[m]? = W.heap[m]? ∧ W.heap.size ≤ W'.heap.size
abbrev heldV : Value := .agg #[.int .i64 7, .int .i64 1, .int .i64 8, .int .i64 3, .int .i64 7, .int .u64 0, .int .i64 0, .int .i64 0, .int .i64 0, .int .i64 0]
abbrev encH (x : Fin 1) : Array Value := #[heldV]
theorem two_ways {A B C : World → Prop} {e : Ending} {W : World} (h : (e = .returned (.bool true) ∧ A W ∧ B W) ∨ (e = .returned (.bool false) ∧ C W)) : ∃ t, e = .returned (.bool t) ∧ (t = true → A W ∧ B W) ∧ (t = false → C W) := by
 rcases h with ⟨h1, h2⟩ | ⟨h1, h2⟩
 ·exact ⟨true, h1, fun _ => h2, fun e => (by cases e)⟩
 ·exact ⟨false, h1, fun e => (by cases e), fun _ => h2⟩
theorem held_in (n : Nat) (m : Nat) (w : World) :
  CallsIn Fence.wide n Tryd.prog 57 #[.int .i64 7, sl2 m] w fun e w' => e = .returned (.func (.func 72) #[] #[.pointer (some ⟨w.heap.size + 1, 0, none⟩), .pointer (some ⟨w.heap.size, 0, none⟩)]) ∧ w' = (w.alloc (.cells #[.int .i64 7] 3)).alloc (.cells #[sl2 m] 92) := by
 refine callsIn_of_wp Tryd.func57 rfl trivial ?_ rfl
 simp only [Tryd.ntmps57, List.size_toArray, List.length_cons, List.length_nil, Nat.reduceAdd, Nat.reduceSub, Array.replicate_succ, Array.replicate_zero, List.push_toArray, List.append_toArray, List.nil_append, List.cons_append]
 gi_wp2
 go_ret
 exact ⟨rfl, rfl⟩
end SX
end
section
namespace SX
open Go.ChangeShapes Go.WideShapes Go.ChangeAt Go.RowKit Go.Shelf
attribute [local go_sem] Oper.semAt_some
structure DrAt (w : World) (N : Nat) (pre : List (Fin 1)) (W : World) : Prop where
 no : pre = []
 r0 : W.cell? ⟨w.heap.size, 0, none⟩ = some (.int .i64 0) ∧ W.frozen? ⟨w.heap.size, 0, none⟩ = false
 rlt : w.heap.size < N
 lt : N ≤ W.heap.size
 below : Below w.heap.size w W
structure DrIx (w : World) (N : Nat) (c : Code) (pre : List (Fin 1)) (W : World) : Prop where
 c : c = .ret
 r0 : W.cell? ⟨w.heap.size, 0, none⟩ = some (.int .i64 16)
 rlt : w.heap.size < N
 lt : N ≤ W.heap.size
 below : Below w.heap.size w W
end SX
end
end Go.Proofs.YtekllgejmgoajaaDoor
