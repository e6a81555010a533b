import Derived.Test.YtchjfeafkmpmbaaGreatDoorHe1
import Derived.Deep.QuietTactic
import Derived.BigQuiet
namespace Go.Proofs.YtchjfeafkmpmbaaGreatDoor
set_option linter.unusedVariables false
set_option linter.unusedSimpArgs false
set_option maxRecDepth 100000
set_option maxHeartbeats 8000000
open Lib (hid)
open Go.ChangeShapes Go.WideShapes Go.ChangeAt Go.RowKit Go.Shelf
namespace HdS
open TabS (Cp Sn zC mayC sizS getR getN SameS rowsS heldA hdsC heldL)
variable {W w w' : World} {s : Sh} {hb rhb n n' t : Nat} {L M : List Sn} {l : List Nod}
theorem tree_any (q : Option Addr) (n c : Nat) (D : Nat → A18) (W : World) (hn : n ≤ 100) (hD : Acts18 W q n D) (hT0 : CX.TabG W) :
  Calls Tryz.prog 4 #[.slice q n c] W fun e w' => e = .returned (.bool true) ∧ Below W.heap.size W w' := by
 have HPL := hid (played_any q n c D W hn hD hT0)
 have HT := hid hT0
 have hn' : ¬ (n : Int) > 100 := by omega
 have HN := hid hn
 clear hD hT0 hn
 go_enter Tryz.func4, Tryz.ntmps4
 go_upto_region 6 with (go_at_call 12; (with_reducible refine HPL.out.mono ?_); rintro e w1 ⟨s, hb, rhb, rfl, hS⟩; have HS := hid hS; clear hS)
 obtain ⟨L, M, l, hH, hI, -, hLn⟩ := HS.out
 have hNn := HN.out
 have hlens := hH.lens
 have HSM := hid (hH.hsmall (by omega))
 have HU := hid (hused hH (by omega))
 have HTR : Hid (∀ v, Below w1.heap.size w1 v → Calls Tryz.prog 14 #[.pointer (some ⟨hb, 0, none⟩)] v fun e w' => ∃ x, e = .returned x ∧ w'.ownsRow v.heap.size 44 3 x l.length (nodsC l) ∧ Below v.heap.size v w') := hid (fun v hv => htree (hH.call hv) (by omega))
 have HB1 := hid hH.below
 have HCN := hid hI.count
 have HON : Hid (∀ k x, (heldA L)[k]? = some x → _) := hid (fun k x hk => hI.only hk)
 clear hH hI hLn hlens HS hNn HN
 go_upto_region 7 with (first
  | (go_at_call 13; (with_reducible refine HU.out.mono ?_); rintro e w2 ⟨r, rfl, hrow, hb2⟩; have HR2 := hid hrow; have HB2 := hid hb2; clear hrow hb2)
  | (go_at_call 14; (with_reducible refine (HTR.out _ HB2.out).mono ?_); rintro e w3 ⟨r3, rfl, hrow, hb3⟩; have HR3 := hid hrow; have HB3 := hid hb3; clear hrow hb3))
 obtain ⟨ra, rc, g, rfl, hr⟩ := hd_row HR2.out
 obtain ⟨ta, tc, tg, rfl, hd⟩ := nd_row (nodes_row HR3.out)
 have HHR := hid (hr.call HB3.out)
 have HND := hid hd
 have HB : Hid (Below W.heap.size W w3) := hid (bgo (bgo HB1.out HB2.out) HB3.out)
 clear hr hd HR2 HR3 HTR HU HB1 HB2 HB3 HPL
 have hcn := HCN.out
 have hsm := HSM.out
 rw [hcn] at hsm
 generalize heldA L = H at *
 rw [hcn]
 obtain ⟨N, hN⟩ : ∃ N, N = l.length := ⟨_, rfl⟩
 have HNl := hid hN
 have HNH := hid (hcn.trans hN.symm)
 rw [← hN] at hsm ⊢
 clear hN hcn HSM HCN
 go_wp2
 go_loopw [6] (fun i wr => ∃ k : Nat, k ≤ N ∧ i = .int .i64 k ∧ Hid (Below w3.heap.size w3 wr)) (fun i _ => N - (intOf i).toNat)
 case atStart => exact ⟨0, by omega, rfl, hid (Below.refl _ _)⟩
 case round =>
  obtain ⟨k, hk, rfl, HBr⟩ := hrel
  by_cases hlt : k < N
  ·have hltI : (k : Int) < N := by omega
   obtain ⟨x, hx⟩ : ∃ x, H[k]? = some x := ⟨H[k]'(by have := HNH.out; omega), List.getElem?_eq_getElem _⟩
   obtain ⟨p, hp, hpo, hmay, ha, he⟩ := HON.out k x hx
   rw [← HNl.out] at hp
   obtain ⟨rfl, -, -⟩ := HHR.out.at_ k x hx
   have HX : Hid (∀ v, Below w3.heap.size w3 v → v.rangeAt g (k * 10) x.L) := hid (fun v hv => ((HHR.out.call hv).at_ k x hx).2.2)
   have HPO := hid hpo
   have HME := hid (And.intro hmay (And.intro ha he))
   have HPL := hid hp
   obtain ⟨xn, xi, xc⟩ := x
   simp only [] at HX HPO HME
   clear hx hpo hmay ha he hp
   go_wp2
   go_loopw [7, 8] (fun nn kk wi => ∃ j m : Nat, j ≤ N ∧ kk = .int .i64 j ∧ nn = .int .i64 m ∧ m = (if p < j then 1 else 0) ∧ Hid (Below w3.heap.size w3 wi)) (fun nn kk _ => N - (intOf kk).toNat)
   case atStart => exact ⟨0, 0, by omega, rfl, rfl, by simp, HBr⟩
   case round =>
    obtain ⟨j, m, hj, rfl, rfl, hm, HBi⟩ := hrel
    by_cases hjl : j < N
    ·have hjI : (j : Int) < N := by omega
     obtain ⟨z, hz⟩ : ∃ z, l[j]? = some z := ⟨l[j]'(by have := HNl.out; omega), List.getElem?_eq_getElem _⟩
     obtain ⟨rfl, -, z0, z1⟩ := (HND.out.call HBi.out).at_ j z hz
     have hrow := HX.out wr HBi.out
     have x0 := hrow 0 _ rfl
     rw [Nat.add_zero] at x0
     have x1 := hrow 1 _ rfl
     simp only [] at x0 x1
     have hjp := HPO.out j z hz
     obtain ⟨zo, zi, zd⟩ := z
     simp only [] at z0 z1 hjp
     clear hrow hz
     by_cases e : j = p
     ·subst e
      obtain ⟨rfl, rfl⟩ := hjp.2 rfl
      have hes : ∀ v, (binOp .eql 30 (slV zo (xi : Int)) (slV zo (xi : Int))).run Tryz.prog v = .ok (.bool true) v := fun v => by rw [eqS]; simp
      have hm0 : m = 0 := by simpa using hm
      subst hm0
      clear hjp hm
      go_wp2
      go_quiet (fail)
      go_wp2
      go_roundw
      case rel => exact ⟨j + 1, 1, by omega, by go_num, by go_num, by simp, hid (below_drewN HBi.out _)⟩
      case measure => first | (simp [intOf]; done) | (simp [intOf]; omega)
     ·have hne : ¬ (zo = xn ∧ zi = (xi : Int)) := fun q => e (hjp.1 q)
      have hes : ∀ v, (binOp .eql 30 (slV zo zi) (slV xn (xi : Int))).run Tryz.prog v = .ok (.bool false) v := fun v => by rw [eqS, decide_eq_false hne]
      have HM : Hid (m = (if p < j + 1 then 1 else 0)) := hid (by rw [hm]; split <;> split <;> omega)
      clear hjp hm hne e
      go_wp2
      go_quiet (fail)
      go_wp2
      go_roundw
      case rel => exact ⟨j + 1, m, by omega, by go_num, rfl, HM.out, hid (below_drewN HBi.out _)⟩
      case measure => first | (simp [intOf]; done) | (simp [intOf]; omega)
    ·obtain rfl : j = N := by omega
     have hm1 : m = 1 := by rw [hm, if_pos HPL.out]
     subst hm1
     have hrow := HX.out wr HBi.out
     have c0 := hrow 2 _ rfl
     have c1 := hrow 3 _ rfl
     have c2 := hrow 4 _ rfl
     have c3 := hrow 5 _ rfl
     have c4 := hrow 6 _ rfl
     have c5 := hrow 7 _ rfl
     have c6 := hrow 8 _ rfl
     have c7 := hrow 9 _ rfl
     simp only [] at c0 c1 c2 c3 c4 c5 c6 c7
     have hmay := CX.capMay xc.a xc.b xc.c xc.d xc.e xc.f xc.g xc.h wr (HT.out.call (bgo HB.out HBi.out)) HME.out.2.2
     rw [show CX.capB xc.a xc.b xc.c xc.d xc.e xc.f xc.g xc.h = true from HME.out.1] at hmay
     have HMY := hid hmay
     have ha0 : (xc.a == 0) = false := beq_eq_false_iff_ne.2 HME.out.2.1
     clear hrow hm hmay
     go_wp2_with (go_at_call 15; (with_reducible refine HMY.out.mono ?_); rintro e w5 ⟨rfl, hb5⟩; have HB5 := hid (bgo HBi.out hb5); clear c0 c1 c2 c3 c4 c5 c6 c7 hb5; have c0 := HX.out _ HB5.out 2 _ rfl; simp only [] at c0)
     go_roundw
     case rel => exact ⟨k + 1, by omega, by go_num, HB5⟩
     case measure => first | (simp [intOf]; done) | (simp [intOf]; omega)
  ·obtain rfl : k = N := by omega
   have HAW := hid (HpS.awake18 wr (HT.out.call (bgo HB.out HBr.out)))
   go_wp2_with (go_at_call 8; (with_reducible refine HAW.out.mono ?_); rintro e w6 ⟨rfl, hb6⟩)
   go_ret
   exact ⟨rfl, bgo (bgo HB.out HBr.out) hb6⟩
end HdS
theorem walk_holdTree {W : World} (q : Option Addr) (n c : Nat) (hx : n ≤ c ∧ c ≤ maxLen ∧ ∃ D, HdS.Acts18 W q n D) (hL : LaidV_laid_math_bits_deBruijn64tab W) :
  Calls Tryz.prog 4 #[.slice q n c] W fun e w' => e = .returned (.bool true) ∧ Below W.heap.size W w' := by
 obtain ⟨h1, h2, D, hD⟩ := hx
 unfold maxLen at h2
 by_cases hn : n ≤ 100
 ·exact HdS.tree_any q n c D W hn hD hL
 ·have hn' : (n : Int) > 100 := by omega
  clear hD
  have HAW := hid (HpS.awake18 W hL)
  go_enter Tryz.func4, Tryz.ntmps4
  go_wp2_with (go_at_call 8; (with_reducible refine HAW.out.mono ?_); rintro e w3 ⟨rfl, hb3⟩)
  go_ret
  exact ⟨rfl, hb3⟩
end Go.Proofs.YtchjfeafkmpmbaaGreatDoor
