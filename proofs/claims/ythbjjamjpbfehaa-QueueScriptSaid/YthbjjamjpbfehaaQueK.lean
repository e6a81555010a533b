/- package queue: Back. -/
import Derived.Test.YthbjjamjpbfehaaQueD
namespace Go.Proofs.Ythbjjamjpbfehaa
set_option linter.unusedVariables false
set_option linter.unusedSimpArgs false
open Go.ChangeShapes Go.WideShapes Go.ChangeAt Go.RowKit Go.Shelf
open Go.Maps (Keyed IsMap int_keyed keyOf_int_mk)

set_option maxRecDepth 100000 in
set_option maxHeartbeats 1000000 in
theorem back_yes (w : World) (B b mb n : Nat) (vs : Nat → Value) (L : Nat → List Int) (f : Int → Option Int) (x : Int) (p : Nat) (l1 l2 : List Int) (hx : InI x) (h1 : 1 ≤ x) (hp : p < 8) (hn : n < 1000000) (hf : f x = some (p : Int)) (hL : L p = l1 ++ x :: l2) (hx1 : ∀ y ∈ l1, y ≠ x) (h : QueAt w B b mb n vs L f) :
    Calls Try.prog 14 #[.pointer (some ⟨b, 0, none⟩), .int .i64 x] w fun e w' => e = .returned (.bool true) ∧ ∃ vs', QueAt w' B b mb (n + 1) vs' (lput (lput L p (l1 ++ l2)) p (lput L p (l1 ++ l2) p ++ [x])) (fput (fdel f x) x p) ∧ QOnly w w' b mb vs vs' := by
  have hk : keyOf Try.prog 3 (.int .i64 x) = some (KI x) := keyOf_int_mk Try.underlying3 (wf_in hx)
  obtain ⟨D, hoD, hfD⟩ := h.map
  have hat0 := (hfD x hx).2
  rw [hf] at hat0
  have hm := h.mcell
  have HH := Lib.hid h
  have HO := Lib.hid hoD
  have HK := Lib.hid hk
  have HAT := Lib.hid hat0
  have HF := Lib.hid hf
  clear h hk hoD hfD hat0 hf
  go_enter Try.func14, Try.ntmps14
  go_wp2_with (first
    | (go_at_call 19; refine (has_any _ B b mb n vs L f x hx HH.out).mono ?_; rw [HF.out]; rintro e w1 ⟨rfl, rfl⟩)
    | (at_lookup; refine wpList_lookup_own_int _ rfl _ _ 46 rfl 3 3 .i64 lawI Try.underlying46 Try.underlying3 (zeroI _) mb n D rfl HO.out _ _ rfl HK.out ?_; intro c hat hwc; obtain rfl : c = (p : Int) := (by have e := hat.symm.trans HAT.out; injection e with e; injection e))
    | (go_at_call 12; refine (drop_yes _ B b mb n vs L f x p l1 l2 hx hp hn HF.out hL hx1 HH.out).mono ?_; rintro e w2 ⟨rfl, vs2, hq2, ho2⟩; have HQ2 := Lib.hid hq2; have HO2 := Lib.hid ho2; clear hq2 ho2)
    | (go_at_call 10; refine (add_yes _ B b mb n vs2 _ _ x p hx h1 hp hn (by simp [fdel]) HQ2.out).mono ?_; rintro e w3 ⟨rfl, vs3, hq3, ho3⟩; have HQ3 := Lib.hid hq3; have HO3 := Lib.hid ho3; clear hq3 ho3))
  go_ret
  exact ⟨rfl, vs3, HQ3.out, HO2.out.trans HO3.out⟩
end Go.Proofs.Ythbjjamjpbfehaa
