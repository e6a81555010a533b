/- package tlb: Find, Evict and New. -/
import Derived.Test.YtgfidbjhihignaaTlbT
import Derived.Outline
namespace Go.Proofs.Ytgfidbjhihignaa
set_option linter.unusedVariables false
set_option linter.unusedSimpArgs false
open Go.ChangeShapes Go.WideShapes Go.ChangeAt Go.RowKit

abbrev trX (t : TransX) : Value := trV t.s t.p t.f t.r t.w
theorem find_is (w : World) (b o : Nat) (x y : TransX) (due a c : Int) {v : Int × Bool} (hv : findR x y a c = v) (h : setAt w b o x y due) : Calls Try.prog 64 #[.pointer (some ⟨b, o, none⟩), .int .i64 a, .int .i64 c] w fun e w' => e = .returned (.tuple #[.int .i64 v.1, .bool v.2]) ∧ Below w.heap.size w w' :=
  hv ▸ find_any w b o x y due a c h
theorem of_is (w : World) (b k : Nat) (p : Int) (h0 : 0 ≤ p) (h1 : p < 512) (hk : setNo p = k) : Calls Try.prog 63 #[.pointer (some ⟨b, 0, none⟩), .int .i64 p] w fun e w' => e = .returned (.pointer (some ⟨b, 11 * k, none⟩)) ∧ w = w' :=
  hk ▸ of_any w b p h0 h1
set_option maxRecDepth 100000 in
set_option maxHeartbeats 1000000 in
theorem tfind_0 (w : World) (b k : Nat) (S : Nat → TransX × TransX × Int) (a c : Int) (s p f : Int) (r q : Bool) (s' p' f' : Int) (r' q' : Bool) (due : Int) (h : TlbAt w b S) (a0 : 1 ≤ a) (c0 : 0 ≤ c) (c1 : c < 512) (hk : setNo c = k) (hs : S k = (⟨s, p, f, r, q⟩, ⟨s', p', f', r', q'⟩, due)) (hf : findR ⟨s, p, f, r, q⟩ ⟨s', p', f', r', q'⟩ a c = (0, true)) :
    Calls Try.prog 56 #[.pointer (some ⟨b, 0, none⟩), .int .i64 a, .int .i64 c] w fun e w' => e = .returned (.tuple #[trV s p f r q, .bool true]) ∧ Below w.heap.size w w' := by
  have hm : decide (1 ≤ a ∧ 0 ≤ c ∧ c < 512) = true := decide_eq_true ⟨a0, c0, c1⟩
  have hk4 : k < 4 := hk ▸ setNo_lt c0
  have h2 := h.at_ k hk4
  rw [hs] at h2
  have hlt := h.lt
  have H2 := Lib.hid h2
  have HM := Lib.hid hm
  have HF := Lib.hid hf
  have HK := Lib.hid hk
  clear h hm hf hs h2 hk
  go_enter Try.func56, Try.ntmps56
  go_wp2_with (first
    | (go_at_call 62; refine (mayT_any _ _ _).mono ?_; rw [HM.out]; rintro e w1 ⟨rfl, rfl⟩)
    | (go_at_call 63; refine (of_is _ b k c c0 c1 HK.out).mono ?_; rintro e w1 ⟨rfl, rfl⟩)
    | (go_at_call 64; refine (find_is _ b (11 * k) _ _ _ _ _ HF.out (H2.out.call hlt (bal (Below.refl _ _) _))).mono ?_; rintro e w1 ⟨rfl, hb1⟩; have hb2 : Below w.heap.size w w1 := (bgo (bal (Below.refl _ _) _) hb1); obtain ⟨⟨d0, d1, d2, d3, d4⟩, ⟨d5, d6, d7, d8, d9⟩, d10⟩ := H2.out.call hlt hb2; have hs1 : w.heap.size < w1.heap.size := (by have := hb1.size; simp at this; omega); obtain ⟨hc1, hf1⟩ := bcell hb1))
  exact bodyPost_ret (v := .tuple #[trV s p f r q, .bool true]) (by simp [results, Try.results56, go_sem, hc1, hs1]) rfl ⟨rfl, (by repeat (first | with_reducible exact Below.refl _ _ | with_reducible assumption | with_reducible refine below_drewN ?_ _ | with_reducible refine Below.drew ?_ | with_reducible refine bal ?_ _ | refine Below.setCell ?_ (by first | exact Nat.le_refl _ | (simp; done) | (simp; omega)) _))⟩
set_option maxRecDepth 100000 in
set_option maxHeartbeats 1000000 in
theorem tfind_1 (w : World) (b k : Nat) (S : Nat → TransX × TransX × Int) (a c : Int) (s p f : Int) (r q : Bool) (s' p' f' : Int) (r' q' : Bool) (due : Int) (h : TlbAt w b S) (a0 : 1 ≤ a) (c0 : 0 ≤ c) (c1 : c < 512) (hk : setNo c = k) (hs : S k = (⟨s, p, f, r, q⟩, ⟨s', p', f', r', q'⟩, due)) (hf : findR ⟨s, p, f, r, q⟩ ⟨s', p', f', r', q'⟩ a c = (1, true)) :
    Calls Try.prog 56 #[.pointer (some ⟨b, 0, none⟩), .int .i64 a, .int .i64 c] w fun e w' => e = .returned (.tuple #[trV s' p' f' r' q', .bool true]) ∧ Below w.heap.size w w' := by
  have hm : decide (1 ≤ a ∧ 0 ≤ c ∧ c < 512) = true := decide_eq_true ⟨a0, c0, c1⟩
  have hk4 : k < 4 := hk ▸ setNo_lt c0
  have h2 := h.at_ k hk4
  rw [hs] at h2
  have hlt := h.lt
  have H2 := Lib.hid h2
  have HM := Lib.hid hm
  have HF := Lib.hid hf
  have HK := Lib.hid hk
  clear h hm hf hs h2 hk
  go_enter Try.func56, Try.ntmps56
  go_wp2_with (first
    | (go_at_call 62; refine (mayT_any _ _ _).mono ?_; rw [HM.out]; rintro e w1 ⟨rfl, rfl⟩)
    | (go_at_call 63; refine (of_is _ b k c c0 c1 HK.out).mono ?_; rintro e w1 ⟨rfl, rfl⟩)
    | (go_at_call 64; refine (find_is _ b (11 * k) _ _ _ _ _ HF.out (H2.out.call hlt (bal (Below.refl _ _) _))).mono ?_; rintro e w1 ⟨rfl, hb1⟩; have hb2 : Below w.heap.size w w1 := (bgo (bal (Below.refl _ _) _) hb1); obtain ⟨⟨d0, d1, d2, d3, d4⟩, ⟨d5, d6, d7, d8, d9⟩, d10⟩ := H2.out.call hlt hb2; have hs1 : w.heap.size < w1.heap.size := (by have := hb1.size; simp at this; omega); obtain ⟨hc1, hf1⟩ := bcell hb1))
  exact bodyPost_ret (v := .tuple #[trV s' p' f' r' q', .bool true]) (by simp [results, Try.results56, go_sem, hc1, hs1]) rfl ⟨rfl, (by repeat (first | with_reducible exact Below.refl _ _ | with_reducible assumption | with_reducible refine below_drewN ?_ _ | with_reducible refine Below.drew ?_ | with_reducible refine bal ?_ _ | refine Below.setCell ?_ (by first | exact Nat.le_refl _ | (simp; done) | (simp; omega)) _))⟩
set_option maxRecDepth 100000 in
set_option maxHeartbeats 1000000 in
theorem tfind_n (w : World) (b k : Nat) (S : Nat → TransX × TransX × Int) (a c : Int) (s p f : Int) (r q : Bool) (s' p' f' : Int) (r' q' : Bool) (due : Int) (h : TlbAt w b S) (a0 : 1 ≤ a) (c0 : 0 ≤ c) (c1 : c < 512) (hk : setNo c = k) (hs : S k = (⟨s, p, f, r, q⟩, ⟨s', p', f', r', q'⟩, due)) (hf : findR ⟨s, p, f, r, q⟩ ⟨s', p', f', r', q'⟩ a c = (0, false)) :
    Calls Try.prog 56 #[.pointer (some ⟨b, 0, none⟩), .int .i64 a, .int .i64 c] w fun e w' => e = .returned (.tuple #[trV 0 0 0 false false, .bool false]) ∧ Below w.heap.size w w' := by
  have hm : decide (1 ≤ a ∧ 0 ≤ c ∧ c < 512) = true := decide_eq_true ⟨a0, c0, c1⟩
  have hk4 : k < 4 := hk ▸ setNo_lt c0
  have h2 := h.at_ k hk4
  rw [hs] at h2
  have hlt := h.lt
  have H2 := Lib.hid h2
  have HM := Lib.hid hm
  have HF := Lib.hid hf
  have HK := Lib.hid hk
  clear h hm hf hs h2 hk
  go_enter Try.func56, Try.ntmps56
  go_wp2_with (first
    | (go_at_call 62; refine (mayT_any _ _ _).mono ?_; rw [HM.out]; rintro e w1 ⟨rfl, rfl⟩)
    | (go_at_call 63; refine (of_is _ b k c c0 c1 HK.out).mono ?_; rintro e w1 ⟨rfl, rfl⟩)
    | (go_at_call 64; refine (find_is _ b (11 * k) _ _ _ _ _ HF.out (H2.out.call hlt (bal (Below.refl _ _) _))).mono ?_; rintro e w1 ⟨rfl, hb1⟩; have hb2 : Below w.heap.size w w1 := (bgo (bal (Below.refl _ _) _) hb1); obtain ⟨⟨d0, d1, d2, d3, d4⟩, ⟨d5, d6, d7, d8, d9⟩, d10⟩ := H2.out.call hlt hb2; have hs1 : w.heap.size < w1.heap.size := (by have := hb1.size; simp at this; omega); obtain ⟨hc1, hf1⟩ := bcell hb1))
  exact bodyPost_ret (v := .tuple #[trV 0 0 0 false false, .bool false]) (by simp [results, Try.results56, go_sem, hc1, hs1]) rfl ⟨rfl, (by repeat (first | with_reducible exact Below.refl _ _ | with_reducible assumption | with_reducible refine below_drewN ?_ _ | with_reducible refine Below.drew ?_ | with_reducible refine bal ?_ _ | refine Below.setCell ?_ (by first | exact Nat.le_refl _ | (simp; done) | (simp; omega)) _))⟩
end Go.Proofs.Ytgfidbjhihignaa
