/- cap.Encode of one that may not be; the chapter's own words and Encode. -/
import Derived.Test.YtoepbcaldlgnjaaDoorCapF
namespace Go.Proofs.YtoepbcaldlgnjaaDoor
set_option linter.unusedVariables false
set_option linter.unusedSimpArgs false
open Go.ChangeShapes Go.WideShapes Go.ChangeAt Go.RowKit Go.Shelf

theorem encode_no (a b c d e f g h : Int) (w : World) (hT : TabG w) (he : e ≤ 9223372036854775807) (hx : capB a b c d e f g h = false) :
    Calls Tryd.prog 7 #[capV a b c d e f g h] w fun r w' => r = .returned (.tuple #[.slice none 0 0, .int .i64 5]) ∧ Below w.heap.size w w' := by
  have HX := Lib.hid hx
  have HT := Lib.hid hT
  clear hx hT
  go_enter Tryd.func7, Tryd.ntmps7
  go_wp2_with (first
    | (go_at_call 11; refine (capMay a b c d e f g h _ (HT.out.call (bal (Below.refl _ _) _)) (by omega)).mono ?_; rw [HX.out]; rintro r w1 ⟨rfl, hb1⟩))
  refine bodyPost_ret (v := .tuple #[.slice none 0 0, .int .i64 5]) (by simp [results, Tryd.results7, go_sem]) rfl ⟨rfl, bgo (bal (Below.refl _ _) _) hb1⟩
theorem words_any (a b c d e f g h : Int) (w : World) (hd : 0 ≤ d) (hx : capB a b c d e f g h = true) :
    Calls Tryd.prog 22 #[capV a b c d e f g h] w fun r w' => ∃ G : Nat, r = .returned (.slice (some ⟨G, 0, none⟩) 2 2) ∧ w.heap.size ≤ G ∧ w'.heap[G]? = some (.cells #[.int .u64 (encA a b c g h), .int .u64 (encB d e f)] 22 (0, 0)) ∧ Below w.heap.size w w' := by
  obtain ⟨⟨a0, a1⟩, ⟨c0, c1⟩, ⟨b0, b1⟩, ⟨h0, h1⟩, ⟨g0, g1⟩, ⟨d0, d1⟩, ⟨e0, e1⟩, ⟨f0, f1⟩⟩ := cap_bounds hd hx
  clear hx
  go_enter Tryd.func22, Tryd.ntmps22
  have e1 : encA a b c g h = a + 16 * c + 256 * b + 16777216 * h + 1099511627776 * g := by unfold encA; omega
  have e2 : encB d e f = d + 16777216 * e + 68719476736 * f := by unfold encB; omega
  rw [e1, e2]
  go_wp2
  go_ret
  refine ⟨_, rfl, by omega, ?_, bal (bal (Below.refl _ _) _) _⟩
  have := World.alloc_heap_new (w.alloc (.cells #[.int .i64 a, .int .i64 b, .int .i64 c, .int .u64 d, .int .i64 e, .int .i64 f, .int .i64 g, .int .i64 h] 24)) (.cells #[.int .u64 (a + 16 * c + 256 * b + 16777216 * h + 1099511627776 * g), .int .u64 (d + 16777216 * e + 68719476736 * f)] 22)
  rwa [World.size_alloc] at this
theorem refenc_yes (a b c d e f g h : Int) (w : World) (hd : 0 ≤ d) (hx : capB a b c d e f g h = true) :
    Calls Tryd.prog 8 #[capV a b c d e f g h] w fun r w' => ∃ G : Nat, r = .returned (.tuple #[.slice (some ⟨G, 0, none⟩) 2 2, .int .i64 0]) ∧ w.heap.size ≤ G ∧ w'.heap[G]? = some (.cells #[.int .u64 (encA a b c g h), .int .u64 (encB d e f)] 22 (0, 0)) ∧ Below w.heap.size w w' := by
  have HX := Lib.hid hx
  clear hx
  go_enter Tryd.func8, Tryd.ntmps8
  go_wp2_with (first
    | (go_at_call 12; refine (refMay13 a b c d e f g h _).mono ?_; rw [HX.out]; rintro r w1 ⟨rfl, hb1⟩; obtain ⟨hc1, hf1⟩ := bcell hb1; have hz : w.heap.size < w1.heap.size := (by have := hb1.size; simp at this; omega))
    | (go_at_call 22; refine (words_any a b c d e f g h _ hd HX.out).mono ?_; rintro r w2 ⟨G, rfl, hG, hc, hb2⟩))
  refine bodyPost_ret (v := .tuple #[.slice (some ⟨G, 0, none⟩) 2 2, .int .i64 0]) (by simp [results, Tryd.results8, go_sem]) rfl ⟨G, rfl, by omega, hc, bgo (bgo (bal (Below.refl _ _) _) hb1) hb2⟩
theorem refenc_no (a b c d e f g h : Int) (w : World) (hx : capB a b c d e f g h = false) :
    Calls Tryd.prog 8 #[capV a b c d e f g h] w fun r w' => r = .returned (.tuple #[.slice none 0 0, .int .i64 5]) ∧ Below w.heap.size w w' := by
  have HX := Lib.hid hx
  clear hx
  go_enter Tryd.func8, Tryd.ntmps8
  go_wp2_with (first
    | (go_at_call 12; refine (refMay13 a b c d e f g h _).mono ?_; rw [HX.out]; rintro r w1 ⟨rfl, hb1⟩; obtain ⟨hc1, hf1⟩ := bcell hb1; have hz : w.heap.size < w1.heap.size := (by have := hb1.size; simp at this; omega)))
  refine bodyPost_ret (v := .tuple #[.slice none 0 0, .int .i64 5]) (by simp [results, Tryd.results8, go_sem]) rfl ⟨rfl, bgo (bal (Below.refl _ _) _) hb1⟩
theorem encode_yes (a b c d e f g h : Int) (w : World) (hT : TabG w) (hL : LaidV_laid_seisin_cap_layout w) (hd : 0 ≤ d) (hx : capB a b c d e f g h = true) :
    Calls Tryd.prog 7 #[capV a b c d e f g h] w fun r w' => ∃ G : Nat, r = .returned (.tuple #[.slice (some ⟨G, 0, none⟩) 2 2, .int .i64 0]) ∧ w.heap.size ≤ G ∧ w'.heap[G]? = some (.cells #[.int .u64 (encA a b c g h), .int .u64 (encB d e f)] 22 (0, 0)) ∧ Below w.heap.size w w' :=
  callsIn_wide.1 (encode_in a b c d e f g h w hT hL hd hx)
end Go.Proofs.YtoepbcaldlgnjaaDoor
