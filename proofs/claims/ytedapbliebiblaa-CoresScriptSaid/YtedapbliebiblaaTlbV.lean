/- package tlb: Evict. -/
import Derived.Test.YtedapbliebiblaaTlbU
namespace Go.Proofs.Ytedapbliebiblaa
set_option linter.unusedVariables false
set_option linter.unusedSimpArgs false
open Go.ChangeShapes Go.WideShapes Go.ChangeAt Go.RowKit

theorem wipe0 {w : World} {b o : Nat} {x y : TransX} {due : Int} (h : setAt w b o x y due) : setAt (((((w.setCell ⟨b, o, none⟩ (.int .i64 0)).setCell ⟨b, o + 1, none⟩ (.int .i64 0)).setCell ⟨b, o + 2, none⟩ (.int .i64 0)).setCell ⟨b, o + 3, none⟩ (.bool false)).setCell ⟨b, o + 4, none⟩ (.bool false)) b o zT y due := store0 h 0 0 0 false false
theorem wipe1 {w : World} {b o : Nat} {x y : TransX} {due : Int} (h : setAt w b o x y due) : setAt (((((w.setCell ⟨b, o + 5, none⟩ (.int .i64 0)).setCell ⟨b, o + 6, none⟩ (.int .i64 0)).setCell ⟨b, o + 7, none⟩ (.int .i64 0)).setCell ⟨b, o + 8, none⟩ (.bool false)).setCell ⟨b, o + 9, none⟩ (.bool false)) b o x zT due := store1 h 0 0 0 false false
set_option maxRecDepth 100000 in
set_option maxHeartbeats 1000000 in
theorem evict_00y (w : World) (b : Nat) (S : Nat → TransX × TransX × Int) (s p f : Int) (r q : Bool) (y : TransX) (due : Int) (h : TlbAt w b S) (hs : S 0 = (⟨s, p, f, r, q⟩, y, due)) (m0 : (s == 0) = false) :
    Calls Try.prog 45 #[.pointer (some ⟨b, 0, none⟩), .int .i64 0, .int .i64 0] w fun e w' => e = .returned (.bool true) ∧ TlbAt w' b (setS S 0 (zT, y, due)) ∧ TlbOnly b w w' := by
  have h2 := h.at_ 0 (by decide)
  rw [hs] at h2
  have H := Lib.hid h
  have H2 := Lib.hid h2
  have z := h.free
  simp only [setAt, Nat.reduceMul, Nat.reduceAdd, Nat.zero_add] at h2
  obtain ⟨⟨c0, c1, c2, c3, c4⟩, ⟨c5, c6, c7, c8, c9⟩, c10⟩ := h2
  clear h hs
  go_enter Try.func45, Try.ntmps45
  go_wp2
  go_ret
  refine ⟨rfl, H.out.put (k := 0) (s := (zT, y, due)) ?_ (only0 w b (11 * 0) 0 0 0 false false), (only0 w b (11 * 0) 0 0 0 false false).tlb⟩
  exact wipe0 H2.out
set_option maxRecDepth 100000 in
set_option maxHeartbeats 1000000 in
theorem evict_00n (w : World) (b : Nat) (S : Nat → TransX × TransX × Int) (s p f : Int) (r q : Bool) (y : TransX) (due : Int) (h : TlbAt w b S) (hs : S 0 = (zT, y, due)) :
    Calls Try.prog 45 #[.pointer (some ⟨b, 0, none⟩), .int .i64 0, .int .i64 0] w fun e w' => e = .returned (.bool false) ∧ TlbAt w' b (setS S 0 (zT, y, due)) ∧ TlbOnly b w w' := by
  have h2 := h.at_ 0 (by decide)
  rw [hs] at h2
  have H := Lib.hid h
  have H2 := Lib.hid h2
  have z := h.free
  simp only [setAt, Nat.reduceMul, Nat.reduceAdd, Nat.zero_add] at h2
  obtain ⟨⟨c0, c1, c2, c3, c4⟩, ⟨c5, c6, c7, c8, c9⟩, c10⟩ := h2
  clear h hs
  go_enter Try.func45, Try.ntmps45
  go_wp2
  go_ret
  refine ⟨rfl, H.out.put (k := 0) (s := (zT, y, due)) ?_ (only0 w b (11 * 0) 0 0 0 false false), (only0 w b (11 * 0) 0 0 0 false false).tlb⟩
  exact wipe0 H2.out
set_option maxRecDepth 100000 in
set_option maxHeartbeats 1000000 in
theorem evict_01y (w : World) (b : Nat) (S : Nat → TransX × TransX × Int) (s p f : Int) (r q : Bool) (y : TransX) (due : Int) (h : TlbAt w b S) (hs : S 0 = (y, ⟨s, p, f, r, q⟩, due)) (m0 : (s == 0) = false) :
    Calls Try.prog 45 #[.pointer (some ⟨b, 0, none⟩), .int .i64 0, .int .i64 1] w fun e w' => e = .returned (.bool true) ∧ TlbAt w' b (setS S 0 (y, zT, due)) ∧ TlbOnly b w w' := by
  have h2 := h.at_ 0 (by decide)
  rw [hs] at h2
  have H := Lib.hid h
  have H2 := Lib.hid h2
  have z := h.free
  simp only [setAt, Nat.reduceMul, Nat.reduceAdd, Nat.zero_add] at h2
  obtain ⟨⟨c0, c1, c2, c3, c4⟩, ⟨c5, c6, c7, c8, c9⟩, c10⟩ := h2
  clear h hs
  go_enter Try.func45, Try.ntmps45
  go_wp2
  go_ret
  refine ⟨rfl, H.out.put (k := 0) (s := (y, zT, due)) ?_ (only1 w b (11 * 0) 0 0 0 false false), (only1 w b (11 * 0) 0 0 0 false false).tlb⟩
  exact wipe1 H2.out
set_option maxRecDepth 100000 in
set_option maxHeartbeats 1000000 in
theorem evict_01n (w : World) (b : Nat) (S : Nat → TransX × TransX × Int) (s p f : Int) (r q : Bool) (y : TransX) (due : Int) (h : TlbAt w b S) (hs : S 0 = (y, zT, due)) :
    Calls Try.prog 45 #[.pointer (some ⟨b, 0, none⟩), .int .i64 0, .int .i64 1] w fun e w' => e = .returned (.bool false) ∧ TlbAt w' b (setS S 0 (y, zT, due)) ∧ TlbOnly b w w' := by
  have h2 := h.at_ 0 (by decide)
  rw [hs] at h2
  have H := Lib.hid h
  have H2 := Lib.hid h2
  have z := h.free
  simp only [setAt, Nat.reduceMul, Nat.reduceAdd, Nat.zero_add] at h2
  obtain ⟨⟨c0, c1, c2, c3, c4⟩, ⟨c5, c6, c7, c8, c9⟩, c10⟩ := h2
  clear h hs
  go_enter Try.func45, Try.ntmps45
  go_wp2
  go_ret
  refine ⟨rfl, H.out.put (k := 0) (s := (y, zT, due)) ?_ (only1 w b (11 * 0) 0 0 0 false false), (only1 w b (11 * 0) 0 0 0 false false).tlb⟩
  exact wipe1 H2.out
set_option maxRecDepth 100000 in
set_option maxHeartbeats 1000000 in
theorem evict_10y (w : World) (b : Nat) (S : Nat → TransX × TransX × Int) (s p f : Int) (r q : Bool) (y : TransX) (due : Int) (h : TlbAt w b S) (hs : S 1 = (⟨s, p, f, r, q⟩, y, due)) (m0 : (s == 0) = false) :
    Calls Try.prog 45 #[.pointer (some ⟨b, 0, none⟩), .int .i64 1, .int .i64 0] w fun e w' => e = .returned (.bool true) ∧ TlbAt w' b (setS S 1 (zT, y, due)) ∧ TlbOnly b w w' := by
  have h2 := h.at_ 1 (by decide)
  rw [hs] at h2
  have H := Lib.hid h
  have H2 := Lib.hid h2
  have z := h.free
  simp only [setAt, Nat.reduceMul, Nat.reduceAdd, Nat.zero_add] at h2
  obtain ⟨⟨c0, c1, c2, c3, c4⟩, ⟨c5, c6, c7, c8, c9⟩, c10⟩ := h2
  clear h hs
  go_enter Try.func45, Try.ntmps45
  go_wp2
  go_ret
  refine ⟨rfl, H.out.put (k := 1) (s := (zT, y, due)) ?_ (only0 w b (11 * 1) 0 0 0 false false), (only0 w b (11 * 1) 0 0 0 false false).tlb⟩
  exact wipe0 H2.out
set_option maxRecDepth 100000 in
set_option maxHeartbeats 1000000 in
theorem evict_10n (w : World) (b : Nat) (S : Nat → TransX × TransX × Int) (s p f : Int) (r q : Bool) (y : TransX) (due : Int) (h : TlbAt w b S) (hs : S 1 = (zT, y, due)) :
    Calls Try.prog 45 #[.pointer (some ⟨b, 0, none⟩), .int .i64 1, .int .i64 0] w fun e w' => e = .returned (.bool false) ∧ TlbAt w' b (setS S 1 (zT, y, due)) ∧ TlbOnly b w w' := by
  have h2 := h.at_ 1 (by decide)
  rw [hs] at h2
  have H := Lib.hid h
  have H2 := Lib.hid h2
  have z := h.free
  simp only [setAt, Nat.reduceMul, Nat.reduceAdd, Nat.zero_add] at h2
  obtain ⟨⟨c0, c1, c2, c3, c4⟩, ⟨c5, c6, c7, c8, c9⟩, c10⟩ := h2
  clear h hs
  go_enter Try.func45, Try.ntmps45
  go_wp2
  go_ret
  refine ⟨rfl, H.out.put (k := 1) (s := (zT, y, due)) ?_ (only0 w b (11 * 1) 0 0 0 false false), (only0 w b (11 * 1) 0 0 0 false false).tlb⟩
  exact wipe0 H2.out
set_option maxRecDepth 100000 in
set_option maxHeartbeats 1000000 in
theorem evict_11y (w : World) (b : Nat) (S : Nat → TransX × TransX × Int) (s p f : Int) (r q : Bool) (y : TransX) (due : Int) (h : TlbAt w b S) (hs : S 1 = (y, ⟨s, p, f, r, q⟩, due)) (m0 : (s == 0) = false) :
    Calls Try.prog 45 #[.pointer (some ⟨b, 0, none⟩), .int .i64 1, .int .i64 1] w fun e w' => e = .returned (.bool true) ∧ TlbAt w' b (setS S 1 (y, zT, due)) ∧ TlbOnly b w w' := by
  have h2 := h.at_ 1 (by decide)
  rw [hs] at h2
  have H := Lib.hid h
  have H2 := Lib.hid h2
  have z := h.free
  simp only [setAt, Nat.reduceMul, Nat.reduceAdd, Nat.zero_add] at h2
  obtain ⟨⟨c0, c1, c2, c3, c4⟩, ⟨c5, c6, c7, c8, c9⟩, c10⟩ := h2
  clear h hs
  go_enter Try.func45, Try.ntmps45
  go_wp2
  go_ret
  refine ⟨rfl, H.out.put (k := 1) (s := (y, zT, due)) ?_ (only1 w b (11 * 1) 0 0 0 false false), (only1 w b (11 * 1) 0 0 0 false false).tlb⟩
  exact wipe1 H2.out
set_option maxRecDepth 100000 in
set_option maxHeartbeats 1000000 in
theorem evict_11n (w : World) (b : Nat) (S : Nat → TransX × TransX × Int) (s p f : Int) (r q : Bool) (y : TransX) (due : Int) (h : TlbAt w b S) (hs : S 1 = (y, zT, due)) :
    Calls Try.prog 45 #[.pointer (some ⟨b, 0, none⟩), .int .i64 1, .int .i64 1] w fun e w' => e = .returned (.bool false) ∧ TlbAt w' b (setS S 1 (y, zT, due)) ∧ TlbOnly b w w' := by
  have h2 := h.at_ 1 (by decide)
  rw [hs] at h2
  have H := Lib.hid h
  have H2 := Lib.hid h2
  have z := h.free
  simp only [setAt, Nat.reduceMul, Nat.reduceAdd, Nat.zero_add] at h2
  obtain ⟨⟨c0, c1, c2, c3, c4⟩, ⟨c5, c6, c7, c8, c9⟩, c10⟩ := h2
  clear h hs
  go_enter Try.func45, Try.ntmps45
  go_wp2
  go_ret
  refine ⟨rfl, H.out.put (k := 1) (s := (y, zT, due)) ?_ (only1 w b (11 * 1) 0 0 0 false false), (only1 w b (11 * 1) 0 0 0 false false).tlb⟩
  exact wipe1 H2.out
set_option maxRecDepth 100000 in
set_option maxHeartbeats 1000000 in
theorem evict_20y (w : World) (b : Nat) (S : Nat → TransX × TransX × Int) (s p f : Int) (r q : Bool) (y : TransX) (due : Int) (h : TlbAt w b S) (hs : S 2 = (⟨s, p, f, r, q⟩, y, due)) (m0 : (s == 0) = false) :
    Calls Try.prog 45 #[.pointer (some ⟨b, 0, none⟩), .int .i64 2, .int .i64 0] w fun e w' => e = .returned (.bool true) ∧ TlbAt w' b (setS S 2 (zT, y, due)) ∧ TlbOnly b w w' := by
  have h2 := h.at_ 2 (by decide)
  rw [hs] at h2
  have H := Lib.hid h
  have H2 := Lib.hid h2
  have z := h.free
  simp only [setAt, Nat.reduceMul, Nat.reduceAdd, Nat.zero_add] at h2
  obtain ⟨⟨c0, c1, c2, c3, c4⟩, ⟨c5, c6, c7, c8, c9⟩, c10⟩ := h2
  clear h hs
  go_enter Try.func45, Try.ntmps45
  go_wp2
  go_ret
  refine ⟨rfl, H.out.put (k := 2) (s := (zT, y, due)) ?_ (only0 w b (11 * 2) 0 0 0 false false), (only0 w b (11 * 2) 0 0 0 false false).tlb⟩
  exact wipe0 H2.out
set_option maxRecDepth 100000 in
set_option maxHeartbeats 1000000 in
theorem evict_20n (w : World) (b : Nat) (S : Nat → TransX × TransX × Int) (s p f : Int) (r q : Bool) (y : TransX) (due : Int) (h : TlbAt w b S) (hs : S 2 = (zT, y, due)) :
    Calls Try.prog 45 #[.pointer (some ⟨b, 0, none⟩), .int .i64 2, .int .i64 0] w fun e w' => e = .returned (.bool false) ∧ TlbAt w' b (setS S 2 (zT, y, due)) ∧ TlbOnly b w w' := by
  have h2 := h.at_ 2 (by decide)
  rw [hs] at h2
  have H := Lib.hid h
  have H2 := Lib.hid h2
  have z := h.free
  simp only [setAt, Nat.reduceMul, Nat.reduceAdd, Nat.zero_add] at h2
  obtain ⟨⟨c0, c1, c2, c3, c4⟩, ⟨c5, c6, c7, c8, c9⟩, c10⟩ := h2
  clear h hs
  go_enter Try.func45, Try.ntmps45
  go_wp2
  go_ret
  refine ⟨rfl, H.out.put (k := 2) (s := (zT, y, due)) ?_ (only0 w b (11 * 2) 0 0 0 false false), (only0 w b (11 * 2) 0 0 0 false false).tlb⟩
  exact wipe0 H2.out
set_option maxRecDepth 100000 in
set_option maxHeartbeats 1000000 in
theorem evict_21y (w : World) (b : Nat) (S : Nat → TransX × TransX × Int) (s p f : Int) (r q : Bool) (y : TransX) (due : Int) (h : TlbAt w b S) (hs : S 2 = (y, ⟨s, p, f, r, q⟩, due)) (m0 : (s == 0) = false) :
    Calls Try.prog 45 #[.pointer (some ⟨b, 0, none⟩), .int .i64 2, .int .i64 1] w fun e w' => e = .returned (.bool true) ∧ TlbAt w' b (setS S 2 (y, zT, due)) ∧ TlbOnly b w w' := by
  have h2 := h.at_ 2 (by decide)
  rw [hs] at h2
  have H := Lib.hid h
  have H2 := Lib.hid h2
  have z := h.free
  simp only [setAt, Nat.reduceMul, Nat.reduceAdd, Nat.zero_add] at h2
  obtain ⟨⟨c0, c1, c2, c3, c4⟩, ⟨c5, c6, c7, c8, c9⟩, c10⟩ := h2
  clear h hs
  go_enter Try.func45, Try.ntmps45
  go_wp2
  go_ret
  refine ⟨rfl, H.out.put (k := 2) (s := (y, zT, due)) ?_ (only1 w b (11 * 2) 0 0 0 false false), (only1 w b (11 * 2) 0 0 0 false false).tlb⟩
  exact wipe1 H2.out
set_option maxRecDepth 100000 in
set_option maxHeartbeats 1000000 in
theorem evict_21n (w : World) (b : Nat) (S : Nat → TransX × TransX × Int) (s p f : Int) (r q : Bool) (y : TransX) (due : Int) (h : TlbAt w b S) (hs : S 2 = (y, zT, due)) :
    Calls Try.prog 45 #[.pointer (some ⟨b, 0, none⟩), .int .i64 2, .int .i64 1] w fun e w' => e = .returned (.bool false) ∧ TlbAt w' b (setS S 2 (y, zT, due)) ∧ TlbOnly b w w' := by
  have h2 := h.at_ 2 (by decide)
  rw [hs] at h2
  have H := Lib.hid h
  have H2 := Lib.hid h2
  have z := h.free
  simp only [setAt, Nat.reduceMul, Nat.reduceAdd, Nat.zero_add] at h2
  obtain ⟨⟨c0, c1, c2, c3, c4⟩, ⟨c5, c6, c7, c8, c9⟩, c10⟩ := h2
  clear h hs
  go_enter Try.func45, Try.ntmps45
  go_wp2
  go_ret
  refine ⟨rfl, H.out.put (k := 2) (s := (y, zT, due)) ?_ (only1 w b (11 * 2) 0 0 0 false false), (only1 w b (11 * 2) 0 0 0 false false).tlb⟩
  exact wipe1 H2.out
set_option maxRecDepth 100000 in
set_option maxHeartbeats 1000000 in
theorem evict_30y (w : World) (b : Nat) (S : Nat → TransX × TransX × Int) (s p f : Int) (r q : Bool) (y : TransX) (due : Int) (h : TlbAt w b S) (hs : S 3 = (⟨s, p, f, r, q⟩, y, due)) (m0 : (s == 0) = false) :
    Calls Try.prog 45 #[.pointer (some ⟨b, 0, none⟩), .int .i64 3, .int .i64 0] w fun e w' => e = .returned (.bool true) ∧ TlbAt w' b (setS S 3 (zT, y, due)) ∧ TlbOnly b w w' := by
  have h2 := h.at_ 3 (by decide)
  rw [hs] at h2
  have H := Lib.hid h
  have H2 := Lib.hid h2
  have z := h.free
  simp only [setAt, Nat.reduceMul, Nat.reduceAdd, Nat.zero_add] at h2
  obtain ⟨⟨c0, c1, c2, c3, c4⟩, ⟨c5, c6, c7, c8, c9⟩, c10⟩ := h2
  clear h hs
  go_enter Try.func45, Try.ntmps45
  go_wp2
  go_ret
  refine ⟨rfl, H.out.put (k := 3) (s := (zT, y, due)) ?_ (only0 w b (11 * 3) 0 0 0 false false), (only0 w b (11 * 3) 0 0 0 false false).tlb⟩
  exact wipe0 H2.out
set_option maxRecDepth 100000 in
set_option maxHeartbeats 1000000 in
theorem evict_30n (w : World) (b : Nat) (S : Nat → TransX × TransX × Int) (s p f : Int) (r q : Bool) (y : TransX) (due : Int) (h : TlbAt w b S) (hs : S 3 = (zT, y, due)) :
    Calls Try.prog 45 #[.pointer (some ⟨b, 0, none⟩), .int .i64 3, .int .i64 0] w fun e w' => e = .returned (.bool false) ∧ TlbAt w' b (setS S 3 (zT, y, due)) ∧ TlbOnly b w w' := by
  have h2 := h.at_ 3 (by decide)
  rw [hs] at h2
  have H := Lib.hid h
  have H2 := Lib.hid h2
  have z := h.free
  simp only [setAt, Nat.reduceMul, Nat.reduceAdd, Nat.zero_add] at h2
  obtain ⟨⟨c0, c1, c2, c3, c4⟩, ⟨c5, c6, c7, c8, c9⟩, c10⟩ := h2
  clear h hs
  go_enter Try.func45, Try.ntmps45
  go_wp2
  go_ret
  refine ⟨rfl, H.out.put (k := 3) (s := (zT, y, due)) ?_ (only0 w b (11 * 3) 0 0 0 false false), (only0 w b (11 * 3) 0 0 0 false false).tlb⟩
  exact wipe0 H2.out
set_option maxRecDepth 100000 in
set_option maxHeartbeats 1000000 in
theorem evict_31y (w : World) (b : Nat) (S : Nat → TransX × TransX × Int) (s p f : Int) (r q : Bool) (y : TransX) (due : Int) (h : TlbAt w b S) (hs : S 3 = (y, ⟨s, p, f, r, q⟩, due)) (m0 : (s == 0) = false) :
    Calls Try.prog 45 #[.pointer (some ⟨b, 0, none⟩), .int .i64 3, .int .i64 1] w fun e w' => e = .returned (.bool true) ∧ TlbAt w' b (setS S 3 (y, zT, due)) ∧ TlbOnly b w w' := by
  have h2 := h.at_ 3 (by decide)
  rw [hs] at h2
  have H := Lib.hid h
  have H2 := Lib.hid h2
  have z := h.free
  simp only [setAt, Nat.reduceMul, Nat.reduceAdd, Nat.zero_add] at h2
  obtain ⟨⟨c0, c1, c2, c3, c4⟩, ⟨c5, c6, c7, c8, c9⟩, c10⟩ := h2
  clear h hs
  go_enter Try.func45, Try.ntmps45
  go_wp2
  go_ret
  refine ⟨rfl, H.out.put (k := 3) (s := (y, zT, due)) ?_ (only1 w b (11 * 3) 0 0 0 false false), (only1 w b (11 * 3) 0 0 0 false false).tlb⟩
  exact wipe1 H2.out
set_option maxRecDepth 100000 in
set_option maxHeartbeats 1000000 in
theorem evict_31n (w : World) (b : Nat) (S : Nat → TransX × TransX × Int) (s p f : Int) (r q : Bool) (y : TransX) (due : Int) (h : TlbAt w b S) (hs : S 3 = (y, zT, due)) :
    Calls Try.prog 45 #[.pointer (some ⟨b, 0, none⟩), .int .i64 3, .int .i64 1] w fun e w' => e = .returned (.bool false) ∧ TlbAt w' b (setS S 3 (y, zT, due)) ∧ TlbOnly b w w' := by
  have h2 := h.at_ 3 (by decide)
  rw [hs] at h2
  have H := Lib.hid h
  have H2 := Lib.hid h2
  have z := h.free
  simp only [setAt, Nat.reduceMul, Nat.reduceAdd, Nat.zero_add] at h2
  obtain ⟨⟨c0, c1, c2, c3, c4⟩, ⟨c5, c6, c7, c8, c9⟩, c10⟩ := h2
  clear h hs
  go_enter Try.func45, Try.ntmps45
  go_wp2
  go_ret
  refine ⟨rfl, H.out.put (k := 3) (s := (y, zT, due)) ?_ (only1 w b (11 * 3) 0 0 0 false false), (only1 w b (11 * 3) 0 0 0 false false).tlb⟩
  exact wipe1 H2.out
end Go.Proofs.Ytedapbliebiblaa
