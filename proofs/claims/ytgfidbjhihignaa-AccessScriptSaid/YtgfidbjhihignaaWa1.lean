/- package walk: entry, next. -/
import Derived.Test.YtgfidbjhihignaaPwMem8
import Derived.Test.YtgfidbjhihignaaPwIdx
import Derived.Test.YtgfidbjhihignaaPwDecM
import Derived.BigFrameIn
import Derived.WalkMore
namespace Go.Proofs.Ytgfidbjhihignaa
set_option linter.unusedVariables false
set_option linter.unusedSimpArgs false
open Go.ChangeShapes Go.WideShapes Go.ChangeAt Go.RowKit Go.Shelf

/-- Whether a word is an entry's, as a test. -/
def okB (w : Nat) : Bool := allB w && mayE (w.testBit 0) (w.testBit 1) (w.testBit 2) (w.testBit 3) ((w / 256 % 64 : Nat) : Int)
theorem allB_of {w : Nat} (h : Allowed w 64) : allB w = true := by
  refine List.all_eq_true.2 fun i hi => ?_
  cases ht : w.testBit i
  · rfl
  · have := h i (List.mem_range.1 hi) ht
    simp
    omega
theorem okB_iff {w : Nat} : okB w = true ↔ OkW w := by
  unfold okB OkW
  rw [Bool.and_eq_true]
  exact ⟨fun h => ⟨allB_iff h.1, h.2⟩, fun h => ⟨allB_of h.1, h.2⟩⟩
theorem dec_yes (w : Nat) (W : World) (hw : w < 2 ^ 64) (h : okB w = true) : Calls Try.prog 73 #[.int .u64 w] W fun e W' => e = .returned (.tuple #[entV (w.testBit 0) (w.testBit 1) (w.testBit 2) (w.testBit 3) ((w / 256 % 64 : Nat) : Int), .int .i64 0]) ∧ Below W.heap.size W W' := by
  have ho := okB_iff.1 h
  refine (dec_any w W hw).mono ?_
  rintro e W' ⟨h | h, hb⟩
  · exact ⟨h.1, hb⟩
  · exact absurd ho h.2
theorem dec_no (w : Nat) (W : World) (hw : w < 2 ^ 64) (h : okB w = false) : Calls Try.prog 73 #[.int .u64 w] W fun e W' => e = .returned (.tuple #[entV false false false false 0, .int .i64 5]) ∧ Below W.heap.size W W' := by
  refine (dec_any w W hw).mono ?_
  rintro e W' ⟨h1 | h1, hb⟩
  · have := okB_iff.2 h1.2
    rw [h] at this
    cases this
  · exact ⟨h1.1, hb⟩
/-- What an entry's word comes to in a memory of n frames: 0, 5, 6. -/
def entC (n x : Nat) : Int := if okB x = true then (if x.testBit 0 = true then (if x / 256 % 64 < n then 0 else 5) else 6) else 5
def nextC (n x : Nat) : Int := if entC n x = 0 then (if x.testBit 1 = true then 5 else 0) else entC n x
def leafC (n x : Nat) : Int := if entC n x = 0 then (if x.testBit 1 = true then 0 else 5) else entC n x
theorem word_nat {x : Int} (h : WordI x) : x = (x.toNat : Int) ∧ x.toNat < 2 ^ 64 := by
  obtain ⟨h1, h2⟩ := h
  exact ⟨by omega, by omega⟩
theorem cellE (W : World) (cs : Array Value) (t : TypeId) (j : Nat) : (W.alloc (.cells cs t)).cell? ⟨W.heap.size, j, none⟩ = cs[j]? := by
  have h := World.alloc_heap_new W (.cells cs t)
  unfold World.cell?
  rw [h]
  simp
theorem frozE (W : World) (cs : Array Value) (t : TypeId) (j : Nat) : (W.alloc (.cells cs t)).frozen? ⟨W.heap.size, j, none⟩ = false := by
  have h := World.alloc_heap_new W (.cells cs t)
  unfold World.frozen?
  rw [h]
  simp
set_option maxHeartbeats 2000000 in
theorem entry_ok (w : World) (b g n c : Nat) (m : Nat → Int) (k : Nat) (a : Int) (h : MemAt w b g n c m) (hk : k < 8 * n) (ha : a = 8 * (k : Int)) (he : entC n (m k).toNat = 0) :
    Calls Try.prog 66 #[.pointer (some ⟨b, 0, none⟩), .int .u64 a] w fun e w' => e = .returned (.tuple #[entV true ((m k).toNat.testBit 1) ((m k).toNat.testBit 2) ((m k).toNat.testBit 3) (((m k).toNat / 256 % 64 : Nat) : Int), .int .i64 0]) ∧ Below w.heap.size w w' := by
  obtain ⟨x, hx⟩ : ∃ x, (m k).toNat = x := ⟨_, rfl⟩
  obtain ⟨hx1, hx2⟩ := word_nat (h.word k)
  rw [hx] at he hx1 hx2 ⊢
  unfold entC at he
  split at he
  · rename_i ho
    split at he
    · rename_i hv
      split at he
      · rename_i hf
        have hf' : ((x / 256 % 64 : Nat) : Int) < n := by omega
        have hd := dec_yes x
        rw [hv] at hd
        obtain ⟨l, hl⟩ : ∃ l, x.testBit 1 = l := ⟨_, rfl⟩
        obtain ⟨r, hr⟩ : ∃ l, x.testBit 2 = l := ⟨_, rfl⟩
        obtain ⟨ww, hww⟩ : ∃ l, x.testBit 3 = l := ⟨_, rfl⟩
        obtain ⟨f, hff⟩ : ∃ f : Int, ((x / 256 % 64 : Nat) : Int) = f := ⟨_, rfl⟩
        have f0 : 0 ≤ f := by omega
        rw [hl, hr, hww, hff] at hd ⊢
        rw [hff] at hf'
        have HD := Lib.hid hd
        have HO := Lib.hid ho
        have HX1 := Lib.hid hx1
        have H := Lib.hid h
        have HAK := Lib.hid ha
        clear h he hd ho hv hl hr hww hff hf hx hx1 ha
        go_enter Try.func66, Try.ntmps66
        go_wp2_with (first
          | (go_at_call 20; refine (load_at _ b g n c m a k (H.out.call (bal (Below.refl _ _) _)) HAK.out hk).mono ?_; rintro e w1 ⟨rfl, rfl⟩)
          | (go_at_call 73; rw [HX1.out]; refine (HD.out _ hx2 HO.out).mono ?_; rintro e w2 ⟨rfl, hb2⟩; obtain ⟨hc2, hf2⟩ := bcell hb2; have hz2 : w.heap.size < w2.heap.size := (by have := hb2.size; simp at this; omega)))
        have hm3 : MemAt (w2.alloc (.cells #[.bool true, .bool l, .bool r, .bool ww, .int .i64 f] 137)) b g n c m := (H.out.call (bgo (bal (Below.refl _ _) _) hb2)).call (bal (Below.refl _ _) _)
        have HM3 := Lib.hid hm3
        clear hm3
        obtain ⟨W3, hW3⟩ : ∃ W3, W3 = w2.alloc (.cells #[.bool true, .bool l, .bool r, .bool ww, .int .i64 f] 137) := ⟨_, rfl⟩
        have q0 : W3.cell? ⟨w2.heap.size, 0, none⟩ = some (.bool true) := by rw [hW3, cellE]; rfl
        have q1 : W3.cell? ⟨w2.heap.size, 1, none⟩ = some (.bool l) := by rw [hW3, cellE]; rfl
        have q2 : W3.cell? ⟨w2.heap.size, 2, none⟩ = some (.bool r) := by rw [hW3, cellE]; rfl
        have q3 : W3.cell? ⟨w2.heap.size, 3, none⟩ = some (.bool ww) := by rw [hW3, cellE]; rfl
        have q4 : W3.cell? ⟨w2.heap.size, 4, none⟩ = some (.int .i64 f) := by rw [hW3, cellE]; rfl
        have hb3 : Below w2.heap.size w2 W3 := by rw [hW3]; exact bal (Below.refl _ _) _
        rw [← hW3] at HM3 ⊢
        clear hW3
        have r0 : W3.cell? ⟨w.heap.size, 0, none⟩ = some (.bool false) := (hb3.cell (p := ⟨w.heap.size, 0, none⟩) hz2).trans ((hc2 _ _ (by simp)).trans (by rw [cellE]; rfl))
        have v0 : W3.frozen? ⟨w.heap.size, 0, none⟩ = false := (hb3.frozen (p := ⟨w.heap.size, 0, none⟩) hz2).trans ((hf2 _ _ (by simp)).trans (frozE _ _ _ _))
        have r1 : W3.cell? ⟨w.heap.size, 1, none⟩ = some (.bool false) := (hb3.cell (p := ⟨w.heap.size, 1, none⟩) hz2).trans ((hc2 _ _ (by simp)).trans (by rw [cellE]; rfl))
        have v1 : W3.frozen? ⟨w.heap.size, 1, none⟩ = false := (hb3.frozen (p := ⟨w.heap.size, 1, none⟩) hz2).trans ((hf2 _ _ (by simp)).trans (frozE _ _ _ _))
        have r2 : W3.cell? ⟨w.heap.size, 2, none⟩ = some (.bool false) := (hb3.cell (p := ⟨w.heap.size, 2, none⟩) hz2).trans ((hc2 _ _ (by simp)).trans (by rw [cellE]; rfl))
        have v2 : W3.frozen? ⟨w.heap.size, 2, none⟩ = false := (hb3.frozen (p := ⟨w.heap.size, 2, none⟩) hz2).trans ((hf2 _ _ (by simp)).trans (frozE _ _ _ _))
        have r3 : W3.cell? ⟨w.heap.size, 3, none⟩ = some (.bool false) := (hb3.cell (p := ⟨w.heap.size, 3, none⟩) hz2).trans ((hc2 _ _ (by simp)).trans (by rw [cellE]; rfl))
        have v3 : W3.frozen? ⟨w.heap.size, 3, none⟩ = false := (hb3.frozen (p := ⟨w.heap.size, 3, none⟩) hz2).trans ((hf2 _ _ (by simp)).trans (frozE _ _ _ _))
        have r4 : W3.cell? ⟨w.heap.size, 4, none⟩ = some (.int .i64 0) := (hb3.cell (p := ⟨w.heap.size, 4, none⟩) hz2).trans ((hc2 _ _ (by simp)).trans (by rw [cellE]; rfl))
        have v4 : W3.frozen? ⟨w.heap.size, 4, none⟩ = false := (hb3.frozen (p := ⟨w.heap.size, 4, none⟩) hz2).trans ((hf2 _ _ (by simp)).trans (frozE _ _ _ _))
        have hz3 : w.heap.size < W3.heap.size := Nat.lt_of_lt_of_le hz2 hb3.size
        have hb4 : Below w.heap.size w W3 := (bgo (bal (Below.refl _ _) _) hb2).trans (hb3.mono (Nat.le_of_lt hz2))
        clear hc2 hf2 hb2 hb3
        go_region_with (first
          | (go_at_call 32; refine (frames_any _ b g n c m (HM3.out.call (Below.refl _ _).drew)).mono ?_; rintro e w9 ⟨rfl, rfl⟩))
        all_goals go_wp2
        all_goals exact bodyPost_ret (v := .tuple #[entV true l r ww f, .int .i64 0]) (by simp [results, Try.results66, go_sem, r0, r1, r2, r3, r4]) rfl ⟨rfl, by repeat (first | with_reducible exact hb4 | with_reducible exact hb4.drew | with_reducible refine Below.drew ?_ | with_reducible refine below_drewN ?_ _ | with_reducible refine Below.setCell ?_ (by first | with_reducible exact Nat.le_refl _ | (simp; done) | (simp; omega)) _)⟩
      · cases he
    · cases he
  · cases he
set_option maxHeartbeats 2000000 in
theorem entry_bad (w : World) (b g n c : Nat) (m : Nat → Int) (k : Nat) (a : Int) (h : MemAt w b g n c m) (hk : k < 8 * n) (ha : a = 8 * (k : Int)) (he : okB (m k).toNat = false) :
    Calls Try.prog 66 #[.pointer (some ⟨b, 0, none⟩), .int .u64 a] w fun e w' => e = .returned (.tuple #[entV false false false false 0, .int .i64 5]) ∧ Below w.heap.size w w' := by
  obtain ⟨x, hx⟩ : ∃ x, (m k).toNat = x := ⟨_, rfl⟩
  obtain ⟨hx1, hx2⟩ := word_nat (h.word k)
  rw [hx] at he hx1 hx2
  have HD := Lib.hid (dec_no x)
  have HO := Lib.hid he
  have HX1 := Lib.hid hx1
  have H := Lib.hid h
  have HAK := Lib.hid ha
  clear h he hx hx1 ha
  go_enter Try.func66, Try.ntmps66
  go_wp2_with (first
    | (go_at_call 20; refine (load_at _ b g n c m a k (H.out.call (bal (Below.refl _ _) _)) HAK.out hk).mono ?_; rintro e w1 ⟨rfl, rfl⟩)
    | (go_at_call 73; rw [HX1.out]; refine (HD.out _ hx2 HO.out).mono ?_; rintro e w2 ⟨rfl, hb2⟩; obtain ⟨hc2, hf2⟩ := bcell hb2; have hz2 : w.heap.size < w2.heap.size := (by have := hb2.size; simp at this; omega)))
  have r0 : w2.cell? ⟨w.heap.size, 0, none⟩ = some (.bool false) := (hc2 _ _ (by simp)).trans (by rw [cellE]; rfl)
  have v0 : w2.frozen? ⟨w.heap.size, 0, none⟩ = false := (hf2 _ _ (by simp)).trans (frozE _ _ _ _)
  have r1 : w2.cell? ⟨w.heap.size, 1, none⟩ = some (.bool false) := (hc2 _ _ (by simp)).trans (by rw [cellE]; rfl)
  have v1 : w2.frozen? ⟨w.heap.size, 1, none⟩ = false := (hf2 _ _ (by simp)).trans (frozE _ _ _ _)
  have r2 : w2.cell? ⟨w.heap.size, 2, none⟩ = some (.bool false) := (hc2 _ _ (by simp)).trans (by rw [cellE]; rfl)
  have v2 : w2.frozen? ⟨w.heap.size, 2, none⟩ = false := (hf2 _ _ (by simp)).trans (frozE _ _ _ _)
  have r3 : w2.cell? ⟨w.heap.size, 3, none⟩ = some (.bool false) := (hc2 _ _ (by simp)).trans (by rw [cellE]; rfl)
  have v3 : w2.frozen? ⟨w.heap.size, 3, none⟩ = false := (hf2 _ _ (by simp)).trans (frozE _ _ _ _)
  have r4 : w2.cell? ⟨w.heap.size, 4, none⟩ = some (.int .i64 0) := (hc2 _ _ (by simp)).trans (by rw [cellE]; rfl)
  have v4 : w2.frozen? ⟨w.heap.size, 4, none⟩ = false := (hf2 _ _ (by simp)).trans (frozE _ _ _ _)
  exact bodyPost_ret (v := .tuple #[entV false false false false 0, .int .i64 5]) (by simp [results, Try.results66, go_sem, r0, r1, r2, r3, r4, hz2, Nat.ne_of_lt hz2]) rfl ⟨rfl, by repeat (first | with_reducible exact Below.refl _ _ | with_reducible refine Below.drew ?_ | with_reducible refine below_drewN ?_ _ | with_reducible refine Below.setCell ?_ (by first | with_reducible exact Nat.le_refl _ | (simp; done) | (simp; omega)) _ | with_reducible refine bal ?_ _ | with_reducible refine bgo ?_ (by assumption))⟩
set_option maxHeartbeats 2000000 in
theorem entry_void (w : World) (b g n c : Nat) (m : Nat → Int) (k : Nat) (a : Int) (h : MemAt w b g n c m) (hk : k < 8 * n) (ha : a = 8 * (k : Int)) (he : okB (m k).toNat = true) (hv : (m k).toNat.testBit 0 = false) :
    Calls Try.prog 66 #[.pointer (some ⟨b, 0, none⟩), .int .u64 a] w fun e w' => e = .returned (.tuple #[entV false false false false 0, .int .i64 6]) ∧ Below w.heap.size w w' := by
  obtain ⟨x, hx⟩ : ∃ x, (m k).toNat = x := ⟨_, rfl⟩
  obtain ⟨hx1, hx2⟩ := word_nat (h.word k)
  rw [hx] at he hv hx1 hx2
  have hd := dec_yes x
  rw [hv] at hd
  obtain ⟨l, hl⟩ : ∃ l, x.testBit 1 = l := ⟨_, rfl⟩
  obtain ⟨r, hr⟩ : ∃ l, x.testBit 2 = l := ⟨_, rfl⟩
  obtain ⟨ww, hww⟩ : ∃ l, x.testBit 3 = l := ⟨_, rfl⟩
  obtain ⟨f, hff⟩ : ∃ f : Int, ((x / 256 % 64 : Nat) : Int) = f := ⟨_, rfl⟩
  rw [hl, hr, hww, hff] at hd
  have HD := Lib.hid hd
  have HO := Lib.hid he
  have HX1 := Lib.hid hx1
  have H := Lib.hid h
  have HAK := Lib.hid ha
  clear h he hd hv hl hr hww hff hx hx1 ha
  go_enter Try.func66, Try.ntmps66
  go_wp2_with (first
    | (go_at_call 20; refine (load_at _ b g n c m a k (H.out.call (bal (Below.refl _ _) _)) HAK.out hk).mono ?_; rintro e w1 ⟨rfl, rfl⟩)
    | (go_at_call 73; rw [HX1.out]; refine (HD.out _ hx2 HO.out).mono ?_; rintro e w2 ⟨rfl, hb2⟩; obtain ⟨hc2, hf2⟩ := bcell hb2; have hz2 : w.heap.size < w2.heap.size := (by have := hb2.size; simp at this; omega)))
  have r0 : w2.cell? ⟨w.heap.size, 0, none⟩ = some (.bool false) := (hc2 _ _ (by simp)).trans (by rw [cellE]; rfl)
  have v0 : w2.frozen? ⟨w.heap.size, 0, none⟩ = false := (hf2 _ _ (by simp)).trans (frozE _ _ _ _)
  have r1 : w2.cell? ⟨w.heap.size, 1, none⟩ = some (.bool false) := (hc2 _ _ (by simp)).trans (by rw [cellE]; rfl)
  have v1 : w2.frozen? ⟨w.heap.size, 1, none⟩ = false := (hf2 _ _ (by simp)).trans (frozE _ _ _ _)
  have r2 : w2.cell? ⟨w.heap.size, 2, none⟩ = some (.bool false) := (hc2 _ _ (by simp)).trans (by rw [cellE]; rfl)
  have v2 : w2.frozen? ⟨w.heap.size, 2, none⟩ = false := (hf2 _ _ (by simp)).trans (frozE _ _ _ _)
  have r3 : w2.cell? ⟨w.heap.size, 3, none⟩ = some (.bool false) := (hc2 _ _ (by simp)).trans (by rw [cellE]; rfl)
  have v3 : w2.frozen? ⟨w.heap.size, 3, none⟩ = false := (hf2 _ _ (by simp)).trans (frozE _ _ _ _)
  have r4 : w2.cell? ⟨w.heap.size, 4, none⟩ = some (.int .i64 0) := (hc2 _ _ (by simp)).trans (by rw [cellE]; rfl)
  have v4 : w2.frozen? ⟨w.heap.size, 4, none⟩ = false := (hf2 _ _ (by simp)).trans (frozE _ _ _ _)
  exact bodyPost_ret (v := .tuple #[entV false false false false 0, .int .i64 6]) (by simp [results, Try.results66, go_sem, r0, r1, r2, r3, r4, hz2, Nat.ne_of_lt hz2]) rfl ⟨rfl, by repeat (first | with_reducible exact Below.refl _ _ | with_reducible refine Below.drew ?_ | with_reducible refine below_drewN ?_ _ | with_reducible refine Below.setCell ?_ (by first | with_reducible exact Nat.le_refl _ | (simp; done) | (simp; omega)) _ | with_reducible refine bal ?_ _ | with_reducible refine bgo ?_ (by assumption))⟩
set_option maxHeartbeats 2000000 in
theorem entry_far (w : World) (b g n c : Nat) (m : Nat → Int) (k : Nat) (a : Int) (h : MemAt w b g n c m) (hk : k < 8 * n) (ha : a = 8 * (k : Int)) (he : okB (m k).toNat = true) (hv : (m k).toNat.testBit 0 = true) (hf : n ≤ (m k).toNat / 256 % 64) :
    Calls Try.prog 66 #[.pointer (some ⟨b, 0, none⟩), .int .u64 a] w fun e w' => e = .returned (.tuple #[entV false false false false 0, .int .i64 5]) ∧ Below w.heap.size w w' := by
  obtain ⟨x, hx⟩ : ∃ x, (m k).toNat = x := ⟨_, rfl⟩
  obtain ⟨hx1, hx2⟩ := word_nat (h.word k)
  rw [hx] at he hv hf hx1 hx2
  have hd := dec_yes x
  rw [hv] at hd
  have hf' : (n : Int) ≤ ((x / 256 % 64 : Nat) : Int) := by omega
  obtain ⟨l, hl⟩ : ∃ l, x.testBit 1 = l := ⟨_, rfl⟩
  obtain ⟨r, hr⟩ : ∃ l, x.testBit 2 = l := ⟨_, rfl⟩
  obtain ⟨ww, hww⟩ : ∃ l, x.testBit 3 = l := ⟨_, rfl⟩
  obtain ⟨f, hff⟩ : ∃ f : Int, ((x / 256 % 64 : Nat) : Int) = f := ⟨_, rfl⟩
  rw [hl, hr, hww, hff] at hd
  rw [hff] at hf'
  have HD := Lib.hid hd
  have HO := Lib.hid he
  have HX1 := Lib.hid hx1
  have H := Lib.hid h
  have HAK := Lib.hid ha
  clear h he hd hv hl hr hww hff hf hx hx1 ha
  go_enter Try.func66, Try.ntmps66
  go_wp2_with (first
    | (go_at_call 20; refine (load_at _ b g n c m a k (H.out.call (bal (Below.refl _ _) _)) HAK.out hk).mono ?_; rintro e w1 ⟨rfl, rfl⟩)
    | (go_at_call 73; rw [HX1.out]; refine (HD.out _ hx2 HO.out).mono ?_; rintro e w2 ⟨rfl, hb2⟩; obtain ⟨hc2, hf2⟩ := bcell hb2; have hz2 : w.heap.size < w2.heap.size := (by have := hb2.size; simp at this; omega)))
  have hm3 : MemAt (w2.alloc (.cells #[.bool true, .bool l, .bool r, .bool ww, .int .i64 f] 137)) b g n c m := (H.out.call (bgo (bal (Below.refl _ _) _) hb2)).call (bal (Below.refl _ _) _)
  have HM3 := Lib.hid hm3
  clear hm3
  obtain ⟨W3, hW3⟩ : ∃ W3, W3 = w2.alloc (.cells #[.bool true, .bool l, .bool r, .bool ww, .int .i64 f] 137) := ⟨_, rfl⟩
  have q0 : W3.cell? ⟨w2.heap.size, 0, none⟩ = some (.bool true) := by rw [hW3, cellE]; rfl
  have q1 : W3.cell? ⟨w2.heap.size, 1, none⟩ = some (.bool l) := by rw [hW3, cellE]; rfl
  have q2 : W3.cell? ⟨w2.heap.size, 2, none⟩ = some (.bool r) := by rw [hW3, cellE]; rfl
  have q3 : W3.cell? ⟨w2.heap.size, 3, none⟩ = some (.bool ww) := by rw [hW3, cellE]; rfl
  have q4 : W3.cell? ⟨w2.heap.size, 4, none⟩ = some (.int .i64 f) := by rw [hW3, cellE]; rfl
  have hb3 : Below w2.heap.size w2 W3 := by rw [hW3]; exact bal (Below.refl _ _) _
  rw [← hW3] at HM3 ⊢
  clear hW3
  have r0 : W3.cell? ⟨w.heap.size, 0, none⟩ = some (.bool false) := (hb3.cell (p := ⟨w.heap.size, 0, none⟩) hz2).trans ((hc2 _ _ (by simp)).trans (by rw [cellE]; rfl))
  have v0 : W3.frozen? ⟨w.heap.size, 0, none⟩ = false := (hb3.frozen (p := ⟨w.heap.size, 0, none⟩) hz2).trans ((hf2 _ _ (by simp)).trans (frozE _ _ _ _))
  have r1 : W3.cell? ⟨w.heap.size, 1, none⟩ = some (.bool false) := (hb3.cell (p := ⟨w.heap.size, 1, none⟩) hz2).trans ((hc2 _ _ (by simp)).trans (by rw [cellE]; rfl))
  have v1 : W3.frozen? ⟨w.heap.size, 1, none⟩ = false := (hb3.frozen (p := ⟨w.heap.size, 1, none⟩) hz2).trans ((hf2 _ _ (by simp)).trans (frozE _ _ _ _))
  have r2 : W3.cell? ⟨w.heap.size, 2, none⟩ = some (.bool false) := (hb3.cell (p := ⟨w.heap.size, 2, none⟩) hz2).trans ((hc2 _ _ (by simp)).trans (by rw [cellE]; rfl))
  have v2 : W3.frozen? ⟨w.heap.size, 2, none⟩ = false := (hb3.frozen (p := ⟨w.heap.size, 2, none⟩) hz2).trans ((hf2 _ _ (by simp)).trans (frozE _ _ _ _))
  have r3 : W3.cell? ⟨w.heap.size, 3, none⟩ = some (.bool false) := (hb3.cell (p := ⟨w.heap.size, 3, none⟩) hz2).trans ((hc2 _ _ (by simp)).trans (by rw [cellE]; rfl))
  have v3 : W3.frozen? ⟨w.heap.size, 3, none⟩ = false := (hb3.frozen (p := ⟨w.heap.size, 3, none⟩) hz2).trans ((hf2 _ _ (by simp)).trans (frozE _ _ _ _))
  have r4 : W3.cell? ⟨w.heap.size, 4, none⟩ = some (.int .i64 0) := (hb3.cell (p := ⟨w.heap.size, 4, none⟩) hz2).trans ((hc2 _ _ (by simp)).trans (by rw [cellE]; rfl))
  have v4 : W3.frozen? ⟨w.heap.size, 4, none⟩ = false := (hb3.frozen (p := ⟨w.heap.size, 4, none⟩) hz2).trans ((hf2 _ _ (by simp)).trans (frozE _ _ _ _))
  have hz3 : w.heap.size < W3.heap.size := Nat.lt_of_lt_of_le hz2 hb3.size
  have hb4 : Below w.heap.size w W3 := (bgo (bal (Below.refl _ _) _) hb2).trans (hb3.mono (Nat.le_of_lt hz2))
  clear hc2 hf2 hb2 hb3
  go_region_with (first
    | (go_at_call 32; refine (frames_any _ b g n c m (HM3.out.call (Below.refl _ _).drew)).mono ?_; rintro e w9 ⟨rfl, rfl⟩))
  all_goals go_wp2
  all_goals exact bodyPost_ret (v := .tuple #[entV false false false false 0, .int .i64 5]) (by simp [results, Try.results66, go_sem, r0, r1, r2, r3, r4]) rfl ⟨rfl, by repeat (first | with_reducible exact hb4 | with_reducible exact hb4.drew | with_reducible refine Below.drew ?_ | with_reducible refine below_drewN ?_ _ | with_reducible refine Below.setCell ?_ (by first | with_reducible exact Nat.le_refl _ | (simp; done) | (simp; omega)) _)⟩
/-- entry, whatever is wrong. -/
theorem entry_no (w : World) (b g n c : Nat) (m : Nat → Int) (k : Nat) (a : Int) (h : MemAt w b g n c m) (hk : k < 8 * n) (ha : a = 8 * (k : Int)) (cd : Int) (he : entC n (m k).toNat = cd) (hc : cd ≠ 0) :
    Calls Try.prog 66 #[.pointer (some ⟨b, 0, none⟩), .int .u64 a] w fun e w' => e = .returned (.tuple #[entV false false false false 0, .int .i64 cd]) ∧ Below w.heap.size w w' := by
  subst he
  unfold entC at hc ⊢
  split
  · rename_i ho
    split
    · rename_i hv
      split
      · rename_i hf
        simp [ho, hv, hf] at hc
      · rename_i hf
        exact entry_far w b g n c m k a h hk ha ho hv (by omega)
    · rename_i hv
      exact entry_void w b g n c m k a h hk ha ho (by simpa using hv)
  · rename_i ho
    exact entry_bad w b g n c m k a h hk ha (by simpa using ho)
theorem entC_in (n x : Nat) : entC n x = 0 ∨ entC n x = 5 ∨ entC n x = 6 := by
  unfold entC
  split
  · split
    · split <;> simp
    · simp
  · simp
set_option maxHeartbeats 1000000 in
theorem next_no (w : World) (b g n c : Nat) (m : Nat → Int) (k : Nat) (a : Int) (h : MemAt w b g n c m) (hk : k < 8 * n) (ha : a = 8 * (k : Int)) (cd : Int) (he : nextC n (m k).toNat = cd) (hc : cd ≠ 0) :
    Calls Try.prog 72 #[.pointer (some ⟨b, 0, none⟩), .int .u64 a] w fun e w' => e = .returned (.tuple #[.int .i64 0, .int .i64 cd]) ∧ Below w.heap.size w w' := by
  unfold nextC at he
  split at he
  · rename_i h0
    split at he
    · rename_i hl
      subst he
      have hk0 := entry_ok w b g n c m k a h hk ha h0
      rw [hl] at hk0
      obtain ⟨r, hr⟩ : ∃ l, (m k).toNat.testBit 2 = l := ⟨_, rfl⟩
      obtain ⟨ww, hww⟩ : ∃ l, (m k).toNat.testBit 3 = l := ⟨_, rfl⟩
      obtain ⟨f, hff⟩ : ∃ f : Int, (((m k).toNat / 256 % 64 : Nat) : Int) = f := ⟨_, rfl⟩
      rw [hr, hww, hff] at hk0
      have HK := Lib.hid hk0
      clear hk0 h ha h0 hl hr hww hff
      go_enter Try.func72, Try.ntmps72
      go_wp2_with (go_at_call 66; refine HK.out.mono ?_; rintro e w1 ⟨rfl, hb1⟩)
      go_ret2
      exact ⟨rfl, bal hb1 _⟩
    · exact absurd he.symm hc
  · rename_i h0
    have hk0 := entry_no w b g n c m k a h hk ha cd he hc
    have HK := Lib.hid hk0
    have hcd : (cd == 0) = false := beq_eq_false_iff_ne.2 hc
    clear hk0 h ha h0 he
    go_enter Try.func72, Try.ntmps72
    go_wp2_with (go_at_call 66; refine HK.out.mono ?_; rintro e w1 ⟨rfl, hb1⟩)
    go_ret2
    exact ⟨rfl, bal hb1 _⟩
set_option maxHeartbeats 1000000 in
theorem next_ok (w : World) (b g n c : Nat) (m : Nat → Int) (k : Nat) (a : Int) (h : MemAt w b g n c m) (hk : k < 8 * n) (ha : a = 8 * (k : Int)) (he : nextC n (m k).toNat = 0) :
    Calls Try.prog 72 #[.pointer (some ⟨b, 0, none⟩), .int .u64 a] w fun e w' => e = .returned (.tuple #[.int .i64 (((m k).toNat / 256 % 64 : Nat) : Int), .int .i64 0]) ∧ Below w.heap.size w w' := by
  unfold nextC at he
  split at he
  · rename_i h0
    split at he
    · cases he
    · rename_i hl
      have hk0 := entry_ok w b g n c m k a h hk ha h0
      rw [Bool.eq_false_iff.2 hl] at hk0
      obtain ⟨r, hr⟩ : ∃ l, (m k).toNat.testBit 2 = l := ⟨_, rfl⟩
      obtain ⟨ww, hww⟩ : ∃ l, (m k).toNat.testBit 3 = l := ⟨_, rfl⟩
      obtain ⟨f, hff⟩ : ∃ f : Int, (((m k).toNat / 256 % 64 : Nat) : Int) = f := ⟨_, rfl⟩
      rw [hr, hww, hff] at hk0
      rw [hff]
      have HK := Lib.hid hk0
      clear hk0 h ha h0 hl hr hww hff he
      go_enter Try.func72, Try.ntmps72
      go_wp2_with (go_at_call 66; refine HK.out.mono ?_; rintro e w1 ⟨rfl, hb1⟩)
      go_ret2
      exact ⟨rfl, bal hb1 _⟩
  · rename_i h0
    exact absurd he h0
end Go.Proofs.Ytgfidbjhihignaa
