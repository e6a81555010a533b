/- The law DecodeStrict. -/
import Derived.Test.YtahagcghbeeajaaDcF
import Derived.Test.YtahagcghbeeajaaLowL
import Derived.Deep.Cut
namespace Go.Proofs.Ytahagcghbeeajaa
set_option linter.unusedVariables false
set_option linter.unusedSimpArgs false
open Go.ChangeShapes Go.WideShapes Go.ChangeAt Go.RowKit Go.Shelf

theorem call_range {w : World} {q : Nat} {n : Int} {a : Nat → Int} (h : CallAt w q n a) : w.rangeAt q 0 (callA n a).toList := by
  intro j v hv
  rw [Nat.zero_add, row_cell h]
  simpa using hv
theorem CallAt.there {w : World} {q : Nat} {n : Int} {a : Nat → Int} (h : CallAt w q n a) : w.there q 0 7 := by
  intro i hi
  refine ⟨?_, frozen_of_row w q _ _ _ h⟩
  rw [row_cell h]
  have e : (callA n a).size = 7 := rfl
  rw [Array.getElem?_eq_getElem (by omega)]
  rfl
theorem call_one (n : Int) (a : Nat → Int) : (callA n a).all (·.oneCell') = true := by
  kernel_rfl
theorem box_ord (W : World) (o : Nat → Int) : OrdAt ((W.alloc (.cells (ordA zO) 29)).setCells W.heap.size 0 (ordA o).toList) W.heap.size o ∧ Below W.heap.size W ((W.alloc (.cells (ordA zO) 29)).setCells W.heap.size 0 (ordA o).toList) := by
  obtain ⟨h1, h2⟩ := ord_put o (ord_new W zO)
  exact ⟨h1, (bal (Below.refl _ _) _).trans (h2.below (Nat.le_refl _) (by simp))⟩
def zW : Nat → Int := fun _ => 0
theorem zeroCall : ∀ w, (zeroValue 25).run Try.prog w = .ok (.agg (callA 0 zW)) w := fun _ => by kernel_rfl
theorem callA_at (n : Int) (a : Nat → Int) (k : Nat) (hk : k < 6) : (callA n a)[1 + k]? = some (.int .u64 (a k)) := by
  obtain rfl | rfl | rfl | rfl | rfl | rfl : k = 0 ∨ k = 1 ∨ k = 2 ∨ k = 3 ∨ k = 4 ∨ k = 5 := by omega
  all_goals rfl
theorem callA_set (n : Int) (a : Nat → Int) (k : Nat) (hk : k < 6) (v : Int) : (callA n a).setIfInBounds (1 + k) (.int .u64 v) = callA n (up a k v) := by
  obtain rfl | rfl | rfl | rfl | rfl | rfl : k = 0 ∨ k = 1 ∨ k = 2 ∨ k = 3 ∨ k = 4 ∨ k = 5 := by omega
  all_goals rfl
theorem CallAt.set {w : World} {q : Nat} {n n' : Int} {a a' : Nat → Int} (i : Nat) (v : Value) (h : CallAt w q n a) (e : (callA n a).setIfInBounds i v = callA n' a') : CallAt (w.setCell ⟨q, i, none⟩ v) q n' a' := by
  unfold CallAt
  rw [← e]
  exact Go.heap_setCell_same w q i _ _ _ h
theorem call_put {w : World} {q : Nat} {m n : Int} {b : Nat → Int} (a : Nat → Int) (h : CallAt w q m b) : CallAt (w.setCells q 0 (callA n a).toList) q n a ∧ OneOnly q w (w.setCells q 0 (callA n a).toList) :=
  ⟨((((((h.set (n' := n) (a' := b) 0 (.int .u64 n) rfl).set (n' := n) (a' := up b 0 (a 0)) 1 (.int .u64 (a 0)) rfl).set (n' := n) (a' := up (up b 0 (a 0)) 1 (a 1)) 2 (.int .u64 (a 1)) rfl).set (n' := n) (a' := up (up (up b 0 (a 0)) 1 (a 1)) 2 (a 2)) 3 (.int .u64 (a 2)) rfl).set (n' := n) (a' := up (up (up (up b 0 (a 0)) 1 (a 1)) 2 (a 2)) 3 (a 3)) 4 (.int .u64 (a 3)) rfl).set (n' := n) (a' := up (up (up (up (up b 0 (a 0)) 1 (a 1)) 2 (a 2)) 3 (a 3)) 4 (a 4)) 5 (.int .u64 (a 4)) rfl).set (n' := n) (a' := up (up (up (up (up (up b 0 (a 0)) 1 (a 1)) 2 (a 2)) 3 (a 3)) 4 (a 4)) 5 (a 5)) 6 (.int .u64 (a 5)) rfl,
    (((((((OneOnly.refl (q := q) (w := w)).set 0 _).set 1 _).set 2 _).set 3 _).set 4 _).set 5 _).set 6 _⟩
theorem box_call (W : World) (n : Int) (a : Nat → Int) : CallAt ((W.alloc (.cells (callA 0 zW) 25)).setCells W.heap.size 0 (callA n a).toList) W.heap.size n a ∧ Below W.heap.size W ((W.alloc (.cells (callA 0 zW) 25)).setCells W.heap.size 0 (callA n a).toList) := by
  obtain ⟨h1, h2⟩ := call_put (n := n) a (call_new W 0 zW)
  exact ⟨h1, (bal (Below.refl _ _) _).trans (h2.below (Nat.le_refl _) (by simp))⟩
set_option maxRecDepth 100000 in
set_option maxHeartbeats 2000000 in
theorem strict_any (n : Nat) (a : Nat → Int) (i v : Int) (hn : (n : Int) ≤ 18446744073709551615) (ha : ∀ j < 6, 0 ≤ a j ∧ a j ≤ 18446744073709551615) (hi : -9223372036854775808 ≤ i ∧ i ≤ 9223372036854775807) (hv : 0 ≤ v ∧ v ≤ 18446744073709551615) (W : World) :
    Calls Try.prog 6 #[.agg (callA n a), .int .i64 i, .int .u64 v] W fun e w' => e = .returned (.bool true) ∧ Below W.heap.size W w' := by
  obtain ⟨k, hk⟩ := Int.eq_ofNat_of_zero_le (lowI_0 i 6 (by decide))
  have hk6 : k < 6 := by have := lowI_1 i 6 (by decide); omega
  have hz := zeroOrd
  have hzc := zeroCall
  have HK := Lib.hid hk
  have HI := Lib.hid hi
  obtain ⟨⟨o, c⟩, hm⟩ : ∃ z, decM n a = z := ⟨_, rfl⟩
  have hd : ∀ w, Calls Try.prog 7 #[.agg (callA n a)] w fun e w' => e = .returned (.tuple #[ordV o, .int .i64 c]) ∧ Below w.heap.size w w' := fun w => by
    have := decode_any n a w
    rw [hm] at this
    exact this
  have HD := Lib.hid hd
  have HM := Lib.hid hm
  clear hk hi hd hm
  go_enter Try.func6, Try.ntmps6
  go_upto_region 3 with (first
    | (go_at_call 13; refine (low_any i 6 _ HI.out (by decide) (by decide)).mono ?_; rw [HK.out]; rintro e w7 ⟨rfl, rfl⟩)
    | (refine wpList_load_mid rfl 25 _ rfl W.heap.size 0 rfl (callA n a).toList _ (call_range (call_new W n a)) Try.underlying25 rfl (by kernel_rfl) ?_; rw [Array.toArray_toList])
    | (go_at_call 7; refine (HD.out _).mono ?_; rintro e w1 ⟨rfl, hb1⟩)
    | (refine wpList_store_mid rfl 29 (.tmp 8) (.tmp 18) rfl w1.heap.size 0 (ordA o) rfl rfl (ord_new w1 zO).there (by kernel_rfl) (ord_one o) ?_; obtain ⟨ho2, hb2⟩ := box_ord w1 o; generalize (w1.alloc (.cells (ordA zO) 29)).setCells w1.heap.size 0 (ordA o).toList = w2 at ho2 hb2 ⊢))
  have hca : CallAt w2 W.heap.size n a := (call_new W n a).call (bgo hb1 hb2)
  have hbW : Below W.heap.size W w2 := bgo (bgo (bal (Below.refl _ _) _) hb1) hb2
  have hs1 : W.heap.size < w1.heap.size := by have := hb1.size; simp at this; omega
  have HO2 := Lib.hid ho2
  have HC2 := Lib.hid hca
  have HB2 := Lib.hid hbW
  have hw12 := hb2.size
  have hl2 := ho2.lt
  clear ho2 hb2 hca hbW hb1 HD
  obtain ⟨b8, hb8⟩ : ∃ b, w1.heap.size = b := ⟨_, rfl⟩
  rw [hb8] at HO2 hs1 hw12 hl2 ⊢
  clear hb8
  by_cases hc : c = 0
  · subst hc
    obtain ⟨⟨p, f⟩, hm2⟩ : ∃ z, decM n (up a k v) = z := ⟨_, rfl⟩
    have hd2 : ∀ w, Calls Try.prog 7 #[.agg (callA n (up a k v))] w fun e w' => e = .returned (.tuple #[ordV p, .int .i64 f]) ∧ Below w.heap.size w w' := fun w => by
      have := decode_any n (up a k v) w
      rw [hm2] at this
      exact this
    have HD2 := Lib.hid hd2
    have HM2 := Lib.hid hm2
    clear hd2 hm2
    go_upto_region 6 with (first
      | (refine wpList_load_mid rfl 25 _ rfl W.heap.size 0 rfl (callA n a).toList _ (call_range HC2.out) Try.underlying25 rfl (by kernel_rfl) ?_; rw [Array.toArray_toList])
      | (refine wpList_store_mid rfl 25 (.tmp 10) (.tmp 23) rfl w2.heap.size 0 (callA n a) rfl rfl (call_new w2 0 zW).there (by kernel_rfl) (call_one n a) ?_; obtain ⟨hc3, hb3⟩ := box_call w2 n a; generalize (w2.alloc (.cells (callA 0 zW) 25)).setCells w2.heap.size 0 (callA n a).toList = w3 at hc3 hb3 ⊢))
    have hl3 : w2.heap.size < w3.heap.size := (Array.getElem?_eq_some_iff.1 hc3).1
    have hcl : w3.cell? ⟨w2.heap.size, 1 + k, none⟩ = some (.int .u64 (a k)) := (row_cell hc3 _).trans (callA_at n a k hk6)
    have hfz := fun j => frozen_of_row w3 w2.heap.size j _ _ hc3
    have k0 : (0 : Int) ≤ k := by omega
    have k6 : (k : Int) < 6 := by omega
    have HC3 := Lib.hid hc3
    have HB3 := Lib.hid hb3
    clear hc3 hb3
    go_upto_region 7 with fail
    have hc4 : CallAt (w3.setCell ⟨w2.heap.size, 1 + k, none⟩ (.int .u64 v)) w2.heap.size n (up a k v) := HC3.out.set _ _ (callA_set n a k hk6 v)
    have hon4 : OneOnly w2.heap.size w3 (w3.setCell ⟨w2.heap.size, 1 + k, none⟩ (.int .u64 v)) := OneOnly.refl.set _ _
    generalize w3.setCell ⟨w2.heap.size, 1 + k, none⟩ (.int .u64 v) = w4 at hc4 hon4 ⊢
    have hb24 : Below w2.heap.size w2 w4 := HB3.out.trans (hon4.below (Nat.le_refl _) (by omega))
    have ho4 := HO2.out.call hb24
    have hca4 := HC2.out.call hb24
    have hbW4 : Below W.heap.size W w4 := bgo HB2.out hb24
    have HC4 := Lib.hid hc4
    clear hcl hfz hc4 hon4 HB3 HC3
    go_upto_region 8 with (first
      | (refine wpList_load_mid rfl 25 _ rfl w2.heap.size 0 rfl (callA n (up a k v)).toList _ (call_range HC4.out) Try.underlying25 rfl (by kernel_rfl) ?_; rw [Array.toArray_toList])
      | (go_at_call 7; refine (HD2.out _).mono ?_; rintro e w5 ⟨rfl, hb5⟩)
      | (refine wpList_store_mid rfl 29 (.tmp 11) (.tmp 31) rfl w5.heap.size 0 (ordA p) rfl rfl (ord_new w5 zO).there (by kernel_rfl) (ord_one p) ?_; obtain ⟨ho6, hb6⟩ := box_ord w5 p; generalize (w5.alloc (.cells (ordA zO) 29)).setCells w5.heap.size 0 (ordA p).toList = w6 at ho6 hb6 ⊢))
    have hb46 : Below w4.heap.size w4 w6 := bgo hb5 hb6
    have hoo := ho4.call hb46
    have hcc := hca4.call hb46
    have hbW6 : Below W.heap.size W w6 := bgo hbW4 hb46
    have hcl : w6.cell? ⟨W.heap.size, 1 + k, none⟩ = some (.int .u64 (a k)) := (row_cell hcc _).trans (callA_at n a k hk6)
    have HBW := Lib.hid hbW6
    have hupk : v = a k → up a k v = a := fun h => funext fun j => by
      unfold up
      by_cases hj : j = k
      · rw [if_pos hj, h, hj]
      · rw [if_neg hj]
    clear hb46 hb5 hb6 ho4 hca4 hbW4 hbW6 HC4 HC2 HO2 HB2
    by_cases hf : f = 0
    · subst hf
      obtain ⟨x0, x1, x2, x3, x4, x5, x6, x7, x8, x9, x10, x11⟩ := ho6.cells
      obtain ⟨y0, y1, y2, y3, y4, y5, y6, y7, y8, y9, y10, y11⟩ := hoo.cells
      by_cases hvk : v = a k
      · have hpo : p = o := by
          have h1 := HM2.out
          rw [hupk hvk, HM.out] at h1
          exact (congrArg Prod.fst h1).symm
        subst hpo
        subst hvk
        have hq : ∀ w, (binOp .eql 29 (.agg #[.int .i64 (p 0), .int .i64 (p 1), .int .i64 (p 2), .int .i64 (p 3), .int .i64 (p 4), .int .i64 (p 5), .int .i64 (p 6), .int .u64 (p 7), .int .u64 (p 8), .int .u64 (p 9), .int .u64 (p 10), .int .u64 (p 11)]) (.agg #[.int .i64 (p 0), .int .i64 (p 1), .int .i64 (p 2), .int .i64 (p 3), .int .i64 (p 4), .int .i64 (p 5), .int .i64 (p 6), .int .u64 (p 7), .int .u64 (p 8), .int .u64 (p 9), .int .u64 (p 10), .int .u64 (p 11)])).run Try.prog w = .ok (.bool true) w := fun w => by
          have := eqO p p w
          rw [(eqB_iff p p).2 (fun _ _ => rfl)] at this
          exact this
        clear ho6 hoo hcc hupk
        go_upto_region 9 with fail
        go_region_with (first
          | (go_at_call 10; refine (awake28 _).mono ?_; rintro e w9 ⟨rfl, hb9⟩))
        all_goals go_wp2
        all_goals go_ret
        all_goals exact ⟨rfl, bgo HBW.out.drew hb9⟩
      · have hpo : eqB p o = false := by
          cases h : eqB p o with
          | false => rfl
          | true =>
            have := dec_inj n a (up a k v) o p k hk6 ha (fun j hj => by unfold up; split; exact hv; exact ha j hj) HM.out HM2.out h
            unfold up at this
            rw [if_pos rfl] at this
            exact absurd this hvk
        have hvb : (v == a k) = false := beq_eq_false_iff_ne.2 hvk
        have hq : ∀ w, (binOp .eql 29 (.agg #[.int .i64 (p 0), .int .i64 (p 1), .int .i64 (p 2), .int .i64 (p 3), .int .i64 (p 4), .int .i64 (p 5), .int .i64 (p 6), .int .u64 (p 7), .int .u64 (p 8), .int .u64 (p 9), .int .u64 (p 10), .int .u64 (p 11)]) (.agg #[.int .i64 (o 0), .int .i64 (o 1), .int .i64 (o 2), .int .i64 (o 3), .int .i64 (o 4), .int .i64 (o 5), .int .i64 (o 6), .int .u64 (o 7), .int .u64 (o 8), .int .u64 (o 9), .int .u64 (o 10), .int .u64 (o 11)])).run Try.prog w = .ok (.bool false) w := fun w => by
          have := eqO p o w
          rw [hpo] at this
          exact this
        obtain ⟨ak, hak⟩ : ∃ z, a k = z := ⟨_, rfl⟩
        rw [hak] at hvb hcl
        clear ho6 hoo hcc hupk hpo hak
        go_upto_region 9 with fail
        go_region_with (first
          | (go_at_call 10; refine (awake28 _).mono ?_; rintro e w9 ⟨rfl, hb9⟩))
        all_goals go_wp2
        all_goals go_ret
        all_goals exact ⟨rfl, bgo HBW.out.drew hb9⟩
    · have hp0 : p = zO := by
        have := fl_z n (up a k v) (by rw [HM2.out]; exact hf)
        rw [HM2.out] at this
        exact this
      have hvk : ¬ v = a k := fun h => by
        have h1 := HM2.out
        rw [hupk h, HM.out] at h1
        exact hf (congrArg Prod.snd h1).symm
      subst hp0
      have hvb : (v != a k) = true := bne_iff_ne.2 hvk
      have hfb : (f == 0) = false := beq_eq_false_iff_ne.2 hf
      obtain ⟨x0, x1, x2, x3, x4, x5, x6, x7, x8, x9, x10, x11⟩ := ho6.cells
      simp only [zO] at x0 x1 x2 x3 x4 x5 x6 x7 x8 x9 x10 x11
      have hzz : ∀ w, (zeroValue 29).run Try.prog w = .ok (.agg #[.int .i64 0, .int .i64 0, .int .i64 0, .int .i64 0, .int .i64 0, .int .i64 0, .int .i64 0, .int .u64 0, .int .u64 0, .int .u64 0, .int .u64 0, .int .u64 0]) w := zeroOrd
      have hq : ∀ w, (binOp .eql 29 (.agg #[.int .i64 0, .int .i64 0, .int .i64 0, .int .i64 0, .int .i64 0, .int .i64 0, .int .i64 0, .int .u64 0, .int .u64 0, .int .u64 0, .int .u64 0, .int .u64 0]) (.agg #[.int .i64 0, .int .i64 0, .int .i64 0, .int .i64 0, .int .i64 0, .int .i64 0, .int .i64 0, .int .u64 0, .int .u64 0, .int .u64 0, .int .u64 0, .int .u64 0])).run Try.prog w = .ok (.bool true) w := fun w => eqO zO zO w
      obtain ⟨ak, hak⟩ : ∃ z, a k = z := ⟨_, rfl⟩
      rw [hak] at hvb hcl
      clear ho6 hoo hcc hupk hak hz
      go_wp2_with (first
        | (go_at_call 10; refine (awake28 _).mono ?_; rintro e w9 ⟨rfl, hb9⟩))
      go_ret
      exact ⟨rfl, bgo HBW.out hb9⟩
  · have hcb : (c == 0) = false := beq_eq_false_iff_ne.2 hc
    go_wp2_with (go_at_call 10; refine (awake28 _).mono ?_; rintro e w9 ⟨rfl, hb9⟩)
    go_ret
    exact ⟨rfl, bgo HB2.out hb9⟩
end Go.Proofs.Ytahagcghbeeajaa
