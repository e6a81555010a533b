import Derived.Test.YtchjfeafkmpmbaaGreatDoorHe1
namespace Go.Proofs.YtchjfeafkmpmbaaGreatDoor
set_option linter.unusedVariables false
set_option linter.unusedSimpArgs false
set_option maxRecDepth 100000
set_option maxHeartbeats 8000000
open Go.ChangeShapes Go.WideShapes Go.ChangeAt Go.RowKit Go.Shelf
namespace HdS
open TabS (Cp Sn zC mayC sizS getR getN SameS setN setM rowsS heldA hdsC heldL)
variable {W w w' : World} {s : Sh} {hb rhb n n' t : Nat} {L M : List Sn} {l : List Nod}
theorem mask_key : ∀ r : Nat, r < 8 → ∀ m : Nat, m < 8 → CX.hasB (r : Int) (CX.maskN (r : Int) (m : Int)) = true ∧ 0 ≤ CX.maskN (r : Int) (m : Int) ∧ CX.maskN (r : Int) (m : Int) ≤ 7 := by decide +kernel
theorem mask_has {r m : Int} (hr : 0 ≤ r ∧ r ≤ 7) (hm : 0 ≤ m ∧ m ≤ 7) : CX.hasB r (CX.maskN r m) = true ∧ 0 ≤ CX.maskN r m ∧ CX.maskN r m ≤ 7 := by
 have := mask_key r.toNat (by omega) m.toNat (by omega)
 rwa [Int.toNat_of_nonneg hr.1, Int.toNat_of_nonneg hm.1] at this
theorem self_key : ∀ r : Nat, r < 8 → CX.hasB (r : Int) (r : Int) = true := by decide +kernel
theorem self_has {r : Int} (hr : 0 ≤ r ∧ r ≤ 7) : CX.hasB r r = true := by
 have := self_key r.toNat (by omega)
 rwa [Int.toNat_of_nonneg hr.1] at this
structure OfC (c r : Cp) : Prop where
 a : r.a = c.a
 b : r.b = c.b
 has : CX.hasB c.c r.c = true
 c0 : 0 ≤ c.c ∧ c.c ≤ 7
 r0 : 0 ≤ r.c ∧ r.c ≤ 7
theorem rights_of {c : Cp} (hm : mayC c = true) : 0 ≤ c.c ∧ c.c ≤ 7 := by
 obtain ⟨a, b, x, d, e, f, g, i⟩ := c
 show 0 ≤ x ∧ x ≤ 7
 have hm' : CX.capB a b x d e f g i = true := hm
 unfold CX.capB at hm'
 repeat' split at hm'
 all_goals simp only [Bool.and_eq_true, decide_eq_true_eq, CX.mayB, Bool.false_eq_true] at hm'
 all_goals omega
theorem copy_of {c : Cp} (hc : mayC c = true) {m : Int} (h : (cpy c m).2 = 0) : OfC c (cpy c m).1 := by
 have hr := rights_of hc
 rcases CX.copyX_ways (toX c) m with ⟨_, h1, _⟩ | ⟨_, _, hm, hw⟩
 ·have : (cpy c m).2 = (CX.copyX (toX c) m).2 := rfl
  omega
 ·have hm' : 0 ≤ m ∧ m ≤ 7 := of_decide_eq_true hm
  have hk := mask_has hr hm'
  rcases hw with ⟨_, _, e⟩ | ⟨_, e⟩ | ⟨_, e⟩
  ·have e' : (cpy c m).1 = ofX _ := congrArg ofX e
   rw [e']
   exact ⟨rfl, rfl, hk.1, hr, hk.2⟩
  ·have e' : (cpy c m).1 = ofX _ := congrArg ofX e
   rw [e']
   exact ⟨rfl, rfl, hk.1, hr, hk.2⟩
  ·have e' : (cpy c m).1 = ofX _ := congrArg ofX e
   rw [e']
   exact ⟨rfl, rfl, self_has hr, hr, hr⟩
theorem mint_of {c : Cp} (hc : mayC c = true) {m : Int} {d : Nat} (h : (mnt c m d).2 = 0) : OfC c (mnt c m d).1 := by
 have e2 : (mnt c m d).2 = (CX.mintX (toX c) m d).2 := rfl
 have e1 : (mnt c m d).1 = ofX (CX.mintX (toX c) m d).1 := rfl
 rw [e2] at h
 rw [e1]
 have hk : (cpy c m).2 = 0 → OfC c (cpy c m).1 := copy_of hc
 have k1 : (cpy c m).1 = ofX (CX.copyX (toX c) m).1 := rfl
 have k2 : (cpy c m).2 = (CX.copyX (toX c) m).2 := rfl
 rw [k1, k2] at hk
 clear k1 k2 e1 e2
 unfold CX.mintX at h ⊢
 generalize CX.copyX (toX c) m = q at *
 have K : ∀ hq : q.2 = 0, OfC c (ofX q.1) := hk
 by_cases hq : q.2 = 0
 ·have K := K hq
  rw [if_neg (fun e => e hq)] at h ⊢
  by_cases h8 : (toX c).a = 8
  ·rw [if_pos h8] at h ⊢
   by_cases c1 : 16777215 < (d : Int)
   ·rw [if_pos c1] at h; exact absurd h (by decide)
   ·rw [if_neg c1] at h ⊢
    by_cases c2 : q.1.d ≠ 0
    ·rw [if_pos c2] at h; exact absurd h (by decide)
    ·rw [if_neg c2]; exact ⟨K.a, K.b, K.has, K.c0, K.r0⟩
  ·rw [if_neg h8] at h ⊢
   by_cases h2 : (toX c).a = 2
   ·rw [if_pos h2] at h ⊢
    by_cases c1 : 65536 ≤ (d : Int)
    ·rw [if_pos c1] at h; exact absurd h (by decide)
    ·rw [if_neg c1] at h ⊢
     by_cases c2 : CX.capB q.1.a q.1.b q.1.c q.1.d ((d : Int) % 4096) ((d : Int) / 4096) q.1.g q.1.h = true
     ·rw [if_pos c2]; exact ⟨K.a, K.b, K.has, K.c0, K.r0⟩
     ·rw [if_neg c2] at h; exact absurd h (by decide)
   ·rw [if_neg h2] at h ⊢
    by_cases c1 : (d : Int) ≠ 0
    ·rw [if_pos c1] at h; exact absurd h (by decide)
    ·rw [if_neg c1]; exact K
 ·rw [if_pos hq] at h
  exact (hq h).elim
theorem der_zero {o i p j : Int} {r : Cp × Int} (h : derN L l o i p j r = 0) : pairN L o i p j = 0 ∧ r.2 = 0 ∧ someB r.1 = true ∧ derL L o i p j r = setM L p j r.1 ∧ derT L l o i p j r = (childA l o i p j).1 := by
 unfold derN at h
 by_cases h1 : pairN L o i p j = 0
 ·rw [if_neg (fun e => e h1)] at h
  by_cases h2 : r.2 = 0
  ·rw [if_neg (fun e => e h2)] at h
   unfold childN childF at h
   rw [h1] at h
   have hs : someB r.1 = true := by
    cases hb : someB r.1 with
    | true => rfl
    | false => rw [hb] at h; simp at h
   refine ⟨h1, h2, hs, ?_, ?_⟩
   ·unfold derL chL chB
    rw [if_pos ⟨h1, h2⟩, hs, decide_eq_true h1]
    rfl
   ·unfold derT chT chB
    rw [if_pos ⟨h1, h2⟩, hs, decide_eq_true h1]
    rfl
  ·rw [if_pos h2] at h; exact (h2 h).elim
 ·rw [if_pos h1] at h; exact (h1 h).elim
theorem der_no (hI : Inv L l) {o i p j : Int} {r : Cp × Int} (h0 : pairN L o i p j = 0 ∧ r.2 = 0 → chB L o i p j r.1 = true → (childA l o i p j).2 = 0) (h : derN L l o i p j r ≠ 0) : derL L o i p j r = L ∧ derT L l o i p j r = l := by
 unfold derL derT
 by_cases hc : pairN L o i p j = 0 ∧ r.2 = 0
 ·rw [if_pos hc, if_pos hc]
  unfold chL chT
  cases hb : chB L o i p j r.1 with
  | false => exact ⟨rfl, rfl⟩
  | true =>
   exfalso
   apply h
   have h3 := h0 hc hb
   have hs : someB r.1 = true := by unfold chB at hb; rw [Bool.and_eq_true] at hb; exact hb.2
   unfold derN childN childF
   rw [if_neg (fun e => e hc.1), if_neg (fun e => e hc.2), hc.1, hs, h3]
   rfl
 ·rw [if_neg hc, if_neg hc]
  exact ⟨rfl, rfl⟩
theorem ins_eq {α : Type} (y : α) : ∀ (k : Nat) (l : List α), k ≤ l.length → l.insertIdx k y = l.take k ++ y :: l.drop k
 | 0, l, _ => by simp
 | k + 1, [], h => by simp at h
 | k + 1, x :: l, h => by
  rw [List.insertIdx_succ_cons, ins_eq y k l (by simpa using h)]
  rfl
theorem child_first {o i p j : Int} (hO : Once (childA l o i p j).1) (hon : (idx l o i).isSome = true) (hp : ¬ (idx l p j).isSome = true) : ∃ q, belowA (childA l o i p j).1 o i = q :: belowA l o i ∧ q.o = p ∧ q.i = j := by
 obtain ⟨k, hk⟩ := Option.isSome_iff_exists.1 hon
 obtain ⟨x, hx, e1, e2⟩ := idx_some hk
 have hkl := (lgs hx).1
 unfold childA at hO ⊢
 rw [hk] at hO ⊢
 simp only at hO ⊢
 rw [if_neg hp] at hO ⊢
 simp only at hO ⊢
 rw [hx] at hO ⊢
 simp only [Option.map_some, Option.getD_some] at hO ⊢
 have hnk : (l.insertIdx (k + 1) ⟨p, j, x.d + 1⟩)[k]? = some x := by rw [List.getElem?_insertIdx_of_lt (by omega)]; exact hx
 have hdr : (l.insertIdx (k + 1) ⟨p, j, x.d + 1⟩).drop (k + 1) = ⟨p, j, x.d + 1⟩ :: l.drop (k + 1) := by
  rw [ins_eq _ _ _ (by omega), List.drop_append_of_le_length (by rw [List.length_take]; omega), List.drop_of_length_le (by rw [List.length_take]; omega)]
  rfl
 have hidx : idx (l.insertIdx (k + 1) ⟨p, j, x.d + 1⟩) o i = some k := by
  obtain ⟨k', hk'⟩ := Option.isSome_iff_exists.1 (in_mem.2 ⟨x, List.mem_of_getElem? hnk, e1, e2⟩)
  obtain ⟨z, hz, z1, z2⟩ := idx_some hk'
  rw [hk', hO k' k z x hz hnk (by rw [z1, e1]) (by rw [z2, e2])]
 refine ⟨⟨p, j, x.d + 1⟩, ?_, rfl, rfl⟩
 unfold belowA
 rw [hidx, hk]
 simp only
 unfold belowN
 rw [hdr, hnk, hx]
 simp only [Option.map_some, Option.getD_some]
 rw [List.takeWhile_cons_of_pos (by simp only [decide_eq_true_eq]; omega)]
 rfl
theorem child_len {o i p j : Int} (hon : (idx l o i).isSome = true) (hp : ¬ (idx l p j).isSome = true) : (childA l o i p j).1.length = l.length + 1 := by
 obtain ⟨k, hk⟩ := Option.isSome_iff_exists.1 hon
 unfold childA
 rw [hk]
 simp only
 rw [if_neg hp]
 simp only
 obtain ⟨x, hx, _⟩ := idx_some hk
 have := (lgs hx).1
 rw [List.length_insertIdx, if_pos (by omega)]
end HdS
end Go.Proofs.YtchjfeafkmpmbaaGreatDoor
