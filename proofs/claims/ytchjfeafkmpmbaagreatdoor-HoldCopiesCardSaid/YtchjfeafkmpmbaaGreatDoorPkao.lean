import Derived.Test.YtchjfeafkmpmbaaGreatDoorPkan
import Derived.LoopIn
import Derived.LoopTactic
import Derived.Outline
import Derived.Stop.RegionWithIn
import Derived.Sort.QuietIn
import Derived.Lib.SmallJoins
namespace Go.Proofs.YtchjfeafkmpmbaaGreatDoor
set_option linter.unusedVariables false
set_option linter.unusedSimpArgs false
set_option maxRecDepth 100000
set_option maxHeartbeats 8000000
open Lib (hid)
section
open Go.RowKit Go.Shelf
attribute [local go_sem] Oper.semAt_some
def pos (ps : List Nat) : Value → Nat
 | .pointer (some a) => ps.idxOf a.block
 | _ => ps.length
theorem idx_of {ps : List Nat} (hi : ∀ (k j p : Nat), ps[k]? = some p → ps[j]? = some p → k = j) {j p : Nat} (h : ps[j]? = some p) : ps.idxOf p = j := by
 have hlt : ps.idxOf p < ps.length := List.idxOf_lt_length_of_mem (List.mem_of_getElem? h)
 refine hi _ _ p ?_ h
 rw [List.getElem?_eq_getElem hlt, List.getElem_idxOf hlt]
theorem pos_at {ps : List Nat} (hi : ∀ (k j p : Nat), ps[k]? = some p → ps[j]? = some p → k = j) (j : Nat) (hj : j ≤ ps.length) : pos ps (ptrV ps[j]?) = j := by
 cases h : ps[j]? with
 | none =>
  have := List.getElem?_eq_none_iff.1 h
  show ps.length = j
  omega
 | some p => exact idx_of hi h
def belowN (l : List Nod) (k : Nat) : Nat := ((l.drop (k + 1)).takeWhile fun x => decide (((l[k]?).map Nod.d).getD 0 < x.d)).length
theorem takeWhile_in {α : Type} {q : α → Bool} : ∀ {a : List α} {j : Nat}, j < (a.takeWhile q).length → ∃ x, a[j]? = some x ∧ q x = true
 | [], j, h => by simp at h
 | x :: a, j, h => by
  rw [List.takeWhile_cons] at h
  split at h
  ·rename_i hq
   cases j with
   | zero => exact ⟨x, rfl, hq⟩
   | succ j => exact takeWhile_in (a := a) (by simpa using h)
  ·simp at h
theorem takeWhile_out {α : Type} {q : α → Bool} : ∀ {a : List α} {x : α}, a[(a.takeWhile q).length]? = some x → q x = false
 | [], x, h => by simp at h
 | y :: a, x, h => by
  rw [List.takeWhile_cons] at h
  split at h
  ·exact takeWhile_out (a := a) (by simpa using h)
  ·rename_i hq
   simp at h
   subst h
   simpa using hq
theorem takeWhile_le {α : Type} (q : α → Bool) : ∀ (a : List α), (a.takeWhile q).length ≤ a.length
 | [] => by simp
 | x :: a => by
  rw [List.takeWhile_cons]
  split
  ·have := takeWhile_le q a
   simpa using this
  ·simp
theorem belowN_in {l : List Nod} {k c : Nat} {y : Nod} (hy : l[k]? = some y) (h : c < belowN l k) : ∃ x, l[k + 1 + c]? = some x ∧ y.d < x.d := by
 obtain ⟨x, h1, h2⟩ := takeWhile_in h
 rw [List.getElem?_drop] at h1
 exact ⟨x, h1, by simpa [hy] using h2⟩
theorem belowN_out {l : List Nod} {k : Nat} {x y : Nod} (hy : l[k]? = some y) (h : l[k + 1 + belowN l k]? = some x) : x.d ≤ y.d := by
 have := takeWhile_out (a := l.drop (k + 1)) (q := fun x => decide (((l[k]?).map Nod.d).getD 0 < x.d)) (x := x) (by rw [List.getElem?_drop]; exact h)
 simp [hy] at this
 omega
theorem belowN_le {l : List Nod} {k : Nat} (hk : k < l.length) : k + 1 + belowN l k ≤ l.length := by
 have := takeWhile_le (fun x => decide (((l[k]?).map Nod.d).getD 0 < x.d)) (l.drop (k + 1))
 rw [List.length_drop] at this
 unfold belowN
 omega
theorem below_in (n : Nat) (p : Option Addr) (w : World) :
  CallsIn Fence.wide n Tryz.prog 104 #[.pointer p] w fun e w' => e = .returned (.func (.func 121) #[] #[.pointer (some ⟨w.heap.size, 0, none⟩)]) ∧ w' = w.alloc (.cells #[.pointer p] 119) := by
 refine callsIn_of_wp Tryz.func104 rfl trivial ?_ rfl
 simp only [Tryz.ntmps104, List.size_toArray, List.length_cons, List.length_nil, Nat.reduceAdd, Nat.reduceSub, Array.replicate_succ, Array.replicate_zero, List.push_toArray, List.append_toArray, List.nil_append, List.cons_append]
 gi_wp2
 go_ret
 exact ⟨rfl, rfl⟩
structure Rows (W : World) (ps : List Nat) (l : List Nod) (k c Bn pk : Nat) : Prop where
 box : W.cell? ⟨Bn, 0, none⟩ = some (.pointer (some ⟨pk, 0, none⟩))
 next : ∀ (j p : Nat), ps[j]? = some p → W.cell? ⟨p, 4, none⟩ = some (ptrV ps[j + 1]?)
 depth : ∀ (j p : Nat) (x : Nod), ps[j]? = some p → l[j]? = some x → j = k ∨ k + c < j → W.cell? ⟨p, 2, none⟩ = some (.int .i64 x.d)
theorem below1_linked (n lb Bn : Nat) (W : World) (ps : List Nat) (l : List Nod) (k pk : Nat) (y : Nod) (hlen : ps.length = l.length) (hinj : ∀ (k j p : Nat), ps[k]? = some p → ps[j]? = some p → k = j) (hk : ps[k]? = some pk) (hy : l[k]? = some y) (J : List Nat → World → Prop)
   (hY : ∀ pre x W1, (x = k + 1 + pre.length ∧ pre.length < belowN l k) → J pre W1 → pre.length < belowN l k → YieldAt Fence.wide n Tryz.prog lb #[ptrV ps[x]?] W1 fun e W' => e = .returned (.bool true) ∧ J (pre ++ [x]) W') (h0 : J [] W) (hJd : ∀ pre W1 k, J pre W1 → J pre (W1.drewN k))
   (hJ : ∀ pre W1, J pre W1 → Rows W1 ps l k pre.length Bn pk) :
    CallsIn Fence.wide (n + 1) Tryz.prog 121 #[.func (.yield lb) #[] #[], .pointer (some ⟨Bn, 0, none⟩)] W fun e W' => (∃ v, e = .returned v) ∧ ∃ xs, xs = List.range' (k + 1) (belowN l k) ∧ J xs W' := by
  have hc := (hJ [] W h0).box
  have hc4 := (hJ [] W h0).next k pk hk
  have HY := hid hY
  have HJ := hid hJ
  have hkl : k < l.length := (lgs hy).1
  have hble := belowN_le hkl
  have HK := hid hk
  have HYK := hid hy
  have HIN := hid hinj
  clear hY hJ hk hy hinj
  refine callsIn_of_wp Tryz.func121 rfl trivial ?_ rfl
  simp only [Tryz.ntmps121, List.size_toArray, List.length_cons, List.length_nil, Nat.reduceAdd, Nat.reduceSub, Array.replicate_succ, Array.replicate_zero, List.push_toArray, List.append_toArray, List.nil_append, List.cons_append]
  gi_wp2
  clear hc hc4
  gi_loopw [3] (fun q wr => ∃ c : Nat, c ≤ belowN l k ∧ q = ptrV ps[k + 1 + c]? ∧ J (List.range' (k + 1) c) wr) (fun q _ => ps.length - pos ps q)
  case atStart => exact ⟨0, by omega, rfl, h0⟩
  case round =>
    obtain ⟨c, hc, rfl, hJc⟩ := hrel
    have hR := HJ.out _ _ hJc
    rw [List.length_range'] at hR
    have hb := hR.box
    have hdk := hR.depth k pk y HK.out HYK.out (.inl rfl)
    cases hq : ps[k + 1 + c]? with
    | none =>
      have hce : c = belowN l k := by
        rcases Nat.lt_or_ge c (belowN l k) with h | h
        · obtain ⟨x, hx, _⟩ := belowN_in HYK.out h
          obtain ⟨p, hp⟩ := get_len hlen.symm hx
          rw [hq] at hp; cases hp
        · omega
      subst hce
      rw [ptrV_none]
      gi_wp2
      gi_quiet (fail)
      gi_wp2
      go_end0
      exact ⟨⟨_, rfl⟩, _, rfl, hJd _ _ _ hJc⟩
    | some p =>
      obtain ⟨x, hx⟩ := get_len hlen hq
      have hdx := hR.depth (k + 1 + c) p x hq hx (.inr (by omega))
      have hnx := hR.next (k + 1 + c) p hq
      rw [ptrV_some]
      by_cases hlt : c < belowN l k
      · have hgt : y.d < x.d := by
          obtain ⟨x', hx', h⟩ := belowN_in HYK.out hlt
          rw [hx] at hx'; cases hx'; exact h
        have HRN := hid (show List.range' (k + 1) (c + 1) = List.range' (k + 1) c ++ [k + 1 + c] by rw [List.range'_1_concat])
        gi_wp2
        gi_quiet (fail)
        obtain ⟨fn, tmps, assign, body, hy, hR2⟩ := HY.out _ (k + 1 + c) (wr.drewN nq) ⟨by rw [List.length_range'], by rw [List.length_range']; exact hlt⟩ (hJd _ _ _ hJc) (by rw [List.length_range']; exact hlt)
        rw [hq] at hy
        dsimp only [ptrV] at hy
        have HR2 := hid hR2
        clear hR2
        gi_wp2
        refine HR2.out.mono ?_
        rintro e W' ⟨rfl, hJ'⟩
        rw [← HRN.out] at hJ'
        have hn2 := (HJ.out _ _ hJ').next (k + 1 + c) p hq
        gi_wp2
        go_roundw
        case rel => exact ⟨c + 1, by omega, rfl, hJ'⟩
        case measure =>
          rw [show k + 1 + c + 1 = k + 1 + (c + 1) from rfl, pos_at HIN.out _ (by omega)]
          have h1 : pos ps (.pointer (some ⟨p, 0, none⟩)) = k + 1 + c := by
            have := pos_at HIN.out (k + 1 + c) (by omega)
            rw [hq] at this
            exact this
          rw [h1]
          omega
      · have hce : c = belowN l k := by omega
        subst hce
        have hle : ¬ y.d < x.d := by have := belowN_out HYK.out hx; omega
        gi_wp2
        gi_quiet (fail)
        gi_wp2
        go_end0
        exact ⟨⟨_, rfl⟩, _, rfl, hJd _ _ _ hJc⟩
end
section
open Go.ChangeShapes Go.WideShapes Go.ChangeAt Go.RowKit Go.MapKept Go.ChangeMaps
theorem unlink_wA (w : World) (b p m : Nat) (o i : Int) (u0 u1 d : Value) (Q : World → Prop) (n0 : b ≠ p) (n1 : p ≠ b) (c0 : w.cell? ⟨b, 0, none⟩ = some u0) (c1 : w.cell? ⟨b, 1, none⟩ = some u1) (c2 : w.cell? ⟨b, 2, none⟩ = some (.map (some m))) (cz : ∀ k, w.frozen? ⟨b, k, none⟩ = false)
  (p0 : w.cell? ⟨p, 0, none⟩ = some (.int .i64 o)) (p1 : w.cell? ⟨p, 1, none⟩ = some (.int .i64 i)) (p2 : w.cell? ⟨p, 2, none⟩ = some d) (p3 : w.cell? ⟨p, 3, none⟩ = some (.pointer none)) (p4 : w.cell? ⟨p, 4, none⟩ = some (.pointer none)) (pz : ∀ k, w.frozen? ⟨p, k, none⟩ = false)
  (hQ : ∀ W, W.heap = ((w.setCell ⟨b, 0, none⟩ (.pointer none)).setCell ⟨b, 1, none⟩ (.pointer none)).heap → W.os = w.os → W.tape = w.tape → W.output = w.output → ∃ W', (Builtin.delete_ #[120, 30] 0 #[.map (some m), slV o i]).run Tryz.prog W = .ok (.tuple #[]) W' ∧ Q W') :
  Calls Tryz.prog 106 #[.pointer (some ⟨b, 0, none⟩), .pointer (some ⟨p, 0, none⟩)] w fun e w' => (∃ v, e = .returned v) ∧ Q w' := by
 obtain ⟨W', hr, hQ⟩ := hQ ((w.setCell ⟨b, 0, none⟩ (.pointer none)).setCell ⟨b, 1, none⟩ (.pointer none)).drew rfl rfl rfl rfl
 have HQ := hid hQ
 clear hQ
 go_enter Tryz.func106, Tryz.ntmps106
 go_upto_region 6 with fail
 go_region
 all_goals
  go_wp2
  go_end0
  exact ⟨⟨_, rfl⟩, HQ.out⟩
theorem unlink_wB (w : World) (b p m : Nat) (o i : Int) (r : Nat) (u0 u1 d : Value) (Q : World → Prop) (n0 : b ≠ p) (n1 : p ≠ b) (n2 : r ≠ p) (n3 : p ≠ r) (n4 : r ≠ b) (n5 : b ≠ r) (c0 : w.cell? ⟨b, 0, none⟩ = some u0) (c1 : w.cell? ⟨b, 1, none⟩ = some u1) (c2 : w.cell? ⟨b, 2, none⟩ = some (.map (some m))) (cz : ∀ k, w.frozen? ⟨b, k, none⟩ = false)
  (p0 : w.cell? ⟨p, 0, none⟩ = some (.int .i64 o)) (p1 : w.cell? ⟨p, 1, none⟩ = some (.int .i64 i)) (p2 : w.cell? ⟨p, 2, none⟩ = some d) (p3 : w.cell? ⟨p, 3, none⟩ = some (.pointer none)) (p4 : w.cell? ⟨p, 4, none⟩ = some (.pointer (some ⟨r, 0, none⟩))) (pz : ∀ k, w.frozen? ⟨p, k, none⟩ = false)
  (v3 : Value) (r3 : w.cell? ⟨r, 3, none⟩ = some v3) (rz : ∀ k, w.frozen? ⟨r, k, none⟩ = false)
  (hQ : ∀ W, W.heap = ((w.setCell ⟨b, 0, none⟩ (.pointer (some ⟨r, 0, none⟩))).setCell ⟨r, 3, none⟩ (.pointer none)).heap → W.os = w.os → W.tape = w.tape → W.output = w.output → ∃ W', (Builtin.delete_ #[120, 30] 0 #[.map (some m), slV o i]).run Tryz.prog W = .ok (.tuple #[]) W' ∧ Q W') :
  Calls Tryz.prog 106 #[.pointer (some ⟨b, 0, none⟩), .pointer (some ⟨p, 0, none⟩)] w fun e w' => (∃ v, e = .returned v) ∧ Q w' := by
 obtain ⟨W', hr, hQ⟩ := hQ ((w.setCell ⟨b, 0, none⟩ (.pointer (some ⟨r, 0, none⟩))).setCell ⟨r, 3, none⟩ (.pointer none)).drew.drew rfl rfl rfl rfl
 have HQ := hid hQ
 clear hQ
 go_enter Tryz.func106, Tryz.ntmps106
 go_upto_region 5 with fail
 go_region
 all_goals
  go_upto_region 6 with fail
  go_region
  all_goals
   go_wp2
   go_end0
   exact ⟨⟨_, rfl⟩, HQ.out⟩
theorem unlink_wC (w : World) (b p m : Nat) (o i : Int) (s : Nat) (u0 u1 d : Value) (Q : World → Prop) (n0 : b ≠ p) (n1 : p ≠ b) (n2 : s ≠ p) (n3 : p ≠ s) (n4 : s ≠ b) (n5 : b ≠ s) (c0 : w.cell? ⟨b, 0, none⟩ = some u0) (c1 : w.cell? ⟨b, 1, none⟩ = some u1) (c2 : w.cell? ⟨b, 2, none⟩ = some (.map (some m))) (cz : ∀ k, w.frozen? ⟨b, k, none⟩ = false)
  (p0 : w.cell? ⟨p, 0, none⟩ = some (.int .i64 o)) (p1 : w.cell? ⟨p, 1, none⟩ = some (.int .i64 i)) (p2 : w.cell? ⟨p, 2, none⟩ = some d) (p3 : w.cell? ⟨p, 3, none⟩ = some (.pointer (some ⟨s, 0, none⟩))) (p4 : w.cell? ⟨p, 4, none⟩ = some (.pointer none)) (pz : ∀ k, w.frozen? ⟨p, k, none⟩ = false)
  (v4 : Value) (s4 : w.cell? ⟨s, 4, none⟩ = some v4) (sz : ∀ k, w.frozen? ⟨s, k, none⟩ = false)
  (hQ : ∀ W, W.heap = ((w.setCell ⟨s, 4, none⟩ (.pointer none)).setCell ⟨b, 1, none⟩ (.pointer (some ⟨s, 0, none⟩))).heap → W.os = w.os → W.tape = w.tape → W.output = w.output → ∃ W', (Builtin.delete_ #[120, 30] 0 #[.map (some m), slV o i]).run Tryz.prog W = .ok (.tuple #[]) W' ∧ Q W') :
  Calls Tryz.prog 106 #[.pointer (some ⟨b, 0, none⟩), .pointer (some ⟨p, 0, none⟩)] w fun e w' => (∃ v, e = .returned v) ∧ Q w' := by
 obtain ⟨W', hr, hQ⟩ := hQ ((w.setCell ⟨s, 4, none⟩ (.pointer none)).setCell ⟨b, 1, none⟩ (.pointer (some ⟨s, 0, none⟩))).drew.drew rfl rfl rfl rfl
 have HQ := hid hQ
 clear hQ
 go_enter Tryz.func106, Tryz.ntmps106
 go_upto_region 2 with fail
 go_region
 all_goals
  go_upto_region 6 with fail
  go_region
  all_goals
   go_wp2
   go_end0
   exact ⟨⟨_, rfl⟩, HQ.out⟩
theorem unlink_wD (w : World) (b p m : Nat) (o i : Int) (s : Nat) (r : Nat) (u0 u1 d : Value) (Q : World → Prop) (n0 : b ≠ p) (n1 : p ≠ b) (n2 : s ≠ p) (n3 : p ≠ s) (n4 : s ≠ b) (n5 : b ≠ s) (n6 : r ≠ p) (n7 : p ≠ r) (n8 : r ≠ b) (n9 : b ≠ r) (n10 : s ≠ r) (n11 : r ≠ s) (c0 : w.cell? ⟨b, 0, none⟩ = some u0) (c1 : w.cell? ⟨b, 1, none⟩ = some u1) (c2 : w.cell? ⟨b, 2, none⟩ = some (.map (some m))) (cz : ∀ k, w.frozen? ⟨b, k, none⟩ = false)
  (p0 : w.cell? ⟨p, 0, none⟩ = some (.int .i64 o)) (p1 : w.cell? ⟨p, 1, none⟩ = some (.int .i64 i)) (p2 : w.cell? ⟨p, 2, none⟩ = some d) (p3 : w.cell? ⟨p, 3, none⟩ = some (.pointer (some ⟨s, 0, none⟩))) (p4 : w.cell? ⟨p, 4, none⟩ = some (.pointer (some ⟨r, 0, none⟩))) (pz : ∀ k, w.frozen? ⟨p, k, none⟩ = false)
  (v4 : Value) (s4 : w.cell? ⟨s, 4, none⟩ = some v4) (sz : ∀ k, w.frozen? ⟨s, k, none⟩ = false)
  (v3 : Value) (r3 : w.cell? ⟨r, 3, none⟩ = some v3) (rz : ∀ k, w.frozen? ⟨r, k, none⟩ = false)
  (hQ : ∀ W, W.heap = ((w.setCell ⟨s, 4, none⟩ (.pointer (some ⟨r, 0, none⟩))).setCell ⟨r, 3, none⟩ (.pointer (some ⟨s, 0, none⟩))).heap → W.os = w.os → W.tape = w.tape → W.output = w.output → ∃ W', (Builtin.delete_ #[120, 30] 0 #[.map (some m), slV o i]).run Tryz.prog W = .ok (.tuple #[]) W' ∧ Q W') :
  Calls Tryz.prog 106 #[.pointer (some ⟨b, 0, none⟩), .pointer (some ⟨p, 0, none⟩)] w fun e w' => (∃ v, e = .returned v) ∧ Q w' := by
 obtain ⟨W', hr, hQ⟩ := hQ ((w.setCell ⟨s, 4, none⟩ (.pointer (some ⟨r, 0, none⟩))).setCell ⟨r, 3, none⟩ (.pointer (some ⟨s, 0, none⟩))).drew.drew.drew rfl rfl rfl rfl
 have HQ := hid hQ
 clear hQ
 go_enter Tryz.func106, Tryz.ntmps106
 go_upto_region 2 with fail
 go_region
 all_goals
  go_upto_region 5 with fail
  go_region
  all_goals
   go_upto_region 6 with fail
   go_region
   all_goals
    go_wp2
    go_end0
    exact ⟨⟨_, rfl⟩, HQ.out⟩
end
section
open Go.ChangeShapes Go.WideShapes Go.ChangeAt Go.RowKit Go.MapKept Go.ChangeMaps
section
variable {α : Type}
theorem del_lo {a : List α} {k j : Nat} (h : j < k) : (a.eraseIdx k)[j]? = a[j]? := by rw [List.getElem?_eraseIdx, if_pos h]
theorem del_hi {a : List α} {k j : Nat} (h : k ≤ j) : (a.eraseIdx k)[j]? = a[j + 1]? := by rw [List.getElem?_eraseIdx, if_neg (by omega)]
end
theorem prv_del_lo {ps : List Nat} {k j : Nat} (h : j ≤ k) : prv (ps.eraseIdx k) j = prv ps j := by
 cases j with
 | zero => rfl
 | succ j => exact del_lo (by omega)
theorem prv_del_hi {ps : List Nat} {k j : Nat} (h : k < j) : prv (ps.eraseIdx k) j = prv ps (j + 1) := by
 obtain ⟨i, rfl⟩ : ∃ i, j = i + 1 := ⟨j - 1, by omega⟩
 exact del_hi (by omega)
def back (k j : Nat) : Nat := if j < k then j else j + 1
theorem del_back {α : Type} {a : List α} {k j : Nat} : (a.eraseIdx k)[j]? = a[back k j]? := by
 unfold back
 split
 ·rename_i h; exact del_lo h
 ·rename_i h; exact del_hi (by omega)
theorem back_ne (k j : Nat) : back k j ≠ k := by unfold back; split <;> omega
theorem back_inj {k i j : Nat} (h : back k i = back k j) : i = j := by
 unfold back at h
 split at h <;> split at h <;> omega
theorem del_tree {w W : World} {B b m n : Nat} {ps : List Nat} {l : List Nod} {f : Int → Int → Option Nat} {p k : Nat} {x : Nod} (h : TreeAt w B b m n ps l f) (hk : ps[k]? = some p) (hx : l[k]? = some x)
  (hb : W.heap[b]? = some (treeO (if k = 0 then ps[1]? else ps[0]?) (if k + 1 = ps.length then prv ps k else prv ps ps.length) m))
  (hpv : ∀ (j r : Nat) (y : Nod), k = j + 1 → ps[j]? = some r → l[j]? = some y → W.heap[r]? = some (placeO y (prv ps j) ps[k + 1]?))
  (hnx : ∀ (r : Nat) (y : Nod), ps[k + 1]? = some r → l[k + 1]? = some y → W.heap[r]? = some (placeO y (prv ps k) ps[k + 2]?))
  (hot : ∀ j r : Nat, ps[j]? = some r → j ≠ k → j + 1 ≠ k → j ≠ k + 1 → W.heap[r]? = w.heap[r]?)
  (hm : MapS W m n (fdel f x.o x.i)) : TreeAt W B b m n (ps.eraseIdx k) (l.eraseIdx k) (fdel f x.o x.i) := by
 have hkl : k < ps.length := (lgs hk).1
 have hll := h.len
 have hl1 : (ps.eraseIdx k).length = ps.length - 1 := by rw [List.length_eraseIdx, if_pos hkl]
 have hl2 : (l.eraseIdx k).length = l.length - 1 := by rw [List.length_eraseIdx, if_pos (by omega)]
 have hle := h.le
 refine ⟨by omega, by omega, ?_, ?_, ?_, h.gb, h.gm, ?_, ?_, ?_, hm, ?_⟩
 ·rw [hb, hl1]
  congr 2
  ·by_cases e : k = 0
   ·subst e; rw [if_pos rfl, del_hi (Nat.le_refl _)]
   ·rw [if_neg e, del_lo (by omega)]
  ·by_cases e : k + 1 = ps.length
   ·rw [if_pos e, prv_del_lo (by omega), show ps.length - 1 = k by omega]
   ·rw [if_neg e, prv_del_hi (by omega), show ps.length - 1 + 1 = ps.length by omega]
 ·intro j r y hr hy
  rcases Nat.lt_or_ge j k with e | e
  ·rw [del_lo e] at hr hy
   rw [prv_del_lo (by omega)]
   by_cases e2 : j + 1 = k
   ·rw [e2, del_hi (Nat.le_refl _)]
    exact hpv j r y e2.symm hr hy
   ·rw [del_lo (by omega)]
    exact (hot j r hr (by omega) e2 (by omega)).trans (h.row j r y hr hy)
  ·rw [del_hi e] at hr hy
   rw [del_hi (by omega)]
   by_cases e2 : j = k
   ·subst e2
    rw [prv_del_lo (Nat.le_refl _)]
    exact hnx r y hr hy
   ·rw [prv_del_hi (by omega)]
    exact (hot (j + 1) r hr (by omega) (by omega) (by omega)).trans (h.row (j + 1) r y hr hy)
 ·intro i j r hi hj
  rw [del_back] at hi hj
  exact back_inj (h.inj _ _ _ hi hj)
 ·intro i r hi
  rw [del_back] at hi
  exact h.gp _ _ hi
 ·intro i j y z hi hj h1 h2
  rw [del_back] at hi hj
  exact back_inj (h.slots _ _ _ _ hi hj h1 h2)
 ·intro i y hi
  rw [del_back] at hi
  exact h.ins _ _ hi
 ·intro o i r ho hi
  unfold fdel
  constructor
  ·intro hr
   split at hr
   ·cases hr
   ·rename_i hne
    obtain ⟨j, y, h1, h2, h3⟩ := (h.finds o i r ho hi).1 hr
    have hjk : j ≠ k := by
     rintro rfl
     rw [hx] at h2
     cases h2
     exact hne ⟨h3.1.symm, h3.2.symm⟩
    rcases Nat.lt_or_ge j k with e | e
    ·exact ⟨j, y, (del_lo e).trans h1, (del_lo e).trans h2, h3⟩
    ·obtain ⟨i', rfl⟩ : ∃ i', j = i' + 1 := ⟨j - 1, by omega⟩
     exact ⟨i', y, (del_hi (by omega)).trans h1, (del_hi (by omega)).trans h2, h3⟩
  ·rintro ⟨j, y, h1, h2, h3⟩
   rw [del_back] at h1 h2
   rw [if_neg ?_]
   ·exact (h.finds o i r ho hi).2 ⟨_, y, h1, h2, h3⟩
   ·rintro ⟨rfl, rfl⟩
    exact back_ne k j (h.slots _ _ _ _ h2 hx h3.1 h3.2)
abbrev unlW (w : World) (A C : Addr) (v1 v2 : Value) : World := (w.setCell A v1).setCell C v2
theorem unl_end {w : World} {B b m n : Nat} {ps : List Nat} {l : List Nod} {f : Int → Int → Option Nat} {p k : Nat} {x : Nod} {A C : Addr} {v1 v2 : Value} (h : TreeAt w B b m n ps l f) (hk : ps[k]? = some p) (hx : l[k]? = some x)
  (hA : foot b m ps A.block) (hC : foot b m ps C.block) (hAm : m ≠ A.block) (hCm : m ≠ C.block)
  (hb : (unlW w A C v1 v2).heap[b]? = some (treeO (if k = 0 then ps[1]? else ps[0]?) (if k + 1 = ps.length then prv ps k else prv ps ps.length) m))
  (hpv : ∀ (j r : Nat) (y : Nod), k = j + 1 → ps[j]? = some r → l[j]? = some y → (unlW w A C v1 v2).heap[r]? = some (placeO y (prv ps j) ps[k + 1]?))
  (hnx : ∀ (r : Nat) (y : Nod), ps[k + 1]? = some r → l[k + 1]? = some y → (unlW w A C v1 v2).heap[r]? = some (placeO y (prv ps k) ps[k + 2]?))
  (hot : ∀ j r : Nat, ps[j]? = some r → j ≠ k → j + 1 ≠ k → j ≠ k + 1 → r ≠ A.block ∧ r ≠ C.block) :
  ∀ W, W.heap = (unlW w A C v1 v2).heap → W.os = w.os → W.tape = w.tape → W.output = w.output → ∃ W', (Builtin.delete_ #[120, 30] 0 #[.map (some m), slV x.o x.i]).run Tryz.prog W = .ok (.tuple #[]) W' ∧
   (TreeAt W' B b m n (ps.eraseIdx k) (l.eraseIdx k) (fdel f x.o x.i) ∧ TOnly w W' b m ps (ps.eraseIdx k)) := by
 intro W hW hos htp hou
 have hoth : ∀ r, r ≠ A.block → r ≠ C.block → W.heap[r]? = w.heap[r]? := fun r a c => by
  rw [hW, Go.heap_setCell_other _ _ _ _ c, Go.heap_setCell_other _ _ _ _ a]
 rw [← hW] at hb hpv hnx
 have hsz : W.heap.size = w.heap.size := by rw [hW]; simp
 have hmW : MapS W m n f := h.map.of_block (hoth m hAm hCm)
 obtain ⟨ho, hi, _⟩ := h.ins k x hx
 obtain ⟨W', hr, hm', ht⟩ := hmW.del ho hi 0
 obtain ⟨es, c, es', c', hmb, e⟩ := ht
 have hkk : ∀ j, j ≠ m → W'.heap[j]? = W.heap[j]? := fun j hj => by rw [e]; exact heap_setBlock_other hmb _ hj
 have hbm := map_head h.head h.map
 have hne : ∀ (j r : Nat), ps[j]? = some r → r ≠ m := by
  intro j r hr9 e9
  obtain ⟨y, hy⟩ := get_len h.len hr9
  exact map_place (h.row j r y hr9 hy) h.map e9.symm
 refine ⟨W', hr, del_tree h hk hx ?_ ?_ ?_ ?_ hm', ?_, ?_, ?_, ?_, ?_, ?_⟩
 ·exact (hkk b (fun e => hbm e.symm)).trans hb
 ·intro j r y e hr hy
  exact (hkk r (hne j r hr)).trans (hpv j r y e hr hy)
 ·intro r y hr hy
  exact (hkk r (hne _ r hr)).trans (hnx r y hr hy)
 ·intro j r hr e1 e2 e3
  have := hot j r hr e1 e2 e3
  exact (hkk r (hne j r hr)).trans (hoth r this.1 this.2)
 ·rw [e]; exact hos
 ·rw [e]; exact htp
 ·rw [e]; exact hou
 ·rw [e]; simp [setBlock, hsz]
 ·intro j hj hf
  exact (hkk j (fun e => hf (.inr (.inl e)))).trans (hoth j (fun e => hf (e ▸ hA)) (fun e => hf (e ▸ hC)))
 ·intro j hj hf
  rcases hf with rfl | rfl | ⟨i, hi⟩
  ·exact .inl rfl
  ·exact .inr (.inl rfl)
  ·rw [del_back] at hi
   exact foot_at hi
theorem unlink_any (w : World) (B b m n : Nat) (ps : List Nat) (l : List Nod) (f : Int → Int → Option Nat) (p k : Nat) (x : Nod) (h : TreeAt w B b m n ps l f) (hk : ps[k]? = some p) (hx : l[k]? = some x) :
  Calls Tryz.prog 106 #[.pointer (some ⟨b, 0, none⟩), .pointer (some ⟨p, 0, none⟩)] w fun e w' => (∃ v, e = .returned v) ∧ TreeAt w' B b m n (ps.eraseIdx k) (l.eraseIdx k) (fdel f x.o x.i) ∧ TOnly w w' b m ps (ps.eraseIdx k) := by
 have hp := h.row k p x hk hx
 have hbp := head_place h.head hp
 have hmb := map_head h.head h.map
 obtain ⟨c0, c1, c2, cz⟩ := head_cells h.head
 obtain ⟨p0, p1, p2, p3, p4, pz⟩ := place_cells hp
 have hrow := h.row
 have hl := h.len
 have hkl : k < ps.length := (lgs hk).1
 have hnb : ∀ (j r : Nat), ps[j]? = some r → r ≠ b := by
  rintro j r hr rfl
  obtain ⟨y', hy'⟩ := get_len hl hr
  exact head_place h.head (hrow j _ y' hr hy') rfl
 rcases Nat.eq_zero_or_pos k with rfl | hk0
 ·cases hn1 : ps[1]? with
  | none =>
   have hlen : ps.length = 1 := by have := List.getElem?_eq_none_iff.1 hn1; omega
   rw [hn1] at p4
   refine unlink_wA w b p m x.o x.i _ _ _ _ hbp hbp.symm c0 c1 c2 cz p0 p1 p2 p3 p4 pz (unl_end h hk hx (.inl rfl) (.inl rfl) hmb hmb ?_ ?_ ?_ ?_)
   ·rw [if_pos rfl, if_pos hlen.symm, hn1]
    exact Go.heap_setCell_same _ _ _ _ _ _ (Go.heap_setCell_same _ _ _ _ _ _ h.head)
   ·intro j r y e; omega
   ·intro r y hr; rw [hn1] at hr; cases hr
   ·intro j r hr e1; have := (lgs hr).1; omega
  | some r =>
   obtain ⟨y, hy⟩ := get_len hl hn1
   have hr := hrow 1 r y hn1 hy
   obtain ⟨r0, r1, r2, r3, r4, rz⟩ := place_cells hr
   have hbr := head_place h.head hr
   have hmr := map_place hr h.map
   have hrp : r ≠ p := by rintro rfl; have := h.inj _ _ _ hn1 hk; omega
   have hlen : 1 < ps.length := (lgs hn1).1
   rw [hn1] at p4
   refine unlink_wB w b p m x.o x.i r _ _ _ _ hbp hbp.symm hrp hrp.symm hbr.symm hbr c0 c1 c2 cz p0 p1 p2 p3 p4 pz _ r3 rz (unl_end h hk hx (.inl rfl) (foot_at hn1) hmb hmr ?_ ?_ ?_ ?_)
   ·rw [if_pos rfl, if_neg (by omega), hn1]
    exact (Go.heap_setCell_other _ _ _ _ hbr).trans (Go.heap_setCell_same _ _ _ _ _ _ h.head)
   ·intro j r y e; omega
   ·intro r' y' hr' hy'
    rw [hn1] at hr'
    cases hr'
    rw [hy] at hy'
    cases hy'
    exact Go.heap_setCell_same _ _ _ _ _ _ ((Go.heap_setCell_other _ _ _ _ hbr.symm).trans hr)
   ·intro j r' hr' e1 _ e3
    exact ⟨hnb j r' hr', by rintro rfl; exact e3 (h.inj _ _ _ hr' hn1)⟩
 ·obtain ⟨q, rfl⟩ : ∃ q, k = q + 1 := ⟨k - 1, by omega⟩
  obtain ⟨s, hs⟩ : ∃ s, ps[q]? = some s := ⟨ps[q]'(by omega), List.getElem?_eq_getElem _⟩
  obtain ⟨y, hy⟩ := get_len hl hs
  have hsr := hrow q s y hs hy
  obtain ⟨s0, s1, s2, s3, s4, sz⟩ := place_cells hsr
  have hbs := head_place h.head hsr
  have hms := map_place hsr h.map
  have hsp : s ≠ p := by rintro rfl; have := h.inj _ _ _ hs hk; omega
  have hpr : prv ps (q + 1) = some s := hs
  rw [hpr] at p3
  cases hn1 : ps[q + 1 + 1]? with
  | none =>
   have hlen : q + 1 + 1 = ps.length := by have := List.getElem?_eq_none_iff.1 hn1; omega
   rw [hn1] at p4
   refine unlink_wC w b p m x.o x.i s _ _ _ _ hbp hbp.symm hsp hsp.symm hbs.symm hbs c0 c1 c2 cz p0 p1 p2 p3 p4 pz _ s4 sz (unl_end h hk hx (foot_at hs) (.inl rfl) hms hmb ?_ ?_ ?_ ?_)
   ·rw [if_neg (by omega), if_pos hlen, hpr]
    exact Go.heap_setCell_same _ _ _ _ _ _ ((Go.heap_setCell_other _ _ _ _ hbs).trans h.head)
   ·intro j r' y' e hr' hy'
    obtain rfl : q = j := by omega
    rw [hs] at hr'
    cases hr'
    rw [hy] at hy'
    cases hy'
    rw [hn1]
    exact (Go.heap_setCell_other _ _ _ _ hbs.symm).trans (Go.heap_setCell_same _ _ _ _ _ _ hsr)
   ·intro r y hr; rw [hn1] at hr; cases hr
   ·intro j r' hr' e1 e2 _
    exact ⟨by rintro rfl; exact e2 (by rw [h.inj _ _ _ hr' hs]), hnb j r' hr'⟩
  | some r =>
   obtain ⟨z, hz⟩ := get_len hl hn1
   have hr := hrow _ r z hn1 hz
   obtain ⟨r0, r1, r2, r3, r4, rz⟩ := place_cells hr
   have hbr := head_place h.head hr
   have hmr := map_place hr h.map
   have hrp : r ≠ p := by rintro rfl; have := h.inj _ _ _ hn1 hk; omega
   have hrs : r ≠ s := by rintro rfl; have := h.inj _ _ _ hn1 hs; omega
   have hlen : q + 1 + 1 < ps.length := (lgs hn1).1
   rw [hn1] at p4
   refine unlink_wD w b p m x.o x.i s r _ _ _ _ hbp hbp.symm hsp hsp.symm hbs.symm hbs hrp hrp.symm hbr.symm hbr hrs.symm hrs c0 c1 c2 cz p0 p1 p2 p3 p4 pz _ s4 sz _ r3 rz (unl_end h hk hx (foot_at hs) (foot_at hn1) hms hmr ?_ ?_ ?_ ?_)
   ·rw [if_neg (by omega), if_neg (by omega)]
    exact (Go.heap_setCell_other _ _ _ _ hbr).trans ((Go.heap_setCell_other _ _ _ _ hbs).trans h.head)
   ·intro j r' y' e hr' hy'
    obtain rfl : q = j := by omega
    rw [hs] at hr'
    cases hr'
    rw [hy] at hy'
    cases hy'
    rw [hn1]
    exact (Go.heap_setCell_other _ _ _ _ hrs.symm).trans (Go.heap_setCell_same _ _ _ _ _ _ hsr)
   ·intro r' y' hr' hy'
    rw [hn1] at hr'
    cases hr'
    rw [hz] at hy'
    cases hy'
    rw [hpr]
    exact Go.heap_setCell_same _ _ _ _ _ _ ((Go.heap_setCell_other _ _ _ _ hrs).trans hr)
   ·intro j r' hr' e1 e2 e3
    exact ⟨by rintro rfl; exact e2 (by rw [h.inj _ _ _ hr' hs]), by rintro rfl; exact e3 (h.inj _ _ _ hr' hn1)⟩
end
end Go.Proofs.YtchjfeafkmpmbaaGreatDoor
