/- package tree: the iterator over the places below one. -/
import Derived.Test.YtebgmphbkjpfcaaTrB
import Derived.Test.YtebgmphbkjpfcaaLinkP
import Derived.LoopIn
import Derived.LoopTactic
import Derived.Outline
import Derived.Stop.RegionWithIn
import Derived.Sort.QuietIn
namespace Go.Proofs.Ytebgmphbkjpfcaa
set_option linter.unusedVariables false
set_option linter.unusedSimpArgs false
open Go.RowKit Go.Shelf
attribute [local go_sem] Oper.semAt_some

/-- Where a pointer stands in a list of places. -/
def pos (ps : List Nat) : Value → Nat
  | .pointer (some a) => ps.idxOf a.block
  | _ => ps.length
theorem idx_of {ps : List Nat} (hi : ∀ (k j p : Nat), ps[k]? = some p → ps[j]? = some p → k = j) {j p : Nat} (h : ps[j]? = some p) : ps.idxOf p = j := by
  have hlt : ps.idxOf p < ps.length := List.idxOf_lt_length_of_mem (List.mem_of_getElem? h)
  refine hi _ _ p ?_ h
  rw [List.getElem?_eq_getElem hlt, List.getElem_idxOf hlt]
theorem pos_at {ps : List Nat} (hi : ∀ (k j p : Nat), ps[k]? = some p → ps[j]? = some p → k = j) (j : Nat) (hj : j ≤ ps.length) : pos ps (ptrV ps[j]?) = j := by
  cases h : ps[j]? with
  | none =>
    have := List.getElem?_eq_none_iff.1 h
    show ps.length = j
    omega
  | some p => exact idx_of hi h
/-- How many places are below the k-th. -/
def belowN (l : List Nod) (k : Nat) : Nat := ((l.drop (k + 1)).takeWhile fun x => decide (((l[k]?).map Nod.d).getD 0 < x.d)).length
theorem takeWhile_in {α : Type} {q : α → Bool} : ∀ {a : List α} {j : Nat}, j < (a.takeWhile q).length → ∃ x, a[j]? = some x ∧ q x = true
  | [], j, h => by simp at h
  | x :: a, j, h => by
    rw [List.takeWhile_cons] at h
    split at h
    · rename_i hq
      cases j with
      | zero => exact ⟨x, rfl, hq⟩
      | succ j => exact takeWhile_in (a := a) (by simpa using h)
    · simp at h
theorem takeWhile_out {α : Type} {q : α → Bool} : ∀ {a : List α} {x : α}, a[(a.takeWhile q).length]? = some x → q x = false
  | [], x, h => by simp at h
  | y :: a, x, h => by
    rw [List.takeWhile_cons] at h
    split at h
    · exact takeWhile_out (a := a) (by simpa using h)
    · rename_i hq
      simp at h
      subst h
      simpa using hq
theorem takeWhile_le {α : Type} (q : α → Bool) : ∀ (a : List α), (a.takeWhile q).length ≤ a.length
  | [] => by simp
  | x :: a => by
    rw [List.takeWhile_cons]
    split
    · have := takeWhile_le q a
      simpa using this
    · simp
theorem belowN_in {l : List Nod} {k c : Nat} {y : Nod} (hy : l[k]? = some y) (h : c < belowN l k) : ∃ x, l[k + 1 + c]? = some x ∧ y.d < x.d := by
  obtain ⟨x, h1, h2⟩ := takeWhile_in h
  rw [List.getElem?_drop] at h1
  exact ⟨x, h1, by simpa [hy] using h2⟩
theorem belowN_out {l : List Nod} {k : Nat} {x y : Nod} (hy : l[k]? = some y) (h : l[k + 1 + belowN l k]? = some x) : x.d ≤ y.d := by
  have := takeWhile_out (a := l.drop (k + 1)) (q := fun x => decide (((l[k]?).map Nod.d).getD 0 < x.d)) (x := x) (by rw [List.getElem?_drop]; exact h)
  simp [hy] at this
  omega
theorem belowN_le {l : List Nod} {k : Nat} (hk : k < l.length) : k + 1 + belowN l k ≤ l.length := by
  have := takeWhile_le (fun x => decide (((l[k]?).map Nod.d).getD 0 < x.d)) (l.drop (k + 1))
  rw [List.length_drop] at this
  unfold belowN
  omega
theorem below_in (n : Nat) (p : Option Addr) (w : World) :
    CallsIn Fence.wide n Try.prog 39 #[.pointer p] w fun e w' => e = .returned (.func (.func 44) #[] #[.pointer (some ⟨w.heap.size, 0, none⟩)]) ∧ w' = w.alloc (.cells #[.pointer p] 60) := by
  refine callsIn_of_wp Try.func39 rfl trivial ?_ rfl
  simp only [Try.ntmps39, List.size_toArray, List.length_cons, List.length_nil, Nat.reduceAdd, Nat.reduceSub, Array.replicate_succ, Array.replicate_zero, List.push_toArray, List.append_toArray, List.nil_append, List.cons_append]
  gi_wp2
  go_ret
  exact ⟨rfl, rfl⟩
/-- What the iterator finds again, c places on. -/
structure Rows (W : World) (ps : List Nat) (l : List Nod) (k c Bn pk : Nat) : Prop where
  box : W.cell? ⟨Bn, 0, none⟩ = some (.pointer (some ⟨pk, 0, none⟩))
  next : ∀ (j p : Nat), ps[j]? = some p → W.cell? ⟨p, 4, none⟩ = some (ptrV ps[j + 1]?)
  depth : ∀ (j p : Nat) (x : Nod), ps[j]? = some p → l[j]? = some x → j = k ∨ k + c < j → W.cell? ⟨p, 2, none⟩ = some (.int .i64 x.d)
set_option maxHeartbeats 1000000 in
theorem below1_linked (n lb Bn : Nat) (W : World) (ps : List Nat) (l : List Nod) (k pk : Nat) (y : Nod) (hlen : ps.length = l.length) (hinj : ∀ (k j p : Nat), ps[k]? = some p → ps[j]? = some p → k = j) (hk : ps[k]? = some pk) (hy : l[k]? = some y) (J : List Nat → World → Prop)
   (hY : ∀ pre x W1, (x = k + 1 + pre.length ∧ pre.length < belowN l k) → J pre W1 → pre.length < belowN l k → YieldAt Fence.wide n Try.prog lb #[ptrV ps[x]?] W1 fun e W' => e = .returned (.bool true) ∧ J (pre ++ [x]) W') (h0 : J [] W) (hJd : ∀ pre W1 k, J pre W1 → J pre (W1.drewN k))
   (hJ : ∀ pre W1, J pre W1 → Rows W1 ps l k pre.length Bn pk) :
    CallsIn Fence.wide (n + 1) Try.prog 44 #[.func (.yield lb) #[] #[], .pointer (some ⟨Bn, 0, none⟩)] W fun e W' => (∃ v, e = .returned v) ∧ ∃ xs, xs = List.range' (k + 1) (belowN l k) ∧ J xs W' := by
  have hc := (hJ [] W h0).box
  have hc4 := (hJ [] W h0).next k pk hk
  have HY := Lib.hid hY
  have HJ := Lib.hid hJ
  have hkl : k < l.length := (List.getElem?_eq_some_iff.1 hy).1
  have hble := belowN_le hkl
  have HK := Lib.hid hk
  have HYK := Lib.hid hy
  have HIN := Lib.hid hinj
  clear hY hJ hk hy hinj
  refine callsIn_of_wp Try.func44 rfl trivial ?_ rfl
  simp only [Try.ntmps44, List.size_toArray, List.length_cons, List.length_nil, Nat.reduceAdd, Nat.reduceSub, Array.replicate_succ, Array.replicate_zero, List.push_toArray, List.append_toArray, List.nil_append, List.cons_append]
  gi_wp2
  clear hc hc4
  gi_loopw [3] (fun q wr => ∃ c : Nat, c ≤ belowN l k ∧ q = ptrV ps[k + 1 + c]? ∧ J (List.range' (k + 1) c) wr) (fun q _ => ps.length - pos ps q)
  case atStart => exact ⟨0, by omega, rfl, h0⟩
  case round =>
    obtain ⟨c, hc, rfl, hJc⟩ := hrel
    have hR := HJ.out _ _ hJc
    rw [List.length_range'] at hR
    have hb := hR.box
    have hdk := hR.depth k pk y HK.out HYK.out (.inl rfl)
    cases hq : ps[k + 1 + c]? with
    | none =>
      have hce : c = belowN l k := by
        rcases Nat.lt_or_ge c (belowN l k) with h | h
        · obtain ⟨x, hx, _⟩ := belowN_in HYK.out h
          obtain ⟨p, hp⟩ := get_len hlen.symm hx
          rw [hq] at hp; cases hp
        · omega
      subst hce
      rw [ptrV_none]
      gi_wp2
      gi_quiet (fail)
      gi_wp2
      go_end0
      exact ⟨⟨_, rfl⟩, _, rfl, hJd _ _ _ hJc⟩
    | some p =>
      obtain ⟨x, hx⟩ := get_len hlen hq
      have hdx := hR.depth (k + 1 + c) p x hq hx (.inr (by omega))
      have hnx := hR.next (k + 1 + c) p hq
      rw [ptrV_some]
      by_cases hlt : c < belowN l k
      · have hgt : y.d < x.d := by
          obtain ⟨x', hx', h⟩ := belowN_in HYK.out hlt
          rw [hx] at hx'; cases hx'; exact h
        have HRN := Lib.hid (show List.range' (k + 1) (c + 1) = List.range' (k + 1) c ++ [k + 1 + c] by rw [List.range'_1_concat])
        gi_wp2
        gi_quiet (fail)
        obtain ⟨fn, tmps, assign, body, hy, hR2⟩ := HY.out _ (k + 1 + c) (wr.drewN nq) ⟨by rw [List.length_range'], by rw [List.length_range']; exact hlt⟩ (hJd _ _ _ hJc) (by rw [List.length_range']; exact hlt)
        rw [hq] at hy
        dsimp only [ptrV] at hy
        have HR2 := Lib.hid hR2
        clear hR2
        gi_wp2
        refine HR2.out.mono ?_
        rintro e W' ⟨rfl, hJ'⟩
        rw [← HRN.out] at hJ'
        have hn2 := (HJ.out _ _ hJ').next (k + 1 + c) p hq
        gi_wp2
        go_roundw
        case rel => exact ⟨c + 1, by omega, rfl, hJ'⟩
        case measure =>
          rw [show k + 1 + c + 1 = k + 1 + (c + 1) from rfl, pos_at HIN.out _ (by omega)]
          have h1 : pos ps (.pointer (some ⟨p, 0, none⟩)) = k + 1 + c := by
            have := pos_at HIN.out (k + 1 + c) (by omega)
            rw [hq] at this
            exact this
          rw [h1]
          omega
      · have hce : c = belowN l k := by omega
        subst hce
        have hle : ¬ y.d < x.d := by have := belowN_out HYK.out hx; omega
        gi_wp2
        gi_quiet (fail)
        gi_wp2
        go_end0
        exact ⟨⟨_, rfl⟩, _, rfl, hJd _ _ _ hJc⟩
end Go.Proofs.Ytebgmphbkjpfcaa
