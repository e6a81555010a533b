/- bytes and lines: what is printed, what is read. No program in this text. -/
import Derived.Lib.SplitLaws
import Derived.Lib.CutLaws
import Derived.Lib.ItoaNum
import Derived.Lib.AtoiAll
namespace Go.Proofs.YthgmanncmekeeaaDoor
namespace Sc
open Go.Lib
abbrev Bs := List UInt8
def dig (c : UInt8) : Bool := decide (48 ≤ c.toNat) && decide (c.toNat ≤ 57)
def vstep (n : Nat) (c : UInt8) : Nat := n * 10 + (c.toNat - 48)
def valF (n : Nat) (l : Bs) : Nat := l.foldl vstep n
theorem valF_nil (n : Nat) : valF n [] = n := rfl
theorem valF_cons (n : Nat) (c : UInt8) (l : Bs) : valF n (c :: l) = valF (vstep n c) l := by simp only [valF, List.foldl_cons]
theorem valF_snoc (n : Nat) (l : Bs) (c : UInt8) : valF n (l ++ [c]) = valF n l * 10 + (c.toNat - 48) := by simp only [valF, List.foldl_append, List.foldl_cons, List.foldl_nil, vstep]
theorem dc_toNat {u : Nat} (h : u < 10) : (UInt8.ofNat (48 + u)).toNat = 48 + u := by
  rw [UInt8.toNat_ofNat']; omega
theorem dc_dig {u : Nat} (h : u < 10) : dig (UInt8.ofNat (48 + u)) = true := by unfold dig; rw [dc_toNat h]; simp; omega
theorem dd_small {u : Nat} (h : u < 10) : decDigits u = [UInt8.ofNat (48 + u)] := decDigits_one h
theorem dd_big {u : Nat} (h : ¬ u < 10) : decDigits u = decDigits (u / 10) ++ [UInt8.ofNat (48 + u % 10)] := by rw [decDigits, dif_neg h]
theorem dd_val (u : Nat) : valF 0 (decDigits u) = u := by
  induction u using Nat.strongRecOn with
  | _ u ih =>
    by_cases h : u < 10
    · rw [dd_small h, valF_cons, valF_nil, vstep, dc_toNat h]; omega
    · rw [dd_big h, valF_snoc, ih (u / 10) (by omega), dc_toNat (by omega)]; omega
theorem dd_digs (u : Nat) : ∀ c ∈ decDigits u, dig c = true := by
  induction u using Nat.strongRecOn with
  | _ u ih =>
    by_cases h : u < 10
    · rw [dd_small h]; intro c hc; rw [List.mem_singleton] at hc; rw [hc]; exact dc_dig h
    · rw [dd_big h]; intro c hc
      rcases List.mem_append.1 hc with q | q
      · exact ih (u / 10) (by omega) c q
      · rw [List.mem_singleton] at q; rw [q]; exact dc_dig (by omega)
theorem dd_ne (u : Nat) : decDigits u ≠ [] := by
  by_cases h : u < 10
  · rw [dd_small h]; simp
  · rw [dd_big h]; simp
/-- No zero ahead. -/
def lead (l : Bs) : Prop := 1 < l.length → l.head? ≠ some 48
theorem dd_head {u : Nat} (h : 1 ≤ u) : (decDigits u).head? ≠ some 48 := by
  induction u using Nat.strongRecOn with
  | _ u ih =>
    by_cases h1 : u < 10
    · rw [dd_small h1]
      intro e
      simp only [List.head?_cons, Option.some.injEq] at e
      have := dc_toNat h1
      rw [e] at this
      simp at this
      omega
    · rw [dd_big h1, List.head?_append]
      have := ih (u / 10) (by omega) (by omega)
      cases hq : (decDigits (u / 10)).head? with
      | none => exact absurd (List.head?_eq_none_iff.1 hq) (dd_ne _)
      | some x => rw [hq] at this; simpa using this
theorem dd_lead (u : Nat) : lead (decDigits u) := by
  intro h
  by_cases h1 : u < 10
  · rw [dd_small h1] at h; simp at h
  · exact dd_head (by omega)
theorem dig_of {c : UInt8} (h : dig c = true) : 48 ≤ c.toNat ∧ c.toNat ≤ 57 := by unfold dig at h; simpa using h
theorem ofNat_dig {c : UInt8} (h : dig c = true) : UInt8.ofNat (48 + (c.toNat - 48)) = c := by
  have := dig_of h
  rw [show 48 + (c.toNat - 48) = c.toNat by omega]
  exact UInt8.ofNat_toNat
theorem snoc_ex : ∀ (l : Bs), l ≠ [] → ∃ xs c, l = xs ++ [c] := fun l h => ⟨l.dropLast, l.getLast h, (List.dropLast_concat_getLast h).symm⟩
theorem val_dd : ∀ (n : Nat) (l : Bs), l.length = n → l ≠ [] → (∀ c ∈ l, dig c = true) → lead l → decDigits (valF 0 l) = l := by
  intro n
  induction n with
  | zero => intro l h0 h1 _ _; exact absurd (List.length_eq_zero_iff.1 h0) h1
  | succ n ih =>
    intro l hl hne hd hlead
    obtain ⟨xs, c, rfl⟩ := snoc_ex l hne
    have hdc := hd c (by simp)
    have hcb := dig_of hdc
    rw [valF_snoc]
    by_cases hx : xs = []
    · subst hx
      rw [valF_nil, dd_small (by omega), Nat.zero_mul, Nat.zero_add, ofNat_dig hdc]; rfl
    · have hxl : 1 ≤ xs.length := by cases xs with
        | nil => exact absurd rfl hx
        | cons _ _ => simp
      have hh : xs.head? ≠ some 48 := by
        have := hlead (by simp; omega)
        rw [List.head?_append] at this
        cases hq : xs.head? with
        | none => simp
        | some x => rw [hq] at this; simpa using this
      have e := ih xs (by simp at hl; omega) hx (fun c q => hd c (by simp [q])) (fun _ => hh)
      have hv : 1 ≤ valF 0 xs := by
        rcases Nat.eq_zero_or_pos (valF 0 xs) with q | q
        · rw [q, dd_small (by omega)] at e
          rw [← e] at hh
          simp at hh
        · exact q
      rw [dd_big (by omega), show (valF 0 xs * 10 + (c.toNat - 48)) / 10 = valF 0 xs by omega, e, show (valF 0 xs * 10 + (c.toNat - 48)) % 10 = c.toNat - 48 by omega, ofNat_dig hdc]
def numW (l : Bs) : Option Nat := if l ≠ [] ∧ l.all dig = true ∧ (1 < l.length → l.head? ≠ some 48) ∧ valF 0 l < 18446744073709551616 then some (valF 0 l) else none
theorem numW_iff {l : Bs} {v : Nat} : numW l = some v ↔ v < 18446744073709551616 ∧ l = decDigits v := by
  unfold numW
  constructor
  · intro h
    split at h
    · rename_i q
      obtain ⟨q1, q2, q3, q4⟩ := q
      injection h with h
      subst h
      exact ⟨q4, (val_dd _ l rfl q1 (fun c hc => (List.all_eq_true.1 q2) c hc) q3).symm⟩
    · cases h
  · rintro ⟨h1, rfl⟩
    rw [dd_val, if_pos ⟨dd_ne v, List.all_eq_true.2 (dd_digs v), dd_lead v, h1⟩]
theorem valF_ge : ∀ (l : Bs) (n : Nat), n ≤ valF n l := by
  intro l
  induction l with
  | nil => intro n; exact Nat.le_refl _
  | cons c l ih => intro n; rw [valF_cons]; exact Nat.le_trans (by unfold vstep; omega) (ih _)
theorem parse_digs : ∀ (l : Bs) (n : Nat), n < 18446744073709551616 → (∀ c ∈ l, dig c = true) → parseUint10 n l = if valF n l < 18446744073709551616 then .ok (valF n l) else .range := by
  intro l
  induction l with
  | nil => intro n hn _; rw [valF_nil, if_pos hn]; rfl
  | cons c l ih =>
    intro n hn hd
    have hc := dig_of (hd c (by simp))
    rw [parseUint10, if_pos hc, valF_cons]
    have hge := valF_ge l (vstep n c)
    unfold vstep at hge ⊢
    by_cases h1 : 1844674407370955162 ≤ n
    · rw [if_pos h1, if_neg (by omega)]
    · rw [if_neg h1]
      by_cases h2 : 18446744073709551616 ≤ n * 10 + (c.toNat - 48)
      · rw [if_pos h2, if_neg (by omega)]
      · rw [if_neg h2]
        exact ih _ (by omega) (fun c q => hd c (by simp [q]))
/-- The package's way: digits, no zero ahead, and what ParseUint makes of them. -/
theorem mag_num {l : Bs} (h1 : l.all dig = true) (h2 : 1 < l.length → l.head? ≠ some 48) : (parseMag l = match numW l with | some v => .ok v | none => if l = [] then .syntax else .range) := by
  unfold parseMag numW
  by_cases h0 : l = []
  · simp [h0]
  · rw [if_neg h0, parse_digs l 0 (by omega) (fun c hc => (List.all_eq_true.1 h1) c hc)]
    by_cases h3 : valF 0 l < 18446744073709551616
    · rw [if_pos h3, if_pos ⟨h0, h1, h2, h3⟩]
    · rw [if_neg h3, if_neg (fun q => h3 q.2.2.2)]; simp [h0]
theorem numW_no {l : Bs} (h : ¬ (l.all dig = true) ∨ ¬ (1 < l.length → l.head? ≠ some 48) ∨ l = []) : numW l = none := by
  unfold numW
  rw [if_neg]
  rintro ⟨q1, q2, q3, q4⟩
  rcases h with h | h | h
  · exact h q2
  · exact h q3
  · exact q1 h
theorem nd_le : ∀ (k u : Nat), u < 10 ^ k → 1 ≤ k → (decDigits u).length ≤ k := by
  intro k
  induction k with
  | zero => intro u _ h; omega
  | succ k ih =>
    intro u hu _
    by_cases h : u < 10
    · rw [dd_small h]; simp
    · rw [dd_big h]
      have hk : 1 ≤ k := by
        rcases Nat.eq_zero_or_pos k with q | q
        · subst q; simp at hu; omega
        · exact q
      have := ih (u / 10) (by rw [Nat.pow_succ] at hu; omega) hk
      simp
      omega
theorem nd20 {u : Nat} (h : u < 18446744073709551616) : (decDigits u).length ≤ 20 := nd_le 20 u (by omega) (by omega)
/-- The own answer's way. -/
theorem numW_own {l : Bs} (h0 : l ≠ []) (h1 : l.all dig = true) (h2 : 1 < l.length → l.head? ≠ some 48) : numW l = if decDigits (valF 0 l % 18446744073709551616) = l then some (valF 0 l % 18446744073709551616) else none := by
  by_cases h3 : valF 0 l < 18446744073709551616
  · rw [Nat.mod_eq_of_lt h3, val_dd _ l rfl h0 (fun c hc => (List.all_eq_true.1 h1) c hc) h2, if_pos rfl]
    unfold numW
    rw [if_pos ⟨h0, h1, h2, h3⟩]
  · rw [if_neg]
    · unfold numW
      rw [if_neg (fun q => h3 q.2.2.2)]
    · intro e
      have := dd_val (valF 0 l % 18446744073709551616)
      rw [e] at this
      have hm : valF 0 l % 18446744073709551616 < 18446744073709551616 := Nat.mod_lt _ (by omega)
      omega
end Sc
namespace Sc
open Go.Lib
/-- Cut at each byte c. -/
def spl (c : UInt8) : Bs → List Bs
  | [] => [[]]
  | x :: xs => if x = c then [] :: spl c xs else match spl c xs with | [] => [[x]] | h :: t => (x :: h) :: t
theorem spl_ne (c : UInt8) (l : Bs) : spl c l ≠ [] := by
  cases l with
  | nil => simp [spl]
  | cons x xs =>
    unfold spl
    split
    · simp
    · split <;> simp
theorem spl_eq {c : UInt8} (l : Bs) : spl c (c :: l) = [] :: spl c l := by rw [spl, if_pos rfl]
theorem spl_ne_cons {c x : UInt8} (l : Bs) (h : x ≠ c) {a : Bs} {t : List Bs} (e : spl c l = a :: t) : spl c (x :: l) = (x :: a) :: t := by rw [spl, if_neg h, e]
theorem ix_ne {b c : UInt8} (l : Bs) (h : b ≠ c) : index (b :: l) [c] = if index l [c] == -1 then -1 else index l [c] + 1 := by
  have hp : ([c] : List UInt8).isPrefixOf (b :: l) = false := by simp [List.isPrefixOf, Ne.symm h]
  rw [index, hp]; simp
theorem ix_eq (c : UInt8) (l : Bs) : index (c :: l) [c] = 0 := by rw [index]; simp [List.isPrefixOf]
theorem ix_nil (c : UInt8) : index [] [c] = -1 := by simp [index]
theorem ix_none {c : UInt8} : ∀ {l : Bs}, index l [c] = -1 → spl c l = [l] := by
  intro l
  induction l with
  | nil => intro _; rfl
  | cons x xs ih =>
    intro h
    by_cases e : x = c
    · subst e; rw [ix_eq] at h; omega
    · rw [ix_ne xs e] at h
      have hg := index_ge xs [c]
      by_cases q : index xs [c] = -1
      · exact spl_ne_cons xs e (ih q)
      · rw [if_neg (fun z => q (beq_iff_eq.1 z))] at h; omega
theorem ix_some {c : UInt8} : ∀ {l : Bs} {i : Nat}, index l [c] = i → spl c l = l.take i :: spl c (l.drop (i + 1)) := by
  intro l
  induction l with
  | nil => intro i h; rw [ix_nil] at h; omega
  | cons x xs ih =>
    intro i h
    by_cases e : x = c
    · subst e
      rw [ix_eq] at h
      obtain rfl : i = 0 := by omega
      rw [spl_eq]; simp
    · rw [ix_ne xs e] at h
      have hg := index_ge xs [c]
      by_cases q : index xs [c] = -1
      · rw [if_pos (beq_iff_eq.2 q)] at h; omega
      · rw [if_neg (fun z => q (beq_iff_eq.1 z))] at h
        obtain ⟨j, rfl⟩ : ∃ j, i = j + 1 := ⟨i - 1, by omega⟩
        rw [spl_ne_cons xs e (ih (i := j) (by omega))]; simp
theorem split_spl (c : UInt8) : ∀ (n : Nat) (l : Bs), l.length ≤ n → split l [c] = spl c l := by
  intro n
  induction n with
  | zero =>
    intro l h
    have : l = [] := List.length_eq_zero_iff.1 (by omega)
    subst this
    unfold split
    rw [count_miss (ix_nil c)]; rfl
  | succ n ih =>
    intro l h
    have hg := index_ge l [c]
    by_cases q : index l [c] = -1
    · unfold split; rw [count_miss q, ix_none q]; rfl
    · obtain ⟨i, hi⟩ : ∃ i : Nat, index l [c] = i := ⟨(index l [c]).toNat, by omega⟩
      have hr := index_room l [c] (by omega)
      rw [ix_some hi, ← ih (l.drop (i + 1)) (by simp at hr ⊢; omega)]
      unfold split
      rw [count_hit (by simp) hi, Nat.add_comm 1, splitK, if_neg (fun z => q (beq_iff_eq.1 z)), hi]
      simp
/-- Lines: cut at c; no last one that is empty. -/
def lns (c : UInt8) : Bs → List Bs
  | [] => []
  | x :: xs => if x = c then [] :: lns c xs else match lns c xs with | [] => [[x]] | h :: t => (x :: h) :: t
theorem lns_spl (c : UInt8) : ∀ l : Bs, spl c l = if l = [] ∨ l.getLast? = some c then lns c l ++ [[]] else lns c l := by
  intro l
  induction l with
  | nil => simp [spl, lns]
  | cons x xs ih =>
    by_cases e : x = c
    · subst e
      rw [spl_eq, lns, if_pos rfl, ih]
      cases xs with
      | nil => simp [lns]
      | cons y ys =>
        simp only [reduceCtorEq, false_or, List.getLast?_cons_cons]
        split <;> simp
    · rw [spl, lns, if_neg e, if_neg e, ih]
      cases xs with
      | nil => simp [lns, e]
      | cons y ys =>
        simp only [reduceCtorEq, false_or, List.getLast?_cons_cons]
        have hne : lns c (y :: ys) ≠ [] := by
          unfold lns; split
          · simp
          · split <;> simp
        cases hq : lns c (y :: ys) with
        | nil => exact absurd hq hne
        | cons h t => by_cases g : (y :: ys).getLast? = some c <;> simp [g]
theorem lns_cut (c : UInt8) (l : Bs) (h : l ≠ []) : lns c l = (cut l [c]).1 :: lns c (cut l [c]).2.1 := by
  induction l with
  | nil => exact absurd rfl h
  | cons x xs ih =>
    by_cases e : x = c
    · subst e
      rw [lns, if_pos rfl]
      unfold cut
      rw [ix_eq]; simp
    · rw [lns, if_neg e]
      have hg := index_ge xs [c]
      unfold cut
      rw [ix_ne xs e]
      cases xs with
      | nil => rw [ix_nil]; simp [lns]
      | cons y ys =>
        rw [ih (by simp)]
        unfold cut
        by_cases q : index (y :: ys) [c] = -1
        · rw [q]; simp [lns]
        · obtain ⟨i, hi⟩ : ∃ i : Nat, index (y :: ys) [c] = i := ⟨(index (y :: ys) [c]).toNat, by omega⟩
          have e1 : (if (index (y :: ys) [c] == -1) = true then (-1 : Int) else index (y :: ys) [c] + 1) = ((i + 1 : Nat) : Int) := by
            rw [if_neg (fun z => q (beq_iff_eq.1 z)), hi]; omega
          rw [e1, hi, if_pos (by omega), if_pos (by omega)]
          simp
theorem cut_shorter (c : UInt8) (l : Bs) (h : l ≠ []) : (cut l [c]).2.1.length < l.length := by
  unfold cut
  split
  · rename_i q
    have := index_room l [c] q
    simp at this ⊢
    have : 0 < l.length := by cases l with
      | nil => exact absurd rfl h
      | cons _ _ => simp
    omega
  · simp
    exact List.length_pos_iff.2 h
/-- Pieces put together again. -/
def jn (c : UInt8) : List Bs → Bs
  | [] => []
  | [a] => a
  | a :: b :: t => a ++ c :: jn c (b :: t)
theorem jn_spl (c : UInt8) : ∀ l : Bs, jn c (spl c l) = l := by
  intro l
  induction l with
  | nil => rfl
  | cons x xs ih =>
    by_cases e : x = c
    · subst e
      rw [spl_eq]
      cases hq : spl x xs with
      | nil => exact absurd hq (spl_ne _ _)
      | cons a t => rw [jn, ← hq, ih]; rfl
    · cases hq : spl c xs with
      | nil => exact absurd hq (spl_ne _ _)
      | cons a t =>
        rw [spl_ne_cons xs e hq]
        rw [hq] at ih
        cases t with
        | nil => rw [jn] at ih ⊢; rw [ih]
        | cons b t => rw [jn] at ih ⊢; rw [List.cons_append, ih]
/-- A piece without c ahead. -/
theorem spl_piece (c : UInt8) : ∀ (a l : Bs), c ∉ a → spl c (a ++ c :: l) = a :: spl c l := by
  intro a
  induction a with
  | nil => intro l _; exact spl_eq l
  | cons x xs ih =>
    intro l h
    rw [List.mem_cons, not_or] at h
    exact spl_ne_cons _ (Ne.symm h.1) (ih l h.2)
theorem spl_one (c : UInt8) : ∀ (a : Bs), c ∉ a → spl c a = [a] := by
  intro a
  induction a with
  | nil => intro _; rfl
  | cons x xs ih =>
    intro h
    rw [List.mem_cons, not_or] at h
    exact spl_ne_cons _ (Ne.symm h.1) (ih h.2)
theorem lns_piece (c : UInt8) : ∀ (a l : Bs), c ∉ a → lns c (a ++ c :: l) = a :: lns c l := by
  intro a
  induction a with
  | nil => intro l _; simp [lns]
  | cons x xs ih =>
    intro l h
    rw [List.mem_cons, not_or] at h
    rw [List.cons_append, lns, if_neg (Ne.symm h.1), ih l h.2]
end Sc
namespace Sc
open Go.Lib
abbrev Ev := Nat → Int
def upd (c : Ev) (i : Nat) (v : Int) : Ev := fun j => if j = i then v else c j
theorem upd_same (c : Ev) (i : Nat) (v : Int) : upd c i v i = v := by simp [upd]
theorem upd_other (c : Ev) {i j : Nat} (v : Int) (h : j ≠ i) : upd c i v j = c j := by simp [upd, h]
/-- The first word of a kind's line. -/
def nm (k : Int) : Bs := if k = 1 then [112, 105, 99, 107] else if k = 2 then [99, 97, 108, 108] else if k = 3 then [108, 111, 97, 100] else if k = 4 then [115, 116, 111, 114, 101] else if k = 5 then [101, 118, 105, 99, 116] else if k = 6 then [112, 114, 101, 102, 101, 116, 99, 104] else []
/-- Where a line's numbers belong: is it a word; which cell. -/
def places (k : Int) : List (Bool × Nat) := if k = 1 then [(false, 1), (false, 2)] else if k = 2 then [(false, 1), (true, 3), (true, 4), (true, 5), (true, 6), (true, 7), (true, 8), (true, 9)] else if k = 3 then [(false, 1), (true, 10)] else if k = 4 then [(false, 1), (true, 10), (true, 11)] else if k = 5 then [(false, 1), (false, 12), (false, 13)] else if k = 6 then [(false, 1), (false, 14)] else [(false, 1)]
def farP (b : Bool) (v : Int) : Bool := !b && (decide (v < 0) || decide (999999 < v))
def lineR (c : Ev) (acc : Bs) : List (Bool × Nat) → Bs × Int
  | [] => (acc, 0)
  | (b, i) :: ps => if farP b (c i) = true then ([], 3) else lineR c (acc ++ 32 :: decDigits (c i).toNat) ps
def lineE (c : Ev) : Bs × Int := if nm (c 0) = [] then ([], 2) else lineR c (nm (c 0)) (places (c 0))
def evR : List (Bool × Nat) → List Bs → Ev → Option Ev
  | [], [], c => some c
  | [], _ :: _, _ => none
  | _ :: _, [], _ => none
  | (b, i) :: ps, w :: ws, c => match numW w with | none => none | some v => if farP b v = true then none else evR ps ws (upd c i v)
def kd (l : Bs) : Int := if l = nm 1 then 1 else if l = nm 2 then 2 else if l = nm 3 then 3 else if l = nm 4 then 4 else if l = nm 5 then 5 else if l = nm 6 then 6 else 0
def ev0 (k : Int) : Ev := fun i => if i = 0 then k else 0
def evW : List Bs → Option Ev
  | [] => none
  | n :: ws => if kd n = 0 then none else evR (places (kd n)) ws (ev0 (kd n))
def evOf (l : Bs) : Option Ev := evW (spl 32 l)
/-- What the words of an event may be. -/
def EvOk (c : Ev) : Prop := ∀ i, 3 ≤ i → i ≤ 11 → 0 ≤ c i ∧ c i < 18446744073709551616
theorem kind_cases (k : Int) (h : nm k ≠ []) : k = 1 ∨ k = 2 ∨ k = 3 ∨ k = 4 ∨ k = 5 ∨ k = 6 := by
  unfold nm at h
  repeat (split at h; · (first | (left; assumption) | (right; left; assumption) | (right; right; left; assumption) | (right; right; right; left; assumption) | (right; right; right; right; left; assumption) | (right; right; right; right; right; assumption)))
  exact absurd rfl h
theorem kd_nm (k : Int) (h : nm k ≠ []) : kd (nm k) = k := by
  rcases kind_cases k h with rfl | rfl | rfl | rfl | rfl | rfl <;> decide
theorem nm_kd (l : Bs) (h : kd l ≠ 0) : nm (kd l) = l ∧ nm (kd l) ≠ [] := by
  unfold kd at h ⊢
  split
  · subst_vars; exact ⟨rfl, by decide⟩
  · split
    · subst_vars; exact ⟨rfl, by decide⟩
    · split
      · subst_vars; exact ⟨rfl, by decide⟩
      · split
        · subst_vars; exact ⟨rfl, by decide⟩
        · split
          · subst_vars; exact ⟨rfl, by decide⟩
          · split
            · subst_vars; exact ⟨rfl, by decide⟩
            · rename_i h1 h2 h3 h4 h5 h6
              rw [if_neg h1, if_neg h2, if_neg h3, if_neg h4, if_neg h5, if_neg h6] at h
              exact absurd rfl h
/-- Places: each once, none the kind's; words lie among the words. -/
def PsOk (ps : List (Bool × Nat)) : Prop := (ps.map Prod.snd).Nodup ∧ ∀ p ∈ ps, p.2 ≠ 0 ∧ (p.1 = true → 3 ≤ p.2 ∧ p.2 ≤ 11)
theorem places_ok (k : Int) : PsOk (places k) := by
  unfold places
  repeat' split
  all_goals (constructor <;> decide)
theorem lineR_eq (c : Ev) : ∀ (ps : List (Bool × Nat)) (acc : Bs), (∀ p ∈ ps, farP p.1 (c p.2) = false) → lineR c acc ps = (acc ++ (ps.map (fun p => (32 : UInt8) :: decDigits (c p.2).toNat)).flatten, 0) := by
  intro ps
  induction ps with
  | nil => intro acc _; simp [lineR]
  | cons p ps ih =>
    intro acc h
    obtain ⟨b, i⟩ := p
    have hf : farP b (c i) = false := h (b, i) (by simp)
    rw [lineR, if_neg (by simp [hf]), ih _ (fun p hp => h p (by simp [hp]))]
    simp
theorem lineR_ok (c : Ev) : ∀ (ps : List (Bool × Nat)) (acc t : Bs), lineR c acc ps = (t, 0) → ∀ p ∈ ps, farP p.1 (c p.2) = false := by
  intro ps
  induction ps with
  | nil => intro acc t _ p hp; simp at hp
  | cons p ps ih =>
    intro acc t h q hq
    obtain ⟨b, i⟩ := p
    rw [lineR] at h
    split at h
    · simp at h
    · rename_i hf
      rcases List.mem_cons.1 hq with rfl | hq
      · simpa using hf
      · exact ih _ t h q hq
theorem lineR_err (c : Ev) : ∀ (ps : List (Bool × Nat)) (acc : Bs), (lineR c acc ps).2 = 0 ∨ lineR c acc ps = ([], 3) := by
  intro ps
  induction ps with
  | nil => intro acc; left; rfl
  | cons p ps ih =>
    intro acc
    obtain ⟨b, i⟩ := p
    rw [lineR]
    split
    · right; rfl
    · exact ih _
theorem lineE_err (c : Ev) (h : (lineE c).2 ≠ 0) : (lineE c).1 = [] := by
  unfold lineE at h ⊢
  split
  · rfl
  · rename_i q
    rw [if_neg q] at h
    rcases lineR_err c (places (c 0)) (nm (c 0)) with e | e
    · exact absurd e h
    · rw [e]
/-- A line's words. -/
def wordsOf (c : Ev) : List Bs := (places (c 0)).map (fun p => decDigits (c p.2).toNat)
theorem jn_flat (a : Bs) : ∀ (l : List Bs) , jn 32 (a :: l) = a ++ (l.map (fun x => (32 : UInt8) :: x)).flatten := by
  intro l
  induction l generalizing a with
  | nil => simp [jn]
  | cons b t ih => rw [jn, ih b]; simp
theorem line_eq {c : Ev} {t : Bs} (h : lineE c = (t, 0)) : nm (c 0) ≠ [] ∧ (∀ p ∈ places (c 0), farP p.1 (c p.2) = false) ∧ t = jn 32 (nm (c 0) :: wordsOf c) := by
  unfold lineE at h
  split at h
  · simp at h
  · rename_i q
    have hf := lineR_ok c _ _ _ h
    refine ⟨q, hf, ?_⟩
    rw [lineR_eq c _ _ hf] at h
    injection h with h1 h2
    rw [← h1, jn_flat]
    unfold wordsOf
    rw [List.map_map]; rfl
theorem eq_line {c : Ev} (h1 : nm (c 0) ≠ []) (h2 : ∀ p ∈ places (c 0), farP p.1 (c p.2) = false) : lineE c = (jn 32 (nm (c 0) :: wordsOf c), 0) := by
  unfold lineE
  rw [if_neg h1, lineR_eq c _ _ h2, jn_flat]
  unfold wordsOf
  rw [List.map_map]; rfl
theorem nm_clean (k : Int) : (32 : UInt8) ∉ nm k ∧ (10 : UInt8) ∉ nm k := by
  unfold nm
  repeat' split
  all_goals decide
theorem dd_clean (u : Nat) : (32 : UInt8) ∉ decDigits u ∧ (10 : UInt8) ∉ decDigits u := by
  constructor
  · intro h; have := dd_digs u _ h; revert this; decide
  · intro h; have := dd_digs u _ h; revert this; decide
theorem spl_jn (c : UInt8) : ∀ (l : List Bs) (a : Bs), (∀ x ∈ a :: l, c ∉ x) → spl c (jn c (a :: l)) = a :: l := by
  intro l
  induction l with
  | nil => intro a h; rw [jn]; exact spl_one c a (h a (by simp))
  | cons b t ih =>
    intro a h
    rw [jn, spl_piece c a _ (h a (by simp)), ih b (fun x hx => h x (by simp at hx ⊢; right; exact hx))]
theorem jn_clean (d c : UInt8) (hd : d ≠ c) : ∀ (l : List Bs) (a : Bs), (∀ x ∈ a :: l, d ∉ x) → d ∉ jn c (a :: l) := by
  intro l
  induction l with
  | nil => intro a h; rw [jn]; exact h a (by simp)
  | cons b t ih =>
    intro a h
    rw [jn, List.mem_append, List.mem_cons]
    rintro (q | q | q)
    · exact h a (by simp) q
    · exact hd q
    · exact ih b (fun x hx => h x (by simp at hx ⊢; right; exact hx)) q
theorem words_clean (c : Ev) (d : UInt8) (hd : d = 32 ∨ d = 10) : ∀ x ∈ nm (c 0) :: wordsOf c, d ∉ x := by
  intro x hx
  rcases List.mem_cons.1 hx with rfl | hx
  · rcases hd with rfl | rfl
    · exact (nm_clean _).1
    · exact (nm_clean _).2
  · unfold wordsOf at hx
    obtain ⟨p, hp, rfl⟩ := List.mem_map.1 hx
    rcases hd with rfl | rfl
    · exact (dd_clean _).1
    · exact (dd_clean _).2
theorem line_clean {c : Ev} {t : Bs} (h : lineE c = (t, 0)) : (10 : UInt8) ∉ t := by
  obtain ⟨h1, h2, rfl⟩ := line_eq h
  exact jn_clean 10 32 (by decide) _ _ (words_clean c 10 (.inr rfl))
/-- Numbers read where they belong. -/
theorem evR_put (c : Ev) : ∀ (ps : List (Bool × Nat)) (d : Ev), (∀ p ∈ ps, farP p.1 (c p.2) = false ∧ 0 ≤ c p.2 ∧ c p.2 < 18446744073709551616) → (ps.map Prod.snd).Nodup →
    ∃ e, evR ps (ps.map (fun p => decDigits (c p.2).toNat)) d = some e ∧ (∀ p ∈ ps, e p.2 = c p.2) ∧ ∀ i, i ∉ ps.map Prod.snd → e i = d i := by
  intro ps
  induction ps with
  | nil => intro d _ _; exact ⟨d, rfl, by simp, fun _ _ => rfl⟩
  | cons p ps ih =>
    intro d h hn
    obtain ⟨b, i⟩ := p
    obtain ⟨hf, h0, h1⟩ := h (b, i) (by simp)
    simp only at hf h0 h1
    rw [List.map_cons, List.nodup_cons] at hn
    have hv : ((c i).toNat : Int) = c i := by omega
    obtain ⟨e, e1, e2, e3⟩ := ih (upd d i (c i)) (fun p hp => h p (by simp [hp])) hn.2
    refine ⟨e, ?_, ?_, ?_⟩
    · rw [List.map_cons, evR, numW_iff.2 ⟨show (c i).toNat < 18446744073709551616 by omega, rfl⟩]
      simp only
      rw [hv, hf, if_neg (by simp), e1]
    · intro p hp
      rcases List.mem_cons.1 hp with rfl | hp
      · rw [e3 i hn.1, upd_same]
      · exact e2 p hp
    · intro j hj
      rw [List.map_cons, List.mem_cons, not_or] at hj
      rw [e3 j hj.2, upd_other _ _ hj.1]
theorem far_pos {b : Bool} {v : Int} (h : farP b v = false) (hb : b = false) : 0 ≤ v ∧ v ≤ 999999 := by
  subst hb; unfold farP at h; simp at h; omega
theorem line_back {c : Ev} (hc : EvOk c) {t : Bs} (h : lineE c = (t, 0)) : ∃ d, evOf t = some d ∧ d 0 = c 0 ∧ d 1 = c 1 ∧ lineE d = (t, 0) ∧ ∀ p ∈ places (c 0), d p.2 = c p.2 := by
  obtain ⟨h1, h2, rfl⟩ := line_eq h
  have hP := places_ok (c 0)
  obtain ⟨e, e1, e2, e3⟩ := evR_put c (places (c 0)) (ev0 (c 0)) (fun p hp => ⟨h2 p hp, by
    cases hb : p.1 with
    | true => exact hc _ ((hP.2 p hp).2 hb).1 ((hP.2 p hp).2 hb).2
    | false => have := far_pos (h2 p hp) hb; omega⟩) hP.1
  have h0 : e 0 = c 0 := by
    rw [e3 0]
    · rfl
    · intro q
      obtain ⟨p, hp, hq⟩ := List.mem_map.1 q
      exact (hP.2 p hp).1 hq
  have hw : wordsOf e = wordsOf c := by
    unfold wordsOf
    rw [h0]
    exact List.map_congr_left fun p hp => by rw [e2 p hp]
  refine ⟨e, ?_, h0, ?_, ?_, e2⟩
  · unfold evOf
    rw [spl_jn 32 _ _ (words_clean c 32 (.inl rfl)), evW, kd_nm _ h1, if_neg (fun q => by rw [q] at h1; exact h1 rfl)]
    exact e1
  · rcases kind_cases _ h1 with q | q | q | q | q | q <;> exact e2 (false, 1) (by rw [q]; decide)
  · rw [eq_line (by rw [h0]; exact h1) (by rw [h0]; intro p hp; rw [e2 p hp]; exact h2 p hp), h0, hw]
/-- What is read is what is printed. -/
theorem evR_get : ∀ (ps : List (Bool × Nat)) (ws : List Bs) (d e : Ev), (ps.map Prod.snd).Nodup → evR ps ws d = some e →
    ws = ps.map (fun p => decDigits (e p.2).toNat) ∧ (∀ p ∈ ps, farP p.1 (e p.2) = false ∧ 0 ≤ e p.2 ∧ e p.2 < 18446744073709551616) ∧ ∀ i, i ∉ ps.map Prod.snd → e i = d i := by
  intro ps
  induction ps with
  | nil =>
    intro ws d e _ h
    cases ws with
    | nil => simp only [evR, Option.some.injEq] at h; subst h; exact ⟨rfl, by simp, fun _ _ => rfl⟩
    | cons _ _ => simp [evR] at h
  | cons p ps ih =>
    intro ws d e hn h
    obtain ⟨b, i⟩ := p
    rw [List.map_cons, List.nodup_cons] at hn
    cases ws with
    | nil => simp [evR] at h
    | cons w ws =>
      rw [evR] at h
      cases hw : numW w with
      | none => rw [hw] at h; simp at h
      | some v =>
        rw [hw] at h
        simp only at h
        split at h
        · simp at h
        · rename_i hf
          obtain ⟨g1, g2, g3⟩ := ih ws _ e hn.2 h
          obtain ⟨v1, v2⟩ := numW_iff.1 hw
          have hi : e i = (v : Int) := by rw [g3 i hn.1, upd_same]
          refine ⟨?_, ?_, ?_⟩
          · rw [List.map_cons, hi, Int.toNat_natCast, ← v2, ← g1]
          · intro p hp
            rcases List.mem_cons.1 hp with rfl | hp
            · rw [hi]; exact ⟨by simpa using hf, by omega, by omega⟩
            · exact g2 p hp
          · intro j hj
            rw [List.map_cons, List.mem_cons, not_or] at hj
            rw [g3 j hj.2, upd_other _ _ hj.1]
theorem line_strict {l : Bs} {e : Ev} (h : evOf l = some e) : lineE e = (l, 0) ∧ EvOk e := by
  unfold evOf at h
  cases hs : spl 32 l with
  | nil => exact absurd hs (spl_ne _ _)
  | cons n ws =>
    rw [hs, evW] at h
    split at h
    · simp at h
    · rename_i hk
      obtain ⟨k1, k2⟩ := nm_kd n hk
      have hP := places_ok (kd n)
      obtain ⟨g1, g2, g3⟩ := evR_get _ _ _ _ hP.1 h
      have h0 : e 0 = kd n := by
        rw [g3 0]
        · rfl
        · intro q
          obtain ⟨p, hp, hq⟩ := List.mem_map.1 q
          exact (hP.2 p hp).1 hq
      refine ⟨?_, ?_⟩
      · rw [eq_line (by rw [h0]; exact k2) (by rw [h0]; exact fun p hp => (g2 p hp).1), h0, k1]
        unfold wordsOf
        rw [h0, ← g1, ← hs, jn_spl]
      · intro i hi1 hi2
        by_cases q : i ∈ (places (kd n)).map Prod.snd
        · obtain ⟨p, hp, rfl⟩ := List.mem_map.1 q
          exact (g2 p hp).2
        · rw [g3 i q]; unfold ev0; split <;> omega
theorem evOf_nil : evOf [] = none := by decide
end Sc
end Go.Proofs.YthgmanncmekeeaaDoor
