/- chapter 35: the lines of a text, by the package's iterator. -/
import Derived.Test.YthgmanncmekeeaaDoorScQ
import Derived.Test.YthgmanncmekeeaaDoorScE
import Derived.RangeFuncNested
import Derived.LoopIn
import Derived.LoopTactic
namespace Go.Proofs.YthgmanncmekeeaaDoor
set_option linter.unusedVariables false
set_option linter.unusedSimpArgs false
open Go.ChangeShapes Go.WideShapes Go.ChangeAt Go.RowKit Go.Shelf
attribute [-go_sem] binOp_string_add binOp_string_eql binOp_string_neq run_index_string
attribute [local go_sem] Sc.bs_size
attribute [local go_sem] Oper.semAt_some
namespace Sc
def KpS (W W' : World) : Prop := W.heap.size ≤ W'.heap.size
def strLen : Value → Nat
  | .string s => s.size
  | _ => 0
abbrev encL (ls : List Bs) (x : Fin ls.length) : Array Value := #[.string (bs (ls[x.1]'x.2))]
theorem below_grown {W W' : World} (hb : Below W.heap.size W W') (row : Option Nat) : W.grownBy W' row := ⟨hb.os, hb.tape, hb.output, hb.size, fun k hk _ => hb.block k hk⟩
set_option maxHeartbeats 1000000 in
theorem lines1_seq (n q : Nat) (s : Bs) (ls : List Bs) (hls : lns 10 s = ls) (hl : s.length ≤ 100000) (w0 : World) (hs : w0.cell? ⟨q, 0, none⟩ = some (.string (bs s))) (hq1 : q < w0.heap.size) :
    SeqStopsK Fence.wide (n + 1) Tryd.prog 36 #[.pointer (some ⟨q, 0, none⟩)] (encL ls) KpS (fun xs => xs = fstP ls.length ls.length) (fun pre => ∃ k, ∃ h : k < ls.length, pre = fstP ls.length k ++ [⟨k, h⟩]) ls.length w0 := by
  intro l J Jx W hB hAb hAx hY h0
  have HY := Lib.hid hY
  have HAb := Lib.hid hAb
  have cs0 : W.cell? ⟨q, 0, none⟩ = some (.string (bs s)) := (cell_of_block (hB.block q hq1)).trans hs
  have HLS := Lib.hid hls
  have HC : Hid (∀ (r : Bs) v, r.length ≤ s.length → Calls Tryd.prog 37 #[.string (bs r), .string { data := #[10] }] v fun e w' => e = .returned (.tuple #[.string (bs (Lib.cut r [10]).1), .string (bs (Lib.cut r [10]).2.1), .bool (Lib.cut r [10]).2.2]) ∧ Below v.heap.size v w') := Lib.hid (fun r v h => cut_any r (by omega) v)
  clear hY hAb hAx hB hs hls
  refine callsIn_of_wp Tryd.func36 rfl trivial ?_ rfl
  simp only [Tryd.ntmps36, List.size_toArray, List.length_cons, List.length_nil, Nat.reduceAdd, Nat.reduceSub, Array.replicate_succ, Array.replicate_zero, List.push_toArray, List.append_toArray, List.nil_append, List.cons_append]
  gi_wp2
  clear cs0
  gi_loopw [3] (fun i wr => ∃ (k : Nat) (r : Bs), k ≤ ls.length ∧ r.length ≤ s.length ∧ i = .string (bs r) ∧ Hid (lns 10 r = ls.drop k) ∧ J (fstP ls.length k) wr ∧ W.heap.size ≤ wr.heap.size) (fun i _ => strLen i)
  case atStart => exact ⟨0, s, by omega, Nat.le_refl _, rfl, Lib.hid HLS.out, h0, Nat.le_refl _⟩
  case round =>
    obtain ⟨k, r, hk, hrl, rfl, HD, hJ, hsz⟩ := hrel
    have hne := neq_bs r []
    by_cases hr : r = []
    · rw [decide_eq_true hr] at hne
      have he : ∀ w, (binOp .neq 9 (.string (bs r)) (.string { data := #[] })).run Tryd.prog w = .ok (.bool false) w := hne
      obtain rfl : k = ls.length := by
        have := HD.out
        rw [hr] at this
        have := congrArg List.length this
        simp [lns] at this
        omega
      clear hne hr
      gi_wp2
      go_end0
      exact ⟨⟨_, rfl⟩, .inl ⟨_, rfl, hJ⟩⟩
    · rw [decide_eq_false hr] at hne
      have he : ∀ w, (binOp .neq 9 (.string (bs r)) (.string { data := #[] })).run Tryd.prog w = .ok (.bool true) w := hne
      have hcut := lns_cut 10 r hr
      have hsh := cut_shorter 10 r hr
      have hct := HC.out r
      obtain ⟨x, hx⟩ : ∃ x, x = (Lib.cut r [10]).1 := ⟨_, rfl⟩
      obtain ⟨y, hy0⟩ : ∃ x, x = (Lib.cut r [10]).2.1 := ⟨_, rfl⟩
      obtain ⟨z, hz⟩ : ∃ x, x = (Lib.cut r [10]).2.2 := ⟨_, rfl⟩
      rw [← hx, ← hy0] at hcut
      rw [← hy0] at hsh
      rw [← hx, ← hy0, ← hz] at hct
      rw [HD.out] at hcut
      have hlt : k < ls.length := by
        have := congrArg List.length hcut
        simp at this
        omega
      rw [List.drop_eq_getElem_cons hlt] at hcut
      obtain ⟨e1, e2⟩ := List.cons.inj hcut
      have HCT := Lib.hid hct
      have HSS := Lib.hid (fstP_succ ls.length k hlt)
      have HE2 := Lib.hid e2
      have HSH := Lib.hid hsh
      have HJ := Lib.hid hJ
      have HLT := Lib.hid hlt
      have HYL : Hid (∀ w1, Below wr.heap.size wr w1 → YieldAt Fence.wide (n + 1 - 1) Tryd.prog l #[.string (bs x)] w1 fun e W' => e = .returned (.bool true) ∧ J (fstP ls.length k ++ [⟨k, hlt⟩]) W' ∧ KpS w1 W' ∨ e = .returned (.bool false) ∧ Jx (fstP ls.length k ++ [⟨k, hlt⟩]) W') := Lib.hid (fun w1 hb1 => by
        have := HY.out _ (⟨k, hlt⟩ : Fin ls.length) w1 (HAb.out _ _ _ none hJ (below_grown hb1 none) (fun r e => by cases e)) (by rw [fstP_len _ k hk]; exact hlt)
        rw [show encL ls ⟨k, hlt⟩ = #[.string (bs x)] from by rw [← e1]] at this
        exact this)
      clear hcut hct hx hy0 hz e1 e2 hsh hne hr hJ
      gi_wp2_with (refine ⟨trivial, ?_⟩; gi_at_call 37; (with_reducible refine (callsIn_wide.2 (HCT.out _ hrl)).mono ?_); rintro e w1 ⟨rfl, hb1⟩; obtain ⟨fn, tmps, assign, body, hy, hR⟩ := HYL.out w1 hb1; (try dsimp only at hy); (try dsimp only at hR); have HR := Lib.hid hR; have HB1 := Lib.hid hb1; clear hR hb1)
      refine HR.out.mono ?_
      rintro e W' (⟨rfl, hJ', hK'⟩ | ⟨rfl, hJx⟩)
      · gi_wp2
        go_roundw
        case rel => exact ⟨k + 1, y, HLT.out, by have := HSH.out; omega, rfl, Lib.hid HE2.out.symm, by rw [HSS.out]; exact hJ', Nat.le_trans hsz (Nat.le_trans HB1.out.size hK')⟩
        case measure => have := HSH.out; simp [strLen, bs_size]; omega
      · gi_wp2
        first
          | refine bodyPost_ret (results_none rfl _ _ _) rfl ?_
          | go_end0
        exact ⟨⟨_, rfl⟩, .inr ⟨_, ⟨k, HLT.out, rfl⟩, hJx⟩⟩
end Sc
end Go.Proofs.YthgmanncmekeeaaDoor
