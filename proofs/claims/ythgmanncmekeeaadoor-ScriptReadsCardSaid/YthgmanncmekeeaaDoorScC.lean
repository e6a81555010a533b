/- chapter 35: a word of digits read, by the package; where a number is put. -/
import Derived.Test.YthgmanncmekeeaaDoorScB
import Derived.Test.YthgmanncmekeeaaDoorScL
import Derived.Deep.QuietTactic
import Derived.BigQuiet
namespace Go.Proofs.YthgmanncmekeeaaDoor
set_option linter.unusedVariables false
set_option linter.unusedSimpArgs false
open Go.ChangeShapes Go.WideShapes Go.ChangeAt Go.RowKit
attribute [-go_sem] binOp_string_add binOp_string_eql binOp_string_neq run_index_string
attribute [local go_sem] Sc.bs_size
namespace Sc
/-- What the walks ask of the package-level variables. -/
def EnvAt (W : World) : Prop := Lib.TabIs Tryd.prog W "internal/strconv.uint64pow10" .u64 Lib.pow10Tab ∧ 0 < W.heap.size ∧ (∃ ev, W.cell? ⟨6, 0, none⟩ = some ev ∧ (ev = .nilIface ∨ ∃ te pe, ev = .iface te pe)) ∧ (∃ ev, W.cell? ⟨7, 0, none⟩ = some ev ∧ (ev = .nilIface ∨ ∃ te pe, ev = .iface te pe))
theorem tab_call {W w : World} (h : Lib.TabIs Tryd.prog W "internal/strconv.uint64pow10" .u64 Lib.pow10Tab) (hb : w.heap[0]? = W.heap[0]?) : Lib.TabIs Tryd.prog w "internal/strconv.uint64pow10" .u64 Lib.pow10Tab := by
  have k1 : Tryd.prog.globalNamed "internal/strconv.uint64pow10" = some 0 := by kernel_rfl
  unfold Lib.TabIs World.var? at h ⊢
  rw [k1] at h ⊢
  simp only [Option.bind_some] at h ⊢
  rw [hb]
  exact h
theorem EnvAt.call {W w : World} (h : EnvAt W) (hb : Below W.heap.size W w) : EnvAt w := by
  obtain ⟨h1, h2, ⟨e1, h3, h4⟩, e2, h5, h6⟩ := h
  exact ⟨tab_call h1 (hb.block _ h2), Nat.lt_of_lt_of_le h2 hb.size, ⟨e1, (hb.cell (World.block_lt_of_cell? _ _ h3)).trans h3, h4⟩, e2, (hb.cell (World.block_lt_of_cell? _ _ h5)).trans h5, h6⟩
theorem EnvAt.below {W w : World} {B : Nat} (h : EnvAt W) (hb : Below W.heap.size W w) (hB : W.heap.size ≤ B) : Lib.TabBelow Tryd.prog B w "internal/strconv.uint64pow10" .u64 Lib.pow10Tab :=
  fun w' h' => (h.call (hb.trans (h'.mono hB))).1
theorem parseM_digs : ∀ (l : Bs) (n : Nat), n < 18446744073709551616 → (∀ c ∈ l, dig c = true) → Lib.parseUintM 18446744073709551615 n l = if valF n l < 18446744073709551616 then .ok (valF n l) else .range := by
  intro l
  induction l with
  | nil => intro n hn _; rw [valF_nil, if_pos hn]; rfl
  | cons c l ih =>
    intro n hn hd
    have hc := dig_of (hd c (by simp))
    rw [Lib.parseUintM, if_pos hc, valF_cons]
    have hge := valF_ge l (vstep n c)
    unfold vstep at hge ⊢
    by_cases h1 : 1844674407370955162 ≤ n
    · rw [if_pos h1, if_neg (by omega)]
    · rw [if_neg h1]
      by_cases h2 : 18446744073709551615 < n * 10 + (c.toNat - 48)
      · rw [if_pos h2, if_neg (by omega)]
      · rw [if_neg h2]
        exact ih _ (by omega) (fun c q => hd c (by simp [q]))
theorem parseB_num {l : Bs} (h1 : l.all dig = true) (h2 : 1 < l.length → l.head? ≠ some 48) : Lib.parseUintB 64 l = match numW l with | some v => .ok v | none => if l = [] then .syntax else .range := by
  unfold Lib.parseUintB numW
  by_cases h0 : l = []
  · simp [h0]
  · rw [if_neg h0, show (2 ^ 64 - 1 : Nat) = 18446744073709551615 from rfl, parseM_digs l 0 (by omega) (fun c hc => (List.all_eq_true.1 h1) c hc)]
    by_cases h3 : valF 0 l < 18446744073709551616
    · rw [if_pos h3, if_pos ⟨h0, h1, h2, h3⟩]
    · rw [if_neg h3, if_neg (fun q => h3 q.2.2.2)]; simp [h0]
/-- strconv.ParseUint of digits without a zero ahead. -/
theorem puint_any {l : Bs} (h1 : l.all dig = true) (h2 : 1 < l.length → l.head? ≠ some 48) (hl : l.length ≤ 100000) (w : World) (hE : EnvAt w) :
    Calls Tryd.prog 62 #[.string (bs l), .int .i64 10, .int .i64 64] w fun e w' => (∃ x er, e = .returned (.tuple #[.int .u64 x, er]) ∧ ((er = .nilIface ∧ numB l = true ∧ x = numV l) ∨ (∃ t p, er = .iface t p) ∧ numB l = false)) ∧ Below w.heap.size w w' := by
  have hp := parseB_num h1 h2
  have hs : (bs l).size ≤ 281474976710656 := by rw [bs_size]; omega
  obtain ⟨-, -, ⟨e1, h3, h4⟩, e2, h5, h6⟩ := hE
  cases hn : numW l with
  | some v =>
    rw [hn] at hp
    obtain ⟨q1, q2⟩ := num_some hn
    refine (Any.strconv_ParseUint_10_at64_ok Tryd.laysPu14 (bs l) (by omega) v (by exact hp) w).mono ?_
    rintro e w' ⟨rfl, hw⟩
    refine ⟨⟨v, _, rfl, .inl ⟨rfl, q2, by rw [q1]⟩⟩, ?_⟩
    rcases hw with rfl | rfl
    · exact Below.refl _ _
    · exact Lib.bytesWorld_below _ _ _
  | none =>
    rw [hn] at hp
    obtain ⟨q1, q2⟩ := num_none hn
    by_cases h0 : l = []
    · simp only [h0, if_true] at hp
      refine (Any.strconv_ParseUint_10_at64_syntax Tryd.laysPu14 (bs l) hs (by rw [h0]; exact hp) e1 w h3 h4).mono ?_
      rintro e w' ⟨N, rfl, -, -, hb⟩
      exact ⟨⟨_, _, rfl, .inr ⟨⟨_, _, rfl⟩, q2⟩⟩, hb⟩
    · simp only [h0, if_false] at hp
      refine (Any.strconv_ParseUint_10_at64_range Tryd.laysPu14 (bs l) hs (by exact hp) e2 w h5 h6).mono ?_
      rintro e w' ⟨N, rfl, -, -, hb⟩
      exact ⟨⟨_, _, rfl, .inr ⟨⟨_, _, rfl⟩, q2⟩⟩, hb⟩
end Sc
end Go.Proofs.YthgmanncmekeeaaDoor
