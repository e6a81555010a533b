/- chapter 35: a word of digits read, by the own answer. -/
import Derived.Test.YthgmanncmekeeaaDoorScA
namespace Go.Proofs.YthgmanncmekeeaaDoor
set_option linter.unusedVariables false
set_option linter.unusedSimpArgs false
open Go.ChangeShapes Go.WideShapes Go.ChangeAt Go.RowKit
attribute [-go_sem] binOp_string_add binOp_string_eql binOp_string_neq run_index_string
attribute [local go_sem] Sc.bs_size
namespace Sc
/-- What is read. -/
def numV (l : Bs) : Nat := (numW l).getD 0
def numB (l : Bs) : Bool := (numW l).isSome
theorem numV_lt (l : Bs) : numV l < 18446744073709551616 := by
  unfold numV
  cases h : numW l with
  | none => simp
  | some v => exact (numW_iff.1 h).1
theorem num_none {l : Bs} (h : numW l = none) : numV l = 0 ∧ numB l = false := by unfold numV numB; rw [h]; exact ⟨rfl, rfl⟩
theorem num_some {l : Bs} {v : Nat} (h : numW l = some v) : numV l = v ∧ numB l = true := by unfold numV numB; rw [h]; exact ⟨rfl, rfl⟩
theorem numW_long {l : Bs} (h : 20 < l.length) : numW l = none := by
  cases e : numW l with
  | none => rfl
  | some v =>
    obtain ⟨h1, h2⟩ := numW_iff.1 e
    have := nd20 h1
    rw [← h2] at this
    omega
theorem valF_take (l : Bs) (k : Nat) (h : k < l.length) : valF 0 (l.take (k + 1)) = valF 0 (l.take k) * 10 + ((l[k]'h).toNat - 48) := by
  rw [List.take_add_one, List.getElem?_eq_getElem h]
  exact valF_snoc _ _ _
theorem head_at {l : Bs} (h : 0 < l.length) : l.head? = some (l[0]'h) := by
  cases l with
  | nil => simp at h
  | cons a t => rfl
theorem byte_lt (c : UInt8) : c.toNat < 256 := c.toNat_lt
theorem step_eq (m c : Nat) (h0 : 48 ≤ c) (h1 : c ≤ 57) : IntKind.u64.wrap (IntKind.u64.wrap ((m : Int) % 18446744073709551616 * 10) + ((c : Int) - 48)) = ((m * 10 + (c - 48)) % 18446744073709551616 : Nat) := by
  simp only [IntKind.wrap, IntKind.signed, IntKind.bits]
  simp
  omega
set_option maxRecDepth 100000 in
set_option maxHeartbeats 2000000 in
theorem word_any (l : Bs) (hl : l.length < 9223372036854775807) (w : World) : Calls Tryd.prog 52 #[.string (bs l)] w fun e w' => e = .returned (.tuple #[.int .u64 (numV l), .bool (numB l)]) ∧ w = w' := by
  by_cases h0 : l.length < 1
  · have hn : numW l = none := numW_no (.inr (.inr (List.length_eq_zero_iff.1 (by omega))))
    obtain ⟨e1, e2⟩ := num_none hn
    rw [e1, e2]
    have h0' : ((l.length : Nat) : Int) = 0 := by omega
    go_enter Tryd.func52, Tryd.ntmps52
    go_wp2
    go_ret2
    exact ⟨rfl, rfl⟩
  have hpos : 0 < l.length := by omega
  obtain ⟨nv, hnv⟩ : ∃ v : Nat, v = numV l := ⟨_, rfl⟩
  obtain ⟨nb, hnb⟩ : ∃ v : Bool, v = numB l := ⟨_, rfl⟩
  rw [← hnv, ← hnb]
  have HNV := Lib.hid hnv
  have HNB := Lib.hid hnb
  clear hnv hnb
  have hx0 : ∀ w, (Instr.index 9 (.string (bs l)) (.int .i64 0)).run Tryd.prog w = .ok (.int .u8 (l[0]'hpos).toNat) w := idx_bs l 0 hpos
  have hd := head_at hpos
  obtain ⟨c0, hc0⟩ : ∃ c : Nat, c = (l[0]'hpos).toNat := ⟨_, rfl⟩
  rw [← hc0] at hx0
  by_cases h20 : 20 < l.length
  · obtain ⟨e1, e2⟩ := num_none (numW_long h20)
    obtain rfl := HNV.out.trans e1
    obtain rfl := HNB.out.trans e2
    have q1 : ((l.length : Int) < 1) = False := by rw [eq_iff_iff, iff_false]; omega
    have q2 : ((20 : Int) < (l.length : Int)) = True := by rw [eq_iff_iff, iff_true]; omega
    clear hd hc0
    go_enter Tryd.func52, Tryd.ntmps52
    go_wp2
    go_ret2
    exact ⟨rfl, rfl⟩
  have q1 : ((l.length : Int) < 1) = False := by rw [eq_iff_iff, iff_false]; omega
  have q2 : ((20 : Int) < (l.length : Int)) = False := by rw [eq_iff_iff, iff_false]; omega
  by_cases hz : c0 = 48 ∧ 1 < l.length
  · have hn : numW l = none := numW_no (.inr (.inl (fun q => by
      refine q hz.2 ?_
      rw [hd]
      have : (l[0]'hpos).toNat = (48 : UInt8).toNat := by rw [← hc0, hz.1]; rfl
      rw [UInt8.toNat_inj.1 this])))
    obtain ⟨e1, e2⟩ := num_none hn
    obtain rfl := HNV.out.trans e1
    obtain rfl := HNB.out.trans e2
    have q3 : ((1 : Int) < (l.length : Int)) = True := by rw [eq_iff_iff, iff_true]; omega
    obtain ⟨rfl, -⟩ := hz
    clear hd hc0
    go_enter Tryd.func52, Tryd.ntmps52
    go_wp2
    go_ret2
    exact ⟨rfl, rfl⟩
  have hlead : 1 < l.length → l.head? ≠ some 48 := fun h e => by
    refine hz ⟨?_, h⟩
    rw [hd] at e
    injection e with e
    rw [hc0, e]; rfl
  have q4 : (c0 = 48 → ¬ 1 < l.length) := fun h1 h2 => hz ⟨h1, h2⟩
  have hstart : ∀ Q : Prop, (c0 = 48 ∧ l.length = 1 → Q) → (¬ c0 = 48 → Q) → Q := fun Q h1 h2 => by
    by_cases e : c0 = 48
    · exact h1 ⟨e, by have := q4 e; omega⟩
    · exact h2 e
  have HLD := Lib.hid hlead
  have HPOS := Lib.hid hpos
  clear hz q4 hd hc0
  refine hstart _ ?_ ?_
  · rintro ⟨rfl, h1⟩
    have q3 : ((1 : Int) < (l.length : Int)) = False := by rw [eq_iff_iff, iff_false]; omega
    clear h1 hstart hlead hpos h0 h20
    go_enter Tryd.func52, Tryd.ntmps52
    go_wp2
    go_loopw [4, 5] (fun n i wr => ∃ k : Nat, k ≤ l.length ∧ i = .int .i64 k ∧ n = .int .u64 ((valF 0 (l.take k) % 18446744073709551616 : Nat) : Int) ∧ Hid ((l.take k).all dig = true) ∧ wr = w) (fun _ i _ => l.length - (intOf i).toNat)
    case atStart => exact ⟨0, by omega, rfl, rfl, Lib.hid rfl, rfl⟩
    case round =>
      obtain ⟨k, hk, rfl, rfl, HA, rfl⟩ := hrel
      by_cases hlt : k < l.length
      · have q5 : ((k : Int) < (l.length : Int)) = True := by rw [eq_iff_iff, iff_true]; omega
        have hxk := idx_bs l k hlt
        obtain ⟨ck, hck⟩ : ∃ c : Nat, c = (l[k]'hlt).toNat := ⟨_, rfl⟩
        rw [← hck] at hxk
        have HLT := Lib.hid hlt
        have hc256 : ck < 256 := by rw [hck]; exact byte_lt _
        have HNO : Hid (¬ (48 ≤ ck ∧ ck ≤ 57) → numW l = none) := Lib.hid (fun q => numW_no (.inl (fun e => by
          have := dig_of ((List.all_eq_true.1 e) (l[k]'hlt) (List.getElem_mem _))
          rw [← hck] at this
          exact q this)))
        have HAL : Hid (48 ≤ ck ∧ ck ≤ 57 → (l.take (k + 1)).all dig = true) := Lib.hid (fun q => by
          rw [List.take_add_one, List.getElem?_eq_getElem hlt, List.all_append, HA.out]
          simp [dig, ← hck, q.1, q.2])
        have HVF : Hid (valF 0 (l.take (k + 1)) = valF 0 (l.take k) * 10 + (ck - 48)) := Lib.hid (by rw [hck]; exact valF_take l k hlt)
        obtain ⟨m, hm⟩ : ∃ m : Nat, m = valF 0 (l.take k) := ⟨_, rfl⟩
        rw [← hm]
        rw [← hm] at HVF
        clear hck hlt hm
        by_cases g1 : ck < 48
        · have g1' : ((ck : Int) < 48) = True := by rw [eq_iff_iff, iff_true]; omega
          obtain ⟨e1, e2⟩ := num_none (HNO.out (by omega))
          obtain rfl := HNV.out.trans e1
          obtain rfl := HNB.out.trans e2
          clear HNO HAL e1 e2 HNV HNB
          go_wp2
          go_ret2
          exact ⟨rfl, rfl⟩
        · have g1' : ((ck : Int) < 48) = False := by rw [eq_iff_iff, iff_false]; omega
          by_cases g2 : 57 < ck
          · have g2' : ((57 : Int) < (ck : Int)) = True := by rw [eq_iff_iff, iff_true]; omega
            obtain ⟨e1, e2⟩ := num_none (HNO.out (by omega))
            obtain rfl := HNV.out.trans e1
            obtain rfl := HNB.out.trans e2
            clear HNO HAL e1 e2 HNV HNB
            go_wp2
            go_ret2
            exact ⟨rfl, rfl⟩
          · have g2' : ((57 : Int) < (ck : Int)) = False := by rw [eq_iff_iff, iff_false]; omega
            have HST := Lib.hid (step_eq m ck (by omega) (by omega))
            clear HNO
            go_wp2
            go_roundw
            case rel => exact ⟨k + 1, HLT.out, by go_num, by rw [HVF.out]; exact congrArg (Value.int .u64) HST.out, Lib.hid (HAL.out (by omega)), (by first | trivial | rfl)⟩
            case measure => first | (simp [intOf]; done) | (have := HLT.out; simp [intOf]; omega)
      · have q5 : ((k : Int) < (l.length : Int)) = False := by rw [eq_iff_iff, iff_false]; omega
        obtain rfl : k = l.length := by omega
        rw [List.take_length] at HA ⊢
        have hown := numW_own (l := l) (by intro e; have := HPOS.out; rw [e] at this; simp at this) HA.out HLD.out
        obtain ⟨m, hm⟩ : ∃ m : Nat, m = valF 0 l % 18446744073709551616 := ⟨_, rfl⟩
        rw [← hm] at hown ⊢
        have HD := Lib.hid (decimal_any m (by rw [hm]; exact Nat.mod_lt _ (by decide)))
        have hne := neq_bs (Lib.decDigits m) l
        clear hm HA
        by_cases e : Lib.decDigits m = l
        · rw [if_pos e] at hown
          obtain ⟨e1, e2⟩ := num_some hown
          obtain rfl := HNV.out.trans e1
          obtain rfl := HNB.out.trans e2
          rw [decide_eq_true e] at hne
          clear hown e1 e2 HNV HNB e
          go_wp2_with (go_at_call 27; (with_reducible refine (HD.out _).mono ?_); rintro e w1 ⟨rfl, rfl⟩)
          go_ret2
          exact ⟨rfl, rfl⟩
        · rw [if_neg e] at hown
          obtain ⟨e1, e2⟩ := num_none hown
          obtain rfl := HNV.out.trans e1
          obtain rfl := HNB.out.trans e2
          rw [decide_eq_false e] at hne
          clear hown e1 e2 HNV HNB e
          go_wp2_with (go_at_call 27; (with_reducible refine (HD.out _).mono ?_); rintro e w1 ⟨rfl, rfl⟩)
          go_ret2
          exact ⟨rfl, rfl⟩
  · intro hc
    have hcI : ((c0 : Int) == 48) = false := beq_eq_false_iff_ne.2 (by omega)
    clear hc hstart hlead hpos h0 h20
    go_enter Tryd.func52, Tryd.ntmps52
    go_wp2
    go_loopw [4, 5] (fun n i wr => ∃ k : Nat, k ≤ l.length ∧ i = .int .i64 k ∧ n = .int .u64 ((valF 0 (l.take k) % 18446744073709551616 : Nat) : Int) ∧ Hid ((l.take k).all dig = true) ∧ wr = w) (fun _ i _ => l.length - (intOf i).toNat)
    case atStart => exact ⟨0, by omega, rfl, rfl, Lib.hid rfl, rfl⟩
    case round =>
      obtain ⟨k, hk, rfl, rfl, HA, rfl⟩ := hrel
      by_cases hlt : k < l.length
      · have q5 : ((k : Int) < (l.length : Int)) = True := by rw [eq_iff_iff, iff_true]; omega
        have hxk := idx_bs l k hlt
        obtain ⟨ck, hck⟩ : ∃ c : Nat, c = (l[k]'hlt).toNat := ⟨_, rfl⟩
        rw [← hck] at hxk
        have HLT := Lib.hid hlt
        have hc256 : ck < 256 := by rw [hck]; exact byte_lt _
        have HNO : Hid (¬ (48 ≤ ck ∧ ck ≤ 57) → numW l = none) := Lib.hid (fun q => numW_no (.inl (fun e => by
          have := dig_of ((List.all_eq_true.1 e) (l[k]'hlt) (List.getElem_mem _))
          rw [← hck] at this
          exact q this)))
        have HAL : Hid (48 ≤ ck ∧ ck ≤ 57 → (l.take (k + 1)).all dig = true) := Lib.hid (fun q => by
          rw [List.take_add_one, List.getElem?_eq_getElem hlt, List.all_append, HA.out]
          simp [dig, ← hck, q.1, q.2])
        have HVF : Hid (valF 0 (l.take (k + 1)) = valF 0 (l.take k) * 10 + (ck - 48)) := Lib.hid (by rw [hck]; exact valF_take l k hlt)
        obtain ⟨m, hm⟩ : ∃ m : Nat, m = valF 0 (l.take k) := ⟨_, rfl⟩
        rw [← hm]
        rw [← hm] at HVF
        clear hck hlt hm
        by_cases g1 : ck < 48
        · have g1' : ((ck : Int) < 48) = True := by rw [eq_iff_iff, iff_true]; omega
          obtain ⟨e1, e2⟩ := num_none (HNO.out (by omega))
          obtain rfl := HNV.out.trans e1
          obtain rfl := HNB.out.trans e2
          clear HNO HAL e1 e2 HNV HNB
          go_wp2
          go_ret2
          exact ⟨rfl, rfl⟩
        · have g1' : ((ck : Int) < 48) = False := by rw [eq_iff_iff, iff_false]; omega
          by_cases g2 : 57 < ck
          · have g2' : ((57 : Int) < (ck : Int)) = True := by rw [eq_iff_iff, iff_true]; omega
            obtain ⟨e1, e2⟩ := num_none (HNO.out (by omega))
            obtain rfl := HNV.out.trans e1
            obtain rfl := HNB.out.trans e2
            clear HNO HAL e1 e2 HNV HNB
            go_wp2
            go_ret2
            exact ⟨rfl, rfl⟩
          · have g2' : ((57 : Int) < (ck : Int)) = False := by rw [eq_iff_iff, iff_false]; omega
            have HST := Lib.hid (step_eq m ck (by omega) (by omega))
            clear HNO
            go_wp2
            go_roundw
            case rel => exact ⟨k + 1, HLT.out, by go_num, by rw [HVF.out]; exact congrArg (Value.int .u64) HST.out, Lib.hid (HAL.out (by omega)), (by first | trivial | rfl)⟩
            case measure => first | (simp [intOf]; done) | (have := HLT.out; simp [intOf]; omega)
      · have q5 : ((k : Int) < (l.length : Int)) = False := by rw [eq_iff_iff, iff_false]; omega
        obtain rfl : k = l.length := by omega
        rw [List.take_length] at HA ⊢
        have hown := numW_own (l := l) (by intro e; have := HPOS.out; rw [e] at this; simp at this) HA.out HLD.out
        obtain ⟨m, hm⟩ : ∃ m : Nat, m = valF 0 l % 18446744073709551616 := ⟨_, rfl⟩
        rw [← hm] at hown ⊢
        have HD := Lib.hid (decimal_any m (by rw [hm]; exact Nat.mod_lt _ (by decide)))
        have hne := neq_bs (Lib.decDigits m) l
        clear hm HA
        by_cases e : Lib.decDigits m = l
        · rw [if_pos e] at hown
          obtain ⟨e1, e2⟩ := num_some hown
          obtain rfl := HNV.out.trans e1
          obtain rfl := HNB.out.trans e2
          rw [decide_eq_true e] at hne
          clear hown e1 e2 HNV HNB e
          go_wp2_with (go_at_call 27; (with_reducible refine (HD.out _).mono ?_); rintro e w1 ⟨rfl, rfl⟩)
          go_ret2
          exact ⟨rfl, rfl⟩
        · rw [if_neg e] at hown
          obtain ⟨e1, e2⟩ := num_none hown
          obtain rfl := HNV.out.trans e1
          obtain rfl := HNB.out.trans e2
          rw [decide_eq_false e] at hne
          clear hown e1 e2 HNV HNB e
          go_wp2_with (go_at_call 27; (with_reducible refine (HD.out _).mono ?_); rintro e w1 ⟨rfl, rfl⟩)
          go_ret2
          exact ⟨rfl, rfl⟩
end Sc
end Go.Proofs.YthgmanncmekeeaaDoor
