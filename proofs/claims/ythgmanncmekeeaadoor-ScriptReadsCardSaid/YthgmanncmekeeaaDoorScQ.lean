/- chapter 35: a text cut, a line split, a name's kind, by the package. -/
import Derived.Test.YthgmanncmekeeaaDoorScF
import Derived.Shelf.Strings.SplitCore
import Derived.Shelf.Strings.Search3
import Derived.Shelf.Strings.Count
import Derived.Lib.IndexBytes
namespace Go.Proofs.YthgmanncmekeeaaDoor
set_option linter.unusedVariables false
set_option linter.unusedSimpArgs false
open Go.ChangeShapes Go.WideShapes Go.ChangeAt Go.RowKit Go.Shelf
attribute [-go_sem] binOp_string_add binOp_string_eql binOp_string_neq run_index_string
attribute [local go_sem] Sc.bs_size
namespace Sc
theorem bs_extract (l : Bs) (a b : Nat) : (bs l).extract a b = bs ((l.take b).drop a) := by
  apply ByteArray.ext
  rw [ByteArray.data_extract]
  apply Array.ext'
  simp [bs, List.extract_eq_take_drop, List.drop_take]
theorem slice_h (l : Bs) (i : Nat) (h : i ≤ l.length) (w : World) : (Instr.slice 9 (.string (bs l)) none (some (.int .i64 i)) none).run Tryd.prog w = .ok (.string (bs (l.take i))) w := by
  rw [run_slice_string_h (P := Tryd.prog) (ht := Tryd.underlying9) (h0 := by omega) (h2 := by rw [bs_size]; omega), bs_extract]
  simp
theorem slice_l (l : Bs) (i : Nat) (h : i ≤ l.length) (w : World) : (Instr.slice 9 (.string (bs l)) (some (.int .i64 i)) none none).run Tryd.prog w = .ok (.string (bs (l.drop i))) w := by
  rw [run_slice_string_l (P := Tryd.prog) (ht := Tryd.underlying9) (h0 := by omega) (h1 := by rw [bs_size]; omega), bs_extract, bs_size]
  simp
set_option maxRecDepth 100000 in
theorem litecut_any (l : Bs) (hl : l.length ≤ 100000) (w : World) : Calls Tryd.prog 48 #[.string (bs l), .string (bs [10])] w fun e w' => e = .returned (.tuple #[.string (bs (Lib.cut l [10]).1), .string (bs (Lib.cut l [10]).2.1), .bool (Lib.cut l [10]).2.2]) ∧ Below w.heap.size w w' := by
  have HI : Hid (∀ v, Calls Tryd.prog 58 #[.string (bs l), .string (bs [10])] v fun e w' => e = .returned (.int .i64 (Lib.indexByte l 10)) ∧ w' = v) := Lib.hid (fun v => by
    have := Any.stringslite_Index_one Tryd.lays219 (bs l) 10 v
    exact this)
  have hcut : Lib.cut l [10] = if 0 ≤ Lib.indexByte l 10 then (l.take (Lib.indexByte l 10).toNat, l.drop ((Lib.indexByte l 10).toNat + 1), true) else (l, [], false) := by unfold Lib.cut; rw [Lib.index_one]; rfl
  have hge := Lib.indexByte_ge l 10
  by_cases h : 0 ≤ Lib.indexByte l 10
  · rw [if_pos h] at hcut
    obtain ⟨i, hi⟩ : ∃ i : Nat, Lib.indexByte l 10 = i := ⟨(Lib.indexByte l 10).toNat, by omega⟩
    have hlt : i < l.length := by
      have := (Lib.indexByte_some hi).1
      exact (List.getElem?_eq_some_iff.1 this).1
    rw [hi] at hcut HI
    rw [hcut]
    have hge0 : ((0 : Int) ≤ (i : Int)) = True := by rw [eq_iff_iff, iff_true]; omega
    have s1 := slice_h l i (by omega)
    have s2 := slice_l l (i + 1) (by omega)
    have HS2 := Lib.hid s2
    clear h hge hcut hi
    go_enter Tryd.func48, Tryd.ntmps48
    go_wp2_with (go_at_call 58; (with_reducible refine (HI.out _).mono ?_); rintro e w2 ⟨rfl, rfl⟩)
    go_quiet (fail)
    go_wp2
    have hx : (bs l).extract (i + 1) l.length = bs (l.drop (i + 1)) := by rw [bs_extract]; simp
    exact bodyPost_ret (v := .tuple #[.string (bs (l.take i)), .string (bs (l.drop (i + 1))), .bool true]) (by simp [results, Tryd.results48, go_sem, hx]) rfl ⟨rfl, below_drewN (Below.refl _ _) _⟩
  · rw [if_neg h] at hcut
    obtain hm : Lib.indexByte l 10 = -1 := by omega
    rw [hm] at HI
    rw [hcut]
    clear h hge hcut hm
    go_enter Tryd.func48, Tryd.ntmps48
    go_wp2_with (go_at_call 58; (with_reducible refine (HI.out _).mono ?_); rintro e w2 ⟨rfl, rfl⟩)
    exact bodyPost_ret (v := .tuple #[.string (bs l), .string (bs []), .bool false]) (by simp [results, Tryd.results48, go_sem]; rfl) rfl ⟨rfl, Below.refl _ _⟩
theorem kd_first {l : Bs} (k : Nat) (h0 : 1 ≤ k) (h6 : k ≤ 6) (h : nm k = l) (hne : ∀ j : Nat, 1 ≤ j → j < k → nm j ≠ l) : kd l = k := by
  subst h
  exact kd_nm k (by
    obtain rfl | rfl | rfl | rfl | rfl | rfl : k = 1 ∨ k = 2 ∨ k = 3 ∨ k = 4 ∨ k = 5 ∨ k = 6 := by omega
    all_goals decide)
theorem kd_none {l : Bs} (hne : ∀ j : Nat, 1 ≤ j → j < 7 → nm j ≠ l) : kd l = 0 := by
  have h := fun j a b => (hne j a b).symm
  have := h 1 (by omega) (by omega)
  have := h 2 (by omega) (by omega)
  have := h 3 (by omega) (by omega)
  have := h 4 (by omega) (by omega)
  have := h 5 (by omega) (by omega)
  have := h 6 (by omega) (by omega)
  unfold kd
  simp_all
set_option maxRecDepth 100000 in
theorem kindOf_any (l : Bs) (w : World) : Calls Tryd.prog 39 #[.string (bs l)] w fun e w' => e = .returned (.int .i64 (kd l)) ∧ w = w' := by
  have HN : Hid (∀ (k : Nat) v, Calls Tryd.prog 22 #[.int .i64 k] v fun e w' => e = .returned (.string (bs (nm k))) ∧ v = w') := Lib.hid (fun k v => nameOf_any k v)
  obtain ⟨K, hK⟩ : ∃ K, K = kd l := ⟨_, rfl⟩
  rw [← hK]
  have HK := Lib.hid hK
  clear hK
  go_enter Tryd.func39, Tryd.ntmps39
  go_wp2
  go_loopw [3] (fun i wr => ∃ k : Nat, 1 ≤ k ∧ k ≤ 7 ∧ i = .int .i64 k ∧ Hid (∀ j : Nat, 1 ≤ j → j < k → nm j ≠ l) ∧ wr = w) (fun i _ => 7 - (intOf i).toNat)
  case atStart => exact ⟨1, by omega, by omega, rfl, Lib.hid (fun j a b => by omega), rfl⟩
  case round =>
    obtain ⟨k, h1, h7, rfl, HA, rfl⟩ := hrel
    by_cases hlt : k ≤ 6
    · have q5 : ((k : Int) ≤ 6) = True := by rw [eq_iff_iff, iff_true]; omega
      have heq := eql_bs (nm k) l
      by_cases hz : nm k = l
      · rw [decide_eq_true hz] at heq
        obtain rfl := HK.out.trans (kd_first k h1 hlt hz HA.out)
        clear hz HA HK
        go_wp2_with (go_at_call 22; (with_reducible refine (HN.out k _).mono ?_); rintro e w2 ⟨rfl, rfl⟩)
        go_ret
        exact ⟨rfl, rfl⟩
      · rw [decide_eq_false hz] at heq
        have HZ := Lib.hid hz
        clear hz
        go_wp2_with (go_at_call 22; (with_reducible refine (HN.out k _).mono ?_); rintro e w2 ⟨rfl, rfl⟩)
        go_roundw
        case rel =>
          refine ⟨k + 1, by omega, by omega, by go_num, Lib.hid (fun j a b => ?_), (by first | trivial | rfl)⟩
          by_cases e : j = k
          · rw [e]; exact HZ.out
          · exact HA.out j a (by omega)
        case measure => first | (simp [intOf]; done) | (simp [intOf]; omega)
    · have q5 : ((k : Int) ≤ 6) = False := by rw [eq_iff_iff, iff_false]; omega
      obtain rfl : k = 7 := by omega
      obtain rfl := HK.out.trans (kd_none HA.out)
      clear HA HK
      go_wp2
      go_ret
      exact ⟨rfl, rfl⟩
set_option maxRecDepth 100000 in
theorem cut_any (l : Bs) (hl : l.length ≤ 100000) (w : World) : Calls Tryd.prog 37 #[.string (bs l), .string (bs [10])] w fun e w' => e = .returned (.tuple #[.string (bs (Lib.cut l [10]).1), .string (bs (Lib.cut l [10]).2.1), .bool (Lib.cut l [10]).2.2]) ∧ Below w.heap.size w w' := by
  have HC : Hid (∀ v, Calls Tryd.prog 48 #[.string (bs l), .string (bs [10])] v fun e w' => e = .returned (.tuple #[.string (bs (Lib.cut l [10]).1), .string (bs (Lib.cut l [10]).2.1), .bool (Lib.cut l [10]).2.2]) ∧ Below v.heap.size v w') := Lib.hid (fun v => litecut_any l hl v)
  obtain ⟨x, hx⟩ : ∃ x, x = (Lib.cut l [10]).1 := ⟨_, rfl⟩
  obtain ⟨y, hy⟩ : ∃ x, x = (Lib.cut l [10]).2.1 := ⟨_, rfl⟩
  obtain ⟨z, hz⟩ : ∃ x, x = (Lib.cut l [10]).2.2 := ⟨_, rfl⟩
  rw [← hx, ← hy, ← hz] at HC ⊢
  clear hx hy hz
  go_enter Tryd.func37, Tryd.ntmps37
  go_wp2_with (go_at_call 48; (with_reducible refine (HC.out _).mono ?_); rintro e w2 ⟨rfl, hb⟩)
  exact bodyPost_ret (v := .tuple #[.string (bs x), .string (bs y), .bool z]) (by simp [results, Tryd.results37, go_sem]) rfl ⟨rfl, hb⟩
end Sc
end Go.Proofs.YthgmanncmekeeaaDoor
