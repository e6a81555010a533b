/- chapter 35: all events' text, by the own answer; ScriptPrints. -/
import Derived.Test.YthgmanncmekeeaaDoorSe2
import Derived.Test.YthgmanncmekeeaaDoorSd6
namespace Go.Proofs.YthgmanncmekeeaaDoor
set_option linter.unusedVariables false
set_option linter.unusedSimpArgs false
open Go.ChangeShapes Go.WideShapes Go.ChangeAt Go.RowKit Go.Shelf
attribute [-go_sem] binOp_string_add binOp_string_eql binOp_string_neq run_index_string
attribute [local go_sem] Sc.bs_size
namespace Sc
theorem num_any (x : Int) (w : World) : Calls Tryd.prog 11 #[.int .i64 x] w fun e w' => e = .returned (.int .i64 x) ∧ w = w' := by
  go_enter Tryd.func11, Tryd.ntmps11
  go_wp2
  go_ret
  exact ⟨rfl, rfl⟩
set_option maxRecDepth 100000 in
set_option maxHeartbeats 2000000 in
theorem refprint_any (L : List Ev) (p : Option Addr) (n cap : Nat) (w : World) (hn : L.length = n) (hM : EvM w p L) (hG : ∀ c ∈ L, EvG c) (hl : n ≤ 200) : Calls Tryd.prog 10 #[.slice p n cap] w fun e w' => e = .returned (.tuple #[.string (bs (printE L).1), .int .i64 (printE L).2]) ∧ Below w.heap.size w w' := by
  have HM := Lib.hid hM
  have HN := Lib.hid hn
  have HG := Lib.hid hG
  obtain ⟨rt, hrt⟩ : ∃ z, z = (printE L).1 := ⟨_, rfl⟩
  obtain ⟨rc, hrc⟩ : ∃ z, z = (printE L).2 := ⟨_, rfl⟩
  rw [← hrt, ← hrc]
  have HRT := Lib.hid hrt
  have HRC := Lib.hid hrc
  clear hM hn hG hrt hrc
  go_enter Tryd.func10, Tryd.ntmps10
  go_wp2
  go_loopw [4, 5] (fun s i wr => ∃ (k : Nat) (T : Bs), k ≤ n ∧ s = .string (bs T) ∧ i = .int .i64 k ∧ Hid (T = txtE (L.take k) ∧ ∀ c ∈ L.take k, (lineE c).2 = 0) ∧ Hid (Below w.heap.size w wr)) (fun _ i _ => n - (intOf i).toNat)
  case atStart => exact ⟨0, [], by omega, rfl, rfl, Lib.hid ⟨rfl, fun c h => by simp at h⟩, Lib.hid (Below.refl _ _)⟩
  case round =>
    obtain ⟨k, T, hk, rfl, rfl, HK, HW⟩ := hrel
    have hTl : T.length ≤ 40200 := by
      have h1 := txt_len (L.take k) (fun c hc => HG.out c (List.mem_of_mem_take hc))
      have h2 : (L.take k).length ≤ k := by rw [List.length_take]; omega
      rw [← HK.out.1] at h1
      omega
    by_cases hlt : k < n
    · have hltI : (k : Int) < n := by omega
      obtain ⟨c, hc⟩ : ∃ c, L[k]? = some c := ⟨_, List.getElem?_eq_getElem (by have := HN.out; omega)⟩
      have hcg := HG.out c (List.mem_of_getElem? hc)
      obtain ⟨g, o, rfl, hgo⟩ := HM.out.get hc
      have HGO := Lib.hid hgo
      have HL : Hid (∀ v, Calls Tryd.prog 13 #[.agg (evA c)] v fun e w' => e = .returned (.tuple #[.string (bs (lineE c).1), .int .i64 (lineE c).2]) ∧ Below v.heap.size v w') := Lib.hid (fun v => refline_any c v hcg)
      have hsl := line_len c hcg
      have HPB := Lib.hid (fun h => printE_bad k hc HK.out.2 (L := L) h)
      have HSN : Hid ((lineE c).2 = 0 → txtE (L.take (k + 1)) = txtE (L.take k) ++ ((lineE c).1 ++ [10]) ∧ ∀ c ∈ L.take (k + 1), (lineE c).2 = 0) := Lib.hid (fun h => by
        rw [List.take_add_one, hc]
        refine ⟨txtE_snoc _ _, fun x hx => ?_⟩
        rcases List.mem_append.1 hx with hx | hx
        · exact HK.out.2 x hx
        · simp at hx
          rw [hx]; exact h)
      obtain ⟨st, hst⟩ : ∃ s, s = (lineE c).1 := ⟨_, rfl⟩
      obtain ⟨cd, hcd⟩ : ∃ s, s = (lineE c).2 := ⟨_, rfl⟩
      rw [← hst, ← hcd] at HL HSN
      rw [← hcd] at HPB
      rw [← hst] at hsl
      clear hgo hc hcg hst hcd
      by_cases hz : cd = 0
      · subst hz
        have HX := Lib.hid (HSN.out rfl)
        have ha1 : ∀ w, (binOp .add 9 (.string (bs T)) (.string (bs st))).run Tryd.prog w = .ok (.string (bs (T ++ st))) w := fun w => add_bs T st (by omega) w
        have ha2 : ∀ w, (binOp .add 9 (.string (bs (T ++ st))) (.string { data := #[10] })).run Tryd.prog w = .ok (.string (bs (T ++ st ++ [10]))) w := fun w => add_bs (T ++ st) [10] (by simp; omega) w
        clear HSN HPB hTl hsl
        go_wp2_with (first
          | (refine wpList_load_mid rfl 36 _ rfl g (o + k * 15) rfl (evA c).toList _ (HGO.out _ HW.out).1 Tryd.underlying36 rfl (by kernel_rfl) ?_; rw [Array.toArray_toList])
          | (go_at_call 13; (with_reducible refine (HL.out _).mono ?_); rintro e w3 ⟨rfl, hb3⟩; have HW3 := Lib.hid (HW.out.trans (hb3.mono HW.out.size))))
        go_roundw
        case rel => exact ⟨k + 1, _, by omega, rfl, by go_num, Lib.hid ⟨by rw [HX.out.1, HK.out.1], HX.out.2⟩, HW3⟩
        case measure => first | (simp [intOf]; done) | (simp [intOf]; omega)
      · have hp := HPB.out hz
        obtain rfl : rt = [] := by rw [HRT.out, hp]
        obtain rfl : rc = cd := by rw [HRC.out, hp]
        have hz' : (rc != 0) = true := by simpa using hz
        clear HSN HPB hTl hsl hp hz
        go_wp2_with (first
          | (refine wpList_load_mid rfl 36 _ rfl g (o + k * 15) rfl (evA c).toList _ (HGO.out _ HW.out).1 Tryd.underlying36 rfl (by kernel_rfl) ?_; rw [Array.toArray_toList])
          | (go_at_call 13; (with_reducible refine (HL.out _).mono ?_); rintro e w3 ⟨rfl, hb3⟩; have HW3 := Lib.hid (HW.out.trans (hb3.mono HW.out.size))))
        go_ret2
        exact ⟨rfl, HW3.out⟩
    · obtain rfl : k = n := by omega
      have hall : L.take k = L := List.take_of_length_le (by have := HN.out; omega)
      have hp := printE_ok (L := L) (by have := HK.out.2; rw [hall] at this; exact this)
      have h0 := HK.out.1
      rw [hall] at h0
      rw [← h0, if_neg (by omega)] at hp
      obtain rfl : rt = T := by rw [HRT.out, hp]
      obtain rfl : rc = 0 := by rw [HRC.out, hp]
      have hfi : ((65536 : Int) < (rt.length : Int)) = False := by rw [eq_iff_iff, iff_false]; omega
      clear hall hp h0 hTl
      go_wp2
      go_ret2
      exact ⟨rfl, HW.out⟩
set_option maxRecDepth 100000 in
set_option maxHeartbeats 2000000 in
theorem prints_any (L : List Ev) (p : Option Addr) (n cap : Nat) (w : World) (hE : EnvAt w) (hn : L.length = n) (hM : EvM w p L) (hG : ∀ c ∈ L, EvG c) : Calls Tryd.prog 3 #[.slice p n cap] w fun e w' => e = .returned (.bool true) ∧ Below w.heap.size w w' := by
  have HAW := Lib.hid (fun v (h' : Below w.heap.size w v) => awake_any v (hE.call h'))
  by_cases hl : 200 < n
  · have q : ((200 : Int) < (n : Int)) = True := by rw [eq_iff_iff, iff_true]; omega
    clear hl hE hM hn
    go_enter Tryd.func3, Tryd.ntmps3
    go_wp2_with (go_at_call 8; (with_reducible refine (HAW.out _ (Below.refl _ _)).mono ?_); rintro e w1 ⟨rfl, hb1⟩)
    go_ret
    exact ⟨rfl, hb1⟩
  · have q : ((200 : Int) < (n : Int)) = False := by rw [eq_iff_iff, iff_false]; omega
    obtain ⟨X, hX⟩ : ∃ z, z = (printE L).1 := ⟨_, rfl⟩
    obtain ⟨y, hy⟩ : ∃ z, z = (printE L).2 := ⟨_, rfl⟩
    have HPR : Hid (Calls Tryd.prog 9 #[.slice p n cap] w fun e w' => e = .returned (.tuple #[.string (bs X), .int .i64 y]) ∧ Below w.heap.size w w') := Lib.hid (by rw [hX, hy]; exact print_any L _ w (hM.at hn) hG hE (by omega))
    have HPO : Hid (∀ v, Below w.heap.size w v → Calls Tryd.prog 10 #[.slice p n cap] v fun e w' => e = .returned (.tuple #[.string (bs X), .int .i64 y]) ∧ Below v.heap.size v w') := Lib.hid (fun v hv => by rw [hX, hy]; exact refprint_any L p n cap v hn (hM.call hv) hG (by omega))
    have HLN : Hid (∀ c v, c ∈ L → Below w.heap.size w v → Calls Tryd.prog 12 #[.agg (evA c)] v fun e w' => e = .returned (.tuple #[.string (bs (lineE c).1), .int .i64 (lineE c).2]) ∧ Below v.heap.size v w') := Lib.hid (fun c v hc hv => line_any c v (hG c hc) (hE.call hv))
    have HLO : Hid (∀ c v, c ∈ L → Calls Tryd.prog 13 #[.agg (evA c)] v fun e w' => e = .returned (.tuple #[.string (bs (lineE c).1), .int .i64 (lineE c).2]) ∧ Below v.heap.size v w') := Lib.hid (fun c v hc => refline_any c v (hG c hc))
    have HNUM := Lib.hid num_any
    have HMP := Lib.hid hM
    have HN := Lib.hid hn
    have hn2 : n ≤ 200 := by omega
    have hne : ∀ w, (binOp .neq 9 (.string (bs X)) (.string (bs X))).run Tryd.prog w = .ok (.bool false) w := fun w => (neq_bs X X w).trans (by simp)
    clear hE hM hn hG hX hy hl
    go_enter Tryd.func3, Tryd.ntmps3
    go_wp2_with (first
      | (go_at_call 9; (with_reducible refine HPR.out.mono ?_); rintro e w1 ⟨rfl, hb1⟩)
      | (go_at_call 10; (with_reducible refine (HPO.out _ hb1).mono ?_); rintro e w2 ⟨rfl, hb2⟩; have HB := Lib.hid (hb1.trans (hb2.mono hb1.size)))
      | (go_at_call 11; (with_reducible refine (HNUM.out _ _).mono ?_); rintro e w3 ⟨rfl, rfl⟩))
    clear hb1 hb2
    go_loopw [7] (fun i wr => ∃ k : Nat, k ≤ n ∧ i = .int .i64 k ∧ Hid (Below w.heap.size w wr)) (fun i _ => n - (intOf i).toNat)
    case atStart => exact ⟨0, by omega, rfl, HB⟩
    case round =>
      obtain ⟨k, hk, rfl, HW⟩ := hrel
      by_cases hlt : k < n
      · have hltI : (k : Int) < n := by omega
        obtain ⟨c, hc⟩ : ∃ c, L[k]? = some c := ⟨_, List.getElem?_eq_getElem (by have := HN.out; omega)⟩
        have hmem := List.mem_of_getElem? hc
        obtain ⟨g, o, rfl, hgo⟩ := HMP.out.get hc
        have HL1 := Lib.hid (fun v hv => HLN.out c v hmem hv)
        have HL2 := Lib.hid (fun v => HLO.out c v hmem)
        obtain ⟨U, hU⟩ : ∃ X, X = (lineE c).1 := ⟨_, rfl⟩
        obtain ⟨z, hz⟩ : ∃ X, X = (lineE c).2 := ⟨_, rfl⟩
        rw [← hU, ← hz] at HL1 HL2
        have hneU : ∀ w, (binOp .neq 9 (.string (bs U)) (.string (bs U))).run Tryd.prog w = .ok (.bool false) w := fun w => (neq_bs U U w).trans (by simp)
        have HG1 := Lib.hid hgo
        clear hgo hU hz hc hmem
        go_wp2_with (first
          | (refine wpList_load_mid rfl 36 _ rfl g (o + k * 15) rfl (evA c).toList _ (HG1.out _ HW.out).1 Tryd.underlying36 rfl (by kernel_rfl) ?_; rw [Array.toArray_toList])
          | (go_at_call 12; (with_reducible refine (HL1.out _ HW.out).mono ?_); rintro e w3 ⟨rfl, hb3⟩; have HW3 := Lib.hid (HW.out.trans (hb3.mono HW.out.size)))
          | (refine wpList_load_mid rfl 36 _ rfl g (o + k * 15) rfl (evA c).toList _ (HG1.out _ HW3.out).1 Tryd.underlying36 rfl (by kernel_rfl) ?_; rw [Array.toArray_toList])
          | (go_at_call 13; (with_reducible refine (HL2.out _).mono ?_); rintro e w4 ⟨rfl, hb4⟩; have HW4 := Lib.hid (HW3.out.trans (hb4.mono HW3.out.size)))
          | (go_at_call 11; (with_reducible refine (HNUM.out _ _).mono ?_); rintro e w5 ⟨rfl, rfl⟩))
        go_roundw
        case rel => exact ⟨k + 1, by omega, by go_num, HW4⟩
        case measure => first | (simp [intOf]; done) | (simp [intOf]; omega)
      · obtain rfl : k = n := by omega
        go_wp2_with (go_at_call 8; (with_reducible refine (HAW.out _ HW.out).mono ?_); rintro e w5 ⟨rfl, hb5⟩; have HB5 := Lib.hid hb5; clear hb5)
        go_ret
        exact ⟨rfl, HW.out.trans (HB5.out.mono HW.out.size)⟩
theorem walk_scriptPrints {W : World} (p : Option Addr) (n c : Nat) (h : n ≤ c ∧ c ≤ maxLen ∧ ∃ L : List Ev, L.length = n ∧ EvM W p L ∧ ∀ e ∈ L, EvG e) (hE : EnvAt W) : Calls Tryd.prog 3 #[.slice p n c] W fun e w' => e = .returned (.bool true) ∧ Below W.heap.size W w' := by
  obtain ⟨_, _, L, h1, h2, h3⟩ := h
  exact prints_any L p n c W hE h1 h2 h3
end Sc
end Go.Proofs.YthgmanncmekeeaaDoor
