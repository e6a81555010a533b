/- chapter 35: an event's line, all events' text, by the own answer. -/
import Derived.Test.YthgmanncmekeeaaDoorSe1
import Derived.Test.YthgmanncmekeeaaDoorSd5
namespace Go.Proofs.YthgmanncmekeeaaDoor
set_option linter.unusedVariables false
set_option linter.unusedSimpArgs false
open Go.ChangeShapes Go.WideShapes Go.ChangeAt Go.RowKit Go.Shelf
attribute [-go_sem] binOp_string_add binOp_string_eql binOp_string_neq run_index_string
attribute [local go_sem] Sc.bs_size
namespace Sc
/-- Numbers, each with a blank ahead. -/
def flatD (L : List Int) : Bs := (L.map (fun x => (32 : UInt8) :: Lib.decDigits x.toNat)).flatten
theorem flatD_snoc (L : List Int) (x : Int) : flatD (L ++ [x]) = flatD L ++ 32 :: Lib.decDigits x.toNat := by unfold flatD; simp
theorem flatD_len (L : List Int) (h : ∀ x ∈ L, x < 18446744073709551616) : (flatD L).length ≤ 21 * L.length := flat_len _ 21 _ (fun x hx => by
  have := nd20 (u := x.toNat) (by have := h x hx; omega)
  simp only [List.length_cons]
  omega)
theorem line_good {c : Ev} (h1 : nm (c 0) ≠ []) (h2 : ∀ x ∈ (flds (c 0)).map c, 0 ≤ x ∧ x ≤ 999999) : lineE c = (nm (c 0) ++ flatD ((flds (c 0)).map c) ++ flatD ((wrds (c 0)).map c), 0) := by
  have hf : ∀ p ∈ places (c 0), farP p.1 (c p.2) = false := by
    intro p hp
    rw [places_fw] at hp
    rcases List.mem_append.1 hp with hp | hp
    · obtain ⟨i, hi, rfl⟩ := List.mem_map.1 hp
      have := h2 (c i) (List.mem_map.2 ⟨i, hi, rfl⟩)
      unfold farP
      simp
      omega
    · obtain ⟨i, hi, rfl⟩ := List.mem_map.1 hp
      rfl
  unfold lineE
  rw [if_neg h1, lineR_eq c _ _ hf, places_fw]
  unfold flatD
  simp [List.map_map, Function.comp_def]
theorem line_far {c : Ev} (h1 : nm (c 0) ≠ []) {x : Int} (hx : x ∈ (flds (c 0)).map c) (h : ¬ (0 ≤ x ∧ x ≤ 999999)) : lineE c = ([], 3) := by
  obtain ⟨i, hi, rfl⟩ := List.mem_map.1 hx
  unfold lineE
  rw [if_neg h1]
  rcases lineR_err c (places (c 0)) (nm (c 0)) with e | e
  · exfalso
    have hp := lineR_ok c (places (c 0)) (nm (c 0)) (lineR c (nm (c 0)) (places (c 0))).1 (by rw [← e]) (false, i) (by rw [places_fw]; exact List.mem_append_left _ (List.mem_map.2 ⟨i, hi, rfl⟩))
    unfold farP at hp
    simp at hp
    omega
  · exact e
theorem fw_len (k : Int) : (flds k).length ≤ 3 ∧ (wrds k).length ≤ 7 ∧ ∀ i ∈ wrds k, 3 ≤ i ∧ i ≤ 11 := by
  unfold flds wrds
  repeat' split
  all_goals (refine ⟨by decide, by decide, by decide⟩)
set_option maxRecDepth 100000 in
set_option maxHeartbeats 2000000 in
theorem refline_any (c : Ev) (w : World) (hc : EvG c) : Calls Tryd.prog 13 #[.agg (evA c)] w fun e w' => e = .returned (.tuple #[.string (bs (lineE c).1), .int .i64 (lineE c).2]) ∧ Below w.heap.size w w' := by
  obtain ⟨w1, hw1⟩ : ∃ y, y = w.alloc (.cells (evA c) 36) := ⟨_, rfl⟩
  have hb1 : Below w.heap.size w w1 := hw1 ▸ bal (Below.refl _ _) _
  have he : w1.heap[w.heap.size]? = some (.cells (evA c) 36 (0, 0)) := by rw [hw1]; exact World.alloc_heap_new _ _
  have HW1 := Lib.hid hw1
  have HB1 := Lib.hid hb1
  have HR : Hid (w1.rangeAt w.heap.size 0 (evA c).toList) := Lib.hid (fun j u hj => by
    rw [row_cell he]
    simpa using hj)
  have HP := Lib.hid (refparts_any c w1)
  obtain ⟨n0, hn0⟩ : ∃ n, n = w.heap.size := ⟨_, rfl⟩
  obtain ⟨nb, hnb⟩ : ∃ n, n = nm (c 0) := ⟨_, rfl⟩
  by_cases h : nb = []
  · have hle : lineE c = ([], 2) := by unfold lineE; rw [if_pos (by rw [← hnb]; exact h)]
    rw [hle]
    subst h
    have HQ : Hid (Calls Tryd.prog 26 #[.agg (evA c)] w1 fun e w' => ∃ u v, e = .returned (.tuple #[.string (bs []), u, v]) ∧ Below w1.heap.size w1 w') := Lib.hid (HP.out.mono (by
      rintro e w' ⟨u, v, he, _, hb⟩
      rw [← hnb] at he
      exact ⟨u, v, he, hb⟩))
    have heq : ∀ w, (binOp .eql 9 (.string (bs [])) (.string { data := #[] })).run Tryd.prog w = .ok (.bool true) w := fun w => eql_bs [] [] w
    clear he hb1 hw1 hnb hle HP
    go_enter Tryd.func13, Tryd.ntmps13
    go_upto_region 1 with fail
    rw [← HW1.out]
    go_wp2_with (first
      | (refine wpList_load_mid rfl 36 _ rfl w.heap.size 0 rfl (evA c).toList _ HR.out Tryd.underlying36 rfl (by kernel_rfl) ?_; rw [Array.toArray_toList])
      | (go_at_call 26; (with_reducible refine HQ.out.mono ?_); rintro e w2 ⟨u, v, rfl, hb2⟩))
    go_ret2
    exact ⟨rfl, HB1.out.trans (hb2.mono HB1.out.size)⟩
  · have HQ : Hid (Calls Tryd.prog 26 #[.agg (evA c)] w1 fun e w' => ∃ u v, e = .returned (.tuple #[.string (bs nb), u, v]) ∧ IntR .i64 w' u ((flds (c 0)).map c) ∧ IntR .u64 w' v ((wrds (c 0)).map c) ∧ Below w1.heap.size w1 w') := Lib.hid (HP.out.mono (by
      rintro e w' ⟨u, v, he, hi, hb⟩
      rw [← hnb] at he hi
      exact ⟨u, v, he, (hi h).1, (hi h).2, hb⟩))
    have heq : ∀ w, (binOp .eql 9 (.string (bs nb)) (.string { data := #[] })).run Tryd.prog w = .ok (.bool false) w := fun w => (eql_bs nb [] w).trans (by rw [decide_eq_false h])
    have HLG := Lib.hid (line_good (c := c) (by rw [← hnb]; exact h))
    have HLF := Lib.hid (fun x => line_far (c := c) (by rw [← hnb]; exact h) (x := x))
    rw [← hnb] at HLG
    have hnl := nm_len (c 0)
    rw [← hnb] at hnl
    obtain ⟨F, hF⟩ : ∃ F, F = (flds (c 0)).map c := ⟨_, rfl⟩
    obtain ⟨G, hG⟩ : ∃ G, G = (wrds (c 0)).map c := ⟨_, rfl⟩
    have hfw := fw_len (c 0)
    have hFl : F.length ≤ 3 := by rw [hF, List.length_map]; exact hfw.1
    have hGl : G.length ≤ 7 := by rw [hG, List.length_map]; exact hfw.2.1
    have HGW : Hid (∀ x ∈ G, 0 ≤ x ∧ x < 18446744073709551616) := Lib.hid (fun x hx => by
      rw [hG] at hx
      obtain ⟨i, hi, rfl⟩ := List.mem_map.1 hx
      exact hc.ok i (hfw.2.2 i hi).1 (hfw.2.2 i hi).2)
    rw [← hF, ← hG] at HQ HLG
    have HLF2 : Hid (∀ x ∈ F, ¬ (0 ≤ x ∧ x ≤ 999999) → lineE c = ([], 3)) := Lib.hid (fun x hx hn => HLF.out x (by rw [← hF]; exact hx) hn)
    obtain ⟨lt, hlt⟩ : ∃ z, z = (lineE c).1 := ⟨_, rfl⟩
    obtain ⟨lc, hlc⟩ : ∃ z, z = (lineE c).2 := ⟨_, rfl⟩
    rw [← hlt, ← hlc]
    have HT := Lib.hid hlt
    have HC := Lib.hid hlc
    obtain ⟨fl, hfl⟩ : ∃ n, n = F.length := ⟨_, rfl⟩
    obtain ⟨gl, hgl⟩ : ∃ n, n = G.length := ⟨_, rfl⟩
    have HFL := Lib.hid hfl
    have HGL := Lib.hid hgl
    rw [← hfl] at hFl
    rw [← hgl] at hGl
    have HNL := Lib.hid hnl
    clear he hb1 hw1 hnb HP hF hG hfw hlt hlc HLF hfl hgl hnl hc h
    go_enter Tryd.func13, Tryd.ntmps13
    go_upto_region 1 with fail
    rw [← HW1.out]
    go_wp2_with (first
      | (refine wpList_load_mid rfl 36 _ rfl w.heap.size 0 rfl (evA c).toList _ HR.out Tryd.underlying36 rfl (by kernel_rfl) ?_; rw [Array.toArray_toList])
      | (go_at_call 26; (with_reducible refine HQ.out.mono ?_); rintro e w2 ⟨u, v, rfl, hu, hv, hb2⟩; have HB2 := Lib.hid (HB1.out.trans (hb2.mono HB1.out.size)); obtain ⟨p1, cp1, rfl, _, hu2⟩ := hu; obtain ⟨p2, cp2, rfl, _, hv2⟩ := hv; have HU := Lib.hid hu2; have HV := Lib.hid hv2; rw [← HFL.out, ← HGL.out]; clear hu2 hv2 hb2))
    go_loopw [4, 7] (fun s i wr => ∃ (k : Nat) (T : Bs), k ≤ fl ∧ s = .string (bs T) ∧ i = .int .i64 k ∧ Hid (T = nb ++ flatD (F.take k) ∧ ∀ x ∈ F.take k, 0 ≤ x ∧ x ≤ 999999) ∧ Hid (Below w2.heap.size w2 wr)) (fun _ i _ => fl - (intOf i).toNat)
    case atStart => exact ⟨0, nb, by omega, rfl, rfl, Lib.hid ⟨by simp [flatD], fun x hx => by simp at hx⟩, Lib.hid (Below.refl _ _)⟩
    case round =>
      obtain ⟨k, T, hk, rfl, rfl, HK, HW⟩ := hrel
      by_cases hlt : k < fl
      · have hltI : (k : Int) < fl := by omega
        obtain ⟨x, hx⟩ : ∃ x, F[k]? = some x := ⟨_, List.getElem?_eq_getElem (by have := HFL.out; omega)⟩
        have hxm := List.mem_of_getElem? hx
        obtain ⟨g, rfl, hg, hcell⟩ := HU.out k x hx
        have cx : wr.cell? ⟨g, k, none⟩ = some (.int .i64 x) := (World.cell?_of_block (HW.out.block g hg)).trans hcell
        by_cases hgood : 0 ≤ x ∧ x ≤ 999999
        · obtain ⟨m, rfl⟩ : ∃ m : Nat, x = m := ⟨x.toNat, by omega⟩
          have hm : m ≤ 999999 := by omega
          have q0 : ((m : Int) < 0) = False := by rw [eq_iff_iff, iff_false]; omega
          have q1 : ((999999 : Int) < (m : Int)) = False := by rw [eq_iff_iff, iff_false]; omega
          have hTl : T.length ≤ 200 := by
            have h1 := flatD_len (F.take k) (fun x hx => by have := HK.out.2 x hx; omega)
            have h2 : (F.take k).length ≤ k := by rw [List.length_take]; omega
            have h3 := HNL.out
            rw [HK.out.1, List.length_append]
            omega
          have hdl := nd20 (u := m) (by omega)
          have ha1 : ∀ w, (binOp .add 9 (.string (bs T)) (.string { data := #[32] })).run Tryd.prog w = .ok (.string (bs (T ++ [32]))) w := fun w => add_bs T [32] (by simp; omega) w
          have ha2 : ∀ w, (binOp .add 9 (.string (bs (T ++ [32]))) (.string (bs (Lib.decDigits m)))).run Tryd.prog w = .ok (.string (bs (T ++ [32] ++ Lib.decDigits m))) w := fun w => add_bs (T ++ [32]) _ (by simp; omega) w
          have hcv : IntKind.u64.wrap (m : Int) = (m : Int) := by simp only [IntKind.wrap, IntKind.signed, IntKind.bits]; simp; omega
          have HD := Lib.hid (fun v => decimal_any m (by omega) v)
          have HX : Hid (T ++ 32 :: Lib.decDigits m = nb ++ flatD (F.take (k + 1)) ∧ ∀ x ∈ F.take (k + 1), 0 ≤ x ∧ x ≤ 999999) := Lib.hid (by
            rw [List.take_add_one, hx]
            refine ⟨?_, fun x hx => ?_⟩
            · rw [Option.toList_some, flatD_snoc, HK.out.1]; simp
            · rcases List.mem_append.1 hx with hx | hx
              · exact HK.out.2 x hx
              · simp at hx; omega)
          clear hcell hgood hx hxm hTl hdl
          go_wp2_with (go_at_call 27; (with_reducible refine (HD.out _).mono ?_); rintro e w3 ⟨rfl, rfl⟩)
          go_roundw
          case rel => exact ⟨k + 1, _, by omega, rfl, by go_num, HX, HW⟩
          case measure => first | (simp [intOf]; done) | (simp [intOf]; omega)
        · have hres := HLF2.out x hxm hgood
          obtain rfl : lt = [] := by rw [HT.out, hres]
          obtain rfl : lc = 3 := by rw [HC.out, hres]
          have hq : (x < 0) = True ∨ (x < 0) = False ∧ (999999 < x) = True := by
            by_cases h0 : x < 0
            · left; simp [h0]
            · right; refine ⟨by simp [h0], by rw [eq_iff_iff, iff_true]; omega⟩
          have HEND := Lib.hid (HB2.out.trans (HW.out.mono HB2.out.size))
          clear hcell hgood hx hxm hres
          rcases hq with q0 | ⟨q0, q1⟩
          · go_wp2
            go_ret2
            exact ⟨rfl, HEND.out⟩
          · go_wp2
            go_ret2
            exact ⟨rfl, HEND.out⟩
      · obtain rfl : k = fl := by omega
        have hall : F.take k = F := List.take_of_length_le (by have := HFL.out; omega)
        have HG2 := HLG.out (by have := HK.out.2; rw [hall] at this; exact this)
        have HLE := Lib.hid HG2
        have HT0 : Hid (T = nb ++ flatD F ∧ T.length ≤ 80) := Lib.hid (by
          have h0 := HK.out.1
          rw [hall] at h0
          refine ⟨h0, ?_⟩
          have h1 := flatD_len F (fun x hx => by have := HK.out.2 x (by rw [hall]; exact hx); omega)
          have h3 := HNL.out
          have h4 := HFL.out
          rw [h0, List.length_append]
          omega)
        clear HG2 hall
        go_wp2
        go_loopw [4, 8] (fun s i wv => ∃ (m : Nat) (U : Bs), m ≤ gl ∧ s = .string (bs U) ∧ i = .int .i64 m ∧ Hid (U = T ++ flatD (G.take m)) ∧ Hid (Below w2.heap.size w2 wv)) (fun _ i _ => gl - (intOf i).toNat)
        case atStart => exact ⟨0, T, by omega, rfl, rfl, Lib.hid (by simp [flatD]), HW⟩
        case round =>
          obtain ⟨m, U, hm, rfl, rfl, HU2, HW2⟩ := hrel
          by_cases hlt2 : m < gl
          · have hltI : (m : Int) < gl := by omega
            obtain ⟨x, hx⟩ : ∃ x, G[m]? = some x := ⟨_, List.getElem?_eq_getElem (by have := HGL.out; omega)⟩
            have hxm := HGW.out x (List.mem_of_getElem? hx)
            obtain ⟨g, rfl, hg, hcell⟩ := HV.out m x hx
            have cx : wr.cell? ⟨g, m, none⟩ = some (.int .u64 x) := (World.cell?_of_block (HW2.out.block g hg)).trans hcell
            obtain ⟨y, rfl⟩ : ∃ y : Nat, x = y := ⟨x.toNat, by omega⟩
            have hTl : U.length ≤ 300 := by
              have h1 := flatD_len (G.take m) (fun x hx => (HGW.out x (List.mem_of_mem_take hx)).2)
              have h2 : (G.take m).length ≤ m := by rw [List.length_take]; omega
              have h3 := HT0.out.2
              rw [HU2.out, List.length_append]
              omega
            have hdl := nd20 (u := y) (by omega)
            have ha1 : ∀ w, (binOp .add 9 (.string (bs U)) (.string { data := #[32] })).run Tryd.prog w = .ok (.string (bs (U ++ [32]))) w := fun w => add_bs U [32] (by simp; omega) w
            have ha2 : ∀ w, (binOp .add 9 (.string (bs (U ++ [32]))) (.string (bs (Lib.decDigits y)))).run Tryd.prog w = .ok (.string (bs (U ++ [32] ++ Lib.decDigits y))) w := fun w => add_bs (U ++ [32]) _ (by simp; omega) w
            have HD := Lib.hid (fun v => decimal_any y (by omega) v)
            have HX : Hid (U ++ 32 :: Lib.decDigits y = T ++ flatD (G.take (m + 1))) := Lib.hid (by
              rw [List.take_add_one, hx, Option.toList_some, flatD_snoc, HU2.out]; simp)
            clear hcell hx hxm hTl hdl
            go_wp2_with (go_at_call 27; (with_reducible refine (HD.out _).mono ?_); rintro e w3 ⟨rfl, rfl⟩)
            go_roundw
            case rel => exact ⟨m + 1, _, by omega, rfl, by go_num, HX, HW2⟩
            case measure => first | (simp [intOf]; done) | (simp [intOf]; omega)
          · obtain rfl : m = gl := by omega
            have hall : G.take m = G := List.take_of_length_le (by have := HGL.out; omega)
            have h0 := HU2.out
            rw [hall] at h0
            obtain rfl : lt = U := by rw [HT.out, HLE.out, h0, HT0.out.1]
            obtain rfl : lc = 0 := by rw [HC.out, HLE.out]
            have HEND := Lib.hid (HB2.out.trans (HW2.out.mono HB2.out.size))
            clear hall h0
            go_wp2
            go_ret2
            exact ⟨rfl, HEND.out⟩
end Sc
end Go.Proofs.YthgmanncmekeeaaDoor
