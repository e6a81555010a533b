/- chapter 35: events that are printed are read again. -/
import Derived.Test.YthgmanncmekeeaaDoorSd4
import Derived.Test.YthgmanncmekeeaaDoorSdE
namespace Go.Proofs.YthgmanncmekeeaaDoor
set_option linter.unusedVariables false
set_option linter.unusedSimpArgs false
open Go.ChangeShapes Go.WideShapes Go.ChangeAt Go.RowKit Go.Shelf
attribute [-go_sem] binOp_string_add binOp_string_eql binOp_string_neq run_index_string
attribute [local go_sem] Sc.bs_size
namespace Sc
theorem EvM.get {w : World} {p : Option Addr} {L : List Ev} {k : Nat} {c : Ev} (h : EvM w p L) (hc : L[k]? = some c) : ∃ g o, p = some ⟨g, o, none⟩ ∧ ∀ v, Below w.heap.size w v → v.rangeAt g (o + k * 15) (evA c).toList ∧ v.cell? ⟨g, o + k * 15, none⟩ = some (.int .i64 (c 0)) ∧ v.cell? ⟨g, o + k * 15 + 1, none⟩ = some (.int .i64 (c 1)) := by
  obtain ⟨g, o, h1, h2, h3⟩ := h k c hc
  refine ⟨g, o, h1, fun v hv => ?_⟩
  have hr : v.rangeAt g (o + k * 15) (evA c).toList := fun j u hj => (World.cell?_of_block (hv.block g h2)).trans (h3 j u hj)
  exact ⟨hr, hr 0 _ rfl, hr 1 _ rfl⟩
set_option maxRecDepth 100000 in
set_option maxHeartbeats 2000000 in
theorem back_any (L : List Ev) (p : Option Addr) (n cap : Nat) (w : World) (hE : EnvAt w) (hn : L.length = n) (hM : EvM w p L) (hG : ∀ c ∈ L, EvG c) : Calls Tryd.prog 5 #[.slice p n cap] w fun e w' => e = .returned (.bool true) ∧ Below w.heap.size w w' := by
  have HAW := Lib.hid (fun v (h' : Below w.heap.size w v) => awake_any v (hE.call h'))
  by_cases hl : 200 < n
  · have q : ((200 : Int) < (n : Int)) = True := by rw [eq_iff_iff, iff_true]; omega
    clear hl hE hM hn
    go_enter Tryd.func5, Tryd.ntmps5
    go_wp2_with (go_at_call 8; (with_reducible refine (HAW.out _ (Below.refl _ _)).mono ?_); rintro e w1 ⟨rfl, hb1⟩)
    go_ret
    exact ⟨rfl, hb1⟩
  · have q : ((200 : Int) < (n : Int)) = False := by rw [eq_iff_iff, iff_false]; omega
    have HPR : Hid (Calls Tryd.prog 9 #[.slice p n cap] w fun e w' => e = .returned (.tuple #[.string (bs (printE L).1), .int .i64 (printE L).2]) ∧ Below w.heap.size w w') := Lib.hid (print_any L _ w (hM.at hn) hG hE (by omega))
    rcases printE_cases L with ⟨h0, hgd, htl, h1⟩ | ⟨h0, h1⟩
    · rw [h0, h1] at HPR
      obtain ⟨T, hT⟩ : ∃ T, T = txtE L := ⟨_, rfl⟩
      rw [← hT] at HPR
      have HPA : Hid (∀ v, Below w.heap.size w v → Calls Tryd.prog 14 #[.string (bs T)] v fun e w' => ∃ p c, e = .returned (.tuple #[.slice p n c, .int .i64 0, .int .i64 0]) ∧ EvM w' p (L.map reE) ∧ Below v.heap.size v w') := Lib.hid (fun v hv => by
        have := parse_form T v (hE.call hv)
        rw [hT, parse_txt L hG hgd htl] at this
        simp only [List.length_map, hn] at this
        rw [hT]
        refine this.mono ?_
        rintro e w' ⟨p, c, he, _, hrow, hb⟩
        exact ⟨p, c, he, EvM.own (L := L.map reE) (by rw [List.length_map, hn]; exact hrow), hb⟩)
      have HLN : Hid (∀ c v, c ∈ L → Below w.heap.size w v → Calls Tryd.prog 12 #[.agg (evA c)] v fun e w' => e = .returned (.tuple #[.string (bs (lineE c).1), .int .i64 0]) ∧ Below v.heap.size v w') := Lib.hid (fun c v hc hv => by
        have := line_any c v (hG c hc) (hE.call hv)
        rw [hgd c hc] at this
        exact this)
      have HLR : Hid (∀ c v, c ∈ L → Below w.heap.size w v → (reE c 0 = c 0 ∧ reE c 1 = c 1) ∧ Calls Tryd.prog 12 #[.agg (evA (reE c))] v fun e w' => e = .returned (.tuple #[.string (bs (lineE c).1), .int .i64 0]) ∧ Below v.heap.size v w') := Lib.hid (fun c v hc hv => by
        obtain ⟨r1, r2, r3, r4⟩ := reE_of (hG c hc) (hgd c hc)
        have := line_any (reE c) v (evOf_good r1) (hE.call hv)
        rw [r4, hgd c hc] at this
        exact ⟨⟨r2, r3⟩, this⟩)
      have HMP := Lib.hid hM
      have HN := Lib.hid hn
      have hn2 : n ≤ 200 := by omega
      clear hE hM hn hG hgd htl h0 h1 hT hl
      go_enter Tryd.func5, Tryd.ntmps5
      go_wp2_with (first
        | (go_at_call 9; (with_reducible refine HPR.out.mono ?_); rintro e w1 ⟨rfl, hb1⟩)
        | (go_at_call 14; (with_reducible refine (HPA.out _ hb1).mono ?_); rintro e w2 ⟨p2, c2, rfl, hM2, hb2⟩; have HB := Lib.hid (hb1.trans (hb2.mono hb1.size)); have HM2 := Lib.hid hM2; clear hM2 hb2))
      have HM1 := Lib.hid (HMP.out.call HB.out)
      go_loopw [8] (fun i wr => ∃ k : Nat, k ≤ n ∧ i = .int .i64 k ∧ Hid (Below w2.heap.size w2 wr)) (fun i _ => n - (intOf i).toNat)
      case atStart => exact ⟨0, by omega, rfl, Lib.hid (Below.refl _ _)⟩
      case round =>
        obtain ⟨k, hk, rfl, HW⟩ := hrel
        by_cases hlt : k < n
        · have hltI : (k : Int) < n := by omega
          obtain ⟨c, hc⟩ : ∃ c, L[k]? = some c := ⟨_, List.getElem?_eq_getElem (by have := HN.out; omega)⟩
          have hmem := List.mem_of_getElem? hc
          obtain ⟨g, o, rfl, hgo⟩ := HM1.out.get hc
          obtain ⟨g2, o2, rfl, hgo2⟩ := HM2.out.get (k := k) (c := reE c) (by rw [List.getElem?_map, hc]; rfl)
          have HL1 := Lib.hid (fun v hv => HLN.out c v hmem hv)
          have HL2 := Lib.hid (fun v hv => (HLR.out c v hmem hv).2)
          obtain ⟨e0, e1⟩ := (HLR.out c w hmem (Below.refl _ _)).1
          obtain ⟨y, hy⟩ : ∃ y, y = reE c := ⟨_, rfl⟩
          rw [← hy] at HL2 e0 e1 hgo2
          obtain ⟨X, hX⟩ : ∃ X, X = (lineE c).1 := ⟨_, rfl⟩
          rw [← hX] at HL1 HL2
          have hne : ∀ w, (binOp .neq 9 (.string (bs X)) (.string (bs X))).run Tryd.prog w = .ok (.bool false) w := fun w => (neq_bs X X w).trans (by simp)
          have HG1 := Lib.hid hgo
          have HG2 := Lib.hid hgo2
          have HBw : Hid (∀ v, Below w2.heap.size w2 v → Below w.heap.size w v) := Lib.hid (fun v h' => HB.out.trans (h'.mono HB.out.size))
          rw [e0, e1] at hgo2
          have HG3 := Lib.hid hgo2
          clear hgo hgo2 hy hX hc hmem e0 e1
          go_upto_region 14 with (first
            | (refine wpList_load_mid rfl 36 _ rfl g (o + k * 15) rfl (evA c).toList _ (HG1.out _ HW.out).1 Tryd.underlying36 rfl (by kernel_rfl) ?_; rw [Array.toArray_toList])
            | (go_at_call 12; (with_reducible refine (HL1.out _ (HBw.out _ HW.out)).mono ?_); rintro e w3 ⟨rfl, hb3⟩; have HW3 := Lib.hid (HW.out.trans (hb3.mono HW.out.size)))
            | (refine wpList_load_mid rfl 36 _ rfl g2 (o2 + k * 15) rfl (evA y).toList _ (HG2.out _ HW3.out).1 Tryd.underlying36 rfl (by kernel_rfl) ?_; rw [Array.toArray_toList])
            | (go_at_call 12; (with_reducible refine (HL2.out _ (HBw.out _ HW3.out)).mono ?_); rintro e w4 ⟨rfl, hb4⟩; have HW4 := Lib.hid (HW3.out.trans (hb4.mono HW3.out.size))))
          obtain ⟨-, c0, c1⟩ := HG1.out _ HW4.out
          obtain ⟨-, d0, d1⟩ := HG3.out _ HW4.out
          go_quiet (fail)
          go_wp2
          go_roundw
          case rel => exact ⟨k + 1, by omega, by go_num, Lib.hid (below_drewN HW4.out _)⟩
          case measure => first | (simp [intOf]; done) | (simp [intOf]; omega)
        · obtain rfl : k = n := by omega
          go_wp2_with (go_at_call 8; (with_reducible refine (HAW.out _ (HB.out.trans (HW.out.mono HB.out.size))).mono ?_); rintro e w5 ⟨rfl, hb5⟩; have HB5 := Lib.hid hb5; clear hb5)
          go_ret
          exact ⟨rfl, (HB.out.trans (HW.out.mono HB.out.size)).trans (HB5.out.mono (HB.out.trans (HW.out.mono HB.out.size)).size)⟩
    · obtain ⟨z, hz⟩ : ∃ z, z = (printE L).2 := ⟨_, rfl⟩
      rw [← hz] at HPR h0
      rw [h1] at HPR
      have hz' : (z != 0) = true := by simpa using h0
      have he : ∀ w, (binOp .eql 9 (.string (bs [])) (.string { data := #[] })).run Tryd.prog w = .ok (.bool true) w := fun w => eql_bs [] [] w
      clear hE hM hn hG h0 h1 hl hz
      go_enter Tryd.func5, Tryd.ntmps5
      go_wp2_with (first
        | (go_at_call 9; (with_reducible refine HPR.out.mono ?_); rintro e w1 ⟨rfl, hb1⟩)
        | (go_at_call 8; (with_reducible refine (HAW.out _ hb1).mono ?_); rintro e w3 ⟨rfl, hb3⟩))
      go_ret
      exact ⟨rfl, hb1.trans (hb3.mono hb1.size)⟩
end Sc
end Go.Proofs.YthgmanncmekeeaaDoor
