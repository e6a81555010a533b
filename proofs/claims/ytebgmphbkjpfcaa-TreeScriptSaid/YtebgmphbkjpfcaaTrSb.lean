/- chapter 17's own answer: End, Parent. -/
import Derived.Test.YtebgmphbkjpfcaaTrSa
namespace Go.Proofs.Ytebgmphbkjpfcaa
set_option linter.unusedVariables false
set_option linter.unusedSimpArgs false
open Go.ChangeShapes Go.WideShapes Go.ChangeAt Go.RowKit Go.Shelf

theorem RefT.getg {W : World} {rb : Nat} {v : Value} {l : List Nod} (h : RefT W rb v l) (h0 : 0 < l.length) : ∃ g c, v = .slice (some ⟨g, 0, none⟩) l.length c ∧ g < W.heap.size ∧ g ≠ rb ∧ ∀ (k : Nat) (x : Nod), l[k]? = some x → W.cell? ⟨g, k * 3, none⟩ = some (.int .i64 x.o) ∧ W.cell? ⟨g, k * 3 + 1, none⟩ = some (.int .i64 x.i) ∧ W.cell? ⟨g, k * 3 + 2, none⟩ = some (.int .i64 x.d) := by
  rcases nodes_row h.row with ⟨_, rfl⟩ | ⟨g, c, rfl, hg, hc⟩
  · cases h0
  · exact ⟨g, c, rfl, hg, fun e => h.ne (by rw [← e]; rfl), hc⟩
set_option maxRecDepth 100000 in
theorem rend_any (w : World) (rb : Nat) (v : Value) (l : List Nod) (k : Nat) (y : Nod) (h : RefT w rb v l) (hy : l[k]? = some y) :
    Calls Try.prog 40 #[.pointer (some ⟨rb, 0, none⟩), .int .i64 (k : Int)] w fun e w' => e = .returned (.int .i64 ((k + 1 + belowN l k : Nat) : Int)) ∧ Below w.heap.size w w' := by
  have hkl := (List.getElem?_eq_some_iff.1 hy).1
  have hle := h.le
  obtain ⟨g, c, rfl, hg, hgr, hc⟩ := h.getg (by omega)
  obtain ⟨r0, rz⟩ := cell_box h.blk
  have hble := belowN_le hkl
  have HC := Lib.hid hc
  have HY := Lib.hid hy
  obtain ⟨y0, y1, y2⟩ := hc k y hy
  have hkL : (k : Int) < l.length := by omega
  clear hc h rz y0 y1 hy
  generalize hL : l.length = L at *
  have HL := Lib.hid hL
  clear hL
  generalize hyd : y.d = yd at y2
  have HYD := Lib.hid hyd
  clear hyd
  go_enter Try.func40, Try.ntmps40
  go_wp2
  go_loopw [5] (fun t wr => ∃ (cc z : Nat), cc ≤ belowN l k ∧ t = .int .i64 ((k + 1 + cc : Nat) : Int) ∧ wr = w.drewN z) (fun t _ => L - (intOf t).toNat)
  case atStart => exact ⟨0, 0, by omega, by first | rfl | go_num, rfl⟩
  case round =>
    obtain ⟨cc, z, hcc, rfl, rfl⟩ := hrel
    obtain ⟨i, hi⟩ : ∃ i, k + 1 + cc = i := ⟨_, rfl⟩
    rw [hi]
    by_cases hiL : i < L
    · have hLL := HL.out
      obtain ⟨x, hx⟩ : ∃ x, l[i]? = some x := ⟨l[i]'(by omega), List.getElem?_eq_getElem _⟩
      obtain ⟨x0, x1, x2⟩ := HC.out i x hx
      have hiL' : (i : Int) < L := by omega
      by_cases hlt : cc < belowN l k
      · have hgt : yd < x.d := by
          obtain ⟨x', hx', hd⟩ := belowN_in HY.out hlt
          rw [hi, hx] at hx'
          cases hx'
          rw [← HYD.out]; exact hd
        have hcmp : decide (yd < x.d) = true := decide_eq_true hgt
        have HI := Lib.hid hi
        generalize x.d = xd at *
        clear hx x0 x1 hLL hi
        go_wp2
        go_quiet (fail)
        go_wp2
        go_roundw
        case rel => exact ⟨cc + 1, z + nq, by omega, by
          have := HI.out
          have e : ((k + 1 + (cc + 1) : Nat) : Int) = (i : Int) + 1 := by omega
          rw [e], by first | rfl | simp⟩
        case measure => first | (simp [intOf]; done) | (simp [intOf]; omega)
      · have hce : cc = belowN l k := by omega
        have hle2 : x.d ≤ yd := by
          rw [← HYD.out]
          exact belowN_out HY.out (by rw [← hce, hi]; exact hx)
        have hcmp : decide (yd < x.d) = false := decide_eq_false (by omega)
        have HI := Lib.hid (show k + 1 + belowN l k = i by omega)
        generalize x.d = xd at *
        clear hx x0 x1 hLL hi
        go_wp2
        go_quiet (fail)
        go_wp2
        go_ret
        rw [HI.out]
        exact ⟨rfl, below_drewN (below_drewN (Below.refl _ _) _) _⟩
    · have HI := Lib.hid (show k + 1 + belowN l k = i by omega)
      have hiL' : ¬ (i : Int) < L := by omega
      have hiL2 : decide ((i : Int) < L) = false := decide_eq_false hiL'
      have hiL3 : decide (i < L) = false := decide_eq_false hiL
      go_wp2
      go_quiet (fail)
      go_wp2
      go_ret
      rw [HI.out]
      exact ⟨rfl, below_drewN (below_drewN (Below.refl _ _) _) _⟩
end Go.Proofs.Ytebgmphbkjpfcaa
