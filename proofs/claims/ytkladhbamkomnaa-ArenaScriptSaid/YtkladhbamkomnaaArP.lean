/- chapter 12: an arena behind acts. -/
import Derived.Test.YtkladhbamkomnaaArA
import Derived.Test.YtkladhbamkomnaaAr9
import Derived.Test.YtkladhbamkomnaaAr6
namespace Go.Proofs.Ytkladhbamkomnaa
set_option linter.unusedVariables false
set_option linter.unusedSimpArgs false
open Go.ChangeShapes Go.WideShapes Go.ChangeAt Go.RowKit Go.Shelf
open TabA

/-- What an act leaves. -/
def stepS (s : List Int × List Ob) (x : ActT) : List Int × List Ob :=
  if x.d = 0 then (addC 16 s.1 s.2 x.a x.b x.p, addL 16 s.1 s.2 x.a x.b x.p) else if x.d = 1 then (s.1, dropL s.2 x.a) else if x.d = 2 then (s.1, markL s.2 x.a x.b) else if x.d = 3 then (s.1, placeL s.2 x.a x.b x.p x.q) else s
def playS (D : Nat → ActT) : Nat → List Int × List Ob
  | 0 => (zerosA 16, [])
  | k + 1 => stepS (playS D k) (D k)
/-- An arena in a state, made since W. -/
def StA (W w : World) (b : Nat) (s : List Int × List Ob) : Prop := ∃ ab base v, ArAt w b ab base 16 s.1 v s.2 ∧ W.heap.size ≤ b ∧ W.heap.size ≤ ab ∧ Below W.heap.size W w
theorem StA.call {W w w' : World} {b : Nat} {s : List Int × List Ob} (h : StA W w b s) (hb : Below w.heap.size w w') : StA W w' b s := by
  obtain ⟨ab, base, v, hA, h1, h2, h3⟩ := h
  exact ⟨ab, base, v, hA.call hb, h1, h2, h3.trans (hb.mono h3.size)⟩
theorem StA.act {W w w' : World} {b ab base : Nat} {cnt : List Int} {v v' : Value} {L : List Ob} {s : List Int × List Ob} (hA : ArAt w b ab base 16 cnt v L) (h1 : W.heap.size ≤ b) (h2 : W.heap.size ≤ ab) (h3 : Below W.heap.size W w) (hA' : ArAt w' b ab base 16 s.1 v' s.2) (hO : OnlyA w w' b ab v v') : StA W w' b s :=
  ⟨ab, base, v', hA', h1, h2, h3.trans (hO.below hA h1 h2)⟩
theorem StA.below {W w : World} {b : Nat} {s : List Int × List Ob} (h : StA W w b s) : Below W.heap.size W w := h.choose_spec.choose_spec.choose_spec.2.2.2
theorem StA.add {W w : World} {b : Nat} {s : List Int × List Ob} (h : StA W w b s) (hl : s.2.length < 1000000) (x1 x2 x3 : Int) (wf : -9223372036854775808 ≤ x3 ∧ x3 ≤ 9223372036854775807) :
    Calls Try.prog 24 #[.pointer (some ⟨b, 0, none⟩), .int .i64 x1, .int .i64 x2, .int .i64 x3] w fun e w' => e = .returned (.tuple #[.int .i64 (addR 16 s.1 s.2 x1 x2 x3).1, .int .i64 (addR 16 s.1 s.2 x1 x2 x3).2]) ∧ StA W w' b (addC 16 s.1 s.2 x1 x2 x3, addL 16 s.1 s.2 x1 x2 x3) := by
  obtain ⟨ab, base, v, hA, h1, h2, h3⟩ := h
  exact (add_any w b ab base 16 s.1 v s.2 x1 x2 x3 hA wf hl).mono fun e w' ⟨he, v', hA', hO⟩ => ⟨he, StA.act hA h1 h2 h3 hA' hO⟩
theorem StA.drop {W w : World} {b : Nat} {s : List Int × List Ob} (h : StA W w b s) (id : Int) :
    Calls Try.prog 23 #[.pointer (some ⟨b, 0, none⟩), .int .i64 id] w fun e w' => e = .returned (.int .i64 (dropR s.2 id)) ∧ StA W w' b (s.1, dropL s.2 id) := by
  obtain ⟨ab, base, v, hA, h1, h2, h3⟩ := h
  exact (adrop_any w b ab base 16 s.1 v s.2 id hA).mono fun e w' ⟨he, v', hA', hO⟩ => ⟨he, StA.act hA h1 h2 h3 hA' hO⟩
theorem StA.mark {W w : World} {b : Nat} {s : List Int × List Ob} (h : StA W w b s) (id m : Int) :
    Calls Try.prog 26 #[.pointer (some ⟨b, 0, none⟩), .int .i64 id, .int .i64 m] w fun e w' => e = .returned (.int .i64 (markR s.2 id m)) ∧ StA W w' b (s.1, markL s.2 id m) := by
  obtain ⟨ab, base, v, hA, h1, h2, h3⟩ := h
  exact (mark_any w b ab base 16 s.1 v s.2 id m hA).mono fun e w' ⟨he, hA', hO⟩ => ⟨he, StA.act hA h1 h2 h3 hA' hO⟩
theorem StA.place {W w : World} {b : Nat} {s : List Int × List Ob} (h : StA W w b s) (id se pg lv : Int) :
    Calls Try.prog 27 #[.pointer (some ⟨b, 0, none⟩), .int .i64 id, .int .i64 se, .int .i64 pg, .int .i64 lv] w fun e w' => e = .returned (.int .i64 (placeR s.2 id se pg lv)) ∧ StA W w' b (s.1, placeL s.2 id se pg lv) := by
  obtain ⟨ab, base, v, hA, h1, h2, h3⟩ := h
  exact (place_any w b ab base 16 s.1 v s.2 id se pg lv hA).mono fun e w' ⟨he, hA', hO⟩ => ⟨he, StA.act hA h1 h2 h3 hA' hO⟩
theorem StA.all {W w : World} {b : Nat} {s : List Int × List Ob} (h : StA W w b s) (hl : s.2.length < 1000000) :
    Calls Try.prog 17 #[.pointer (some ⟨b, 0, none⟩)] w fun e w' => ∃ r, e = .returned r ∧ w'.ownsRow w.heap.size 37 9 r s.2.length (objsC s.2) ∧ Below w.heap.size w w' := by
  obtain ⟨ab, base, v, hA, h1, h2, h3⟩ := h
  exact all_any w b ab base 16 s.1 v s.2 hA hl
theorem StA.get {W w : World} {b : Nat} {s : List Int × List Ob} (h : StA W w b s) (id : Int) :
    Calls Try.prog 15 #[.pointer (some ⟨b, 0, none⟩), .int .i64 id] w fun e w' => e = .returned (.tuple #[obD (getO s.2 id), .bool (getO s.2 id).isSome]) ∧ Below w.heap.size w w' := by
  obtain ⟨ab, base, v, hA, h1, h2, h3⟩ := h
  exact aget_any w b ab base 16 s.1 v s.2 id hA
theorem addL_len (F : Nat) (cnt : List Int) (L : List Ob) (kd sz fi : Int) : (addL F cnt L kd sz fi).length ≤ L.length + 1 := by
  unfold addL
  split
  · unfold insO; simp; omega
  · omega
theorem dropL_len (L : List Ob) (id : Int) : (dropL L id).length ≤ L.length := by
  unfold dropL
  split
  · simp; omega
  · omega
theorem step_len (s : List Int × List Ob) (x : ActT) : (stepS s x).2.length ≤ s.2.length + 1 := by
  unfold stepS
  split
  · exact addL_len _ _ _ _ _ _
  · split
    · have := dropL_len s.2 x.a; show (dropL s.2 x.a).length ≤ _; omega
    · split
      · show (markL s.2 x.a x.b).length ≤ _
        unfold markL
        split
        · omega
        · split
          · rw [List.length_set]; omega
          · omega
      · split
        · show (placeL s.2 x.a x.b x.p x.q).length ≤ _
          unfold placeL
          split
          · omega
          · split
            · rw [List.length_set]; omega
            · omega
        · omega
theorem play_len (D : Nat → ActT) : ∀ n, (playS D n).2.length ≤ n
  | 0 => Nat.le_refl _
  | n + 1 => by have := step_len (playS D n) (D n); have := play_len D n; show (stepS (playS D n) (D n)).2.length ≤ _; omega
theorem new16 (w : World) : Calls Try.prog 9 #[.int .i64 16] w fun e w' => ∃ b, e = .returned (.tuple #[.pointer (some ⟨b, 0, none⟩), .int .i64 0]) ∧ StA w w' b (zerosA 16, []) :=
  (new_any w 16 (by decide)).mono fun e w' ⟨b, he, ab, base, hA, h1, h2, h3⟩ => ⟨b, he, ab, base, _, hA, h2, h1, h3⟩
set_option maxRecDepth 100000 in
set_option maxHeartbeats 4000000 in
theorem played_any (q : Option Addr) (n c : Nat) (D : Nat → ActT) (W : World) (hn : n ≤ 100) (hD : ActsAt W q n D) :
    Calls Try.prog 20 #[.slice q n c] W fun e w' => ∃ b, e = .returned (.pointer (some ⟨b, 0, none⟩)) ∧ StA W w' b (playS D n) := by
  have HD := Lib.hid hD
  clear hD
  go_enter Try.func20, Try.ntmps20
  go_wp2_with (go_at_call 9; (with_reducible refine (new16 W).mono ?_); rintro e w1 ⟨b, rfl, hS⟩; have HS := Lib.hid hS; clear hS)
  go_loopw [5, 6] (fun i x wr => ∃ t : Nat, t ≤ n ∧ i = .int .i64 t ∧ Hid (StA W wr b (playS D t))) (fun i _ _ => n - (intOf i).toNat)
  case atStart => exact ⟨0, Nat.zero_le _, rfl, HS⟩
  case round =>
    obtain ⟨t, ht, rfl, HO⟩ := hrel
    by_cases hlt : t < n
    · have hltI : (t : Int) < n := by omega
      obtain ⟨aB, aO, hq, hcs⟩ := HD.out
      obtain ⟨rfl, hal⟩ := hq (by omega)
      obtain ⟨⟨d0, d1, d2, d3, d4⟩, hok⟩ := hcs t hlt
      have hbl := HO.out.below
      have c0 := (hbl.cell (p := ⟨aB, aO + t * 5, none⟩) hal).trans d0
      have c1 := (hbl.cell (p := ⟨aB, aO + t * 5 + 1, none⟩) hal).trans d1
      have c2 := (hbl.cell (p := ⟨aB, aO + t * 5 + 2, none⟩) hal).trans d2
      have c3 := (hbl.cell (p := ⟨aB, aO + t * 5 + 3, none⟩) hal).trans d3
      have c4 := (hbl.cell (p := ⟨aB, aO + t * 5 + 4, none⟩) hal).trans d4
      clear hq hcs hbl d0 d1 d2 d3 d4
      have hst : playS D (t + 1) = stepS (playS D t) (D t) := rfl
      obtain ⟨⟨xd, xa, xb, xp, xq⟩, hx⟩ : ∃ x, x = D t := ⟨_, rfl⟩
      rw [← hx] at c0 c1 c2 c3 c4 hok hst
      simp only [] at c0 c1 c2 c3 c4
      have hwf : -9223372036854775808 ≤ xp ∧ xp ≤ 9223372036854775807 := hok.2.2.2.1
      have HOK := Lib.hid hwf
      clear hx hok hwf
      go_upto_region 8 with fail
      obtain ⟨w3, hw3⟩ : ∃ x, x = wr.alloc (.cells #[.int .i64 xd, .int .i64 xa, .int .i64 xb, .int .i64 xp, .int .i64 xq] 34) := ⟨_, rfl⟩
      rw [← hw3]
      have x0 : w3.cell? ⟨wr.heap.size, 0, none⟩ = some (.int .i64 xd) := by rw [hw3]; go_simp
      have x1 : w3.cell? ⟨wr.heap.size, 1, none⟩ = some (.int .i64 xa) := by rw [hw3]; go_simp
      have x2 : w3.cell? ⟨wr.heap.size, 2, none⟩ = some (.int .i64 xb) := by rw [hw3]; go_simp
      have x3 : w3.cell? ⟨wr.heap.size, 3, none⟩ = some (.int .i64 xp) := by rw [hw3]; go_simp
      have x4 : w3.cell? ⟨wr.heap.size, 4, none⟩ = some (.int .i64 xq) := by rw [hw3]; go_simp
      have HO3 : Hid (StA W w3 b (playS D t)) := Lib.hid (HO.out.call (by rw [hw3]; exact bal (Below.refl _ _) _))
      have HLL := Lib.hid (show (playS D t).2.length < 1000000 by have := play_len D t; omega)
      clear hw3 c0 c1 c2 c3 c4 hal HO
      generalize wr.heap.size = xB at *
      by_cases e0 : xd = 0
      · subst e0
        have HST := Lib.hid (show playS D (t + 1) = (addC 16 (playS D t).1 (playS D t).2 xa xb xp, addL 16 (playS D t).1 (playS D t).2 xa xb xp) from hst)
        clear hst
        go_wp2_with (go_at_call 24; (with_reducible refine (HO3.out.add HLL.out xa xb xp HOK.out).mono ?_); rintro e w4 ⟨rfl, hs4⟩; have HS4 := Lib.hid hs4; clear hs4)
        go_roundw
        case rel => exact ⟨t + 1, by omega, by go_num, Lib.hid (HST.out.symm ▸ HS4.out)⟩
        case measure => first | (simp [intOf]; done) | (simp [intOf]; omega)
      · by_cases e1 : xd = 1
        · subst e1
          have HST := Lib.hid (show playS D (t + 1) = ((playS D t).1, dropL (playS D t).2 xa) from hst)
          clear hst
          go_wp2_with (go_at_call 23; (with_reducible refine (HO3.out.drop xa).mono ?_); rintro e w4 ⟨rfl, hs4⟩; have HS4 := Lib.hid hs4; clear hs4)
          go_roundw
          case rel => exact ⟨t + 1, by omega, by go_num, Lib.hid (HST.out.symm ▸ HS4.out)⟩
          case measure => first | (simp [intOf]; done) | (simp [intOf]; omega)
        · by_cases e2 : xd = 2
          · subst e2
            have HST := Lib.hid (show playS D (t + 1) = ((playS D t).1, markL (playS D t).2 xa xb) from hst)
            clear hst
            go_wp2_with (go_at_call 26; (with_reducible refine (HO3.out.mark xa xb).mono ?_); rintro e w4 ⟨rfl, hs4⟩; have HS4 := Lib.hid hs4; clear hs4)
            go_roundw
            case rel => exact ⟨t + 1, by omega, by go_num, Lib.hid (HST.out.symm ▸ HS4.out)⟩
            case measure => first | (simp [intOf]; done) | (simp [intOf]; omega)
          · by_cases e3 : xd = 3
            · subst e3
              have HST := Lib.hid (show playS D (t + 1) = ((playS D t).1, placeL (playS D t).2 xa xb xp xq) from hst)
              clear hst
              go_wp2_with (go_at_call 27; (with_reducible refine (HO3.out.place xa xb xp xq).mono ?_); rintro e w4 ⟨rfl, hs4⟩; have HS4 := Lib.hid hs4; clear hs4)
              go_roundw
              case rel => exact ⟨t + 1, by omega, by go_num, Lib.hid (HST.out.symm ▸ HS4.out)⟩
              case measure => first | (simp [intOf]; done) | (simp [intOf]; omega)
            · have HST := Lib.hid (show playS D (t + 1) = playS D t by rw [hst]; unfold stepS; rw [if_neg e0, if_neg e1, if_neg e2, if_neg e3])
              clear hst
              have HS4 := HO3
              go_wp2
              go_roundw
              case rel => exact ⟨t + 1, by omega, by go_num, Lib.hid (HST.out.symm ▸ HS4.out)⟩
              case measure => first | (simp [intOf]; done) | (simp [intOf]; omega)
    · obtain rfl : t = n := by omega
      go_wp2
      go_ret
      exact ⟨_, rfl, HO.out⟩
end Go.Proofs.Ytkladhbamkomnaa
