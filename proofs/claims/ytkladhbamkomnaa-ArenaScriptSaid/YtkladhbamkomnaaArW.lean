/- chapter 12's own answer: Next, May, At, Get. -/
import Derived.Test.YtkladhbamkomnaaArU
namespace Go.Proofs.Ytkladhbamkomnaa
set_option linter.unusedVariables false
set_option linter.unusedSimpArgs false
open Go.ChangeShapes Go.WideShapes Go.ChangeAt Go.RowKit Go.Shelf
open TabA

/-- The own answer's arena: how many frames, its objects, how many began at each frame. -/
structure RefA (w : World) (rb base : Nat) (F : Int) (v : Value) (L : List Ob) (G : List Int) : Prop where
  blk : w.heap[rb]? = some (.cells (Value.int .i64 F :: v :: G.map (Value.int .i64)).toArray 45 (0, 0))
  gl : G.length = 64
  row : w.ownsRow base 37 9 v L.length (objsC L)
  lt : rb < base
  bs : base ≤ w.heap.size
  cn : ∀ g ∈ G, 0 ≤ g ∧ g ≤ 1024
theorem RefA.call {w w' : World} {rb base : Nat} {F : Int} {v : Value} {L : List Ob} {G : List Int} (h : RefA w rb base F v L G) (hb : Below w.heap.size w w') : RefA w' rb base F v L G :=
  ⟨(hb.block rb (Nat.lt_of_lt_of_le h.lt h.bs)).trans h.blk, h.gl, row_of_block h.row (fun g hg => hb.block g (h.row.lt g hg).2), h.lt, Nat.le_trans h.bs hb.size, h.cn⟩
theorem RefA.c0 {w : World} {rb base : Nat} {F : Int} {v : Value} {L : List Ob} {G : List Int} (h : RefA w rb base F v L G) : w.cell? ⟨rb, 0, none⟩ = some (.int .i64 F) := cell_cur h.blk 0
theorem RefA.c1 {w : World} {rb base : Nat} {F : Int} {v : Value} {L : List Ob} {G : List Int} (h : RefA w rb base F v L G) : w.cell? ⟨rb, 1, none⟩ = some v := cell_cur h.blk 1
theorem RefA.cg {w : World} {rb base : Nat} {F : Int} {v : Value} {L : List Ob} {G : List Int} (h : RefA w rb base F v L G) {k : Nat} {c : Int} (hk : G[k]? = some c) : w.cell? ⟨rb, 2 + k, none⟩ = some (.int .i64 c) := by
  rw [cell_cur h.blk, show 2 + k = k + 1 + 1 by omega, List.getElem?_cons_succ, List.getElem?_cons_succ, List.getElem?_map, hk]
  rfl
/-- What the own Next answers. -/
def nextR (F : Int) (G : List Int) (first : Int) : Int :=
  if first < 0 ∨ F ≤ first then 0 else match G[first.toNat]? with
    | none => 0
    | some c => if 65535 < first + 1 + 64 * c then 0 else first + 1 + 64 * c
set_option maxRecDepth 100000 in
set_option maxHeartbeats 1000000 in
theorem rnext_any (w : World) (rb base : Nat) (F : Int) (v : Value) (L : List Ob) (G : List Int) (first : Int) (h : RefA w rb base F v L G) (hF : 1 ≤ F ∧ F ≤ 64) :
    Calls Try.prog 14 #[.pointer (some ⟨rb, 0, none⟩), .int .i64 first] w fun e w' => e = .returned (.int .i64 (nextR F G first)) ∧ w = w' := by
  have c0 := h.c0
  by_cases h0 : first < 0
  · have e : nextR F G first = 0 := by unfold nextR; rw [if_pos (.inl h0)]
    rw [e]
    clear h e
    go_enter Try.func14, Try.ntmps14
    go_wp2
    go_ret
    exact ⟨rfl, rfl⟩
  · by_cases h1 : F ≤ first
    · have e : nextR F G first = 0 := by unfold nextR; rw [if_pos (.inr h1)]
      rw [e]
      clear h e
      go_enter Try.func14, Try.ntmps14
      go_wp2
      go_ret
      exact ⟨rfl, rfl⟩
    · obtain ⟨c, hc⟩ : ∃ c, G[first.toNat]? = some c := ⟨G[first.toNat]'(by have := h.gl; omega), List.getElem?_eq_getElem _⟩
      obtain ⟨b0, b1⟩ := h.cn c (List.mem_of_getElem? hc)
      have cg := h.cg hc
      have e : nextR F G first = if 65535 < first + 1 + 64 * c then 0 else first + 1 + 64 * c := by unfold nextR; rw [if_neg (by omega), hc]
      rw [e]
      clear h e hc
      have h64 : first < 64 := by omega
      by_cases h2 : 65535 < first + 1 + 64 * c
      · rw [if_pos h2]
        go_enter Try.func14, Try.ntmps14
        go_wp2
        go_ret
        exact ⟨rfl, rfl⟩
      · rw [if_neg h2]
        go_enter Try.func14, Try.ntmps14
        go_wp2
        go_ret
        exact ⟨rfl, rfl⟩
set_option maxRecDepth 100000 in
set_option maxHeartbeats 2000000 in
theorem may_any (w : World) (x y : Ob) : Calls Try.prog 42 #[obV x, obV y] w fun e w' => e = .returned (.bool (!collideA x y)) ∧ Below w.heap.size w w' := by
  obtain ⟨i1, k1, s1, f1, n1, m1, e1, p1, l1⟩ := x
  obtain ⟨i2, k2, s2, f2, n2, m2, e2, p2, l2⟩ := y
  have hB2 : Below w.heap.size w ((w.alloc (.cells #[.int .i64 i1, .int .i64 k1, .int .i64 s1, .int .i64 f1, .int .i64 n1, .int .i64 m1, .int .i64 e1, .int .i64 p1, .int .i64 l1] 37)).alloc (.cells #[.int .i64 i2, .int .i64 k2, .int .i64 s2, .int .i64 f2, .int .i64 n2, .int .i64 m2, .int .i64 e2, .int .i64 p2, .int .i64 l2] 37)) := bal (bal (Below.refl _ _) _) _
  have HB2 := Lib.hid hB2
  clear hB2
  cases hm : meetB f1 n1 f2 n2
  · have e : (!collideA ⟨i1, k1, s1, f1, n1, m1, e1, p1, l1⟩ ⟨i2, k2, s2, f2, n2, m2, e2, p2, l2⟩) = true := by simp [collideA, hm]
    rw [e]
    have HM := Lib.hid hm
    clear hm e
    go_enter Try.func42, Try.ntmps42
    go_wp2_with (go_at_call 50; refine (refMeet_any _ _ _ _ _).mono ?_; rw [HM.out]; rintro e w1 ⟨rfl, rfl⟩)
    go_ret
    exact ⟨rfl, HB2.out⟩
  · have e : (!collideA ⟨i1, k1, s1, f1, n1, m1, e1, p1, l1⟩ ⟨i2, k2, s2, f2, n2, m2, e2, p2, l2⟩) = ((decide (k1 = 1) && withinB f2 n2 f1 n1) || (decide (k2 = 1) && withinB f1 n1 f2 n2)) := by
      simp only [collideA, aroundA, hm, Bool.true_and]
      cases decide (k1 = 1) <;> cases decide (k2 = 1) <;> cases withinB f2 n2 f1 n1 <;> cases withinB f1 n1 f2 n2 <;> rfl
    rw [e]
    have HM := Lib.hid hm
    clear hm e
    obtain ⟨P, hP⟩ : ∃ P, withinB f2 n2 f1 n1 = P := ⟨_, rfl⟩
    obtain ⟨Q, hQ⟩ : ∃ Q, withinB f1 n1 f2 n2 = Q := ⟨_, rfl⟩
    rw [hP, hQ]
    have HP := Lib.hid hP
    have HQ := Lib.hid hQ
    clear hP hQ
    by_cases hk1 : k1 = 1
    · subst hk1
      by_cases hk2 : k2 = 1
      · subst hk2
        cases P
        all_goals
          go_enter Try.func42, Try.ntmps42
          go_wp2_with (first
            | (go_at_call 50; refine (refMeet_any _ _ _ _ _).mono ?_; rw [HM.out]; rintro e w1 ⟨rfl, rfl⟩)
            | (go_at_call 51; refine (refWithin_any _ _ _ _ _).mono ?_; (first | rw [HP.out] | rw [HQ.out]); rintro e w1 ⟨rfl, rfl⟩))
          go_ret
          exact ⟨ret_bool (by simp), HB2.out⟩
      · cases P
        all_goals
          go_enter Try.func42, Try.ntmps42
          go_wp2_with (first
            | (go_at_call 50; refine (refMeet_any _ _ _ _ _).mono ?_; rw [HM.out]; rintro e w1 ⟨rfl, rfl⟩)
            | (go_at_call 51; refine (refWithin_any _ _ _ _ _).mono ?_; (first | rw [HP.out] | rw [HQ.out]); rintro e w1 ⟨rfl, rfl⟩))
          go_ret
          exact ⟨ret_bool (by simp [hk2]), HB2.out⟩
    · by_cases hk2 : k2 = 1
      · subst hk2
        go_enter Try.func42, Try.ntmps42
        go_wp2_with (first
            | (go_at_call 50; refine (refMeet_any _ _ _ _ _).mono ?_; rw [HM.out]; rintro e w1 ⟨rfl, rfl⟩)
            | (go_at_call 51; refine (refWithin_any _ _ _ _ _).mono ?_; (first | rw [HP.out] | rw [HQ.out]); rintro e w1 ⟨rfl, rfl⟩))
        go_ret
        exact ⟨ret_bool (by simp [hk1]), HB2.out⟩
      · go_enter Try.func42, Try.ntmps42
        go_wp2_with (go_at_call 50; refine (refMeet_any _ _ _ _ _).mono ?_; rw [HM.out]; rintro e w1 ⟨rfl, rfl⟩)
        go_ret
        exact ⟨ret_bool (by simp [hk1, hk2]), HB2.out⟩
set_option maxRecDepth 100000 in
set_option maxHeartbeats 1000000 in
theorem at_no (w : World) (rb base : Nat) (F : Int) (v : Value) (L : List Ob) (G : List Int) (id : Int) (h : RefA w rb base F v L G) (hl : L.length < 1000000) (hn : ∀ x ∈ L, x.id ≠ id) :
    Calls Try.prog 33 #[.pointer (some ⟨rb, 0, none⟩), .int .i64 id] w fun e w' => e = .returned (.int .i64 (-1)) ∧ w = w' := by
  obtain ⟨ra, rc, rfl, hrc, hra⟩ := obs_of h.row
  have c1 := h.c1
  have HRA := Lib.hid hra
  have HN := Lib.hid hn
  clear h hra hn
  go_enter Try.func33, Try.ntmps33
  go_wp2
  go_loopw [5] (fun i wr => ∃ t : Nat, t ≤ L.length ∧ i = .int .i64 t ∧ w = wr) (fun i _ => L.length - (intOf i).toNat)
  case atStart => exact ⟨0, Nat.zero_le _, rfl, rfl⟩
  case round =>
    obtain ⟨t, ht, rfl, rfl⟩ := hrel
    by_cases htL : t < L.length
    · have htI : (t : Int) < L.length := by omega
      obtain ⟨g, rfl, hgl, hobs⟩ := HRA.out t htL
      obtain ⟨y, hy⟩ : ∃ y, L[t]? = some y := ⟨L[t]'htL, List.getElem?_eq_getElem _⟩
      have hne := HN.out y (List.mem_of_getElem? hy)
      have v0 := hobs t 0 y _ hy rfl
      simp only [Nat.add_zero] at v0
      clear hobs hy
      generalize y.id = yi at *
      go_wp2
      go_roundw
      case rel => exact ⟨t + 1, by omega, by go_num, trivial⟩
      case measure => first | (simp [intOf]; done) | (simp [intOf]; omega)
    · obtain rfl : t = L.length := by omega
      go_wp2
      go_ret
      exact ⟨rfl, rfl⟩
set_option maxRecDepth 100000 in
set_option maxHeartbeats 1000000 in
theorem at_yes (w : World) (rb base : Nat) (F : Int) (v : Value) (L : List Ob) (G : List Int) (id : Int) (h : RefA w rb base F v L G) (hl : L.length < 1000000) (k : Nat) (x : Ob) (hk : L[k]? = some x) (hid : x.id = id) (hn : ∀ i y, i < k → L[i]? = some y → y.id ≠ id) :
    Calls Try.prog 33 #[.pointer (some ⟨rb, 0, none⟩), .int .i64 id] w fun e w' => e = .returned (.int .i64 k) ∧ w = w' := by
  obtain ⟨ra, rc, rfl, hrc, hra⟩ := obs_of h.row
  have c1 := h.c1
  have HN := Lib.hid hn
  have hkL := (List.getElem?_eq_some_iff.1 hk).1
  obtain ⟨g, rfl, hgl, hobs⟩ := hra k hkL
  have HOB := Lib.hid hobs
  have HK := Lib.hid hk
  subst hid
  clear h hra hn hobs hk
  go_enter Try.func33, Try.ntmps33
  go_wp2
  go_loopw [5] (fun i wr => ∃ t : Nat, t ≤ k ∧ i = .int .i64 t ∧ w = wr) (fun i _ => k - (intOf i).toNat)
  case atStart => exact ⟨0, Nat.zero_le _, rfl, rfl⟩
  case round =>
    obtain ⟨t, ht, rfl, rfl⟩ := hrel
    have htI : (t : Int) < L.length := by omega
    by_cases htk : t < k
    · obtain ⟨y, hy⟩ : ∃ y, L[t]? = some y := ⟨L[t]'(by omega), List.getElem?_eq_getElem _⟩
      have hne := HN.out t y htk hy
      have v0 := HOB.out t 0 y _ hy rfl
      simp only [Nat.add_zero] at v0
      clear hy
      generalize y.id = yi at *
      generalize x.id = xi at *
      go_wp2
      go_roundw
      case rel => exact ⟨t + 1, by omega, by go_num, trivial⟩
      case measure => first | (simp [intOf]; done) | (simp [intOf]; omega)
    · obtain rfl : t = k := by omega
      have v0 := HOB.out t 0 x _ HK.out rfl
      simp only [Nat.add_zero] at v0
      generalize x.id = xi at *
      go_wp2
      go_ret
      exact ⟨rfl, rfl⟩
end Go.Proofs.Ytkladhbamkomnaa
