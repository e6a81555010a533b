/- The law AsidAll. -/
import Derived.Test.YtmjpelcmaobemaaAsidNone
import Derived.Test.YtmjpelcmaobemaaActs
import Derived.Test.YtmjpelcmaobemaaLowL
namespace Go.Proofs.Ytmjpelcmaobemaa
set_option linter.unusedVariables false
set_option linter.unusedSimpArgs false
open Go.ChangeShapes Go.WideShapes Go.ChangeAt Go.RowKit Go.Shelf

/-- The first k places have the pools 1 to k. -/
def poA (k : Nat) : Nat → Int := fun i => if i < k then 1 + i else 0
theorem poA_0 : poA 0 = po0 := by funext i; simp [poA]
theorem addA {k : Nat} (hk : k < 8) : addF (poA k) k (1 + k) = (((k : Int), 0), poA (k + 1), (k : Int) + 1) := by
  have hp : placeF (poA k) (1 + k) = (0, false) := place_no fun j hj => by
    unfold placeP poA
    split
    · simp; intro _; omega
    · simp; omega
  unfold addF
  rw [if_neg (by omega), hp, if_neg (by simp), if_neg (by omega)]
  have e : (fun i => if i = (k : Int).toNat then (1 + (k : Int)) else poA k i) = poA (k + 1) := by
    funext i
    unfold poA
    by_cases h : i = k
    · subst h; simp
    · have h2 : i ≠ (k : Int).toNat := by omega
      rw [if_neg h2]
      by_cases h3 : i < k
      · rw [if_pos h3, if_pos (by omega)]
      · rw [if_neg h3, if_neg (by omega)]
  rw [e]
theorem placeA {p : Nat} (hp : p < 8) : placeF (poA 8) (1 + p) = ((p : Int), true) := by
  refine place_yes hp ?_ fun j hj => ?_
  · unfold placeP poA
    rw [if_pos hp]
    simp; omega
  · unfold placeP poA
    rw [if_pos (by omega)]
    simp; intro _; omega
/-- What k roots have left. -/
structure AllInv (G : Nat → Nat) (N : Nums) (k : Nat) : Prop where
  le : ∀ p, p < 8 → G p ≤ 4
  one : 1 ≤ G 0
  yes : ∀ p j, p < 8 → j < 4 → p * 4 + j ≠ 0 → j < G p → ∃ i, i < k ∧ N (p * 4 + j) = (100 + (i : Int), ((p * 4 + j : Nat) : Int), 1)
  no : ∀ p j, p < 8 → j < 4 → (p * 4 + j = 0 ∨ G p ≤ j) → N (p * 4 + j) = (0, 0, 0)
theorem all_0 : AllInv (fun j => if j = 0 then 1 else 0) N0 0 := by
  refine ⟨fun p _ => by split <;> omega, by simp, fun p j _ _ h1 h2 => ?_, fun _ _ _ _ _ => rfl⟩
  (try simp only at h2)
  split at h2 <;> omega
theorem all_num {G : Nat → Nat} {N : Nums} {k n : Nat} (h : AllInv G N k) (hn : n < 32) : N n = (0, 0, 0) ∨ ∃ i, i < k ∧ N n = (100 + (i : Int), (n : Int), 1) := by
  have e : n = n / 4 * 4 + n % 4 := by omega
  rw [e]
  by_cases c : n / 4 * 4 + n % 4 = 0 ∨ G (n / 4) ≤ n % 4
  · exact .inl (h.no _ _ (by omega) (by omega) c)
  · exact .inr (h.yes _ _ (by omega) (by omega) (by omega) (by omega))
theorem all_of {G : Nat → Nat} {N : Nums} {k : Nat} (h : AllInv G N k) : ofR N (100 + k) = (0, 0, false) := of_no fun j hj => by
  unfold ofP
  rcases all_num h hj with e | ⟨i, hi, e⟩
  · rw [e]; rfl
  · rw [e]; simp; omega
theorem all_assign {G : Nat → Nat} {N : Nums} {k p : Nat} (h : AllInv G N k) (hp : p < 8) : assignF (poA 8) N (1 + p) (100 + k) = takeF N p (100 + k) := by
  unfold assignF
  rw [placeA hp, if_neg (by simp; omega), all_of h]
  simp
theorem all_full {G : Nat → Nat} {N : Nums} {k p : Nat} (h : AllInv G N k) (hp : p < 8) (hg : G p = 4) : assignF (poA 8) N (1 + p) (100 + k) = ((0, 0, 11), N) := by
  rw [all_assign h hp]
  refine take_no fun j hj => ?_
  unfold condA
  by_cases hz : p * 4 + j = 0
  · simp [hz]
  · obtain ⟨i, _, e⟩ := h.yes p j hp hj hz (by omega)
    rw [e]
    have : ((100 : Int) + i == 0) = false := beq_eq_false_iff_ne.2 (by omega)
    simp [this]
theorem all_take {G : Nat → Nat} {N : Nums} {k p : Nat} (h : AllInv G N k) (hp : p < 8) (hg : G p < 4) : assignF (poA 8) N (1 + p) (100 + k) = ((4 * (p : Int) + G p, 4 * (p : Int) + G p, 0), stepN N (p * 4 + G p) (100 + k)) := by
  rw [all_assign h hp]
  have hz : p * 4 + G p ≠ 0 := by
    have := h.one
    by_cases e : p = 0
    · subst e; omega
    · omega
  have e := h.no p (G p) hp hg (.inr (Nat.le_refl _))
  rw [take_yes hg (by unfold condA; rw [e]; simp; exact ⟨fun a c => hz (by omega), by omega⟩) (fun j hj => by
    unfold condA
    by_cases hz : p * 4 + j = 0
    · simp [hz]
    · obtain ⟨i, _, e⟩ := h.yes p j hp (by omega) hz hj
      rw [e]
      have : ((100 : Int) + i == 0) = false := beq_eq_false_iff_ne.2 (by omega)
      simp [this]), e]
  simp only [Prod.mk.injEq, and_true]
  exact ⟨by omega, by omega⟩
theorem all_step {G : Nat → Nat} {N : Nums} {k p : Nat} (h : AllInv G N k) (hp : p < 8) (hg : G p < 4) : AllInv (fun q => if q = p then G p + 1 else G q) (stepN N (p * 4 + G p) (100 + k)) (k + 1) := by
  have e := h.no p (G p) hp hg (.inr (Nat.le_refl _))
  refine ⟨fun q hq => ?_, ?_, fun q j hq hj h1 h2 => ?_, fun q j hq hj h1 => ?_⟩
  · (try simp only)
    split
    · omega
    · exact h.le q hq
  · (try simp only)
    have := h.one
    split
    · omega
    · exact this
  · unfold stepN
    by_cases c : q * 4 + j = p * 4 + G p
    · rw [if_pos c]
      refine ⟨k, by omega, ?_⟩
      rw [e, c]
      simp
    · rw [if_neg c]
      have h3 : j < G q := by
        (try simp only at h2)
        split at h2
        · rename_i hqp; subst hqp; omega
        · exact h2
      obtain ⟨i, hi, e2⟩ := h.yes q j hq hj h1 h3
      exact ⟨i, by omega, e2⟩
  · unfold stepN
    have c : ¬ q * 4 + j = p * 4 + G p := by
      intro c
      obtain ⟨rfl, rfl⟩ : q = p ∧ j = G p := by omega
      simp only [if_true] at h1
      have := h.one
      rcases h1 with h1 | h1
      · have : q = 0 := by omega
        subst this
        omega
      · omega
    rw [if_neg c]
    refine h.no q j hq hj (h1.imp id fun h1 => ?_)
    (try simp only at h1)
    split at h1
    · rename_i hqp; subst hqp; omega
    · exact h1
theorem all_root {G : Nat → Nat} {N : Nums} {k p : Nat} (h : AllInv G N k) (hp : p < 8) (hg : G p < 4) : rootR (stepN N (p * 4 + G p) (100 + k)) (4 * (p : Int) + G p) = (100 + (k : Int), 4 * (p : Int) + G p, true) := by
  have e := h.no p (G p) hp hg (.inr (Nat.le_refl _))
  have s0 : stepN N (p * 4 + G p) (100 + k) (p * 4 + G p) = (100 + (k : Int), ((p * 4 + G p : Nat) : Int), 1) := by
    unfold stepN
    rw [if_pos rfl, e]
    simp
  have y : rootP (stepN N (p * 4 + G p) (100 + k)) (4 * (p : Int) + G p) (p * 4 + G p) = true := by
    unfold rootP
    rw [s0]
    simp; omega
  rw [root_yes (by omega) y (fun j hj => by
    unfold rootP stepN
    rw [if_neg (by omega)]
    rcases all_num h (show j < 32 by omega) with e | ⟨i, hi, e⟩
    · rw [e]; rfl
    · rw [e]; simp; intro _; omega), s0]
  simp only [Prod.mk.injEq, and_true, true_and]
  omega
/-- How many each pool has given. -/
def GivAt (w : World) (b : Nat) (G : Nat → Nat) : Prop := ∀ j, j < 8 → w.cell? ⟨b, j, none⟩ = some (.int .i64 (G j))
theorem giv_set {w : World} {b p : Nat} {G : Nat → Nat} (h : GivAt w b G) (hp : p < 8) : GivAt (w.setCell ⟨b, p, none⟩ (.int .i64 ((G p : Int) + 1))) b (fun q => if q = p then G p + 1 else G q) := by
  intro j hj
  have c := h j hj
  by_cases e : j = p
  · subst e; simp [go_sem, c]
  · rw [World.cell?_setCell_other]
    · simp only [if_neg e]; exact c
    · intro e2; simp only [Addr.mk.injEq, true_and, and_true] at e2; omega
theorem GivAt.of_block {w w' : World} {b : Nat} {G : Nat → Nat} (h : GivAt w b G) (e : w'.heap[b]? = w.heap[b]?) : GivAt w' b G := fun j hj => (cell_of_block e).trans (h j hj)
/-- The picks. -/
def PicksAt (w : World) (p : Option Addr) (n : Nat) (D : Nat → Int) : Prop :=
  ∃ b off, (0 < n → p = some ⟨b, off, none⟩ ∧ b < w.heap.size) ∧ ∀ k, k < n → w.cell? ⟨b, off + k, none⟩ = some (.int .i64 (D k)) ∧ -9223372036854775808 ≤ D k ∧ D k ≤ 9223372036854775807
theorem i64_of {n : Int} (h : (Lit.int .i64 n).wf = true) : -9223372036854775808 ≤ n ∧ n ≤ 9223372036854775807 := by
  simp [Lit.wf, IntKind.min, IntKind.max, IntKind.signed, IntKind.bits] at h
  exact ⟨by omega, by omega⟩
theorem open_s42 {H : Type} {enc : TypeId × Value → H} {W : World} {base : Nat} {v : Value} {d : DataW H} {ps : List MemPlace} (hval : Value.okWide Try.prog W .any base 42 v) (hd : DataW.Trod enc Try.prog W 0 (fun _ => true) true 42 v d ps) :
    ∃ p n c, v = .slice p n c ∧ n ≤ c ∧ c ≤ maxLen ∧ ∃ D, PicksAt W p n D := by
  obtain ⟨p, n, c, rfl, h1, h2, b, off, h3, h4⟩ := open_rows (C := 1) Try.underlying42 (by kernel_rfl) (by kernel_rfl) (by decide) hval hd
  refine ⟨p, n, c, rfl, h1, h2, fun k => intAt W b (off + (k * 1 + 0)), b, off, h3, fun k hk => ?_⟩
  obtain ⟨c0, o0⟩ := h4 k hk 0 (.i .i64) (by kernel_rfl)
  refine ⟨?_, i64_of o0⟩
  simpa using c0
set_option maxRecDepth 100000 in
set_option maxHeartbeats 4000000 in
theorem walk_asidAll {W : World} (p : Option Addr) (n c : Nat) (hx : n ≤ c ∧ c ≤ maxLen ∧ ∃ D, PicksAt W p n D) :
    Calls Try.prog 7 #[.slice p n c] W fun e w' => e = .returned (.bool true) ∧ Below W.heap.size W w' := by
  obtain ⟨h1, h2, D, pb, off, hp, hD⟩ := hx
  unfold maxLen at h2
  have HD := Lib.hid hD
  have HP := Lib.hid hp
  clear hD hp
  by_cases hn : 60 < n
  · go_enter Try.func7, Try.ntmps7
    go_wp2_with (first
      | (go_at_call 8; refine (awake19 _).mono ?_; rintro e w3 ⟨rfl, hb3⟩))
    go_ret
    exact ⟨rfl, hb3⟩
  have hn' : n ≤ 60 := by omega
  clear hn
  go_enter Try.func7, Try.ntmps7
  go_wp2_with (first
    | (go_at_call 9; refine (new_any _).mono ?_; rintro e w1 ⟨rfl, ha1, hb1⟩; have hl1 := ha1.lt))
  rw [← poA_0] at ha1
  go_loopw [4] (fun i wr => ∃ k : Nat, k ≤ 8 ∧ i = .int .i64 k ∧ AsidAt wr W.heap.size (poA k) k N0 ∧ Below W.heap.size W wr) (fun i _ => 8 - (intOf i).toNat)
  case atStart => exact ⟨0, by omega, rfl, ha1, hb1⟩
  case round =>
    obtain ⟨k, hk, rfl, hA, hB⟩ := hrel
    have hAl := hA.lt
    by_cases hlt : k < 8
    · have hlt' : (k : Int) < 8 := by omega
      have hadd := addA hlt
      have HADD := Lib.hid hadd
      have HA := Lib.hid hA
      clear hadd hA ha1
      go_wp2_with (first
        | (go_at_call 10; refine (addPool_any _ W.heap.size (poA k) k N0 (1 + k) HA.out (by omega) (by omega)).mono ?_; rw [HADD.out]; rintro e w2 ⟨rfl, ha2, ho2⟩))
      go_roundw
      case rel => exact ⟨k + 1, by omega, by go_num, by simpa using ha2, hB.trans (ho2.below (Nat.le_refl _) hAl)⟩
      case measure => simp [intOf]; omega
    · obtain rfl : k = 8 := by omega
      have HA := Lib.hid hA
      clear hA ha1
      go_wp2
      obtain ⟨wg, hwg⟩ : ∃ wg, wg = (wr.alloc (.cells #[.int .i64 1, .int .i64 0, .int .i64 0, .int .i64 0, .int .i64 0, .int .i64 0, .int .i64 0, .int .i64 0] 60)) := ⟨_, rfl⟩
      rw [← hwg]
      have hG0 : GivAt wg wr.heap.size (fun j => if j = 0 then 1 else 0) := by
        intro j hj
        rw [hwg, cell_new]
        obtain rfl | rfl | rfl | rfl | rfl | rfl | rfl | rfl : j = 0 ∨ j = 1 ∨ j = 2 ∨ j = 3 ∨ j = 4 ∨ j = 5 ∨ j = 6 ∨ j = 7 := by omega
        all_goals rfl
      have hF0 : ∀ j, wg.frozen? ⟨wr.heap.size, j, none⟩ = false := fun j => by rw [hwg]; exact frozen_new _ _ _ j
      have hBwg : Below wr.heap.size wr wg := hwg ▸ bal (Below.refl _ _) _
      have hAg := HA.out.call hBwg
      have hBg : Below W.heap.size W wg := hwg ▸ hB.alloc (Nat.le_of_lt hAl) _
      have hZg : wr.heap.size < wg.heap.size := by rw [hwg]; simp
      obtain ⟨gb, hgb⟩ : ∃ g, wr.heap.size = g := ⟨_, rfl⟩
      rw [hgb] at hG0 hF0 hZg hAl ⊢
      have hgb2 : W.heap.size < gb := hAl
      clear hwg hB hgb hBwg
      go_loopw [8] (fun i wr => ∃ (k : Nat) (G : Nat → Nat) (N : Nums), k ≤ n ∧ i = .int .i64 k ∧ AsidAt wr W.heap.size (poA 8) 8 N ∧ NumsOk N ∧ AllInv G N k ∧ GivAt wr gb G ∧ (∀ j, wr.frozen? ⟨gb, j, none⟩ = false) ∧ gb < wr.heap.size ∧ Below W.heap.size W wr) (fun i _ => n - (intOf i).toNat)
      case atStart => exact ⟨0, _, N0, by omega, rfl, hAg, ok_N0, all_0, hG0, hF0, hZg, hBg⟩
      case round =>
        obtain ⟨k, G, N, hk, rfl, hA, hN, hI, hG, hF, hZ, hB⟩ := hrel
        clear hG0 hF0 hAg hBg hZg
        have hAl2 := hA.lt
        by_cases hlt : k < n
        · obtain ⟨rfl, hpb⟩ := HP.out (by omega)
          obtain ⟨c0, d0, d1⟩ := HD.out k hlt
          have c1 : wr.cell? ⟨pb, off + k, none⟩ = some (.int .i64 (D k)) := (hB.cell (p := ⟨pb, off + k, none⟩) hpb).trans c0
          have l0 := lowI_0 (D k) 8 (by decide)
          have l1 := lowI_1 (D k) 8 (by decide)
          have HLW := Lib.hid (⟨d0, d1⟩ : -9223372036854775808 ≤ D k ∧ D k ≤ 9223372036854775807)
          obtain ⟨q, hq⟩ : ∃ q : Nat, lowI (D k) 8 = q := ⟨(lowI (D k) 8).toNat, by omega⟩
          rw [hq] at l0 l1
          have HQ := Lib.hid hq
          have hq8 : q < 8 := by omega
          have hg4 := hI.le q hq8
          have cg := hG q hq8
          have hk60 : k ≤ 60 := by omega
          have HA := Lib.hid hA
          have HN := Lib.hid hN
          have HI := Lib.hid hI
          have HG := Lib.hid hG
          have HF := Lib.hid hF
          clear c0 d0 d1 hq hA hN hI hG hF
          by_cases hfull : G q = 4
          · have has := all_full HI.out hq8 hfull
            have HAS := Lib.hid has
            rw [hfull] at cg
            clear has hfull
            go_wp2_with (first
              | (go_at_call 26; refine (low_any (D k) 8 _ HLW.out (by decide) (by decide)).mono ?_; rw [HQ.out]; rintro e w4 ⟨rfl, rfl⟩)
              | (go_at_call 17; refine (assign_any _ W.heap.size _ _ N (1 + q) (100 + k) HA.out HN.out).mono ?_; rw [HAS.out]; rintro e w5 ⟨rfl, ha5, ho5⟩; have cg5 := ho5.cell hZ (by omega) cg; have hz5 : gb < w5.heap.size := (Nat.lt_of_lt_of_le hZ ho5.size)))
            go_roundw
            case rel => first | exact ⟨k + 1, G, N, by omega, by go_num, ha5, HN.out, ⟨HI.out.le, HI.out.one, fun p j a1 a2 a3 a4 => (HI.out.yes p j a1 a2 a3 a4).imp fun i h => ⟨by omega, h.2⟩, HI.out.no⟩, HG.out.of_block (ho5.block gb hZ (by omega)), fun j => (frozen_of_block (ho5.block gb hZ (by omega))).trans (HF.out j), hz5, hB.trans (ho5.below (Nat.le_refl _) hAl2)⟩ | ((repeat apply Exists.intro); exact ⟨⟨k + 1, G, N, by omega, by go_num, ha5, HN.out, ⟨HI.out.le, HI.out.one, fun p j a1 a2 a3 a4 => (HI.out.yes p j a1 a2 a3 a4).imp fun i h => ⟨by omega, h.2⟩, HI.out.no⟩, HG.out.of_block (ho5.block gb hZ (by omega)), fun j => (frozen_of_block (ho5.block gb hZ (by omega))).trans (HF.out j), hz5, hB.trans (ho5.below (Nat.le_refl _) hAl2)⟩, rfl⟩)
            case measure => simp [intOf]; omega
          · have hg3 : G q < 4 := by omega
            have has := all_take HI.out hq8 hg3
            have hrt := all_root HI.out hq8 hg3
            have hst := all_step HI.out hq8 hg3
            have hne : ((G q : Int) == 4) = false := beq_eq_false_iff_ne.2 (by omega)
            have hok : NumsOk (stepN N (q * 4 + G q) (100 + k)) := by
              have := ok_take HN.out q (100 + k)
              rw [← all_assign HI.out hq8, has] at this
              exact this
            obtain ⟨M, hM⟩ : ∃ M, stepN N (q * 4 + G q) (100 + k) = M := ⟨_, rfl⟩
            rw [hM] at has hrt hst hok
            have HAS := Lib.hid has
            have HRT := Lib.hid hrt
            have HST := Lib.hid hst
            have HOK := Lib.hid hok
            have hsv : GivAt wr gb G := HG.out
            have HSV := Lib.hid hsv
            obtain ⟨g, hg⟩ : ∃ g, G q = g := ⟨_, rfl⟩
            rw [hg] at cg hg4 HAS HRT hg3 hne
            have HGG := Lib.hid hg
            clear has hrt hst hM hfull hok hsv hg
            go_wp2_with (first
              | (go_at_call 26; refine (low_any (D k) 8 _ HLW.out (by decide) (by decide)).mono ?_; rw [HQ.out]; rintro e w4 ⟨rfl, rfl⟩)
              | (go_at_call 17; refine (assign_any _ W.heap.size _ _ N (1 + q) (100 + k) HA.out HN.out).mono ?_; rw [HAS.out]; rintro e w5 ⟨rfl, ha5, ho5⟩; have cg5 := ho5.cell hZ (by omega) cg; have hz5 : gb < w5.heap.size := (Nat.lt_of_lt_of_le hZ ho5.size))
              | (go_at_call 23; refine (root_any _ W.heap.size _ _ M _ ha5).mono ?_; rw [HRT.out]; rintro e w6 ⟨rfl, hb6⟩; have cg6 := (hb6.cell (p := ⟨gb, q, none⟩) hz5).trans cg5; have hz6 : gb < w6.heap.size := (Nat.lt_of_lt_of_le hz5 hb6.size); have fz6 : ∀ j, w6.frozen? ⟨gb, j, none⟩ = false := (fun j => (hb6.frozen (p := ⟨gb, j, none⟩) hz5).trans ((frozen_of_block (ho5.block gb hZ (by omega))).trans (HF.out j)))))
            go_roundw
            case rel =>
              have e6 : GivAt w6 gb G := (HG.out.of_block (ho5.block gb hZ (by omega))).of_block (hb6.block gb hz5)
              have e7 := giv_set e6 hq8
              have hst2 := HST.out
              rw [HGG.out] at e7 hst2
              first | exact ⟨k + 1, _, M, by omega, by go_num, (ha5.call hb6).far (by simp; omega) _, HOK.out, hst2, e7, fun j => by simp [go_sem, fz6], by simpa using hz6, ((hB.trans (ho5.below (Nat.le_refl _) hAl2)).trans (hb6.mono (by omega))).setCell (by simp; omega) _⟩ | ((repeat apply Exists.intro); exact ⟨⟨k + 1, _, M, by omega, by go_num, (ha5.call hb6).far (by simp; omega) _, HOK.out, hst2, e7, fun j => by simp [go_sem, fz6], by simpa using hz6, ((hB.trans (ho5.below (Nat.le_refl _) hAl2)).trans (hb6.mono (by omega))).setCell (by simp; omega) _⟩, rfl⟩)
            case measure => simp [intOf]; omega
        · obtain rfl : k = n := by omega
          go_wp2_with (first
            | (go_at_call 8; refine (awake19 _).mono ?_; rintro e w8 ⟨rfl, hb8⟩))
          go_ret
          exact ⟨rfl, bgo hB hb8⟩
end Go.Proofs.Ytmjpelcmaobemaa
