/- The law EndsOnce. -/
import Derived.Test.YtmbjaemflmbljaaEnP
namespace Go.Proofs.Ytmbjaemflmbljaa
set_option linter.unusedVariables false
set_option linter.unusedSimpArgs false
open Go.ChangeShapes Go.WideShapes Go.ChangeAt Go.RowKit Go.Shelf

structure OnO (W w : World) (b n : Nat) (A : List EA) : Prop where
  st : StE W w b n A
  q : Q4 A
theorem three (A : List EA) (id t : Int) (s : Bool) (ht : 1 ≤ t) : listA A id = ([], false) ∨ ((listA A id).1 ≠ [] ∧ (listA A id).2 = s) ∨ ((listA A id).1 ≠ [] ∧ (listA A id).2 = (!s) ∧ waitR A id t s = 16) := by
  by_cases h0 : (listA A id).1 = []
  · left
    unfold listA at h0 ⊢
    cases hg : getA A id with
    | none => rfl
    | some x =>
      rw [hg] at h0
      simp only at h0 ⊢
      split
      · rfl
      · rename_i e
        rw [if_neg e] at h0
        exact absurd h0 e
  · right
    by_cases hs : (listA A id).2 = s
    · exact .inl ⟨h0, hs⟩
    · exact .inr ⟨h0, by cases h : (listA A id).2 <;> cases s <;> simp_all, wait_other ht h0 hs⟩
theorem len_of {w : World} {B n : Nat} {v : Value} {xs : List Value} (h : w.ownsRow B 3 1 v n xs) : ∃ a c, v = .slice a n c := by
  rcases h.2 with ⟨rfl, h0⟩ | ⟨g, c, cur, rfl, _⟩
  · exact ⟨_, _, by rw [h0]⟩
  · exact ⟨_, _, rfl⟩
/-- A row of ints above a block. -/
def RowR (w : World) (nB : Nat) (a : Option Addr) (l : List Int) : Prop := (0 < l.length → ∃ g, a = some ⟨g, 0, none⟩ ∧ nB < g ∧ ∀ (j : Nat) (z : Int), l[j]? = some z → w.cell? ⟨g, j, none⟩ = some (.int .i64 z)) ∧ True
theorem RowR.put {w : World} {nB : Nat} {a : Option Addr} {l : List Int} (h : RowR w nB a l) (o : Nat) (u : Value) : RowR (w.setCell ⟨nB, o, none⟩ u) nB a l := by
  refine ⟨fun h0 => ?_, trivial⟩
  obtain ⟨g, e, hg, hc⟩ := h.1 h0
  exact ⟨g, e, hg, fun j z hz => (World.cell?_setCell_other _ _ _ _ (by intro q; injection q with q _ _; omega)).trans (hc j z hz)⟩
theorem row_at {w w' : World} {nB : Nat} {v : Value} {l : List Int} (h : w'.ownsRow w.heap.size 3 1 v l.length (l.map (Value.int .i64))) (hn : nB < w.heap.size) : ∀ a n c, v = .slice a n c → RowR w' nB a l := by
  intro a n c e
  refine ⟨fun h0 => ?_, trivial⟩
  rcases own_form h with ⟨_, e0⟩ | ⟨g, c', e', _, hg, _, hc⟩
  · rw [e0] at h0; simp at h0
  · rw [e] at e'
    cases e'
    exact ⟨g, rfl, by omega, hc⟩
set_option maxRecDepth 100000 in
set_option maxHeartbeats 4000000 in
theorem once_any (q : Option Addr) (n c : Nat) (D : Nat → ActE) (W : World) (hn : n ≤ 120) (hD : ActsAt W q n D) :
    Calls Try.prog 4 #[.slice q n c] W fun e w' => e = .returned (.bool true) ∧ Below W.heap.size W w' := by
  have hn' : ¬ (n : Int) > 120 := by omega
  have HD := Lib.hid hD
  clear hD
  go_enter Try.func4, Try.ntmps4
  go_wp2_with (go_at_call 8; refine (new_S W _ (Below.refl _ _)).mono ?_; rintro e w1 ⟨rfl, h1, -⟩; have H1 := Lib.hid h1; clear h1)
  obtain ⟨b, hb⟩ : ∃ b, b = W.heap.size := ⟨_, rfl⟩
  rw [← hb] at H1 ⊢
  have HB := Lib.hid hb
  clear hb
  go_loopw [4] (fun i wr => ∃ k : Nat, k ≤ 4 ∧ i = .int .i64 ((k : Int) + 1) ∧ Hid (StE W wr b 4 (A4 k))) (fun i _ => 5 - (intOf i).toNat)
  case atStart => exact ⟨0, by omega, rfl, Lib.hid (H1.out.tight rfl (by simp [A4]) (by rw [A4_who]; simp))⟩
  clear H1
  case round =>
    obtain ⟨k, hk, rfl, HS⟩ := hrel
    by_cases hlt : k < 4
    · have hle : (k : Int) + 1 ≤ 4 := by omega
      go_wp2_with (go_at_call 10; refine (add_S W wr b 4 (A4 k) ((k : Int) + 1) HS.out (by decide)).mono ?_; rintro e w2 ⟨rfl, h2, -⟩; have H2 := Lib.hid (h2.tight (m := 4) (A4_add hlt) (by rw [A4_len]; omega) (by rw [A4_who]; simp)); clear h2)
      go_roundw
      case rel => exact ⟨k + 1, by omega, by go_num, H2⟩
      case measure => simp [intOf]; omega
    · have hk4 : k = 4 := by omega
      have HO : Hid (OnO W wr b (4 + 0) (A4 4)) := Lib.hid ⟨by have := HS.out; rw [hk4] at this; exact this, A4_q⟩
      have hge : ¬ (k : Int) + 1 ≤ 4 := by omega
      clear HS hk4
      go_wp2
      go_loopw [5, 6, 7, 8, 9, 10, 11, 12, 13, 14, 15, 16, 17, 18, 19] (fun i _ _ _ _ _ _ _ _ _ _ _ _ _ _ wr => ∃ (t : Nat) (A : List EA), t ≤ n ∧ i = .int .i64 t ∧ Hid (OnO W wr b (4 + t) A)) (fun i _ _ _ _ _ _ _ _ _ _ _ _ _ _ _ => n - (intOf i).toNat)
      case atStart => exact ⟨0, A4 4, Nat.zero_le _, rfl, HO⟩
      clear HO
      case round =>
        obtain ⟨t, A, ht, rfl, HO⟩ := hrel
        by_cases hlt : t < n
        · have hltI : (t : Int) < n := by omega
          obtain ⟨aB, aO, hq, hcs⟩ := HD.out
          obtain ⟨rfl, hal⟩ := hq (by omega)
          obtain ⟨⟨d0, d1, d2, d3⟩, hok⟩ := hcs t hlt
          have hbl := HO.out.st.bel
          have c0 := (hbl.cell (p := ⟨aB, aO + t * 4, none⟩) hal).trans d0
          have c1 := (hbl.cell (p := ⟨aB, aO + t * 4 + 1, none⟩) hal).trans d1
          have c2 := (hbl.cell (p := ⟨aB, aO + t * 4 + 2, none⟩) hal).trans d2
          have c3 := (hbl.cell (p := ⟨aB, aO + t * 4 + 3, none⟩) hal).trans d3
          clear hq hcs hbl d0 d1 d2 d3
          obtain ⟨⟨xd, xa, xt, xs⟩, hx⟩ : ∃ x, x = D t := ⟨_, rfl⟩
          rw [← hx] at c0 c1 c2 c3 hok
          simp only [] at c0 c1 c2 c3
          obtain ⟨di, hdi⟩ : ∃ k : Nat, lowI xa 4 = (k : Int) := ⟨(lowI xa 4).toNat, by have := lowI_0 xa 4 (by omega); omega⟩
          obtain ⟨dt, hdt⟩ : ∃ k : Nat, lowI xt 6 = (k : Int) := ⟨(lowI xt 6).toNat, by have := lowI_0 xt 6 (by omega); omega⟩
          have bdi : di < 4 := by have := lowI_1 xa 4 (by omega); omega
          have bdt : dt < 6 := by have := lowI_1 xt 6 (by omega); omega
          have L4 := Lib.hid (low_any xa 4 · hok.2.1 (by omega) (by omega))
          have L6 := Lib.hid (low_any xt 6 · hok.2.2 (by omega) (by omega))
          rw [hdi] at L4
          rw [hdt] at L6
          clear hx hok hdi hdt
          go_upto_region 14 with fail
          obtain ⟨w3, hw3⟩ : ∃ x, x = wr.alloc (.cells #[.int .i64 xd, .int .i64 xa, .int .i64 xt, .bool xs] 31) := ⟨_, rfl⟩
          rw [← hw3]
          have x0 : w3.cell? ⟨wr.heap.size, 0, none⟩ = some (.int .i64 xd) := by rw [hw3]; go_simp
          have x1 : w3.cell? ⟨wr.heap.size, 1, none⟩ = some (.int .i64 xa) := by rw [hw3]; go_simp
          have x2 : w3.cell? ⟨wr.heap.size, 2, none⟩ = some (.int .i64 xt) := by rw [hw3]; go_simp
          have x3 : w3.cell? ⟨wr.heap.size, 3, none⟩ = some (.bool xs) := by rw [hw3]; go_simp
          have hxB : wr.heap.size < w3.heap.size := by rw [hw3]; simp
          have HO3 : Hid (StS W w3 b (4 + t) A (fun k => k = wr.heap.size)) := Lib.hid ((HO.out.st.beside (w' := w3) (by rw [hw3]; exact bal (Below.refl _ _) _)).sub (fun k hk => by subst hk; exact ⟨Nat.le_refl _, hxB⟩))
          have HQ := Lib.hid HO.out.q
          clear hw3 c0 c1 c2 c3 HO
          generalize wr.heap.size = xB at *
          go_quiet ((first
            | (go_at_call 24; with_reducible exact Calls.quiet_of_same (same_q (L4.out _)))
            | (go_at_call 24; with_reducible exact Calls.quiet_of_same (same_q (L6.out _)))))
          obtain ⟨wq, hwq⟩ : ∃ y, y = w3.drewN nq := ⟨_, rfl⟩
          rw [← hwq]
          have HS : Hid (StS W wq b (4 + t) A (fun k => k = xB)) := Lib.hid (by rw [hwq]; exact HO3.out.call (below_drewN (Below.refl _ _) _))
          have z0 : wq.cell? ⟨xB, 0, none⟩ = some (.int .i64 xd) := by rw [hwq]; exact x0
          have z3 : wq.cell? ⟨xB, 3, none⟩ = some (.bool xs) := by rw [hwq]; exact x3
          have hz : xB < wq.heap.size := by rw [hwq]; exact hxB
          clear hwq x0 x1 x2 x3 hxB HO3
          go_upto_if 54 with fail
          go_cut [9, 10, 11, 12, 13] from 54 to 88 (fun _ _ _ _ _ wx => ∃ A' : List EA, Hid (OnO W wx b (4 + t + 1) A'))
          case first =>
            by_cases hd : xd = 3
            · subst hd
              go_wp2_with (go_at_call 18; refine (HS.out.remove (by omega) (1 + (dt : Int))).mono ?_; rintro e w5 ⟨rfl, h5, -, -⟩; have H5 := Lib.hid h5; clear h5)
              go_meet
              case rel => exact ⟨_, Lib.hid ⟨⟨by obtain ⟨base, tv, L, hE, hA, _⟩ := H5.out.st; exact ⟨base, tv, L, hE, hA.perm, hA.once.le (by omega)⟩, H5.out.lo, H5.out.bel⟩, HQ.out.rem _⟩⟩
            · rcases three A (1 + (di : Int)) (1 + (dt : Int)) xs (by omega) with hl | ⟨hl, hs⟩ | ⟨hl, hs, hr⟩
              · have HL := Lib.hid hl
                clear hl
                go_wp2_with (first
                  | (go_at_call 22; (with_reducible refine (HS.out.list (by omega) (1 + (di : Int))).mono ?_); rw [HL.out]; rintro e w4 ⟨r4, rfl, hr4, h4, hb4⟩; obtain ⟨a4, c4, rfl⟩ := len_of (n := 0) hr4; have H4 := Lib.hid h4; have y3 := (hb4.cell (p := ⟨xB, 3, none⟩) hz).trans z3; have hz4 := Nat.lt_of_lt_of_le hz hb4.size; clear h4 hb4 hr4 z3 hz HS)
                  | (go_at_call 22; (with_reducible refine (H4.out.list (by omega) (1 + (di : Int))).mono ?_); rw [HL.out]; rintro e w5 ⟨r5, rfl, hr5, h5, hb5⟩; obtain ⟨a5, c5, rfl⟩ := len_of (n := 0) hr5; have H5 := Lib.hid h5; have y4 := (hb5.cell (p := ⟨xB, 3, none⟩) hz4).trans y3; clear h5 hb5 hr5 y3 H4)
                  | (go_at_call 16; (with_reducible refine (H5.out.wait (by omega) (1 + (di : Int)) (1 + (dt : Int)) xs).mono ?_); rintro e w6 ⟨rfl, h6, hk6, -⟩; have H6 := Lib.hid h6; have y5 := (World.cell?_of_block (a := ⟨xB, 3, none⟩) (hk6 xB rfl)).trans y4; clear h6 hk6 y4 H5))
                go_meet
                case rel => exact ⟨_, Lib.hid ⟨H6.out.ste, HQ.out.wait _ _ _ (by omega)⟩⟩
              · obtain ⟨m, hm⟩ : ∃ m, (listA A (1 + (di : Int))).1.length = m := ⟨_, rfl⟩
                have hm0 : 0 < m := by rw [← hm]; exact List.length_pos_iff.2 hl
                have hm1 : (0 : Int) < (m : Int) := by omega
                have HM := Lib.hid hm
                have HL := Lib.hid hs
                clear hl hs hm
                cases xs
                all_goals
                 go_wp2_with (first
                  | (go_at_call 22; (with_reducible refine (HS.out.list (by omega) (1 + (di : Int))).mono ?_); rw [HL.out]; rintro e w4 ⟨r4, rfl, hr4, h4, hb4⟩; rw [HM.out] at hr4; obtain ⟨a4, c4, rfl⟩ := len_of hr4; have H4 := Lib.hid h4; have y3 := (hb4.cell (p := ⟨xB, 3, none⟩) hz).trans z3; have hz4 := Nat.lt_of_lt_of_le hz hb4.size; clear h4 hb4 hr4 z3 hz HS)
                  | (go_at_call 22; (with_reducible refine (H4.out.list (by omega) (1 + (di : Int))).mono ?_); rw [HL.out]; rintro e w5 ⟨r5, rfl, hr5, h5, hb5⟩; rw [HM.out] at hr5; obtain ⟨a5, c5, rfl⟩ := len_of hr5; have H5 := Lib.hid h5; have y4 := (hb5.cell (p := ⟨xB, 3, none⟩) hz4).trans y3; clear h5 hb5 hr5 y3 H4)
                  | (go_at_call 16; (with_reducible refine (H5.out.wait (by omega) (1 + (di : Int)) (1 + (dt : Int)) _).mono ?_); rintro e w6 ⟨rfl, h6, hk6, -⟩; have H6 := Lib.hid h6; have y5 := (World.cell?_of_block (a := ⟨xB, 3, none⟩) (hk6 xB rfl)).trans y4; clear h6 hk6 y4 H5))
                 go_meet
                 case rel => exact ⟨_, Lib.hid ⟨H6.out.ste, HQ.out.wait _ _ _ (by omega)⟩⟩
              · obtain ⟨m, hm⟩ : ∃ m, (listA A (1 + (di : Int))).1.length = m := ⟨_, rfl⟩
                have hm0 : 0 < m := by rw [← hm]; exact List.length_pos_iff.2 hl
                have hm1 : (0 : Int) < (m : Int) := by omega
                have HM := Lib.hid hm
                have HL := Lib.hid hs
                have HR := Lib.hid hr
                clear hl hs hm hr
                cases xs
                all_goals
                 simp only [Bool.not_true, Bool.not_false] at HL
                 go_wp2_with (first
                  | (go_at_call 22; (with_reducible refine (HS.out.list (by omega) (1 + (di : Int))).mono ?_); rw [HL.out]; rintro e w4 ⟨r4, rfl, hr4, h4, hb4⟩; rw [HM.out] at hr4; obtain ⟨a4, c4, rfl⟩ := len_of hr4; have H4 := Lib.hid h4; have y3 := (hb4.cell (p := ⟨xB, 3, none⟩) hz).trans z3; have hz4 := Nat.lt_of_lt_of_le hz hb4.size; clear h4 hb4 hr4 z3 hz HS)
                  | (go_at_call 22; (with_reducible refine (H4.out.list (by omega) (1 + (di : Int))).mono ?_); rw [HL.out]; rintro e w5 ⟨r5, rfl, hr5, h5, hb5⟩; rw [HM.out] at hr5; obtain ⟨a5, c5, rfl⟩ := len_of hr5; have H5 := Lib.hid h5; have y4 := (hb5.cell (p := ⟨xB, 3, none⟩) hz4).trans y3; clear h5 hb5 hr5 y3 H4)
                  | (go_at_call 16; (with_reducible refine (H5.out.wait (by omega) (1 + (di : Int)) (1 + (dt : Int)) _).mono ?_); rw [HR.out]; rintro e w6 ⟨rfl, h6, hk6, -⟩; have H6 := Lib.hid h6; have y5 := (World.cell?_of_block (a := ⟨xB, 3, none⟩) (hk6 xB rfl)).trans y4; clear h6 hk6 y4 H5))
                 go_meet
                 case rel => exact ⟨_, Lib.hid ⟨H6.out.ste, HQ.out.wait _ _ _ (by omega)⟩⟩
          case rest =>
            obtain ⟨A2, HO2⟩ := hcut
            clear HS HQ L4 L6 z0 z3 hz
            go_upto_region 23 with fail
            obtain ⟨w7, hw7⟩ : ∃ x, x = wc.alloc (.cells #[.int .i64 0, .int .i64 0, .int .i64 0, .int .i64 0, .int .i64 0, .int .i64 0, .int .i64 0] 52) := ⟨_, rfl⟩
            rw [← hw7]
            have HC7 : Hid (CntAt w7 wc.heap.size (vis A2 0)) := Lib.hid (by rw [hw7]; exact cnt_new wc)
            have HB7 : Hid (Below wc.heap.size wc w7) := Lib.hid (by rw [hw7]; exact bal (Below.refl _ _) _)
            have hs7 : wc.heap.size < w7.heap.size := by rw [hw7]; simp
            clear hw7
            obtain ⟨nB, hnB⟩ : ∃ x, x = wc.heap.size := ⟨_, rfl⟩
            rw [← hnB] at HC7 HB7 hs7 ⊢
            have HNB := Lib.hid hnB
            clear hnB
            go_wp2
            go_loopw [15, 16, 17, 18] (fun k _ _ _ wi => ∃ j : Nat, j ≤ 4 ∧ k = .int .i64 ((j : Int) + 1) ∧ Hid (CntAt wi nB (vis A2 j)) ∧ Hid (Below nB wc wi) ∧ Hid (nB < wi.heap.size)) (fun k _ _ _ _ => 5 - (intOf k).toNat)
            case atStart => exact ⟨0, by omega, rfl, HC7, HB7, Lib.hid hs7⟩
            clear HC7 HB7 hs7
            case round =>
              obtain ⟨j, hj, rfl, HC, HB8, HZ⟩ := hrel
              by_cases hjl : j < 4
              · have hjI : (j : Int) + 1 ≤ 4 := by omega
                have hst : StE W wr b (4 + t + 1) A2 := HO2.out.st.call (by rw [← HNB.out]; exact HB8.out)
                have HSW := Lib.hid hst
                obtain ⟨l, hl⟩ : ∃ l, (listA A2 ((j : Int) + 1)).1 = l := ⟨_, rfl⟩
                have hvis : vis A2 (j + 1) = vis A2 j ++ l := by rw [← hl]; rfl
                have hle : (vis A2 (j + 1)).length ≤ 4 + t + 1 := Nat.le_trans (vis_le A2 (by omega : j + 1 ≤ 4)) (by rw [HO2.out.q.vis4]; exact HO2.out.st.once.who)
                have hmem : ∀ z ∈ l, 1 ≤ z ∧ z ≤ 6 := fun z hz => HO2.out.q.who z (list_sub (by rw [hl]; exact hz))
                have HL := Lib.hid hl
                have HV := Lib.hid hvis
                have HLE := Lib.hid hle
                have HM := Lib.hid hmem
                clear hst hl hvis hle hmem
                obtain ⟨m, hm⟩ : ∃ m, l.length = m := ⟨_, rfl⟩
                have hmb : m ≤ 4 + t + 1 := by
                  have h1 := HLE.out
                  rw [HV.out, List.length_append] at h1
                  omega
                have HMM := Lib.hid hm
                clear hm
                go_wp2_with (go_at_call 22; refine (list_S W wr b _ A2 ((j : Int) + 1) HSW.out (by omega)).mono ?_; rw [HL.out]; rintro e w8 ⟨r8, rfl, hr8, -, hb8⟩; have hcs := row_at hr8 HZ.out; rw [HMM.out] at hr8; obtain ⟨a8, c8, rfl⟩ := len_of hr8; have HR8 := Lib.hid (hcs _ _ _ rfl); have HC8 := Lib.hid (HC.out.of_block (hb8.block nB HZ.out)); have HB9 := Lib.hid (HB8.out.trans (hb8.mono (Nat.le_of_lt HZ.out))); have HZ9 := Lib.hid (Nat.lt_of_lt_of_le HZ.out hb8.size); clear hr8 hb8 hcs)
                go_loopw [18] (fun i wj => ∃ k : Nat, k ≤ m ∧ i = .int .i64 k ∧ Hid (CntAt wj nB (vis A2 j ++ l.take k)) ∧ Hid (RowR wj nB a8 l) ∧ Hid (Below nB wc wj) ∧ Hid (nB < wj.heap.size)) (fun i _ => m - (intOf i).toNat)
                case atStart => exact ⟨0, Nat.zero_le _, rfl, Lib.hid (by simpa using HC8.out), HR8, HB9, HZ9⟩
                clear HC8 HB9 HZ9 HR8 HC HB8 HZ
                case round =>
                  obtain ⟨k, hk, rfl, HC, HR, HB8, HZ⟩ := hrel
                  by_cases hkl : k < m
                  · have hkI : (k : Int) < m := by omega
                    obtain ⟨z, hz⟩ : ∃ z, l[k]? = some z := ⟨l[k]'(by rw [HMM.out]; exact hkl), List.getElem?_eq_getElem _⟩
                    have hzr := HM.out z (List.mem_of_getElem? hz)
                    obtain ⟨d, rfl⟩ : ∃ d : Nat, z = (d : Int) := ⟨z.toNat, by omega⟩
                    obtain ⟨gr, rfl, hgr, hcz⟩ := HR.out.1 (by rw [HMM.out]; omega)
                    have cz := hcz k _ hz
                    have cn := HC.out.1 d (by omega)
                    have fn := HC.out.2 d
                    have hcount : (vis A2 j ++ l.take k).count (d : Int) ≤ 4 + t + 1 := by
                      refine Nat.le_trans List.count_le_length ?_
                      have h1 := HLE.out
                      rw [HV.out, List.length_append] at h1
                      rw [List.length_append, List.length_take]
                      omega
                    have HCN := Lib.hid (HC.out.put (k := d) (by omega))
                    have htk : vis A2 j ++ l.take k ++ [(d : Int)] = vis A2 j ++ l.take (k + 1) := by
                      rw [List.append_assoc, List.take_add_one, hz]; rfl
                    rw [htk] at HCN
                    have HL7 := Lib.hid (low_any (d : Int) 7 · (by omega) (by omega) (by omega))
                    have hlow : lowI (d : Int) 7 = (d : Int) := by unfold lowI; omega
                    rw [hlow] at HL7
                    have HRR := Lib.hid HR.out
                    generalize (vis A2 j ++ l.take k).count (d : Int) = cnt at *
                    have hov : IntKind.i64.wrap ((cnt : Int) + 1) = (cnt : Int) + 1 := IntWalk.i64_in _ (by omega)
                    have hd7 : (d : Int) < 7 := by omega
                    have hd7' : d < 7 := by omega
                    have hgn : nB ≠ gr := by omega
                    have HGN := Lib.hid (And.intro hgr hcz)
                    clear hz hcz htk hlow HC HR hgr
                    go_wp2_with (go_at_call 24; refine (HL7.out _).mono ?_; rintro e wl ⟨rfl, rfl⟩)
                    go_roundw
                    case rel => exact ⟨k + 1, by omega, by go_num, HCN, Lib.hid (HRR.out.put _ _), Lib.hid (HB8.out.setCell (p := ⟨nB, d, none⟩) (Nat.le_refl _) _), Lib.hid (by simpa using HZ.out)⟩
                    case measure => simp [intOf]; omega
                  · obtain rfl : k = m := by omega
                    have hfull : vis A2 j ++ l.take k = vis A2 (j + 1) := by rw [HV.out, ← HMM.out, List.take_length]
                    rw [hfull] at HC
                    clear hfull
                    go_wp2
                    go_roundw
                    case rel => first | exact ⟨j + 1, by omega, by go_num, HC, HB8, HZ⟩ | ((repeat apply Exists.intro); exact ⟨⟨j + 1, by omega, by go_num, HC, HB8, HZ⟩, rfl⟩)
                    case measure => simp [intOf]; omega
              · obtain rfl : j = 4 := by omega
                have hvis := HO2.out.q.vis4
                rw [hvis] at HC
                have hone : ∀ x, (whoA A2).count x ≤ 1 := fun x => count_one x HO2.out.st.once.once
                have HON := Lib.hid hone
                clear hvis hone
                go_wp2
                go_loopw [19] (fun i wj => ∃ k : Nat, k ≤ 7 ∧ i = .int .i64 k ∧ wj = wr) (fun i _ => 7 - (intOf i).toNat)
                case atStart => exact ⟨0, by omega, rfl, rfl⟩
                case round =>
                  obtain ⟨k, hk, rfl, rfl⟩ := hrel
                  by_cases hkl : k < 7
                  · have hkI : (k : Int) < 7 := by omega
                    have cn := HC.out.1 k hkl
                    have h1 := HON.out (k : Int)
                    generalize (whoA A2).count (k : Int) = cnt at *
                    have h1I : ¬ (1 : Int) < (cnt : Int) := by omega
                    have h1J : ¬ (cnt : Int) > 1 := by omega
                    have h1K : ¬ 1 < cnt := by omega
                    go_wp2
                    go_roundw
                    case rel => exact ⟨k + 1, by omega, by go_num, by first | trivial | rfl⟩
                    case measure => simp [intOf]; omega
                  · obtain rfl : k = 7 := by omega
                    go_wp2
                    go_roundw
                    case rel => first | exact ⟨t + 1, A2, by omega, by go_num, Lib.hid ⟨HO2.out.st.call (by rw [← HNB.out]; exact HB8.out), HO2.out.q⟩⟩ | ((repeat apply Exists.intro); exact ⟨⟨t + 1, A2, by omega, by go_num, Lib.hid ⟨HO2.out.st.call (by rw [← HNB.out]; exact HB8.out), HO2.out.q⟩⟩, rfl⟩)
                    case measure => simp [intOf]; omega
        · obtain rfl : t = n := by omega
          go_wp2_with (go_at_call 7; refine (awake22 _).mono ?_; rintro e w3 ⟨rfl, hb3⟩)
          go_ret
          exact ⟨rfl, HO.out.st.bel.trans (hb3.mono HO.out.st.bel.size)⟩
theorem walk_endsOnce {W : World} (q : Option Addr) (n c : Nat) (hx : n ≤ c ∧ c ≤ maxLen ∧ ∃ D, ActsAt W q n D) :
    Calls Try.prog 4 #[.slice q n c] W fun e w' => e = .returned (.bool true) ∧ Below W.heap.size W w' := by
  obtain ⟨h1, h2, D, hD⟩ := hx
  unfold maxLen at h2
  by_cases hn : n ≤ 120
  · exact once_any q n c D W hn hD
  · have hn' : (n : Int) > 120 := by omega
    clear hD
    go_enter Try.func4, Try.ntmps4
    go_wp2_with (go_at_call 7; refine (awake22 _).mono ?_; rintro e w3 ⟨rfl, hb3⟩)
    go_ret
    exact ⟨rfl, hb3⟩
end Go.Proofs.Ytmbjaemflmbljaa
