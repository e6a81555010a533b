/- Chapter 2's own answer: Zero, Words, New; lists written over. -/
import Derived.Test.YtnaiepoaikabgaaMem6
import Derived.Maps.AppendAt
namespace Go.Proofs.Ytnaiepoaikabgaa
set_option linter.unusedVariables false
set_option linter.unusedSimpArgs false
open Go.ChangeShapes Go.WideShapes Go.ChangeAt Go.RowKit Go.Shelf

theorem rzero_ok (w : World) (b g n c f l0 : Nat) (m : Nat → Int) (h : RefAt w b g n c m) (hf : f < n) (hfl : f + l0 ≤ n) :
    Calls Try.prog 16 #[.pointer (some ⟨b, 0, none⟩), .int .i64 f, .int .i64 l0] w fun e w' => e = .returned (.int .i64 0) ∧ RefAt w' b g n c (zeroW m (8 * f) (8 * l0)) ∧ BlkOnly g w w' := by
  have H := Lib.hid h
  have hn := h.n64
  have i1 : (f : Int) < n := by omega
  have i2 : (l0 : Int) ≤ n - f := by omega
  have i3 : (l0 : Int) ≤ 64 := by omega
  have i4 : (n : Int) ≤ 64 := by omega
  clear h
  go_enter Try.func16, Try.ntmps16
  go_wp2_with (first
    | (go_at_call 29; refine (rframes_any _ b g n c m H.out).mono ?_; rintro e w1 ⟨rfl, rfl⟩))
  go_loopw [7] (fun i wr => ∃ k : Nat, k ≤ 8 * l0 ∧ i = .int .i64 (8 * (f : Int) + k) ∧ Hid (RefAt wr b g n c (zeroW m (8 * f) k)) ∧ BlkOnly g w wr) (fun i _ => 8 * (f + l0) - (intOf i).toNat)
  case atStart => exact ⟨0, by omega, by simp, Lib.hid (by
    have e : zeroW m (8 * f) 0 = m := by funext j; unfold zeroW; rw [if_neg (by omega)]
    rw [e]; exact H.out), BlkOnly.refl _ _⟩
  case round =>
    obtain ⟨k, hk, rfl, HR, hB⟩ := hrel
    have hd := HR.out.hd
    have hcap := HR.out.cap
    by_cases hlt : k < 8 * l0
    · have c0 := HR.out.cells (8 * f + k) (by omega)
      have f0 := HR.out.free (8 * f + k)
      obtain ⟨q, hq⟩ : ∃ q : Int, 8 * (f : Int) + k = q := ⟨_, rfl⟩
      rw [hq]
      have q0 : 0 ≤ q := by omega
      have q1 : q < 8 * ((f : Int) + l0) := by omega
      have q2 : q < ((8 * n : Nat) : Int) := by omega
      have q3 : q < 8 * (n : Int) := by omega
      have q4 : q.toNat = 8 * f + k := by omega
      have e : updM (zeroW m (8 * f) k) (8 * f + k) 0 = zeroW m (8 * f) (k + 1) := by
        funext j
        unfold updM zeroW
        by_cases c1 : j = 8 * f + k
        · rw [if_pos c1, if_pos (by omega)]
        · rw [if_neg c1]
          by_cases c2 : 8 * f ≤ j ∧ j < 8 * f + k
          · rw [if_pos c2, if_pos (by omega)]
          · rw [if_neg c2, if_neg (by omega)]
      have HE := Lib.hid e
      have HQ := Lib.hid hq
      clear e hq
      go_wp2
      go_roundw
      case rel => exact ⟨k + 1, by omega, (by have := HQ.out; exact congrArg (Value.int .i64) (by omega)), Lib.hid (by rw [← HE.out]; exact ref_set HR.out (by omega) ⟨by decide, by decide⟩), hB.trans ((BlkOnly.refl _ _).set _ _)⟩
      case measure => have := HQ.out; simp [intOf]; omega
    · obtain rfl : k = 8 * l0 := by omega
      have q1 : ¬ 8 * (f : Int) + ((8 * l0 : Nat) : Int) < 8 * ((f : Int) + l0) := by omega
      obtain ⟨q, hq⟩ : ∃ q : Int, 8 * (f : Int) + ((8 * l0 : Nat) : Int) = q := ⟨_, rfl⟩
      rw [hq] at q1 ⊢
      clear hq
      go_wp2
      go_ret
      exact ⟨rfl, HR.out, hB⟩
theorem rzero_bad (w : World) (b g n c : Nat) (f l : Int) (m : Nat → Int) (h : RefAt w b g n c m) (hbad : ¬ (0 ≤ f ∧ f < n ∧ 0 ≤ l ∧ l ≤ n - f)) :
    Calls Try.prog 16 #[.pointer (some ⟨b, 0, none⟩), .int .i64 f, .int .i64 l] w fun e w' => e = .returned (.int .i64 3) ∧ w = w' := by
  have H := Lib.hid h
  have hn := h.n64
  have i4 : (n : Int) ≤ 64 := by omega
  clear h
  by_cases h0 : 0 ≤ f
  · by_cases h1 : f < n
    · by_cases h2 : l < 0
      · clear hbad
        go_enter Try.func16, Try.ntmps16
        go_wp2_with (first
          | (go_at_call 29; refine (rframes_any _ b g n c m H.out).mono ?_; rintro e w1 ⟨rfl, rfl⟩))
        go_ret
        exact ⟨rfl, rfl⟩
      · have h3 : (n : Int) - f < l := by omega
        clear hbad
        go_enter Try.func16, Try.ntmps16
        go_wp2_with (first
          | (go_at_call 29; refine (rframes_any _ b g n c m H.out).mono ?_; rintro e w1 ⟨rfl, rfl⟩))
        go_ret
        exact ⟨rfl, rfl⟩
    · clear hbad
      go_enter Try.func16, Try.ntmps16
      go_wp2_with (first
        | (go_at_call 29; refine (rframes_any _ b g n c m H.out).mono ?_; rintro e w1 ⟨rfl, rfl⟩))
      go_ret
      exact ⟨rfl, rfl⟩
  · clear hbad
    go_enter Try.func16, Try.ntmps16
    go_wp2_with (first
      | (go_at_call 29; refine (rframes_any _ b g n c m H.out).mono ?_; rintro e w1 ⟨rfl, rfl⟩))
    go_ret
    exact ⟨rfl, rfl⟩
theorem rwords_bad (w : World) (b g n c : Nat) (f : Int) (m : Nat → Int) (h : RefAt w b g n c m) (hf : ¬ (0 ≤ f ∧ f < n)) :
    Calls Try.prog 18 #[.pointer (some ⟨b, 0, none⟩), .int .i64 f] w fun e w' => e = .returned (.tuple #[.slice none 0 0, .int .i64 3]) ∧ w = w' := by
  have H := Lib.hid h
  clear h
  by_cases h0 : 0 ≤ f
  · have h1 : ¬ f < n := fun e => hf ⟨h0, e⟩
    clear hf
    go_enter Try.func18, Try.ntmps18
    go_wp2_with (first
      | (go_at_call 29; refine (rframes_any _ b g n c m H.out).mono ?_; rintro e w1 ⟨rfl, rfl⟩))
    refine bodyPost_ret (v := .tuple #[.slice none 0 0, .int .i64 3]) (by simp [results, Try.results18, go_sem]) rfl ⟨rfl, rfl⟩
  · clear hf
    go_enter Try.func18, Try.ntmps18
    go_wp2_with (first
      | (go_at_call 29; refine (rframes_any _ b g n c m H.out).mono ?_; rintro e w1 ⟨rfl, rfl⟩))
    refine bodyPost_ret (v := .tuple #[.slice none 0 0, .int .i64 3]) (by simp [results, Try.results18, go_sem]) rfl ⟨rfl, rfl⟩
theorem rwords_ok (w : World) (b g n c f : Nat) (m : Nat → Int) (h : RefAt w b g n c m) (hf : f < n) :
    Calls Try.prog 18 #[.pointer (some ⟨b, 0, none⟩), .int .i64 f] w fun e w' => ∃ v, e = .returned (.tuple #[v, .int .i64 0]) ∧ w'.ownsRow w.heap.size 32 1 v 8 (wordsL m (8 * f) 8) ∧ Below w.heap.size w w' := by
  obtain ⟨i0, hi, hz0, hz1, hz2⟩ := info_parts infoW
  have HI := Lib.hid hi
  have H := Lib.hid h
  have hd := h.hd
  have hn := h.n64
  have hcap := h.cap
  have hcm := h.capm
  unfold maxLen at hcm
  have i1 : (f : Int) < n := by omega
  have i4 : (n : Int) ≤ 64 := by omega
  have q1 : (8 * (f : Int)).toNat = 8 * f := by omega
  have q2 : (8 * (f : Int) + 8).toNat = 8 * f + 8 := by omega
  have q3 : 8 * (f : Int) + 8 ≤ c := by omega
  have hcs : ∀ j u, (wordsL m (8 * f) 8)[j]? = some u → w.cell? ⟨g, 8 * f + j, none⟩ = some u := fun j u hj => by
    obtain ⟨a, rfl⟩ := wordsL_get _ _ _ _ _ hj
    exact h.cells _ (by omega)
  have HC := Lib.hid hcs
  clear h hcs hi
  go_enter Try.func18, Try.ntmps18
  go_wp2_with (first
    | (go_at_call 29; refine (rframes_any _ b g n c m H.out).mono ?_; rintro e w1 ⟨rfl, rfl⟩)
    | (at_builtin; refine wpList_append_own _ rfl _ _ 43 rfl w.heap.size 32 i0 (.int .u64 0) 1 8 Try.underlying43 HI.out hz0 hz1 hz2 rfl (by decide) _ 0 [] rfl (World.ownsRow_nil _ _ _ _) ⟨g, 8 * f, none⟩ 8 (c - 8 * f) (wordsL m (8 * f) 8) rfl (by rw [wordsL_len]) (add_from HC.out) (wordsL_one _ _ _) (by unfold maxLen; omega) (by omega) (by simp) ?_; intro v' w1 hown' hgrow _))
  refine bodyPost_ret (v := .tuple #[v', .int .i64 0]) (by simp [results, Try.results18, go_sem]) rfl ⟨v', rfl, by simpa using hown', (Below.refl _ _).grown hgrow (Nat.le_refl _) (fun j ej => by cases (show (none : Option Nat) = some j from ej))⟩
/-- What a call leaves of one block, and no other. -/
theorem grown_cell (w : World) (g i : Nat) (u : Value) : w.grownBy (w.setCell ⟨g, i, none⟩ u) (some g) :=
  ⟨rfl, rfl, rfl, by simp, fun k _ hk => Go.heap_setCell_other _ _ _ _ (fun e => hk (by rw [e]))⟩
theorem grown_trans {a b c : World} {r : Option Nat} (h : a.grownBy b r) (k : b.grownBy c r) : a.grownBy c r :=
  ⟨k.os.trans h.os, k.tape.trans h.tape, k.output.trans h.output, Nat.le_trans h.size k.size, fun j h1 h2 => (k.block j (Nat.lt_of_lt_of_le h1 h.size) h2).trans (h.block j h1 h2)⟩
theorem BlkOnly.of_grown {g : Nat} {w w' : World} (h : w.grownBy w' (some g)) : BlkOnly g w w' := ⟨h.os, h.tape, h.output, h.size, fun k hk hn => h.block k hk (fun e => hn (by cases e; rfl))⟩
theorem over_any (w : World) (B : Nat) (v : Value) (n : Nat) (xs : List Value) (hr : w.ownsRow B 32 1 v n xs) (h0 : 0 < n) (h8 : n ≤ 8) :
    Calls Try.prog 20 #[v] w fun e w' => (∃ u, e = .returned u) ∧ ∃ g, B ≤ g ∧ BlkOnly g w w' := by
  obtain ⟨hl, h | ⟨g, cap, cur, rfl, hg, hb, hn, hm, hcur, h4⟩⟩ := hr
  · omega
  obtain ⟨i0, hi, hz0, hz1, hz2⟩ := info_parts infoW
  have HI := Lib.hid hi
  have hcur' : cur.size = cap := by omega
  clear hcur hi
  go_enter Try.func20, Try.ntmps20
  go_wp2
  go_loopw [2] (fun i wr => ∃ (k : Nat) (cs : Array Value), k ≤ n ∧ i = .int .i64 k ∧ wr.heap[g]? = some (.cells cs 32 (0, 0)) ∧ cs.size = cap ∧ w.grownBy wr (some g)) (fun i _ => n - (intOf i).toNat)
  case atStart => exact ⟨0, cur, by omega, rfl, hb, hcur', ⟨rfl, rfl, rfl, Nat.le_refl _, fun _ _ _ => rfl⟩⟩
  case round =>
    obtain ⟨k, cs, hk, rfl, hB, hcs, hgr⟩ := hrel
    clear hb
    by_cases hlt : k < n
    · have ck : wr.cell? ⟨g, k, none⟩ = some (cs[k]'(by omega)) := by
        rw [cell_of_row _ g k _ _ _ hB]; exact Array.getElem?_eq_getElem (by omega)
      have fk : wr.frozen? ⟨g, k, none⟩ = false := by simp [World.frozen?, hB]
      have HB := Lib.hid hB; clear hB
      generalize cs[k]'(by omega) = x at ck
      go_wp2
      go_roundw
      case rel => exact ⟨k + 1, _, by omega, by go_num, Go.heap_setCell_same _ _ _ _ _ _ HB.out, by simp [hcs], grown_trans hgr (grown_cell _ _ _ _)⟩
      case measure => simp [intOf]; omega
    · obtain rfl : k = n := by omega
      have hown : wr.ownsRow 0 32 1 (.slice (some ⟨g, 0, none⟩) k cap) k (cs.toList.take k) := ⟨by simp; omega, .inr ⟨g, cap, cs, rfl, Nat.zero_le _, hB, hn, hm, by omega, by simp⟩⟩
      go_wp2_with (at_builtin; refine wpList_append_own _ rfl _ _ 43 rfl 0 32 i0 (.int .u64 0) 1 8 Try.underlying43 HI.out hz0 hz1 hz2 rfl (by decide) _ _ _ rfl (hown.alloc _) ⟨wr.heap.size, 0, none⟩ 1 1 [.int .u64 3735928559] rfl rfl (cell_one_new _ _ _) (by simp [Value.oneCell']) (by unfold maxLen; omega) (by omega) (by omega) ?_; intro v' w1 hown' hgrow _)
      go_end0
      exact ⟨⟨_, rfl⟩, g, hg, BlkOnly.of_grown (grown_trans (grown_trans hgr (World.grownBy_alloc wr _ _)) hgrow)⟩
theorem over_nil (w : World) : Calls Try.prog 20 #[.slice none 0 0] w fun e w' => (∃ v, e = .returned v) ∧ Below w.heap.size w w' := by
  obtain ⟨i0, hi, hz0, hz1, hz2⟩ := info_parts infoW
  have HI := Lib.hid hi
  clear hi
  go_enter Try.func20, Try.ntmps20
  go_wp2
  refine wp_loop_rounds 1 ?_
  rw [rounds_succ]
  go_wp2_with (at_builtin; refine wpList_append_own _ rfl _ _ 43 rfl w.heap.size 32 i0 (.int .u64 0) 1 8 Try.underlying43 HI.out hz0 hz1 hz2 rfl (by decide) _ _ _ rfl ((World.ownsRow_nil w w.heap.size 32 1).alloc _) ⟨w.heap.size, 0, none⟩ 1 1 [.int .u64 3735928559] rfl rfl (cell_one_new _ _ _) (by simp [Value.oneCell']) (by unfold maxLen; omega) (by omega) (by simp) ?_; intro v' w1 hown' hgrow _)
  go_end0
  exact ⟨⟨_, rfl⟩, (bal (Below.refl _ _) _).grown hgrow (by simp) (fun j ej => by cases (show (none : Option Nat) = some j from ej))⟩
theorem same_nil (w : World) : Calls Try.prog 19 #[.slice none 0 0, .slice none 0 0] w fun e w' => e = .returned (.bool true) ∧ w = w' := by
  go_enter Try.func19, Try.ntmps19
  go_wp2
  refine wp_loop_rounds 1 ?_
  rw [rounds_succ]
  go_wp2
  go_ret
  exact ⟨rfl, rfl⟩
theorem rnew_bad (w : World) (n : Int) (h : n < 1 ∨ 64 < n) :
    Calls Try.prog 9 #[.int .i64 n] w fun e w' => e = .returned (.tuple #[.pointer none, .int .i64 3]) ∧ w = w' := by
  have hd : (decide (n < 1) || decide (64 < n)) = true := by simp; omega
  go_enter Try.func9, Try.ntmps9
  go_wp2
  all_goals go_ret2
  all_goals exact ⟨rfl, rfl⟩
theorem zeros_one (n : Nat) : (madeCells (Value.int .u64 0).cells (8 * n * 1)).toList = wordsL (fun _ => 0) 0 (8 * n) := by
  apply List.ext_getElem?
  intro j
  by_cases hj : j < 8 * n * 1
  · rw [wordsL_at _ _ _ _ (by omega), Array.getElem?_toList]
    unfold madeCells
    rw [Array.getElem?_map, Array.getElem?_range, if_pos hj]
    simp only [Option.map_some, Option.some.injEq]
    have h : ∀ k, k < 1 → (Value.int .u64 0).cells[k]! = .int .u64 0 := by
      intro k hk
      obtain rfl : k = 0 := by omega
      rfl
    exact h _ (Nat.mod_lt _ (by decide))
  · rw [List.getElem?_eq_none (by simp [size_madeCells]; omega), List.getElem?_eq_none (by simp [wordsL_len]; omega)]
theorem ref_new {w w1 : World} {n : Nat} {v : Value} {m : Nat → Int} {B : Nat} (hr : w1.ownsRow B 32 1 v (8 * n) (wordsL m 0 (8 * n))) (n1 : 1 ≤ n) (n64 : n ≤ 64) (hw : ∀ k, WordI (m k)) :
    ∃ g c, v = .slice (some ⟨g, 0, none⟩) (8 * n) c ∧ B ≤ g ∧ g < w1.heap.size ∧ RefAt (w1.alloc (.cells #[.slice (some ⟨g, 0, none⟩) (8 * n) c] 61)) w1.heap.size g n c m := by
  obtain ⟨g, c, rfl, hc, hm, hB, hg, hf, hcs⟩ := own_form hr (by omega)
  have hb : Below w1.heap.size w1 (w1.alloc (.cells #[.slice (some ⟨g, 0, none⟩) (8 * n) c] 61)) := bal (Below.refl _ _) _
  refine ⟨g, c, rfl, hB, hg, by simp, fun k hk => ?_, fun k => (hb.frozen (p := ⟨g, k, none⟩) hg).trans (hf k), hw, n1, n64, hc, hm, by omega, by simp, by simp; omega⟩
  refine (hb.cell (p := ⟨g, k, none⟩) hg).trans (hcs k _ ?_)
  rw [wordsL_at _ _ _ _ hk, Nat.zero_add]
theorem rnew_ok (w : World) (n : Nat) (h1 : 1 ≤ n) (h64 : n ≤ 64) :
    Calls Try.prog 9 #[.int .i64 n] w fun e w' => ∃ b g c, e = .returned (.tuple #[.pointer (some ⟨b, 0, none⟩), .int .i64 0]) ∧ RefAt w' b g n c (fun _ => 0) ∧ w.heap.size ≤ b ∧ w.heap.size ≤ g ∧ Below w.heap.size w w' := by
  obtain ⟨i0, hi, hz0, hz1, hz2⟩ := info_parts infoW
  obtain ⟨w1, hrun, hown, hgr⟩ := run_make_full (P := Try.prog) w w.heap.size 43 32 i0 _ 1 Try.underlying43 hi hz0 hz1 .i64 .i64 (8 * n) (by rw [hz2]; omega) (by unfold maxLen; omega) (Nat.le_refl _)
  rw [zeros_one] at hown
  obtain ⟨g, c, hv, hg1, hg2, hma⟩ := ref_new (w := w) hown h1 h64 (fun _ => ⟨by decide, by decide⟩)
  simp only [Value.slice.injEq, Option.some.injEq, Addr.mk.injEq, and_true, true_and] at hv
  obtain ⟨rfl, rfl⟩ := hv
  have hrun2 : (Instr.makeSlice 43 (.int .i64 (8 * (n : Int))) (.int .i64 (8 * (n : Int)))).run Try.prog w = .ok (.slice (some ⟨w.heap.size, 0, none⟩) (8 * n) (8 * n)) w1 := by
    have e : ((8 * n : Nat) : Int) = 8 * (n : Int) := by omega
    rw [← e]; exact hrun
  have i64 : (n : Int) ≤ 64 := by omega
  have i1 : ¬ (n : Int) < 1 := by omega
  have HMA := Lib.hid hma
  have HGR := Lib.hid hgr
  clear hma hgr hown hi hz0 hz1 hz2 hrun
  go_enter Try.func9, Try.ntmps9
  go_wp2
  go_ret2
  have hgs := HGR.out.size
  have hbb : Below w.heap.size w (w1.alloc (.cells #[.slice (some ⟨w.heap.size, 0, none⟩) (8 * n) (8 * n)] 61)) := ((Below.refl _ _).grown HGR.out (Nat.le_refl _) (fun j e => by cases e)).alloc HGR.out.size _
  exact ⟨_, rfl, _, ⟨_, HMA.out⟩, by omega, Nat.le_refl _, hbb⟩
theorem alike_any (w : World) (b g n c rb rg rc : Nat) (m : Nat → Int) (h : MemAt w b g n c m) (hr : RefAt w rb rg n rc m) :
    Calls Try.prog 22 #[.pointer (some ⟨b, 0, none⟩), .pointer (some ⟨rb, 0, none⟩)] w fun e w' => e = .returned (.bool true) ∧ Below w.heap.size w w' := by
  have H := Lib.hid h
  have HR := Lib.hid hr
  have hn := h.n64
  clear h hr
  go_enter Try.func22, Try.ntmps22
  go_wp2_with (first
    | (go_at_call 24; refine (frames_any _ b g n c m H.out).mono ?_; rintro e w1 ⟨rfl, rfl⟩)
    | (go_at_call 29; refine (rframes_any _ rb rg n rc m HR.out).mono ?_; rintro e w1 ⟨rfl, rfl⟩))
  go_loopw [5] (fun i wr => ∃ k : Nat, k ≤ n ∧ i = .int .i64 k ∧ Hid (MemAt wr b g n c m) ∧ Hid (RefAt wr rb rg n rc m) ∧ Below w.heap.size w wr) (fun i _ => n - (intOf i).toNat)
  case atStart => exact ⟨0, by omega, rfl, H, HR, Below.refl _ _⟩
  case round =>
    obtain ⟨f, hf, rfl, HM, HF, hB⟩ := hrel
    clear H HR
    by_cases hlf : f < n
    · have hlf' : (f : Int) < n := by omega
      go_wp2_with (first
        | (go_at_call 29; refine (rframes_any _ rb rg n rc m HF.out).mono ?_; rintro e w1 ⟨rfl, rfl⟩))
      refine (words_ok _ b g n c f m HM.out hlf).mono ?_
      rintro e w5 ⟨v5, rfl, hr5, hw5⟩
      obtain ⟨q5, z5, rfl, -, -, -, l5, -, x5⟩ := own_form hr5 (by decide)
      have X5 := Lib.hid x5
      have HF5 := Lib.hid (HF.out.call hw5)
      have HM5 := Lib.hid (HM.out.call hw5)
      clear hr5 x5
      go_wp2_with (fail)
      refine (rwords_ok _ rb rg n rc f m HF5.out hlf).mono ?_
      rintro e w6 ⟨v6, rfl, hr6, hw6⟩
      obtain ⟨q6, z6, rfl, -, -, -, l6, -, x6⟩ := own_form hr6 (by decide)
      have X6 := Lib.hid x6
      have HF6 := Lib.hid (HF5.out.call hw6)
      have HM6 := Lib.hid (HM5.out.call hw6)
      have hB6 : Below w.heap.size w w6 := bgo (bgo hB hw5) hw6
      clear hr6 x6 HF5 HM5
      have hs : Calls Try.prog 19 #[.slice (some ⟨q5, 0, none⟩) 8 z5, .slice (some ⟨q6, 0, none⟩) 8 z6] w6 fun e w' => e = .returned (.bool true) ∧ Below w6.heap.size w6 w' :=
        same_any w6 q5 q6 8 z5 z6 (fun j => m (8 * f + j)) (by decide) (fun j hj => (hw6.cell (p := ⟨q5, j, none⟩) l5).trans (X5.out j _ (wordsL_at _ _ _ _ hj))) (fun j hj => X6.out j _ (wordsL_at _ _ _ _ hj))
      have HS := Lib.hid hs
      clear hs
      go_wp2_with (first
        | (go_at_call 19; refine HS.out.mono ?_; rintro e w7 ⟨rfl, hw7⟩))
      go_roundw
      case rel => exact ⟨f + 1, by omega, by go_num, Lib.hid (HM6.out.call hw7), Lib.hid (HF6.out.call hw7), bgo hB6 hw7⟩
      case measure => simp [intOf]; omega
    · obtain rfl : f = n := by omega
      go_wp2_with (first
        | (go_at_call 29; refine (rframes_any _ rb rg f rc m HF.out).mono ?_; rintro e w1 ⟨rfl, rfl⟩))
      go_ret
      exact ⟨rfl, hB⟩
end Go.Proofs.Ytnaiepoaikabgaa
