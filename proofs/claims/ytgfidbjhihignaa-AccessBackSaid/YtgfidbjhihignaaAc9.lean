/- Chapter 8's statements: a copy of the memory; any access; AccessFaults. -/
import Derived.Test.YtgfidbjhihignaaAc8
import Derived.Deep.MidRow
import Derived.Lib.SliceRun
namespace Go.Proofs.Ytgfidbjhihignaa
set_option linter.unusedVariables false
set_option linter.unusedSimpArgs false
open Go.ChangeShapes Go.WideShapes Go.ChangeAt Go.RowKit Go.Shelf

attribute [local go_sem] Oper.semAt_some
theorem clone_f (w : World) (g n c : Nat) (xs : List Value) (hl : xs.length = n * 8) (hn : 0 < n) (hm : n ≤ 64) (hg : g < w.heap.size) (hc : ∀ j u, xs[j]? = some u → w.cell? ⟨g, 0 + j, none⟩ = some u) (h1 : ∀ u ∈ xs, u.oneCell' = true) :
    Calls Try.prog 37 #[.slice (some ⟨g, 0, none⟩) n c] w fun e w' => ∃ v, e = .returned v ∧ w'.ownsRow w.heap.size 95 8 v n xs ∧ Below w.heap.size w w' := by
  obtain ⟨i0, hi, hz0, hz1, hz2⟩ := info_parts infoFr
  have HI := Lib.hid hi
  have H1 := Lib.hid h1
  have HL := Lib.hid hl
  have hk : ∀ ob, ∀ j u, xs[j]? = some u → (w.alloc ob).cell? ⟨g, 0 + j, none⟩ = some u := fun ob j u hj => ((bal (Below.refl _ _) ob).cell (p := ⟨g, 0 + j, none⟩) hg).trans (hc j u hj)
  have HK := Lib.hid hk
  clear hi hc h1 hl hk
  have hq := fun w => Go.Lib.run_eql_slice_nil (P := Try.prog) w 92 95 (some ⟨g, 0, none⟩) n c 0 0 Try.underlying92
  go_enter Try.func37, Try.ntmps37
  go_wp2_with (at_builtin; refine wpList_append_own _ rfl _ _ 92 rfl w.heap.size 95 i0 _ 8 64 Try.underlying92 HI.out hz0 hz1 hz2 rfl (by decide) _ 0 [] rfl (World.ownsRow_made w #[] 0 (Nat.le_refl _) (by unfold maxLen; omega) rfl) ⟨g, 0, none⟩ n c xs rfl (by rw [HL.out]) (add_from (HK.out _)) H1.out (by unfold maxLen; omega) (by omega) (by simp) ?_; intro v' w1 hown' hgrow _)
  go_ret
  refine ⟨v', rfl, by simpa using hown', (bal (Below.refl _ _) _).grown hgrow (by simp) (fun jj ej => ?_)⟩
  simp [Value.ownBlock, go_sem] at ej
  omega
theorem copy_any (w : World) (b g n c : Nat) (m : Nat → Int) (h : MemAt w b g n c m) :
    Calls Try.prog 19 #[.pointer (some ⟨b, 0, none⟩)] w fun e w' => ∃ b' g' c', e = .returned (.pointer (some ⟨b', 0, none⟩)) ∧ MemAt w' b' g' n c' m ∧ w.heap.size ≤ b' ∧ w.heap.size ≤ g' ∧ Below w.heap.size w w' := by
  have H := Lib.hid h
  have hd := h.hd
  have hcl := clone_f w g n c (wordsL m 0 (8 * n)) (by rw [wordsL_len]; omega) h.n1 h.n64 h.lg (fun j u hj => by
    obtain ⟨a, rfl⟩ := wordsL_get _ _ _ _ _ hj
    rw [Nat.zero_add]
    exact h.cells _ (by omega)) (wordsL_one _ _ _)
  have HCL := Lib.hid hcl
  have hn1 := h.n1
  have hn2 := h.n64
  have HW := Lib.hid h.word
  clear h hcl
  go_enter Try.func19, Try.ntmps19
  go_wp2_with (first
    | (go_at_call 37; refine HCL.out.mono ?_; rintro e w2 ⟨v, rfl, hr, hb⟩; obtain ⟨g', c', rfl, hg1, hg2, hma⟩ := mem_new (w := w) hr hn1 hn2 HW.out; have HMA := Lib.hid hma; clear hma hr))
  go_ret
  have hbs := hb.size
  first | exact ⟨_, g', c', rfl, HMA.out, by omega, hg1, hb.alloc hb.size _⟩ | exact ⟨g', ⟨c', HMA.out⟩, by omega, hg1, hb.alloc hb.size _⟩ | exact ⟨g', c', HMA.out, by omega, hg1, hb.alloc hb.size _⟩
/-- What an access does, at any core and address. -/
def AccC (W w w' : World) (b g : Nat) (T : Nat → Nat) (mb mg mc : Nat) (M : Nat → Int) (va : Int) (wr : Bool) (kd : Int) (M' : Nat → Int) : Prop :=
  (∃ S', Rdy W w' b g T mb mg mc S' M') ∧ KeepO w.heap.size T mg w w' ∧ (kd = 0 → va < 32768 ∧ va % 8 = 0) ∧ (M' = M ∨ (kd = 0 ∧ wr = true ∧ ∃ i x, M' = updM M i x))
theorem loc_far (w : World) (c m : Option Addr) (k va : Int) (wr : Bool) (h : ¬ va < 32768) : LocC w c m k va wr 0 1 va wr (fun a d => Below a.heap.size a d) :=
  fun w1 hb => locate_range w1 c m k va wr (by omega)
theorem loc_odd (w : World) (c m : Option Addr) (k va : Int) (wr : Bool) (h0 : 0 ≤ va) (h : va < 32768) (h1 : ¬ va % 8 = 0) : LocC w c m k va wr 0 2 va wr (fun a d => Below a.heap.size a d) :=
  fun w1 hb => locate_align w1 c m k va wr h0 h h1
theorem loc_out (w : World) (b g : Nat) (T : Nat → Nat) (S : Nat → TS) (R Q : Nat → Int) (m : Addr) (k va : Int) (wr : Bool) (h : CoresAt w b g 2 2 R Q T S) (hk : ¬ (0 ≤ k ∧ k < 2)) (h0 : 0 ≤ va) (h1 : va < 32768) (ha : va % 8 = 0) : LocC w (some ⟨b, 0, none⟩) (some m) k va wr 0 3 va wr (fun a d => Below a.heap.size a d) :=
  fun w1 hb => locate_space w1 _ m k va wr h0 h1 ha (fun w2 hb2 => walks_bad w2 b g 2 2 k R Q T S m ((h.call hb).call hb2) (by omega))
theorem Rdy.bad {W w w' : World} {b g : Nat} {T : Nat → Nat} {mb mg mc : Nat} {S : Nat → TS} {M : Nat → Int} (h : Rdy W w b g T mb mg mc S M) (va kd : Int) (wr : Bool) (hk : ¬ kd = 0) (k : Below w.heap.size w w') : AccC W w w' b g T mb mg mc M va wr kd M :=
  ⟨⟨S, h.call k⟩, KeepO.of_below k, fun e => absurd e hk, .inl rfl⟩
theorem acc_load (W w : World) (b g : Nat) (T : Nat → Nat) (mb mg mc : Nat) (S : Nat → TS) (M : Nat → Int) (k va : Int) (h : Rdy W w b g T mb mg mc S M) (h0 : 0 ≤ va) (h1 : va ≤ 18446744073709551615) :
    Calls Try.prog 16 #[.pointer (some ⟨b, 0, none⟩), .pointer (some ⟨mb, 0, none⟩), .int .i64 k, .int .u64 va] w fun e w' => ∃ kd x, e = .returned (.tuple #[.int .u64 x, fV kd va false]) ∧ AccC W w w' b g T mb mg mc M va false kd M := by
  have hz : 0 < w.heap.size := Nat.lt_of_le_of_lt (Nat.zero_le _) h.me.lg
  by_cases c1 : va < 32768
  · by_cases c2 : va % 8 = 0
    · by_cases c3 : 0 ≤ k ∧ k < 2
      · obtain ⟨j, rfl⟩ : ∃ j : Nat, k = (j : Int) := ⟨k.toNat, by omega⟩
        refine (load_rdy W w b g T mb mg mc j S M va h (by omega) h0 c1 c2).mono ?_
        rintro e w' ⟨rfl, hr, hk⟩
        exact ⟨_, _, rfl, ⟨_, hr⟩, hk, fun _ => ⟨c1, c2⟩, .inl rfl⟩
      · refine (aload_bad w _ _ k va 3 hz (by decide) (loc_out w b g T S _ _ _ k va false h.co c3 h0 c1 c2)).mono ?_
        rintro e w' ⟨rfl, hb⟩
        exact ⟨3, 0, rfl, h.bad va 3 false (by decide) hb⟩
    · refine (aload_bad w _ _ k va 2 hz (by decide) (loc_odd w _ _ k va false h0 c1 c2)).mono ?_
      rintro e w' ⟨rfl, hb⟩
      exact ⟨2, 0, rfl, h.bad va 2 false (by decide) hb⟩
  · refine (aload_bad w _ _ k va 1 hz (by decide) (loc_far w _ _ k va false c1)).mono ?_
    rintro e w' ⟨rfl, hb⟩
    exact ⟨1, 0, rfl, h.bad va 1 false (by decide) hb⟩
theorem acc_store (W w : World) (b g : Nat) (T : Nat → Nat) (mb mg mc : Nat) (S : Nat → TS) (M : Nat → Int) (k va v : Int) (h : Rdy W w b g T mb mg mc S M) (h0 : 0 ≤ va) (h1 : va ≤ 18446744073709551615) (hv : WordI v) :
    Calls Try.prog 14 #[.pointer (some ⟨b, 0, none⟩), .pointer (some ⟨mb, 0, none⟩), .int .i64 k, .int .u64 va, .int .u64 v] w fun e w' => ∃ kd M', e = .returned (fV kd va true) ∧ AccC W w w' b g T mb mg mc M va true kd M' := by
  have hz : 0 < w.heap.size := Nat.lt_of_le_of_lt (Nat.zero_le _) h.me.lg
  by_cases c1 : va < 32768
  · by_cases c2 : va % 8 = 0
    · by_cases c3 : 0 ≤ k ∧ k < 2
      · obtain ⟨j, rfl⟩ : ∃ j : Nat, k = (j : Int) := ⟨k.toNat, by omega⟩
        refine (store_rdy W w b g T mb mg mc j S M va v h (by omega) h0 c1 c2 hv).mono ?_
        rintro e w' ⟨rfl, hr, hk⟩
        refine ⟨_, _, rfl, ⟨_, hr⟩, hk, fun _ => ⟨c1, c2⟩, ?_⟩
        by_cases c4 : accK (zR S M j va).1 true = 0
        · rw [if_pos c4]; exact .inr ⟨c4, rfl, _, _, rfl⟩
        · rw [if_neg c4]; exact .inl rfl
      · refine (astore_bad w _ _ k va v 3 hz (by decide) (loc_out w b g T S _ _ _ k va true h.co c3 h0 c1 c2)).mono ?_
        rintro e w' ⟨rfl, hb⟩
        exact ⟨3, M, rfl, h.bad va 3 true (by decide) hb⟩
    · refine (astore_bad w _ _ k va v 2 hz (by decide) (loc_odd w _ _ k va true h0 c1 c2)).mono ?_
      rintro e w' ⟨rfl, hb⟩
      exact ⟨2, M, rfl, h.bad va 2 true (by decide) hb⟩
  · refine (astore_bad w _ _ k va v 1 hz (by decide) (loc_far w _ _ k va true c1)).mono ?_
    rintro e w' ⟨rfl, hb⟩
    exact ⟨1, M, rfl, h.bad va 1 true (by decide) hb⟩
/-- How many of the first k words differ. -/
def cntD (M M' : Nat → Int) : Nat → Nat
  | 0 => 0
  | k + 1 => cntD M M' k + (if M k = M' k then 0 else 1)
theorem cntD_same (M : Nat → Int) (k : Nat) : cntD M M k = 0 := by
  induction k with
  | zero => rfl
  | succ k ih => show cntD M M k + _ = 0; rw [ih, if_pos rfl]
theorem cntD_upd (M : Nat → Int) (i : Nat) (x : Int) (k : Nat) : cntD M (updM M i x) k ≤ if i < k then 1 else 0 := by
  induction k with
  | zero => exact Nat.zero_le _
  | succ k ih =>
    show cntD M (updM M i x) k + _ ≤ _
    by_cases h : k = i
    · subst h
      rw [if_neg (Nat.lt_irrefl _)] at ih
      rw [if_pos (Nat.lt_succ_self _)]
      split <;> omega
    · have e : updM M i x k = M k := by unfold updM; rw [if_neg h]
      rw [e, if_pos rfl]
      by_cases h2 : i < k
      · rw [if_pos h2] at ih; rw [if_pos (by omega)]; omega
      · rw [if_neg h2] at ih; rw [if_neg (by omega)]; omega
theorem AccC.cnt {W w w' : World} {b g : Nat} {T : Nat → Nat} {mb mg mc : Nat} {M M' : Nat → Int} {va kd : Int} {wr : Bool} (h : AccC W w w' b g T mb mg mc M va wr kd M') : cntD M M' 64 = 0 ∨ (kd = 0 ∧ wr = true ∧ cntD M M' 64 = 1) := by
  rcases h.2.2.2 with rfl | ⟨e, e2, i, x, rfl⟩
  · exact .inl (cntD_same _ _)
  · have := cntD_upd M i x 64
    have h1 : cntD M (updM M i x) 64 ≤ 1 := by split at this <;> omega
    rcases Nat.le_one_iff_eq_zero_or_eq_one.1 h1 with h2 | h2
    · exact .inl h2
    · exact .inr ⟨e, e2, h2⟩
end Go.Proofs.Ytgfidbjhihignaa
