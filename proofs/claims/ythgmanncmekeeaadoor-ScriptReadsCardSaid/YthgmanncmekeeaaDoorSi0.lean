/- chapter 35: any line, any text read by the own answer. -/
import Derived.Test.YthgmanncmekeeaaDoorSh1
import Derived.Test.YthgmanncmekeeaaDoorSh2
import Derived.Test.YthgmanncmekeeaaDoorSh3
import Derived.Test.YthgmanncmekeeaaDoorSh4
import Derived.Test.YthgmanncmekeeaaDoorSh5
import Derived.Test.YthgmanncmekeeaaDoorSh6
import Derived.Test.YthgmanncmekeeaaDoorSg0
namespace Go.Proofs.YthgmanncmekeeaaDoor
set_option linter.unusedVariables false
set_option linter.unusedSimpArgs false
open Go.ChangeShapes Go.WideShapes Go.ChangeAt Go.RowKit Go.Shelf
attribute [-go_sem] binOp_string_add binOp_string_eql binOp_string_neq run_index_string
attribute [local go_sem] Sc.bs_size
attribute [local go_sem] Oper.semAt_some
namespace Sc
theorem refevent_any (l : Bs) (hl : l.length ≤ 70000) (w : World) : Calls Tryd.prog 31 #[.string (bs l)] w (EvRes l w) := by
  cases h : spl 32 l with
  | nil => exact absurd h (spl_ne _ _)
  | cons a ws =>
    by_cases hk : kd a = 0
    · exact evref_0 l hl w a ws h hk
    · have hnm := (nm_kd a hk).1
      have hle := kd_le a
      have hq : kd a = 1 ∨ kd a = 2 ∨ kd a = 3 ∨ kd a = 4 ∨ kd a = 5 ∨ kd a = 6 := by omega
      have hB : ∀ b : Bool, b = true ∨ b = false := by decide
      rcases hq with q | q | q | q | q | q
      · rw [q] at hnm
        obtain rfl := hnm
        by_cases h0 : ws.length < 2
        · exact evref_1_short l hl w ws h h0
        · rcases hB (okL numF (ws.take 2)) with h1 | h1
          · rcases hB (okL numW (ws.drop 2)) with h2 | h2
            · by_cases h3 : ws.length = 2
              · exact evref_1_good l hl w ws h (by omega) h1 h2 h3
              · exact evref_1_rest l hl w ws h (by omega) h1 h2 h3
            · exact evref_1_bad l hl w ws h (by omega) (.inr h2)
          · exact evref_1_bad l hl w ws h (by omega) (.inl h1)
      · rw [q] at hnm
        obtain rfl := hnm
        by_cases h0 : ws.length < 1
        · exact evref_2_short l hl w ws h h0
        · rcases hB (okL numF (ws.take 1)) with h1 | h1
          · rcases hB (okL numW (ws.drop 1)) with h2 | h2
            · by_cases h3 : ws.length = 8
              · exact evref_2_good l hl w ws h (by omega) h1 h2 h3
              · exact evref_2_rest l hl w ws h (by omega) h1 h2 h3
            · exact evref_2_bad l hl w ws h (by omega) (.inr h2)
          · exact evref_2_bad l hl w ws h (by omega) (.inl h1)
      · rw [q] at hnm
        obtain rfl := hnm
        by_cases h0 : ws.length < 1
        · exact evref_3_short l hl w ws h h0
        · rcases hB (okL numF (ws.take 1)) with h1 | h1
          · rcases hB (okL numW (ws.drop 1)) with h2 | h2
            · by_cases h3 : ws.length = 2
              · exact evref_3_good l hl w ws h (by omega) h1 h2 h3
              · exact evref_3_rest l hl w ws h (by omega) h1 h2 h3
            · exact evref_3_bad l hl w ws h (by omega) (.inr h2)
          · exact evref_3_bad l hl w ws h (by omega) (.inl h1)
      · rw [q] at hnm
        obtain rfl := hnm
        by_cases h0 : ws.length < 1
        · exact evref_4_short l hl w ws h h0
        · rcases hB (okL numF (ws.take 1)) with h1 | h1
          · rcases hB (okL numW (ws.drop 1)) with h2 | h2
            · by_cases h3 : ws.length = 3
              · exact evref_4_good l hl w ws h (by omega) h1 h2 h3
              · exact evref_4_rest l hl w ws h (by omega) h1 h2 h3
            · exact evref_4_bad l hl w ws h (by omega) (.inr h2)
          · exact evref_4_bad l hl w ws h (by omega) (.inl h1)
      · rw [q] at hnm
        obtain rfl := hnm
        by_cases h0 : ws.length < 3
        · exact evref_5_short l hl w ws h h0
        · rcases hB (okL numF (ws.take 3)) with h1 | h1
          · rcases hB (okL numW (ws.drop 3)) with h2 | h2
            · by_cases h3 : ws.length = 3
              · exact evref_5_good l hl w ws h (by omega) h1 h2 h3
              · exact evref_5_rest l hl w ws h (by omega) h1 h2 h3
            · exact evref_5_bad l hl w ws h (by omega) (.inr h2)
          · exact evref_5_bad l hl w ws h (by omega) (.inl h1)
      · rw [q] at hnm
        obtain rfl := hnm
        by_cases h0 : ws.length < 2
        · exact evref_6_short l hl w ws h h0
        · rcases hB (okL numF (ws.take 2)) with h1 | h1
          · rcases hB (okL numW (ws.drop 2)) with h2 | h2
            · by_cases h3 : ws.length = 2
              · exact evref_6_good l hl w ws h (by omega) h1 h2 h3
              · exact evref_6_rest l hl w ws h (by omega) h1 h2 h3
            · exact evref_6_bad l hl w ws h (by omega) (.inr h2)
          · exact evref_6_bad l hl w ws h (by omega) (.inl h1)
theorem spl_last_nil (c : UInt8) : ∀ (l : Bs) (D : List Bs), spl c l = D ++ [[]] → l = [] ∨ l.getLast? = some c
  | [], _, _ => .inl rfl
  | x :: xs, D, h => by
    right
    by_cases e : x = c
    · subst e
      rw [spl_eq] at h
      cases D with
      | nil =>
        rw [List.nil_append] at h
        injection h with _ h2
        exact absurd h2 (spl_ne _ _)
      | cons d D =>
        rw [List.cons_append] at h
        injection h with _ h2
        rcases spl_last_nil x xs D h2 with q | q
        · subst q; rfl
        · cases xs with
          | nil => rfl
          | cons y ys => rw [List.getLast?_cons_cons]; exact q
    · cases hq : spl c xs with
      | nil => exact absurd hq (spl_ne _ _)
      | cons a t =>
        rw [spl_ne_cons xs e hq] at h
        cases D with
        | nil =>
          rw [List.nil_append] at h
          injection h with h1 _
          cases h1
        | cons d D =>
          rw [List.cons_append] at h
          injection h with _ h2
          rcases spl_last_nil c xs (a :: D) (by rw [hq, h2]; rfl) with q | q
          · subst q
            rw [spl] at hq
            injection hq with _ h3
            rw [← h3] at h2
            simp at h2
          · cases xs with
            | nil => simp at q
            | cons y ys => rw [List.getLast?_cons_cons]; exact q
theorem spl_last (s : Bs) : ∃ D x, spl 10 s = D ++ [x] ∧ (x = [] → lns 10 s = D) ∧ (x ≠ [] → lns 10 s = D ++ [x]) := by
  have h := lns_spl 10 s
  obtain ⟨D, x, hD⟩ := (⟨_, _, (List.dropLast_concat_getLast (spl_ne 10 s)).symm⟩ : ∃ D x, spl 10 s = D ++ [x])
  refine ⟨D, x, hD, fun hx => ?_, fun hx => ?_⟩
  · subst hx
    have hc := spl_last_nil 10 s D hD
    rw [if_pos hc, hD] at h
    exact (List.append_cancel_right h).symm
  · rw [hD] at h
    split at h
    · exact absurd (List.append_inj' h rfl).2 (by simpa using hx)
    · exact h.symm
theorem own_base {W : World} {B B' : Nat} {e : TypeId} {z : Nat} {v : Value} {n : Nat} {xs : List Value} (h : W.ownsRow B e z v n xs) (hb : B' ≤ B) : W.ownsRow B' e z v n xs := by
  refine ⟨h.1, ?_⟩
  rcases h.2 with h2 | ⟨g, cap, cur, e, q1, q2⟩
  · exact .inl h2
  · exact .inr ⟨g, cap, cur, e, Nat.le_trans hb q1, q2⟩
def gE (l : Bs) : Ev := (evOf l).getD (ev0 0)
theorem fm_all : ∀ ls : List Bs, (∀ l ∈ ls, (evOf l).isNone = false) → ls.filterMap evOf = ls.map gE
  | [], _ => rfl
  | l :: ls, h => by
    have h1 := h l List.mem_cons_self
    cases he : evOf l with
    | none => rw [he] at h1; cases h1
    | some d =>
      rw [List.filterMap_cons, he, List.map_cons, fm_all ls (fun x hx => h x (List.mem_cons_of_mem _ hx))]
      unfold gE
      rw [he]; rfl
set_option maxRecDepth 100000 in
theorem refparse_long (s : Bs) (h : 65536 < s.length) (w : World) : Calls Tryd.prog 15 #[.string (bs s)] w (PaRes s w) := by
  have hq := parseE_long h
  have HF : Hid (∀ e, e = .returned (.tuple #[.slice none 0 0, .int .i64 0, .int .i64 11]) → PaRes s w e w) := Lib.hid (fun e he => ⟨.slice none 0 0, by rw [he, hq], by rw [hq]; exact World.ownsRow_nil _ _ _ _, Below.refl _ _⟩)
  generalize PaRes s w = R at HF ⊢
  have hi : ((65536 : Int) < (s.length : Int)) = True := by rw [eq_iff_iff, iff_true]; omega
  clear h hq
  go_enter Tryd.func15, Tryd.ntmps15
  go_wp2
  exact bodyPost_ret (v := .tuple #[.slice none 0 0, .int .i64 0, .int .i64 11]) (by simp [results, Tryd.results15, go_sem]) rfl (HF.out _ rfl)
set_option maxRecDepth 100000 in
set_option maxHeartbeats 2000000 in
theorem refparse_in (s : Bs) (h : s.length ≤ 65536) (w : World) : Calls Tryd.prog 15 #[.string (bs s)] w (PaRes s w) := by
  obtain ⟨i0, hi0, hz0, hz1, hz2⟩ := info_parts infoEv
  have HI0 := Lib.hid hi0
  clear hi0
  have hi : ((65536 : Int) < (s.length : Int)) = False := by rw [eq_iff_iff, iff_false]; omega
  obtain ⟨D, x, hD, hx0, hx1⟩ := spl_last s
  have hcnt := spl_count 10 s
  rw [hD] at hcnt
  simp only [List.length_append, List.length_singleton] at hcnt
  obtain ⟨m, hm⟩ : ∃ m, m = D.length := ⟨_, rfl⟩
  have HSP : Hid (Calls Tryd.prog 30 #[.string (bs s), .int .u8 10] w fun e w' => ∃ p cap, e = .returned (.slice p (m + 1) cap) ∧ m + 1 ≤ cap ∧ StrR w' p (D ++ [x]) ∧ (∃ g, p = some ⟨g, 0, none⟩ ∧ w'.cell? ⟨g, m, none⟩ = some (.string (bs x))) ∧ Below w.heap.size w w') := Lib.hid ((refsplit_any s 10 (by omega) w).mono (by
    rintro e w' ⟨v, rfl, h1, _, h2⟩
    rw [hD] at h1
    have hl : (D ++ [x]).length = m + 1 := by simp [hm]
    obtain ⟨p, cap, rfl, hc, hR⟩ := StrR.own (n := m + 1) (L := D ++ [x]) hl (by rw [hl] at h1; exact h1)
    refine ⟨p, cap, rfl, hc, hR, ?_, h2⟩
    obtain ⟨g, o, rfl, hg, hv⟩ := hR m x (by rw [hm]; simp)
    have ho : o = 0 := by
      rcases h1.2 with ⟨_, e⟩ | ⟨g', cap', cur, e, _⟩
      · simp at e
      · have := congrArg (fun v => match v with | Value.slice (some a) _ _ => a.off | _ => 0) e
        simpa using this
    subst ho
    rw [Nat.zero_add] at hv
    exact ⟨g, rfl, hv⟩))
  have HXL : Hid (∀ l ∈ lns 10 s, l.length ≤ 70000) := Lib.hid (fun l hl => by
    have h1 := spl_len 10 s l (by
      rw [lns_spl]
      split
      · exact List.mem_append_left _ hl
      · exact hl)
    omega)
  have HD0 := Lib.hid hx0
  have HD1 := Lib.hid hx1
  have HM := Lib.hid hm
  have HSL := Lib.hid h
  have hme : m ≤ 65536 := by omega
  have hxe : ∀ w, (binOp .eql 9 (.string (bs x)) (.string { data := #[] })).run Tryd.prog w = .ok (.bool (decide (x = []))) w := fun w => eql_bs x [] w
  have hsl : ∀ (p : Option Addr) (cap : Nat), m + 1 ≤ cap → ∀ w, (Instr.slice 79 (.slice p (m + 1) cap) none (some (.int .i64 m)) none).run Tryd.prog w = .ok (.slice p m cap) w := fun p cap hc w => sl_high p (m + 1) cap m (by omega) w
  have HSLI := Lib.hid hsl
  have HLOOP : Hid (∀ (w2 : World) (p : Option Addr) (N cap : Nat), StrR w2 p (lns 10 s) → N = (lns 10 s).length → N ≤ 65536 → Below w.heap.size w w2 → True) := Lib.hid (fun _ _ _ _ _ _ _ _ => trivial)
  have HF : Hid (∀ e w' v L (a b : Int), parseE s = (L, a, b) → e = .returned (.tuple #[v, .int .i64 a, .int .i64 b]) → w'.ownsRow w.heap.size 36 15 v L.length (evsC L) → Below w.heap.size w w' → PaRes s w e w') := Lib.hid (fun e w' v L a b h1 h2 h3 h4 => ⟨v, by rw [h1]; exact h2, by rw [h1]; exact h3, h4⟩)
  obtain ⟨ls, hls⟩ : ∃ ls, ls = lns 10 s := ⟨_, rfl⟩
  rw [← hls] at HD0 HD1 HXL
  have HLS := Lib.hid hls
  generalize hR : PaRes s w = R at HF ⊢
  clear hR hls hD hx0 hx1 hm h hcnt hsl HLOOP
  by_cases hx : x = []
  · have hxt : decide (x = []) = true := decide_eq_true hx
    simp only [hxt] at hxe
    have hls := HD0.out hx
    obtain ⟨N, hN⟩ : ∃ N, N = m := ⟨_, rfl⟩
    have HNL : Hid (ls.length = m) := Lib.hid (by rw [hls]; exact HM.out.symm)
    have HSR0 : Hid (∀ (v : World) p, StrR v p (D ++ [x]) → StrR v p ls) := Lib.hid (fun v p hR => by
      rw [hls]
      have := hR.take D.length
      rwa [List.take_left' rfl] at this)
    clear hls hx hxt hN
    go_enter Tryd.func15, Tryd.ntmps15
    go_upto_region 6 with (go_at_call 30; (with_reducible refine HSP.out.mono ?_); rintro e w2 ⟨p, cap, rfl, hcap, hR, ⟨g0, rfl, hcl⟩, hb2⟩; have HSR := Lib.hid (HSR0.out _ _ hR); have hsl := HSLI.out (some ⟨g0, 0, none⟩) cap hcap; have HB2 := Lib.hid hb2; clear hR hb2)
    go_wp2
    have HC0 := Lib.hid (fun (l : Bs) (v : World) (hl : l ∈ ls) => refevent_any l (HXL.out l hl) v)
    go_loopw [6, 7] (fun out i wr => ∃ k : Nat, k ≤ m ∧ i = .int .i64 k ∧ wr.ownsRow w2.heap.size 36 15 out k (evsC ((ls.take k).map gE)) ∧ Hid (∀ l ∈ ls.take k, (evOf l).isNone = false) ∧ Hid (Below w2.heap.size w2 wr)) (fun _ i _ => m - (intOf i).toNat)
    case atStart => exact ⟨0, by omega, rfl, World.ownsRow_nil _ _ _ _, Lib.hid (fun l h => by simp at h), Lib.hid (Below.refl _ _)⟩
    case round =>
      obtain ⟨k, hk, rfl, hown, HG, HW⟩ := hrel
      have HWW := Lib.hid (HB2.out.trans (HW.out.mono HB2.out.size))
      by_cases hlt : k < m
      · have hltI : (k : Int) < m := by omega
        obtain ⟨l, hlk⟩ : ∃ l, ls[k]? = some l := ⟨_, List.getElem?_eq_getElem (by have := HNL.out; omega)⟩
        have hlm := List.mem_of_getElem? hlk
        obtain ⟨g, o, hpe, hg, hcc⟩ := HSR.out k l hlk
        cases hpe
        have cl : wr.cell? ⟨g0, k, none⟩ = some (.string (bs l)) := by
          have := (World.cell?_of_block (HW.out.block g0 hg)).trans hcc
          rwa [Nat.zero_add] at this
        have hkw : k + 1 < 4000000 := by omega
        cases hev : evOf l with
        | none =>
          have HC : Hid (∀ v', Calls Tryd.prog 31 #[.string (bs l)] v' fun e w' => ∃ d : Ev, e = .returned (.tuple #[.agg #[.int .i64 (d 0), .int .i64 (d 1), .int .i64 (d 2), .int .u64 (d 3), .int .u64 (d 4), .int .u64 (d 5), .int .u64 (d 6), .int .u64 (d 7), .int .u64 (d 8), .int .u64 (d 9), .int .u64 (d 10), .int .u64 (d 11), .int .i64 (d 12), .int .i64 (d 13), .int .i64 (d 14)], .bool false]) ∧ Below v'.heap.size v' w') := Lib.hid (fun v' => (HC0.out l v' hlm).mono (by
            rintro e w' ⟨d, b, rfl, h1, -, h3⟩
            rw [h1 hev]
            exact ⟨d, rfl, h3⟩))
          have HRES : Hid (parseE s = ([], (k : Int) + 1, 5)) := Lib.hid (by
            have hl := HLS.out
            subst hl
            have hkl := (List.getElem?_eq_some_iff.1 hlk).1
            have hge := (List.getElem?_eq_some_iff.1 hlk).2
            refine parseE_stop HSL.out k hkl (by rw [hge, hev]; rfl) (fun j hj => ?_)
            exact HG.out _ (by rw [List.mem_take_iff_getElem]; exact ⟨j, by omega, rfl⟩))
          clear hev hlk hlm hcc
          go_wp2_with (go_at_call 31; (with_reducible refine (HC.out _).mono ?_); rintro e w3 ⟨d, rfl, hb3⟩; have HB3 := Lib.hid (HWW.out.trans (hb3.mono HWW.out.size)); clear hb3)
          exact bodyPost_ret (v := .tuple #[.slice none 0 0, .int .i64 ((k : Int) + 1), .int .i64 5]) (by simp [results, Tryd.results15, go_sem]) rfl (HF.out _ _ _ [] _ _ HRES.out rfl (World.ownsRow_nil _ _ _ _) (bal HB3.out _))
        | some c =>
          have HC : Hid (∀ v', Calls Tryd.prog 31 #[.string (bs l)] v' fun e w' => e = .returned (.tuple #[.agg #[.int .i64 (c 0), .int .i64 (c 1), .int .i64 (c 2), .int .u64 (c 3), .int .u64 (c 4), .int .u64 (c 5), .int .u64 (c 6), .int .u64 (c 7), .int .u64 (c 8), .int .u64 (c 9), .int .u64 (c 10), .int .u64 (c 11), .int .i64 (c 12), .int .i64 (c 13), .int .i64 (c 14)], .bool true]) ∧ Below v'.heap.size v' w') := Lib.hid (fun v' => (HC0.out l v' hlm).mono (by
            rintro e w' ⟨d, b, rfl, -, h2, h3⟩
            obtain ⟨rfl, rfl⟩ := h2 c hev
            exact ⟨rfl, h3⟩))
          have HX : Hid ((ls.take (k + 1)).map gE = (ls.take k).map gE ++ [c]) := Lib.hid (by
            have : gE l = c := by unfold gE; rw [hev]; rfl
            rw [List.take_add_one, hlk]
            simp [this])
          have HG2 : Hid (∀ l ∈ ls.take (k + 1), (evOf l).isNone = false) := Lib.hid (by
            rw [List.take_add_one, hlk]
            intro y hy
            rcases List.mem_append.1 hy with hy | hy
            · exact HG.out y hy
            · simp at hy; rw [hy, hev]; rfl)
          clear hev hlk hlm hcc
          go_upto_region 13 with (go_at_call 31; (with_reducible refine (HC.out _).mono ?_); rintro e w3 ⟨rfl, hb3⟩; have hown3 := own_block hown (fun g hg => hb3.block g (hown.lt g hg).2); have HB3 := Lib.hid (HW.out.trans (hb3.mono HW.out.size)); clear hb3)
          obtain ⟨w4, hw4⟩ : ∃ y, y = w3.alloc (.cells #[.int .i64 (c 0), .int .i64 (c 1), .int .i64 (c 2), .int .u64 (c 3), .int .u64 (c 4), .int .u64 (c 5), .int .u64 (c 6), .int .u64 (c 7), .int .u64 (c 8), .int .u64 (c 9), .int .u64 (c 10), .int .u64 (c 11), .int .i64 (c 12), .int .i64 (c 13), .int .i64 (c 14)] 36) := ⟨_, rfl⟩
          rw [← hw4]
          have hb4 : Below w3.heap.size w3 w4 := hw4 ▸ bal (Below.refl _ _) _
          have hz4 : w4.heap.size = w3.heap.size + 1 := by rw [hw4, World.size_alloc]
          have hbx : w4.heap[w3.heap.size]? = some (.cells #[.int .i64 (c 0), .int .i64 (c 1), .int .i64 (c 2), .int .u64 (c 3), .int .u64 (c 4), .int .u64 (c 5), .int .u64 (c 6), .int .u64 (c 7), .int .u64 (c 8), .int .u64 (c 9), .int .u64 (c 10), .int .u64 (c 11), .int .i64 (c 12), .int .i64 (c 13), .int .i64 (c 14)] 36 (0, 0)) := by rw [hw4]; exact World.alloc_heap_new _ _
          have HBX : Hid (w4.rangeAt w3.heap.size 0 [.int .i64 (c 0), .int .i64 (c 1), .int .i64 (c 2), .int .u64 (c 3), .int .u64 (c 4), .int .u64 (c 5), .int .u64 (c 6), .int .u64 (c 7), .int .u64 (c 8), .int .u64 (c 9), .int .u64 (c 10), .int .u64 (c 11), .int .i64 (c 12), .int .i64 (c 13), .int .i64 (c 14)]) := Lib.hid (fun j u hj => by rw [row_cell hbx]; simpa using hj)
          have hown4 : w4.ownsRow w2.heap.size 36 15 _ k (evsC ((ls.take k).map gE)) := own_block hown3 (fun g hg => hb4.block g (hown3.lt g hg).2)
          have HB4 := Lib.hid (HB3.out.trans (hb4.mono HB3.out.size))
          have HSZ : Hid (w2.heap.size ≤ w4.heap.size) := Lib.hid HB4.out.size
          have HHO := Lib.hid (fun j hj => (hown4.lt j hj).1)
          clear hw4 hb4 hbx hown3 hown hz4
          go_wp2_with (first
            | (refine wpList_load_mid rfl 36 _ rfl w3.heap.size 0 rfl [.int .i64 (c 0), .int .i64 (c 1), .int .i64 (c 2), .int .u64 (c 3), .int .u64 (c 4), .int .u64 (c 5), .int .u64 (c 6), .int .u64 (c 7), .int .u64 (c 8), .int .u64 (c 9), .int .u64 (c 10), .int .u64 (c 11), .int .i64 (c 12), .int .i64 (c 13), .int .i64 (c 14)] _ HBX.out Tryd.underlying36 rfl (by kernel_rfl) ?_)
            | (at_builtin; refine wpList_append_own _ rfl _ _ 22 rfl w2.heap.size 36 i0 (.agg #[.int .i64 0, .int .i64 0, .int .i64 0, .int .u64 0, .int .u64 0, .int .u64 0, .int .u64 0, .int .u64 0, .int .u64 0, .int .u64 0, .int .u64 0, .int .u64 0, .int .i64 0, .int .i64 0, .int .i64 0]) 15 120 Tryd.underlying22 HI0.out hz0 hz1 hz2 rfl (by decide) _ _ _ rfl (hown4.alloc _) ⟨w4.heap.size, 0, none⟩ 1 1 [.int .i64 (c 0), .int .i64 (c 1), .int .i64 (c 2), .int .u64 (c 3), .int .u64 (c 4), .int .u64 (c 5), .int .u64 (c 6), .int .u64 (c 7), .int .u64 (c 8), .int .u64 (c 9), .int .u64 (c 10), .int .u64 (c 11), .int .i64 (c 12), .int .i64 (c 13), .int .i64 (c 14)] rfl rfl (news_atE w4 _ _ _ rfl) (by simp [Value.oneCell']) (by unfold maxLen; omega) (by omega) (by have := HSZ.out; simp; omega) ?_; intro v' w5 hown' hgrow _))
          go_roundw
          case rel =>
            refine ⟨k + 1, by omega, by go_num, ?_, HG2, ?_⟩
            · rw [HX.out, evsC_snoc]
              exact hown'
            · exact Lib.hid ((bal HB4.out _).grown hgrow (by have := HSZ.out; simp; omega) (fun j ej => HHO.out j ej))
          case measure => first | (simp [intOf]; done) | (simp [intOf]; omega)
      · obtain rfl : m = k := by omega
        have hall : ls.take (m) = ls := List.take_of_length_le (by have := HNL.out; omega)
        have hgood := HG.out
        rw [hall] at hgood hown
        have hres : parseE s = (ls.map gE, 0, 0) := by
          rw [parseE_done HSL.out (by rw [← HLS.out]; exact hgood), ← HLS.out, fm_all ls hgood]
        have HRES := Lib.hid hres
        have HROW := Lib.hid (own_base hown HB2.out.size)
        have HLN : Hid ((ls.map gE).length = m) := Lib.hid (by rw [List.length_map, HNL.out])
        clear hall hgood hres hown
        go_wp2
        exact bodyPost_ret (by simp [results, Tryd.results15, go_sem]; first | done | rfl) rfl (HF.out _ _ _ (ls.map gE) 0 0 HRES.out rfl (by rw [HLN.out]; exact HROW.out) HWW.out)
  · have hxt : decide (x = []) = false := decide_eq_false hx
    simp only [hxt] at hxe
    have hls := HD1.out hx
    have HNL : Hid (ls.length = m + 1) := Lib.hid (by rw [hls]; simp; exact HM.out.symm)
    have HSR0 : Hid (∀ (v : World) p, StrR v p (D ++ [x]) → StrR v p ls) := Lib.hid (fun v p hR => by rw [hls]; exact hR)
    clear hls hx hxt
    go_enter Tryd.func15, Tryd.ntmps15
    go_upto_region 6 with (go_at_call 30; (with_reducible refine HSP.out.mono ?_); rintro e w2 ⟨p, cap, rfl, hcap, hR, ⟨g0, rfl, hcl⟩, hb2⟩; have HSR := Lib.hid (HSR0.out _ _ hR); have HB2 := Lib.hid hb2; clear hR hb2)
    go_wp2
    have HC0 := Lib.hid (fun (l : Bs) (v : World) (hl : l ∈ ls) => refevent_any l (HXL.out l hl) v)
    go_loopw [6, 7] (fun out i wr => ∃ k : Nat, k ≤ m + 1 ∧ i = .int .i64 k ∧ wr.ownsRow w2.heap.size 36 15 out k (evsC ((ls.take k).map gE)) ∧ Hid (∀ l ∈ ls.take k, (evOf l).isNone = false) ∧ Hid (Below w2.heap.size w2 wr)) (fun _ i _ => m + 1 - (intOf i).toNat)
    case atStart => exact ⟨0, by omega, rfl, World.ownsRow_nil _ _ _ _, Lib.hid (fun l h => by simp at h), Lib.hid (Below.refl _ _)⟩
    case round =>
      obtain ⟨k, hk, rfl, hown, HG, HW⟩ := hrel
      have HWW := Lib.hid (HB2.out.trans (HW.out.mono HB2.out.size))
      by_cases hlt : k < m + 1
      · have hltI : (k : Int) < m + 1 := by omega
        obtain ⟨l, hlk⟩ : ∃ l, ls[k]? = some l := ⟨_, List.getElem?_eq_getElem (by have := HNL.out; omega)⟩
        have hlm := List.mem_of_getElem? hlk
        obtain ⟨g, o, hpe, hg, hcc⟩ := HSR.out k l hlk
        cases hpe
        have cl : wr.cell? ⟨g0, k, none⟩ = some (.string (bs l)) := by
          have := (World.cell?_of_block (HW.out.block g0 hg)).trans hcc
          rwa [Nat.zero_add] at this
        have hkw : k + 1 < 4000000 := by omega
        cases hev : evOf l with
        | none =>
          have HC : Hid (∀ v', Calls Tryd.prog 31 #[.string (bs l)] v' fun e w' => ∃ d : Ev, e = .returned (.tuple #[.agg #[.int .i64 (d 0), .int .i64 (d 1), .int .i64 (d 2), .int .u64 (d 3), .int .u64 (d 4), .int .u64 (d 5), .int .u64 (d 6), .int .u64 (d 7), .int .u64 (d 8), .int .u64 (d 9), .int .u64 (d 10), .int .u64 (d 11), .int .i64 (d 12), .int .i64 (d 13), .int .i64 (d 14)], .bool false]) ∧ Below v'.heap.size v' w') := Lib.hid (fun v' => (HC0.out l v' hlm).mono (by
            rintro e w' ⟨d, b, rfl, h1, -, h3⟩
            rw [h1 hev]
            exact ⟨d, rfl, h3⟩))
          have HRES : Hid (parseE s = ([], (k : Int) + 1, 5)) := Lib.hid (by
            have hl := HLS.out
            subst hl
            have hkl := (List.getElem?_eq_some_iff.1 hlk).1
            have hge := (List.getElem?_eq_some_iff.1 hlk).2
            refine parseE_stop HSL.out k hkl (by rw [hge, hev]; rfl) (fun j hj => ?_)
            exact HG.out _ (by rw [List.mem_take_iff_getElem]; exact ⟨j, by omega, rfl⟩))
          clear hev hlk hlm hcc
          go_wp2_with (go_at_call 31; (with_reducible refine (HC.out _).mono ?_); rintro e w3 ⟨d, rfl, hb3⟩; have HB3 := Lib.hid (HWW.out.trans (hb3.mono HWW.out.size)); clear hb3)
          exact bodyPost_ret (v := .tuple #[.slice none 0 0, .int .i64 ((k : Int) + 1), .int .i64 5]) (by simp [results, Tryd.results15, go_sem]) rfl (HF.out _ _ _ [] _ _ HRES.out rfl (World.ownsRow_nil _ _ _ _) (bal HB3.out _))
        | some c =>
          have HC : Hid (∀ v', Calls Tryd.prog 31 #[.string (bs l)] v' fun e w' => e = .returned (.tuple #[.agg #[.int .i64 (c 0), .int .i64 (c 1), .int .i64 (c 2), .int .u64 (c 3), .int .u64 (c 4), .int .u64 (c 5), .int .u64 (c 6), .int .u64 (c 7), .int .u64 (c 8), .int .u64 (c 9), .int .u64 (c 10), .int .u64 (c 11), .int .i64 (c 12), .int .i64 (c 13), .int .i64 (c 14)], .bool true]) ∧ Below v'.heap.size v' w') := Lib.hid (fun v' => (HC0.out l v' hlm).mono (by
            rintro e w' ⟨d, b, rfl, -, h2, h3⟩
            obtain ⟨rfl, rfl⟩ := h2 c hev
            exact ⟨rfl, h3⟩))
          have HX : Hid ((ls.take (k + 1)).map gE = (ls.take k).map gE ++ [c]) := Lib.hid (by
            have : gE l = c := by unfold gE; rw [hev]; rfl
            rw [List.take_add_one, hlk]
            simp [this])
          have HG2 : Hid (∀ l ∈ ls.take (k + 1), (evOf l).isNone = false) := Lib.hid (by
            rw [List.take_add_one, hlk]
            intro y hy
            rcases List.mem_append.1 hy with hy | hy
            · exact HG.out y hy
            · simp at hy; rw [hy, hev]; rfl)
          clear hev hlk hlm hcc
          go_upto_region 13 with (go_at_call 31; (with_reducible refine (HC.out _).mono ?_); rintro e w3 ⟨rfl, hb3⟩; have hown3 := own_block hown (fun g hg => hb3.block g (hown.lt g hg).2); have HB3 := Lib.hid (HW.out.trans (hb3.mono HW.out.size)); clear hb3)
          obtain ⟨w4, hw4⟩ : ∃ y, y = w3.alloc (.cells #[.int .i64 (c 0), .int .i64 (c 1), .int .i64 (c 2), .int .u64 (c 3), .int .u64 (c 4), .int .u64 (c 5), .int .u64 (c 6), .int .u64 (c 7), .int .u64 (c 8), .int .u64 (c 9), .int .u64 (c 10), .int .u64 (c 11), .int .i64 (c 12), .int .i64 (c 13), .int .i64 (c 14)] 36) := ⟨_, rfl⟩
          rw [← hw4]
          have hb4 : Below w3.heap.size w3 w4 := hw4 ▸ bal (Below.refl _ _) _
          have hz4 : w4.heap.size = w3.heap.size + 1 := by rw [hw4, World.size_alloc]
          have hbx : w4.heap[w3.heap.size]? = some (.cells #[.int .i64 (c 0), .int .i64 (c 1), .int .i64 (c 2), .int .u64 (c 3), .int .u64 (c 4), .int .u64 (c 5), .int .u64 (c 6), .int .u64 (c 7), .int .u64 (c 8), .int .u64 (c 9), .int .u64 (c 10), .int .u64 (c 11), .int .i64 (c 12), .int .i64 (c 13), .int .i64 (c 14)] 36 (0, 0)) := by rw [hw4]; exact World.alloc_heap_new _ _
          have HBX : Hid (w4.rangeAt w3.heap.size 0 [.int .i64 (c 0), .int .i64 (c 1), .int .i64 (c 2), .int .u64 (c 3), .int .u64 (c 4), .int .u64 (c 5), .int .u64 (c 6), .int .u64 (c 7), .int .u64 (c 8), .int .u64 (c 9), .int .u64 (c 10), .int .u64 (c 11), .int .i64 (c 12), .int .i64 (c 13), .int .i64 (c 14)]) := Lib.hid (fun j u hj => by rw [row_cell hbx]; simpa using hj)
          have hown4 : w4.ownsRow w2.heap.size 36 15 _ k (evsC ((ls.take k).map gE)) := own_block hown3 (fun g hg => hb4.block g (hown3.lt g hg).2)
          have HB4 := Lib.hid (HB3.out.trans (hb4.mono HB3.out.size))
          have HSZ : Hid (w2.heap.size ≤ w4.heap.size) := Lib.hid HB4.out.size
          have HHO := Lib.hid (fun j hj => (hown4.lt j hj).1)
          clear hw4 hb4 hbx hown3 hown hz4
          go_wp2_with (first
            | (refine wpList_load_mid rfl 36 _ rfl w3.heap.size 0 rfl [.int .i64 (c 0), .int .i64 (c 1), .int .i64 (c 2), .int .u64 (c 3), .int .u64 (c 4), .int .u64 (c 5), .int .u64 (c 6), .int .u64 (c 7), .int .u64 (c 8), .int .u64 (c 9), .int .u64 (c 10), .int .u64 (c 11), .int .i64 (c 12), .int .i64 (c 13), .int .i64 (c 14)] _ HBX.out Tryd.underlying36 rfl (by kernel_rfl) ?_)
            | (at_builtin; refine wpList_append_own _ rfl _ _ 22 rfl w2.heap.size 36 i0 (.agg #[.int .i64 0, .int .i64 0, .int .i64 0, .int .u64 0, .int .u64 0, .int .u64 0, .int .u64 0, .int .u64 0, .int .u64 0, .int .u64 0, .int .u64 0, .int .u64 0, .int .i64 0, .int .i64 0, .int .i64 0]) 15 120 Tryd.underlying22 HI0.out hz0 hz1 hz2 rfl (by decide) _ _ _ rfl (hown4.alloc _) ⟨w4.heap.size, 0, none⟩ 1 1 [.int .i64 (c 0), .int .i64 (c 1), .int .i64 (c 2), .int .u64 (c 3), .int .u64 (c 4), .int .u64 (c 5), .int .u64 (c 6), .int .u64 (c 7), .int .u64 (c 8), .int .u64 (c 9), .int .u64 (c 10), .int .u64 (c 11), .int .i64 (c 12), .int .i64 (c 13), .int .i64 (c 14)] rfl rfl (news_atE w4 _ _ _ rfl) (by simp [Value.oneCell']) (by unfold maxLen; omega) (by omega) (by have := HSZ.out; simp; omega) ?_; intro v' w5 hown' hgrow _))
          go_roundw
          case rel =>
            refine ⟨k + 1, by omega, by go_num, ?_, HG2, ?_⟩
            · rw [HX.out, evsC_snoc]
              exact hown'
            · exact Lib.hid ((bal HB4.out _).grown hgrow (by have := HSZ.out; simp; omega) (fun j ej => HHO.out j ej))
          case measure => first | (simp [intOf]; done) | (simp [intOf]; omega)
      · obtain rfl : m + 1 = k := by omega
        have hall : ls.take (m + 1) = ls := List.take_of_length_le (by have := HNL.out; omega)
        have hgood := HG.out
        rw [hall] at hgood hown
        have hres : parseE s = (ls.map gE, 0, 0) := by
          rw [parseE_done HSL.out (by rw [← HLS.out]; exact hgood), ← HLS.out, fm_all ls hgood]
        have HRES := Lib.hid hres
        have HROW := Lib.hid (own_base hown HB2.out.size)
        have HLN : Hid ((ls.map gE).length = m + 1) := Lib.hid (by rw [List.length_map, HNL.out])
        clear hall hgood hres hown
        go_wp2
        exact bodyPost_ret (by simp [results, Tryd.results15, go_sem]; first | done | rfl) rfl (HF.out _ _ _ (ls.map gE) 0 0 HRES.out rfl (by rw [HLN.out]; exact HROW.out) HWW.out)
end Sc
end Go.Proofs.YthgmanncmekeeaaDoor
