/- chapter 35: from the row's list of laid package-level variables to what the walks ask of the world; a row of events handed in. -/
import Derived.Test.YthgmanncmekeeaaDoorRows
import Derived.Test.YthgmanncmekeeaaDoorSd3
import Derived.Test.YthgmanncmekeeaaDoorActs
import Derived.Lib.LaidTab
import Derived.LaidLaws
namespace Go.Proofs.YthgmanncmekeeaaDoor
set_option linter.unusedVariables false
open Go.ChangeShapes Go.WideShapes Go.ChangeAt Go.RowKit Go.Deep
namespace Sc
theorem listed_readsE {P : Program} {w : World} : ∀ {l : List (String × DataW Unit)} {ps : List MemPlace}, DataW.LaidVars P w l ps → ∀ n d, (n, d) ∈ l →
    ∃ g t cs fuel p, P.globalNamed n = some g ∧ (P.globals[g]?).map (·.type) = some t ∧ w.var? P n = some cs ∧ DataW.trod (fun _ => ()) P w 0 (fun _ => true) false fuel t cs.toList = some (d, p)
  | [], _, _, _, _, hm => by cases hm
  | (_, _) :: _, _, ⟨g, t, cs, fuel, p, _, h1, h2, h3, h4, h5, _⟩, n, d, hm => by
    rcases List.mem_cons.1 hm with e | e
    · cases e
      exact ⟨g, t, cs, fuel, p, h1, h2, h3, h4⟩
    · exact listed_readsE h5 n d e
theorem size_of_varE {P : Program} {w : World} {n : String} {g : Nat} {cs : Array Value} (hg : P.globalNamed n = some g) (h : w.var? P n = some cs) : g < w.heap.size := by
  simp only [World.var?, hg, Option.bind_some] at h
  split at h
  · rename_i hh; exact (Array.getElem?_eq_some_iff.1 hh).1
  · cases h
theorem err_cell {W : World} {n : String} {g : Nat} {nm : String} {d : DataW Unit} {l : List (String × DataW Unit)} {ps : List MemPlace} (k1 : Tryd.prog.globalNamed n = some g) (k2 : (Tryd.prog.globals[g]?).map (·.type) = some 53) (hv : DataW.LaidVars Tryd.prog W l ps) (hm : (n, .iface nm d) ∈ l) :
    ∃ ev, W.cell? ⟨g, 0, none⟩ = some ev ∧ (ev = .nilIface ∨ ∃ te pe, ev = .iface te pe) := by
  obtain ⟨g', t, cs, fuel, p, hg, hty, hvar, hd⟩ := listed_readsE hv _ _ hm
  obtain rfl := Option.some.inj (k1.symm.trans hg)
  obtain rfl := Option.some.inj (k2.symm.trans hty)
  obtain ⟨f1, u, v, hcs, _, _⟩ := iface_of_trod Tryd.underlying53 hd
  refine ⟨.iface u v, ?_, .inr ⟨u, v, rfl⟩⟩
  have := World.var?_cell hg hvar 0
  rw [this, ← Array.getElem?_toList, hcs]
  rfl
theorem env_of {W : World} {l : List (String × DataW Unit)} (h : laidMet Tryd.prog l W) (m1 : ("internal/strconv.uint64pow10", (Rows.laid_internal_strconv_uint64pow10 : DataW Unit)) ∈ l) (m2 : ("strconv.ErrSyntax", (Rows.laid_strconv_ErrSyntax : DataW Unit)) ∈ l) (m3 : ("strconv.ErrRange", (Rows.laid_strconv_ErrRange : DataW Unit)) ∈ l) : EnvAt W := by
  obtain ⟨_, hv, _⟩ := h
  have k1 : Tryd.prog.globalNamed "internal/strconv.uint64pow10" = some 0 := by kernel_rfl
  have k2 : (Tryd.prog.globals[0]?).map (·.type) = some 107 := by kernel_rfl
  obtain ⟨g, t, cs, fuel, p, hg, hty, hvar, hd⟩ := listed_readsE hv _ _ m1
  obtain rfl := Option.some.inj (k1.symm.trans hg)
  obtain rfl := Option.some.inj (k2.symm.trans hty)
  have e : (Rows.laid_internal_strconv_uint64pow10 : DataW Unit) = Lib.tabData .u64 Lib.pow10Tab := by kernel_rfl
  rw [e] at hd
  refine ⟨?_, size_of_varE hg hvar, err_cell (g := 6) (by kernel_rfl) (by kernel_rfl) hv m2, err_cell (g := 7) (by kernel_rfl) (by kernel_rfl) hv m3⟩
  unfold Lib.TabIs
  rw [hvar, ← Lib.cells_of_tab Tryd.underlying107 Tryd.underlying31 (by kernel_rfl) (by kernel_rfl) hd]
theorem wf_i {n : Int} (h : (Lit.int .i64 n).wf = true) : -9223372036854775808 ≤ n ∧ n ≤ 9223372036854775807 := by
  have e1 : IntKind.i64.min = -9223372036854775808 := by decide
  have e2 : IntKind.i64.max = 9223372036854775807 := by decide
  simp only [Lit.wf, e1, e2, Bool.and_eq_true, decide_eq_true_eq] at h
  exact h
theorem wf_u {n : Int} (h : (Lit.int .u64 n).wf = true) : 0 ≤ n ∧ n ≤ 18446744073709551615 := by
  have e1 : IntKind.u64.min = 0 := by decide
  have e2 : IntKind.u64.max = 18446744073709551615 := by decide
  simp only [Lit.wf, e1, e2, Bool.and_eq_true, decide_eq_true_eq] at h
  exact h
/-- The kind of an event's cell. -/
def evK (j : Nat) : IntKind := if j < 3 then .i64 else if j < 12 then .u64 else .i64
theorem evK_at : ∀ j, j < 15 → kindAt Tryd.prog 9 36 j = some (.i (evK j)) := by
  intro j hj
  obtain rfl | rfl | rfl | rfl | rfl | rfl | rfl | rfl | rfl | rfl | rfl | rfl | rfl | rfl | rfl : j = 0 ∨ j = 1 ∨ j = 2 ∨ j = 3 ∨ j = 4 ∨ j = 5 ∨ j = 6 ∨ j = 7 ∨ j = 8 ∨ j = 9 ∨ j = 10 ∨ j = 11 ∨ j = 12 ∨ j = 13 ∨ j = 14 := by omega
  all_goals kernel_rfl
theorem evA_at (c : Ev) : ∀ j, j < 15 → (evA c).toList[j]? = some (.int (evK j) (c j)) := by
  intro j hj
  obtain rfl | rfl | rfl | rfl | rfl | rfl | rfl | rfl | rfl | rfl | rfl | rfl | rfl | rfl | rfl : j = 0 ∨ j = 1 ∨ j = 2 ∨ j = 3 ∨ j = 4 ∨ j = 5 ∨ j = 6 ∨ j = 7 ∨ j = 8 ∨ j = 9 ∨ j = 10 ∨ j = 11 ∨ j = 12 ∨ j = 13 ∨ j = 14 := by omega
  all_goals rfl
set_option maxRecDepth 100000 in
/-- What a handed-in row of events is. -/
theorem open_s22 {H : Type} {enc : TypeId × Value → H} {W : World} {base : Nat} {v : Value} {d : DataW H} {ps : List MemPlace} (hval : Value.okWide Tryd.prog W .any base 22 v) (hd : DataW.Trod enc Tryd.prog W 0 (fun _ => true) true 22 v d ps) :
    ∃ p n c, v = .slice p n c ∧ n ≤ c ∧ c ≤ maxLen ∧ ∃ L : List Ev, L.length = n ∧ EvM W p L ∧ ∀ e ∈ L, EvG e := by
  obtain ⟨p, n, c, rfl, h1, h2, b, off, h3, h4⟩ := open_rows (C := 15) Tryd.underlying22 (by kernel_rfl) (by kernel_rfl) (by decide) hval hd
  have hev : ∀ k j, k < n → j < 15 → W.cell? ⟨b, off + (k * 15 + j), none⟩ = some (.int (evK j) (intAt W b (off + (k * 15 + j)))) ∧ (Lit.int (evK j) (intAt W b (off + (k * 15 + j)))).wf = true := fun k j hk hj => h4 k hk j (.i (evK j)) (evK_at j hj)
  refine ⟨p, n, c, rfl, h1, h2, (List.range n).map (fun k => fun j => if j < 15 then intAt W b (off + (k * 15 + j)) else 0), by simp, fun k c hc => ?_, fun e he => ?_⟩
  · rw [List.getElem?_map] at hc
    obtain ⟨k', hk', rfl⟩ := Option.map_eq_some_iff.1 hc
    obtain ⟨hkl, rfl⟩ := List.getElem?_eq_some_iff.1 hk'
    simp only [List.length_range] at hkl
    refine ⟨b, off, (h3 (by omega)).1, (h3 (by omega)).2, fun j u hu => ?_⟩
    have hj : j < 15 := (List.getElem?_eq_some_iff.1 hu).1
    have := evA_at (fun j => if j < 15 then intAt W b (off + ((List.range n)[k] * 15 + j)) else 0) j hj
    rw [show evT _ = (evA _).toList from rfl, this] at hu
    cases hu
    rw [if_pos hj, List.getElem_range, Nat.add_assoc]
    exact (hev k j (by omega) hj).1
  · obtain ⟨k, hk, rfl⟩ := List.mem_map.1 he
    have hkn : k < n := List.mem_range.1 hk
    refine ⟨fun i h3 h11 => ?_, fun i => ?_⟩
    · have := (hev k i hkn (by omega)).2
      have hK : evK i = .u64 := by unfold evK; rw [if_neg (by omega), if_pos (by omega)]
      rw [hK] at this
      have := wf_u this
      simp only [if_pos (show i < 15 by omega)]
      omega
    · by_cases hi : i < 15
      · have := (hev k i hkn hi).2
        simp only [if_pos hi]
        unfold evK at this
        split at this
        · have := wf_i this; omega
        · split at this
          · have := wf_u this; omega
          · have := wf_i this; omega
      · simp only [if_neg hi]; omega
theorem EvM.at {w : World} {p : Option Addr} {n cap : Nat} {L : List Ev} (h : EvM w p L) (hn : L.length = n) : EvsAt w (.slice p n cap) L := by
  refine ⟨p, cap, by rw [hn], fun hp => ?_, fun a ha => ⟨fun hl => ?_, fun i c hc j u hu => ?_⟩⟩
  · cases L with
    | nil => rfl
    | cons c L =>
      obtain ⟨g, o, e, _⟩ := h 0 c rfl
      rw [hp] at e; cases e
  · obtain ⟨g, o, e, h2, _⟩ := h 0 _ (List.getElem?_eq_getElem hl)
    rw [ha] at e; cases e
    exact h2
  · obtain ⟨g, o, e, h2, h3⟩ := h i c hc
    rw [ha] at e; cases e
    have := h3 j u hu
    rw [addr_mid, addr_mid]
    exact this
end Sc
end Go.Proofs.YthgmanncmekeeaaDoor
