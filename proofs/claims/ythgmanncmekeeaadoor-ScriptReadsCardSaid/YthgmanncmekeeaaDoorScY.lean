/- chapter 35: a text read, by the package: where it is too long. -/
import Derived.Test.YthgmanncmekeeaaDoorScX
import Derived.BigFrameIn
import Derived.WalkMore
namespace Go.Proofs.YthgmanncmekeeaaDoor
set_option linter.unusedVariables false
set_option linter.unusedSimpArgs false
open Go.ChangeShapes Go.WideShapes Go.ChangeAt Go.RowKit Go.Shelf
attribute [-go_sem] binOp_string_add binOp_string_eql binOp_string_neq run_index_string
attribute [local go_sem] Sc.bs_size
attribute [local go_sem] Oper.semAt_some
namespace Sc
theorem wpIn_scope_wide {n : Nat} {P : Program} {c : Code} {Q : Exit → Act → World → Prop} {a : Act} {w : World} (h : c.wpIn Fence.wide n P (Exit.noGoto Q) a w) : (Code.scope c).wpIn Fence.wide n P Q a w :=
  wpIn_wide.2 (wp_scope_straight (wpIn_wide.1 h))
set_option maxRecDepth 100000 in
theorem parse_long (s : Bs) (h : 65536 < s.length) (w : World) : Calls Tryd.prog 14 #[.string (bs s)] w fun e w' => e = .returned (.tuple #[.slice none 0 0, .int .i64 0, .int .i64 11]) ∧ Below w.heap.size w w' := by
  have hi : ((65536 : Int) < (s.length : Int)) = True := by rw [eq_iff_iff, iff_true]; omega
  clear h
  go_enter Tryd.func14, Tryd.ntmps14
  go_wp2
  go_step3
  go_wp2
  (try rw [Exit.noGoto_ret])
  exact bodyPost_ret (v := .tuple #[.slice none 0 0, .int .i64 0, .int .i64 11]) (by simp [results, Tryd.results14, go_sem]) rfl ⟨rfl, Below.refl _ _⟩
theorem addr_mid (b o j : Nat) : (⟨b, o, none⟩ : Addr).add j = ⟨b, o + j, none⟩ := by unfold Addr.add; split <;> simp_all
def evsC (L : List Ev) : List Value := L.flatMap (fun c => (evA c).toList)
theorem evsC_cons (c : Ev) (L : List Ev) : evsC (c :: L) = (evA c).toList ++ evsC L := rfl
theorem evsC_len : ∀ L : List Ev, (evsC L).length = L.length * 15
  | [] => rfl
  | c :: L => by rw [evsC_cons, List.length_append, evsC_len L, List.length_cons, Nat.succ_mul]; show 15 + _ = _; omega
theorem evsC_snoc (L : List Ev) (c : Ev) : evsC (L ++ [c]) = evsC L ++ (evA c).toList := by unfold evsC; simp
theorem evsC_get : ∀ (L : List Ev) (i : Nat) (c : Ev) (j : Nat) (u : Value), L[i]? = some c → (evA c).toList[j]? = some u → (evsC L)[i * 15 + j]? = some u
  | [], i, c, j, u, h, _ => by simp at h
  | d :: L, 0, c, j, u, h, hj => by
    obtain rfl : d = c := by simpa using h
    have hl : j < (evA d).toList.length := (List.getElem?_eq_some_iff.1 hj).1
    rw [evsC_cons, Nat.zero_mul, Nat.zero_add, List.getElem?_append_left hl]
    exact hj
  | d :: L, i + 1, c, j, u, h, hj => by
    have e : (i + 1) * 15 + j = 15 + (i * 15 + j) := by omega
    rw [evsC_cons, e, List.getElem?_append_right (by show 15 ≤ _; omega)]
    have : 15 + (i * 15 + j) - (evA d).toList.length = i * 15 + j := by show 15 + (i * 15 + j) - 15 = _; omega
    rw [this]
    exact evsC_get L i c j u (by simpa using h) hj
theorem evsC_one (L : List Ev) : ∀ u ∈ evsC L, u.oneCell' = true := by
  intro u hu
  unfold evsC at hu
  obtain ⟨c, -, hc⟩ := List.mem_flatMap.1 hu
  have := ev_one c
  rw [Array.all_eq_true_iff_forall_mem] at this
  exact this u (by simpa using hc)
/-- What a text reads as: its events, the first line that is none, the error. -/
def parseE (s : Bs) : List Ev × Int × Int := if 65536 < s.length then ([], 0, 11) else match (lns 10 s).findIdx? (fun l => (evOf l).isNone) with
  | none => ((lns 10 s).filterMap evOf, 0, 0)
  | some i => ([], (i : Int) + 1, 5)
theorem parseE_done {s : Bs} (h : s.length ≤ 65536) (ha : ∀ l ∈ lns 10 s, (evOf l).isNone = false) : parseE s = ((lns 10 s).filterMap evOf, 0, 0) := by
  unfold parseE
  rw [if_neg (by omega), List.findIdx?_eq_none_iff.2 ha]
theorem parseE_stop {s : Bs} (h : s.length ≤ 65536) (k : Nat) (hk : k < (lns 10 s).length) (hb : (evOf ((lns 10 s)[k]'hk)).isNone = true) (ha : ∀ j (hj : j < k), (evOf ((lns 10 s)[j]'(by omega))).isNone = false) : parseE s = ([], (k : Int) + 1, 5) := by
  unfold parseE
  have : (lns 10 s).findIdx? (fun l => (evOf l).isNone) = some k := List.findIdx?_eq_some_iff_getElem.2 ⟨hk, hb, fun j hj => by rw [ha j hj]; decide⟩
  rw [if_neg (by omega), this]
theorem parseE_long {s : Bs} (h : 65536 < s.length) : parseE s = ([], 0, 11) := by unfold parseE; rw [if_pos h]
/-- A row that the package has made of events, read as a row of events. -/
theorem evsAt_own {w : World} {B : Nat} {v : Value} {L : List Ev} (h : w.ownsRow B 36 15 v L.length (evsC L)) : EvsAt w v L := by
  have hlt := h.lt
  have hcs := fun g hg => h.cells (g := g) hg
  obtain ⟨hl, e | ⟨g, cap, cur, rfl, hg, hblk, h1, h2, h3, h4⟩⟩ := h
  · exact ⟨none, 0, (by rw [e.1, e.2]), fun _ => List.length_eq_zero_iff.1 e.2, fun a ha => (by cases ha)⟩
  · refine ⟨some ⟨g, 0, none⟩, cap, rfl, fun q => (by cases q), fun a ha => ?_⟩
    obtain rfl := Option.some.inj ha
    refine ⟨fun _ => (hlt g rfl).2, fun i c hc j u hu => ?_⟩
    have := hcs g rfl _ _ (evsC_get L i c j u hc hu)
    rw [addr_add] at this
    rw [addr_add, addr_mid]
    exact this
end Sc
end Go.Proofs.YthgmanncmekeeaaDoor
