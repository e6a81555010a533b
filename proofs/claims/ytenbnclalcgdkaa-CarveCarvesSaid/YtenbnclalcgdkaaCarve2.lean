/- carve.Carve, where it cuts: what it hands back. -/
import Derived.Test.YtenbnclalcgdkaaCarve
namespace Go.Proofs.Ytenbnclalcgdkaa
set_option linter.unusedVariables false
open Go.ChangeShapes Go.WideShapes Go.ChangeAt Go.RowKit Go.Shelf
attribute [local go_sem] Oper.semAt_some

theorem ownsRow_le {W : World} {lo hi : Nat} {e : TypeId} {size : Nat} {v : Value} {n : Nat} {xs : List Value} (h : W.ownsRow hi e size v n xs) (hle : lo ≤ hi) : W.ownsRow lo e size v n xs :=
  ⟨h.1, h.2.imp id fun ⟨g, cap, cur, a, b, c⟩ => ⟨g, cap, cur, a, Nat.le_trans hle b, c⟩⟩
theorem ownsRow_ne {W : World} {hi k : Nat} {e : TypeId} {size : Nat} {v : Value} {n : Nat} {xs : List Value} (h : W.ownsRow hi e size v n xs) (hk : k < hi) : some k ≠ v.ownBlock := by
  rcases h.2 with ⟨rfl, _⟩ | ⟨g, cap, cur, rfl, hg, _⟩
  · simp [Value.ownBlock]
  · simp [Value.ownBlock]; omega
theorem pieces_stops (n : Nat) (hn : 1 ≤ n) (B : Nat) (m e : Int) (c : Nat) (m0 : 0 ≤ m) (m1 : m ≤ 64) (e0 : 1 ≤ e) (e1 : e ≤ 64) (c1 : c ≤ 4) (w : World) (hm : Boxed w B 3 (.int .i64 m)) (he : Boxed w (B + 1) 3 (.int .i64 e)) (hc : Boxed w (B + 2) 3 (.int .i64 c)) :
    SeqStopsK Fence.wide n Try.prog 33 #[.pointer (some ⟨B + 2, 0, none⟩), .pointer (some ⟨B, 0, none⟩), .pointer (some ⟨B + 1, 0, none⟩)] (fun x : Int => #[Value.int .i64 x]) (KpB B) (fun ys => ys = firsts m e c) (fun _ => True) 4 w := fun l J Jx W hW _ _ hY h0 =>
  piece1_in n hn l B m e c m0 m1 e0 e1 c1 J Jx hY W ((hW.block _ hm.lt).trans hm) ((hW.block _ he.lt).trans he) ((hW.block _ hc.lt).trans hc) h0
theorem kpB_b {B : Nat} {w : World} (hB : B + 3 ≤ w.heap.size) (W : World) (l : Nat) (o o' : Obj) (hl : w.heap.size ≤ l) (h : W.heap[l]? = some o) (_ : o.isCells = false) (_ : o.isWalk = false) : KpB B W (W.putObj l o') := fun k h1 h2 => by
  have hlt := (Array.getElem?_eq_some_iff.1 h).1
  exact (grownBy_putObj' W l o').block k (by omega) (by simp; omega)

theorem infoInt : (Try.prog.info? 3).map (fun i => (i.zero, i.size, i.bytes)) = some (some (.int .i64 0), 1, 8) := by kernel_rfl

set_option maxRecDepth 100000 in
set_option maxHeartbeats 4000000 in
theorem carve_in (t m e : Int) (c : Nat) (w : World) (h0 : 0 ≤ t) (h1 : t ≤ 64) (h2 : 0 ≤ m) (h3 : m ≤ t) (h4 : 1 ≤ e) (h5 : e ≤ 64) (h6 : 1 ≤ c) (h7 : c ≤ 4) (h8 : c * e ≤ t - m) (h9 : 0 ≤ c * e) :
    CallsIn Fence.wide 3 Try.prog 18 #[.int .i64 t, .int .i64 m, .int .i64 e, .int .i64 c] w fun e' W' => ∃ v, e' = .returned (.tuple #[v, .int .i64 (m + c * e), .int .i64 0]) ∧
      W'.ownsRow w.heap.size 3 1 v c ((firsts m e c).map (Value.int .i64)) ∧ Below w.heap.size w W' := by
  obtain ⟨i0, hi, hz0, hz1, hz2⟩ := info_parts infoInt
  refine callsIn_of_wp_marks Try.func18 rfl trivial ?_ rfl
  simp only [Try.ntmps18, List.size_toArray, List.length_cons, List.length_nil, Nat.reduceAdd, Nat.reduceSub, Array.replicate_succ, Array.replicate_zero, List.push_toArray, List.append_toArray, List.nil_append, List.cons_append]
  gi_wp2_with (refine ⟨trivial, ?_⟩; gi_at_call 29; refine (pieces_in _ _ _ _ _).mono ?_; rintro e' w' ⟨rfl, rfl⟩)
  have b0 : Boxed ((((w.alloc (.cells #[.slice none 0 0] 34)).alloc (.cells #[.int .i64 m] 3)).alloc (.cells #[.int .i64 e] 3)).alloc (.cells #[.int .i64 c] 3)) w.heap.size 34 (.slice none 0 0) := (((Boxed.new w _ _).alloc _).alloc _).alloc _
  have b1 : Boxed ((((w.alloc (.cells #[.slice none 0 0] 34)).alloc (.cells #[.int .i64 m] 3)).alloc (.cells #[.int .i64 e] 3)).alloc (.cells #[.int .i64 c] 3)) (w.heap.size + 1) 3 (.int .i64 m) := by
    have := Boxed.new (w.alloc (.cells #[.slice none 0 0] 34)) 3 (.int .i64 m)
    rw [World.size_alloc] at this
    exact (this.alloc _).alloc _
  have b2 : Boxed ((((w.alloc (.cells #[.slice none 0 0] 34)).alloc (.cells #[.int .i64 m] 3)).alloc (.cells #[.int .i64 e] 3)).alloc (.cells #[.int .i64 c] 3)) (w.heap.size + 1 + 1) 3 (.int .i64 e) := by
    have := Boxed.new ((w.alloc (.cells #[.slice none 0 0] 34)).alloc (.cells #[.int .i64 m] 3)) 3 (.int .i64 e)
    rw [World.size_alloc, World.size_alloc] at this
    exact this.alloc _
  have b3 : Boxed ((((w.alloc (.cells #[.slice none 0 0] 34)).alloc (.cells #[.int .i64 m] 3)).alloc (.cells #[.int .i64 e] 3)).alloc (.cells #[.int .i64 c] 3)) (w.heap.size + 1 + 2) 3 (.int .i64 c) := by
    have := Boxed.new (((w.alloc (.cells #[.slice none 0 0] 34)).alloc (.cells #[.int .i64 m] 3)).alloc (.cells #[.int .i64 e] 3)) 3 (.int .i64 c)
    rw [World.size_alloc, World.size_alloc, World.size_alloc] at this
    exact this
  have hB0 : Below w.heap.size w ((((w.alloc (.cells #[.slice none 0 0] 34)).alloc (.cells #[.int .i64 m] 3)).alloc (.cells #[.int .i64 e] 3)).alloc (.cells #[.int .i64 c] 3)) := bal (bal (bal (bal (Below.refl _ _) _) _) _) _
  refine wpIn_rangeFunc_ownG rfl (by omega) (gf := 33) (lb := #[.pointer (some ⟨w.heap.size + 1 + 2, 0, none⟩), .pointer (some ⟨w.heap.size + 1, 0, none⟩), .pointer (some ⟨w.heap.size + 1 + 1, 0, none⟩)]) rfl trivial (enters_of Try.func33 (by kernel_rfl) rfl)
    (pieces_stops (3 - 1) (by omega) (w.heap.size + 1) m e c h2 (by omega) h4 h5 h7 _ b1 b2 b3) kpB_t (kpB_b (by simp)) (Below.refl _ _) (fun _ => rfl)
    (fun (pre : List Int) W => ((∃ v, Boxed W w.heap.size 34 v ∧ W.ownsRow (w.heap.size + 4) 3 1 v pre.length (pre.map (Value.int .i64)) ∧ True) ∧ w.heap.size + 4 ≤ W.heap.size) ∧ Below w.heap.size w W)
    (fun _ _ _ => False)
    (OwnFrom.and (OwnFrom.and (Own.from (holdsRow_own (w.heap.size + 4) w.heap.size 34 3 1 (fun pre : List Int => pre.length) (fun pre : List Int => pre.map (Value.int .i64)) (fun _ _ => True)) _) (Own.from (fun s A B row hs hg hr => Nat.le_trans hs hg.size) _)) (ownFrom_below (Nat.le_refl _) (by simp; omega)))
    (fun _ _ _ _ _ hs _ _ => hs)
    ⟨⟨⟨_, b0, World.ownsRow_nil _ _ _ _, trivial⟩, by simp⟩, hB0⟩
    (fun x => { tmps := #[Value.int IntKind.i64 t, Value.int IntKind.i64 m, Value.int IntKind.i64 e, Value.int IntKind.i64 (c : Int), undef, undef, undef, undef, Value.slice none 0 0, Value.int IntKind.i64 0, Value.int IntKind.i64 0, Value.pointer (some ⟨w.heap.size, 0, none⟩), Value.int IntKind.i64 x, Value.int IntKind.i64 t, Value.bool (decide (t < 0)), Value.bool (decide (t < 0)), Value.int IntKind.i64 t, Value.bool (decide (64 < t)), Value.bool (decide (t < 0) || decide (64 < t)), Value.bool (decide (t < 0) || decide (64 < t)), Value.int IntKind.i64 m, Value.bool (decide (m < 0)), Value.bool (decide (t < 0) || decide (64 < t) || decide (m < 0)), Value.bool (decide (t < 0) || decide (64 < t) || decide (m < 0)), Value.int IntKind.i64 m, Value.int IntKind.i64 t, Value.bool (decide (t < m)), Value.bool (decide (t < 0) || decide (64 < t) || decide (m < 0) || decide (t < m)), Value.int IntKind.i64 e, Value.bool (decide (e < 1)), Value.bool (decide (e < 1)), Value.int IntKind.i64 e, Value.bool (decide (64 < e)), Value.bool (decide (e < 1) || decide (64 < e)), Value.bool (decide (e < 1) || decide (64 < e)), Value.int IntKind.i64 (c : Int), Value.bool (decide ((c : Int) < 1)), Value.bool (decide (e < 1) || decide (64 < e) || decide ((c : Int) < 1)), Value.bool (decide (e < 1) || decide (64 < e) || decide ((c : Int) < 1)), Value.int IntKind.i64 (c : Int), Value.bool (decide (4 < (c : Int))), Value.bool (decide (e < 1) || decide (64 < e) || decide ((c : Int) < 1) || decide (4 < (c : Int))), Value.int IntKind.i64 (c : Int), Value.int IntKind.i64 e, Value.int IntKind.i64 ((c : Int) * e), Value.int IntKind.i64 t, Value.int IntKind.i64 m, Value.int IntKind.i64 (t - m), Value.bool (decide (t - m < (c : Int) * e)), Value.int IntKind.i64 m, Value.int IntKind.i64 e, Value.int IntKind.i64 (c : Int), Value.func (Fn.func 33) #[] #[Value.pointer (some ⟨w.heap.size + 1 + 2, 0, none⟩), Value.pointer (some ⟨w.heap.size + 1, 0, none⟩), Value.pointer (some ⟨w.heap.size + 1 + 1, 0, none⟩)], Value.int IntKind.i64 x, undef, undef, undef, undef, undef, undef, undef, undef, undef, undef], defers := [] }) ?assign ?body ?done ?stop
  case assign =>
    intro l x W K hK
    gi_wp2
    exact hK
  case body =>
    rintro l pre x W ⟨⟨⟨v, hv, hrow, -⟩, hsz⟩, hB⟩ hlt
    have hc := hv.cell
    gi_wp2_with (gi_at_builtin; refine wpListIn_append_own _ rfl _ _ 34 rfl (w.heap.size + 4) 3 i0 (.int .i64 0) 1 8 Try.underlying34 hi hz0 hz1 hz2 rfl (by decide) _ _ _ rfl (hrow.alloc _) ⟨W.heap.size, 0, none⟩ 1 1 [.int .i64 x] rfl rfl (cell_one_new _ _ _) (by simp [Value.oneCell']) (by unfold maxLen; omega) (by omega) (by simp; omega) ?_; intro v' w1 hown' hgrow _; obtain ⟨g', cap', rfl⟩ := ownsRow_succ hown'; obtain ⟨hv1, hv2, hr2, hk2, hb2⟩ := hv.appended (by decide) (ownsRow_le hrow (Nat.le_add_right _ 4)) hB.size (Nat.le_refl _) (ownsRow_le hown' (Nat.le_add_right _ 4)) hgrow; have hc1 := hv1.cell; have hf1 := hv1.frozen)
    have hr3 := hown'.kept (grownBy_setCell' w1 w.heap.size (.slice (some ⟨g', 0, none⟩) (pre.length + 1) cap')) (.inr (hv1.not_row (by decide) hown').symm)
    exact ⟨hk2.from _, fun k e1 e2 => (Go.heap_setCell_other _ _ _ _ (by simp; omega)).trans ((hgrow.block k (by simp; omega) (ownsRow_ne hrow (by omega))).trans (Below.heap_alloc _ _ _ (by omega))), ⟨⟨_, hv2, by simpa using hr3, trivial⟩, by have := hgrow.size; simp at this ⊢; omega⟩, hB.trans hb2⟩
  case done =>
    rintro D ys W hD rfl ⟨⟨⟨v, hv, hrow, -⟩, hsz⟩, hB⟩ hK
    have hc := hv.cell
    gi_wp2
    refine ⟨by simp, .inl ⟨_, _, rfl, run_takeDeferred hK, ?_⟩⟩
    rw [firsts_len] at hrow
    refine ⟨.tuple #[v, .int .i64 (m + c * e), .int .i64 0], ?_, v, rfl, ownsRow_putObj (ownsRow_le hrow (Nat.le_add_right _ 4)) _ hK rfl, hB.trans (belowK_b (w := w) (Nat.le_refl _) W D _ _ (by simp at hD; omega) hK rfl rfl)⟩
    simp [results, Try.f18, go_sem]
  case stop =>
    rintro D c pre W _ _ h _
    exact h.elim
end Go.Proofs.Ytenbnclalcgdkaa
