/- package asid: the two iterators; Of and Root. -/
import Derived.Test.YtfladcnkphcicaaAsid
import Derived.Stop.RegionWithIn
namespace Go.Proofs.Ytfladcnkphcicaa
set_option linter.unusedVariables false
set_option linter.unusedSimpArgs false
open Go.ChangeShapes Go.WideShapes Go.ChangeAt Go.RowKit Go.Shelf
attribute [local go_sem] Oper.semAt_some
/-- The numbers below k that have a root. -/
def asgTo (N : Nums) : Nat → List (Fin 32)
  | 0 => []
  | k + 1 => if h : k < 32 ∧ (N k).1 ≠ 0 then asgTo N k ++ [⟨k, h.1⟩] else asgTo N k
theorem asg_mem {N : Nums} {y : Fin 32} : ∀ {k : Nat}, k ≤ 32 → (y ∈ asgTo N k ↔ y.1 < k ∧ (N y.1).1 ≠ 0)
  | 0, _ => by simp [asgTo]
  | k + 1, h => by
    unfold asgTo
    have ih := asg_mem (N := N) (y := y) (k := k) (by omega)
    split
    · rename_i hc
      rw [List.mem_append, ih]
      simp only [List.mem_singleton]
      constructor
      · rintro (⟨a, c⟩ | rfl)
        · exact ⟨by omega, c⟩
        · exact ⟨by simp, hc.2⟩
      · rintro ⟨a, c⟩
        rcases Nat.lt_or_ge y.1 k with g | g
        · exact .inl ⟨g, c⟩
        · right
          apply Fin.ext
          simp only
          omega
    · rename_i hc
      rw [ih]
      constructor
      · rintro ⟨a, c⟩
        exact ⟨by omega, c⟩
      · rintro ⟨a, c⟩
        refine ⟨?_, c⟩
        rcases Nat.lt_or_ge y.1 k with g | g
        · exact g
        · exfalso
          have e : y.1 = k := by omega
          exact hc ⟨by omega, e ▸ c⟩
theorem asg_len (N : Nums) : ∀ k, (asgTo N k).length ≤ k
  | 0 => by simp [asgTo]
  | k + 1 => by
    have := asg_len N k
    unfold asgTo
    split
    · simp; omega
    · omega
/-- What an iterator over a block's numbers finds again: that block, and its own box. -/
def KpA (b Bn : Nat) (W W' : World) : Prop := W'.heap[b]? = W.heap[b]? ∧ W'.heap[Bn]? = W.heap[Bn]? ∧ W.heap.size ≤ W'.heap.size
theorem KpA.trans {b Bn : Nat} {A B C : World} (h : KpA b Bn A B) (k : KpA b Bn B C) : KpA b Bn A C := ⟨k.1.trans h.1, k.2.1.trans h.2.1, Nat.le_trans h.2.2 k.2.2⟩
abbrev encA (b : Nat) (x : Fin 32) : Array Value := #[.int .i64 x.1, .pointer (some ⟨b, 9 + x.1 * 3, none⟩)]
theorem assigned_in (n : Nat) (p : Option Addr) (w : World) :
    CallsIn Fence.wide n Try.prog 26 #[.pointer p] w fun e w' => e = .returned (.func (.func 28) #[] #[.pointer (some ⟨w.heap.size, 0, none⟩)]) ∧ w' = w.alloc (.cells #[.pointer p] 24) := by
  refine callsIn_of_wp Try.func26 rfl trivial ?_ rfl
  simp only [Try.ntmps26, List.size_toArray, List.length_cons, List.length_nil, Nat.reduceAdd, Nat.reduceSub, Array.replicate_succ, Array.replicate_zero, List.push_toArray, List.append_toArray, List.nil_append, List.cons_append]
  gi_wp2
  go_ret
  exact ⟨rfl, rfl⟩
theorem assigned1_nil (n : Nat) (l Bn : Nat) (w : World) (hc : w.cell? ⟨Bn, 0, none⟩ = some (.pointer none)) :
    CallsIn Fence.wide n Try.prog 28 (#[.func (.yield l) #[] #[]] ++ #[.pointer (some ⟨Bn, 0, none⟩)]) w fun e w' => (∃ v, e = .returned v) ∧ w' = w := by
  refine callsIn_of_wp Try.func28 rfl trivial ?_ rfl
  simp only [Try.ntmps28, List.size_toArray, List.length_cons, List.length_nil, Nat.reduceAdd, Nat.reduceSub, Array.replicate_succ, Array.replicate_zero, List.push_toArray, List.append_toArray, List.nil_append, List.cons_append]
  gi_wp2
  refine bodyPost_ret (results_none rfl _ _ _) rfl ⟨⟨_, rfl⟩, rfl⟩
set_option maxHeartbeats 1000000 in
theorem assigned1_seq (n b Bn : Nat) (po : Nat → Int) (tk : Int) (N : Nums) (w0 : World) (hA : AsidAt w0 b po tk N) (hn : w0.cell? ⟨Bn, 0, none⟩ = some (.pointer (some ⟨b, 0, none⟩))) (hlt : Bn < w0.heap.size) :
    SeqStopsK Fence.wide (n + 1) Try.prog 28 #[.pointer (some ⟨Bn, 0, none⟩)] (encA b) (KpA b Bn) (fun xs => xs = asgTo N 32) (fun pre => ∃ k, ∃ h : k < 32, (N k).1 ≠ 0 ∧ pre = asgTo N k ++ [⟨k, h⟩]) 32 w0 := by
  intro l J Jx W hB hAb hAx hY h0
  have hK0 : KpA b Bn w0 W := ⟨hB.block b hA.lt, hB.block Bn hlt, hB.size⟩
  have HY := Lib.hid hY
  have HA := Lib.hid hA
  have HN := Lib.hid hn
  clear hY hAb hAx hB hA hn
  refine callsIn_of_wp Try.func28 rfl trivial ?_ rfl
  simp only [Try.ntmps28, List.size_toArray, List.length_cons, List.length_nil, Nat.reduceAdd, Nat.reduceSub, Array.replicate_succ, Array.replicate_zero, List.push_toArray, List.append_toArray, List.nil_append, List.cons_append]
  have hbn : W.cell? ⟨Bn, 0, none⟩ = some (.pointer (some ⟨b, 0, none⟩)) := (cell_of_block hK0.2.1).trans HN.out
  gi_wp2
  clear hbn
  gi_loopw [7] (fun i wr => ∃ k : Nat, k ≤ 32 ∧ i = .int .i64 k ∧ J (asgTo N k) wr ∧ KpA b Bn w0 wr) (fun i _ => 32 - (intOf i).toNat)
  case atStart => exact ⟨0, by omega, rfl, h0, hK0⟩
  case round =>
    obtain ⟨k, hk, rfl, hJ, hK⟩ := hrel
    have hbn : wr.cell? ⟨Bn, 0, none⟩ = some (.pointer (some ⟨b, 0, none⟩)) := (cell_of_block hK.2.1).trans HN.out
    by_cases hlt : k < 32
    · have hlt' : (k : Int) < 32 := by omega
      obtain ⟨c0, c1, c2⟩ := (HA.out.of_block hK.2.2 hK.1).num k hlt
      by_cases hz : (N k).1 = 0
      · have hs : asgTo N (k + 1) = asgTo N k := by
          show (if h : k < 32 ∧ (N k).1 ≠ 0 then asgTo N k ++ [⟨k, h.1⟩] else asgTo N k) = _
          rw [dif_neg (fun h => h.2 hz)]
        have HS := Lib.hid hs
        rw [hz] at c0
        clear hs hz
        gi_wp2
        refine ⟨fun _ h => (by cases h), ?_⟩
        gi_wp2
        go_roundw
        case rel => exact ⟨k + 1, by omega, by go_num, by rw [HS.out]; exact hJ, hK⟩
        case measure => simp [intOf]; omega
      · have hs : asgTo N (k + 1) = asgTo N k ++ [⟨k, hlt⟩] := by
          show (if h : k < 32 ∧ (N k).1 ≠ 0 then asgTo N k ++ [⟨k, h.1⟩] else asgTo N k) = _
          rw [dif_pos ⟨hlt, hz⟩]
        have HS := Lib.hid hs
        have hz' : ((N k).1 == 0) = false := beq_eq_false_iff_ne.2 hz
        have HZ := Lib.hid hz
        clear hs hz
        obtain ⟨fn, tmps, assign, body, hy, hR⟩ := HY.out _ (⟨k, hlt⟩ : Fin 32) wr hJ (Nat.lt_of_le_of_lt (asg_len N k) hlt)
        (try dsimp only at hy)
        have HR := Lib.hid hR
        clear hR
        gi_wp2
        refine HR.out.mono ?_
        rintro e W' (⟨rfl, hJ', hK'⟩ | ⟨rfl, hJx⟩)
        · gi_wp2
          go_roundw
          case rel => exact ⟨k + 1, by omega, by go_num, by rw [HS.out]; exact hJ', hK.trans hK'⟩
          case measure => simp [intOf]; omega
        · gi_wp2
          first
            | refine bodyPost_ret (results_none rfl _ _ _) rfl ?_
            | go_end0
          exact ⟨⟨_, rfl⟩, .inr ⟨_, ⟨k, hlt, HZ.out, rfl⟩, hJx⟩⟩
    · obtain rfl : k = 32 := by omega
      gi_wp2
      go_end0
      exact ⟨⟨_, rfl⟩, .inl ⟨_, rfl, hJ⟩⟩
/-- The number of a root; the root of a serial. -/
def ofP (N : Nums) (r : Int) (k : Nat) : Bool := (N k).1 != 0 && (N k).1 == r
def ofR (N : Nums) (r : Int) : Int × Int × Bool := match (List.range 32).find? (ofP N r) with
  | some k => (k, (N k).2.1, true)
  | none => (0, 0, false)
def rootP (N : Nums) (s : Int) (k : Nat) : Bool := (N k).1 != 0 && (N k).2.1 == s
def rootR (N : Nums) (s : Int) : Int × Int × Bool := match (List.range 32).find? (rootP N s) with
  | some k => ((N k).1, k, true)
  | none => (0, 0, false)
theorem of_yes {N : Nums} {r : Int} {k : Nat} (hk : k < 32) (h : ofP N r k = true) (hb : ∀ j, j < k → ofP N r j = false) : ofR N r = ((k : Int), (N k).2.1, true) := by
  unfold ofR
  rw [find_range hk h hb]
theorem of_no {N : Nums} {r : Int} (h : ∀ j, j < 32 → ofP N r j = false) : ofR N r = (0, 0, false) := by
  unfold ofR
  rw [find_range_none h]
theorem root_yes {N : Nums} {r : Int} {k : Nat} (hk : k < 32) (h : rootP N r k = true) (hb : ∀ j, j < k → rootP N r j = false) : rootR N r = ((N k).1, (k : Int), true) := by
  unfold rootR
  rw [find_range hk h hb]
theorem root_no {N : Nums} {r : Int} (h : ∀ j, j < 32 → rootP N r j = false) : rootR N r = (0, 0, false) := by
  unfold rootR
  rw [find_range_none h]
/-- Where Of's own boxes lie, behind some numbers. -/
structure OfAt (w : World) (b : Nat) (po : Nat → Int) (tk : Int) (N : Nums) (q : Fin 32 → Bool) (r : Int) (pre : List (Fin 32)) (W : World) : Prop where
  asid : AsidAt W b po tk N
  arg : W.cell? ⟨w.heap.size, 0, none⟩ = some (.int .i64 r)
  r0 : W.cell? ⟨w.heap.size + 1, 0, none⟩ = some (.int .i64 0) ∧ W.frozen? ⟨w.heap.size + 1, 0, none⟩ = false
  r1 : W.cell? ⟨w.heap.size + 2, 0, none⟩ = some (.int .i64 0) ∧ W.frozen? ⟨w.heap.size + 2, 0, none⟩ = false
  r2 : W.cell? ⟨w.heap.size + 3, 0, none⟩ = some (.bool false) ∧ W.frozen? ⟨w.heap.size + 3, 0, none⟩ = false
  lt : w.heap.size + 5 ≤ W.heap.size
  below : Below w.heap.size w W
  no : ∀ y ∈ pre, q y = false
/-- What stands there when a number is it. -/
structure OfIx (w : World) (q : Fin 32 → Bool) (v : Fin 32 → Int × Int) (c : Code) (pre : List (Fin 32)) (W : World) : Prop where
  c : c = .ret
  at_ : ∃ p x, pre = p ++ [x] ∧ (∀ y ∈ p, q y = false) ∧ q x = true ∧ W.cell? ⟨w.heap.size + 1, 0, none⟩ = some (.int .i64 (v x).1) ∧ W.cell? ⟨w.heap.size + 2, 0, none⟩ = some (.int .i64 (v x).2) ∧ W.cell? ⟨w.heap.size + 3, 0, none⟩ = some (.bool true)
  lt : w.heap.size + 5 ≤ W.heap.size
  below : Below w.heap.size w W
theorem OfAt.from {w : World} {b : Nat} {po : Nat → Int} {tk : Int} {N : Nums} {q : Fin 32 → Bool} {r : Int} (hb : b < w.heap.size) : OwnFrom (w.heap.size + 5) (OfAt w b po tk N q r) := by
  intro s A B row h hg hr
  have e : ∀ k, k < w.heap.size + 5 → B.heap[k]? = A.heap[k]? := fun k hk => hg.block k (Nat.lt_of_lt_of_le hk h.lt) (fun e => by have := (hr k e.symm).1; omega)
  have sz := hg.size
  exact ⟨h.asid.of_block sz (e b (by omega)), (cell_of_block (e _ (by omega))).trans h.arg, ⟨(cell_of_block (e _ (by omega))).trans h.r0.1, (frozen_of_block (e _ (by omega))).trans h.r0.2⟩, ⟨(cell_of_block (e _ (by omega))).trans h.r1.1, (frozen_of_block (e _ (by omega))).trans h.r1.2⟩, ⟨(cell_of_block (e _ (by omega))).trans h.r2.1, (frozen_of_block (e _ (by omega))).trans h.r2.2⟩, Nat.le_trans h.lt sz,
    ⟨hg.os.trans h.below.os, hg.tape.trans h.below.tape, hg.output.trans h.below.output, Nat.le_trans h.below.size sz, fun k hk => (e k (by omega)).trans (h.below.block k hk)⟩, h.no⟩
theorem OfIx.from {w : World} {q : Fin 32 → Bool} {v : Fin 32 → Int × Int} (c : Code) : OwnFrom (w.heap.size + 5) (OfIx w q v c) := by
  intro s A B row h hg hr
  have e : ∀ k, k < w.heap.size + 5 → B.heap[k]? = A.heap[k]? := fun k hk => hg.block k (Nat.lt_of_lt_of_le hk h.lt) (fun e => by have := (hr k e.symm).1; omega)
  have sz := hg.size
  obtain ⟨p, x, h1, h2, h3, h4, h5, h6⟩ := h.at_
  exact ⟨h.c, ⟨p, x, h1, h2, h3, (cell_of_block (e _ (by omega))).trans h4, (cell_of_block (e _ (by omega))).trans h5, (cell_of_block (e _ (by omega))).trans h6⟩, Nat.le_trans h.lt sz,
    ⟨hg.os.trans h.below.os, hg.tape.trans h.below.tape, hg.output.trans h.below.output, Nat.le_trans h.below.size sz, fun k hk => (e k (by omega)).trans (h.below.block k hk)⟩⟩
theorem OfAt.step {w W : World} {b : Nat} {po : Nat → Int} {tk : Int} {N : Nums} {q : Fin 32 → Bool} {r : Int} {pre : List (Fin 32)} {x : Fin 32} (h : OfAt w b po tk N q r pre W) (hx : q x = false) : OfAt w b po tk N q r (pre ++ [x]) W.drew :=
  ⟨h.asid.of_block (Nat.le_refl _) rfl, h.arg, h.r0, h.r1, h.r2, h.lt, h.below.drew, fun y hy => by
    rcases List.mem_append.1 hy with hy | hy
    · exact h.no y hy
    · rw [List.mem_singleton] at hy
      rw [hy]; exact hx⟩
theorem KeepsOthers.step_drew {A W : World} (h : KeepsOthers A W) : KeepsOthers A W.drew := ⟨h.size, h.same⟩
theorem KeepsOthers.step_set {A W : World} (h : KeepsOthers A W) (a : Addr) (v : Value) : KeepsOthers A (W.setCell a v) := h.trans (KeepsOthers.setCell _ _ _)
theorem KeepsOthers.of_drew (W : World) : KeepsOthers W W.drew := ⟨Nat.le_refl _, fun k o hk _ => hk⟩
theorem heap_putObj_ne {W : World} {l k : Nat} {o : Obj} (h : k ≠ l) : (W.putObj l o).heap[k]? = W.heap[k]? := by
  simp [World.putObj, Array.getElem?_setIfInBounds, h.symm]
set_option maxRecDepth 100000 in
set_option maxHeartbeats 1000000 in
theorem of_in (w : World) (b : Nat) (po : Nat → Int) (tk : Int) (N : Nums) (r : Int) (hA : AsidAt w b po tk N) :
    CallsIn Fence.wide 3 Try.prog 17 #[.pointer (some ⟨b, 0, none⟩), .int .i64 r] w fun e W' => e = .returned (.tuple #[.int .i64 (ofR N r).1, .int .i64 (ofR N r).2.1, .bool (ofR N r).2.2]) ∧ Below w.heap.size w W' := by
  have HA := Lib.hid hA
  have hb := hA.lt
  clear hA
  refine callsIn_of_wp_marks Try.func17 rfl trivial ?_ rfl
  simp only [Try.ntmps17, List.size_toArray, List.length_cons, List.length_nil, Nat.reduceAdd, Nat.reduceSub, Array.replicate_succ, Array.replicate_zero, List.push_toArray, List.append_toArray, List.nil_append, List.cons_append]
  gi_wp2_with (refine ⟨trivial, ?_⟩; gi_at_call 26; refine (assigned_in _ _ _).mono ?_; rintro e w' ⟨rfl, rfl⟩)
  obtain ⟨w1, hw1⟩ : ∃ x, x = ((((w.alloc (.cells #[.int .i64 r] 3)).alloc (.cells #[.int .i64 0] 3)).alloc (.cells #[.int .i64 0] 3)).alloc (.cells #[.bool false] 4)).alloc (.cells #[.pointer (some ⟨b, 0, none⟩)] 24) := ⟨_, rfl⟩
  rw [← hw1]
  have hsz : w1.heap.size = w.heap.size + 5 := by rw [hw1]; simp
  have hb1 : Below w.heap.size w w1 := hw1 ▸ bal (bal (bal (bal (bal (Below.refl _ _) _) _) _) _) _
  have hbx : w1.cell? ⟨w.heap.size + 4, 0, none⟩ = some (.pointer (some ⟨b, 0, none⟩)) := by rw [hw1]; go_simp
  have inv : OfAt w b po tk N (fun y : Fin 32 => (N y.1).1 == r) r [] w1 := by
    refine ⟨HA.out.call hb1, ?_, ⟨?_, ?_⟩, ⟨?_, ?_⟩, ⟨?_, ?_⟩, by omega, hb1, fun _ h => by cases h⟩
    all_goals (rw [hw1]; go_simp; try rfl)
  clear hw1
  have hA1 := HA.out.call hb1
  refine wpIn_rangeFunc_ownF (α := Fin 32) rfl (by decide) (gf := 28) (lb := #[.pointer (some ⟨w.heap.size + 1 + 1 + 1 + 1, 0, none⟩)]) rfl trivial (enters_of Try.func28 (by kernel_rfl) rfl)
    (encs := encA b) (Kp := KpA b (w.heap.size + 4)) (S := fun xs => xs = asgTo N 32) (Sp := fun pre => ∃ k, ∃ h : k < 32, (N k).1 ≠ 0 ∧ pre = asgTo N k ++ [⟨k, h⟩]) (N := 32) (w0 := w1) (assigned1_seq 1 b (w.heap.size + 4) po tk N w1 hA1 hbx (by omega))
    (fun h k => h.trans k) ?hKb (Below.refl _ _) (fun _ => rfl) (OfAt w b po tk N (fun y : Fin 32 => (N y.1).1 == r) r) (OfIx w (fun y : Fin 32 => (N y.1).1 == r) (fun y : Fin 32 => ((y.1 : Int), (N y.1).2.1))) (hsz ▸ OfAt.from hb) (fun c => hsz ▸ OfIx.from c) inv
    (fun x => { tmps := #[.pointer (some ⟨b, 0, none⟩), .int .i64 r, undef, .pointer (some ⟨w.heap.size, 0, none⟩), .pointer (some ⟨w.heap.size + 1, 0, none⟩), .pointer (some ⟨w.heap.size + 1 + 1, 0, none⟩), .pointer (some ⟨w.heap.size + 1 + 1 + 1, 0, none⟩), .int .i64 x.1, .pointer (some ⟨b, 9 + x.1 * 3, none⟩), .pointer (some ⟨b, 0, none⟩), .func (.func 28) #[] #[.pointer (some ⟨w.heap.size + 1 + 1 + 1 + 1, 0, none⟩)], .int .i64 x.1, .pointer (some ⟨b, 9 + x.1 * 3, none⟩), undef, undef, undef, undef, undef, undef, undef, undef, undef, undef, undef], defers := [] }) ?hassign ?hbody ?hdone ?hstop
  case hKb =>
    intro W l o o' hl ho _ _
    exact ⟨heap_putObj_ne (by omega), heap_putObj_ne (by omega), by simp⟩
  case hassign =>
    intro l x W K hK
    gi_wp2
    exact hK
  case hbody =>
    rintro l pre x W hI hlen
    obtain ⟨c0, c1, c2⟩ := hI.asid.num x.1 x.2
    have ca := hI.arg
    obtain ⟨d0, f0⟩ := hI.r0
    obtain ⟨d1, f1⟩ := hI.r1
    obtain ⟨d2, f2⟩ := hI.r2
    have HI := Lib.hid hI
    have hx32 : (x.1 : Int) < 32 := by have := x.2; omega
    clear hI
    cases hq : (fun y : Fin 32 => (N y.1).1 == r) x
    · have hq' := hq
      dsimp only at hq'
      have HQ := Lib.hid hq
      clear hq
      gi_wp2
      gi_region
      all_goals
        gi_wp2
        exact ⟨KeepsOthers.of_drew W, ⟨rfl, rfl, Nat.le_refl _⟩, HI.out.step HQ.out⟩
    · have hq' := hq
      dsimp only at hq'
      have HQ := Lib.hid hq
      clear hq
      gi_wp2
      gi_region
      all_goals
        gi_wp2
        gi_region
        all_goals
          gi_wp2
          refine ⟨(by repeat (first | with_reducible exact KeepsOthers.refl _ | with_reducible refine KeepsOthers.step_drew ?_ | with_reducible refine KeepsOthers.step_set ?_ _ _)), rfl, ⟨pre, x, rfl, HI.out.no, HQ.out, ?_, ?_, ?_⟩, ?_, ?_⟩
          · go_simp
          · go_simp
          · go_simp
          · have := HI.out.lt; simp; omega
          · (repeat (first | with_reducible exact HI.out.below | with_reducible refine Below.drew ?_ | with_reducible refine Below.setCell ?_ (by simp; try omega) _))
  case hdone =>
    rintro D xs W hD rfl hI hK
    have hno : ∀ j, j < 32 → ofP N r j = false := fun j hj => by
      unfold ofP
      by_cases hz : (N j).1 = 0
      · simp [hz]
      · have := hI.no ⟨j, hj⟩ ((asg_mem (Nat.le_refl _)).2 ⟨hj, hz⟩)
        simp only at this
        simp [this]
    have hr := of_no hno
    have HRR := Lib.hid hr
    have BI := hI.below
    obtain ⟨d0, f0⟩ := hI.r0
    obtain ⟨d1, f1⟩ := hI.r1
    obtain ⟨d2, f2⟩ := hI.r2
    clear hno hr hI
    gi_wp2
    rw [HRR.out]
    have q0 : (((W.setCell ⟨w.heap.size + 1, 0, none⟩ (.int .i64 0)).setCell ⟨w.heap.size + 1 + 1, 0, none⟩ (.int .i64 0)).setCell ⟨w.heap.size + 1 + 1 + 1, 0, none⟩ (.bool false)).cell? ⟨w.heap.size + 1, 0, none⟩ = some (.int .i64 0) := by go_simp
    have q1 : (((W.setCell ⟨w.heap.size + 1, 0, none⟩ (.int .i64 0)).setCell ⟨w.heap.size + 1 + 1, 0, none⟩ (.int .i64 0)).setCell ⟨w.heap.size + 1 + 1 + 1, 0, none⟩ (.bool false)).cell? ⟨w.heap.size + 1 + 1, 0, none⟩ = some (.int .i64 0) := by go_simp
    have q2 : (((W.setCell ⟨w.heap.size + 1, 0, none⟩ (.int .i64 0)).setCell ⟨w.heap.size + 1 + 1, 0, none⟩ (.int .i64 0)).setCell ⟨w.heap.size + 1 + 1 + 1, 0, none⟩ (.bool false)).cell? ⟨w.heap.size + 1 + 1 + 1, 0, none⟩ = some (.bool false) := by go_simp
    have hKU : (((W.setCell ⟨w.heap.size + 1, 0, none⟩ (.int .i64 0)).setCell ⟨w.heap.size + 1 + 1, 0, none⟩ (.int .i64 0)).setCell ⟨w.heap.size + 1 + 1 + 1, 0, none⟩ (.bool false)).heap[D]? = some (.deferred (some [])) := by
      rw [Go.heap_setCell_other _ _ _ _ (by simp; omega), Go.heap_setCell_other _ _ _ _ (by simp; omega), Go.heap_setCell_other _ _ _ _ (by simp; omega)]
      exact hK
    have BU : Below w.heap.size w (((W.setCell ⟨w.heap.size + 1, 0, none⟩ (.int .i64 0)).setCell ⟨w.heap.size + 1 + 1, 0, none⟩ (.int .i64 0)).setCell ⟨w.heap.size + 1 + 1 + 1, 0, none⟩ (.bool false)) := by
      (repeat (first | with_reducible exact BI | with_reducible refine Below.setCell ?_ (by simp; try omega) _))
    obtain ⟨U, hU⟩ : ∃ U, U = (((W.setCell ⟨w.heap.size + 1, 0, none⟩ (.int .i64 0)).setCell ⟨w.heap.size + 1 + 1, 0, none⟩ (.int .i64 0)).setCell ⟨w.heap.size + 1 + 1 + 1, 0, none⟩ (.bool false)) := ⟨_, rfl⟩
    rw [← hU] at q0 q1 q2 hKU BU ⊢
    clear hU d0 d1 d2 f0 f1 f2
    refine ⟨by simp, .inl ⟨_, _, rfl, run_takeDeferred hKU, ?_⟩⟩
    have g0 : (U.putObj D (.deferred none)).cell? ⟨w.heap.size + 1, 0, none⟩ = some (.int .i64 0) := (cell_of_block (heap_putObj_ne (by omega))).trans q0
    have g1 : (U.putObj D (.deferred none)).cell? ⟨w.heap.size + 1 + 1, 0, none⟩ = some (.int .i64 0) := (cell_of_block (heap_putObj_ne (by omega))).trans q1
    have g2 : (U.putObj D (.deferred none)).cell? ⟨w.heap.size + 1 + 1 + 1, 0, none⟩ = some (.bool false) := (cell_of_block (heap_putObj_ne (by omega))).trans q2
    exact ⟨.tuple #[.int .i64 0, .int .i64 0, .bool false], by simp [results, Try.results17, go_sem, g0, g1, g2], rfl, BU.trans (belowK_b (w := w) (Nat.le_refl _) U D _ _ (by omega) hKU rfl rfl)⟩
  case hstop =>
    rintro D c pre W hD ⟨k, hk, hz, hpre⟩ ⟨rfl, ⟨p, x, h1, h2, h3, h4, h5, h6⟩, h7, h8⟩ hK
    obtain ⟨rfl, hx⟩ := List.append_inj' (h1.symm.trans hpre) rfl
    obtain rfl : x = ⟨k, hk⟩ := by simpa using hx
    have hno : ∀ j, j < k → ofP N r j = false := fun j hj => by
      unfold ofP
      by_cases hz : (N j).1 = 0
      · simp [hz]
      · have := h2 ⟨j, by omega⟩ ((asg_mem (by omega)).2 ⟨hj, hz⟩)
        simp only at this
        simp [this]
    have hr := of_yes hk (by unfold ofP; simp only at h3; simp [h3, hz]) hno
    have HRR := Lib.hid hr
    simp only at h4 h5
    clear hr
    gi_wp2
    rw [HRR.out]
    refine ⟨by simp, .inl ⟨_, _, rfl, run_takeDeferred hK, ?_⟩⟩
    have g0 : (W.putObj D (.deferred none)).cell? ⟨w.heap.size + 1, 0, none⟩ = some (.int .i64 k) := (cell_of_block (heap_putObj_ne (by omega))).trans h4
    have g1 : (W.putObj D (.deferred none)).cell? ⟨w.heap.size + 1 + 1, 0, none⟩ = some (.int .i64 (N k).2.1) := (cell_of_block (heap_putObj_ne (by omega))).trans h5
    have g2 : (W.putObj D (.deferred none)).cell? ⟨w.heap.size + 1 + 1 + 1, 0, none⟩ = some (.bool true) := (cell_of_block (heap_putObj_ne (by omega))).trans h6
    exact ⟨.tuple #[.int .i64 k, .int .i64 (N k).2.1, .bool true], by simp [results, Try.results17, go_sem, g0, g1, g2], rfl, h8.trans (belowK_b (w := w) (Nat.le_refl _) W D _ _ (by omega) hK rfl rfl)⟩
end Go.Proofs.Ytfladcnkphcicaa
