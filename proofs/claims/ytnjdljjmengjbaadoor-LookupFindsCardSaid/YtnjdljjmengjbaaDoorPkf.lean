import Derived.Test.YtnjdljjmengjbaaDoorPke
import Derived.Test.YtnjdljjmengjbaaDoorPkc
import Derived.LoopIn
import Derived.Stop.RegionWithIn
import Derived.Laws.MakeOwn
import Derived.Sort.QuietIn
import Derived.Deep.RegionHeld3
import Derived.Deep.CutRange
namespace Go.Proofs.YtnjdljjmengjbaaDoor
/- A table by whole numbers, of any number of rows: the iterator. -/
section
set_option linter.unusedVariables false
set_option linter.unusedSimpArgs false
open Go.ChangeShapes Go.WideShapes Go.ChangeAt Go.RowKit Go.Shelf
attribute [local go_sem] Oper.semAt_some

namespace TabA
/-- What the iterator reads. -/
def Reads (pb b o : Nat) (v : Value) (N : Nat) (keys : Nat → Int) (W : World) : Prop :=
  W.cell? ⟨pb, 0, none⟩ = some (.pointer (some ⟨b, o, none⟩)) ∧ W.cell? ⟨b, o, none⟩ = some v ∧ ∀ g, v.ownBlock = some g → ∀ k, k < N → W.cell? ⟨g, k * 10, none⟩ = some (.int .i64 (keys k))
def encT (v : Value) (keys : Nat → Int) (k : Nat) : Array Value := #[.int .i64 (keys k), .pointer (v.ownBlock.map fun g => ⟨g, k * 10 + 1, none⟩)]
set_option maxRecDepth 100000 in
set_option maxHeartbeats 2000000 in
theorem eachT_px (E : TypeId) (q pb b o N B : Nat) (v : Value) (keys : Nat → Int) (I : Nat → World → Prop) (hv : (v = .slice none 0 0 ∧ N = 0) ∨ ∃ g c, v = .slice (some ⟨g, 0, none⟩) N c) (hN : N ≤ 1000000) (hI : ∀ k W, I k W → Reads pb b o v N keys W) :
    SeqPx E Fence.wide (q + 1) Tryd.prog 73 #[.pointer (some ⟨pb, 0, none⟩)] (encT v keys) I N B := by
  intro l J Jx W hBW hAb hAx hJI hY h0
  have hR0 := hI _ _ (hJI _ _ h0)
  have hbp : W.cell? ⟨pb, 0, none⟩ = some (.pointer (some ⟨b, o, none⟩)) := hR0.1
  have hbb : W.cell? ⟨b, o, none⟩ = some v := hR0.2.1
  have HY := Lib.hid hY
  have HAB := Lib.hid hAb
  have HI := Lib.hid (fun k W h => hI k W (hJI k W h))
  clear hY hAb hAx hI hJI hR0
  rcases hv with ⟨rfl, rfl⟩ | ⟨g, c, rfl⟩
  · have H0 := Lib.hid h0
    clear h0
    refine callsIn_of_wp Tryd.func73 rfl trivial ?_ rfl
    simp only [Tryd.ntmps73, List.size_toArray, List.length_cons, List.length_nil, Nat.reduceAdd, Nat.reduceSub, Array.replicate_succ, Array.replicate_zero, List.push_toArray, List.append_toArray, List.nil_append, List.cons_append]
    gi_wp2
    clear hbp hbb
    gi_loopw [9, 3] (fun i x wr => i = .int .i64 0 ∧ J 0 wr) (fun i _ _ => 0)
    case atStart => exact ⟨rfl, H0.out⟩
    case round =>
      obtain ⟨rfl, hJ⟩ := hrel
      have HJ := Lib.hid hJ
      clear hJ
      gi_wp2
      go_end0
      exact ⟨⟨_, rfl⟩, .inl HJ.out⟩
  · refine callsIn_of_wp Tryd.func73 rfl trivial ?_ rfl
    simp only [Tryd.ntmps73, List.size_toArray, List.length_cons, List.length_nil, Nat.reduceAdd, Nat.reduceSub, Array.replicate_succ, Array.replicate_zero, List.push_toArray, List.append_toArray, List.nil_append, List.cons_append]
    gi_wp2
    clear hbp hbb
    gi_loopw [9, 3] (fun i x wr => ∃ k : Nat, k ≤ N ∧ i = .int .i64 k ∧ J k wr) (fun i _ _ => N - (intOf i).toNat)
    case atStart => exact ⟨0, Nat.zero_le _, rfl, h0⟩
    case round =>
      obtain ⟨k, hk, rfl, hJ⟩ := hrel
      by_cases hlt : k < N
      · obtain ⟨c0, c1, c2'⟩ := HI.out _ _ hJ
        have c2 := c2' g rfl k hlt
        have hltI : (k : Int) < N := by omega
        have hJd : J k wr.drew := HAB.out _ wr wr.drew none hJ ⟨rfl, rfl, rfl, Nat.le_refl _, fun _ _ _ => rfl⟩ (fun r e => by cases e)
        obtain ⟨fn, tmps, assign, body, hy, hR⟩ := HY.out k wr.drew hlt hJd
        unfold encT at hy
        (try dsimp only [Value.ownBlock, Option.map] at hy)
        have HR := Lib.hid (hR.mono (fun e W' h => two_ways (A := fun W' => J (k + 1) W' ∧ HiKept E W.heap.size wr.drew W') (B := fun W' => Jx k W' ∧ HiKept E W.heap.size wr.drew W') h))
        clear hR hJ hJd c2'
        generalize hkk : keys k = kk at *
        clear hkk
        gi_wp2
        gi_region_with (first | (refine HR.out.mono ?_; rintro e W' ⟨t, rfl, ht⟩))
        all_goals
          cases t
          · have hJx := ht.2 rfl
            gi_wp2
            first
              | refine bodyPost_ret (results_none rfl _ _ _) rfl ?_
              | go_end0
            exact ⟨⟨_, rfl⟩, .inr ⟨k, hlt, hJx.1⟩⟩
          · obtain ⟨hJ', hK'⟩ := ht.1 rfl
            gi_wp2
            go_roundw
            case rel => exact ⟨k + 1, by omega, by go_num, hJ'⟩
            case measure => first | (simp [intOf]; done) | (simp [intOf]; omega)
      · obtain rfl : k = N := by omega
        have HJ := Lib.hid hJ
        clear hJ
        gi_wp2
        go_end0
        exact ⟨⟨_, rfl⟩, .inl HJ.out⟩
theorem each_in (n : Nat) (b o : Nat) (w : World) :
    CallsIn Fence.wide n Tryd.prog 55 #[.pointer (some ⟨b, o, none⟩)] w fun e w' => e = .returned (.func (.func 73) #[] #[.pointer (some ⟨w.heap.size, 0, none⟩)]) ∧ w' = w.alloc (.cells #[.pointer (some ⟨b, o, none⟩)] 123) := by
  refine callsIn_of_wp Tryd.func55 rfl trivial ?_ rfl
  simp only [Tryd.ntmps55, List.size_toArray, List.length_cons, List.length_nil, Nat.reduceAdd, Nat.reduceSub, Array.replicate_succ, Array.replicate_zero, List.push_toArray, List.append_toArray, List.nil_append, List.cons_append]
  gi_wp2
  go_ret
  exact ⟨rfl, rfl⟩
end TabA
end
/- The package's own iterator over its table: it passes on what the table's yields. -/
section
set_option linter.unusedVariables false
set_option linter.unusedSimpArgs false
open Go.ChangeShapes Go.WideShapes Go.ChangeAt Go.RowKit Go.Shelf
attribute [local go_sem] Oper.semAt_some

namespace TabA
theorem own_in (n : Nat) (p : Option Addr) (w : World) :
    CallsIn Fence.wide n Tryd.prog 35 #[.pointer p] w fun e w' => e = .returned (.func (.func 54) #[] #[.pointer (some ⟨w.heap.size, 0, none⟩)]) ∧ w' = w.alloc (.cells #[.pointer p] 28) := by
  refine callsIn_of_wp Tryd.func35 rfl trivial ?_ rfl
  simp only [Tryd.ntmps35, List.size_toArray, List.length_cons, List.length_nil, Nat.reduceAdd, Nat.reduceSub, Array.replicate_succ, Array.replicate_zero, List.push_toArray, List.append_toArray, List.nil_append, List.cons_append]
  gi_wp2
  go_ret
  exact ⟨rfl, rfl⟩
set_option maxRecDepth 100000 in
set_option maxHeartbeats 2000000 in
theorem own_px (E : TypeId) (hE1 : (118 == E) = false) (hE2 : (123 == E) = false) (q eb b N B : Nat) (v : Value) (keys : Nat → Int) (I : Nat → World → Prop) (hv : (v = .slice none 0 0 ∧ N = 0) ∨ ∃ g c, v = .slice (some ⟨g, 0, none⟩) N c) (hN : N ≤ 1000000) (hb : ∀ g, v.ownBlock = some g → g ≠ b)
    (hI : ∀ k W, I k W → W.cell? ⟨eb, 0, none⟩ = some (.pointer (some ⟨b, 0, none⟩)) ∧ W.cell? ⟨b, 1, none⟩ = some v ∧ ∀ g, v.ownBlock = some g → ∀ k, k < N → W.cell? ⟨g, k * 10, none⟩ = some (.int .i64 (keys k))) :
    SeqPx E Fence.wide (q + 2) Tryd.prog 54 #[.pointer (some ⟨eb, 0, none⟩)] (fun k => #[.pointer (v.ownBlock.map fun g => ⟨g, k * 10 + 1, none⟩)]) I N B := by
  intro l J Jx W hBW hAb hAx hJI hY h0
  have hK := hI _ _ (hJI _ _ h0)
  have x0 : W.cell? ⟨eb, 0, none⟩ = some (.pointer (some ⟨b, 0, none⟩)) := hK.1
  have e1 : eb < W.heap.size := World.block_lt_of_cell? W _ x0
  have HY := Lib.hid hY
  have HAB := Lib.hid hAb
  have HAX := Lib.hid hAx
  have HIJ := Lib.hid (fun k W h => hI k W (hJI k W h))
  have H0 := Lib.hid h0
  clear hY hAb hAx hJI hI h0 hK
  refine callsIn_of_wp_marks Tryd.func54 rfl trivial ?_ rfl
  simp only [Tryd.ntmps54, List.size_toArray, List.length_cons, List.length_nil, Nat.reduceAdd, Nat.reduceSub, Array.replicate_succ, Array.replicate_zero, List.push_toArray, List.append_toArray, List.nil_append, List.cons_append]
  gi_wp2_with (refine ⟨trivial, ?_⟩; gi_at_call 55; refine (each_in _ b 1 _).mono ?_; rintro e w' ⟨rfl, rfl⟩)
  obtain ⟨W2, hW2⟩ : ∃ x, x = (W.alloc (.cells #[.func (.yield l) #[] #[]] 118)).alloc (.cells #[.pointer (some ⟨b, 1, none⟩)] 123) := ⟨_, rfl⟩
  rw [← hW2]
  have y2 : W2.heap[W.heap.size]? = some (.cells #[.func (.yield l) #[] #[]] 118 (0, 0)) := by rw [hW2]; exact (Below.heap_alloc _ _ _ (by simp)).trans (heap_alloc_new W _)
  have p2 : W2.heap[W.heap.size + 1]? = some (.cells #[.pointer (some ⟨b, 1, none⟩)] 123 (0, 0)) := by
    rw [hW2]
    have := heap_alloc_new (W.alloc (.cells #[.func (.yield l) #[] #[]] 118)) (.cells #[.pointer (some ⟨b, 1, none⟩)] 123)
    rwa [show (W.alloc (.cells #[.func (.yield l) #[] #[]] 118)).heap.size = W.heap.size + 1 by simp] at this
  have hsz : W2.heap.size = W.heap.size + 2 := by rw [hW2]; simp
  have J2 : J 0 W2 := hW2 ▸ HAB.out.alloc _ (HAB.out.alloc _ H0.out)
  clear hW2
  refine wpIn_range_px rfl (by simp) (gf := 73) (lb := #[.pointer (some ⟨W.heap.size + 1, 0, none⟩)]) rfl trivial (enters_of Tryd.func73 (by kernel_rfl) rfl)
    (encs := encT v keys) (N := N) E (fun k U => J k U ∧ U.heap[W.heap.size]? = some (.cells #[.func (.yield l) #[] #[]] 118 (0, 0)) ∧ U.heap[W.heap.size + 1]? = some (.cells #[.pointer (some ⟨b, 1, none⟩)] 123 (0, 0)) ∧ W2.heap.size ≤ U.heap.size)
    (fun c k U => c = .ret ∧ Jx k U)
    (eachT_px E q (W.heap.size + 1) b 1 N _ v keys _ hv hN (fun k U h => ⟨(cell_box h.2.2.1).1, (HIJ.out k U h.1).2.1, (HIJ.out k U h.1).2.2⟩)) (fun _ => rfl) ?hI ?hIx ⟨J2, y2, p2, Nat.le_refl _⟩
    (fun x => { tmps := #[.func (.yield l) #[] #[], .pointer (some ⟨eb, 0, none⟩), .pointer (some ⟨W.heap.size, 0, none⟩), undef, .pointer (v.ownBlock.map fun g => ⟨g, x * 10 + 1, none⟩), .pointer (some ⟨b, 0, none⟩), .bool false, .pointer (some ⟨b, 0, none⟩), .pointer (some ⟨b, 0, none⟩), .pointer (some ⟨b, 1, none⟩), .func (.func 73) #[] #[.pointer (some ⟨W.heap.size + 1, 0, none⟩)], .int .i64 (keys x), .pointer (v.ownBlock.map fun g => ⟨g, x * 10 + 1, none⟩), undef, undef, undef, undef], defers := [] }) ?hassign ?hbody ?hdone ?hstop
  case hI =>
    intro s A C row h hgr hr
    have hlA : W2.heap.size ≤ A.heap.size := h.2.2.2
    have e : ∀ k, k < W2.heap.size → C.heap[k]? = A.heap[k]? := fun k hk => hgr.block k (by omega) (fun e => by have := (hr k e.symm).1; omega)
    exact ⟨HAB.out s A C row h.1 hgr (fun r e => ⟨by have := (hr r e).1; omega, (hr r e).2⟩), (e _ (by omega)).trans h.2.1, (e _ (by omega)).trans h.2.2.1, Nat.le_trans hlA hgr.size⟩
  case hIx =>
    intro c s A C row h hgr hr
    exact ⟨h.1, HAX.out s A C row h.2 hgr (fun r e => ⟨by have := (hr r e).1; omega, (hr r e).2⟩)⟩
  case hassign =>
    intro l x W K hK
    unfold encT
    gi_wp2
    exact hK
  case hbody =>
    rintro l' k U hkN ⟨hJ, hyb, hpb, hUs⟩
    have yU : U.cell? ⟨W.heap.size, 0, none⟩ = some (.func (.yield l) #[] #[]) := (cell_box hyb).1
    obtain ⟨fn, tmps, assign, body, hy, hR⟩ := HY.out k U hkN hJ
    (try dsimp only at hy)
    have HR := Lib.hid (hR.mono (fun e W' h => two_ways (A := fun W' => J (k + 1) W' ∧ HiKept E W.heap.size U W') (B := fun W' => Jx k W' ∧ HiKept E W.heap.size U W') h))
    clear hR
    gi_wp2
    refine ⟨fun h => (by cases h), ?_⟩
    refine (round_any HR.out).mono ?_
    rintro e W' ⟨t, rfl, ht⟩
    cases t
    · obtain ⟨hJx, hH⟩ := ht.2 rfl
      gi_wp2
      exact ⟨hH.mono (by omega), rfl, hJx⟩
    · obtain ⟨hJ', hH⟩ := ht.1 rfl
      gi_wp2
      exact ⟨hH.mono (by omega), hJ', hH.2 _ _ (by omega) hyb hE1, hH.2 _ _ (by omega) hpb hE2, Nat.le_trans hUs hH.1⟩
  case hdone =>
    rintro D U hD ⟨hJ, -, -, -⟩ hK
    gi_wp2
    refine ⟨by simp, .inl ⟨_, _, rfl, run_takeDeferred hK, ?_⟩⟩
    exact ⟨.tuple #[], by simp [results, Tryd.results54, go_sem], ⟨_, rfl⟩, .inl (HAB.out.putObj _ hJ (by omega) hK rfl)⟩
  case hstop =>
    rintro D c k U hD hkN ⟨rfl, hJx⟩ hK
    gi_wp2
    refine ⟨by simp, .inl ⟨_, _, rfl, run_takeDeferred hK, ?_⟩⟩
    exact ⟨.tuple #[], by simp [results, Tryd.results54, go_sem], ⟨_, rfl⟩, .inr ⟨k, hkN, HAX.out.putObj _ hJx (by omega) hK rfl⟩⟩
end TabA
end
/- package arena: what it holds; Next. -/
section
set_option linter.unusedVariables false
set_option linter.unusedSimpArgs false
open Go.ChangeShapes Go.WideShapes Go.ChangeAt Go.RowKit
open TabA

def rowO (x : Ob) : Rw := (x.id, x.cells)
def rowsO (L : List Ob) : List Rw := L.map rowO
/-- The objects are what Add makes: each number is told by its place and by how many began there. -/
def GoodO (F : Nat) (cnt : List Int) (L : List Ob) : Prop :=
  ∀ x ∈ L, 0 ≤ x.fi ∧ 1 ≤ x.fr ∧ x.fi + x.fr ≤ F ∧ x.fr = framesN x.kd x.sz ∧ ∃ c m : Int, 0 ≤ c ∧ c < m ∧ cnt[x.fi.toNat]? = some m ∧ x.id = x.fi + 1 + 64 * c
structure ArAt (w : World) (b ab base F : Nat) (cnt : List Int) (v : Value) (L : List Ob) : Prop where
  c0 : w.cell? ⟨b, 0, none⟩ = some (.slice (some ⟨ab, 0, none⟩) F F)
  ad : w.heap[ab]? = some (.cells (cnt.map (Value.int .i64)).toArray 3 (0, 0))
  fl : cnt.length = F
  f1 : 1 ≤ F ∧ F ≤ 64
  tab : TabA.TabAt w b 1 base v (rowsO L)
  abl : ab < base
  ne : ab ≠ b
  cn : ∀ c ∈ cnt, 0 ≤ c ∧ c ≤ 1024
  good : GoodO F cnt L
theorem ArAt.bl {w : World} {b ab base F : Nat} {cnt : List Int} {v : Value} {L : List Ob} (h : ArAt w b ab base F cnt v L) : b < w.heap.size := h.tab.lt
theorem ArAt.al {w : World} {b ab base F : Nat} {cnt : List Int} {v : Value} {L : List Ob} (h : ArAt w b ab base F cnt v L) : ab < w.heap.size := Nat.lt_of_lt_of_le h.abl h.tab.base
theorem ArAt.call {w w' : World} {b ab base F : Nat} {cnt : List Int} {v : Value} {L : List Ob} (h : ArAt w b ab base F cnt v L) (hb : Below w.heap.size w w') : ArAt w' b ab base F cnt v L :=
  ⟨(hb.cell (p := ⟨b, 0, none⟩) h.bl).trans h.c0, (hb.block ab h.al).trans h.ad, h.fl, h.f1, h.tab.call hb, h.abl, h.ne, h.cn, h.good⟩
theorem rows_len (L : List Ob) : (rowsO L).length = L.length := by simp [rowsO]
theorem rows_get {L : List Ob} {k : Nat} : (rowsO L)[k]? = L[k]?.map rowO := by simp [rowsO]
theorem wideO (x : Ob) : Wide 10 [rowO x] := by
  intro r hr
  simp at hr
  subst hr
  refine ⟨rfl, ?_⟩
  intro u hu
  simp [rowO, rcells, Ob.cells] at hu
  rcases hu with rfl | rfl | rfl | rfl | rfl | rfl | rfl | rfl | rfl | rfl <;> rfl
theorem count_get {w : World} {b ab base F : Nat} {cnt : List Int} {v : Value} {L : List Ob} (h : ArAt w b ab base F cnt v L) {k : Nat} {c : Int} (hk : cnt[k]? = some c) : w.cell? ⟨ab, k, none⟩ = some (.int .i64 c) := by
  have := h.ad
  rw [cell_cur (cur := cnt.map (Value.int .i64)) this, List.getElem?_map, hk]
  rfl
/-- What Next answers. -/
def nextA (cnt : List Int) (first : Int) : Int :=
  if first < 0 then 0 else match cnt[first.toNat]? with
    | none => 0
    | some c => if 65535 < first + 1 + 64 * c then 0 else first + 1 + 64 * c
set_option maxRecDepth 100000 in
set_option maxHeartbeats 2000000 in
theorem next_any (w : World) (b ab base F : Nat) (cnt : List Int) (v : Value) (L : List Ob) (first : Int) (h : ArAt w b ab base F cnt v L) :
    Calls Tryd.prog 37 #[.pointer (some ⟨b, 0, none⟩), .int .i64 first] w fun e w' => e = .returned (.int .i64 (nextA cnt first)) ∧ w' = w := by
  have hc0 := h.c0
  have hF := h.f1
  unfold nextA
  by_cases hn : first < 0
  · rw [if_pos hn]
    clear h
    go_enter Tryd.func37, Tryd.ntmps37
    go_wp2
    go_ret
    exact ⟨rfl, rfl⟩
  · rw [if_neg hn]
    cases hk : cnt[first.toNat]? with
    | none =>
      have hge : ¬ first < F := by
        intro q
        have := List.getElem?_eq_none_iff.1 hk
        rw [h.fl] at this
        omega
      have hge2 : (F : Int) ≤ first := by omega
      clear h hk
      go_enter Tryd.func37, Tryd.ntmps37
      go_wp2
      go_ret
      exact ⟨rfl, rfl⟩
    | some c =>
      have hlt : first < F := by
        have := (List.getElem?_eq_some_iff.1 hk).1
        rw [h.fl] at this
        omega
      obtain ⟨k, rfl⟩ : ∃ k : Nat, first = (k : Int) := ⟨first.toNat, by omega⟩
      have hcell := count_get h (k := k) (c := c) (by simpa using hk)
      have hcb := h.cn c (List.mem_of_getElem? hk)
      have hnge : ¬ (F : Int) ≤ k := by omega
      simp only []
      clear h hk
      by_cases hbig : 65535 < (k : Int) + 1 + 64 * c
      · rw [if_pos hbig]
        go_enter Tryd.func37, Tryd.ntmps37
        go_wp2
        go_ret
        exact ⟨rfl, rfl⟩
      · rw [if_neg hbig]
        go_enter Tryd.func37, Tryd.ntmps37
        go_wp2
        go_ret
        exact ⟨rfl, rfl⟩
end
/- package arena: New; Add that is refused ahead. -/
section
set_option linter.unusedVariables false
set_option linter.unusedSimpArgs false
open Go.ChangeShapes Go.WideShapes Go.ChangeAt Go.RowKit Go.Shelf
open TabA

theorem infoInt : (Tryd.prog.info? 3).map (fun i => (i.zero, i.size, i.bytes)) = some (some (.int .i64 0), 1, 8) := by kernel_rfl
def zerosA (F : Nat) : List Int := List.replicate F 0
theorem made_zeros (F : Nat) : (madeCells (Value.cells (.int .i64 0)) (F * 1)).toList = (zerosA F).map (Value.int .i64) := by
  apply List.ext_getElem?
  intro k
  by_cases hk : k < F
  · rw [List.getElem?_eq_getElem (by simp [size_madeCells]; omega), List.getElem?_eq_getElem (by simp [zerosA]; omega)]
    simp [madeCells, zerosA, Value.cells, Nat.mod_one]
  · rw [List.getElem?_eq_none (by simp [size_madeCells]; omega), List.getElem?_eq_none (by simp [zerosA]; omega)]
/-- What New leaves. -/
def NewA (w w' : World) (b F : Nat) : Prop := ∃ ab base, ArAt w' b ab base F (zerosA F) (.slice none 0 0) [] ∧ w.heap.size ≤ ab ∧ w.heap.size ≤ b ∧ Below w.heap.size w w'
set_option maxRecDepth 100000 in
set_option maxHeartbeats 2000000 in
theorem new_any (w : World) (F : Nat) (hF : 1 ≤ F ∧ F ≤ 64) :
    Calls Tryd.prog 19 #[.int .i64 (F : Nat)] w fun e w' => ∃ b, e = .returned (.tuple #[.pointer (some ⟨b, 0, none⟩), .int .i64 0]) ∧ NewA w w' b F := by
  obtain ⟨i0, hi, hz0, hz1, hz2⟩ := info_parts infoInt
  have HI := Lib.hid hi
  clear hi
  have h1 : (1 : Int) ≤ F := by omega
  have h2 : ¬ (F : Int) < 1 := by omega
  have h3 : ¬ (64 : Int) < F := by omega
  go_enter Tryd.func19, Tryd.ntmps19
  go_wp2_with (at_make; refine wpList_make_full _ rfl _ _ 49 rfl w.heap.size 3 i0 (.int .i64 0) 1 Tryd.underlying49 HI.out hz0 hz1 .i64 .i64 (F : Int) (F : Int) F rfl rfl rfl rfl (by rw [hz2]; omega) (by unfold maxLen; omega) (Nat.le_refl _) ?_; intro w1 hown hgr)
  go_ret2
  rw [made_zeros] at hown
  have hw1 := hgr.size
  obtain ⟨_, ⟨h, _⟩ | ⟨g, cap, cur, hv, hbg, hblk, q1, q2, q3, q4⟩⟩ := hown
  · cases h
  · cases hv
    have hcur : cur = ((zerosA F).map (Value.int .i64)).toArray := by
      apply Array.ext'
      rw [← q4, List.take_of_length_le (by rw [Array.length_toList]; omega)]
    rw [hcur] at hblk
    have hgl : w.heap.size < w1.heap.size := (Array.getElem?_eq_some_iff.1 hblk).1
    refine ⟨_, rfl, w.heap.size, w1.heap.size + 1, ⟨?_, ?_, ?_, hF, ⟨?_, ?_, ?_, Nat.lt_succ_self _, ?_, ?_, ?_, ?_⟩, by omega, by omega, ?_, ?_⟩, Nat.le_refl _, by omega, ?_⟩
    · go_simp
    · exact (Below.heap_alloc _ _ _ hgl).trans hblk
    · simp [zerosA]
    · go_simp
    · go_simp
    · exact World.ownsRow_nil _ _ _ _
    · simp
    · intro r hr; cases hr
    · exact List.Pairwise.nil
    · simp [rowsO]
    · intro c hc
      have := List.eq_of_mem_replicate hc
      omega
    · intro x hx; cases hx
    · exact bal ((Below.refl _ _).grown hgr (Nat.le_refl _) (fun k hk => by cases hk)) _
set_option maxRecDepth 100000 in
set_option maxHeartbeats 2000000 in
theorem add_arg (w : World) (b : Nat) (kd sz fi : Int) (h : framesN kd sz = 0) :
    Calls Tryd.prog 21 #[.pointer (some ⟨b, 0, none⟩), .int .i64 kd, .int .i64 sz, .int .i64 fi] w fun e w' => e = .returned (.tuple #[.int .i64 0, .int .i64 2]) ∧ Below w.heap.size w w' := by
  have H := Lib.hid h
  clear h
  go_enter Tryd.func21, Tryd.ntmps21
  go_wp2_with (go_at_call 34; refine (frames_any _ _ _).mono ?_; rw [H.out]; rintro e w1 ⟨rfl, rfl⟩)
  exact bodyPost_ret (v := .tuple #[.int .i64 0, .int .i64 2]) (by simp [results, Tryd.results21, go_sem]) rfl ⟨rfl, by repeat (first | with_reducible exact Below.refl _ _ | refine Below.setCell ?_ (by simp) _ | refine bal ?_ _)⟩
end
/- package arena: Add. -/
section
set_option linter.unusedVariables false
set_option linter.unusedSimpArgs false
open Go.ChangeShapes Go.WideShapes Go.ChangeAt Go.RowKit Go.Shelf
open TabA

theorem frames_bd {kd sz : Int} (h : framesN kd sz ≠ 0) : 1 ≤ framesN kd sz ∧ framesN kd sz ≤ 64 := by
  unfold framesN at h ⊢
  repeat' split at h
  all_goals (repeat' split)
  all_goals omega
/-- The world in which Add has its two results and the object at hand. -/
structure AddW (w W : World) (x : Ob) : Prop where
  r8 : W.cell? ⟨w.heap.size, 0, none⟩ = some (.int .i64 0)
  f8 : W.frozen? ⟨w.heap.size, 0, none⟩ = false
  r9 : W.cell? ⟨w.heap.size + 1, 0, none⟩ = some (.int .i64 0)
  f9 : W.frozen? ⟨w.heap.size + 1, 0, none⟩ = false
  rx : W.heap[w.heap.size + 2]? = some (.cells x.cells.toArray 84 (0, 0))
  size : W.heap.size = w.heap.size + 3
  below : Below w.heap.size w W
abbrev addO (w : World) (x : Ob) : World := ((w.alloc (.cells #[.int .i64 0] 3)).alloc (.cells #[.int .i64 0] 35)).alloc (.cells #[.int .i64 x.id, .int .i64 x.kd, .int .i64 x.sz, .int .i64 x.fi, .int .i64 x.fr, .int .i64 x.ma, .int .i64 x.se, .int .i64 x.pg, .int .i64 x.lv] 84)
theorem addW (w : World) (x : Ob) : AddW w (addO w x) x := by
  refine ⟨by go_simp, by go_simp, by go_simp, by go_simp, ?_, by simp, bal (bal (bal (Below.refl _ _) _) _) _⟩
  have := heap_alloc_new ((w.alloc (.cells #[.int .i64 0] 3)).alloc (.cells #[.int .i64 0] 35)) (.cells #[.int .i64 x.id, .int .i64 x.kd, .int .i64 x.sz, .int .i64 x.fi, .int .i64 x.fr, .int .i64 x.ma, .int .i64 x.se, .int .i64 x.pg, .int .i64 x.lv] 84)
  rw [show ((w.alloc (.cells #[.int .i64 0] 3)).alloc (.cells #[.int .i64 0] 35)).heap.size = w.heap.size + 2 by simp] at this
  exact this
theorem AddW.ox {w W : World} {x : Ob} (h : AddW w W x) (j : Nat) : W.cell? ⟨w.heap.size + 2, j, none⟩ = x.cells[j]? := cell_cur h.rx j
/-- The two results are stored. -/
theorem AddW.done {w W U : World} {x : Ob} (h : AddW w W x) (hb : Below W.heap.size W U) (a c : Int) : ((U.setCell ⟨w.heap.size, 0, none⟩ (.int .i64 a)).setCell ⟨w.heap.size + 1, 0, none⟩ (.int .i64 c)).cell? ⟨w.heap.size, 0, none⟩ = some (.int .i64 a) ∧
    ((U.setCell ⟨w.heap.size, 0, none⟩ (.int .i64 a)).setCell ⟨w.heap.size + 1, 0, none⟩ (.int .i64 c)).cell? ⟨w.heap.size + 1, 0, none⟩ = some (.int .i64 c) ∧ Below w.heap.size w ((U.setCell ⟨w.heap.size, 0, none⟩ (.int .i64 a)).setCell ⟨w.heap.size + 1, 0, none⟩ (.int .i64 c)) ∧
    U.cell? ⟨w.heap.size, 0, none⟩ = some (.int .i64 0) ∧ U.frozen? ⟨w.heap.size, 0, none⟩ = false ∧ U.cell? ⟨w.heap.size + 1, 0, none⟩ = some (.int .i64 0) ∧ U.frozen? ⟨w.heap.size + 1, 0, none⟩ = false := by
  have hs := h.size
  have a8 := (hb.cell (p := ⟨w.heap.size, 0, none⟩) (by simp; omega)).trans h.r8
  have b8 := (hb.frozen (p := ⟨w.heap.size, 0, none⟩) (by simp; omega)).trans h.f8
  have a9 := (hb.cell (p := ⟨w.heap.size + 1, 0, none⟩) (by simp; omega)).trans h.r9
  have b9 := (hb.frozen (p := ⟨w.heap.size + 1, 0, none⟩) (by simp; omega)).trans h.f9
  refine ⟨by go_simp, by go_simp, Below.setCell (Below.setCell (h.below.trans (hb.mono (by omega))) (by simp) _) (by simp) _, a8, b8, a9, b9⟩
set_option maxRecDepth 100000 in
set_option maxHeartbeats 2000000 in
theorem add_range (w : World) (b ab base F : Nat) (cnt : List Int) (v : Value) (L : List Ob) (kd sz fi : Int) (h : ArAt w b ab base F cnt v L) (hf : framesN kd sz ≠ 0) (hr : fi < 0 ∨ F - framesN kd sz < fi) (wf : -9223372036854775808 ≤ fi ∧ fi ≤ 9223372036854775807) :
    Calls Tryd.prog 21 #[.pointer (some ⟨b, 0, none⟩), .int .i64 kd, .int .i64 sz, .int .i64 fi] w fun e w' => e = .returned (.tuple #[.int .i64 0, .int .i64 3]) ∧ Below w.heap.size w w' := by
  have hb := frames_bd hf
  have hF := h.f1
  have HA := Lib.hid h
  clear h
  generalize hfr : framesN kd sz = fr at *
  have H := Lib.hid hfr
  clear hfr
  obtain ⟨hb1, hb2⟩ := hb
  obtain ⟨hF1, hF2⟩ := hF
  have hwr : IntKind.i64.wrap ((F : Int) - fr) = (F : Int) - fr := IntWalk.i64_in _ (by omega)
  have hr3 : fi < 0 ∨ (¬ fi < 0 ∧ (F : Int) - fr < fi) := by omega
  clear hr
  rcases hr3 with hn | ⟨hn, hr2⟩
  all_goals
    go_enter Tryd.func21, Tryd.ntmps21
    go_upto_region 6 with (go_at_call 34; refine (frames_any _ _ _).mono ?_; rw [H.out]; rintro e w1 ⟨rfl, rfl⟩)
    have hW := addW w ⟨0, kd, sz, fi, fr, 0, 0, 0, 0⟩
    obtain ⟨W, hWW⟩ : ∃ x, x = addO w ⟨0, kd, sz, fi, fr, 0, 0, 0, 0⟩ := ⟨_, rfl⟩
    rw [← hWW] at hW
    rw [show ((w.alloc (.cells #[.int .i64 0] 3)).alloc (.cells #[.int .i64 0] 35)).alloc (.cells #[.int .i64 0, .int .i64 kd, .int .i64 sz, .int .i64 fi, .int .i64 fr, .int .i64 0, .int .i64 0, .int .i64 0, .int .i64 0] 84) = W from hWW.symm]
    clear hWW
    have c0 := (HA.out.call hW.below).c0
    have x4 : W.cell? ⟨w.heap.size + 2, 4, none⟩ = some (.int .i64 fr) := hW.ox 4
    have HW := Lib.hid hW
    clear hW
    go_quiet (fail)
    obtain ⟨q8, q9, qb, q1, q2, q3, q4⟩ := HW.out.done (below_drewN (Below.refl _ _) nq) 0 3
    have QB := Lib.hid qb
    clear qb
    go_wp2
    exact bodyPost_ret (v := .tuple #[.int .i64 0, .int .i64 3]) (by simp [results, Tryd.results21, go_sem, q8, q9]) rfl ⟨rfl, QB.out⟩
end
/- package arena: what Add leaves. -/
section
set_option linter.unusedVariables false
set_option linter.unusedSimpArgs false
open Go.ChangeShapes Go.WideShapes Go.ChangeAt Go.RowKit Go.Shelf
open TabA

/-- What Add answers where the place is right: number, error. -/
def addA (cnt : List Int) (L : List Ob) (x : Ob) : Int × Int :=
  if L.any (collideA x) then (0, 16) else if nextA cnt x.fi = 0 then (0, 11) else (nextA cnt x.fi, 0)
def insO (L : List Ob) (x : Ob) : List Ob := L.take (posR (rowsO L) x.id) ++ x :: L.drop (posR (rowsO L) x.id)
theorem rows_ins (L : List Ob) (x : Ob) : rowsO (insO L x) = insR (rowsO L) (rowO x) := by
  unfold insO insR rowsO
  rw [List.map_append, List.map_cons, List.map_take, List.map_drop]
  rfl
/-- What an act leaves of the world: only the arena's own blocks are turned. -/
structure OnlyA (w w' : World) (b ab : Nat) (v v' : Value) : Prop where
  os : w'.os = w.os
  tape : w'.tape = w.tape
  output : w'.output = w.output
  size : w.heap.size ≤ w'.heap.size
  block : ∀ k, k < w.heap.size → k ≠ b → k ≠ ab → v.ownBlock ≠ some k → w'.heap[k]? = w.heap[k]?
  foot : v'.ownBlock = v.ownBlock ∨ ∃ g, v'.ownBlock = some g ∧ w.heap.size ≤ g
/-- What Add leaves. -/
def AddPost (w w' : World) (b ab base F : Nat) (cnt : List Int) (v : Value) (L : List Ob) (x : Ob) : Prop :=
  ((addA cnt L x).2 ≠ 0 ∧ Below w.heap.size w w') ∨
  ((addA cnt L x).2 = 0 ∧ ∃ v' c, cnt[x.fi.toNat]? = some c ∧ ArAt w' b ab base F (cnt.set x.fi.toNat (c + 1)) v' (insO L { x with id := nextA cnt x.fi }) ∧ OnlyA w w' b ab v v')
theorem own_ne {w : World} {b o base g : Nat} {v : Value} {R : List Rw} (h : TabA.TabAt w b o base v R) (hg : v.ownBlock = some g) : g ≠ b := by
  have := (h.own hg).1
  have := h.ne
  omega
theorem good_fresh {F : Nat} {cnt : List Int} {L : List Ob} {k : Nat} {c : Int} (h : GoodO F cnt L) (hF : F ≤ 64) (hc : cnt[k]? = some c) (hk : k < F) : hasR (rowsO L) (k + 1 + 64 * c) = false := by
  rw [Bool.eq_false_iff]
  intro hh
  unfold hasR rowsO at hh
  rw [List.any_eq_true] at hh
  obtain ⟨r, hr, he⟩ := hh
  obtain ⟨y, hy, rfl⟩ := List.mem_map.1 hr
  have he2 : y.id = (k : Int) + 1 + 64 * c := of_decide_eq_true he
  obtain ⟨h0, h1, h2, h3, d, m, d0, dm, hm, hid⟩ := h y hy
  rw [hid] at he2
  have h5 : y.fi < 64 := by omega
  have e1 : y.fi = k := by omega
  rw [e1, show ((k : Int)).toNat = k by omega, hc] at hm
  cases hm
  omega
theorem good_ins {F : Nat} {cnt : List Int} {L : List Ob} {k : Nat} {c : Int} {x : Ob} (h : GoodO F cnt L) (hc : cnt[k]? = some c) (hx : x.fi = k) (h0 : 0 ≤ c) (h1 : 1 ≤ x.fr) (h2 : x.fi + x.fr ≤ F) (h3 : x.fr = framesN x.kd x.sz) (hid : x.id = k + 1 + 64 * c) : GoodO F (cnt.set k (c + 1)) (insO L x) := by
  have hkl := (List.getElem?_eq_some_iff.1 hc).1
  intro y hy
  unfold insO at hy
  have hy' : y = x ∨ y ∈ L := by
    rcases List.mem_append.1 hy with q | q
    · exact .inr (List.mem_of_mem_take q)
    · rcases List.mem_cons.1 q with q | q
      · exact .inl q
      · exact .inr (List.mem_of_mem_drop q)
  rcases hy' with rfl | hy
  · refine ⟨by omega, h1, h2, h3, c, c + 1, h0, by omega, ?_, by rw [hid, hx]⟩
    rw [hx, show ((k : Int)).toNat = k by omega, List.getElem?_set_self hkl]
  · obtain ⟨g0, g1, g2, g3, d, m, d0, dm, hm, hi⟩ := h y hy
    by_cases e : y.fi.toNat = k
    · rw [e, hc] at hm
      cases hm
      exact ⟨g0, g1, g2, g3, d, c + 1, d0, by omega, by rw [e, List.getElem?_set_self hkl], hi⟩
    · exact ⟨g0, g1, g2, g3, d, m, d0, dm, by rw [List.getElem?_set_ne (fun q => e q.symm)]; exact hm, hi⟩
/-- The end of Add: the table takes the object. -/
theorem add_fin (w W U U2 : World) (b ab base F : Nat) (cnt : List Int) (v : Value) (L : List Ob) (kd sz fr nx c : Int) (k D : Nat) (hA : ArAt w b ab base F cnt v L) (hW : AddW w W ⟨0, kd, sz, k, fr, 0, 0, 0, 0⟩) (hU : Below W.heap.size W U) (hD : U.heap[D]? = some (.deferred (some []))) (hDz : w.heap.size + 2 < D)
    (hlen : L.length < 1000000) (hc : cnt[k]? = some c) (hnx : nx = k + 1 + 64 * c) (hnb : nx ≤ 65535) (h1 : 1 ≤ fr) (h2 : k + fr ≤ F) (h3 : fr = framesN kd sz)
    (hU2 : U2 = (U.setCell ⟨w.heap.size + 1 + 1, 0, none⟩ (.int .i64 nx)).setCell ⟨ab, k, none⟩ (.int .i64 (c + 1))) :
    (∀ j u, (⟨nx, kd, sz, k, fr, 0, 0, 0, 0⟩ : Ob).cells[j]? = some u → U2.cell? ⟨w.heap.size + 1 + 1, j, none⟩ = some u) ∧
    Calls Tryd.prog 38 #[.pointer (some ⟨b, 1, none⟩), .int .i64 nx, obV ⟨nx, kd, sz, k, fr, 0, 0, 0, 0⟩] U2.drew fun e w3 => e = .returned (.bool true) ∧ ∃ v',
      w3.cell? ⟨w.heap.size, 0, none⟩ = some (.int .i64 0) ∧ w3.frozen? ⟨w.heap.size, 0, none⟩ = false ∧ w3.cell? ⟨w.heap.size + 1, 0, none⟩ = some (.int .i64 0) ∧ w3.frozen? ⟨w.heap.size + 1, 0, none⟩ = false ∧
      w3.cell? ⟨w.heap.size + 1 + 1, 0, none⟩ = some (.int .i64 nx) ∧
      ∀ V, V = (w3.setCell ⟨w.heap.size, 0, none⟩ (.int .i64 nx)).setCell ⟨w.heap.size + 1, 0, none⟩ (.int .i64 0) → V.heap[D]? = some (.deferred (some [])) ∧ V.cell? ⟨w.heap.size, 0, none⟩ = some (.int .i64 nx) ∧ V.cell? ⟨w.heap.size + 1, 0, none⟩ = some (.int .i64 0) ∧
        ArAt V b ab base F (cnt.set k (c + 1)) v' (insO L ⟨nx, kd, sz, k, fr, 0, 0, 0, 0⟩) ∧ OnlyA w V b ab v v' := by
  have hs := hW.size
  have hsU := hU.size
  have hbw := hA.bl
  have haw := hA.al
  have hF := hA.f1
  have hcb := hA.cn c (List.mem_of_getElem? hc)
  have hAU := (hA.call hW.below).call hU
  have hDl : D < U.heap.size := (Array.getElem?_eq_some_iff.1 hD).1
  have hkF : k < F := by
    have := (List.getElem?_eq_some_iff.1 hc).1
    rw [hA.fl] at this
    exact this
  have o2 : ∀ j, j ≠ ab → j ≠ w.heap.size + 1 + 1 → U2.heap[j]? = U.heap[j]? := fun j h1 h2 => by
    rw [hU2, Go.heap_setCell_other _ _ _ _ (by simpa using h1), Go.heap_setCell_other _ _ _ _ (by simpa using h2)]
  have z2 : U2.heap.size = U.heap.size := by rw [hU2]; simp
  have x2 : U2.heap[w.heap.size + 1 + 1]? = some (.cells (⟨nx, kd, sz, k, fr, 0, 0, 0, 0⟩ : Ob).cells.toArray 84 (0, 0)) := by
    rw [hU2, Go.heap_setCell_other _ _ _ _ (by simp; omega)]
    have hx := (hU.block (w.heap.size + 1 + 1) (by omega)).trans hW.rx
    have := heap_setCell_same U (w.heap.size + 1 + 1) 0 _ _ (.int .i64 nx) hx
    simpa [Ob.cells] using this
  have a2 : U2.heap[ab]? = some (.cells ((cnt.set k (c + 1)).map (Value.int .i64)).toArray 3 (0, 0)) := by
    rw [hU2]
    have hx : (U.setCell ⟨w.heap.size + 1 + 1, 0, none⟩ (.int .i64 nx)).heap[ab]? = _ := (Go.heap_setCell_other _ _ _ _ (by simp; omega)).trans hAU.ad
    have := heap_setCell_same _ ab k _ _ (.int .i64 (c + 1)) hx
    rw [this]
    congr 2
    apply Array.ext'
    simp [List.map_set]
  have t2 : TabA.TabAt U2 b 1 base v (rowsO L) := hAU.tab.of (by omega) (World.cell?_of_block (o2 b (fun e => hA.ne e.symm) (by omega))) (World.frozen?_of_block (o2 b (fun e => hA.ne e.symm) (by omega))) (fun g hg => o2 g (by have := (hA.tab.own hg).1; have := hA.abl; omega) (by have := (hA.tab.own hg).2; omega))
  have hfr : hasR (rowsO L) nx = false := by rw [hnx]; exact good_fresh hA.good hF.2 hc hkF
  refine ⟨fun j u hj => by rw [cell_cur x2]; exact hj, ?_⟩
  refine (add_yes U2.drew b 1 base v (rowsO L) nx (.int .i64 nx) (.int .i64 kd) (.int .i64 sz) (.int .i64 k) (.int .i64 fr) (.int .i64 0) (.int .i64 0) (.int .i64 0) (.int .i64 0) (t2.call (Below.refl _ _).drew) hfr (by rw [rows_len]; exact hlen) (wideO ⟨nx, kd, sz, k, fr, 0, 0, 0, 0⟩)).mono ?_
  rintro e w3 ⟨rfl, v', t3, o3⟩
  have e3 : ∀ j, j < U.heap.size → j ≠ b → v.ownBlock ≠ some j → w3.heap[j]? = U2.heap[j]? := fun j hj h1 h2 => o3.block j (by show j < U2.heap.size; omega) h1 h2
  have vne : ∀ j, w.heap.size ≤ j → v.ownBlock ≠ some j := fun j hj e => by have := (hA.tab.own e).2; omega
  have s3 : U.heap.size ≤ w3.heap.size := by have := o3.size; have : U2.drew.heap.size = U2.heap.size := rfl; omega
  have k8 : w3.heap[w.heap.size]? = U.heap[w.heap.size]? := (e3 _ (by omega) (by omega) (vne _ (by omega))).trans (o2 _ (by omega) (by omega))
  have k9 : w3.heap[w.heap.size + 1]? = U.heap[w.heap.size + 1]? := (e3 _ (by omega) (by omega) (vne _ (by omega))).trans (o2 _ (by omega) (by omega))
  have r8 := (World.cell?_of_block (a := ⟨w.heap.size, 0, none⟩) k8).trans ((hU.cell (p := ⟨w.heap.size, 0, none⟩) (by simp; omega)).trans hW.r8)
  have q8 := (World.frozen?_of_block (a := ⟨w.heap.size, 0, none⟩) k8).trans ((hU.frozen (p := ⟨w.heap.size, 0, none⟩) (by simp; omega)).trans hW.f8)
  have r9 := (World.cell?_of_block (a := ⟨w.heap.size + 1, 0, none⟩) k9).trans ((hU.cell (p := ⟨w.heap.size + 1, 0, none⟩) (by simp; omega)).trans hW.r9)
  have q9 := (World.frozen?_of_block (a := ⟨w.heap.size + 1, 0, none⟩) k9).trans ((hU.frozen (p := ⟨w.heap.size + 1, 0, none⟩) (by simp; omega)).trans hW.f9)
  refine ⟨rfl, v', r8, q8, r9, q9, ?_, ?_⟩
  · rw [World.cell?_of_block (a := ⟨w.heap.size + 1 + 1, 0, none⟩) (e3 (w.heap.size + 1 + 1) (by omega) (by omega) (vne _ (by omega))), cell_cur x2]
    rfl
  · intro V hV
    have oV : ∀ j, j ≠ w.heap.size → j ≠ w.heap.size + 1 → V.heap[j]? = w3.heap[j]? := fun j h1 h2 => by
      rw [hV, Go.heap_setCell_other _ _ _ _ (by simpa using h2), Go.heap_setCell_other _ _ _ _ (by simpa using h1)]
    have zV : V.heap.size = w3.heap.size := by rw [hV]; simp
    refine ⟨?_, by rw [hV]; go_simp, by rw [hV]; go_simp, ⟨?_, ?_, ?_, hF, ?_, hA.abl, hA.ne, ?_, ?_⟩, ⟨?_, ?_, ?_, by omega, ?_, ?_⟩⟩
    · exact (oV D (by omega) (by omega)).trans ((e3 D (by omega) (by omega) (vne _ (by omega))).trans ((o2 D (by omega) (by omega)).trans hD))
    · rw [World.cell?_of_block (a := ⟨b, 0, none⟩) (oV b (by omega) (by omega)), o3.cells 0 (by decide)]
      exact (World.cell?_of_block (a := ⟨b, 0, none⟩) (o2 b (fun e => hA.ne e.symm) (by omega))).trans hAU.c0
    · exact (oV ab (by omega) (by omega)).trans ((e3 ab (by omega) hA.ne (fun e => by have := (hA.tab.own e).1; have := hA.abl; omega)).trans a2)
    · rw [List.length_set]; exact hA.fl
    · have hin : insR (rowsO L) (nx, [.int .i64 nx, .int .i64 kd, .int .i64 sz, .int .i64 k, .int .i64 fr, .int .i64 0, .int .i64 0, .int .i64 0, .int .i64 0]) = rowsO (insO L ⟨nx, kd, sz, k, fr, 0, 0, 0, 0⟩) := (rows_ins L ⟨nx, kd, sz, k, fr, 0, 0, 0, 0⟩).symm
      rw [hin] at t3
      exact t3.of (by omega) (World.cell?_of_block (oV b (by omega) (by omega))) (World.frozen?_of_block (oV b (by omega) (by omega))) (fun g hg => by
        rcases o3.foot with h | ⟨g', h, hg'⟩
        · rw [h] at hg
          have := (hA.tab.own hg).2
          exact oV g (by omega) (by omega)
        · rw [h] at hg
          cases hg
          have : U2.heap.size ≤ g := hg'
          exact oV g (by omega) (by omega))
    · intro d hd
      rcases List.mem_or_eq_of_mem_set hd with q | q
      · exact hA.cn d q
      · omega
    · exact good_ins hA.good hc rfl hcb.1 h1 h2 h3 hnx
    · rw [hV]; exact (o3.os.trans (by rw [hU2]; rfl)).trans (hU.os.trans hW.below.os)
    · rw [hV]; exact (o3.tape.trans (by rw [hU2]; rfl)).trans (hU.tape.trans hW.below.tape)
    · rw [hV]; exact (o3.output.trans (by rw [hU2]; rfl)).trans (hU.output.trans hW.below.output)
    · intro j hj hjb hja hjv
      exact (oV j (by omega) (by omega)).trans ((e3 j (by omega) hjb hjv).trans ((o2 j hja (by omega)).trans ((hU.block j (by omega)).trans (hW.below.block j hj))))
    · rcases o3.foot with h | ⟨g', h, hg'⟩
      · exact .inl h
      · have : U2.heap.size ≤ g' := hg'
        exact .inr ⟨g', h, by omega⟩
end
/- package arena: Add, where the place is right. -/
section
set_option linter.unusedVariables false
set_option linter.unusedSimpArgs false
open Go.ChangeShapes Go.WideShapes Go.ChangeAt Go.RowKit Go.Shelf
open TabA

theorem calls_round {l n : Nat} {P : Program} {f : Nat} {args : Array Value} {w : World} {R : Ending → World → Prop} (h : Calls P f args w R) : CallsIn (Fence.wide.inRound l) n P f args w R := callsIn_wide.2 h
theorem arAt_put {V : World} {b ab base F D : Nat} {cnt : List Int} {v : Value} {L : List Ob} (h : ArAt V b ab base F cnt v L) (hD : V.heap[D]? = some (.deferred (some []))) : ArAt (V.putObj D (.deferred none)) b ab base F cnt v L := by
  have nb : b ≠ D := by
    rintro rfl
    have := h.c0
    simp [World.cell?, hD] at this
  have na : ab ≠ D := by
    rintro rfl
    have := h.ad
    rw [hD] at this
    cases this
  have e : ∀ j, j ≠ D → (V.putObj D (.deferred none)).heap[j]? = V.heap[j]? := fun j hj => World.putObj_heap_other hj
  refine ⟨(World.cell?_of_block (e b nb)).trans h.c0, (e ab na).trans h.ad, h.fl, h.f1, h.tab.of (by simp [World.putObj]) (World.cell?_of_block (e b nb)) (World.frozen?_of_block (e b nb)) (fun g hg => ?_), h.abl, h.ne, h.cn, h.good⟩
  rcases h.tab.row.2 with ⟨rfl, _⟩ | ⟨g', cap, cur, rfl, q1, q2, _⟩
  · cases hg
  · cases hg
    refine e g' ?_
    rintro rfl
    rw [hD] at q2
    cases q2
theorem onlyA_put {w V : World} {b ab D : Nat} {v v' : Value} (h : OnlyA w V b ab v v') (hw : w.heap.size + 2 < D) (hD : V.heap[D]? = some (.deferred (some []))) : OnlyA w (V.putObj D (.deferred none)) b ab v v' :=
  ⟨h.os, h.tape, h.output, by simpa [World.putObj] using h.size, fun k hk h1 h2 h3 => (World.putObj_heap_other (by omega)).trans (h.block k hk h1 h2 h3), h.foot⟩
theorem HiKept.setCell {E : TypeId} {B k o : Nat} {a b : World} {u : Value} (h : HiKept E B a b) (hk : k < B) : HiKept E B a (b.setCell ⟨k, o, none⟩ u) :=
  ⟨by simpa using h.1, fun j ob hj hl ho => (Go.heap_setCell_other _ _ _ _ (by simp; omega)).trans (h.2 j ob hj hl ho)⟩
attribute [local go_sem] Oper.semAt_some
set_option maxRecDepth 100000 in
set_option maxHeartbeats 4000000 in
theorem add_in (w : World) (b ab base F : Nat) (cnt : List Int) (v : Value) (L : List Ob) (kd sz fi : Int) (h : ArAt w b ab base F cnt v L) (hf : framesN kd sz ≠ 0) (hr : ¬ fi < 0 ∧ ¬ F - framesN kd sz < fi) (hlen : L.length < 1000000) :
    CallsIn Fence.wide 3 Tryd.prog 21 #[.pointer (some ⟨b, 0, none⟩), .int .i64 kd, .int .i64 sz, .int .i64 fi] w fun e w' =>
      e = .returned (.tuple #[.int .i64 (addA cnt L ⟨0, kd, sz, fi, framesN kd sz, 0, 0, 0, 0⟩).1, .int .i64 (addA cnt L ⟨0, kd, sz, fi, framesN kd sz, 0, 0, 0, 0⟩).2]) ∧ AddPost w w' b ab base F cnt v L ⟨0, kd, sz, fi, framesN kd sz, 0, 0, 0, 0⟩ := by
  have hb := frames_bd hf
  have hF := h.f1
  have HA := Lib.hid h
  clear h
  generalize hfr : framesN kd sz = fr at *
  have H := Lib.hid hfr
  clear hfr
  obtain ⟨x, hx⟩ : ∃ x : Ob, x = ⟨0, kd, sz, fi, fr, 0, 0, 0, 0⟩ := ⟨_, rfl⟩
  rw [← hx]
  have HX := Lib.hid hx
  clear hx
  obtain ⟨hr1, hr2⟩ := hr
  obtain ⟨hb1, hb2⟩ := hb
  obtain ⟨hF1, hF2⟩ := hF
  have hwr : IntKind.i64.wrap ((F : Int) - fr) = (F : Int) - fr := IntWalk.i64_in _ (by omega)
  refine callsIn_of_wp_marks Tryd.func21 rfl trivial ?_ rfl
  simp only [Tryd.ntmps21, List.size_toArray, List.length_cons, List.length_nil, Nat.reduceAdd, Nat.reduceSub, Array.replicate_succ, Array.replicate_zero, List.push_toArray, List.append_toArray, List.nil_append, List.cons_append]
  gi_wp2_with (refine ⟨trivial, ?_⟩; gi_at_call 34; refine (callsIn_wide.2 (frames_any _ _ _)).mono ?_; rw [H.out]; rintro e w1 ⟨rfl, rfl⟩)
  have hW := addW w ⟨0, kd, sz, fi, fr, 0, 0, 0, 0⟩
  obtain ⟨W, hWW⟩ : ∃ x, x = addO w ⟨0, kd, sz, fi, fr, 0, 0, 0, 0⟩ := ⟨_, rfl⟩
  rw [← hWW] at hW
  rw [show ((w.alloc (.cells #[.int .i64 0] 3)).alloc (.cells #[.int .i64 0] 35)).alloc (.cells #[.int .i64 0, .int .i64 kd, .int .i64 sz, .int .i64 fi, .int .i64 fr, .int .i64 0, .int .i64 0, .int .i64 0, .int .i64 0] 84) = W from hWW.symm]
  clear hWW
  have c0 := (HA.out.call hW.below).c0
  have x4 : W.cell? ⟨w.heap.size + 2, 4, none⟩ = some (.int .i64 fr) := hW.ox 4
  have x4' : W.cell? ⟨w.heap.size + 1 + 1, 4, none⟩ = some (.int .i64 fr) := hW.ox 4
  have HW := Lib.hid hW
  clear hW
  have hd1 : decide (fi < 0) = false := decide_eq_false (by omega)
  have hd2 : decide ((F : Int) - fr < fi) = false := decide_eq_false (by omega)
  gi_quiet (fail)
  clear hd1 hd2
  gi_wp2_with (refine ⟨trivial, ?_⟩; gi_at_call 35; refine (own_in _ _ _).mono ?_; rintro e w' ⟨rfl, rfl⟩)
  obtain ⟨Wc, hWc⟩ : ∃ y, y = (W.drewN nq).alloc (.cells #[.pointer (some ⟨b, 0, none⟩)] 28) := ⟨_, rfl⟩
  rw [← hWc]
  have BW : Below W.heap.size W Wc := by rw [hWc]; exact ((below_drewN (Below.refl _ _) nq).alloc (by simp) _)
  have hcz : Wc.heap.size = W.heap.size + 1 := by rw [hWc]; simp
  have hbx : Wc.cell? ⟨W.heap.size, 0, none⟩ = some (.pointer (some ⟨b, 0, none⟩)) := by
    rw [hWc]
    have := cell_fresh (W.drewN nq) (.pointer (some ⟨b, 0, none⟩)) 28
    simpa using this.1
  clear hWc
  have hWs := HW.out.size
  have hAc := (HA.out.call HW.out.below).call BW
  have hfm := hAc.tab.form
  have hll : (rowsO L).length = L.length := rows_len L
  have hv : (v = .slice none 0 0 ∧ L.length = 0) ∨ ∃ g c, v = .slice (some ⟨g, 0, none⟩) L.length c := by
    rcases hfm with ⟨h1, h2⟩ | ⟨g, c, h1, _⟩
    · exact .inl ⟨h1, by rw [← hll, h2]; rfl⟩
    · exact .inr ⟨g, c, by rw [← hll]; exact h1⟩
  have hkey : ∀ U : World, Below Wc.heap.size Wc U → ∀ g, v.ownBlock = some g → ∀ (k j : Nat) (y : Ob) (u : Value), L[k]? = some y → (rcells (rowO y))[j]? = some u → U.cell? ⟨g, k * 10 + j, none⟩ = some u := by
    intro U hU g hg k j y u hk hj
    have hT := (hAc.call hU).tab
    rcases hT.form with ⟨h1, _⟩ | ⟨g', c, h1, _, _, _, _, hR⟩
    · rw [h1] at hg; cases hg
    · rw [h1] at hg
      cases hg
      exact hR k j (rowO y) u (by rw [rows_get, hk]; rfl) hj
  have HK := Lib.hid hkey
  have HAC := Lib.hid hAc
  have HBX := Lib.hid hbx
  have HV := Lib.hid hv
  have BWW : Below w.heap.size w Wc := HW.out.below.trans (BW.mono (by omega))
  have HBW := Lib.hid BWW
  have HB1 := Lib.hid BW
  have HWS := Lib.hid hWs
  have HCZ := Lib.hid hcz
  clear hWs hcz c0 x4 x4' hbx hAc hfm hll hv hkey BW BWW
  refine wpIn_range_px rfl (by decide) (gf := 54) (lb := #[.pointer (some ⟨W.heap.size, 0, none⟩)]) rfl trivial (enters_of Tryd.func54 (by kernel_rfl) rfl)
    (encs := fun k => #[.pointer (v.ownBlock.map fun g => ⟨g, k * 10 + 1, none⟩)]) (N := L.length) 84 (fun k U => Below Wc.heap.size Wc U ∧ ∀ j y, j < k → L[j]? = some y → collideA x y = false)
    (fun c k U => c = .ret ∧ (∃ y, L[k]? = some y ∧ collideA x y = true) ∧ Below w.heap.size w U ∧ U.cell? ⟨w.heap.size, 0, none⟩ = some (.int .i64 0) ∧ U.cell? ⟨w.heap.size + 1, 0, none⟩ = some (.int .i64 16))
    (own_px 84 (by kernel_rfl) (by kernel_rfl) 0 W.heap.size b L.length _ v (fun k => (L[k]?.map Ob.id).getD 0) _ HV.out (by omega) (fun g hg => own_ne HAC.out.tab hg) ?hI0) (fun _ => rfl) ?hI ?hIx ⟨Below.refl _ _, fun j y h => by omega⟩
    (fun x => { tmps := #[.pointer (some ⟨b, 0, none⟩), .int .i64 kd, .int .i64 sz, .int .i64 fi, undef, undef, undef, undef, .pointer (some ⟨w.heap.size, 0, none⟩), .pointer (some ⟨w.heap.size + 1, 0, none⟩), .pointer (some ⟨w.heap.size + 1 + 1, 0, none⟩), .pointer (v.ownBlock.map fun g => ⟨g, x * 10 + 1, none⟩), .pointer (some ⟨b, 0, none⟩), .bool false, .int .i64 kd, .int .i64 sz, .int .i64 fi, .int .i64 kd, .int .i64 sz, .int .i64 fr, .agg #[.int .i64 0, .int .i64 kd, .int .i64 sz, .int .i64 fi, .int .i64 fr, .int .i64 0, .int .i64 0, .int .i64 0, .int .i64 0], .pointer (some ⟨w.heap.size + 1 + 1, 4, none⟩), .int .i64 fr, .bool false, .int .i64 fi, .bool false, .bool false, .int .i64 fi, .pointer (some ⟨b, 0, none⟩), .pointer (some ⟨b, 0, none⟩), .pointer (some ⟨b, 0, none⟩), .slice (some ⟨ab, 0, none⟩) F F, .int .i64 (F : Nat), .pointer (some ⟨w.heap.size + 1 + 1, 4, none⟩), .int .i64 fr, .int .i64 ((F : Int) - fr), .bool false, .bool false, .pointer (some ⟨b, 0, none⟩), .func (.func 54) #[] #[.pointer (some ⟨W.heap.size, 0, none⟩)], .pointer (v.ownBlock.map fun g => ⟨g, x * 10 + 1, none⟩), undef, undef, undef, undef, undef, undef, undef, undef, undef, undef, undef, undef, undef, undef, undef, undef, undef, undef, undef, undef, undef, undef, undef, undef, undef, undef, undef, undef, undef, undef], defers := [] }) ?hassign ?hbody ?hdone ?hstop
  case hI0 =>
    rintro k U ⟨hU, -⟩
    have hWs := HWS.out
    have hcz := HCZ.out
    refine ⟨(hU.cell (p := ⟨W.heap.size, 0, none⟩) (by simp; omega)).trans HBX.out, (HAC.out.call hU).tab.cell, fun g hg j hj => ?_⟩
    have hy : L[j]? = some (L[j]'hj) := List.getElem?_eq_getElem hj
    have := HK.out U hU g hg j 0 _ _ hy rfl
    rw [hy]
    exact this
  case hI =>
    intro s A C row h hgr hr
    exact ⟨h.1.trans (((Below.refl _ A).grown hgr h.1.size (fun k hk => (hr k hk).1))), h.2⟩
  case hIx =>
    intro c s A C row h hgr hr
    have hWs := HWS.out
    have hcz := HCZ.out
    have hs : w.heap.size + 1 < Wc.heap.size := by omega
    have e : ∀ k, k < Wc.heap.size → some k ≠ row := fun k hk e => by have := (hr k e.symm).1; omega
    exact ⟨h.1, h.2.1, h.2.2.1.grown hgr h.2.2.1.size (fun k hk => by have := (hr k hk).1; omega), hgr.cell h.2.2.2.1 (e _ (by simp; omega)), hgr.cell h.2.2.2.2 (e _ (by simp; omega))⟩
  case hassign =>
    intro l x W K hK
    gi_wp2
    exact hK
  case hbody =>
    rintro l k U hkN ⟨hU, hno⟩
    obtain ⟨y, hy⟩ : ∃ y, L[k]? = some y := ⟨L[k]'hkN, List.getElem?_eq_getElem hkN⟩
    have HNO := Lib.hid hno
    have HY := Lib.hid hy
    have HU := Lib.hid hU
    rcases HV.out with ⟨_, h0⟩ | ⟨g, c, rfl⟩
    · omega
    · have hsz := hU.size
      have hWs := HWS.out
      have hcz := HCZ.out
      have hrx : U.rangeAt (w.heap.size + 1 + 1) 0 x.cells := by
        intro j u hj
        rw [Nat.zero_add]
        refine (hU.cell (p := ⟨w.heap.size + 1 + 1, j, none⟩) (by simp; omega)).trans ((HB1.out.cell (p := ⟨w.heap.size + 1 + 1, j, none⟩) (by simp; omega)).trans ?_)
        rw [HX.out] at hj
        exact (HW.out.ox j).trans hj
      have hry : U.rangeAt g (k * 10 + 1) y.cells := by
        intro j u hj
        have := HK.out U hU g rfl k (j + 1) y u hy (by simpa [rowO, rcells] using hj)
        rwa [show k * 10 + 1 + j = k * 10 + (j + 1) by omega]
      obtain ⟨xi, xk, xs, xf, xr, xm, xe, xp, xl⟩ := x
      obtain ⟨yi, yk, ys, yf, yr, ym, ye, yp, yl⟩ := y
      have x0 := hrx 0 _ rfl
      have x1 := hrx 1 _ rfl
      have x2 := hrx 2 _ rfl
      have x3 := hrx 3 _ rfl
      have x4 := hrx 4 _ rfl
      have x5 := hrx 5 _ rfl
      have x6 := hrx 6 _ rfl
      have x7 := hrx 7 _ rfl
      have x8 := hrx 8 _ rfl
      have y0 := hry 0 _ rfl
      have y1 := hry 1 _ rfl
      have y2 := hry 2 _ rfl
      have y3 := hry 3 _ rfl
      have y4 := hry 4 _ rfl
      have y5 := hry 5 _ rfl
      have y6 := hry 6 _ rfl
      have y7 := hry 7 _ rfl
      have y8 := hry 8 _ rfl
      simp only [Nat.zero_add] at x0 x1 x2 x3 x4 x5 x6 x7 x8
      simp only [Nat.add_assoc, Nat.reduceAdd] at y0 y1 y2 y3 y4 y5 y6 y7 y8
      have hcol := collide_any U.drew ⟨xi, xk, xs, xf, xr, xm, xe, xp, xl⟩ ⟨yi, yk, ys, yf, yr, ym, ye, yp, yl⟩
      have HC := Lib.hid hcol
      have hUd : Below Wc.heap.size Wc U.drew := hU.drew
      have hr8 : w.heap.size + 1 < Wc.heap.size := by omega
      have hdn : ∀ w1, Below U.drew.heap.size U.drew w1 → Below W.heap.size W w1 := fun w1 h => HB1.out.trans ((hU.drew.trans (h.mono hsz)).mono (by omega))
      have HDN := Lib.hid hdn
      have HR8 := Lib.hid hr8
      clear hrx hry hcol hno hy hU hWs hcz hsz hr8 hdn
      simp only [Value.ownBlock, Option.map]
      cases hcc : collideA ⟨xi, xk, xs, xf, xr, xm, xe, xp, xl⟩ ⟨yi, yk, ys, yf, yr, ym, ye, yp, yl⟩ with
      | false =>
        have HCC := Lib.hid hcc
        clear hcc
        gi_wp2
        gi_region_with (first | (refine ⟨trivial, ?_⟩; gi_at_call 36; refine (calls_round HC.out).mono ?_; rw [HCC.out]; rintro e w1 ⟨rfl, hb1⟩))
        all_goals
          gi_wp2
          refine ⟨(HiKept.below hb1 : HiKept _ _ U.drew w1), HU.out.drew.trans (hb1.mono HU.out.size), fun j y hj hy => ?_⟩
          rcases Nat.lt_or_ge j k with q | q
          · exact HNO.out j y q hy
          · obtain rfl : j = k := by omega
            rw [HY.out] at hy
            cases hy
            exact HCC.out
      | true =>
        have HCC := Lib.hid hcc
        clear hcc
        gi_wp2
        gi_region_with (first | (refine ⟨trivial, ?_⟩; gi_at_call 36; refine (calls_round HC.out).mono ?_; rw [HCC.out]; rintro e w1 ⟨rfl, hb1⟩))
        all_goals
          obtain ⟨q8, q9, qb, q1, q2, q3, q4⟩ := HW.out.done (HDN.out w1 hb1) 0 16
          have Q8 := Lib.hid q8
          have Q9 := Lib.hid q9
          have QB := Lib.hid qb
          clear q8 q9 qb
          gi_wp2
          have := HR8.out
          exact ⟨((HiKept.below hb1 : HiKept _ _ U.drew w1).setCell (by omega)).setCell (by omega), rfl, ⟨_, HY.out, HCC.out⟩, QB.out, Q8.out, Q9.out⟩
  case hstop =>
    rintro D c k U hD hkN ⟨rfl, ⟨y, hy, hyc⟩, hB, q8, q9⟩ hK
    have hWs := HWS.out
    have hcz := HCZ.out
    have hadd : addA cnt L x = (0, 16) := by
      unfold addA
      rw [if_pos (by rw [List.any_eq_true]; exact ⟨y, List.mem_of_getElem? hy, hyc⟩)]
    have HADD := Lib.hid hadd
    have g8 : (U.putObj D (.deferred none)).cell? ⟨w.heap.size, 0, none⟩ = some (.int .i64 0) := (World.cell?_of_block (World.putObj_heap_other (by simp; omega))).trans q8
    have g9 : (U.putObj D (.deferred none)).cell? ⟨w.heap.size + 1, 0, none⟩ = some (.int .i64 16) := (World.cell?_of_block (World.putObj_heap_other (by simp; omega))).trans q9
    have hBD : Below w.heap.size w (U.putObj D (.deferred none)) := hB.trans (belowK_b (w := w) (Nat.le_refl _) U D _ _ (by omega) hK rfl rfl)
    clear hWs hcz hadd
    gi_wp2
    refine ⟨by simp, .inl ⟨_, _, rfl, run_takeDeferred hK, ?_⟩⟩
    exact ⟨.tuple #[.int .i64 0, .int .i64 16], by simp [results, Tryd.results21, go_sem, g8, g9], by rw [HADD.out], .inl ⟨by rw [HADD.out]; decide, hBD⟩⟩
  case hdone =>
    rintro D U hD ⟨hU, hno⟩ hK
    have hWs := HWS.out
    have hcz := HCZ.out
    have hAU := HAC.out.call hU
    have hany : L.any (collideA x) = false := by
      rw [Bool.eq_false_iff]
      intro hc
      rw [List.any_eq_true] at hc
      obtain ⟨y, hy, hyc⟩ := hc
      obtain ⟨j, hj⟩ := List.getElem?_of_mem hy
      rw [hno j y (List.getElem?_eq_some_iff.1 hj).1 hj] at hyc
      cases hyc
    have hsz := hU.size
    have hBU : Below W.heap.size W U := HB1.out.trans (hU.mono (by omega))
    have hxU : U.heap[w.heap.size + 1 + 1]? = some (.cells x.cells.toArray 84 (0, 0)) := (hBU.block _ (by omega)).trans (by rw [HX.out]; exact HW.out.rx)
    have s0 : U.cell? ⟨w.heap.size + 1 + 1, 0, none⟩ = some (.int .i64 0) := by rw [cell_cur hxU, HX.out]; rfl
    have f0 : U.frozen? ⟨w.heap.size + 1 + 1, 0, none⟩ = false := froz_row hxU
    have hxfi : x.fi = fi := by rw [HX.out]
    have HXF := Lib.hid hxfi
    generalize hnx : nextA cnt fi = nx
    have HNX := Lib.hid hnx
    have HAU := Lib.hid hAU
    have HANY := Lib.hid hany
    have HBU := Lib.hid hBU
    have HXU := Lib.hid hxU
    have HU := Lib.hid hU
    have HKD := Lib.hid hK
    have hDl : D < U.heap.size := (Array.getElem?_eq_some_iff.1 hK).1
    by_cases hz : nx = 0
    · subst hz
      have hadd : addA cnt L x = (0, 11) := by
        unfold addA
        rw [if_neg (by rw [HANY.out]; decide), HXF.out, if_pos HNX.out]
      have HADD := Lib.hid hadd
      have hB1 : Below w.heap.size w (U.setCell ⟨w.heap.size + 1 + 1, 0, none⟩ (.int .i64 0)) := Below.setCell (HW.out.below.trans (hBU.mono (by omega))) (by show w.heap.size ≤ w.heap.size + 1 + 1; omega) _
      have r8 := (hBU.cell (p := ⟨w.heap.size, 0, none⟩) (by simp; omega)).trans HW.out.r8
      have q8 := (hBU.frozen (p := ⟨w.heap.size, 0, none⟩) (by simp; omega)).trans HW.out.f8
      have r9 := (hBU.cell (p := ⟨w.heap.size + 1, 0, none⟩) (by simp; omega)).trans HW.out.r9
      have q9 := (hBU.frozen (p := ⟨w.heap.size + 1, 0, none⟩) (by simp; omega)).trans HW.out.f9
      obtain ⟨V, hV⟩ : ∃ y, y = ((U.setCell ⟨w.heap.size + 1 + 1, 0, none⟩ (.int .i64 0)).setCell ⟨w.heap.size, 0, none⟩ (.int .i64 0)).setCell ⟨w.heap.size + 1, 0, none⟩ (.int .i64 11) := ⟨_, rfl⟩
      have v8 : V.cell? ⟨w.heap.size, 0, none⟩ = some (.int .i64 0) := by rw [hV]; go_simp
      have v9 : V.cell? ⟨w.heap.size + 1, 0, none⟩ = some (.int .i64 11) := by rw [hV]; go_simp
      have hBV : Below w.heap.size w V := by rw [hV]; exact Below.setCell (Below.setCell hB1 (by simp) _) (by simp) _
      have hKV : V.heap[D]? = some (.deferred (some [])) := by
        rw [hV, Go.heap_setCell_other _ _ _ _ (by simp; omega), Go.heap_setCell_other _ _ _ _ (by simp; omega), Go.heap_setCell_other _ _ _ _ (by simp; omega)]
        exact hK
      have HV1 := Lib.hid hV
      have HV8 := Lib.hid v8
      have HV9 := Lib.hid v9
      have HBV := Lib.hid hBV
      have HKV := Lib.hid hKV
      have hDz : w.heap.size + 2 < D := by omega
      clear hV v8 v9 hBV hKV hB1 hBU hxU hAU hany hU hK hno hsz hWs hcz hxfi hadd hnx
      gi_wp2_with (refine ⟨trivial, ?_⟩; gi_at_call 37; refine (callsIn_wide.2 (next_any U b ab base F cnt v L fi HAU.out)).mono ?_; rw [HNX.out]; rintro e w1 ⟨rfl, rfl⟩)
      rw [← HV1.out]
      have hKV := HKV.out
      have g8 : (V.putObj D (.deferred none)).cell? ⟨w.heap.size, 0, none⟩ = some (.int .i64 0) := (World.cell?_of_block (World.putObj_heap_other (by simp; omega))).trans HV8.out
      have g9 : (V.putObj D (.deferred none)).cell? ⟨w.heap.size + 1, 0, none⟩ = some (.int .i64 11) := (World.cell?_of_block (World.putObj_heap_other (by simp; omega))).trans HV9.out
      refine ⟨by simp, .inl ⟨_, _, rfl, run_takeDeferred hKV, ?_⟩⟩
      exact ⟨.tuple #[.int .i64 0, .int .i64 11], by simp [results, Tryd.results21, go_sem, g8, g9], by rw [HADD.out], .inl ⟨by rw [HADD.out]; decide, HBV.out.trans (belowK_b (w := w) (Nat.le_refl _) V D _ _ (by omega) hKV rfl rfl)⟩⟩
    · obtain ⟨k, rfl⟩ : ∃ k : Nat, fi = (k : Int) := ⟨fi.toNat, by omega⟩
      obtain ⟨c, hc⟩ : ∃ c, cnt[k]? = some c := by
        cases hc : cnt[k]? with
        | some c => exact ⟨c, rfl⟩
        | none =>
          exfalso
          unfold nextA at hnx
          rw [if_neg (by omega), show ((k : Int)).toNat = k by omega, hc] at hnx
          exact hz hnx.symm
      have hcn := hAU.cn c (List.mem_of_getElem? hc)
      have hnv : nx = k + 1 + 64 * c ∧ nx ≤ 65535 := by
        unfold nextA at hnx
        rw [if_neg (by omega), show ((k : Int)).toNat = k by omega, hc] at hnx
        simp only [] at hnx
        split at hnx
        · omega
        · omega
      have hadd : addA cnt L x = (nx, 0) := by
        unfold addA
        rw [if_neg (by rw [HANY.out]; decide), HXF.out, if_neg (by rw [HNX.out]; exact hz), HNX.out]
      have HADD := Lib.hid hadd
      have hkF : k < F := by
        have := (List.getElem?_eq_some_iff.1 hc).1
        rw [hAU.fl] at this
        exact this
      have hkF' : (k : Int) < F := by omega
      have uc := count_get hAU hc
      have uf : U.frozen? ⟨ab, k, none⟩ = false := froz_row hAU.ad
      have u0 := hAU.c0
      have habw := HA.out.al
      have hbw := HA.out.bl
      have n1 : ¬ b = w.heap.size + 1 + 1 := by omega
      have n2 : ¬ w.heap.size + 1 + 1 = b := by omega
      have n3 : ¬ ab = w.heap.size + 1 + 1 := by omega
      have n4 : ¬ w.heap.size + 1 + 1 = ab := by omega
      have hov : IntKind.i64.wrap (c + 1) = c + 1 := IntWalk.i64_in _ (by omega)
      have HC := Lib.hid hc
      have HNV := Lib.hid hnv
      have HCN := Lib.hid hcn
      obtain ⟨U2, hU2⟩ : ∃ y, y = (U.setCell ⟨w.heap.size + 1 + 1, 0, none⟩ (.int .i64 nx)).setCell ⟨ab, k, none⟩ (.int .i64 (c + 1)) := ⟨_, rfl⟩
      have hfin := add_fin w W U U2 b ab base F cnt v L kd sz fr nx c k D HA.out HW.out hBU hK (by omega) hlen hc hnv.1 hnv.2 hb1 (by omega) H.out.symm hU2
      have xs := hfin.1
      have y0 := xs 0 _ rfl
      have y1 := xs 1 _ rfl
      have y2 := xs 2 _ rfl
      have y3 := xs 3 _ rfl
      have y4 := xs 4 _ rfl
      have y5 := xs 5 _ rfl
      have y6 := xs 6 _ rfl
      have y7 := xs 7 _ rfl
      have y8 := xs 8 _ rfl
      have HFI := Lib.hid hfin.2
      have HU2 := Lib.hid hU2
      have HDZ := Lib.hid (show w.heap.size + 2 < D by omega)
      clear xs hfin hU2 hc hnv hcn hadd hBU hxU hAU hany hU hK hno hsz hWs hcz hxfi hnx
      gi_wp2_with (refine ⟨trivial, ?_⟩; gi_at_call 37; refine (callsIn_wide.2 (next_any U b ab base F cnt v L k HAU.out)).mono ?_; rw [HNX.out]; rintro e w1 ⟨rfl, rfl⟩)
      rw [← HU2.out]
      clear s0 f0 uc uf u0
      refine wpIn_mono (Q := NoPanic _) ?_ NoPanic.imp
      gi_region_with (first | (refine ⟨trivial, ?_⟩; gi_at_call 38; refine (callsIn_wide.2 HFI.out).mono ?_; rintro e w3 ⟨rfl, v', r8, q8, r9, q9, rx, hV⟩))
      all_goals
        refine NoPanic.normal ?_
        obtain ⟨V, hVV⟩ : ∃ y, y = (w3.setCell ⟨w.heap.size, 0, none⟩ (.int .i64 nx)).setCell ⟨w.heap.size + 1, 0, none⟩ (.int .i64 0) := ⟨_, rfl⟩
        have HVV := Lib.hid hVV
        have HV4 := Lib.hid (hV V hVV)
        clear hV hVV
        gi_wp2
        rw [← HVV.out]
        obtain ⟨hKV, v8, v9, hAV, hOV⟩ := HV4.out
        have hDz := HDZ.out
        have g8 : (V.putObj D (.deferred none)).cell? ⟨w.heap.size, 0, none⟩ = some (.int .i64 nx) := (World.cell?_of_block (World.putObj_heap_other (by simp; omega))).trans v8
        have g9 : (V.putObj D (.deferred none)).cell? ⟨w.heap.size + 1, 0, none⟩ = some (.int .i64 0) := (World.cell?_of_block (World.putObj_heap_other (by simp; omega))).trans v9
        have hput : ∀ j, j ≠ D → (V.putObj D (.deferred none)).heap[j]? = V.heap[j]? := fun j hj => World.putObj_heap_other hj
        have hAD : ∀ j, V.heap[j]? = some (.deferred (some [])) → (V.cell? ⟨j, 0, none⟩) = none := fun j hj => by simp [World.cell?, hj]
        refine ⟨by simp, .inl ⟨_, _, rfl, run_takeDeferred hKV, ?_⟩⟩
        refine ⟨.tuple #[.int .i64 nx, .int .i64 0], by simp [results, Tryd.results21, go_sem, g8, g9], by rw [HADD.out], .inr ⟨by rw [HADD.out], v', c, ?_, ?_, ?_⟩⟩
        · rw [HXF.out]; exact HC.out
        · have e0 : ({ x with id := nextA cnt x.fi } : Ob) = ⟨nx, kd, sz, k, fr, 0, 0, 0, 0⟩ := by rw [HXF.out, HNX.out, HX.out]
          rw [HXF.out, show ((k : Int)).toNat = k by omega]
          rw [HXF.out] at e0
          rw [e0]
          exact arAt_put hAV hKV
        · exact onlyA_put hOV hDz hKV
theorem add_go (w : World) (b ab base F : Nat) (cnt : List Int) (v : Value) (L : List Ob) (kd sz fi : Int) (h : ArAt w b ab base F cnt v L) (hf : framesN kd sz ≠ 0) (hr : ¬ fi < 0 ∧ ¬ F - framesN kd sz < fi) (hlen : L.length < 1000000) :
    Calls Tryd.prog 21 #[.pointer (some ⟨b, 0, none⟩), .int .i64 kd, .int .i64 sz, .int .i64 fi] w fun e w' =>
      e = .returned (.tuple #[.int .i64 (addA cnt L ⟨0, kd, sz, fi, framesN kd sz, 0, 0, 0, 0⟩).1, .int .i64 (addA cnt L ⟨0, kd, sz, fi, framesN kd sz, 0, 0, 0, 0⟩).2]) ∧ AddPost w w' b ab base F cnt v L ⟨0, kd, sz, fi, framesN kd sz, 0, 0, 0, 0⟩ :=
  callsIn_wide.1 (add_in w b ab base F cnt v L kd sz fi h hf hr hlen)
end
/- package arena: Add and Drop of anything; what every program answers that is one. -/
section
set_option linter.unusedVariables false
set_option linter.unusedSimpArgs false
open Go.ChangeShapes Go.WideShapes Go.ChangeAt Go.RowKit Go.Shelf
open TabA

abbrev newO (kd sz fi : Int) : Ob := ⟨0, kd, sz, fi, framesN kd sz, 0, 0, 0, 0⟩
/-- What Add answers, and what it leaves. -/
def addR (F : Nat) (cnt : List Int) (L : List Ob) (kd sz fi : Int) : Int × Int :=
  if framesN kd sz = 0 then (0, 2) else if fi < 0 ∨ F - framesN kd sz < fi then (0, 3) else addA cnt L (newO kd sz fi)
def addC (F : Nat) (cnt : List Int) (L : List Ob) (kd sz fi : Int) : List Int :=
  if (addR F cnt L kd sz fi).2 = 0 then cnt.set fi.toNat ((cnt[fi.toNat]?).getD 0 + 1) else cnt
def addL (F : Nat) (cnt : List Int) (L : List Ob) (kd sz fi : Int) : List Ob :=
  if (addR F cnt L kd sz fi).2 = 0 then insO L { newO kd sz fi with id := (addR F cnt L kd sz fi).1 } else L
theorem OnlyA.of_below {w w' : World} {b ab : Nat} {v : Value} (h : Below w.heap.size w w') : OnlyA w w' b ab v v :=
  ⟨h.os, h.tape, h.output, h.size, fun k hk _ _ _ => h.block k hk, .inl rfl⟩
theorem OnlyA.trans {a c d : World} {b ab : Nat} {v0 v1 v2 : Value} (h : OnlyA a c b ab v0 v1) (k : OnlyA c d b ab v1 v2) : OnlyA a d b ab v0 v2 :=
  ⟨k.os.trans h.os, k.tape.trans h.tape, k.output.trans h.output, Nat.le_trans h.size k.size,
   fun j hj h1 h2 h3 => (k.block j (Nat.lt_of_lt_of_le hj h.size) h1 h2 (fun e => by
     rcases h.foot with q | ⟨g, q, hg⟩
     · rw [q] at e; exact h3 e
     · rw [q] at e; cases e; omega)).trans (h.block j hj h1 h2 h3),
   by
     rcases k.foot with q | ⟨g, q, hg⟩
     · rcases h.foot with r | ⟨g, r, hg⟩
       · exact .inl (q.trans r)
       · exact .inr ⟨g, q.trans r, hg⟩
     · exact .inr ⟨g, q, Nat.le_trans h.size hg⟩⟩
theorem OnlyA.below {w w' : World} {b ab base F n : Nat} {cnt : List Int} {v v' : Value} {L : List Ob} (h : OnlyA w w' b ab v v') (hA : ArAt w b ab base F cnt v L) (h1 : n ≤ b) (h2 : n ≤ ab) : Below n w w' :=
  ⟨h.os, h.tape, h.output, h.size, fun k hk => h.block k (by have := hA.bl; omega) (by omega) (by omega) (fun e => by have := (hA.tab.own e).1; have := hA.tab.ne; omega)⟩
theorem addA_code (cnt : List Int) (L : List Ob) (x : Ob) : (addA cnt L x).2 = 0 → (addA cnt L x).1 = nextA cnt x.fi := by
  unfold addA
  split
  · intro h; cases h
  · split
    · intro h; cases h
    · intro _; rfl
theorem add_any (w : World) (b ab base F : Nat) (cnt : List Int) (v : Value) (L : List Ob) (kd sz fi : Int) (h : ArAt w b ab base F cnt v L) (wf : -9223372036854775808 ≤ fi ∧ fi ≤ 9223372036854775807) (hlen : L.length < 1000000) :
    Calls Tryd.prog 21 #[.pointer (some ⟨b, 0, none⟩), .int .i64 kd, .int .i64 sz, .int .i64 fi] w fun e w' =>
      e = .returned (.tuple #[.int .i64 (addR F cnt L kd sz fi).1, .int .i64 (addR F cnt L kd sz fi).2]) ∧ ∃ v', ArAt w' b ab base F (addC F cnt L kd sz fi) v' (addL F cnt L kd sz fi) ∧ OnlyA w w' b ab v v' := by
  by_cases h0 : framesN kd sz = 0
  · have e : addR F cnt L kd sz fi = (0, 2) := by unfold addR; rw [if_pos h0]
    unfold addC addL
    rw [e, if_neg (by decide), if_neg (by decide)]
    exact (add_arg w b kd sz fi h0).mono fun e w' ⟨he, hb⟩ => ⟨he, v, h.call hb, OnlyA.of_below hb⟩
  · by_cases hr : fi < 0 ∨ F - framesN kd sz < fi
    · have e : addR F cnt L kd sz fi = (0, 3) := by unfold addR; rw [if_neg h0, if_pos hr]
      unfold addC addL
      rw [e, if_neg (by decide), if_neg (by decide)]
      exact (add_range w b ab base F cnt v L kd sz fi h h0 hr wf).mono fun e w' ⟨he, hb⟩ => ⟨he, v, h.call hb, OnlyA.of_below hb⟩
    · have e : addR F cnt L kd sz fi = addA cnt L (newO kd sz fi) := by unfold addR; rw [if_neg h0, if_neg hr]
      have hr' : ¬ fi < 0 ∧ ¬ F - framesN kd sz < fi := by omega
      unfold addC addL
      rw [e]
      refine (add_go w b ab base F cnt v L kd sz fi h h0 hr' hlen).mono fun e w' ⟨he, hp⟩ => ⟨he, ?_⟩
      rcases hp with ⟨hn, hb⟩ | ⟨hz, v', c, hc, hA, hO⟩
      · rw [if_neg hn, if_neg hn]
        exact ⟨v, h.call hb, OnlyA.of_below hb⟩
      · rw [if_pos hz, if_pos hz, addA_code _ _ _ hz]
        refine ⟨v', ?_, hO⟩
        have hc' : cnt[fi.toNat]? = some c := hc
        rw [hc']
        exact hA
/-- What Drop answers, and what it leaves. -/
def dropR (L : List Ob) (id : Int) : Int := if hasR (rowsO L) id then 0 else 2
def dropL (L : List Ob) (id : Int) : List Ob := if hasR (rowsO L) id then L.take (posR (rowsO L) id) ++ L.drop (posR (rowsO L) id + 1) else L
theorem rows_del (L : List Ob) (id : Int) (h : hasR (rowsO L) id = true) : rowsO (dropL L id) = delR (rowsO L) id := by
  unfold dropL
  rw [if_pos h]
  unfold delR rowsO
  rw [List.map_append, List.map_take, List.map_drop]
theorem dropL_sub {L : List Ob} {id : Int} {x : Ob} (h : x ∈ dropL L id) : x ∈ L := by
  unfold dropL at h
  split at h
  · rcases List.mem_append.1 h with q | q
    · exact List.mem_of_mem_take q
    · exact List.mem_of_mem_drop q
  · exact h
def c1 : List Int := addC 8 (zerosA 8) [] 1 8 0
def l1 : List Ob := addL 8 (zerosA 8) [] 1 8 0
def c2 : List Int := addC 8 c1 l1 3 0 2
def l2 : List Ob := addL 8 c1 l1 3 0 2
def c3 : List Int := addC 8 c2 l2 4 0 2
def l3 : List Ob := addL 8 c2 l2 4 0 2
theorem add1 (w : World) (b ab base : Nat) (h : ArAt w b ab base 8 (zerosA 8) (.slice none 0 0) []) : Calls Tryd.prog 21 #[.pointer (some ⟨b, 0, none⟩), .int .i64 1, .int .i64 8, .int .i64 0] w fun e w' =>
      e = .returned (.tuple #[.int .i64 1, .int .i64 0]) ∧ ∃ v', ArAt w' b ab base 8 c1 v' l1 ∧ OnlyA w w' b ab (.slice none 0 0) v' := by
  have r : addR 8 (zerosA 8) [] 1 8 0 = (1, 0) := by decide
  have := add_any w b ab base 8 (zerosA 8) (.slice none 0 0) [] 1 8 0 h (by decide) (by decide)
  rw [r] at this
  exact this
theorem add2 (w : World) (b ab base : Nat) (v : Value) (h : ArAt w b ab base 8 c1 v l1) : Calls Tryd.prog 21 #[.pointer (some ⟨b, 0, none⟩), .int .i64 3, .int .i64 0, .int .i64 2] w fun e w' =>
      e = .returned (.tuple #[.int .i64 3, .int .i64 0]) ∧ ∃ v', ArAt w' b ab base 8 c2 v' l2 ∧ OnlyA w w' b ab v v' := by
  have r : addR 8 c1 l1 3 0 2 = (3, 0) := by decide
  have := add_any w b ab base 8 c1 v l1 3 0 2 h (by decide) (by decide)
  rw [r] at this
  exact this
theorem add3 (w : World) (b ab base : Nat) (v : Value) (h : ArAt w b ab base 8 c2 v l2) : Calls Tryd.prog 21 #[.pointer (some ⟨b, 0, none⟩), .int .i64 4, .int .i64 0, .int .i64 2] w fun e w' =>
      e = .returned (.tuple #[.int .i64 0, .int .i64 16]) ∧ ∃ v', ArAt w' b ab base 8 c3 v' l3 ∧ OnlyA w w' b ab v v' := by
  have r : addR 8 c2 l2 4 0 2 = (0, 16) := by decide
  have := add_any w b ab base 8 c2 v l2 4 0 2 h (by decide) (by decide)
  rw [r] at this
  exact this
theorem next4 (w : World) (b ab base : Nat) (v : Value) (h : ArAt w b ab base 8 c3 v l3) : Calls Tryd.prog 37 #[.pointer (some ⟨b, 0, none⟩), .int .i64 2] w fun e w' => e = .returned (.int .i64 67) ∧ w' = w := by
  have r : nextA c3 2 = 67 := by decide
  have := next_any w b ab base 8 c3 v l3 2 h
  rw [r] at this
  exact this
theorem new8 (w : World) : Calls Tryd.prog 19 #[.int .i64 8] w fun e w' => ∃ b, e = .returned (.tuple #[.pointer (some ⟨b, 0, none⟩), .int .i64 0]) ∧ NewA w w' b 8 := new_any w 8 (by decide)
end
/- chapter 12's acts. -/
section
set_option linter.unusedVariables false
set_option linter.unusedSimpArgs false
open Go.ChangeShapes Go.WideShapes Go.ChangeAt Go.RowKit Go.Shelf
open TabA

structure ActT where
  d : Int
  a : Int
  b : Int
  p : Int
  q : Int
/-- An act's cells. -/
def ActCells (w : World) (b o : Nat) (x : ActT) : Prop :=
  w.cell? ⟨b, o, none⟩ = some (.int .i64 x.d) ∧ w.cell? ⟨b, o + 1, none⟩ = some (.int .i64 x.a) ∧ w.cell? ⟨b, o + 2, none⟩ = some (.int .i64 x.b) ∧ w.cell? ⟨b, o + 3, none⟩ = some (.int .i64 x.p) ∧ w.cell? ⟨b, o + 4, none⟩ = some (.int .i64 x.q)
def InS (n : Int) : Prop := -9223372036854775808 ≤ n ∧ n ≤ 9223372036854775807
def ActT.Ok (x : ActT) : Prop := InS x.d ∧ InS x.a ∧ InS x.b ∧ InS x.p ∧ InS x.q
/-- The acts that a slice holds. -/
def ActsAt (w : World) (p : Option Addr) (n : Nat) (D : Nat → ActT) : Prop :=
  ∃ b off, (0 < n → p = some ⟨b, off, none⟩ ∧ b < w.heap.size) ∧ ∀ k, k < n → ActCells w b (off + k * 5) (D k) ∧ (D k).Ok
theorem wf_S {n : Int} (h : (Lit.int .i64 n).wf = true) : InS n := by
  have e1 : IntKind.i64.min = -9223372036854775808 := by decide
  have e2 : IntKind.i64.max = 9223372036854775807 := by decide
  simp only [Lit.wf, e1, e2, Bool.and_eq_true, decide_eq_true_eq] at h
  exact h
theorem ActsAt.below {w w' : World} {p : Option Addr} {n : Nat} {D : Nat → ActT} (h : ActsAt w p n D) (hb : Below w.heap.size w w') : ActsAt w' p n D := by
  obtain ⟨b, off, h1, h2⟩ := h
  refine ⟨b, off, fun hn => ⟨(h1 hn).1, Nat.lt_of_lt_of_le (h1 hn).2 hb.size⟩, fun k hk => ?_⟩
  obtain ⟨⟨a0, a1, a2, a3, a4⟩, ok⟩ := h2 k hk
  have hl := (h1 (by omega)).2
  have q := fun o => hb.cell (p := ⟨b, o, none⟩) hl
  exact ⟨⟨(q _).trans a0, (q _).trans a1, (q _).trans a2, (q _).trans a3, (q _).trans a4⟩, ok⟩
end
/- A table by whole numbers, of any number of rows: a value's cells are written over. -/
section
set_option linter.unusedVariables false
set_option linter.unusedSimpArgs false
open Go.ChangeShapes Go.WideShapes Go.ChangeAt Go.RowKit

namespace TabA
theorem flat_set {n : Nat} : ∀ {R : List Rw}, Wide n R → ∀ {i j : Nat} {r : Rw} {u : Value}, R[i]? = some r → j + 1 < n → (flat R).set (i * n + (j + 1)) u = flat (R.set i (r.1, r.2.set j u))
  | [], _, i, j, r, u, hi, _ => by simp at hi
  | r0 :: R, h, 0, j, r, u, hi, hj => by
    simp at hi
    subst hi
    have h0 := (h r0 (by simp)).1
    have e : flat ((r0 :: R).set 0 (r0.1, r0.2.set j u)) = rcells (r0.1, r0.2.set j u) ++ flat R := rfl
    rw [e, flat_cons, List.set_append_left _ _ (by omega)]
    simp [rcells]
  | r0 :: R, h, i + 1, j, r, u, hi, hj => by
    have h0 := (h r0 (by simp)).1
    have ih := flat_set (R := R) h.tail (i := i) (j := j) (r := r) (u := u) (by simpa using hi) hj
    have e : flat ((r0 :: R).set (i + 1) (r.1, r.2.set j u)) = rcells r0 ++ flat (R.set i (r.1, r.2.set j u)) := rfl
    rw [e, flat_cons, List.set_append_right _ _ (by rw [h0, Nat.add_mul]; omega), h0, ← ih]
    congr 2
    rw [Nat.add_mul]
    omega
theorem keys_set {R : List Rw} {i : Nat} {r r' : Rw} (hi : R[i]? = some r) (hk : r'.1 = r.1) : (R.set i r').map Prod.fst = R.map Prod.fst := by
  apply List.ext_getElem?
  intro k
  rw [List.getElem?_map, List.getElem?_map]
  by_cases e : i = k
  · subst e
    rw [List.getElem?_set_self (List.getElem?_eq_some_iff.1 hi).1, hi]
    simp [hk]
  · rw [List.getElem?_set_ne e]
/-- A value's cell is written over. -/
theorem tab_set {w : World} {b o base g n c i j : Nat} {R : List Rw} {r : Rw} {u : Value} (h : TabAt w b o base (.slice (some ⟨g, 0, none⟩) n c) R) (hi : R[i]? = some r) (hj : j + 1 < 10) (hu : u.oneCell' = true) :
    TabAt (w.setCell ⟨g, i * 10 + (j + 1), none⟩ u) b o base (.slice (some ⟨g, 0, none⟩) n c) (R.set i (r.1, r.2.set j u)) := by
  have hg := (h.own (g := g) rfl)
  have hgb : g ≠ b := by have := h.ne; omega
  have hrl := (h.wide r (List.mem_of_getElem? hi))
  have hil := (List.getElem?_eq_some_iff.1 hi).1
  refine ⟨?_, ?_, ?_, h.ne, by simpa using h.base, ?_, ?_, by rw [List.length_set]; exact h.le⟩
  · rw [← h.cell]
    exact World.cell?_of_block (Go.heap_setCell_other _ _ _ _ (fun e => hgb e.symm))
  · rw [← h.froz]
    exact World.frozen?_of_block (Go.heap_setCell_other _ _ _ _ (fun e => hgb e.symm))
  · obtain ⟨hl, ⟨h1, _⟩ | ⟨g', cap, cur, hv, q1, q2, q3, q4, q5, q6⟩⟩ := h.row
    · cases h1
    · cases hv
      have hf := flat_set h.wide hi hj (u := u)
      have hlen : (flat (R.set i (r.1, r.2.set j u))).length = (R.set i (r.1, r.2.set j u)).length * 10 := by rw [← hf, List.length_set, List.length_set, hl]
      refine ⟨hlen, .inr ⟨g, c, cur.setIfInBounds (i * 10 + (j + 1)) u, by rw [List.length_set], q1, Go.heap_setCell_same _ _ _ _ _ _ q2, by rw [List.length_set]; exact q3, q4, by simpa using q5, ?_⟩⟩
      rw [← hf, List.length_set, ← q6, Array.toList_setIfInBounds]
      rw [List.take_set]
  · intro x hx
    rcases List.mem_or_eq_of_mem_set hx with q | q
    · exact h.wide x q
    · subst q
      have hl : (rcells r).length = r.2.length + 1 := rfl
      refine ⟨?_, fun y hy => ?_⟩
      · show (r.2.set j u).length + 1 = 10
        rw [List.length_set]
        omega
      · rcases List.mem_cons.1 hy with q | q
        · subst q; rfl
        · rcases List.mem_or_eq_of_mem_set q with q | q
          · exact hrl.2 y (List.mem_cons_of_mem _ q)
          · subst q; exact hu
  · unfold Asc
    rw [keys_set (r' := (r.1, r.2.set j u)) hi rfl]
    exact h.asc
end TabA
end
/- package arena: find, Get, SetMark, SetPlace. -/
section
set_option linter.unusedVariables false
set_option linter.unusedSimpArgs false
open Go.ChangeShapes Go.WideShapes Go.ChangeAt Go.RowKit Go.Shelf
open TabA

/-- The object of a number, and its place. -/
def posO (L : List Ob) (id : Int) : Nat := posR (rowsO L) id
def getO (L : List Ob) (id : Int) : Option Ob := if hasR (rowsO L) id then L[posO L id]? else none
theorem getO_has {w : World} {b ab base F : Nat} {cnt : List Int} {v : Value} {L : List Ob} (h : ArAt w b ab base F cnt v L) (id : Int) : (getO L id = none ∧ hasR (rowsO L) id = false) ∨ ∃ x, getO L id = some x ∧ hasR (rowsO L) id = true ∧ L[posO L id]? = some x ∧ x.id = id := by
  unfold getO
  cases hh : hasR (rowsO L) id with
  | false => exact .inl ⟨rfl, rfl⟩
  | true =>
    obtain ⟨r, hr, e⟩ := (hasR_at h.tab.asc).1 hh
    rw [rows_get] at hr
    cases hx : L[posR (rowsO L) id]? with
    | none => rw [hx] at hr; cases hr
    | some x =>
      rw [hx] at hr
      cases hr
      exact .inr ⟨x, hx, rfl, hx, e⟩
theorem ArAt.vform {w : World} {b ab base F : Nat} {cnt : List Int} {v : Value} {L : List Ob} (h : ArAt w b ab base F cnt v L) {k : Nat} {x : Ob} (hx : L[k]? = some x) : ∃ g c, v = .slice (some ⟨g, 0, none⟩) L.length c ∧ g < w.heap.size ∧ g ≠ b ∧ g ≠ ab ∧ ∀ j u, x.cells[j]? = some u → w.cell? ⟨g, k * 10 + (j + 1), none⟩ = some u := by
  rcases h.tab.form with ⟨_, h2⟩ | ⟨g, c, rfl, hg, hbg, _, _, hR⟩
  · exfalso
    have h3 : (rowsO L).length = 0 := by rw [h2]; rfl
    rw [rows_len] at h3
    have := (List.getElem?_eq_some_iff.1 hx).1
    omega
  · refine ⟨g, c, by rw [rows_len], hg, by have := h.tab.ne; omega, by have := h.abl; omega, fun j u hj => ?_⟩
    exact hR k (j + 1) (rowO x) u (by rw [rows_get, hx]; rfl) (by simpa [rowO, rcells] using hj)
set_option maxRecDepth 100000 in
set_option maxHeartbeats 1000000 in
theorem find_no (w : World) (b ab base F : Nat) (cnt : List Int) (v : Value) (L : List Ob) (id : Int) (h : ArAt w b ab base F cnt v L) (hh : hasR (rowsO L) id = false) :
    Calls Tryd.prog 88 #[.pointer (some ⟨b, 0, none⟩), .int .i64 id] w fun e w' => e = .returned (.tuple #[.pointer none, .bool false]) ∧ Below w.heap.size w w' := by
  have H := Lib.hid h
  have HH := Lib.hid hh
  have hbl := h.bl
  clear h hh
  go_enter Tryd.func88, Tryd.ntmps88
  go_wp2_with (go_at_call 92; refine (get_any _ b 1 base v (rowsO L) id H.out.tab).mono ?_; rw [HH.out]; rintro e w1 ⟨rfl, hb1⟩)
  go_ret2
  exact ⟨rfl, hb1⟩
set_option maxRecDepth 100000 in
set_option maxHeartbeats 1000000 in
theorem find_yes (w : World) (b ab base F g c : Nat) (cnt : List Int) (L : List Ob) (id : Int) (h : ArAt w b ab base F cnt (.slice (some ⟨g, 0, none⟩) L.length c) L) (hh : hasR (rowsO L) id = true) :
    Calls Tryd.prog 88 #[.pointer (some ⟨b, 0, none⟩), .int .i64 id] w fun e w' => e = .returned (.tuple #[.pointer (some ⟨g, posO L id * 10 + 1, none⟩), .bool true]) ∧ Below w.heap.size w w' := by
  have H := Lib.hid h
  have HH := Lib.hid hh
  have hbl := h.bl
  clear h hh
  unfold posO
  go_enter Tryd.func88, Tryd.ntmps88
  go_wp2_with (go_at_call 92; refine (get_any _ b 1 base (.slice (some ⟨g, 0, none⟩) L.length c) (rowsO L) id H.out.tab).mono ?_; rw [HH.out]; rintro e w1 ⟨rfl, hb1⟩)
  go_ret2
  exact ⟨rfl, hb1⟩
abbrev obD (o : Option Ob) : Value := obV (o.getD ⟨0, 0, 0, 0, 0, 0, 0, 0, 0⟩)
theorem ob_one (x : Ob) : x.cells.toArray.all (·.oneCell') = true := by simp [Ob.cells, Value.oneCell']
theorem obV_eq (x : Ob) : obV x = .agg x.cells.toArray := rfl
theorem below_row {B g : Nat} {w0 w : World} (hb : Below B w0 w) (hg : B ≤ g) (cs : Array Value) : Below B w0 (w.setRow g cs) :=
  ⟨hb.os, hb.tape, hb.output, by simp [World.setRow]; exact hb.size, fun k hk => (setRow_other w g k cs (by omega)).trans (hb.block k hk)⟩
attribute [-go_sem] loadVar
set_option maxRecDepth 100000 in
set_option maxHeartbeats 2000000 in
theorem aget_any (w : World) (b ab base F : Nat) (cnt : List Int) (v : Value) (L : List Ob) (id : Int) (h : ArAt w b ab base F cnt v L) :
    Calls Tryd.prog 70 #[.pointer (some ⟨b, 0, none⟩), .int .i64 id] w fun e w' => e = .returned (.tuple #[obD (getO L id), .bool (getO L id).isSome]) ∧ Below w.heap.size w w' := by
  have H := Lib.hid h
  have hal : Below w.heap.size w (w.alloc (.cells #[.int .i64 0, .int .i64 0, .int .i64 0, .int .i64 0, .int .i64 0, .int .i64 0, .int .i64 0, .int .i64 0, .int .i64 0] 84)) := bal (Below.refl _ _) _
  have HAL := Lib.hid hal
  have hfin : ∀ (w1 : World) (x : Ob), Below (w.heap.size + 1) (w.alloc (.cells #[.int .i64 0, .int .i64 0, .int .i64 0, .int .i64 0, .int .i64 0, .int .i64 0, .int .i64 0, .int .i64 0, .int .i64 0] 84)) w1 → w1.heap[w.heap.size]? = some (.cells #[.int .i64 0, .int .i64 0, .int .i64 0, .int .i64 0, .int .i64 0, .int .i64 0, .int .i64 0, .int .i64 0, .int .i64 0] 84 (0, 0)) ∧ (loadVar 84 ⟨w.heap.size, 0, none⟩).run Tryd.prog (w1.setRow w.heap.size x.cells.toArray) = .ok (obV x) (w1.setRow w.heap.size x.cells.toArray) ∧ Below w.heap.size w (w1.setRow w.heap.size x.cells.toArray) := by
    intro w1 x hb1
    have hk := (hb1.block w.heap.size (by omega)).trans (heap_alloc_new w _)
    exact ⟨hk, run_loadVar_row _ _ _ _ _ _ _ (setRow_heap _ _ _ _ _ _ hk) Tryd.underlying84 rfl (by kernel_rfl), below_row (HAL.out.trans (hb1.mono (by omega))) (Nat.le_refl _) _⟩
  have HF := Lib.hid hfin
  clear hfin
  rcases getO_has h id with ⟨hg, hh⟩ | ⟨x, hg, hh, hx, hid⟩
  · rw [hg]
    have HH := Lib.hid hh
    clear h hh hg hal
    go_enter Tryd.func70, Tryd.ntmps70
    go_wp2_with (first
      | (go_at_call 88; refine (find_no _ b ab base F cnt v L id (H.out.call HAL.out) HH.out).mono ?_; rintro e w1 ⟨rfl, hb1⟩; have HB := Lib.hid (HF.out w1 ⟨0, 0, 0, 0, 0, 0, 0, 0, 0⟩ (by simpa using hb1)))
      | (refine wpList_store_row rfl 84 _ _ rfl w.heap.size (Ob.cells ⟨0, 0, 0, 0, 0, 0, 0, 0, 0⟩).toArray rfl rfl _ _ HB.out.1 (by kernel_rfl) rfl (ob_one _) ?_))
    have hl := HB.out.2.1
    exact bodyPost_ret (v := .tuple #[obD none, .bool false]) (by simp [results, Tryd.results70, go_sem, asAddr, hl]) rfl ⟨rfl, HB.out.2.2⟩
  · rw [hg]
    obtain ⟨g, c, rfl, hgl, hgb, hga, hcs⟩ := h.vform hx
    have HH := Lib.hid hh
    have HCS := Lib.hid hcs
    clear h hh hg hal hcs hx hid
    generalize hp : posO L id = p at *
    have HP := Lib.hid hp
    clear hp
    have hld : ∀ w1 : World, Below (w.heap.size + 1) (w.alloc (.cells #[.int .i64 0, .int .i64 0, .int .i64 0, .int .i64 0, .int .i64 0, .int .i64 0, .int .i64 0, .int .i64 0, .int .i64 0] 84)) w1 → ∀ j u, x.cells[j]? = some u → w1.cell? ((⟨g, p * 10 + 1, none⟩ : Addr).add j) = some u := by
      intro w1 hb1
      refine add_cells_off (fun j u hj => ?_)
      rw [Nat.add_assoc, Nat.add_comm 1 j]
      exact ((HAL.out.trans (hb1.mono (by omega))).cell (p := ⟨g, _, none⟩) hgl).trans (HCS.out j u hj)
    have HLD := Lib.hid hld
    clear hld
    go_enter Tryd.func70, Tryd.ntmps70
    go_wp2_with (first
      | (go_at_call 88; refine (find_yes _ b ab base F g c cnt L id (H.out.call HAL.out) HH.out).mono ?_; rw [HP.out]; rintro e w1 ⟨rfl, hb1⟩; have HB := Lib.hid (HF.out w1 x (by simpa using hb1)); have HL := Lib.hid (HLD.out w1 (by simpa using hb1)))
      | (refine wpList_load_list (by first | rfl | simp [Region.wanted, yielded]) 84 _ rfl ⟨g, p * 10 + 1, none⟩ rfl x.cells HL.out _ Tryd.underlying84 rfl (by kernel_rfl) ?_)
      | (refine wpList_store_row rfl 84 _ _ rfl w.heap.size x.cells.toArray rfl rfl _ _ HB.out.1 (by kernel_rfl) rfl (ob_one _) ?_))
    have hl := HB.out.2.1
    exact bodyPost_ret (v := .tuple #[obD (some x), .bool true]) (by simp [results, Tryd.results70, go_sem, asAddr, hl]) rfl ⟨rfl, HB.out.2.2⟩
end
/- package arena: SetMark, SetPlace. -/
section
set_option linter.unusedVariables false
set_option linter.unusedSimpArgs false
open Go.ChangeShapes Go.WideShapes Go.ChangeAt Go.RowKit Go.Shelf
open TabA

theorem rows_set (L : List Ob) (p : Nat) (y : Ob) : rowsO (L.set p y) = (rowsO L).set p (rowO y) := by simp [rowsO, List.map_set]
theorem good_set {F : Nat} {cnt : List Int} {L : List Ob} {p : Nat} {x y : Ob} (h : GoodO F cnt L) (hx : L[p]? = some x) (e : y.id = x.id ∧ y.kd = x.kd ∧ y.sz = x.sz ∧ y.fi = x.fi ∧ y.fr = x.fr) : GoodO F cnt (L.set p y) := by
  intro z hz
  rcases List.mem_or_eq_of_mem_set hz with q | q
  · exact h z q
  · subst q
    obtain ⟨e1, e2, e3, e4, e5⟩ := e
    have := h x (List.mem_of_getElem? hx)
    rw [e1, e2, e3, e4, e5]
    exact this
/-- One cell of an object is written over. -/
theorem ar_set {w : World} {b ab base F g c p j : Nat} {cnt : List Int} {L : List Ob} {x y : Ob} {n : Int} (h : ArAt w b ab base F cnt (.slice (some ⟨g, 0, none⟩) L.length c) L) (hx : L[p]? = some x) (hj : j < 9) (hy : (y.id, y.cells) = (x.id, x.cells.set j (.int .i64 n))) (e : y.kd = x.kd ∧ y.sz = x.sz ∧ y.fi = x.fi ∧ y.fr = x.fr) :
    ArAt (w.setCell ⟨g, p * 10 + (j + 1), none⟩ (.int .i64 n)) b ab base F cnt (.slice (some ⟨g, 0, none⟩) L.length c) (L.set p y) ∧ OnlyA w (w.setCell ⟨g, p * 10 + (j + 1), none⟩ (.int .i64 n)) b ab (.slice (some ⟨g, 0, none⟩) L.length c) (.slice (some ⟨g, 0, none⟩) L.length c) := by
  obtain ⟨g', c', hv, hgl, hgb, hga, hcs⟩ := h.vform hx
  cases hv
  have ht := tab_set (j := j) (u := .int .i64 n) h.tab (i := p) (r := rowO x) (by rw [rows_get, hx]; rfl) (by omega) rfl
  have hr : rowsO (L.set p y) = (rowsO L).set p ((rowO x).1, (rowO x).2.set j (.int .i64 n)) := by rw [rows_set]; congr 1
  have o : ∀ k, k ≠ g → (w.setCell ⟨g, p * 10 + (j + 1), none⟩ (.int .i64 n)).heap[k]? = w.heap[k]? := fun k hk => Go.heap_setCell_other _ _ _ _ hk
  refine ⟨⟨(World.cell?_of_block (o b (fun e => hgb e.symm))).trans h.c0, (o ab (fun e => hga e.symm)).trans h.ad, h.fl, h.f1, by rw [hr]; exact ht, h.abl, h.ne, h.cn, good_set h.good hx ⟨(Prod.mk.inj hy).1, e⟩⟩, ⟨rfl, rfl, rfl, by simp, fun k hk h1 h2 h3 => o k (fun e => h3 (by rw [e]; rfl)), .inl rfl⟩⟩
/-- What SetMark answers, and what it leaves. -/
def markR (L : List Ob) (id m : Int) : Int :=
  match getO L id with
  | none => 2
  | some x => if x.kd = 1 then (if m < 0 ∨ x.fr < m then 3 else 0) else 8
def markL (L : List Ob) (id m : Int) : List Ob :=
  match getO L id with
  | none => L
  | some x => if x.kd = 1 ∧ ¬ (m < 0 ∨ x.fr < m) then L.set (posO L id) { x with ma := m } else L
end
/- package arena: SetPlace. -/
section
set_option linter.unusedVariables false
set_option linter.unusedSimpArgs false
open Go.ChangeShapes Go.WideShapes Go.ChangeAt Go.RowKit Go.Shelf
open TabA

/-- A place that a table may have. -/
def placeOk (se pg lv : Int) : Prop := (se = 0 ∧ pg = 0 ∧ lv = 0) ∨ (1 ≤ se ∧ se ≤ 16777215 ∧ 0 ≤ pg ∧ pg < 512 ∧ (lv = 1 ∨ lv = 2))
instance (se pg lv : Int) : Decidable (placeOk se pg lv) := by unfold placeOk; infer_instance
/-- What SetPlace answers, and what it leaves. -/
def placeR (L : List Ob) (id se pg lv : Int) : Int :=
  match getO L id with
  | none => 2
  | some x => if x.kd = 4 then (if placeOk se pg lv then 0 else 3) else 8
def placeL (L : List Ob) (id se pg lv : Int) : List Ob :=
  match getO L id with
  | none => L
  | some x => if x.kd = 4 ∧ placeOk se pg lv then L.set (posO L id) { x with se := se, pg := pg, lv := lv } else L
theorem ar_set3 {w : World} {b ab base F g c p : Nat} {cnt : List Int} {L : List Ob} {x : Ob} {se pg lv : Int} (h : ArAt w b ab base F cnt (.slice (some ⟨g, 0, none⟩) L.length c) L) (hx : L[p]? = some x) :
    ArAt (((w.setCell ⟨g, p * 10 + 7, none⟩ (.int .i64 se)).setCell ⟨g, p * 10 + 8, none⟩ (.int .i64 pg)).setCell ⟨g, p * 10 + 9, none⟩ (.int .i64 lv)) b ab base F cnt (.slice (some ⟨g, 0, none⟩) L.length c) (L.set p { x with se := se, pg := pg, lv := lv }) ∧
    OnlyA w (((w.setCell ⟨g, p * 10 + 7, none⟩ (.int .i64 se)).setCell ⟨g, p * 10 + 8, none⟩ (.int .i64 pg)).setCell ⟨g, p * 10 + 9, none⟩ (.int .i64 lv)) b ab (.slice (some ⟨g, 0, none⟩) L.length c) (.slice (some ⟨g, 0, none⟩) L.length c) := by
  have hpl := (List.getElem?_eq_some_iff.1 hx).1
  obtain ⟨a1, o1⟩ := ar_set (j := 6) (n := se) (y := { x with se := se }) h hx (by decide) rfl ⟨rfl, rfl, rfl, rfl⟩
  have l1 : (L.set p { x with se := se }).length = L.length := by simp
  rw [← l1] at a1 o1
  obtain ⟨a2, o2⟩ := ar_set (j := 7) (n := pg) (x := { x with se := se }) (y := { x with se := se, pg := pg }) a1 (List.getElem?_set_self hpl) (by decide) rfl ⟨rfl, rfl, rfl, rfl⟩
  rw [List.set_set] at a2
  have l2 : (L.set p { x with se := se }).length = (L.set p { x with se := se, pg := pg }).length := by simp
  rw [l2] at a2 o1 o2
  obtain ⟨a3, o3⟩ := ar_set (j := 8) (n := lv) (x := { x with se := se, pg := pg }) (y := { x with se := se, pg := pg, lv := lv }) a2 (List.getElem?_set_self hpl) (by decide) rfl ⟨rfl, rfl, rfl, rfl⟩
  rw [List.set_set] at a3
  have l3 : (L.set p { x with se := se, pg := pg }).length = L.length := by simp
  rw [l3] at a3 o1 o2 o3
  exact ⟨a3, (o1.trans o2).trans o3⟩
end
/- package arena: All. -/
section
set_option linter.unusedVariables false
set_option linter.unusedSimpArgs false
open Go.ChangeShapes Go.WideShapes Go.ChangeAt Go.RowKit Go.Shelf
open TabA
attribute [local go_sem] Oper.semAt_some
attribute [-go_sem] Builtin.append_
def objsC (L : List Ob) : List Value := L.flatMap Ob.cells
theorem infoOb : (Tryd.prog.info? 84).map (fun i => (i.zero, i.size, i.bytes)) = some (some (.agg #[.int .i64 0, .int .i64 0, .int .i64 0, .int .i64 0, .int .i64 0, .int .i64 0, .int .i64 0, .int .i64 0, .int .i64 0]), 9, 72) := by kernel_rfl
/-- What All has gathered. -/
structure AllI (w : World) (b : Nat) (L : List Ob) (k : Nat) (U : World) : Prop where
  list : ∃ v, U.heap[w.heap.size]? = some (.cells #[v] 66 (0, 0)) ∧ U.ownsRow (w.heap.size + 2) 84 9 v k (objsC (L.take k))
  box : U.heap[w.heap.size + 1]? = some (.cells #[.pointer (some ⟨b, 0, none⟩)] 28 (0, 0))
  lt : w.heap.size + 2 ≤ U.heap.size
  below : Below w.heap.size w U
theorem own_kept {A C : World} {base : Nat} {e : TypeId} {s : Nat} {v : Value} {n : Nat} {xs : List Value} {row : Option Nat} (h : A.ownsRow base e s v n xs) (hg : A.grownBy C row) (hr : ∀ r, row = some r → ∃ o : Obj, A.heap[r]? = some o ∧ o.isCells = false) : C.ownsRow base e s v n xs := by
  have hlt := h.lt
  refine ⟨h.1, ?_⟩
  rcases h.2 with h2 | ⟨g, cap, cur, rfl, q1, q2, q3⟩
  · exact .inl h2
  · refine .inr ⟨g, cap, cur, rfl, q1, (hg.block g (hlt g rfl).2 (fun e => ?_)).trans q2, q3⟩
    obtain ⟨o, ho, hc⟩ := hr g e.symm
    rw [q2] at ho
    cases ho
    cases hc
theorem AllI.own {w : World} {b : Nat} {L : List Ob} : OwnFrom (w.heap.size + 2) (AllI w b L) := by
  intro s A C row h hg hr
  have e : ∀ j, j < w.heap.size + 2 → C.heap[j]? = A.heap[j]? := fun j hj => hg.block j (Nat.lt_of_lt_of_le hj h.lt) (fun e => by have := (hr j e.symm).1; omega)
  obtain ⟨v, hv, hrow⟩ := h.list
  exact ⟨⟨v, (e _ (by omega)).trans hv, own_kept hrow hg (fun r e => (hr r e).2)⟩, (e _ (by omega)).trans h.box, Nat.le_trans h.lt hg.size,
    ⟨hg.os.trans h.below.os, hg.tape.trans h.below.tape, hg.output.trans h.below.output, Nat.le_trans h.below.size hg.size, fun j hj => (e j (by omega)).trans (h.below.block j hj)⟩⟩
theorem AllI.step {w U w2 : World} {b k : Nat} {L : List Ob} {y : Ob} {v v' : Value} {o : Array Value} (h : AllI w b L k U) (hy : L[k]? = some y)
    (hv : U.heap[w.heap.size]? = some (.cells #[v] 66 (0, 0))) (hrow : U.ownsRow (w.heap.size + 2) 84 9 v k (objsC (L.take k)))
    (hown : w2.ownsRow (w.heap.size + 2) 84 9 v' (k + 1) (objsC (L.take k) ++ y.cells)) (hg : (U.alloc (.cells o 84)).drew.grownBy w2 v.ownBlock) :
    AllI w b L (k + 1) (w2.setCell ⟨w.heap.size, 0, none⟩ v') ∧ HiKept 84 (w.heap.size + 2) U (w2.setCell ⟨w.heap.size, 0, none⟩ v') := by
  have hlt := h.lt
  have sz := hg.size
  simp at sz
  have hvb : ∀ j, v.ownBlock = some j → w.heap.size + 2 ≤ j ∧ j < U.heap.size := fun j e => hrow.lt j e
  have hvb' : ∀ j, v'.ownBlock = some j → w.heap.size + 2 ≤ j := fun j e => (hown.lt j e).1
  have e : ∀ j, j < U.heap.size → v.ownBlock ≠ some j → w2.heap[j]? = U.heap[j]? := fun j hj hn => by
    rw [hg.block j (by simp; omega) (fun q => hn q.symm)]
    exact Below.heap_alloc _ _ _ hj
  have e2 : ∀ j, j < w.heap.size + 2 → w2.heap[j]? = U.heap[j]? := fun j hj => e j (by omega) (fun q => by have := (hvb j q).1; omega)
  have htake : L.take (k + 1) = L.take k ++ [y] := by rw [List.take_add_one, hy]; rfl
  refine ⟨⟨⟨v', ?_, ?_⟩, ?_, by simp; omega, ?_⟩, by simp; omega, fun j ob hB hj ho => ?_⟩
  · exact Go.heap_setCell_same _ _ _ _ _ _ ((e2 _ (by omega)).trans hv)
  · rw [htake, show objsC (L.take k ++ [y]) = objsC (L.take k) ++ y.cells by simp [objsC]]
    exact row_of_block hown (fun g hg' => Go.heap_setCell_other _ _ _ _ (by have := hvb' g hg'; simp; omega))
  · exact (Go.heap_setCell_other _ _ _ _ (by simp)).trans ((e2 _ (by omega)).trans h.box)
  · refine ⟨?_, ?_, ?_, ?_, fun j hj => ?_⟩
    · exact hg.os.trans h.below.os
    · exact hg.tape.trans h.below.tape
    · exact hg.output.trans h.below.output
    · simp; have := h.below.size; omega
    · exact (Go.heap_setCell_other _ _ _ _ (by simp; omega)).trans ((e2 j (by omega)).trans (h.below.block j hj))
  · have hjl := (Array.getElem?_eq_some_iff.1 hj).1
    refine (Go.heap_setCell_other _ _ _ _ (by simp; omega)).trans ((e j hjl (fun q => ?_)).trans hj)
    rcases hrow.2 with ⟨rfl, _⟩ | ⟨g, cap, cur, rfl, _, q2, _⟩
    · cases q
    · cases q
      rw [q2] at hj
      cases hj
      simp [Obj.rowOf] at ho
end
/- chapter 12: an arena behind acts. -/
section
set_option linter.unusedVariables false
set_option linter.unusedSimpArgs false
open Go.ChangeShapes Go.WideShapes Go.ChangeAt Go.RowKit Go.Shelf
open TabA

/-- What an act leaves. -/
def stepS (s : List Int × List Ob) (x : ActT) : List Int × List Ob :=
  if x.d = 0 then (addC 16 s.1 s.2 x.a x.b x.p, addL 16 s.1 s.2 x.a x.b x.p) else if x.d = 1 then (s.1, dropL s.2 x.a) else if x.d = 2 then (s.1, markL s.2 x.a x.b) else if x.d = 3 then (s.1, placeL s.2 x.a x.b x.p x.q) else s
def playS (D : Nat → ActT) : Nat → List Int × List Ob
  | 0 => (zerosA 16, [])
  | k + 1 => stepS (playS D k) (D k)
/-- An arena in a state, made since W. -/
def StA (W w : World) (b : Nat) (s : List Int × List Ob) : Prop := ∃ ab base v, ArAt w b ab base 16 s.1 v s.2 ∧ W.heap.size ≤ b ∧ W.heap.size ≤ ab ∧ Below W.heap.size W w
theorem StA.call {W w w' : World} {b : Nat} {s : List Int × List Ob} (h : StA W w b s) (hb : Below w.heap.size w w') : StA W w' b s := by
  obtain ⟨ab, base, v, hA, h1, h2, h3⟩ := h
  exact ⟨ab, base, v, hA.call hb, h1, h2, h3.trans (hb.mono h3.size)⟩
theorem StA.act {W w w' : World} {b ab base : Nat} {cnt : List Int} {v v' : Value} {L : List Ob} {s : List Int × List Ob} (hA : ArAt w b ab base 16 cnt v L) (h1 : W.heap.size ≤ b) (h2 : W.heap.size ≤ ab) (h3 : Below W.heap.size W w) (hA' : ArAt w' b ab base 16 s.1 v' s.2) (hO : OnlyA w w' b ab v v') : StA W w' b s :=
  ⟨ab, base, v', hA', h1, h2, h3.trans (hO.below hA h1 h2)⟩
theorem StA.below {W w : World} {b : Nat} {s : List Int × List Ob} (h : StA W w b s) : Below W.heap.size W w := h.choose_spec.choose_spec.choose_spec.2.2.2
theorem StA.add {W w : World} {b : Nat} {s : List Int × List Ob} (h : StA W w b s) (hl : s.2.length < 1000000) (x1 x2 x3 : Int) (wf : -9223372036854775808 ≤ x3 ∧ x3 ≤ 9223372036854775807) :
    Calls Tryd.prog 21 #[.pointer (some ⟨b, 0, none⟩), .int .i64 x1, .int .i64 x2, .int .i64 x3] w fun e w' => e = .returned (.tuple #[.int .i64 (addR 16 s.1 s.2 x1 x2 x3).1, .int .i64 (addR 16 s.1 s.2 x1 x2 x3).2]) ∧ StA W w' b (addC 16 s.1 s.2 x1 x2 x3, addL 16 s.1 s.2 x1 x2 x3) := by
  obtain ⟨ab, base, v, hA, h1, h2, h3⟩ := h
  exact (add_any w b ab base 16 s.1 v s.2 x1 x2 x3 hA wf hl).mono fun e w' ⟨he, v', hA', hO⟩ => ⟨he, StA.act hA h1 h2 h3 hA' hO⟩
theorem StA.get {W w : World} {b : Nat} {s : List Int × List Ob} (h : StA W w b s) (id : Int) :
    Calls Tryd.prog 70 #[.pointer (some ⟨b, 0, none⟩), .int .i64 id] w fun e w' => e = .returned (.tuple #[obD (getO s.2 id), .bool (getO s.2 id).isSome]) ∧ Below w.heap.size w w' := by
  obtain ⟨ab, base, v, hA, h1, h2, h3⟩ := h
  exact aget_any w b ab base 16 s.1 v s.2 id hA
theorem addL_len (F : Nat) (cnt : List Int) (L : List Ob) (kd sz fi : Int) : (addL F cnt L kd sz fi).length ≤ L.length + 1 := by
  unfold addL
  split
  · unfold insO; simp; omega
  · omega
theorem dropL_len (L : List Ob) (id : Int) : (dropL L id).length ≤ L.length := by
  unfold dropL
  split
  · simp; omega
  · omega
theorem step_len (s : List Int × List Ob) (x : ActT) : (stepS s x).2.length ≤ s.2.length + 1 := by
  unfold stepS
  split
  · exact addL_len _ _ _ _ _ _
  · split
    · have := dropL_len s.2 x.a; show (dropL s.2 x.a).length ≤ _; omega
    · split
      · show (markL s.2 x.a x.b).length ≤ _
        unfold markL
        split
        · omega
        · split
          · rw [List.length_set]; omega
          · omega
      · split
        · show (placeL s.2 x.a x.b x.p x.q).length ≤ _
          unfold placeL
          split
          · omega
          · split
            · rw [List.length_set]; omega
            · omega
        · omega
theorem play_len (D : Nat → ActT) : ∀ n, (playS D n).2.length ≤ n
  | 0 => Nat.le_refl _
  | n + 1 => by have := step_len (playS D n) (D n); have := play_len D n; show (stepS (playS D n) (D n)).2.length ≤ _; omega
theorem new16 (w : World) : Calls Tryd.prog 19 #[.int .i64 16] w fun e w' => ∃ b, e = .returned (.tuple #[.pointer (some ⟨b, 0, none⟩), .int .i64 0]) ∧ StA w w' b (zerosA 16, []) :=
  (new_any w 16 (by decide)).mono fun e w' ⟨b, he, ab, base, hA, h1, h2, h3⟩ => ⟨b, he, ab, base, _, hA, h2, h1, h3⟩
end
end Go.Proofs.YtnjdljjmengjbaaDoor
