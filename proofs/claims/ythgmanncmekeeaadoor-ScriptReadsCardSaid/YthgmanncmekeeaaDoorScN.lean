/- chapter 35: the places of an event's numbers. -/
import Derived.Test.YthgmanncmekeeaaDoorScC
import Derived.Maps.AppendAt
import Derived.OwnWalk
import Derived.Deep.Cut
import Derived.BigRegion
import Derived.RangeFuncRecord
namespace Go.Proofs.YthgmanncmekeeaaDoor
set_option linter.unusedVariables false
set_option linter.unusedSimpArgs false
open Go.ChangeShapes Go.WideShapes Go.ChangeAt Go.RowKit
namespace Sc
theorem row_cell {w : World} {q : Nat} {cs : Array Value} {t : TypeId} {fr : Nat × Nat} (h : w.heap[q]? = some (.cells cs t fr)) (j : Nat) : w.cell? ⟨q, j, none⟩ = cs[j]? := by
  simp [World.cell?, h]
theorem addr_add (q j : Nat) : ((⟨q, 0, none⟩ : Addr).add j) = ⟨q, j, none⟩ := by unfold Addr.add; split <;> simp_all
theorem own_block {A C : World} {base : Nat} {e : TypeId} {s : Nat} {v : Value} {n : Nat} {xs : List Value} (h : A.ownsRow base e s v n xs) (k : ∀ g, v.ownBlock = some g → C.heap[g]? = A.heap[g]?) : C.ownsRow base e s v n xs := by
  refine ⟨h.1, ?_⟩
  rcases h.2 with h2 | ⟨g, cap, cur, rfl, q1, q2, q3⟩
  · exact .inl h2
  · exact .inr ⟨g, cap, cur, rfl, q1, (k g rfl).trans q2, q3⟩
/-- An event's cells. -/
def evA (c : Ev) : Array Value := #[.int .i64 (c 0), .int .i64 (c 1), .int .i64 (c 2), .int .u64 (c 3), .int .u64 (c 4), .int .u64 (c 5), .int .u64 (c 6), .int .u64 (c 7), .int .u64 (c 8), .int .u64 (c 9), .int .u64 (c 10), .int .u64 (c 11), .int .i64 (c 12), .int .i64 (c 13), .int .i64 (c 14)]
abbrev EvAt (w : World) (b : Nat) (c : Ev) : Prop := w.heap[b]? = some (.cells (evA c) 36 (0, 0))
theorem infoNum : (Tryd.prog.info? 66).map (fun i => (i.zero, i.size, i.bytes)) = some (some (.agg #[.pointer none, .pointer none]), 2, 16) := by kernel_rfl
/-- A place's two cells. -/
def plC (b : Nat) (p : Bool × Nat) : List Value := if p.1 = true then [.pointer none, .pointer (some ⟨b, p.2, none⟩)] else [.pointer (some ⟨b, p.2, none⟩), .pointer none]
def plsC (b : Nat) (ps : List (Bool × Nat)) : List Value := ps.flatMap (plC b)
theorem plC_len (b : Nat) (p : Bool × Nat) : (plC b p).length = 2 := by unfold plC; split <;> rfl
theorem plsC_len (b : Nat) (ps : List (Bool × Nat)) : (plsC b ps).length = ps.length * 2 := by
  induction ps with
  | nil => rfl
  | cons p ps ih => unfold plsC at *; rw [List.flatMap_cons, List.length_append, plC_len, ih, List.length_cons]; omega
theorem plsC_one (b : Nat) (ps : List (Bool × Nat)) : ∀ u ∈ plsC b ps, u.oneCell' = true := by
  intro u hu
  obtain ⟨p, hp, hu⟩ := List.mem_flatMap.1 hu
  unfold plC at hu
  split at hu
  · rcases List.mem_cons.1 hu with rfl | hu
    · rfl
    · rw [List.mem_singleton] at hu; subst hu; rfl
  · rcases List.mem_cons.1 hu with rfl | hu
    · rfl
    · rw [List.mem_singleton] at hu; subst hu; rfl
/-- The list of places while it grows, its header in a box. -/
structure NumAt (w : World) (B q : Nat) (v : Value) (n : Nat) (xs : List Value) : Prop where
  box : w.heap[q]? = some (.cells #[v] 82 (0, 0))
  own : w.ownsRow B 66 2 v n xs
  hB : B ≤ q
  hq : v.ownBlock ≠ some q
theorem NumAt.lt {w : World} {B q n : Nat} {v : Value} {xs : List Value} (h : NumAt w B q v n xs) : q < w.heap.size := (Array.getElem?_eq_some_iff.1 h.box).1
theorem NumAt.call {w w' : World} {B q n : Nat} {v : Value} {xs : List Value} (h : NumAt w B q v n xs) (hb : Below w.heap.size w w') : NumAt w' B q v n xs :=
  ⟨(hb.block q h.lt).trans h.box, own_block h.own (fun g hg => hb.block g (h.own.lt g hg).2), h.hB, h.hq⟩
theorem num_step {w : World} {B q n : Nat} {v : Value} {xs : List Value} (h : NumAt w B q v n xs) (E : TypeId) (m : Nat) (news : List Value) (hl : news.length = m * 2) (h1 : ∀ u ∈ news, u.oneCell' = true) (hn : n + m ≤ 100) (hBw : B ≤ w.heap.size) (h0 : 0 < n + m) :
    ∃ v' w', (∃ g cap, v' = .slice (some ⟨g, 0, none⟩) (n + m) cap) ∧ (Builtin.append_ #[82, 82] 82 #[v, .slice (some ⟨w.heap.size, 0, none⟩) m m]).run Tryd.prog (w.alloc (.cells news.toArray E)).drew = .ok v' w' ∧ w'.cell? ⟨q, 0, none⟩ = some v ∧ w'.frozen? ⟨q, 0, none⟩ = false ∧ NumAt (w'.setCell ⟨q, 0, none⟩ v') B q v' (n + m) (xs ++ news) ∧ Below B w (w'.setCell ⟨q, 0, none⟩ v') := by
  obtain ⟨i0, hi0, hz0, hz1, hz2⟩ := info_parts infoNum
  obtain ⟨W, hW⟩ : ∃ y, y = (w.alloc (.cells news.toArray E)).drew := ⟨_, rfl⟩
  have hbW : Below w.heap.size w W := hW ▸ (bal (Below.refl _ _) _).drew
  have hnew : W.heap[w.heap.size]? = some (.cells news.toArray E (0, 0)) := by rw [hW]; exact World.alloc_heap_new w _
  rw [← hW]
  have hN := h.call hbW
  obtain ⟨v', w', q1, q2, q3, -, q5⟩ := run_append_own_at (P := Tryd.prog) (w := W) B 82 82 66 i0 (.agg #[.pointer none, .pointer none]) 2 16 Tryd.underlying82 hi0 hz0 hz1 hz2 rfl (by decide) v n xs hN.own ⟨w.heap.size, 0, none⟩ m m news hl (fun j u hj => by
    rw [addr_add, row_cell hnew]; simpa using hj) h1 (by unfold maxLen; omega) (by omega) (Nat.le_trans hBw hbW.size)
  have hqW := hN.lt
  have hbox : w'.heap[q]? = some (.cells #[v] 82 (0, 0)) := (q3.block q hqW (fun e => h.hq e.symm)).trans hN.box
  have hq' : v'.ownBlock ≠ some q := by
    rcases q5 with e | e
    · rw [e]; exact h.hq
    · rw [e]; intro e2; injection e2 with e2; omega
  have hbw' : Below B W w' := (Below.refl B W).grown q3 (Nat.le_trans hBw hbW.size) (fun k e => (hN.own.lt k e).1)
  have hform : ∃ g cap, v' = .slice (some ⟨g, 0, none⟩) (n + m) cap := by
    rcases q2.2 with ⟨_, e⟩ | ⟨g, cap, cur, e, _⟩
    · omega
    · exact ⟨g, cap, e⟩
  refine ⟨v', w', hform, q1, ?_, ?_, ⟨?_, own_block q2 (fun g hg => Go.heap_setCell_other _ _ _ _ (fun e => hq' (by rw [hg, e]))), h.hB, hq'⟩, ?_⟩
  · rw [row_cell hbox]; rfl
  · simp [World.frozen?, hbox]
  · rw [Go.heap_setCell_same _ _ _ _ _ _ hbox]; rfl
  · exact ((hbW.mono hBw).trans hbw').setCell (p := ⟨q, 0, none⟩) h.hB v'
/-- The list at its start: the core. -/
theorem num_start (w : World) (b : Nat) : NumAt ((w.alloc (.cells #[.pointer (some ⟨b, 1, none⟩), .pointer none] 66)).alloc (.cells #[.slice (some ⟨w.heap.size, 0, none⟩) 1 1] 82)) w.heap.size (w.heap.size + 1) (.slice (some ⟨w.heap.size, 0, none⟩) 1 1) 1 (plsC b [(false, 1)]) := by
  have e := World.size_alloc w (.cells #[.pointer (some ⟨b, 1, none⟩), .pointer none] 66)
  refine ⟨?_, ⟨rfl, .inr ⟨w.heap.size, 1, #[.pointer (some ⟨b, 1, none⟩), .pointer none], rfl, Nat.le_refl _, ?_, Nat.le_refl _, by unfold maxLen; decide, rfl, rfl⟩⟩, by omega, by simp [Value.ownBlock]⟩
  · have := World.alloc_heap_new (w.alloc (.cells #[.pointer (some ⟨b, 1, none⟩), .pointer none] 66)) (.cells #[.slice (some ⟨w.heap.size, 0, none⟩) 1 1] 82)
    rw [e] at this
    exact this
  · exact (Below.heap_alloc _ _ _ (by rw [e]; omega)).trans (World.alloc_heap_new w _)
attribute [-go_sem] Builtin.append_
set_option maxRecDepth 100000 in
set_option maxHeartbeats 1000000 in
theorem numbers_1 (w : World) (b : Nat) (c : Ev) (h : EvAt w b c) (hk : c 0 = 1) : Calls Tryd.prog 23 #[.pointer (some ⟨b, 0, none⟩)] w fun e w' => ∃ q v, e = .returned (.func (.func 33) #[] #[.pointer (some ⟨q, 0, none⟩)]) ∧ NumAt w' w.heap.size q v (places (c 0)).length (plsC b (places (c 0))) ∧ Below w.heap.size w w' := by
  have hpl : places (c 0) = [(false, 1)] ++ [(false, 2)] := by rw [hk]; rfl
  have HPL := Lib.hid hpl
  have hlt : b < w.heap.size := (Array.getElem?_eq_some_iff.1 h).1
  have hc0 : w.cell? ⟨b, 0, none⟩ = some (.int .i64 1) := by rw [row_cell h, ← hk]; rfl
  have HS := Lib.hid (num_start w b)
  clear h hk hpl
  go_enter Tryd.func23, Tryd.ntmps23
  go_upto_region 4 with fail
  obtain ⟨w1, hw1⟩ : ∃ y, y = ((w.alloc (.cells #[.pointer (some ⟨b, 1, none⟩), .pointer none] 66)).alloc (.cells #[.slice (some ⟨w.heap.size, 0, none⟩) 1 1] 82)) := ⟨_, rfl⟩
  rw [← hw1]
  have hS := HS.out
  rw [← hw1] at hS
  have hb1 : Below w.heap.size w w1 := hw1 ▸ bal (bal (Below.refl _ _) _) _
  have hq1 : w1.cell? ⟨w.heap.size + 1, 0, none⟩ = some (.slice (some ⟨w.heap.size, 0, none⟩) 1 1) := by rw [row_cell hS.box]; rfl
  have hlq := hS.lt
  obtain ⟨_, w2, ⟨g2, k2, rfl⟩, hrun, hc2, hf2, hN2, hb2⟩ := num_step hS 66 1 [.pointer (some ⟨b, 2, none⟩), .pointer none] rfl (plsC_one b [(false, 2)]) (by decide) hb1.size (by decide)
  have HB1 := Lib.hid hb1
  have HN2 := Lib.hid hN2
  have HB2 := Lib.hid hb2
  clear hw1 HS hS hN2 hb2 hb1
  go_region
  go_wp2
  go_ret
  exact ⟨w.heap.size + 1, _, rfl, by rw [HPL.out]; exact HN2.out, HB1.out.trans HB2.out⟩
set_option maxRecDepth 100000 in
set_option maxHeartbeats 1000000 in
theorem numbers_3 (w : World) (b : Nat) (c : Ev) (h : EvAt w b c) (hk : c 0 = 3) : Calls Tryd.prog 23 #[.pointer (some ⟨b, 0, none⟩)] w fun e w' => ∃ q v, e = .returned (.func (.func 33) #[] #[.pointer (some ⟨q, 0, none⟩)]) ∧ NumAt w' w.heap.size q v (places (c 0)).length (plsC b (places (c 0))) ∧ Below w.heap.size w w' := by
  have hpl : places (c 0) = [(false, 1)] ++ [(true, 10)] := by rw [hk]; rfl
  have HPL := Lib.hid hpl
  have hlt : b < w.heap.size := (Array.getElem?_eq_some_iff.1 h).1
  have hc0 : w.cell? ⟨b, 0, none⟩ = some (.int .i64 3) := by rw [row_cell h, ← hk]; rfl
  have HS := Lib.hid (num_start w b)
  clear h hk hpl
  go_enter Tryd.func23, Tryd.ntmps23
  go_upto_region 13 with fail
  obtain ⟨w1, hw1⟩ : ∃ y, y = ((w.alloc (.cells #[.pointer (some ⟨b, 1, none⟩), .pointer none] 66)).alloc (.cells #[.slice (some ⟨w.heap.size, 0, none⟩) 1 1] 82)) := ⟨_, rfl⟩
  rw [← hw1]
  have hS := HS.out
  rw [← hw1] at hS
  have hb1 : Below w.heap.size w w1 := hw1 ▸ bal (bal (Below.refl _ _) _) _
  have hq1 : w1.cell? ⟨w.heap.size + 1, 0, none⟩ = some (.slice (some ⟨w.heap.size, 0, none⟩) 1 1) := by rw [row_cell hS.box]; rfl
  have hlq := hS.lt
  obtain ⟨_, w2, ⟨g2, k2, rfl⟩, hrun, hc2, hf2, hN2, hb2⟩ := num_step hS 66 1 [.pointer none, .pointer (some ⟨b, 10, none⟩)] rfl (plsC_one b [(true, 10)]) (by decide) hb1.size (by decide)
  have HB1 := Lib.hid hb1
  have HN2 := Lib.hid hN2
  have HB2 := Lib.hid hb2
  clear hw1 HS hS hN2 hb2 hb1
  go_region
  go_wp2
  go_ret
  exact ⟨w.heap.size + 1, _, rfl, by rw [HPL.out]; exact HN2.out, HB1.out.trans HB2.out⟩
set_option maxRecDepth 100000 in
set_option maxHeartbeats 1000000 in
theorem numbers_6 (w : World) (b : Nat) (c : Ev) (h : EvAt w b c) (hk : c 0 = 6) : Calls Tryd.prog 23 #[.pointer (some ⟨b, 0, none⟩)] w fun e w' => ∃ q v, e = .returned (.func (.func 33) #[] #[.pointer (some ⟨q, 0, none⟩)]) ∧ NumAt w' w.heap.size q v (places (c 0)).length (plsC b (places (c 0))) ∧ Below w.heap.size w w' := by
  have hpl : places (c 0) = [(false, 1)] ++ [(false, 14)] := by rw [hk]; rfl
  have HPL := Lib.hid hpl
  have hlt : b < w.heap.size := (Array.getElem?_eq_some_iff.1 h).1
  have hc0 : w.cell? ⟨b, 0, none⟩ = some (.int .i64 6) := by rw [row_cell h, ← hk]; rfl
  have HS := Lib.hid (num_start w b)
  clear h hk hpl
  go_enter Tryd.func23, Tryd.ntmps23
  go_upto_region 19 with fail
  obtain ⟨w1, hw1⟩ : ∃ y, y = ((w.alloc (.cells #[.pointer (some ⟨b, 1, none⟩), .pointer none] 66)).alloc (.cells #[.slice (some ⟨w.heap.size, 0, none⟩) 1 1] 82)) := ⟨_, rfl⟩
  rw [← hw1]
  have hS := HS.out
  rw [← hw1] at hS
  have hb1 : Below w.heap.size w w1 := hw1 ▸ bal (bal (Below.refl _ _) _) _
  have hq1 : w1.cell? ⟨w.heap.size + 1, 0, none⟩ = some (.slice (some ⟨w.heap.size, 0, none⟩) 1 1) := by rw [row_cell hS.box]; rfl
  have hlq := hS.lt
  obtain ⟨_, w2, ⟨g2, k2, rfl⟩, hrun, hc2, hf2, hN2, hb2⟩ := num_step hS 66 1 [.pointer (some ⟨b, 14, none⟩), .pointer none] rfl (plsC_one b [(false, 14)]) (by decide) hb1.size (by decide)
  have HB1 := Lib.hid hb1
  have HN2 := Lib.hid hN2
  have HB2 := Lib.hid hb2
  clear hw1 HS hS hN2 hb2 hb1
  go_region
  go_wp2
  go_ret
  exact ⟨w.heap.size + 1, _, rfl, by rw [HPL.out]; exact HN2.out, HB1.out.trans HB2.out⟩
set_option maxRecDepth 100000 in
set_option maxHeartbeats 1000000 in
theorem numbers_4 (w : World) (b : Nat) (c : Ev) (h : EvAt w b c) (hk : c 0 = 4) : Calls Tryd.prog 23 #[.pointer (some ⟨b, 0, none⟩)] w fun e w' => ∃ q v, e = .returned (.func (.func 33) #[] #[.pointer (some ⟨q, 0, none⟩)]) ∧ NumAt w' w.heap.size q v (places (c 0)).length (plsC b (places (c 0))) ∧ Below w.heap.size w w' := by
  have hpl : places (c 0) = [(false, 1)] ++ [(true, 10), (true, 11)] := by rw [hk]; rfl
  have HPL := Lib.hid hpl
  have hlt : b < w.heap.size := (Array.getElem?_eq_some_iff.1 h).1
  have hc0 : w.cell? ⟨b, 0, none⟩ = some (.int .i64 4) := by rw [row_cell h, ← hk]; rfl
  have HS := Lib.hid (num_start w b)
  clear h hk hpl
  go_enter Tryd.func23, Tryd.ntmps23
  go_upto_region 15 with fail
  obtain ⟨w1, hw1⟩ : ∃ y, y = ((w.alloc (.cells #[.pointer (some ⟨b, 1, none⟩), .pointer none] 66)).alloc (.cells #[.slice (some ⟨w.heap.size, 0, none⟩) 1 1] 82)) := ⟨_, rfl⟩
  rw [← hw1]
  have hS := HS.out
  rw [← hw1] at hS
  have hb1 : Below w.heap.size w w1 := hw1 ▸ bal (bal (Below.refl _ _) _) _
  have hq1 : w1.cell? ⟨w.heap.size + 1, 0, none⟩ = some (.slice (some ⟨w.heap.size, 0, none⟩) 1 1) := by rw [row_cell hS.box]; rfl
  have hlq := hS.lt
  obtain ⟨_, w2, ⟨g2, k2, rfl⟩, hrun, hc2, hf2, hN2, hb2⟩ := num_step hS 66 2 [.pointer none, .pointer (some ⟨b, 10, none⟩), .pointer none, .pointer (some ⟨b, 11, none⟩)] rfl (plsC_one b [(true, 10), (true, 11)]) (by decide) hb1.size (by decide)
  have HB1 := Lib.hid hb1
  have HN2 := Lib.hid hN2
  have HB2 := Lib.hid hb2
  clear hw1 HS hS hN2 hb2 hb1
  go_region
  go_wp2
  go_ret
  exact ⟨w.heap.size + 1, _, rfl, by rw [HPL.out]; exact HN2.out, HB1.out.trans HB2.out⟩
set_option maxRecDepth 100000 in
set_option maxHeartbeats 1000000 in
theorem numbers_5 (w : World) (b : Nat) (c : Ev) (h : EvAt w b c) (hk : c 0 = 5) : Calls Tryd.prog 23 #[.pointer (some ⟨b, 0, none⟩)] w fun e w' => ∃ q v, e = .returned (.func (.func 33) #[] #[.pointer (some ⟨q, 0, none⟩)]) ∧ NumAt w' w.heap.size q v (places (c 0)).length (plsC b (places (c 0))) ∧ Below w.heap.size w w' := by
  have hpl : places (c 0) = [(false, 1)] ++ [(false, 12), (false, 13)] := by rw [hk]; rfl
  have HPL := Lib.hid hpl
  have hlt : b < w.heap.size := (Array.getElem?_eq_some_iff.1 h).1
  have hc0 : w.cell? ⟨b, 0, none⟩ = some (.int .i64 5) := by rw [row_cell h, ← hk]; rfl
  have HS := Lib.hid (num_start w b)
  clear h hk hpl
  go_enter Tryd.func23, Tryd.ntmps23
  go_upto_region 17 with fail
  obtain ⟨w1, hw1⟩ : ∃ y, y = ((w.alloc (.cells #[.pointer (some ⟨b, 1, none⟩), .pointer none] 66)).alloc (.cells #[.slice (some ⟨w.heap.size, 0, none⟩) 1 1] 82)) := ⟨_, rfl⟩
  rw [← hw1]
  have hS := HS.out
  rw [← hw1] at hS
  have hb1 : Below w.heap.size w w1 := hw1 ▸ bal (bal (Below.refl _ _) _) _
  have hq1 : w1.cell? ⟨w.heap.size + 1, 0, none⟩ = some (.slice (some ⟨w.heap.size, 0, none⟩) 1 1) := by rw [row_cell hS.box]; rfl
  have hlq := hS.lt
  obtain ⟨_, w2, ⟨g2, k2, rfl⟩, hrun, hc2, hf2, hN2, hb2⟩ := num_step hS 66 2 [.pointer (some ⟨b, 12, none⟩), .pointer none, .pointer (some ⟨b, 13, none⟩), .pointer none] rfl (plsC_one b [(false, 12), (false, 13)]) (by decide) hb1.size (by decide)
  have HB1 := Lib.hid hb1
  have HN2 := Lib.hid hN2
  have HB2 := Lib.hid hb2
  clear hw1 HS hS hN2 hb2 hb1
  go_region
  go_wp2
  go_ret
  exact ⟨w.heap.size + 1, _, rfl, by rw [HPL.out]; exact HN2.out, HB1.out.trans HB2.out⟩
end Sc
end Go.Proofs.YthgmanncmekeeaaDoor
