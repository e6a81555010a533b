import Derived.Test.YtekllgejmgoajaaDoorPkbo
import Derived.Test.YtekllgejmgoajaaDoorPkap
import Derived.Deep.MidRow
import Derived.Laws.Rows
namespace Go.Proofs.YtekllgejmgoajaaDoor
set_option linter.unusedVariables false
set_option linter.unusedSimpArgs false
set_option maxRecDepth 100000
set_option maxHeartbeats 8000000
open Lib (hid)
namespace HnX
open SX
open Go.ChangeShapes Go.WideShapes Go.ChangeAt Go.RowKit Go.Shelf
attribute [local go_sem] Oper.semAt_some
section
variable {P : Program} {ops : Array Oper} {rest : List Oper} {o : Oper} {a : Act} {w : World} {Q : Exit → Act → World → Prop}
theorem wp_load_list {K : Act → World → Prop} (ty : TypeId) (x : Operand) (ho : o.op = .load ty x) (p : Addr) (hx : a.eval x = .pointer (some p)) (cs : List Value) (hc : ∀ j v, cs[j]? = some v → w.cell? (p.add j) = some v)
  (d : TypeDesc) (hu : P.underlying ty = some d) (hd : (match d with | .struct _ | .array _ _ => true | _ => false) = true) (hi : (P.info? ty).map (·.size) = some cs.length)
  (h : K (a.put o.dst (.agg cs.toArray)) w) : o.wp P a w K Q := by
 have hl : (loadCells p cs.length).run P w = .ok cs.toArray w := run_loadCells_list (P := P) w p cs hc
 have hrun : (loadVar ty p).run P w = .ok (.agg cs.toArray) w := by
  cases hq : P.info? ty with
  | none => simp [hq] at hi
  | some i =>
   have hs : i.size = cs.length := by simpa [hq] using hi
   have hagg : (isAgg ty).run P w = .ok true w := by
    unfold isAgg
    rw [Sem.run_bind, run_underlying hu w]
    cases d <;> simp_all
   simp [loadVar, Sem.run_bind, hagg, sizeOf, typeInfo, hq, hs, hl]
 unfold Oper.wp execOp
 simp only [ho, hx, Instr.loadAt, Instr.sureAddr, Sem.run_bind, Sem.run_pure, Result.andThen_ok, hrun]
 exact h
theorem wpList_load_list (hw : Region.wanted o (yielded ops a.tmps) = true) (ty : TypeId) (x : Operand) (ho : o.op = .load ty x) (p : Addr) (hx : a.eval x = .pointer (some p)) (cs : List Value) (hc : ∀ j v, cs[j]? = some v → w.cell? (p.add j) = some v)
  (d : TypeDesc) (hu : P.underlying ty = some d) (hd : (match d with | .struct _ | .array _ _ => true | _ => false) = true) (hi : (P.info? ty).map (·.size) = some cs.length)
  (h : wpList P ops Q rest (a.put o.dst (.agg cs.toArray)) w) : wpList P ops Q (o :: rest) a w :=
 wpList_step fun K hK => by
  rw [hw, if_pos rfl]
  exact wp_load_list ty x ho p hx cs hc d hu hd hi (hK _ _ h)
end
structure ActH where
 v0 : Value
 a : Int
 i : Int
 b : Int
 j : Int
 ts : List Value
 n : Int
 u : Int
 hl : ts.length = 8
abbrev ActH.L (x : ActH) : List Value := x.v0 :: .int .i64 x.a :: .int .i64 x.i :: .int .i64 x.b :: .int .i64 x.j :: (x.ts ++ [.int .i64 x.n, .int .u64 x.u])
abbrev ActH.val (x : ActH) : Value := .agg x.L.toArray
theorem actH_types : (Tryd.prog.cellTypes Tryd.prog.depth 28).map (fun ts => (ts.length, ts[1]?, ts[2]?, ts[3]?, ts[4]?, ts[13]?, ts[14]?)) = some (15, some 3, some 3, some 3, some 3, some 3, some 24) := by kernel_rfl
theorem open_t28 {W : World} {base : Nat} {v : Value} (hv : Value.okWide Tryd.prog W .any base 28 v) : ∃ x : ActH, v = x.val ∧ True := by
 have ht := actH_types
 cases hts : Tryd.prog.cellTypes Tryd.prog.depth 28 with
 | none => rw [hts] at ht; cases ht
 | some ts =>
  rw [hts] at ht
  simp only [Option.map_some, Option.some.injEq, Prod.mk.injEq] at ht
  obtain ⟨cs, rfl, hl, hc⟩ := agg_cells (ts := ts) Tryd.underlying28 hts (by rw [ht.1]; kernel_rfl) hv
  obtain ⟨v1, e1, o1⟩ := hc 1 _ ht.2.1
  obtain ⟨a, rfl, _⟩ := cell_i64 Tryd.underlying3 o1
  obtain ⟨v2, e2, o2⟩ := hc 2 _ ht.2.2.1
  obtain ⟨i, rfl, _⟩ := cell_i64 Tryd.underlying3 o2
  obtain ⟨v3, e3, o3⟩ := hc 3 _ ht.2.2.2.1
  obtain ⟨b, rfl, _⟩ := cell_i64 Tryd.underlying3 o3
  obtain ⟨v4, e4, o4⟩ := hc 4 _ ht.2.2.2.2.1
  obtain ⟨j, rfl, _⟩ := cell_i64 Tryd.underlying3 o4
  obtain ⟨v5, e5, o5⟩ := hc 13 _ ht.2.2.2.2.2.1
  obtain ⟨n, rfl, _⟩ := cell_i64 Tryd.underlying3 o5
  obtain ⟨v6, e6, o6⟩ := hc 14 _ ht.2.2.2.2.2.2
  obtain ⟨u, rfl, _⟩ := cell_u64 Tryd.underlying24 o6
  rw [ht.1] at hl
  match cs, hl with
  | [c0, c1, c2, c3, c4, c5, c6, c7, c8, c9, c10, c11, c12, c13, c14], _ =>
   cases e1; cases e2; cases e3; cases e4; cases e5; cases e6
   exact ⟨⟨c0, a, i, b, j, [c5, c6, c7, c8, c9, c10, c11, c12], n, u, rfl⟩, rfl, trivial⟩
abbrev zval_t28 : Value := .agg #[.int .i64 0, .int .i64 0, .int .i64 0, .int .i64 0, .int .i64 0, .int .i64 0, .int .i64 0, .int .i64 0, .int .u64 0, .int .i64 0, .int .i64 0, .int .i64 0, .int .i64 0, .int .i64 0, .int .u64 0]
abbrev zdat_t28 {H : Type} : DataW H := .agg [.lit (.int .i64 0), .agg [.lit (.int .i64 0), .lit (.int .i64 0)], .agg [.lit (.int .i64 0), .lit (.int .i64 0)], .agg [.lit (.int .i64 0), .lit (.int .i64 0), .lit (.int .i64 0), .lit (.int .u64 0), .lit (.int .i64 0), .lit (.int .i64 0), .lit (.int .i64 0), .lit (.int .i64 0)], .lit (.int .i64 0), .lit (.int .u64 0)]
theorem eqCz2 : ∀ w, (binOp .eql 26 (.agg #[.int .i64 0, .int .i64 0, .int .i64 0, .int .u64 0, .int .i64 0, .int .i64 0, .int .i64 0, .int .i64 0]) (.agg #[.int .i64 0, .int .i64 0, .int .i64 0, .int .u64 0, .int .i64 0, .int .i64 0, .int .i64 0, .int .i64 0])).run Tryd.prog w = .ok (.bool true) w := fun _ => by kernel_rfl
theorem holdNone_in (L ts : List Value) (v0 : Value) (a i b j n u : Int) (hl : ts.length = 8) (hL : L = v0 :: .int .i64 a :: .int .i64 i :: .int .i64 b :: .int .i64 j :: (ts ++ [.int .i64 n, .int .u64 u])) (W : World) (hT : CX.TabG W) : Calls Tryd.prog 3 #[.agg L.toArray] W fun e w' => e = .returned (.bool true) ∧ Below W.heap.size W w' := by
 obtain ⟨W1, hW1⟩ : ∃ y, y = W.alloc (.cells L.toArray 28) := ⟨_, rfl⟩
 have hb0 : Below W.heap.size W W1 := hW1 ▸ bal (Below.refl _ _) _
 have hblk : W1.heap[W.heap.size]? = some (.cells L.toArray 28 (0, 0)) := by rw [hW1]; exact World.alloc_heap_new _ _
 have hlt : W.heap.size < W1.heap.size := (ags hblk).1
 have hcell : ∀ v, Below W1.heap.size W1 v → ∀ k y, L[k]? = some y → v.cell? ⟨W.heap.size, k, none⟩ = some y := fun v hv k y hk => by
  have hb := (hv.block _ hlt).trans hblk
  simp [World.cell?, hb, hk]
 have hts : ∀ k y, ts[k]? = some y → L[5 + k]? = some y := fun k y hk => by
  have hkl : k < ts.length := (lgs hk).1
  rw [hL, show 5 + k = k + 1 + 1 + 1 + 1 + 1 by omega]
  simp only [List.getElem?_cons_succ]
  rw [List.getElem?_append_left hkl]
  exact hk
 have HX : Hid (∀ v, Below W1.heap.size W1 v → v.cell? ⟨W.heap.size, 1, none⟩ = some (.int .i64 a) ∧ v.cell? ⟨W.heap.size, 2, none⟩ = some (.int .i64 i) ∧ v.cell? ⟨W.heap.size, 3, none⟩ = some (.int .i64 b) ∧ v.cell? ⟨W.heap.size, 4, none⟩ = some (.int .i64 j) ∧ v.cell? ⟨W.heap.size, 13, none⟩ = some (.int .i64 n) ∧ v.cell? ⟨W.heap.size, 14, none⟩ = some (.int .u64 u)) := hid (fun v hv => ⟨hcell v hv 1 _ (by rw [hL]; rfl), hcell v hv 2 _ (by rw [hL]; rfl), hcell v hv 3 _ (by rw [hL]; rfl), hcell v hv 4 _ (by rw [hL]; rfl), hcell v hv 13 _ (by rw [hL]; simp [List.getElem?_append, hl]), hcell v hv 14 _ (by rw [hL]; simp [List.getElem?_append, hl])⟩)
 have HXC : Hid (∀ v, Below W1.heap.size W1 v → ∀ k y, ts[k]? = some y → v.cell? ((⟨W.heap.size, 5, none⟩ : Addr).add k) = some y) := hid (fun v hv k y hk => by
  rw [Addr.add_mid]
  exact hcell v hv (5 + k) y (hts k y hk))
 have HI : Hid ((Tryd.prog.info? 26).map (·.size) = some ts.length) := hid (by rw [hl]; kernel_rfl)
 have HAW : Hid (∀ v, Below W1.heap.size W1 v → Calls Tryd.prog 20 #[] v fun e w' => e = .returned (.bool true) ∧ Below v.heap.size v w') := hid (fun v hv => HpS.awake18 v ((hT.call (hb0.trans (hv.mono hb0.size)))))
 have HW1 := hid hW1
 have HB0 := hid hb0
 have HBR : Hid (Below W1.heap.size W1 W1) := hid (Below.refl _ _)
 have hq := eqCz2
 obtain ⟨x1, x2, x3, x4, x13, x14⟩ := HX.out _ (Below.refl _ _)
 clear hL hW1 hb0 hblk hcell hts hl hT
 go_enter Tryd.func3, Tryd.ntmps3
 go_upto_region 2 with fail
 rw [← HW1.out]
 go_upto_region 3 with (first
  | (go_at_call 4; (with_reducible refine (hget_nil _ a i).mono ?_); rintro e wc ⟨rfl, hb1⟩; have HB := hid (show Below W1.heap.size W1 wc from bgo (Below.refl _ _) hb1); obtain ⟨x1, x2, x3, x4, x13, x14⟩ := HX.out _ HB.out; clear hb1)
  | fail)
 obtain ⟨w2, hwn⟩ : ∃ y, y = World.alloc wc (.cells #[.int .i64 0, .int .i64 0, .int .i64 0, .int .u64 0, .int .i64 0, .int .i64 0, .int .i64 0, .int .i64 0] 26) := ⟨_, rfl⟩
 have HB2 := hid (show Below W1.heap.size W1 w2 from hwn ▸ bal HB.out _)
 have hc2 : w2.heap[wc.heap.size]? = some (.cells #[.int .i64 0, .int .i64 0, .int .i64 0, .int .u64 0, .int .i64 0, .int .i64 0, .int .i64 0, .int .i64 0] 26 (0, 0)) := by rw [hwn]; exact World.alloc_heap_new _ _
 have HL2 : Hid (wc.heap.size < w2.heap.size) := hid (ags hc2).1
 have HC2 : Hid (∀ v, Below w2.heap.size w2 v → v.cell? ⟨wc.heap.size, 0, none⟩ = some (.int .i64 0) ∧ v.cell? ⟨wc.heap.size, 1, none⟩ = some (.int .i64 0) ∧ v.cell? ⟨wc.heap.size, 2, none⟩ = some (.int .i64 0) ∧ v.cell? ⟨wc.heap.size, 3, none⟩ = some (.int .u64 0) ∧ v.cell? ⟨wc.heap.size, 4, none⟩ = some (.int .i64 0) ∧ v.cell? ⟨wc.heap.size, 5, none⟩ = some (.int .i64 0) ∧ v.cell? ⟨wc.heap.size, 6, none⟩ = some (.int .i64 0) ∧ v.cell? ⟨wc.heap.size, 7, none⟩ = some (.int .i64 0)) := hid (fun v hv => by
  have hb := (hv.block _ HL2.out).trans hc2
  simp [World.cell?, hb])
 rw [← hwn]
 clear hwn hc2
 obtain ⟨x1, x2, x3, x4, x13, x14⟩ := HX.out _ HB2.out
 have HB := HB2
 go_upto_region 4 with (first
  | (go_at_call 5; (with_reducible refine (hclear_nil _ a i).mono ?_); rintro e w1 ⟨rfl, hb1⟩; have HBcl := hid hb1; have HB := hid (show Below W1.heap.size W1 w1 from bgo (by repeat (first | (with_reducible exact HB.out) | (refine bal ?_ _))) hb1); obtain ⟨x1, x2, x3, x4, x13, x14⟩ := HX.out _ HB.out; clear hb1)
  | fail)
 obtain ⟨w3, hwn⟩ : ∃ y, y = World.alloc w1 (.cells #[.int .i64 0, .int .i64 0, .int .i64 0, .int .u64 0, .int .i64 0, .int .i64 0, .int .i64 0, .int .i64 0] 26) := ⟨_, rfl⟩
 have HB3 := hid (show Below W1.heap.size W1 w3 from hwn ▸ bal HB.out _)
 have hc3 : w3.heap[w1.heap.size]? = some (.cells #[.int .i64 0, .int .i64 0, .int .i64 0, .int .u64 0, .int .i64 0, .int .i64 0, .int .i64 0, .int .i64 0] 26 (0, 0)) := by rw [hwn]; exact World.alloc_heap_new _ _
 have HL3 : Hid (w1.heap.size < w3.heap.size) := hid (ags hc3).1
 have HC3 : Hid (∀ v, Below w3.heap.size w3 v → v.cell? ⟨w1.heap.size, 0, none⟩ = some (.int .i64 0) ∧ v.cell? ⟨w1.heap.size, 1, none⟩ = some (.int .i64 0) ∧ v.cell? ⟨w1.heap.size, 2, none⟩ = some (.int .i64 0) ∧ v.cell? ⟨w1.heap.size, 3, none⟩ = some (.int .u64 0) ∧ v.cell? ⟨w1.heap.size, 4, none⟩ = some (.int .i64 0) ∧ v.cell? ⟨w1.heap.size, 5, none⟩ = some (.int .i64 0) ∧ v.cell? ⟨w1.heap.size, 6, none⟩ = some (.int .i64 0) ∧ v.cell? ⟨w1.heap.size, 7, none⟩ = some (.int .i64 0)) := hid (fun v hv => by
  have hb := (hv.block _ HL3.out).trans hc3
  simp [World.cell?, hb])
 have HBc := hid (show Below w2.heap.size w2 w3 from hwn ▸ bal HBcl.out _)
 rw [← hwn]
 clear hwn hc3
 obtain ⟨x1, x2, x3, x4, x13, x14⟩ := HX.out _ HB3.out
 have HB := HB3
 obtain ⟨c0, c1, c2, c3, c4, c5, c6, c7⟩ := HC2.out _ HBc.out
 obtain ⟨d0, d1, d2, d3, d4, d5, d6, d7⟩ := HC3.out _ (Below.refl _ _)
 go_wp2_with (first
  | (go_at_call 6; (with_reducible refine (hroot_nil _ a i _).mono ?_); rintro e w1 ⟨rfl, hb1⟩; have HB := hid (show Below W1.heap.size W1 w1 from bgo (by repeat (first | (with_reducible exact HB.out) | (refine bal ?_ _))) hb1); obtain ⟨x1, x2, x3, x4, x13, x14⟩ := HX.out _ HB.out; clear hb1)
  | (go_at_call 7; (with_reducible refine (hchild_nil _ a i b j _).mono ?_); rintro e w1 ⟨rfl, hb1⟩; have HB := hid (show Below W1.heap.size W1 w1 from bgo (by repeat (first | (with_reducible exact HB.out) | (refine bal ?_ _))) hb1); obtain ⟨x1, x2, x3, x4, x13, x14⟩ := HX.out _ HB.out; clear hb1)
  | (go_at_call 8; (with_reducible refine (hset_nil _ a i _).mono ?_); rintro e w1 ⟨rfl, hb1⟩; have HB := hid (show Below W1.heap.size W1 w1 from bgo (by repeat (first | (with_reducible exact HB.out) | (refine bal ?_ _))) hb1); obtain ⟨x1, x2, x3, x4, x13, x14⟩ := HX.out _ HB.out; clear hb1)
  | (go_at_call 9; (with_reducible refine (hcopy_nil _ a i b j n).mono ?_); rintro e w1 ⟨rfl, hb1⟩; have HB := hid (show Below W1.heap.size W1 w1 from bgo (by repeat (first | (with_reducible exact HB.out) | (refine bal ?_ _))) hb1); obtain ⟨x1, x2, x3, x4, x13, x14⟩ := HX.out _ HB.out; clear hb1)
  | (go_at_call 10; (with_reducible refine (hmint_nil _ a i b j n u).mono ?_); rintro e w1 ⟨rfl, hb1⟩; have HB := hid (show Below W1.heap.size W1 w1 from bgo (by repeat (first | (with_reducible exact HB.out) | (refine bal ?_ _))) hb1); obtain ⟨x1, x2, x3, x4, x13, x14⟩ := HX.out _ HB.out; clear hb1)
  | (go_at_call 11; (with_reducible refine (hmove_nil _ a i b j).mono ?_); rintro e w1 ⟨rfl, hb1⟩; have HB := hid (show Below W1.heap.size W1 w1 from bgo (by repeat (first | (with_reducible exact HB.out) | (refine bal ?_ _))) hb1); obtain ⟨x1, x2, x3, x4, x13, x14⟩ := HX.out _ HB.out; clear hb1)
  | (go_at_call 12; (with_reducible refine (hswap_nil _ a i b j).mono ?_); rintro e w1 ⟨rfl, hb1⟩; have HB := hid (show Below W1.heap.size W1 w1 from bgo (by repeat (first | (with_reducible exact HB.out) | (refine bal ?_ _))) hb1); obtain ⟨x1, x2, x3, x4, x13, x14⟩ := HX.out _ HB.out; clear hb1)
  | (go_at_call 13; (with_reducible refine (hadd_nil _ 1 1).mono ?_); rintro e w1 ⟨rfl, hb1⟩; have HB := hid (show Below W1.heap.size W1 w1 from bgo (by repeat (first | (with_reducible exact HB.out) | (refine bal ?_ _))) hb1); obtain ⟨x1, x2, x3, x4, x13, x14⟩ := HX.out _ HB.out; clear hb1)
  | (go_at_call 14; (with_reducible refine (hdrop_nil _ 1).mono ?_); rintro e w1 ⟨rfl, hb1⟩; have HB := hid (show Below W1.heap.size W1 w1 from bgo (by repeat (first | (with_reducible exact HB.out) | (refine bal ?_ _))) hb1); obtain ⟨x1, x2, x3, x4, x13, x14⟩ := HX.out _ HB.out; clear hb1)
  | (go_at_call 15; (with_reducible refine (hfinal_nil _ a i).mono ?_); rintro e w1 ⟨rfl, hb1⟩; have HB := hid (show Below W1.heap.size W1 w1 from bgo (by repeat (first | (with_reducible exact HB.out) | (refine bal ?_ _))) hb1); obtain ⟨x1, x2, x3, x4, x13, x14⟩ := HX.out _ HB.out; clear hb1)
  | (go_at_call 16; (with_reducible refine (hbelow_nil _ a i).mono ?_); rintro e w1 ⟨rfl, hb1⟩; have HB := hid (show Below W1.heap.size W1 w1 from bgo (by repeat (first | (with_reducible exact HB.out) | (refine bal ?_ _))) hb1); obtain ⟨x1, x2, x3, x4, x13, x14⟩ := HX.out _ HB.out; clear hb1)
  | (go_at_call 17; (with_reducible refine (hused_nil _).mono ?_); rintro e w1 ⟨rfl, hb1⟩; have HB := hid (show Below W1.heap.size W1 w1 from bgo (by repeat (first | (with_reducible exact HB.out) | (refine bal ?_ _))) hb1); obtain ⟨x1, x2, x3, x4, x13, x14⟩ := HX.out _ HB.out; clear hb1)
  | (go_at_call 18; (with_reducible refine (htree_nil _).mono ?_); rintro e w1 ⟨rfl, hb1⟩; have HB := hid (show Below W1.heap.size W1 w1 from bgo (by repeat (first | (with_reducible exact HB.out) | (refine bal ?_ _))) hb1); obtain ⟨x1, x2, x3, x4, x13, x14⟩ := HX.out _ HB.out; clear hb1)
  | (go_at_call 19; (with_reducible refine (hslots_nil _).mono ?_); rintro e w1 ⟨rfl, rfl⟩)
  | (go_at_call 20; (refine (HAW.out _ HB.out).mono ?_); rintro e w1 ⟨rfl, hb1⟩; have HBE := hid (show Below W1.heap.size W1 w1 from bgo (by repeat (first | (with_reducible exact HB.out) | (refine bal ?_ _))) hb1); clear hb1)
  | (refine wpList_load_list (by first | rfl | simp [Region.wanted, yielded]) 26 _ rfl ⟨W.heap.size, 5, none⟩ rfl ts (HXC.out _ (by repeat (first | (with_reducible exact HB.out) | (refine bal ?_ _)))) _ Tryd.underlying26 rfl HI.out ?_))
 go_ret
 exact ⟨rfl, HB0.out.trans (HBE.out.mono HB0.out.size)⟩
end HnX
open Go.ChangeShapes Go.WideShapes Go.ChangeAt Go.RowKit Go.Shelf
abbrev zval_t28 : Value := HnX.zval_t28
abbrev zdat_t28 {H : Type} : DataW H := HnX.zdat_t28
theorem open_t28 {W : World} {base : Nat} {v : Value} (hv : Value.okWide Tryd.prog W .any base 28 v) : ∃ x : HnX.ActH, v = x.val ∧ True := HnX.open_t28 hv
theorem walk_holdNone {W : World} (x : HnX.ActH) (_ : True) (hL : LaidV_laid_math_bits_deBruijn64tab W) : Calls Tryd.prog 3 #[x.val] W fun e w' => e = .returned (.bool true) ∧ Below W.heap.size W w' := HnX.holdNone_in x.L x.ts x.v0 x.a x.i x.b x.j x.n x.u x.hl rfl W hL
end Go.Proofs.YtekllgejmgoajaaDoor
