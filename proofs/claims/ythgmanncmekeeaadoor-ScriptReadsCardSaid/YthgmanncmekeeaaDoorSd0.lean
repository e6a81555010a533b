/- chapter 35: a text read, by the package: the loop. -/
import Derived.Test.YthgmanncmekeeaaDoorScZ
import Derived.Maps.AppendAt
namespace Go.Proofs.YthgmanncmekeeaaDoor
set_option linter.unusedVariables false
set_option linter.unusedSimpArgs false
open Go.ChangeShapes Go.WideShapes Go.ChangeAt Go.RowKit Go.Shelf
attribute [-go_sem] binOp_string_add binOp_string_eql binOp_string_neq run_index_string
attribute [local go_sem] Sc.bs_size
attribute [local go_sem] Oper.semAt_some
attribute [-go_sem] Builtin.append_
namespace Sc
theorem lns_count (c : UInt8) : ∀ l : Bs, (lns c l).length ≤ l.length
  | [] => by simp [lns]
  | x :: l => by
    have ih := lns_count c l
    rw [lns]
    split
    · simp only [List.length_cons]; omega
    · cases hq : lns c l with
      | nil => simp
      | cons a t => rw [hq] at ih; simp only [List.length_cons] at ih ⊢; omega
theorem keeps_below {M : Nat} {u v x : World} (h : KeepsFrom M u v) (hb : Below v.heap.size v x) : KeepsFrom M u x :=
  ⟨Nat.le_trans h.size hb.size, fun k o hk ho hc => by
    have := h.same k o hk ho hc
    exact (hb.block k (Array.getElem?_eq_some_iff.1 this).1).trans this⟩
theorem infoEv : (Tryd.prog.info? 36).map (fun i => (i.zero, i.size, i.bytes)) = some (some (.agg #[.int .i64 0, .int .i64 0, .int .i64 0, .int .u64 0, .int .u64 0, .int .u64 0, .int .u64 0, .int .u64 0, .int .u64 0, .int .u64 0, .int .u64 0, .int .u64 0, .int .i64 0, .int .i64 0, .int .i64 0]), 15, 120) := by kernel_rfl
def PaRes (s : Bs) (w : World) (e : Ending) (w' : World) : Prop := ∃ v, e = .returned (.tuple #[v, .int .i64 (parseE s).2.1, .int .i64 (parseE s).2.2]) ∧ w'.ownsRow w.heap.size 36 15 v (parseE s).1.length (evsC (parseE s).1) ∧ Below w.heap.size w w'
set_option maxRecDepth 100000 in
set_option maxHeartbeats 2000000 in
theorem parse_in (s : Bs) (h : s.length ≤ 65536) (w : World) (hE : EnvAt w) : CallsIn Fence.wide 3 Tryd.prog 14 #[.string (bs s)] w (PaRes s w) := by
  have hi : ((65536 : Int) < (s.length : Int)) = False := by rw [eq_iff_iff, iff_false]; omega
  have HL := Lib.hid (fun v => lines_any s v)
  have HS := Lib.hid h
  have HE0 := Lib.hid hE
  have HF : Hid (∀ e w' v L (a b : Int), parseE s = (L, a, b) → e = .returned (.tuple #[v, .int .i64 a, .int .i64 b]) → w'.ownsRow w.heap.size 36 15 v L.length (evsC L) → Below w.heap.size w w' → PaRes s w e w') := Lib.hid (fun e w' v L a b h1 h2 h3 h4 => ⟨v, by rw [h1]; exact h2, by rw [h1]; exact h3, h4⟩)
  generalize hR : PaRes s w = R at HF ⊢
  clear hR h hE
  refine callsIn_of_wp_marks Tryd.func14 rfl trivial ?_ rfl
  simp only [Tryd.ntmps14, List.size_toArray, List.length_cons, List.length_nil, Nat.reduceAdd, Nat.reduceSub, Array.replicate_succ, Array.replicate_zero, List.push_toArray, List.append_toArray, List.nil_append, List.cons_append]
  gi_wp2
  refine wpIn_scope_wide ?_
  gi_wp2
  refine wpIn_label ?_
  gi_upto_region 5 with fail
  obtain ⟨w3, hw3⟩ : ∃ y, y = ((w.alloc (.cells #[.slice none 0 0] 22)).alloc (.cells #[.int .i64 0] 3)).alloc (.cells #[.int .i64 0] 3) := ⟨_, rfl⟩
  rw [← hw3]
  have hb3 : Below w.heap.size w w3 := hw3 ▸ bal (bal (bal (Below.refl _ _) _) _) _
  have hz3 : w3.heap.size = w.heap.size + 3 := by rw [hw3]; simp
  have k0 : w3.heap[w.heap.size]? = some (.cells #[.slice none 0 0] 22 (0, 0)) := by rw [hw3]; exact (Below.heap_alloc _ _ _ (by simp; omega)).trans ((Below.heap_alloc _ _ _ (by simp)).trans (World.alloc_heap_new w _))
  have k1 : w3.heap[w.heap.size + 1]? = some (.cells #[.int .i64 0] 3 (0, 0)) := by
    have := World.alloc_heap_new (w.alloc (.cells #[.slice none 0 0] 22)) (.cells #[.int .i64 0] 3)
    rw [World.size_alloc] at this
    rw [hw3]; exact (Below.heap_alloc _ _ _ (by simp)).trans this
  have k2 : w3.heap[w.heap.size + 2]? = some (.cells #[.int .i64 0] 3 (0, 0)) := by
    have := World.alloc_heap_new ((w.alloc (.cells #[.slice none 0 0] 22)).alloc (.cells #[.int .i64 0] 3)) (.cells #[.int .i64 0] 3)
    rw [World.size_alloc, World.size_alloc] at this
    rw [hw3]; exact this
  clear hw3
  obtain ⟨N, hN⟩ : ∃ N, N = w.heap.size := ⟨_, rfl⟩
  rw [← hN] at hb3 hz3 k0 k1 k2 ⊢
  have HNW := Lib.hid hN
  clear hN
  have HK0 := Lib.hid k0
  have HK1 := Lib.hid k1
  have HK2 := Lib.hid k2
  have HB3 := Lib.hid hb3
  clear k0 k1 k2 hb3
  gi_wp2_with (refine ⟨trivial, ?_⟩; first
    | (gi_at_call 28; with_reducible refine (callsIn_wide.2 (HL.out _)).mono ?_; rintro e wA ⟨q, rfl, hq0, hq1, hqb, hbA⟩))
  obtain ⟨ls, hls⟩ : ∃ ls, ls = lns 10 s := ⟨_, rfl⟩
  have HLS := Lib.hid hls
  clear hls
  have hzA : N + 3 ≤ wA.heap.size := by have := hbA.size; omega
  have hqc : wA.cell? ⟨q, 0, none⟩ = some (.string (bs s)) := by rw [row_cell hqb]; rfl
  have hI0 : PaI w N ls [] wA := ⟨(fun _ h => absurd h List.not_mem_nil), ⟨_, (hbA.block _ (by omega)).trans HK0.out, World.ownsRow_nil _ _ _ _⟩, (hbA.block _ (by omega)).trans HK1.out, (hbA.block _ (by omega)).trans HK2.out, hzA, HB3.out.trans (hbA.mono (by omega))⟩
  clear HK0 HK1 HK2 HB3 HL hqb hbA
  refine wpIn_rangeFunc_ownH (α := Fin ls.length) rfl (by decide) (gf := 36) (lb := #[.pointer (some ⟨q, 0, none⟩)]) rfl trivial (enters_of Tryd.func36 (by kernel_rfl) rfl)
    (encs := encL ls) (Kp := KpS) (S := fun xs => xs = fstP ls.length ls.length) (Sp := fun pre => ∃ k, ∃ h : k < ls.length, pre = fstP ls.length k ++ [⟨k, h⟩]) (N := ls.length) (w0 := wA) (lines1_seq 1 q s ls HLS.out.symm (by have := HS.out; omega) wA hqc hq1)
    (fun h k => Nat.le_trans h k) ?hKb (Below.refl _ _) (fun _ => rfl) (PaI w N ls) (PaX w N ls) (PaI.from hzA) (fun cd => PaX.from hzA cd) hI0
    (fun x a' W => a' = { tmps := #[.string (bs s), undef, .slice none 0 0, .int .i64 0, .int .i64 0, .pointer (some ⟨N, 0, none⟩), .pointer (some ⟨N + 1, 0, none⟩), .pointer (some ⟨N + 1 + 1, 0, none⟩), .string (bs (ls[x.1]'x.2)), undef, undef, .string (bs s), .int .i64 s.length, .bool false, .string (bs s), .func (.func 36) #[] #[.pointer (some ⟨q, 0, none⟩)], .string (bs (ls[x.1]'x.2)), undef, undef, undef, undef, undef, undef, undef, undef, undef, undef, undef, undef, undef, undef, undef, undef, undef, undef], defers := [] }) (fun x a' => fun _ _ _ _ h _ _ => h)
    ?hassign ?hbody ?hdone ?hstop
  case hKb =>
    intro W l o o' hl ho _ _
    show W.heap.size ≤ (W.putObj l o').heap.size
    simp
  case hassign =>
    intro l pre x W K hI hK
    simp only [encL]
    gi_wp2
    exact hK _ _ (KeepsFrom.refl _ _) (Nat.le_refl _) hI rfl
  case hbody =>
    rintro l pre x a' W hl hr hI rfl hlen
    have HI := Lib.hid hI
    have hlt := hI.lt
    have hpb : pre.length + 1 < 4000000 := by have h1 := lns_count 10 s; have h2 := HS.out; rw [← HLS.out] at h1; omega
    have c1 : W.cell? ⟨N + 1, 0, none⟩ = some (.int .i64 pre.length) := by rw [row_cell hI.at_]; rfl
    have f1 : W.frozen? ⟨N + 1, 0, none⟩ = false := by simp [World.frozen?, hI.at_]
    have hxl : (ls[x.1]'x.2).length ≤ 100000 := by
      have h1 := spl_len 10 s (ls[x.1]'x.2) (by
        have h2 : ls[x.1]'x.2 ∈ lns 10 s := by rw [← HLS.out]; exact List.getElem_mem _
        rw [lns_spl]
        split
        · exact List.mem_append_left _ h2
        · exact h2)
      have := HS.out
      omega
    have HEV : Hid (∀ v', Below N w v' → Calls Tryd.prog 29 #[.string (bs (ls[x.1]'x.2))] v' (EvRes (ls[x.1]'x.2) v')) := Lib.hid (fun v' h' => event_any _ hxl v' (HE0.out.call (by rw [← HNW.out]; exact h')))
    obtain ⟨y, hy⟩ : ∃ y, y = ls[x.1]'x.2 := ⟨_, rfl⟩
    rw [← hy] at HEV ⊢
    have HY : Hid (evAtL ls x = (evOf y).getD (ev0 0) ∧ goodL ls x = (evOf y).isSome) := Lib.hid ⟨by rw [hy]; rfl, by rw [hy]; rfl⟩
    have HB1 : Hid (Below N w (W.setCell ⟨N + 1, 0, none⟩ (.int .i64 ((pre.length : Int) + 1)))) := Lib.hid (hI.bel.setCell (p := ⟨N + 1, 0, none⟩) (by show N ≤ N + 1; omega) _)
    have HN1 : Hid (∀ v', Below (W.setCell ⟨N + 1, 0, none⟩ (.int .i64 ((pre.length : Int) + 1))).heap.size (W.setCell ⟨N + 1, 0, none⟩ (.int .i64 ((pre.length : Int) + 1))) v' → v'.heap[N + 1]? = some (.cells #[.int .i64 ((pre.length : Int) + 1)] 3 (0, 0)) ∧ v'.heap[N + 2]? = some (.cells #[.int .i64 0] 3 (0, 0)) ∧ Below N w v') := Lib.hid (fun v' h' => ⟨(h'.block _ (by simp; omega)).trans (by rw [Go.heap_setCell_same _ _ _ _ _ _ HI.out.at_]; rfl), (h'.block _ (by simp; omega)).trans ((Go.heap_setCell_other _ _ _ _ (by show N + 2 ≠ N + 1; omega)).trans HI.out.bad), HB1.out.trans (h'.mono (by simp; omega))⟩)
    clear hI hy hI0 hqc hxl
    cases hev : evOf y with
    | none =>
      have HC : Hid (∀ v', Below N w v' → Calls Tryd.prog 29 #[.string (bs y)] v' fun e w' => ∃ d : Ev, e = .returned (.tuple #[.agg #[.int .i64 (d 0), .int .i64 (d 1), .int .i64 (d 2), .int .u64 (d 3), .int .u64 (d 4), .int .u64 (d 5), .int .u64 (d 6), .int .u64 (d 7), .int .u64 (d 8), .int .u64 (d 9), .int .u64 (d 10), .int .u64 (d 11), .int .i64 (d 12), .int .i64 (d 13), .int .i64 (d 14)], .bool false]) ∧ Below v'.heap.size v' w') := Lib.hid (fun v' h' => (HEV.out v' h').mono (by
        rintro e w' ⟨d, b, rfl, h1, -, h3⟩
        rw [h1 hev]
        exact ⟨d, rfl, h3⟩))
      have HNO : Hid (goodL ls x = false) := Lib.hid (by rw [HY.out.2, hev]; rfl)
      clear HEV HY hev
      gi_wp2_with (refine ⟨trivial, ?_⟩; gi_at_call 29; with_reducible refine (calls_round (HC.out _ HB1.out)).mono ?_; rintro e w1 ⟨d, rfl, hb1⟩; obtain ⟨n1, n2, n3⟩ := HN1.out _ hb1; have m1 : w1.cell? ⟨N + 1, 0, none⟩ = some (.int .i64 ((pre.length : Int) + 1)) := (by rw [row_cell n1]; simp); have m2 : w1.cell? ⟨N + 1 + 1, 0, none⟩ = some (.int .i64 0) := (by rw [row_cell n2]; simp); have m3 : w1.frozen? ⟨N + 1 + 1, 0, none⟩ = false := (by simp [World.frozen?, n2]); have z1 : N + 1 + 1 < w1.heap.size := (Array.getElem?_eq_some_iff.1 n2).1; have z0 : N + 1 < w1.heap.size := (Array.getElem?_eq_some_iff.1 n1).1; have M2 := Lib.hid n2; have M3 := Lib.hid n3; have M4 := Lib.hid hb1; clear n1 n2 n3 hb1)
      have hV : ∀ o V, V = (w1.setCell ⟨N + 1 + 1, 0, none⟩ (.int .i64 ((pre.length : Int) + 1))).alloc o → KeepsFrom wA.heap.size W V ∧ PaX w N ls (.exit 0) (pre ++ [x]) V := by
        rintro o V rfl
        refine ⟨keeps_below (keeps_set (keeps_below (keeps_set (KeepsFrom.refl _ W) ⟨N + 1, 0, none⟩ (by show N + 1 < wA.heap.size; omega) _) M4.out) ⟨N + 1 + 1, 0, none⟩ (by show N + 1 + 1 < wA.heap.size; omega) _) (bal (Below.refl _ _) o), rfl, ⟨pre, x, rfl, HI.out.good, HNO.out⟩, ?_, ?_, ?_⟩
        · rw [Below.heap_alloc _ _ _ (by simp; omega), Go.heap_setCell_same _ _ _ _ _ _ M2.out, List.length_append]; rfl
        · simp; omega
        · exact (M3.out.setCell (p := ⟨N + 1 + 1, 0, none⟩) (by show N ≤ N + 1 + 1; omega) _).alloc (by simp; omega) o
      first | exact hV _ _ rfl | (gi_wp2; exact hV _ _ rfl)
    | some c =>
      have HC : Hid (∀ v', Below N w v' → Calls Tryd.prog 29 #[.string (bs y)] v' fun e w' => e = .returned (.tuple #[.agg #[.int .i64 (c 0), .int .i64 (c 1), .int .i64 (c 2), .int .u64 (c 3), .int .u64 (c 4), .int .u64 (c 5), .int .u64 (c 6), .int .u64 (c 7), .int .u64 (c 8), .int .u64 (c 9), .int .u64 (c 10), .int .u64 (c 11), .int .i64 (c 12), .int .i64 (c 13), .int .i64 (c 14)], .bool true]) ∧ Below v'.heap.size v' w') := Lib.hid (fun v' h' => (HEV.out v' h').mono (by
        rintro e w' ⟨d, b, rfl, -, h2, h3⟩
        obtain ⟨rfl, rfl⟩ := h2 c hev
        exact ⟨rfl, h3⟩))
      have HYES : Hid (goodL ls x = true ∧ evAtL ls x = c) := Lib.hid (by rw [HY.out.1, HY.out.2, hev]; exact ⟨rfl, rfl⟩)
      clear HEV HY hev
      gi_upto_region 11 with (refine ⟨trivial, ?_⟩; gi_at_call 29; with_reducible refine (calls_round (HC.out _ HB1.out)).mono ?_; rintro e w1 ⟨rfl, hb1⟩; have M4 := Lib.hid hb1; clear hb1)
      obtain ⟨vv, hvv, hrow⟩ := HI.out.list
      obtain ⟨n1, n2, n3⟩ := HN1.out _ M4.out
      have hz1 : W.heap.size ≤ w1.heap.size := by have := M4.out.size; simpa using this
      have hv1 : w1.heap[N]? = some (.cells #[vv] 22 (0, 0)) := (M4.out.block _ (by simp; omega)).trans ((Go.heap_setCell_other _ _ _ _ (by show N ≠ N + 1; omega)).trans hvv)
      have hrow1 : w1.ownsRow (N + 3) 36 15 vv pre.length (evsC (pre.map (evAtL ls))) := by
        refine own_block hrow (fun g hg => ?_)
        have hgl := hrow.lt g hg
        exact (M4.out.block _ (by simp; omega)).trans (Go.heap_setCell_other _ _ _ _ (by show g ≠ N + 1; omega))
      obtain ⟨w2, hw2⟩ : ∃ y, y = w1.alloc (.cells #[.int .i64 (c 0), .int .i64 (c 1), .int .i64 (c 2), .int .u64 (c 3), .int .u64 (c 4), .int .u64 (c 5), .int .u64 (c 6), .int .u64 (c 7), .int .u64 (c 8), .int .u64 (c 9), .int .u64 (c 10), .int .u64 (c 11), .int .i64 (c 12), .int .i64 (c 13), .int .i64 (c 14)] 36) := ⟨_, rfl⟩
      rw [← hw2]
      have hb2 : Below w1.heap.size w1 w2 := hw2 ▸ bal (Below.refl _ _) _
      have hz2 : w2.heap.size = w1.heap.size + 1 := by rw [hw2, World.size_alloc]
      have he2 : w2.heap[w1.heap.size]? = some (.cells (evA c) 36 (0, 0)) := by rw [hw2]; exact World.alloc_heap_new w1 _
      have hv2 := (hb2.block N (by omega)).trans hv1
      have hrow2 : w2.ownsRow (N + 3) 36 15 vv pre.length (evsC (pre.map (evAtL ls))) := own_block hrow1 (fun g hg => hb2.block g (hrow1.lt g hg).2)
      have m1 := (hb2.block (N + 1) (by omega)).trans n1
      have m2 := (hb2.block (N + 2) (by omega)).trans n2
      have m3 : Below N w w2 := n3.trans (hb2.mono (by omega))
      have q0 : w2.cell? ⟨N, 0, none⟩ = some vv := by rw [row_cell hv2]; rfl
      have q1 : (loadVar 22 ⟨N, 0, none⟩).run Tryd.prog w2 = .ok vv w2 := by simp [go_sem, loadVar, q0]
      have q2 : (loadVar 36 ⟨w1.heap.size, 0, none⟩).run Tryd.prog w2 = .ok (.agg #[.int .i64 (c 0), .int .i64 (c 1), .int .i64 (c 2), .int .u64 (c 3), .int .u64 (c 4), .int .u64 (c 5), .int .u64 (c 6), .int .u64 (c 7), .int .u64 (c 8), .int .u64 (c 9), .int .u64 (c 10), .int .u64 (c 11), .int .i64 (c 12), .int .i64 (c 13), .int .i64 (c 14)]) w2 := load_ev_row he2
      have hnw : ∀ j u, (evA c).toList[j]? = some u → (w2.alloc (.cells #[.int .i64 (c 0), .int .i64 (c 1), .int .i64 (c 2), .int .u64 (c 3), .int .u64 (c 4), .int .u64 (c 5), .int .u64 (c 6), .int .u64 (c 7), .int .u64 (c 8), .int .u64 (c 9), .int .u64 (c 10), .int .u64 (c 11), .int .i64 (c 12), .int .i64 (c 13), .int .i64 (c 14)] 36)).cell? ((⟨w2.heap.size, 0, none⟩ : Addr).add j) = some u := fun j u hj => by
        rw [addr_add, row_cell (show (w2.alloc (.cells #[.int .i64 (c 0), .int .i64 (c 1), .int .i64 (c 2), .int .u64 (c 3), .int .u64 (c 4), .int .u64 (c 5), .int .u64 (c 6), .int .u64 (c 7), .int .u64 (c 8), .int .u64 (c 9), .int .u64 (c 10), .int .u64 (c 11), .int .i64 (c 12), .int .i64 (c 13), .int .i64 (c 14)] 36)).heap[w2.heap.size]? = some (.cells (evA c) 36 (0, 0)) from World.alloc_heap_new w2 _)]
        simpa using hj
      have d0 : w2.cell? ⟨w1.heap.size, 0, none⟩ = some (.int .i64 (c 0)) := by rw [row_cell he2]; rfl
      have d1 : w2.cell? ⟨w1.heap.size, 1, none⟩ = some (.int .i64 (c 1)) := by rw [row_cell he2]; rfl
      have d2 : w2.cell? ⟨w1.heap.size, 2, none⟩ = some (.int .i64 (c 2)) := by rw [row_cell he2]; rfl
      have d3 : w2.cell? ⟨w1.heap.size, 3, none⟩ = some (.int .u64 (c 3)) := by rw [row_cell he2]; rfl
      have d4 : w2.cell? ⟨w1.heap.size, 4, none⟩ = some (.int .u64 (c 4)) := by rw [row_cell he2]; rfl
      have d5 : w2.cell? ⟨w1.heap.size, 5, none⟩ = some (.int .u64 (c 5)) := by rw [row_cell he2]; rfl
      have d6 : w2.cell? ⟨w1.heap.size, 6, none⟩ = some (.int .u64 (c 6)) := by rw [row_cell he2]; rfl
      have d7 : w2.cell? ⟨w1.heap.size, 7, none⟩ = some (.int .u64 (c 7)) := by rw [row_cell he2]; rfl
      have d8 : w2.cell? ⟨w1.heap.size, 8, none⟩ = some (.int .u64 (c 8)) := by rw [row_cell he2]; rfl
      have d9 : w2.cell? ⟨w1.heap.size, 9, none⟩ = some (.int .u64 (c 9)) := by rw [row_cell he2]; rfl
      have d10 : w2.cell? ⟨w1.heap.size, 10, none⟩ = some (.int .u64 (c 10)) := by rw [row_cell he2]; rfl
      have d11 : w2.cell? ⟨w1.heap.size, 11, none⟩ = some (.int .u64 (c 11)) := by rw [row_cell he2]; rfl
      have d12 : w2.cell? ⟨w1.heap.size, 12, none⟩ = some (.int .i64 (c 12)) := by rw [row_cell he2]; rfl
      have d13 : w2.cell? ⟨w1.heap.size, 13, none⟩ = some (.int .i64 (c 13)) := by rw [row_cell he2]; rfl
      have d14 : w2.cell? ⟨w1.heap.size, 14, none⟩ = some (.int .i64 (c 14)) := by rw [row_cell he2]; rfl
      obtain ⟨i0, hi0, hz0, hzz, hzb⟩ := info_parts infoEv
      obtain ⟨v', w3, hrun, hown, hgrow, _, hat⟩ := run_append_own_at (P := Tryd.prog) (w := w2.alloc (.cells #[.int .i64 (c 0), .int .i64 (c 1), .int .i64 (c 2), .int .u64 (c 3), .int .u64 (c 4), .int .u64 (c 5), .int .u64 (c 6), .int .u64 (c 7), .int .u64 (c 8), .int .u64 (c 9), .int .u64 (c 10), .int .u64 (c 11), .int .i64 (c 12), .int .i64 (c 13), .int .i64 (c 14)] 36)) (N + 3) 22 22 36 i0 (.agg #[.int .i64 0, .int .i64 0, .int .i64 0, .int .u64 0, .int .u64 0, .int .u64 0, .int .u64 0, .int .u64 0, .int .u64 0, .int .u64 0, .int .u64 0, .int .u64 0, .int .i64 0, .int .i64 0, .int .i64 0]) 15 120 Tryd.underlying22 hi0 hz0 hzz hzb rfl (by decide) vv pre.length _ (hrow2.alloc _) ⟨w2.heap.size, 0, none⟩ 1 1 (evA c).toList rfl hnw (fun u hu => evsC_one [c] u (by simpa [evsC] using hu)) (by unfold maxLen; omega) (by omega) (by simp; omega)
      obtain ⟨gg, cc, rfl⟩ : ∃ gg cc, v' = .slice (some ⟨gg, 0, none⟩) (pre.length + 1) cc := by
        rcases hown.2 with ⟨_, h0⟩ | ⟨gg, cc, cur, e, _⟩
        · omega
        · exact ⟨gg, cc, e⟩
      have hvb : ∀ j, vv.ownBlock = some j → N + 3 ≤ j := fun j e => (hrow2.lt j e).1
      have e3 : ∀ j, j < N + 3 → w3.heap[j]? = w2.heap[j]? := fun j hj => (hgrow.block _ (by simp; omega) (fun e => by have := hvb j e.symm; omega)).trans (Below.heap_alloc _ _ _ (by omega))
      have q3 : w3.cell? ⟨N, 0, none⟩ = some vv := by rw [row_cell ((e3 N (by omega)).trans hv2)]; rfl
      have q4 : w3.frozen? ⟨N, 0, none⟩ = false := by simp [World.frozen?, (e3 N (by omega)).trans hv2]
      have hsz3 : w2.heap.size + 1 ≤ w3.heap.size := by have := hgrow.size; simpa using this
      have hV : ∀ V, V = w3.setCell ⟨N, 0, none⟩ (.slice (some ⟨gg, 0, none⟩) (pre.length + 1) cc) → KeepsFrom wA.heap.size W V ∧ KpS W V ∧ PaI w N ls (pre ++ [x]) V := by
        rintro V rfl
        have k2 : KeepsFrom wA.heap.size W w2 := keeps_below (keeps_below (keeps_set (KeepsFrom.refl _ W) ⟨N + 1, 0, none⟩ (by show N + 1 < wA.heap.size; omega) _) M4.out) hb2
        have k3 : KeepsFrom wA.heap.size W w3 := ⟨by have := k2.size; omega, fun k o hk ho hc => by
          have a := k2.same k o hk ho hc
          have hkl := (Array.getElem?_eq_some_iff.1 a).1
          refine (hgrow.block k (by simp; omega) (fun e => ?_)).trans ((Below.heap_alloc _ _ _ hkl).trans a)
          obtain ⟨_, h0 | ⟨g, cap, cur, e1, _, e2, _⟩⟩ := hrow2
          · rw [h0.1] at e; cases e
          · rw [e1] at e
            cases e
            rw [a] at e2
            cases e2
            cases hc⟩
        have b3 : Below N w2 w3 := ⟨hgrow.os, hgrow.tape, hgrow.output, by omega, fun k hk => e3 k (by omega)⟩
        refine ⟨keeps_set k3 ⟨N, 0, none⟩ (by show N < wA.heap.size; omega) _, by show W.heap.size ≤ (w3.setCell _ _).heap.size; simp; omega, ⟨?_, ⟨.slice (some ⟨gg, 0, none⟩) (pre.length + 1) cc, ?_, ?_⟩, ?_, ?_, ?_, ?_⟩⟩
        · intro y hy
          rcases List.mem_append.1 hy with hy | hy
          · exact HI.out.good y hy
          · rw [List.mem_singleton] at hy
            rw [hy]; exact HYES.out.1
        · rw [Go.heap_setCell_same _ _ _ _ _ _ ((e3 N (by omega)).trans hv2)]; rfl
        · rw [List.length_append, List.map_append, List.map_singleton, HYES.out.2, evsC_snoc]
          exact own_block hown (fun g hg => Go.heap_setCell_other _ _ _ _ (by show g ≠ N; have := (hown.lt g hg).1; omega))
        · rw [List.length_append]
          exact (Go.heap_setCell_other _ _ _ _ (by show N + 1 ≠ N; omega)).trans ((e3 _ (by omega)).trans m1)
        · exact (Go.heap_setCell_other _ _ _ _ (by show N + 2 ≠ N; omega)).trans ((e3 _ (by omega)).trans m2)
        · simp; omega
        · exact (m3.trans b3).setCell (p := ⟨N, 0, none⟩) (Nat.le_refl _) _
      have HV := Lib.hid hV
      clear hV hrow hrow1 hrow2 hown hgrow hat hnw hvb e3 n1 n2 n3 m1 m2 m3 hv1 hv2 he2 hb2 hw2 hvv
      rw [hz2] at hrun
      gi_wp2
      exact HV.out _ rfl
  case hdone =>
    rintro D xs W hD rfl hI hK
    obtain ⟨v, hv, hrow⟩ := hI.list
    have hall := evAtL_all ls hI.good
    have hres : parseE s = (ls.filterMap evOf, 0, 0) := by rw [HLS.out]; exact parseE_done HS.out (by rw [← HLS.out]; exact hall.2)
    have hlen : (parseE s).1.length = (fstP ls.length ls.length).length := by rw [hres]; show (ls.filterMap evOf).length = _; rw [← hall.1, List.length_map]
    rw [hall.1] at hrow
    have c0 : W.cell? ⟨N, 0, none⟩ = some v := by rw [row_cell hv]; rfl
    have c2 : W.cell? ⟨N + 1 + 1, 0, none⟩ = some (.int .i64 0) := by rw [row_cell hI.bad]; rfl
    have HRES := Lib.hid hres
    have HROW : Hid (W.ownsRow (N + 3) 36 15 v (ls.filterMap evOf).length (evsC (ls.filterMap evOf))) := Lib.hid (by rw [hres] at hlen; rw [show (ls.filterMap evOf).length = _ from hlen]; exact hrow)
    have HBW := Lib.hid hI.bel
    have HLT := Lib.hid hI.lt
    have vD := hK
    clear hI hv hrow hall hres hlen hI0 hqc
    gi_wp2
    rw [Exit.noGoto_ret]
    refine ⟨by simp, .inl ⟨_, _, rfl, run_takeDeferred (w := W) vD, ?_⟩⟩
    refine ⟨_, results_tmp3 rfl _ _ _, HF.out _ _ v _ 0 0 HRES.out rfl ?_ ?_⟩
    · rw [← HNW.out]
      obtain ⟨hl, e | ⟨g, cap, cur, rfl, hg, hblk, h1⟩⟩ := HROW.out
      · exact ⟨hl, .inl e⟩
      · refine ⟨hl, .inr ⟨g, cap, cur, rfl, by omega, (heap_putObj_ne (fun e => ?_)).trans hblk, h1⟩⟩
        rw [e, vD] at hblk
        cases hblk
    · rw [← HNW.out]
      exact ⟨HBW.out.os, HBW.out.tape, HBW.out.output, by simpa using HBW.out.size, fun k hk => (heap_putObj_ne (by omega)).trans (HBW.out.block k hk)⟩
  case hstop =>
    rintro D cd pre W hD ⟨k, hk, hpre⟩ hX hK
    obtain rfl := hX.hcd
    obtain ⟨p, x, e1, e2, e3⟩ := hX.no
    have hpl : pre.length = k + 1 := by rw [hpre, List.length_append, fstP_len _ k (by omega)]; rfl
    obtain ⟨rfl, hx⟩ := List.append_inj' (e1.symm.trans hpre) rfl
    obtain rfl : x = ⟨k, hk⟩ := by simpa using hx
    have hres : parseE s = ([], (k : Int) + 1, 5) := by
      have hl := HLS.out
      subst hl
      refine parseE_stop HS.out k hk (by have := e3; unfold goodL at this; simpa using this) (fun j hj => ?_)
      have := e2 ⟨j, by omega⟩ (by unfold fstP; rw [List.mem_take_iff_getElem]; exact ⟨j, by simp; omega, by simp⟩)
      unfold goodL at this
      cases hq : evOf ((lns 10 s)[j]'(by omega)) <;> simp_all
    have c2 : W.cell? ⟨N + 1 + 1, 0, none⟩ = some (.int .i64 ((k : Int) + 1)) := by rw [row_cell hX.bad, hpl]; rfl
    have hpos : ((0 : Int) < (k : Int) + 1) = True := by rw [eq_iff_iff, iff_true]; omega
    have HRES := Lib.hid hres
    have HBW := Lib.hid hX.bel
    have HLT := Lib.hid hX.lt
    have vD := hK
    clear hX e1 e2 e3 hpre hres hI0 hqc hx hpl
    gi_wp2
    first | gi_region_with (fail) | fail
    all_goals
      gi_wp2
      rw [Exit.noGoto_ret]
      refine ⟨by simp, .inl ⟨_, _, rfl, run_takeDeferred (w := W.drew) (at_drew vD), ?_⟩⟩
      refine ⟨_, results_tmp3 rfl _ _ _, HF.out _ _ _ [] _ _ HRES.out rfl (World.ownsRow_nil _ _ _ _) ?_⟩
      rw [← HNW.out]
      exact ⟨HBW.out.os, HBW.out.tape, HBW.out.output, by simpa using HBW.out.size, fun k hk => (heap_putObj_ne (by omega)).trans (HBW.out.block k hk)⟩
end Sc
end Go.Proofs.YthgmanncmekeeaaDoor
