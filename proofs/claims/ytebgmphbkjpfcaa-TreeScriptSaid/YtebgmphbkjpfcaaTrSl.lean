/- chapter 17: an act of both. -/
import Derived.Test.YtebgmphbkjpfcaaTrSk
namespace Go.Proofs.Ytebgmphbkjpfcaa
set_option linter.unusedVariables false
set_option linter.unusedSimpArgs false
open Go.ChangeShapes Go.WideShapes Go.ChangeAt Go.RowKit Go.Shelf

abbrev actO (d o i p j : Int) : Obj := .cells #[.int .i64 d, .int .i64 o, .int .i64 i, .int .i64 p, .int .i64 j] 33
abbrev actV (d o i p j : Int) : Value := .agg #[.int .i64 d, .int .i64 o, .int .i64 i, .int .i64 p, .int .i64 j]
theorem cell_kept {W W' : World} {k j : Nat} {v : Value} (h : W'.heap[k]? = W.heap[k]?) (hc : W.cell? ⟨k, j, none⟩ = some v) : W'.cell? ⟨k, j, none⟩ = some v := by
  rw [← hc]; unfold World.cell?; simp only [h]
def FourC (W : World) (k : Nat) (o i p j : Int) : Prop := W.cell? ⟨k, 1, none⟩ = some (.int .i64 o) ∧ W.cell? ⟨k, 2, none⟩ = some (.int .i64 i) ∧ W.cell? ⟨k, 3, none⟩ = some (.int .i64 p) ∧ W.cell? ⟨k, 4, none⟩ = some (.int .i64 j)
theorem FourC.kept {W W' : World} {k : Nat} {o i p j : Int} (hc : FourC W k o i p j) (h : W'.heap[k]? = W.heap[k]?) : FourC W' k o i p j :=
  ⟨cell_kept h hc.1, cell_kept h hc.2.1, cell_kept h hc.2.2.1, cell_kept h hc.2.2.2⟩
theorem four_new (w : World) (d o i p j : Int) : FourC (w.alloc (actO d o i p j)) w.heap.size o i p j ∧ (w.alloc (actO d o i p j)).cell? ⟨w.heap.size, 0, none⟩ = some (.int .i64 d) ∧ NoNode (w.alloc (actO d o i p j)) w.heap.size := by
  have h := World.alloc_heap_new w (actO d o i p j)
  refine ⟨⟨?_, ?_, ?_, ?_⟩, ?_, fun cs q => ?_⟩
  all_goals try (unfold World.cell?; simp only [h]; rfl)
  have := h.symm.trans q
  injection this with e
  injection e with e1 e2 e3
  exact absurd e2 (by decide)
set_option maxRecDepth 100000 in
set_option maxHeartbeats 1000000 in
theorem done_0 {w0 w : World} {b m n rb : Nat} {S : Nat → Prop} {l : List Nod} (o i p j : Int) (ho : InS o) (hi : InS i) (hp : InS p) (hj : InS j) (h : PT w0 w b m n rb l l S) (hn : n ≤ 900) (hD : Dep l) :
    Calls Try.prog 12 #[.pointer (some ⟨b, 0, none⟩), .pointer (some ⟨rb, 0, none⟩), actV 0 o i p j] w fun e w' => e = .returned (.bool true) ∧ PT w0 w' b m (n + 2) rb (rootA l o i).1 (rootA l o i).1 S ∧ SameK S w w' := by
  have hal : Below w.heap.size w (w.alloc (actO 0 o i p j)) := bal (Below.refl _ _) _
  obtain ⟨hf, hz, hnn⟩ := four_new w 0 o i p j
  have hpa := h.beside hal (Nat.le_refl _) (by simp) hnn
  have hS0 : SameK S w (w.alloc (actO 0 o i p j)) := fun k e => hal.block k (h.lts.2 k e)
  have hlen := h.len
  have HD := Lib.hid hD
  clear h hal hnn hD
  go_enter Try.func12, Try.ntmps12
  go_upto_region 3 with (fail)
  obtain ⟨wA, hwA⟩ : ∃ x, x = w.alloc (actO 0 o i p j) := ⟨_, rfl⟩
  rw [show w.alloc (.cells #[.int .i64 0, .int .i64 o, .int .i64 i, .int .i64 p, .int .i64 j] 33) = wA from hwA.symm]
  rw [← hwA] at hf hz hpa hS0
  have hpd := hpa.call (Below.refl _ _).drew
  have hlt : w.heap.size < wA.heap.size := hpa.lts.2 _ (.inr rfl)
  have HT1 := Lib.hid (hpd.tree (fun K hK => hK.root ho hi (by omega)))
  have HF := Lib.hid (show FourC wA.drew w.heap.size o i p j from hf)
  have HS0 := Lib.hid (show SameK S w wA.drew from hS0)
  have HLEN := Lib.hid hlen
  obtain ⟨a1, a2, a3, a4⟩ := hf
  clear hwA hpa hpd hS0 hlen
  go_region_held3 (fun w' => w'.cell? ⟨w.heap.size, 1, none⟩ = some (.int .i64 o) ∧ w'.cell? ⟨w.heap.size, 2, none⟩ = some (.int .i64 i))
    (first | exact ⟨e1, e2⟩ | exact ⟨c1, c2⟩ | exact ⟨a1, a2⟩)
    (first
      | (go_at_call 33; with_reducible refine (num_any _ _).mono ?_; rintro e w3 ⟨rfl, rfl⟩)
      | (go_at_call 34; (with_reducible refine HT2.out.mono ?_); rintro e w4 ⟨rfl, hP4, hS4⟩; have HP4 := Lib.hid hP4; have HS4 := Lib.hid hS4; obtain ⟨e1, e2, e3, e4⟩ := HF2.out.kept (hS4 _ (.inr rfl)); clear hP4 hS4)
      | (go_at_call 30; (with_reducible refine HT1.out.mono ?_); rintro e w2 ⟨rfl, hP2, hS2⟩; have HT2 := Lib.hid (hP2.ref (fun v hv => rroot_any _ _ _ _ o i hv (by have := HLEN.out.1; omega))); have HF2 := Lib.hid (HF.out.kept (hS2 _ (.inr rfl))); have HS2 := Lib.hid hS2; obtain ⟨c1, c2, c3, c4⟩ := HF2.out; clear hP2 hS2))
  all_goals
    go_wp2
    go_ret
    exact ⟨rfl, (HP4.out.weak (fun k e => .inl e)).mono (by omega), fun k e => ((HS4.out k (.inl e)).trans (HS2.out k (.inl e))).trans (HS0.out k e)⟩
set_option maxRecDepth 100000 in
set_option maxHeartbeats 1000000 in
theorem done_1 {w0 w : World} {b m n rb : Nat} {S : Nat → Prop} {l : List Nod} (o i p j : Int) (ho : InS o) (hi : InS i) (hp : InS p) (hj : InS j) (h : PT w0 w b m n rb l l S) (hn : n ≤ 900) (hD : Dep l) :
    Calls Try.prog 12 #[.pointer (some ⟨b, 0, none⟩), .pointer (some ⟨rb, 0, none⟩), actV 1 o i p j] w fun e w' => e = .returned (.bool true) ∧ PT w0 w' b m (n + 2) rb (childA l o i p j).1 (childA l o i p j).1 S ∧ SameK S w w' := by
  have hal : Below w.heap.size w (w.alloc (actO 1 o i p j)) := bal (Below.refl _ _) _
  obtain ⟨hf, hz, hnn⟩ := four_new w 1 o i p j
  have hpa := h.beside hal (Nat.le_refl _) (by simp) hnn
  have hS0 : SameK S w (w.alloc (actO 1 o i p j)) := fun k e => hal.block k (h.lts.2 k e)
  have hlen := h.len
  have HD := Lib.hid hD
  clear h hal hnn hD
  go_enter Try.func12, Try.ntmps12
  go_upto_region 5 with (fail)
  obtain ⟨wA, hwA⟩ : ∃ x, x = w.alloc (actO 1 o i p j) := ⟨_, rfl⟩
  rw [show w.alloc (.cells #[.int .i64 1, .int .i64 o, .int .i64 i, .int .i64 p, .int .i64 j] 33) = wA from hwA.symm]
  rw [← hwA] at hf hz hpa hS0
  have hpd := hpa.call (Below.refl _ _).drew
  have hlt : w.heap.size < wA.heap.size := hpa.lts.2 _ (.inr rfl)
  have HT1 := Lib.hid (hpd.tree (fun K hK => hK.child ho hi hp hj (by omega)))
  have HF := Lib.hid (show FourC wA.drew w.heap.size o i p j from hf)
  have HS0 := Lib.hid (show SameK S w wA.drew from hS0)
  have HLEN := Lib.hid hlen
  obtain ⟨a1, a2, a3, a4⟩ := hf
  clear hwA hpa hpd hS0 hlen
  go_region_held3 (fun w' => w'.cell? ⟨w.heap.size, 1, none⟩ = some (.int .i64 o) ∧ w'.cell? ⟨w.heap.size, 2, none⟩ = some (.int .i64 i) ∧ w'.cell? ⟨w.heap.size, 3, none⟩ = some (.int .i64 p) ∧ w'.cell? ⟨w.heap.size, 4, none⟩ = some (.int .i64 j))
    (first | exact ⟨e1, e2, e3, e4⟩ | exact ⟨c1, c2, c3, c4⟩ | exact ⟨a1, a2, a3, a4⟩)
    (first
      | (go_at_call 33; with_reducible refine (num_any _ _).mono ?_; rintro e w3 ⟨rfl, rfl⟩)
      | (go_at_call 35; (with_reducible refine HT2.out.mono ?_); rintro e w4 ⟨rfl, hP4, hS4⟩; have HP4 := Lib.hid hP4; have HS4 := Lib.hid hS4; obtain ⟨e1, e2, e3, e4⟩ := HF2.out.kept (hS4 _ (.inr rfl)); clear hP4 hS4)
      | (go_at_call 31; (with_reducible refine HT1.out.mono ?_); rintro e w2 ⟨rfl, hP2, hS2⟩; have HT2 := Lib.hid (hP2.ref (fun v hv => rchild_any _ _ _ _ o i p j hv (by have := HLEN.out.1; omega) (fun x hx => by have := HLEN.out.2.1 x hx; omega))); have HF2 := Lib.hid (HF.out.kept (hS2 _ (.inr rfl))); have HS2 := Lib.hid hS2; obtain ⟨c1, c2, c3, c4⟩ := HF2.out; clear hP2 hS2))
  all_goals
    go_wp2
    go_ret
    exact ⟨rfl, (HP4.out.weak (fun k e => .inl e)).mono (by omega), fun k e => ((HS4.out k (.inl e)).trans (HS2.out k (.inl e))).trans (HS0.out k e)⟩
set_option maxRecDepth 100000 in
set_option maxHeartbeats 1000000 in
theorem done_2 {w0 w : World} {b m n rb : Nat} {S : Nat → Prop} {l : List Nod} (o i p j : Int) (ho : InS o) (hi : InS i) (hp : InS p) (hj : InS j) (h : PT w0 w b m n rb l l S) (hn : n ≤ 900) (hD : Dep l) :
    Calls Try.prog 12 #[.pointer (some ⟨b, 0, none⟩), .pointer (some ⟨rb, 0, none⟩), actV 2 o i p j] w fun e w' => e = .returned (.bool true) ∧ PT w0 w' b m (n + 2) rb (removeA l o i).1 (removeA l o i).1 S ∧ SameK S w w' := by
  have hal : Below w.heap.size w (w.alloc (actO 2 o i p j)) := bal (Below.refl _ _) _
  obtain ⟨hf, hz, hnn⟩ := four_new w 2 o i p j
  have hpa := h.beside hal (Nat.le_refl _) (by simp) hnn
  have hS0 : SameK S w (w.alloc (actO 2 o i p j)) := fun k e => hal.block k (h.lts.2 k e)
  have hlen := h.len
  have HD := Lib.hid hD
  clear h hal hnn hD
  go_enter Try.func12, Try.ntmps12
  go_upto_region 7 with (fail)
  obtain ⟨wA, hwA⟩ : ∃ x, x = w.alloc (actO 2 o i p j) := ⟨_, rfl⟩
  rw [show w.alloc (.cells #[.int .i64 2, .int .i64 o, .int .i64 i, .int .i64 p, .int .i64 j] 33) = wA from hwA.symm]
  rw [← hwA] at hf hz hpa hS0
  have hpd := hpa.call (Below.refl _ _).drew
  have hlt : w.heap.size < wA.heap.size := hpa.lts.2 _ (.inr rfl)
  have HT1 := Lib.hid (hpd.tree (fun K hK => hK.remove ho hi (by omega)))
  have HF := Lib.hid (show FourC wA.drew w.heap.size o i p j from hf)
  have HS0 := Lib.hid (show SameK S w wA.drew from hS0)
  have HLEN := Lib.hid hlen
  obtain ⟨a1, a2, a3, a4⟩ := hf
  clear hwA hpa hpd hS0 hlen
  go_region_held3 (fun w' => w'.cell? ⟨w.heap.size, 1, none⟩ = some (.int .i64 o) ∧ w'.cell? ⟨w.heap.size, 2, none⟩ = some (.int .i64 i))
    (first | exact ⟨e1, e2⟩ | exact ⟨c1, c2⟩ | exact ⟨a1, a2⟩)
    (first
      | (go_at_call 33; with_reducible refine (num_any _ _).mono ?_; rintro e w3 ⟨rfl, rfl⟩)
      | (go_at_call 36; (with_reducible refine HT2.out.mono ?_); rintro e w4 ⟨rfl, hP4, hS4⟩; have HP4 := Lib.hid hP4; have HS4 := Lib.hid hS4; obtain ⟨e1, e2, e3, e4⟩ := HF2.out.kept (hS4 _ (.inr rfl)); clear hP4 hS4)
      | (go_at_call 26; (with_reducible refine HT1.out.mono ?_); rintro e w2 ⟨rfl, hP2, hS2⟩; have HT2 := Lib.hid (hP2.ref (fun v hv => rremove_any _ _ _ _ o i hv HD.out)); have HF2 := Lib.hid (HF.out.kept (hS2 _ (.inr rfl))); have HS2 := Lib.hid hS2; obtain ⟨c1, c2, c3, c4⟩ := HF2.out; clear hP2 hS2))
  all_goals
    go_wp2
    go_ret
    exact ⟨rfl, (HP4.out.weak (fun k e => .inl e)).mono (by omega), fun k e => ((HS4.out k (.inl e)).trans (HS2.out k (.inl e))).trans (HS0.out k e)⟩
set_option maxRecDepth 100000 in
set_option maxHeartbeats 1000000 in
theorem done_3 {w0 w : World} {b m n rb : Nat} {S : Nat → Prop} {l : List Nod} (o i p j : Int) (ho : InS o) (hi : InS i) (hp : InS p) (hj : InS j) (h : PT w0 w b m n rb l l S) (hn : n ≤ 900) (hD : Dep l) :
    Calls Try.prog 12 #[.pointer (some ⟨b, 0, none⟩), .pointer (some ⟨rb, 0, none⟩), actV 3 o i p j] w fun e w' => e = .returned (.bool true) ∧ PT w0 w' b m (n + 2) rb (moveA l o i p j).1 (moveA l o i p j).1 S ∧ SameK S w w' := by
  have hal : Below w.heap.size w (w.alloc (actO 3 o i p j)) := bal (Below.refl _ _) _
  obtain ⟨hf, hz, hnn⟩ := four_new w 3 o i p j
  have hpa := h.beside hal (Nat.le_refl _) (by simp) hnn
  have hS0 : SameK S w (w.alloc (actO 3 o i p j)) := fun k e => hal.block k (h.lts.2 k e)
  have hlen := h.len
  have HD := Lib.hid hD
  clear h hal hnn hD
  go_enter Try.func12, Try.ntmps12
  go_upto_region 9 with (fail)
  obtain ⟨wA, hwA⟩ : ∃ x, x = w.alloc (actO 3 o i p j) := ⟨_, rfl⟩
  rw [show w.alloc (.cells #[.int .i64 3, .int .i64 o, .int .i64 i, .int .i64 p, .int .i64 j] 33) = wA from hwA.symm]
  rw [← hwA] at hf hz hpa hS0
  have hpd := hpa.call (Below.refl _ _).drew
  have hlt : w.heap.size < wA.heap.size := hpa.lts.2 _ (.inr rfl)
  have HT1 := Lib.hid (hpd.tree (fun K hK => hK.move ho hi hp hj (by omega)))
  have HF := Lib.hid (show FourC wA.drew w.heap.size o i p j from hf)
  have HS0 := Lib.hid (show SameK S w wA.drew from hS0)
  have HLEN := Lib.hid hlen
  obtain ⟨a1, a2, a3, a4⟩ := hf
  clear hwA hpa hpd hS0 hlen
  go_region_held3 (fun w' => w'.cell? ⟨w.heap.size, 1, none⟩ = some (.int .i64 o) ∧ w'.cell? ⟨w.heap.size, 2, none⟩ = some (.int .i64 i) ∧ w'.cell? ⟨w.heap.size, 3, none⟩ = some (.int .i64 p) ∧ w'.cell? ⟨w.heap.size, 4, none⟩ = some (.int .i64 j))
    (first | exact ⟨e1, e2, e3, e4⟩ | exact ⟨c1, c2, c3, c4⟩ | exact ⟨a1, a2, a3, a4⟩)
    (first
      | (go_at_call 33; with_reducible refine (num_any _ _).mono ?_; rintro e w3 ⟨rfl, rfl⟩)
      | (go_at_call 37; (with_reducible refine HT2.out.mono ?_); rintro e w4 ⟨rfl, hP4, hS4⟩; have HP4 := Lib.hid hP4; have HS4 := Lib.hid hS4; obtain ⟨e1, e2, e3, e4⟩ := HF2.out.kept (hS4 _ (.inr rfl)); clear hP4 hS4)
      | (go_at_call 29; (with_reducible refine HT1.out.mono ?_); rintro e w2 ⟨rfl, hP2, hS2⟩; have HT2 := Lib.hid (hP2.ref (fun v hv => rmove_any _ _ _ _ o i p j hv HLEN.out.2.2)); have HF2 := Lib.hid (HF.out.kept (hS2 _ (.inr rfl))); have HS2 := Lib.hid hS2; obtain ⟨c1, c2, c3, c4⟩ := HF2.out; clear hP2 hS2))
  all_goals
    go_wp2
    go_ret
    exact ⟨rfl, (HP4.out.weak (fun k e => .inl e)).mono (by omega), fun k e => ((HS4.out k (.inl e)).trans (HS2.out k (.inl e))).trans (HS0.out k e)⟩
set_option maxRecDepth 100000 in
set_option maxHeartbeats 1000000 in
theorem done_4 {w0 w : World} {b m n rb : Nat} {S : Nat → Prop} {l : List Nod} (o i p j : Int) (ho : InS o) (hi : InS i) (hp : InS p) (hj : InS j) (h : PT w0 w b m n rb l l S) (hn : n ≤ 900) (hD : Dep l) :
    Calls Try.prog 12 #[.pointer (some ⟨b, 0, none⟩), .pointer (some ⟨rb, 0, none⟩), actV 4 o i p j] w fun e w' => e = .returned (.bool true) ∧ PT w0 w' b m (n + 2) rb (swapA l o i p j) (swapA l o i p j) S ∧ SameK S w w' := by
  have hal : Below w.heap.size w (w.alloc (actO 4 o i p j)) := bal (Below.refl _ _) _
  obtain ⟨hf, hz, hnn⟩ := four_new w 4 o i p j
  have hpa := h.beside hal (Nat.le_refl _) (by simp) hnn
  have hS0 : SameK S w (w.alloc (actO 4 o i p j)) := fun k e => hal.block k (h.lts.2 k e)
  have hlen := h.len
  have HT1 := Lib.hid (hpa.ref (fun v hv => rswap_any _ _ _ _ o i p j hv hlen.2.2))
  have HF := Lib.hid hf
  have HS0 := Lib.hid hS0
  clear h hal hnn hD hf hz hpa hS0 hlen
  go_enter Try.func12, Try.ntmps12
  go_wp2_with (first
    | (go_at_call 38; (with_reducible refine HT1.out.mono ?_); rintro e w2 ⟨rfl, hP2, hS2⟩; have HT2 := Lib.hid (hP2.tree (fun K hK => hK.swap ho hi hp hj (by omega))); obtain ⟨c1, c2, c3, c4⟩ := HF.out.kept (hS2 _ (.inr rfl)); have HS2 := Lib.hid hS2; clear hP2 hS2)
    | (go_at_call 28; (with_reducible refine HT2.out.mono ?_); rintro e w4 ⟨rfl, hP4, hS4⟩))
  go_ret
  exact ⟨rfl, (hP4.weak (fun k e => .inl e)), fun k e => ((hS4 k (.inl e)).trans (HS2.out k (.inl e))).trans (HS0.out k e)⟩
set_option maxRecDepth 100000 in
theorem done_5 {w0 w : World} {b m n rb : Nat} {S : Nat → Prop} {l : List Nod} (d o i p j : Int) (h : PT w0 w b m n rb l l S) (d0 : ¬ d = 0) (d1 : ¬ d = 1) (d2 : ¬ d = 2) (d3 : ¬ d = 3) (d4 : ¬ d = 4) :
    Calls Try.prog 12 #[.pointer (some ⟨b, 0, none⟩), .pointer (some ⟨rb, 0, none⟩), actV d o i p j] w fun e w' => e = .returned (.bool true) ∧ PT w0 w' b m (n + 2) rb l l S ∧ SameK S w w' := by
  have hal : Below w.heap.size w (w.alloc (actO d o i p j)) := bal (Below.refl _ _) _
  have HE := Lib.hid (And.intro ((h.call hal).mono (n' := n + 2) (by omega)) (show SameK S w (w.alloc (actO d o i p j)) from fun k e => hal.block k (h.lts.2 k e)))
  clear h hal
  go_enter Try.func12, Try.ntmps12
  go_wp2
  go_ret
  exact ⟨rfl, HE.out⟩
theorem done_any {w0 w : World} {b m n rb : Nat} {S : Nat → Prop} {l : List Nod} (x : ActT) (hx : x.Ok) (h : PT w0 w b m n rb l l S) (hn : n ≤ 900) (hD : Dep l) :
    Calls Try.prog 12 #[.pointer (some ⟨b, 0, none⟩), .pointer (some ⟨rb, 0, none⟩), actV x.d x.a x.b x.p x.q] w fun e w' => e = .returned (.bool true) ∧ PT w0 w' b m (n + 2) rb (stepA l x) (stepA l x) S ∧ SameK S w w' := by
  obtain ⟨d, o, i, p, j⟩ := x
  obtain ⟨x1, x2, x3, x4⟩ := hx
  simp only at x1 x2 x3 x4 ⊢
  unfold stepA
  simp only
  by_cases h0 : d = 0
  · subst h0; exact done_0 o i p j x1 x2 x3 x4 h hn hD
  rw [if_neg h0]
  by_cases h1 : d = 1
  · subst h1; exact done_1 o i p j x1 x2 x3 x4 h hn hD
  rw [if_neg h1]
  by_cases h2 : d = 2
  · subst h2; exact done_2 o i p j x1 x2 x3 x4 h hn hD
  rw [if_neg h2]
  by_cases h3 : d = 3
  · subst h3; exact done_3 o i p j x1 x2 x3 x4 h hn hD
  rw [if_neg h3]
  by_cases h4 : d = 4
  · subst h4; exact done_4 o i p j x1 x2 x3 x4 h hn hD
  rw [if_neg h4]
  exact done_5 d o i p j h h0 h1 h2 h3 h4
end Go.Proofs.Ytebgmphbkjpfcaa
