/- chapter 12: an act of both. -/
import Derived.Test.YtkladhbamkomnaaAxI
import Derived.Deep.RegionHeld3
namespace Go.Proofs.Ytkladhbamkomnaa
set_option linter.unusedVariables false
set_option linter.unusedSimpArgs false
open Go.ChangeShapes Go.WideShapes Go.ChangeAt Go.RowKit Go.Shelf
open TabA

abbrev actO (d a b p q : Int) : Obj := .cells #[.int .i64 d, .int .i64 a, .int .i64 b, .int .i64 p, .int .i64 q] 34
abbrev actV (d a b p q : Int) : Value := .agg #[.int .i64 d, .int .i64 a, .int .i64 b, .int .i64 p, .int .i64 q]
theorem num_any (x : Int) (w : World) : Calls Try.prog 11 #[.int .i64 x] w fun e w' => e = .returned (.int .i64 x) ∧ w = w' := by
  go_enter Try.func11, Try.ntmps11
  go_wp2
  go_ret
  exact ⟨rfl, rfl⟩
theorem cell_kept {W W' : World} {k j : Nat} {v : Value} (h : W'.heap[k]? = W.heap[k]?) (hc : W.cell? ⟨k, j, none⟩ = some v) : W'.cell? ⟨k, j, none⟩ = some v := by
  rw [← hc]; unfold World.cell?; simp only [h]
def FourC (W : World) (k : Nat) (a b p q : Int) : Prop := W.cell? ⟨k, 1, none⟩ = some (.int .i64 a) ∧ W.cell? ⟨k, 2, none⟩ = some (.int .i64 b) ∧ W.cell? ⟨k, 3, none⟩ = some (.int .i64 p) ∧ W.cell? ⟨k, 4, none⟩ = some (.int .i64 q)
theorem FourC.kept {W W' : World} {k : Nat} {a b p q : Int} (hc : FourC W k a b p q) (h : W'.heap[k]? = W.heap[k]?) : FourC W' k a b p q :=
  ⟨cell_kept h hc.1, cell_kept h hc.2.1, cell_kept h hc.2.2.1, cell_kept h hc.2.2.2⟩
theorem four_new (w : World) (d a b p q : Int) : FourC (w.alloc (actO d a b p q)) w.heap.size a b p q ∧ (w.alloc (actO d a b p q)).cell? ⟨w.heap.size, 0, none⟩ = some (.int .i64 d) := by
  have h := World.alloc_heap_new w (actO d a b p q)
  refine ⟨⟨?_, ?_, ?_, ?_⟩, ?_⟩
  all_goals (unfold World.cell?; simp only [h]; rfl)
set_option maxRecDepth 100000 in
set_option maxHeartbeats 1000000 in
theorem done_0 {W w : World} {bb rb F : Nat} {cnt : List Int} {L : List Ob} (a b p q : Int) (h : Both W w bb rb F cnt L) (hl : L.length < 1000000) (wf : -9223372036854775808 ≤ p ∧ p ≤ 9223372036854775807) :
    Calls Try.prog 12 #[.pointer (some ⟨bb, 0, none⟩), .pointer (some ⟨rb, 0, none⟩), actV 0 a b p q] w fun e w' => e = .returned (.bool true) ∧ Both W w' bb rb F (addC F cnt L a b p) (addL F cnt L a b p) := by
  obtain ⟨hf, hz⟩ := four_new w 0 a b p q
  have hb := h.beside (actO 0 a b p q)
  have HW := Lib.hid wf
  clear h wf
  go_enter Try.func12, Try.ntmps12
  go_upto_region 1 with (fail)
  obtain ⟨wA, hwA⟩ : ∃ x, x = w.alloc (.cells #[.int .i64 0, .int .i64 a, .int .i64 b, .int .i64 p, .int .i64 q] 34) := ⟨_, rfl⟩
  rw [← hwA] at hf hz hb
  rw [← hwA]
  clear hwA
  generalize w.heap.size = xB at *
  have HF := Lib.hid hf
  have HB := Lib.hid hb
  obtain ⟨a1, a2, a3, a4⟩ := hf
  clear hb a4
  generalize hr : addR F cnt L a b p = r
  have HR := Lib.hid hr
  clear hr
  go_wp2_with (first
    | (go_at_call 11; (with_reducible refine (num_any _ _).mono ?_); rintro e w3 ⟨rfl, rfl⟩)
    | (go_at_call 28; (with_reducible refine (HH.out.addR hl).mono ?_); rw [HR.out]; rintro e w4 ⟨rfl, hP4, hS4⟩; have HP4 := Lib.hid hP4; clear hP4)
    | (go_at_call 24; (with_reducible refine (HB.out.addA hl a b p HW.out).mono ?_); rw [HR.out]; rintro e w2 ⟨rfl, hP2, hS2⟩; have HH := Lib.hid hP2; obtain ⟨c1, c2, c3, c4⟩ := HF.out.kept (hS2 xB rfl); clear hP2 hS2 c4))
  go_ret
  exact ⟨rfl, HP4.out.both⟩
set_option maxRecDepth 100000 in
set_option maxHeartbeats 1000000 in
theorem done_1 {W w : World} {bb rb F : Nat} {cnt : List Int} {L : List Ob} (a b p q : Int) (h : Both W w bb rb F cnt L) (hl : L.length < 1000000) :
    Calls Try.prog 12 #[.pointer (some ⟨bb, 0, none⟩), .pointer (some ⟨rb, 0, none⟩), actV 1 a b p q] w fun e w' => e = .returned (.bool true) ∧ Both W w' bb rb F cnt (dropL L a) := by
  obtain ⟨hf, hz⟩ := four_new w 1 a b p q
  have hb := h.beside (actO 1 a b p q)
  clear h
  go_enter Try.func12, Try.ntmps12
  go_upto_region 1 with (fail)
  obtain ⟨wA, hwA⟩ : ∃ x, x = w.alloc (.cells #[.int .i64 1, .int .i64 a, .int .i64 b, .int .i64 p, .int .i64 q] 34) := ⟨_, rfl⟩
  rw [← hwA] at hf hz hb
  rw [← hwA]
  clear hwA
  generalize w.heap.size = xB at *
  have HF := Lib.hid (show FourC wA.drew xB a b p q from hf)
  have HB := Lib.hid (hb.call (Below.refl _ _).drew)
  clear hb
  go_upto_region 7 with (fail)
  obtain ⟨a1, a2, a3, a4⟩ := hf
  go_region_held3 (fun w' => w'.cell? ⟨xB, 1, none⟩ = some (.int .i64 a))
    (first | (exact e1) | (exact c1) | (exact a1))
    (first
      | (go_at_call 11; (with_reducible refine (num_any _ _).mono ?_); rintro e w3 ⟨rfl, rfl⟩)
      | (go_at_call 29; (with_reducible refine (HH.out.dropR hl).mono ?_); rintro e w4 ⟨rfl, hP4, hS4⟩; have HP4 := Lib.hid hP4; obtain ⟨e1, e2, e3, e4⟩ := HF2.out.kept (hS4 xB rfl); clear hP4)
      | (go_at_call 23; (with_reducible refine (HB.out.dropA a).mono ?_); rintro e w2 ⟨rfl, hP2, hS2⟩; have HH := Lib.hid hP2; have HF2 := Lib.hid (HF.out.kept (hS2 xB rfl)); obtain ⟨c1, c2, c3, c4⟩ := HF2.out; clear hP2 hS2))
  all_goals
    go_wp2
    go_ret
    exact ⟨rfl, HP4.out.both⟩
set_option maxRecDepth 100000 in
set_option maxHeartbeats 1000000 in
theorem done_2 {W w : World} {bb rb F : Nat} {cnt : List Int} {L : List Ob} (a b p q : Int) (h : Both W w bb rb F cnt L) (hl : L.length < 1000000) :
    Calls Try.prog 12 #[.pointer (some ⟨bb, 0, none⟩), .pointer (some ⟨rb, 0, none⟩), actV 2 a b p q] w fun e w' => e = .returned (.bool true) ∧ Both W w' bb rb F cnt (markL L a b) := by
  obtain ⟨hf, hz⟩ := four_new w 2 a b p q
  have hb := h.beside (actO 2 a b p q)
  clear h
  go_enter Try.func12, Try.ntmps12
  go_upto_region 1 with (fail)
  obtain ⟨wA, hwA⟩ : ∃ x, x = w.alloc (.cells #[.int .i64 2, .int .i64 a, .int .i64 b, .int .i64 p, .int .i64 q] 34) := ⟨_, rfl⟩
  rw [← hwA] at hf hz hb
  rw [← hwA]
  clear hwA
  generalize w.heap.size = xB at *
  have HF := Lib.hid (show FourC wA.drew xB a b p q from hf)
  have HB := Lib.hid (hb.call (Below.refl _ _).drew)
  clear hb
  go_upto_region 9 with (fail)
  obtain ⟨a1, a2, a3, a4⟩ := hf
  go_region_held3 (fun w' => w'.cell? ⟨xB, 1, none⟩ = some (.int .i64 a) ∧ w'.cell? ⟨xB, 2, none⟩ = some (.int .i64 b))
    (first | (exact ⟨e1, e2⟩) | (exact ⟨c1, c2⟩) | (exact ⟨a1, a2⟩))
    (first
      | (go_at_call 11; (with_reducible refine (num_any _ _).mono ?_); rintro e w3 ⟨rfl, rfl⟩)
      | (go_at_call 30; (with_reducible refine (HH.out.markR hl).mono ?_); rintro e w4 ⟨rfl, hP4, hS4⟩; have HP4 := Lib.hid hP4; obtain ⟨e1, e2, e3, e4⟩ := HF2.out.kept (hS4 xB rfl); clear hP4)
      | (go_at_call 26; (with_reducible refine (HB.out.markA a b).mono ?_); rintro e w2 ⟨rfl, hP2, hS2⟩; have HH := Lib.hid hP2; have HF2 := Lib.hid (HF.out.kept (hS2 xB rfl)); obtain ⟨c1, c2, c3, c4⟩ := HF2.out; clear hP2 hS2))
  all_goals
    go_wp2
    go_ret
    exact ⟨rfl, HP4.out.both⟩
set_option maxRecDepth 100000 in
set_option maxHeartbeats 1000000 in
theorem done_3 {W w : World} {bb rb F : Nat} {cnt : List Int} {L : List Ob} (a b p q : Int) (h : Both W w bb rb F cnt L) (hl : L.length < 1000000) :
    Calls Try.prog 12 #[.pointer (some ⟨bb, 0, none⟩), .pointer (some ⟨rb, 0, none⟩), actV 3 a b p q] w fun e w' => e = .returned (.bool true) ∧ Both W w' bb rb F cnt (placeL L a b p q) := by
  obtain ⟨hf, hz⟩ := four_new w 3 a b p q
  have hb := h.beside (actO 3 a b p q)
  clear h
  go_enter Try.func12, Try.ntmps12
  go_upto_region 1 with (fail)
  obtain ⟨wA, hwA⟩ : ∃ x, x = w.alloc (.cells #[.int .i64 3, .int .i64 a, .int .i64 b, .int .i64 p, .int .i64 q] 34) := ⟨_, rfl⟩
  rw [← hwA] at hf hz hb
  rw [← hwA]
  clear hwA
  generalize w.heap.size = xB at *
  have HF := Lib.hid (show FourC wA.drew xB a b p q from hf)
  have HB := Lib.hid (hb.call (Below.refl _ _).drew)
  clear hb
  go_upto_region 11 with (fail)
  obtain ⟨a1, a2, a3, a4⟩ := hf
  go_region_held3 (fun w' => w'.cell? ⟨xB, 1, none⟩ = some (.int .i64 a) ∧ w'.cell? ⟨xB, 2, none⟩ = some (.int .i64 b) ∧ w'.cell? ⟨xB, 3, none⟩ = some (.int .i64 p) ∧ w'.cell? ⟨xB, 4, none⟩ = some (.int .i64 q))
    (first | (exact ⟨e1, e2, e3, e4⟩) | (exact ⟨c1, c2, c3, c4⟩) | (exact ⟨a1, a2, a3, a4⟩))
    (first
      | (go_at_call 11; (with_reducible refine (num_any _ _).mono ?_); rintro e w3 ⟨rfl, rfl⟩)
      | (go_at_call 31; (with_reducible refine (HH.out.placeR hl).mono ?_); rintro e w4 ⟨rfl, hP4, hS4⟩; have HP4 := Lib.hid hP4; obtain ⟨e1, e2, e3, e4⟩ := HF2.out.kept (hS4 xB rfl); clear hP4)
      | (go_at_call 27; (with_reducible refine (HB.out.placeA a b p q).mono ?_); rintro e w2 ⟨rfl, hP2, hS2⟩; have HH := Lib.hid hP2; have HF2 := Lib.hid (HF.out.kept (hS2 xB rfl)); obtain ⟨c1, c2, c3, c4⟩ := HF2.out; clear hP2 hS2))
  all_goals
    go_wp2
    go_ret
    exact ⟨rfl, HP4.out.both⟩
set_option maxRecDepth 100000 in
set_option maxHeartbeats 1000000 in
theorem done_4 {W w : World} {bb rb F : Nat} {cnt : List Int} {L : List Ob} (d a b p q : Int) (h : Both W w bb rb F cnt L) (n0 : ¬ d = 0) (n1 : ¬ d = 1) (n2 : ¬ d = 2) (n3 : ¬ d = 3) :
    Calls Try.prog 12 #[.pointer (some ⟨bb, 0, none⟩), .pointer (some ⟨rb, 0, none⟩), actV d a b p q] w fun e w' => e = .returned (.bool true) ∧ Both W w' bb rb F cnt L := by
  have HB := Lib.hid (h.call (bal (Below.refl _ _) (actO d a b p q)))
  clear h
  go_enter Try.func12, Try.ntmps12
  go_wp2
  go_ret
  exact ⟨rfl, HB.out⟩
def stepF (F : Nat) (s : List Int × List Ob) (x : ActT) : List Int × List Ob :=
  if x.d = 0 then (addC F s.1 s.2 x.a x.b x.p, addL F s.1 s.2 x.a x.b x.p) else if x.d = 1 then (s.1, dropL s.2 x.a) else if x.d = 2 then (s.1, markL s.2 x.a x.b) else if x.d = 3 then (s.1, placeL s.2 x.a x.b x.p x.q) else s
def playF (F : Nat) (D : Nat → ActT) : Nat → List Int × List Ob
  | 0 => (zerosA F, [])
  | k + 1 => stepF F (playF F D k) (D k)
theorem stepF_len (F : Nat) (s : List Int × List Ob) (x : ActT) : (stepF F s x).2.length ≤ s.2.length + 1 := by
  unfold stepF
  split
  · exact addL_len _ _ _ _ _ _
  · have h : stepS s x = stepS s x := rfl
    have := step_len s x
    unfold stepS at this
    rename_i h0
    rw [if_neg h0] at this
    exact this
theorem playF_len (F : Nat) (D : Nat → ActT) : ∀ n, (playF F D n).2.length ≤ n
  | 0 => Nat.le_refl _
  | n + 1 => by have := stepF_len F (playF F D n) (D n); have := playF_len F D n; show (stepF F (playF F D n) (D n)).2.length ≤ _; omega
theorem done_any {W w : World} {bb rb F : Nat} {s : List Int × List Ob} (x : ActT) (h : Both W w bb rb F s.1 s.2) (hl : s.2.length < 1000000) (wf : x.Ok) :
    Calls Try.prog 12 #[.pointer (some ⟨bb, 0, none⟩), .pointer (some ⟨rb, 0, none⟩), actV x.d x.a x.b x.p x.q] w fun e w' => e = .returned (.bool true) ∧ Both W w' bb rb F (stepF F s x).1 (stepF F s x).2 := by
  obtain ⟨d, a, b, p, q⟩ := x
  unfold stepF
  simp only []
  by_cases h0 : d = 0
  · subst h0
    exact done_0 a b p q h hl wf.2.2.2.1
  · by_cases h1 : d = 1
    · subst h1
      exact done_1 a b p q h hl
    · by_cases h2 : d = 2
      · subst h2
        exact done_2 a b p q h hl
      · by_cases h3 : d = 3
        · subst h3
          exact done_3 a b p q h hl
        · rw [if_neg h0, if_neg h1, if_neg h2, if_neg h3]
          exact done_4 d a b p q h h0 h1 h2 h3
end Go.Proofs.Ytkladhbamkomnaa
