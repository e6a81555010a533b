/- package queue: its state as one list of who and which priority, in the order of All; what each call makes of it. -/
import Derived.Test.YthbjjamjpbfehaaQueT
namespace Go.Proofs.Ythbjjamjpbfehaa
set_option linter.unusedVariables false
set_option linter.unusedSimpArgs false
open Go.ChangeShapes Go.WideShapes Go.ChangeAt Go.RowKit Go.Shelf

def LR (R : List (Int × Nat)) (k : Nat) : List Int := (R.filter (fun e => decide (e.2 = k))).map (·.1)
def fR : List (Int × Nat) → Int → Option Int
  | [], _ => none
  | e :: t, x => if e.1 = x then some (e.2 : Int) else fR t x
structure Good (R : List (Int × Nat)) : Prop where
  srt : R.Pairwise (fun a b => b.2 ≤ a.2)
  nd : R.Pairwise (fun a b => a.1 ≠ b.1)
  bd : ∀ e ∈ R, e.2 < 8
  ids : ∀ e ∈ R, 1 ≤ e.1 ∧ InI e.1
theorem good_nil : Good [] := ⟨.nil, .nil, by simp, by simp⟩
def insR (R : List (Int × Nat)) (x : Int) (p : Nat) : List (Int × Nat) := R.filter (fun e => decide (p ≤ e.2)) ++ (x, p) :: R.filter (fun e => decide (e.2 < p))
def dropR (R : List (Int × Nat)) (x : Int) : List (Int × Nat) := R.filter (fun e => decide (e.1 ≠ x))
theorem fR_no {R : List (Int × Nat)} {x : Int} (h : ∀ e ∈ R, e.1 ≠ x) : fR R x = none := by
  induction R with
  | nil => rfl
  | cons e t ih =>
    unfold fR
    rw [if_neg (h e (by simp)), ih (fun a ha => h a (by simp [ha]))]
theorem fR_yes {R : List (Int × Nat)} {e : Int × Nat} (h : R.Pairwise (fun a b => a.1 ≠ b.1)) (he : e ∈ R) : fR R e.1 = some (e.2 : Int) := by
  induction R with
  | nil => simp at he
  | cons a t ih =>
    unfold fR
    obtain ⟨h1, h2⟩ := List.pairwise_cons.1 h
    rcases List.mem_cons.1 he with rfl | he
    · rw [if_pos rfl]
    · rw [if_neg (h1 e he)]; exact ih h2 he
theorem fR_some {R : List (Int × Nat)} {x : Int} {p : Int} (h : fR R x = some p) : ∃ e ∈ R, e.1 = x ∧ (e.2 : Int) = p := by
  induction R with
  | nil => simp [fR] at h
  | cons a t ih =>
    unfold fR at h
    by_cases c : a.1 = x
    · rw [if_pos c] at h
      exact ⟨a, by simp, c, by injection h⟩
    · rw [if_neg c] at h
      obtain ⟨e, he, q⟩ := ih h
      exact ⟨e, by simp [he], q⟩
theorem fR_none {R : List (Int × Nat)} {x : Int} (h : fR R x = none) : ∀ e ∈ R, e.1 ≠ x := by
  induction R with
  | nil => simp
  | cons a t ih =>
    unfold fR at h
    by_cases c : a.1 = x
    · rw [if_pos c] at h; cases h
    · rw [if_neg c] at h
      intro e he
      rcases List.mem_cons.1 he with rfl | he
      · exact c
      · exact ih h e he
theorem uniq {R : List (Int × Nat)} (h : R.Pairwise (fun a b => a.1 ≠ b.1)) {a b : Int × Nat} (ha : a ∈ R) (hb : b ∈ R) (e : a.1 = b.1) : a = b := by
  induction R with
  | nil => simp at ha
  | cons c t ih =>
    obtain ⟨h1, h2⟩ := List.pairwise_cons.1 h
    rcases List.mem_cons.1 ha with q1 | q1
    · rcases List.mem_cons.1 hb with q2 | q2
      · exact q1.trans q2.symm
      · exact absurd (q1 ▸ e) (h1 b q2)
    · rcases List.mem_cons.1 hb with q2 | q2
      · exact absurd (q2 ▸ e.symm) (h1 a q1)
      · exact ih h2 q1 q2
theorem split_at : ∀ {R : List (Int × Nat)} (k : Nat), R.Pairwise (fun a b => b.2 ≤ a.2) → (∀ e ∈ R, e.2 ≤ k) → R = R.filter (fun e => decide (e.2 = k)) ++ R.filter (fun e => decide (e.2 < k))
  | [], k, _, _ => rfl
  | e :: t, k, h, hb => by
    obtain ⟨h1, h2⟩ := List.pairwise_cons.1 h
    have ih := split_at (R := t) k h2 (fun a ha => hb a (by simp [ha]))
    have hk := hb e (by simp)
    by_cases c : e.2 = k
    · have c2 : ¬ e.2 < k := by omega
      rw [List.filter_cons_of_pos (by simpa using c), List.filter_cons_of_neg (by simpa using c2), List.cons_append, ← ih]
    · have c2 : e.2 < k := by omega
      have e1 : (e :: t).filter (fun e => decide (e.2 = k)) = [] := by
        rw [List.filter_eq_nil_iff]
        intro a ha
        rcases List.mem_cons.1 ha with rfl | ha
        · simpa using c
        · have := h1 a ha
          simp; omega
      have e2 : (e :: t).filter (fun e => decide (e.2 < k)) = e :: t := by
        rw [List.filter_eq_self]
        intro a ha
        rcases List.mem_cons.1 ha with rfl | ha
        · simpa using c2
        · have := h1 a ha
          simp; omega
      rw [e1, e2, List.nil_append]
theorem below_filter (R : List (Int × Nat)) (k j : Nat) (h : j < k) : (R.filter (fun e => decide (e.2 < k))).filter (fun e => decide (e.2 = j)) = R.filter (fun e => decide (e.2 = j)) := by
  rw [List.filter_filter]
  refine List.filter_congr fun e _ => ?_
  by_cases c : e.2 = j
  · simp [c, h]
  · simp [c]
theorem cat_step (R : List (Int × Nat)) (h : R.Pairwise (fun a b => b.2 ≤ a.2)) (k : Nat) : (R.filter (fun e => decide (e.2 < k + 1))) = R.filter (fun e => decide (e.2 = k)) ++ R.filter (fun e => decide (e.2 < k)) := by
  have := split_at (R := R.filter (fun e => decide (e.2 < k + 1))) k (h.filter _) (fun e he => by have := (List.mem_filter.1 he).2; simp at this; omega)
  rw [below_filter R (k + 1) k (by omega), List.filter_filter] at this
  rw [this]
  congr 1
  refine List.filter_congr fun e _ => ?_
  by_cases c : e.2 < k
  · have : e.2 < k + 1 := by omega
    simp [c, this]
  · simp [c]
theorem cat_all {R : List (Int × Nat)} (h : Good R) : cat (LR R) (fallTo 8) = R.map (·.1) := by
  have e : R = R.filter (fun e => decide (e.2 < 8)) := (List.filter_eq_self.2 fun a ha => by simpa using h.bd a ha).symm
  have z : R.filter (fun e => decide (e.2 < 0)) = [] := by rw [List.filter_eq_nil_iff]; intro a _; simp
  have e8 := (((((((cat_step R h.srt 7).trans (congrArg _ (cat_step R h.srt 6))).trans (congrArg _ (congrArg _ (cat_step R h.srt 5)))).trans (congrArg _ (congrArg _ (congrArg _ (cat_step R h.srt 4))))).trans (congrArg _ (congrArg _ (congrArg _ (congrArg _ (cat_step R h.srt 3)))))).trans (congrArg _ (congrArg _ (congrArg _ (congrArg _ (congrArg _ (cat_step R h.srt 2))))))).trans (congrArg _ (congrArg _ (congrArg _ (congrArg _ (congrArg _ (congrArg _ (cat_step R h.srt 1)))))))).trans (congrArg _ (congrArg _ (congrArg _ (congrArg _ (congrArg _ (congrArg _ (congrArg _ (cat_step R h.srt 0))))))))
  show LR R 7 ++ (LR R 6 ++ (LR R 5 ++ (LR R 4 ++ (LR R 3 ++ (LR R 2 ++ (LR R 1 ++ (LR R 0 ++ []))))))) = _
  rw [z] at e8
  have e9 := congrArg (List.map (fun e : Int × Nat => e.1)) (e.trans e8)
  rw [e9]
  simp only [List.map_append, List.map_nil]
  rfl
theorem LR_ins (R : List (Int × Nat)) (x : Int) (p : Nat) : LR (insR R x p) = lput (LR R) p (LR R p ++ [x]) := by
  funext k
  unfold lput LR insR
  rw [List.filter_append, List.filter_filter]
  by_cases c : k = p
  · subst c
    rw [if_pos rfl, List.filter_cons_of_pos (by simp), List.filter_filter]
    have e1 : R.filter (fun a => decide (a.2 = k) && decide (k ≤ a.2)) = R.filter (fun e => decide (e.2 = k)) := List.filter_congr fun e _ => by
      by_cases c : e.2 = k <;> simp [c]
    have e2 : R.filter (fun a => decide (a.2 = k) && decide (a.2 < k)) = [] := by
      rw [List.filter_eq_nil_iff]; intro a _; simp; omega
    rw [e1, e2]
    simp
  · rw [if_neg c, List.filter_cons_of_neg (by simpa using fun e => c e.symm), List.filter_filter]
    by_cases c2 : p ≤ k
    · have e1 : R.filter (fun a => decide (a.2 = k) && decide (p ≤ a.2)) = R.filter (fun e => decide (e.2 = k)) := List.filter_congr fun e _ => by
        by_cases c : e.2 = k
        · have : p ≤ e.2 := by omega
          simp [c, this, c2]
        · simp [c]
      have e2 : R.filter (fun a => decide (a.2 = k) && decide (a.2 < p)) = [] := by
        rw [List.filter_eq_nil_iff]; intro a _; simp; omega
      rw [e1, e2, List.append_nil]
    · have e1 : R.filter (fun a => decide (a.2 = k) && decide (a.2 < p)) = R.filter (fun e => decide (e.2 = k)) := List.filter_congr fun e _ => by
        by_cases c : e.2 = k
        · have : k < p := by omega
          simp [c, this]
        · simp [c]
      have e2 : R.filter (fun a => decide (a.2 = k) && decide (p ≤ a.2)) = [] := by
        rw [List.filter_eq_nil_iff]; intro a _; simp; omega
      rw [e1, e2, List.nil_append]
theorem ins_mem {R : List (Int × Nat)} {x : Int} {p : Nat} {e : Int × Nat} : e ∈ insR R x p ↔ e = (x, p) ∨ e ∈ R := by
  unfold insR
  simp only [List.mem_append, List.mem_cons, List.mem_filter, decide_eq_true_eq]
  constructor
  · rintro (⟨h, _⟩ | rfl | ⟨h, _⟩)
    · exact .inr h
    · exact .inl rfl
    · exact .inr h
  · rintro (rfl | h)
    · exact .inr (.inl rfl)
    · by_cases c : p ≤ e.2
      · exact .inl ⟨h, c⟩
      · exact .inr (.inr ⟨h, by omega⟩)
theorem good_ins {R : List (Int × Nat)} (h : Good R) {x : Int} {p : Nat} (hx : InI x) (h1 : 1 ≤ x) (hp : p < 8) (hn : ∀ e ∈ R, e.1 ≠ x) : Good (insR R x p) := by
  refine ⟨?_, ?_, ?_, ?_⟩
  · unfold insR
    refine List.pairwise_append.2 ⟨h.srt.filter _, List.pairwise_cons.2 ⟨fun a ha => ?_, h.srt.filter _⟩, fun a ha b hb => ?_⟩
    · have := (List.mem_filter.1 ha).2
      simp at this ⊢; omega
    · have h1 := (List.mem_filter.1 ha).2
      rcases List.mem_cons.1 hb with rfl | hb
      · simp at h1 ⊢; omega
      · have h2 := (List.mem_filter.1 hb).2
        simp at h1 h2 ⊢; omega
  · unfold insR
    refine List.pairwise_append.2 ⟨h.nd.filter _, List.pairwise_cons.2 ⟨fun a ha => ?_, h.nd.filter _⟩, fun a ha b hb => ?_⟩
    · exact fun e => hn a (List.mem_filter.1 ha).1 e.symm
    · have h1 := List.mem_filter.1 ha
      rcases List.mem_cons.1 hb with rfl | hb
      · exact hn a h1.1
      · have h2 := List.mem_filter.1 hb
        intro e
        have := uniq h.nd h1.1 h2.1 e
        subst this
        have a1 := h1.2
        have a2 := h2.2
        simp at a1 a2
        omega
  · intro e he
    rcases ins_mem.1 he with rfl | he
    · exact hp
    · exact h.bd e he
  · intro e he
    rcases ins_mem.1 he with rfl | he
    · exact ⟨h1, hx⟩
    · exact h.ids e he
theorem fR_ext {R S : List (Int × Nat)} {f : Int → Option Int} (hS : S.Pairwise (fun a b => a.1 ≠ b.1)) (h1 : ∀ e ∈ S, f e.1 = some (e.2 : Int)) (h2 : ∀ x, (∀ e ∈ S, e.1 ≠ x) → f x = none) : fR S = f := by
  funext x
  cases e : fR S x with
  | none => exact (h2 x (fR_none e)).symm
  | some p =>
    obtain ⟨a, ha, rfl, rfl⟩ := fR_some e
    exact (h1 a ha).symm
theorem fR_ins {R : List (Int × Nat)} (h : Good R) {x : Int} {p : Nat} (hx : InI x) (h1 : 1 ≤ x) (hp : p < 8) (hn : ∀ e ∈ R, e.1 ≠ x) : fR (insR R x p) = fput (fR R) x p := by
  refine fR_ext (R := R) (good_ins h hx h1 hp hn).nd (fun e he => ?_) (fun y hy => ?_)
  · unfold fput
    rcases ins_mem.1 he with rfl | he
    · rw [if_pos rfl]
    · rw [if_neg (hn e he)]; exact fR_yes h.nd he
  · unfold fput
    have := hy (x, p) (ins_mem.2 (.inl rfl))
    rw [if_neg (fun e => this e.symm)]
    exact fR_no fun e he => hy e (ins_mem.2 (.inr he))
theorem good_drop {R : List (Int × Nat)} (h : Good R) (x : Int) : Good (dropR R x) :=
  ⟨h.srt.filter _, h.nd.filter _, fun e he => h.bd e (List.mem_filter.1 he).1, fun e he => h.ids e (List.mem_filter.1 he).1⟩
theorem fR_drop {R : List (Int × Nat)} (h : Good R) (x : Int) : fR (dropR R x) = fdel (fR R) x := by
  refine fR_ext (R := R) (good_drop h x).nd (fun e he => ?_) (fun y hy => ?_)
  · obtain ⟨h1, h2⟩ := List.mem_filter.1 he
    unfold fdel
    rw [if_neg (by simpa using h2)]
    exact fR_yes h.nd h1
  · unfold fdel
    by_cases c : y = x
    · rw [if_pos c]
    · rw [if_neg c]
      refine fR_no fun e he e2 => hy e (List.mem_filter.2 ⟨he, ?_⟩) e2
      simpa using fun e3 => c (e2.symm.trans e3)
theorem dropR_self {R : List (Int × Nat)} {x : Int} (h : ∀ e ∈ R, e.1 ≠ x) : dropR R x = R := List.filter_eq_self.2 fun a ha => by simpa using h a ha
/-- Where one stands. -/
theorem place {R : List (Int × Nat)} (h : Good R) {e : Int × Nat} (he : e ∈ R) : ∃ A C, R = A ++ e :: C ∧ (∀ a ∈ A, a.1 ≠ e.1) ∧ (∀ a ∈ C, a.1 ≠ e.1) ∧ dropR R e.1 = A ++ C := by
  obtain ⟨A, C, rfl⟩ := List.append_of_mem he
  obtain ⟨h1, h2, h3⟩ := List.pairwise_append.1 h.nd
  obtain ⟨h4, h5⟩ := List.pairwise_cons.1 h2
  have ha : ∀ a ∈ A, a.1 ≠ e.1 := fun a ha => h3 a ha e (by simp)
  have hc : ∀ a ∈ C, a.1 ≠ e.1 := fun a ha e2 => h4 a ha e2.symm
  refine ⟨A, C, rfl, ha, hc, ?_⟩
  unfold dropR
  rw [List.filter_append, List.filter_cons_of_neg (by simp)]
  have e1 := dropR_self ha
  have e2 := dropR_self hc
  unfold dropR at e1 e2
  rw [e1, e2]
theorem LR_app (A C : List (Int × Nat)) (k : Nat) : LR (A ++ C) k = LR A k ++ LR C k := by simp [LR]
theorem LR_cons_same (e : Int × Nat) (C : List (Int × Nat)) : LR (e :: C) e.2 = e.1 :: LR C e.2 := by simp [LR]
theorem LR_cons_other (e : Int × Nat) (C : List (Int × Nat)) (k : Nat) (h : k ≠ e.2) : LR (e :: C) k = LR C k := by
  unfold LR
  rw [List.filter_cons_of_neg (by simpa using fun q => h q.symm)]
theorem LR_drop {A C : List (Int × Nat)} {e : Int × Nat} : LR (A ++ C) = lput (LR (A ++ e :: C)) e.2 (LR A e.2 ++ LR C e.2) := by
  funext k
  unfold lput
  by_cases c : k = e.2
  · rw [if_pos c, c, LR_app]
  · rw [if_neg c, LR_app, LR_app, LR_cons_other e C k c]
theorem LR_mem {A : List (Int × Nat)} {k : Nat} {x : Int} (h : x ∈ LR A k) : (x, k) ∈ A := by
  unfold LR at h
  obtain ⟨e, he, rfl⟩ := List.mem_map.1 h
  obtain ⟨h1, h2⟩ := List.mem_filter.1 he
  simp at h2
  subst h2
  exact h1
/-- The queue in block b stands as R; its lists lie as vs says. -/
def QR (W : World) (B b mb n : Nat) (vs : Nat → Value) (R : List (Int × Nat)) : Prop := ∃ m, m ≤ n ∧ QueAt W B b mb m vs (LR R) (fR R) ∧ Good R
theorem QR.call {w w' : World} {B b mb n : Nat} {vs : Nat → Value} {R : List (Int × Nat)} (h : QR w B b mb n vs R) (k : Below w.heap.size w w') : QR w' B b mb n vs R := by
  obtain ⟨m, hm, h, g⟩ := h
  exact ⟨m, hm, QueAt.call h k, g⟩
theorem QR.lt {w : World} {B b mb n : Nat} {vs : Nat → Value} {R : List (Int × Nat)} (h : QR w B b mb n vs R) : B ≤ w.heap.size := by
  obtain ⟨m, hm, h, g⟩ := h
  have := h.lt
  omega
theorem QR.more {w : World} {B b mb n n' : Nat} {vs : Nat → Value} {R : List (Int × Nat)} (h : QR w B b mb n vs R) (k : n ≤ n') : QR w B b mb n' vs R := by
  obtain ⟨m, hm, h, g⟩ := h
  exact ⟨m, by omega, h, g⟩
theorem QR.below {w w' : World} {B b mb n : Nat} {vs vs' : Nat → Value} {R : List (Int × Nat)} (h : QR w B b mb n vs R) (k : QOnly w w' b mb vs vs') : Below B w w' := by
  obtain ⟨m, hm, h, g⟩ := h
  exact k.below h
theorem QOnly.refl (w : World) (b mb : Nat) (vs : Nat → Value) : QOnly w w b mb vs vs :=
  ⟨rfl, rfl, rfl, Nat.le_refl _, fun _ _ _ _ _ => rfl, fun i k hi e _ => ⟨i, hi, e⟩⟩
/-- A block that is none of the queue's. -/
def Free (w : World) (b mb : Nat) (vs : Nat → Value) (k : Nat) : Prop := k < w.heap.size ∧ k ≠ b ∧ k ≠ mb ∧ ∀ i, i < 8 → (vs i).ownBlock ≠ some k
theorem Free.keep {w w' : World} {b mb k : Nat} {vs vs' : Nat → Value} (h : Free w b mb vs k) (q : QOnly w w' b mb vs vs') : w'.heap[k]? = w.heap[k]? ∧ Free w' b mb vs' k := by
  obtain ⟨h1, h2, h3, h4⟩ := h
  refine ⟨q.block k h1 h2 h3 h4, Nat.lt_of_lt_of_le h1 q.size, h2, h3, fun i hi e => ?_⟩
  obtain ⟨j, hj, e'⟩ := q.foot i k hi e h1
  exact h4 j hj e'
theorem Free.more {w w' : World} {b mb k : Nat} {vs : Nat → Value} (h : Free w b mb vs k) (q : w.heap.size ≤ w'.heap.size) : Free w' b mb vs k := ⟨Nat.lt_of_lt_of_le h.1 q, h.2⟩
theorem QR.free {w w' : World} {B b mb n k : Nat} {vs : Nat → Value} {R : List (Int × Nat)} (h : QR w B b mb n vs R) (hk : w.heap.size ≤ k) (hk' : k < w'.heap.size) : Free w' b mb vs k := by
  obtain ⟨m, hm, h, g⟩ := h
  have h1 := h.lt
  have h2 := h.map.lt
  exact ⟨hk', by omega, by omega, fun i hi e => by have := ((h.row i hi).lt k e).2; omega⟩
theorem new_r (w : World) : Calls Try.prog 8 #[] w fun e w' => e = .returned (.pointer (some ⟨w.heap.size + 1, 0, none⟩)) ∧ QR w' w.heap.size (w.heap.size + 1) w.heap.size 0 no8 [] ∧ Below w.heap.size w w' :=
  (new_any w).mono fun e w' ⟨h1, h2, h3⟩ => ⟨h1, ⟨0, Nat.le_refl _, by
    have e1 : LR [] = noL := rfl
    have e2 : fR [] = noF := rfl
    rw [e1, e2]; exact h2, good_nil⟩, h3⟩
def hasR (R : List (Int × Nat)) (x : Int) : Bool := (fR R x).isSome
theorem has_r (w : World) {B b mb n : Nat} {vs : Nat → Value} {R : List (Int × Nat)} (x : Int) (hx : InI x) (h : QR w B b mb n vs R) :
    Calls Try.prog 19 #[.pointer (some ⟨b, 0, none⟩), .int .i64 x] w fun e w' => e = .returned (.bool (hasR R x)) ∧ w' = w := by
  obtain ⟨m, hm, h, g⟩ := h
  exact has_any w B b mb m vs _ _ x hx h
def addE (R : List (Int × Nat)) (x p : Int) : Int := if x < 1 ∨ p < 0 ∨ 7 < p then 2 else if hasR R x = true then 16 else 0
def addR (R : List (Int × Nat)) (x p : Int) : List (Int × Nat) := if addE R x p = 0 then insR R x p.toNat else R
theorem add_r (w : World) {B b mb n : Nat} {vs : Nat → Value} {R : List (Int × Nat)} (x p : Int) (hx : InI x) (hp : InI p) (hn : n < 1000000) (h : QR w B b mb n vs R) :
    Calls Try.prog 10 #[.pointer (some ⟨b, 0, none⟩), .int .i64 x, .int .i64 p] w fun e w' => e = .returned (.int .i64 (addE R x p)) ∧ ∃ vs', QR w' B b mb (n + 1) vs' (addR R x p) ∧ QOnly w w' b mb vs vs' := by
  by_cases c : x < 1 ∨ p < 0 ∨ 7 < p
  · have e1 : addE R x p = 2 := if_pos c
    have e2 : addR R x p = R := by unfold addR; rw [e1]; rfl
    rw [e1, e2]
    have H := Lib.hid (h.more (Nat.le_succ n))
    clear h e1 e2
    by_cases c1 : x < 1
    · go_enter Try.func10, Try.ntmps10
      go_wp2
      go_ret
      exact ⟨rfl, _, H.out, QOnly.refl _ _ _ _⟩
    · by_cases c2 : p < 0
      · go_enter Try.func10, Try.ntmps10
        go_wp2
        go_ret
        exact ⟨rfl, _, H.out, QOnly.refl _ _ _ _⟩
      · have c3 : p > 7 := by omega
        go_enter Try.func10, Try.ntmps10
        go_wp2
        go_ret
        exact ⟨rfl, _, H.out, QOnly.refl _ _ _ _⟩
  · by_cases d : hasR R x = true
    · have e1 : addE R x p = 16 := by unfold addE; rw [if_neg c, if_pos d]
      have e2 : addR R x p = R := by unfold addR; rw [e1]; rfl
      rw [e1, e2]
      have H := Lib.hid (h.more (Nat.le_succ n))
      clear h e1 e2
      have c1 : ¬ x < 1 := by omega
      have c2 : ¬ p < 0 := by omega
      have c3 : ¬ p > 7 := by omega
      clear c
      go_enter Try.func10, Try.ntmps10
      go_wp2_with (go_at_call 19; refine (has_r _ x hx H.out).mono ?_; rw [d]; rintro e w1 ⟨rfl, rfl⟩)
      go_ret
      exact ⟨rfl, _, H.out, QOnly.refl _ _ _ _⟩
    · have e1 : addE R x p = 0 := by unfold addE; rw [if_neg c, if_neg d]
      have e2 : addR R x p = insR R x p.toNat := by unfold addR; rw [if_pos e1]
      rw [e1, e2]
      obtain ⟨m, hm, h, g⟩ := h
      obtain ⟨q, rfl⟩ : ∃ q : Nat, p = (q : Int) := ⟨p.toNat, by omega⟩
      have hf : fR R x = none := by
        unfold hasR at d
        cases e : fR R x with
        | none => rfl
        | some _ => rw [e] at d; exact absurd rfl d
      have hq : q < 8 := by omega
      have h1 : 1 ≤ x := by omega
      refine (add_yes w B b mb m vs _ _ x q hx h1 hq (by omega) hf h).mono ?_
      rintro e w' ⟨rfl, vs', k1, k2⟩
      refine ⟨rfl, vs', ⟨m + 1, by omega, ?_, ?_⟩, k2⟩
      · rw [Int.toNat_natCast, LR_ins, fR_ins g hx h1 hq (fR_none hf)]
        exact k1
      · rw [Int.toNat_natCast]
        exact good_ins g hx h1 hq (fR_none hf)
theorem drop_r (w : World) {B b mb n : Nat} {vs : Nat → Value} {R : List (Int × Nat)} (x : Int) (hx : InI x) (hn : n < 1000000) (h : QR w B b mb n vs R) :
    Calls Try.prog 12 #[.pointer (some ⟨b, 0, none⟩), .int .i64 x] w fun e w' => e = .returned (.bool (hasR R x)) ∧ ∃ vs', QR w' B b mb n vs' (dropR R x) ∧ QOnly w w' b mb vs vs' := by
  cases e : fR R x with
  | none =>
    have d : hasR R x = false := by unfold hasR; rw [e]; rfl
    rw [d, dropR_self (fR_none e)]
    have H := Lib.hid h
    clear h e
    go_enter Try.func12, Try.ntmps12
    go_wp2_with (go_at_call 19; refine (has_r _ x hx H.out).mono ?_; rw [d]; rintro e w1 ⟨rfl, rfl⟩)
    go_ret
    exact ⟨rfl, _, H.out, QOnly.refl _ _ _ _⟩
  | some p =>
    have d : hasR R x = true := by unfold hasR; rw [e]; rfl
    rw [d]
    obtain ⟨m, hm, h, g⟩ := h
    obtain ⟨a, ha, rfl, rfl⟩ := fR_some e
    obtain ⟨A, C, rfl, hA, hC, hd⟩ := place g ha
    refine (drop_yes w B b mb m vs _ _ a.1 a.2 (LR A a.2) (LR C a.2) hx (g.bd a ha) (by omega) e (by rw [LR_app, LR_cons_same]) (fun y hy => hA _ (LR_mem hy)) h).mono ?_
    rintro r w' ⟨rfl, vs', k1, k2⟩
    refine ⟨rfl, vs', ⟨m, hm, ?_, good_drop g _⟩, k2⟩
    rw [fR_drop g, hd, LR_drop (e := a)]
    exact k1
def backR (R : List (Int × Nat)) (x : Int) : List (Int × Nat) := match fR R x with
  | none => R
  | some p => insR (dropR R x) x p.toNat
theorem back_r (w : World) {B b mb n : Nat} {vs : Nat → Value} {R : List (Int × Nat)} (x : Int) (hx : InI x) (hn : n < 1000000) (h : QR w B b mb n vs R) :
    Calls Try.prog 14 #[.pointer (some ⟨b, 0, none⟩), .int .i64 x] w fun e w' => e = .returned (.bool (hasR R x)) ∧ ∃ vs', QR w' B b mb (n + 1) vs' (backR R x) ∧ QOnly w w' b mb vs vs' := by
  cases e : fR R x with
  | none =>
    have d : hasR R x = false := by unfold hasR; rw [e]; rfl
    have d2 : backR R x = R := by unfold backR; rw [e]
    rw [d, d2]
    have H := Lib.hid (h.more (Nat.le_succ n))
    clear h e d2
    go_enter Try.func14, Try.ntmps14
    go_wp2_with (go_at_call 19; refine (has_r _ x hx H.out).mono ?_; rw [d]; rintro e w1 ⟨rfl, rfl⟩)
    go_ret
    exact ⟨rfl, _, H.out, QOnly.refl _ _ _ _⟩
  | some p =>
    have d : hasR R x = true := by unfold hasR; rw [e]; rfl
    have d2 : backR R x = insR (dropR R x) x p.toNat := by unfold backR; rw [e]
    rw [d, d2]
    obtain ⟨m, hm, h, g⟩ := h
    obtain ⟨a, ha, rfl, rfl⟩ := fR_some e
    obtain ⟨h1, h2⟩ := g.ids a ha
    have hb := g.bd a ha
    obtain ⟨A, C, hR, hA, hC, hd⟩ := place g ha
    have hfd : ∀ q ∈ dropR R a.1, q.1 ≠ a.1 := fun q hq => by simpa using (List.mem_filter.1 hq).2
    have hL : LR R a.2 = LR A a.2 ++ a.1 :: LR C a.2 := by rw [hR, LR_app, LR_cons_same]
    refine (back_yes w B b mb m vs _ _ a.1 a.2 (LR A a.2) (LR C a.2) hx h1 hb (by omega) e hL (fun y hy => hA _ (LR_mem hy)) h).mono ?_
    rintro r w' ⟨rfl, vs', k1, k2⟩
    rw [Int.toNat_natCast]
    refine ⟨rfl, vs', ⟨m + 1, by omega, ?_, good_ins (good_drop g _) hx h1 hb hfd⟩, k2⟩
    rw [fR_ins (good_drop g _) hx h1 hb hfd, LR_ins, fR_drop g]
    have e1 : lput (LR (dropR R a.1)) a.2 (LR (dropR R a.1) a.2 ++ [a.1]) = lput (lput (LR R) a.2 (LR A a.2 ++ LR C a.2)) a.2 (lput (LR R) a.2 (LR A a.2 ++ LR C a.2) a.2 ++ [a.1]) := by
      rw [hd, LR_drop (e := a), ← hR]
    rw [e1]
    exact k1
theorem all_r (w : World) {B b mb n : Nat} {vs : Nat → Value} {R : List (Int × Nat)} (hn : n < 1000000) (h : QR w B b mb n vs R) :
    Calls Try.prog 18 #[.pointer (some ⟨b, 0, none⟩)] w fun e W' => ∃ a c, e = .returned (.slice a R.length c) ∧ W'.ownsRow w.heap.size 3 1 (.slice a R.length c) R.length ((R.map (·.1)).map (Value.int .i64)) ∧ Below w.heap.size w W' := by
  obtain ⟨m, hm, h, g⟩ := h
  have hc := cat_all g
  have hl : (cat (LR R) (fallTo 8)).length = R.length := by rw [hc]; simp
  have := all_qs w (by omega) hl ⟨vs, h⟩
  rw [hc] at this
  exact this
theorem first_r (w : World) {B b mb n : Nat} {vs : Nat → Value} {R : List (Int × Nat)} (hn : n < 1000000) (h : QR w B b mb n vs R) :
    Calls Try.prog 16 #[.pointer (some ⟨b, 0, none⟩)] w fun e W' => e = .returned (.tuple #[.int .i64 (firstF (R.map (·.1))).1, .bool (firstF (R.map (·.1))).2]) ∧ Below w.heap.size w W' := by
  obtain ⟨m, hm, h, g⟩ := h
  have := first_any w B b mb m vs (LR R) (fR R) (by omega) h
  rw [cat_all g] at this
  exact this
end Go.Proofs.Ythbjjamjpbfehaa
