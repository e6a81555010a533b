/- package tree: Root, Child. -/
import Derived.Test.YtebgmphbkjpfcaaTr8
import Derived.Deep.QuietTactic
import Derived.BigQuiet
import Derived.Deep.RegionWith
namespace Go.Proofs.Ytebgmphbkjpfcaa
set_option linter.unusedVariables false
set_option linter.unusedSimpArgs false
open Go.ChangeShapes Go.WideShapes Go.ChangeAt Go.RowKit

/-- A slot's place in a list. -/
def idx (l : List Nod) (o i : Int) : Option Nat := l.findIdx? fun x => decide (x.o = o ∧ x.i = i)
theorem idx_some {l : List Nod} {o i : Int} {k : Nat} (h : idx l o i = some k) : ∃ x, l[k]? = some x ∧ x.o = o ∧ x.i = i := by
  obtain ⟨hk, hx, _⟩ := List.findIdx?_eq_some_iff_getElem.1 h
  exact ⟨l[k], List.getElem?_eq_getElem hk, by simpa using hx⟩
theorem idx_none {l : List Nod} {o i : Int} (h : idx l o i = none) {k : Nat} {x : Nod} (hk : l[k]? = some x) : ¬ (x.o = o ∧ x.i = i) := by
  have := List.findIdx?_eq_none_iff.1 h x (List.mem_of_getElem? hk)
  simpa using this
theorem TreeAt.find {W : World} {B b m n : Nat} {ps : List Nat} {l : List Nod} {f : Int → Int → Option Nat} (h : TreeAt W B b m n ps l f) {o i : Int} (ho : InS o) (hi : InS i) : f o i = (idx l o i).bind fun k => ps[k]? := by
  cases e : idx l o i with
  | none =>
    cases hf : f o i with
    | none => rfl
    | some p =>
      obtain ⟨k, x, h1, h2, h3⟩ := (h.finds o i p ho hi).1 hf
      exact absurd h3 (idx_none e h2)
  | some k =>
    obtain ⟨x, hx, h3⟩ := idx_some e
    obtain ⟨p, hp⟩ := get_len h.len.symm hx
    show f o i = ps[k]?
    rw [hp]
    exact (h.finds o i p ho hi).2 ⟨k, x, hp, hx, h3⟩
theorem TreeAt.isSome {W : World} {B b m n : Nat} {ps : List Nat} {l : List Nod} {f : Int → Int → Option Nat} (h : TreeAt W B b m n ps l f) {o i : Int} (ho : InS o) (hi : InS i) : (f o i).isSome = (idx l o i).isSome := by
  rw [h.find ho hi]
  cases e : idx l o i with
  | none => rfl
  | some k =>
    obtain ⟨x, hx, h3⟩ := idx_some e
    obtain ⟨p, hp⟩ := get_len h.len.symm hx
    show (ps[k]?).isSome = true
    rw [hp]; rfl
theorem InsPost.only {w0 w w' : World} {B b m n : Nat} {ps : List Nat} {l : List Nod} {f : Int → Int → Option Nat} {p q : Nat} {x : Nod} (h : InsPost w w' B b m n ps l f p q x) (hb : Below w0.heap.size w0 w) (hp : w0.heap.size ≤ p) (hq : q ≤ ps.length) : TOnly w0 w' b m ps (ps.insertIdx q p) :=
  ⟨h.os.trans hb.os, h.tape.trans hb.tape, h.output.trans hb.output, by rw [h.size]; exact hb.size,
   fun k hk hf => (h.block k hf (by omega)).trans (hb.block k hk),
   fun k hk hf => by
     rcases hf with rfl | rfl | ⟨j, hj⟩
     · exact .inl rfl
     · exact .inr (.inl rfl)
     · rcases ins_get hq hj with ⟨_, hr⟩ | ⟨_, rfl⟩ | ⟨j', _, _, hr⟩
       · exact foot_at hr
       · omega
       · exact foot_at hr⟩
def rootA (l : List Nod) (o i : Int) : List Nod × Int := if (idx l o i).isSome then (l, 11) else (l.insertIdx l.length ⟨o, i, 0⟩, 0)
/-- What a call of a tree leaves: a tree with the list. -/
def Left (w w' : World) (B b m n : Nat) (ps : List Nat) (l : List Nod) : Prop := ∃ ps' f', TreeAt w' B b m n ps' l f' ∧ TOnly w w' b m ps ps'
theorem Left.same {w w' : World} {B b m n n' : Nat} {ps : List Nat} {l : List Nod} {f : Int → Int → Option Nat} (h : TreeAt w B b m n ps l f) (hb : Below w.heap.size w w') (hn : n ≤ n') : Left w w' B b m n' ps l :=
  ⟨ps, f, (h.call hb).mono hn, .of_below hb⟩
theorem InsPost.left {w0 w w' : World} {B b m n : Nat} {ps : List Nat} {l : List Nod} {f : Int → Int → Option Nat} {p q : Nat} {x : Nod} (h : InsPost w w' B b m n ps l f p q x) (hb : Below w0.heap.size w0 w) (hp : w0.heap.size ≤ p) (hq : q ≤ ps.length) : Left w0 w' B b m (n + 1) ps (l.insertIdx q x) :=
  ⟨_, _, h.tree, h.only hb hp hq⟩
theorem TreeAt.fresh {W : World} {B b m n : Nat} {ps : List Nat} {l : List Nod} {f : Int → Int → Option Nat} (h : TreeAt W B b m n ps l f) {p : Nat} (hp : W.heap.size ≤ p) : ∀ k : Nat, ps[k]? ≠ some p := fun k e => by
  have := h.lt (foot_at (b := b) (m := m) e)
  omega
theorem Below.drw {B : Nat} {a b : World} (h : Below B a b) : Below B a b.drew := h.drew
set_option maxRecDepth 100000 in
theorem root_any (w : World) (B b m n : Nat) (ps : List Nat) (l : List Nod) (f : Int → Int → Option Nat) (o i : Int) (ho : InS o) (hi : InS i) (h : TreeAt w B b m n ps l f) (hn : n < maxLen) (hB : B ≤ w.heap.size) :
    Calls Try.prog 30 #[.pointer (some ⟨b, 0, none⟩), slV o i] w fun e w' => e = .returned (.int .i64 (rootA l o i).2) ∧ Left w w' B b m (n + 1) ps (rootA l o i).1 := by
  have his := h.isSome ho hi
  have H := Lib.hid h
  have hal : Below w.heap.size w (w.alloc (.cells #[.int .i64 o, .int .i64 i] 31)) := bal (Below.refl _ _) _
  have HA := Lib.hid hal
  unfold rootA
  cases hf : f o i
  · rw [hf] at his
    have e : (idx l o i).isSome = false := his.symm
    simp only [e, Bool.false_eq_true, if_false]
    have HF := Lib.hid hf
    clear h hal his e
    go_enter Try.func30, Try.ntmps30
    go_upto_region 5 with (go_at_call 17; refine (has_any _ B b m n ps l f o i ho hi (H.out.call HA.out)).mono ?_; rw [HF.out]; rintro e w1 ⟨rfl, hb1⟩)
    have hT := H.out.call (HA.out.trans (hb1.mono HA.out.size))
    have hsl : w1.cell? ⟨w.heap.size, 0, none⟩ = some (.int .i64 o) ∧ w1.cell? ⟨w.heap.size, 1, none⟩ = some (.int .i64 i) := by
      obtain ⟨hc, _⟩ := bcell hb1
      constructor
      · rw [hc _ _ (by simp)]; simp
      · rw [hc _ _ (by simp)]; simp
    obtain ⟨s0, s1⟩ := hsl
    obtain ⟨c0, c1, c2, cz⟩ := head_cells hT.head
    have hsz : w.heap.size < w1.heap.size := by have := hb1.size; simp at this; omega
    have hbl : b < w1.heap.size := hT.lt (.inl rfl)
    have hB1 : Below w.heap.size w w1 := HA.out.trans (hb1.mono HA.out.size)
    have hins : Calls Try.prog 43 #[.pointer (some ⟨b, 0, none⟩), .pointer (some ⟨w1.heap.size, 0, none⟩), ptrV (prv ps ps.length)] (w1.alloc (placeO ⟨o, i, 0⟩ none none)).drew fun e w' => (∃ v, e = .returned v) ∧ Left w w' B b m (n + 1) ps (l.insertIdx l.length ⟨o, i, 0⟩) := by
      have hb2 : Below w1.heap.size w1 (w1.alloc (placeO ⟨o, i, 0⟩ none none)).drew := (bal (Below.refl _ _) _).drew
      have hT2 := hT.call hb2
      refine (insert_any _ B b m n ps l f w1.heap.size ps.length ⟨o, i, 0⟩ hT2 (Nat.le_refl _) (World.alloc_heap_new w1 _) (hT.fresh (Nat.le_refl _)) (by omega) ⟨ho, hi, by simp, by simp; omega⟩ HF.out hn).mono ?_
      rintro e w' ⟨hv, hp⟩
      refine ⟨hv, ?_⟩
      have := hp.left (hB1.trans (hb2.mono hB1.size)) (by omega) (Nat.le_refl _)
      rw [hT.len] at this
      exact this
    have HI := Lib.hid hins
    clear hins hT hB1
    go_region_with (go_at_call 43; refine HI.out.mono ?_; rintro e w' ⟨⟨v, rfl⟩, hL⟩)
    all_goals
      go_wp2
      go_ret
      exact ⟨rfl, hL⟩
  · rw [hf] at his
    have e : (idx l o i).isSome = true := his.symm
    simp only [e, if_true]
    have HF := Lib.hid hf
    clear h hal his e
    go_enter Try.func30, Try.ntmps30
    go_wp2_with (go_at_call 17; refine (has_any _ B b m n ps l f o i ho hi (H.out.call HA.out)).mono ?_; rw [HF.out]; rintro e w1 ⟨rfl, hb1⟩)
    go_ret
    exact ⟨rfl, Left.same H.out (HA.out.trans (hb1.mono HA.out.size)) (Nat.le_succ _)⟩
end Go.Proofs.Ytebgmphbkjpfcaa
