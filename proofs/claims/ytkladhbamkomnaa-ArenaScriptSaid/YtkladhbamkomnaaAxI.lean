/- chapter 12: the start of both; each act on one side, then on the other. -/
import Derived.Test.YtkladhbamkomnaaAxH
namespace Go.Proofs.Ytkladhbamkomnaa
set_option linter.unusedVariables false
set_option linter.unusedSimpArgs false
open Go.ChangeShapes Go.WideShapes Go.ChangeAt Go.RowKit Go.Shelf
open TabA

theorem zeroG_take {F : Nat} (hF : F ≤ 64) : zeroG.take F = zerosA F := by
  unfold zeroG zerosA
  rw [List.take_replicate, Nat.min_eq_left hF]
/-- Blocks that neither side has. -/
def Bes (w : World) (b ab rb : Nat) (v u : Value) (S : Nat → Prop) : Prop := ∀ k, S k → k < w.heap.size ∧ k ≠ b ∧ k ≠ ab ∧ k ≠ rb ∧ v.ownBlock ≠ some k ∧ u.ownBlock ≠ some k
def SameK (S : Nat → Prop) (w w' : World) : Prop := ∀ k, S k → w'.heap[k]? = w.heap[k]?
/-- Both sides at one list, beside the blocks of S. -/
def Bs (W w : World) (b rb F : Nat) (S : Nat → Prop) (cnt : List Int) (L : List Ob) : Prop := ∃ ab base rbase v u G, PT W w b ab base rb rbase F cnt v L u L G ∧ G.take F = cnt ∧ Bes w b ab rb v u S
theorem Both.beside {W w : World} {b rb F : Nat} {cnt : List Int} {L : List Ob} (h : Both W w b rb F cnt L) (o : Obj) : Bs W (w.alloc o) b rb F (fun k => k = w.heap.size) cnt L := by
  obtain ⟨ab, base, rbase, v, u, G, hP, hG⟩ := h
  have h1 := hP.ar.bl
  have h2 := hP.ar.al
  have h3 := Nat.lt_of_lt_of_le hP.rf.lt hP.rf.bs
  refine ⟨ab, base, rbase, v, u, G, hP.call (bal (Below.refl _ _) _), hG, fun k e => ?_⟩
  subst e
  exact ⟨by simp, by omega, by omega, by omega, (fun e => by have := (hP.ar.tab.own e).2; omega), (fun e => by have := (hP.rf.row.lt _ e).2; omega)⟩
theorem Bs.both {W w : World} {b rb F : Nat} {S : Nat → Prop} {cnt : List Int} {L : List Ob} (h : Bs W w b rb F S cnt L) : Both W w b rb F cnt L := by
  obtain ⟨ab, base, rbase, v, u, G, hP, hG, _⟩ := h
  exact ⟨ab, base, rbase, v, u, G, hP, hG⟩
theorem both_start {W w1 w2 : World} {b rb F : Nat} (h : NewA W w1 b F) (hR : RefA w2 rb (rb + 1) F (.slice none 0 0) [] zeroG) (hb : Below w1.heap.size w1 w2) (hrb : rb = w1.heap.size) : Both W w2 b rb F (zerosA F) [] := by
  obtain ⟨ab, base, hA, h1, h2, h3⟩ := h
  have b1 := hA.bl
  have b2 := hA.al
  have b3 := h3.size
  exact ⟨ab, base, _, _, _, _, ⟨hA.call hb, hR, by omega, by omega, (by simp [Value.ownBlock]), (by simp [Value.ownBlock]), (by simp [Value.ownBlock]), (by simp [Value.ownBlock]), h2, h1, by omega, h3.trans (hb.mono b3)⟩, zeroG_take hA.f1.2⟩
/-- The arena has gone on; the own answer has not. -/
def Half (W w : World) (b rb F : Nat) (S : Nat → Prop) (cnt : List Int) (L : List Ob) (cnt' : List Int) (L' : List Ob) : Prop :=
  ∃ ab base rbase v u G, PT W w b ab base rb rbase F cnt' v L' u L G ∧ G.take F = cnt ∧ (1 ≤ F ∧ F ≤ 64) ∧ Asc (rowsO L) ∧ (∀ fi, nextA cnt fi ≠ 0 → ∀ y ∈ L, y.id ≠ nextA cnt fi) ∧ Bes w b ab rb v u S
theorem Bes.arena {w w' : World} {b ab rb : Nat} {v v' u : Value} {S : Nat → Prop} (h : Bes w b ab rb v u S) (hO : OnlyA w w' b ab v v') : Bes w' b ab rb v' u S ∧ SameK S w w' := by
  refine ⟨fun k hk => ?_, fun k hk => ?_⟩
  · obtain ⟨h1, h2, h3, h4, h5, h6⟩ := h k hk
    refine ⟨Nat.lt_of_lt_of_le h1 hO.size, h2, h3, h4, ?_, h6⟩
    rcases hO.foot with q | ⟨g, q, hg⟩
    · rw [q]; exact h5
    · rw [q]; intro e; cases e; omega
  · obtain ⟨h1, h2, h3, h4, h5, h6⟩ := h k hk
    exact hO.block k h1 h2 h3 h5
theorem Bes.own {w w' : World} {b ab rb : Nat} {v u u' : Value} {S : Nat → Prop} (h : Bes w b ab rb v u S) (hO : OnlyR w w' rb u u') : Bes w' b ab rb v u' S ∧ SameK S w w' := by
  refine ⟨fun k hk => ?_, fun k hk => ?_⟩
  · obtain ⟨h1, h2, h3, h4, h5, h6⟩ := h k hk
    exact ⟨Nat.lt_of_lt_of_le h1 hO.size, h2, h3, h4, h5, fun e => h6 (hO.foot k h1 e)⟩
  · obtain ⟨h1, h2, h3, h4, h5, h6⟩ := h k hk
    exact hO.block k h1 h4 h6
theorem Bs.half {W w w' : World} {b rb F ab base rbase : Nat} {S : Nat → Prop} {cnt cnt' : List Int} {L L' : List Ob} {v v' u : Value} {G : List Int} (h : PT W w b ab base rb rbase F cnt v L u L G) (hG : G.take F = cnt) (hS : Bes w b ab rb v u S) (hA : ArAt w' b ab base F cnt' v' L') (hO : OnlyA w w' b ab v v') : Half W w' b rb F S cnt L cnt' L' ∧ SameK S w w' :=
  ⟨⟨ab, base, rbase, v', u, G, h.arena hA hO, hG, h.ar.f1, h.ar.tab.asc, fresh_next h.ar, (hS.arena hO).1⟩, (hS.arena hO).2⟩
theorem Half.bs {W w w' : World} {b rb F ab base rbase : Nat} {S : Nat → Prop} {cnt' : List Int} {L L' : List Ob} {v u u' : Value} {G G' : List Int} (h : PT W w b ab base rb rbase F cnt' v L' u L G) (hS : Bes w b ab rb v u S) (hR : RefA w' rb rbase F u' L' G') (hG : G'.take F = cnt') (hO : OnlyR w w' rb u u') : Bs W w' b rb F S cnt' L' ∧ SameK S w w' :=
  ⟨⟨ab, base, rbase, v, u', G', h.own hR hO, hG, (hS.own hO).1⟩, (hS.own hO).2⟩
theorem Half.call {W w w' : World} {b rb F : Nat} {S : Nat → Prop} {cnt cnt' : List Int} {L L' : List Ob} (h : Half W w b rb F S cnt L cnt' L') (hb : Below w.heap.size w w') : Half W w' b rb F S cnt L cnt' L' := by
  obtain ⟨ab, base, rbase, v, u, G, hP, hG, hF, hA, hf, hS⟩ := h
  exact ⟨ab, base, rbase, v, u, G, hP.call hb, hG, hF, hA, hf, fun k hk => ⟨Nat.lt_of_lt_of_le (hS k hk).1 hb.size, (hS k hk).2⟩⟩
theorem Bs.call {W w w' : World} {b rb F : Nat} {S : Nat → Prop} {cnt : List Int} {L : List Ob} (h : Bs W w b rb F S cnt L) (hb : Below w.heap.size w w') : Bs W w' b rb F S cnt L := by
  obtain ⟨ab, base, rbase, v, u, G, hP, hG, hS⟩ := h
  exact ⟨ab, base, rbase, v, u, G, hP.call hb, hG, fun k hk => ⟨Nat.lt_of_lt_of_le (hS k hk).1 hb.size, (hS k hk).2⟩⟩
theorem Bs.addA {W w : World} {b rb F : Nat} {S : Nat → Prop} {cnt : List Int} {L : List Ob} (h : Bs W w b rb F S cnt L) (hl : L.length < 1000000) (x1 x2 x3 : Int) (wf : -9223372036854775808 ≤ x3 ∧ x3 ≤ 9223372036854775807) :
    Calls Try.prog 24 #[.pointer (some ⟨b, 0, none⟩), .int .i64 x1, .int .i64 x2, .int .i64 x3] w fun e w' => e = .returned (.tuple #[.int .i64 (addR F cnt L x1 x2 x3).1, .int .i64 (addR F cnt L x1 x2 x3).2]) ∧ Half W w' b rb F S cnt L (addC F cnt L x1 x2 x3) (addL F cnt L x1 x2 x3) ∧ SameK S w w' := by
  obtain ⟨ab, base, rbase, v, u, G, hP, hG, hS⟩ := h
  exact (add_any w b ab base F cnt v L x1 x2 x3 hP.ar wf hl).mono fun e w' ⟨he, v', hA, hO⟩ => ⟨he, Bs.half hP hG hS hA hO⟩
theorem Half.addR {W w : World} {b rb F : Nat} {S : Nat → Prop} {cnt : List Int} {L : List Ob} {x1 x2 x3 : Int} (h : Half W w b rb F S cnt L (addC F cnt L x1 x2 x3) (addL F cnt L x1 x2 x3)) (hl : L.length < 1000000) :
    Calls Try.prog 28 #[.pointer (some ⟨rb, 0, none⟩), .int .i64 x1, .int .i64 x2, .int .i64 x3] w fun e w' => e = .returned (.tuple #[.int .i64 (addR F cnt L x1 x2 x3).1, .int .i64 (addR F cnt L x1 x2 x3).2]) ∧ Bs W w' b rb F S (addC F cnt L x1 x2 x3) (addL F cnt L x1 x2 x3) ∧ SameK S w w' := by
  obtain ⟨ab, base, rbase, v, u, G, hP, hG, hF, hA, hfr, hS⟩ := h
  subst hG
  exact (radd_any w rb rbase F u L G x1 x2 x3 hP.rf hF hl hA (hfr x3)).mono fun e w' ⟨he, u', G', hR, hG', hO⟩ => ⟨he, Half.bs hP hS hR hG' hO⟩
theorem Bs.dropA {W w : World} {b rb F : Nat} {S : Nat → Prop} {cnt : List Int} {L : List Ob} (h : Bs W w b rb F S cnt L) (x1 : Int) :
    Calls Try.prog 23 #[.pointer (some ⟨b, 0, none⟩), .int .i64 x1] w fun e w' => e = .returned (.int .i64 (dropR L x1)) ∧ Half W w' b rb F S cnt L (cnt) (dropL L x1) ∧ SameK S w w' := by
  obtain ⟨ab, base, rbase, v, u, G, hP, hG, hS⟩ := h
  exact (adrop_any w b ab base F cnt v L x1 hP.ar).mono fun e w' ⟨he, v', hA, hO⟩ => ⟨he, Bs.half hP hG hS hA hO⟩
theorem Half.dropR {W w : World} {b rb F : Nat} {S : Nat → Prop} {cnt : List Int} {L : List Ob} {x1 : Int} (h : Half W w b rb F S cnt L (cnt) (dropL L x1)) (hl : L.length < 1000000) :
    Calls Try.prog 29 #[.pointer (some ⟨rb, 0, none⟩), .int .i64 x1] w fun e w' => e = .returned (.int .i64 (dropR L x1)) ∧ Bs W w' b rb F S (cnt) (dropL L x1) ∧ SameK S w w' := by
  obtain ⟨ab, base, rbase, v, u, G, hP, hG, hF, hA, hfr, hS⟩ := h
  exact (rdrop_any w rb rbase F u L G x1 hP.rf hA hl).mono fun e w' ⟨he, u', hR, hO⟩ => ⟨he, Half.bs hP hS hR hG hO⟩
theorem Bs.markA {W w : World} {b rb F : Nat} {S : Nat → Prop} {cnt : List Int} {L : List Ob} (h : Bs W w b rb F S cnt L) (x1 x2 : Int) :
    Calls Try.prog 26 #[.pointer (some ⟨b, 0, none⟩), .int .i64 x1, .int .i64 x2] w fun e w' => e = .returned (.int .i64 (markR L x1 x2)) ∧ Half W w' b rb F S cnt L (cnt) (markL L x1 x2) ∧ SameK S w w' := by
  obtain ⟨ab, base, rbase, v, u, G, hP, hG, hS⟩ := h
  exact (mark_any w b ab base F cnt v L x1 x2 hP.ar).mono fun e w' ⟨he, hA, hO⟩ => ⟨he, Bs.half hP hG hS hA hO⟩
theorem Half.markR {W w : World} {b rb F : Nat} {S : Nat → Prop} {cnt : List Int} {L : List Ob} {x1 x2 : Int} (h : Half W w b rb F S cnt L (cnt) (markL L x1 x2)) (hl : L.length < 1000000) :
    Calls Try.prog 30 #[.pointer (some ⟨rb, 0, none⟩), .int .i64 x1, .int .i64 x2] w fun e w' => e = .returned (.int .i64 (markR L x1 x2)) ∧ Bs W w' b rb F S (cnt) (markL L x1 x2) ∧ SameK S w w' := by
  obtain ⟨ab, base, rbase, v, u, G, hP, hG, hF, hA, hfr, hS⟩ := h
  exact (rmark_any w rb rbase F u L G x1 x2 hP.rf hA hl).mono fun e w' ⟨he, hR, hO⟩ => ⟨he, Half.bs hP hS hR hG (.of hO)⟩
theorem Bs.placeA {W w : World} {b rb F : Nat} {S : Nat → Prop} {cnt : List Int} {L : List Ob} (h : Bs W w b rb F S cnt L) (x1 x2 x3 x4 : Int) :
    Calls Try.prog 27 #[.pointer (some ⟨b, 0, none⟩), .int .i64 x1, .int .i64 x2, .int .i64 x3, .int .i64 x4] w fun e w' => e = .returned (.int .i64 (placeR L x1 x2 x3 x4)) ∧ Half W w' b rb F S cnt L (cnt) (placeL L x1 x2 x3 x4) ∧ SameK S w w' := by
  obtain ⟨ab, base, rbase, v, u, G, hP, hG, hS⟩ := h
  exact (place_any w b ab base F cnt v L x1 x2 x3 x4 hP.ar).mono fun e w' ⟨he, hA, hO⟩ => ⟨he, Bs.half hP hG hS hA hO⟩
theorem Half.placeR {W w : World} {b rb F : Nat} {S : Nat → Prop} {cnt : List Int} {L : List Ob} {x1 x2 x3 x4 : Int} (h : Half W w b rb F S cnt L (cnt) (placeL L x1 x2 x3 x4)) (hl : L.length < 1000000) :
    Calls Try.prog 31 #[.pointer (some ⟨rb, 0, none⟩), .int .i64 x1, .int .i64 x2, .int .i64 x3, .int .i64 x4] w fun e w' => e = .returned (.int .i64 (placeR L x1 x2 x3 x4)) ∧ Bs W w' b rb F S (cnt) (placeL L x1 x2 x3 x4) ∧ SameK S w w' := by
  obtain ⟨ab, base, rbase, v, u, G, hP, hG, hF, hA, hfr, hS⟩ := h
  exact (rplace_any w rb rbase F u L G x1 x2 x3 x4 hP.rf hA hl).mono fun e w' ⟨he, hR, hO⟩ => ⟨he, Half.bs hP hS hR hG (.of hO)⟩
theorem Both.next {W w : World} {b rb F : Nat} {cnt : List Int} {L : List Ob} (h : Both W w b rb F cnt L) (fi : Int) :
    Calls Try.prog 13 #[.pointer (some ⟨b, 0, none⟩), .int .i64 fi] w fun e w' => e = .returned (.int .i64 (nextA cnt fi)) ∧ w' = w := by
  obtain ⟨ab, base, rbase, v, u, G, hP, hG⟩ := h
  exact next_any w b ab base F cnt v L fi hP.ar
theorem Both.rnext {W w : World} {b rb F : Nat} {cnt : List Int} {L : List Ob} (h : Both W w b rb F cnt L) (fi : Int) :
    Calls Try.prog 14 #[.pointer (some ⟨rb, 0, none⟩), .int .i64 fi] w fun e w' => e = .returned (.int .i64 (nextA cnt fi)) ∧ w = w' := by
  obtain ⟨ab, base, rbase, v, u, G, hP, hG⟩ := h
  have hF := hP.ar.f1
  rw [← next_eq hP.rf.gl hF.2 hG.symm fi]
  exact rnext_any w rb rbase F u L G fi hP.rf (by omega)
theorem Both.get {W w : World} {b rb F : Nat} {cnt : List Int} {L : List Ob} (h : Both W w b rb F cnt L) (id : Int) :
    Calls Try.prog 15 #[.pointer (some ⟨b, 0, none⟩), .int .i64 id] w fun e w' => e = .returned (.tuple #[obD (getO L id), .bool (getO L id).isSome]) ∧ Below w.heap.size w w' := by
  obtain ⟨ab, base, rbase, v, u, G, hP, hG⟩ := h
  exact aget_any w b ab base F cnt v L id hP.ar
theorem Both.rget {W w : World} {b rb F : Nat} {cnt : List Int} {L : List Ob} (h : Both W w b rb F cnt L) (id : Int) (hl : L.length < 1000000) :
    Calls Try.prog 16 #[.pointer (some ⟨rb, 0, none⟩), .int .i64 id] w fun e w' => e = .returned (.tuple #[obD (getO L id), .bool (getO L id).isSome]) ∧ Below w.heap.size w w' := by
  obtain ⟨ab, base, rbase, v, u, G, hP, hG⟩ := h
  exact rget_any w rb rbase F u L G id hP.rf hP.ar.tab.asc hl
theorem Both.all {W w : World} {b rb F : Nat} {cnt : List Int} {L : List Ob} (h : Both W w b rb F cnt L) (hl : L.length < 1000000) :
    Calls Try.prog 17 #[.pointer (some ⟨b, 0, none⟩)] w fun e w' => ∃ r, e = .returned r ∧ w'.ownsRow w.heap.size 37 9 r L.length (objsC L) ∧ Below w.heap.size w w' := by
  obtain ⟨ab, base, rbase, v, u, G, hP, hG⟩ := h
  exact all_any w b ab base F cnt v L hP.ar hl
/-- The own answer's list, as its cell tells it. -/
theorem Both.list {W w : World} {b rb F : Nat} {cnt : List Int} {L : List Ob} (h : Both W w b rb F cnt L) : ∃ ra rc, w.cell? ⟨rb, 1, none⟩ = some (.slice ra L.length rc) ∧ ObsIs w ra L ∧ rb < w.heap.size := by
  obtain ⟨ab, base, rbase, v, u, G, hP, hG⟩ := h
  obtain ⟨ra, rc, rfl, hrc, hra⟩ := obs_of hP.rf.row
  exact ⟨ra, rc, hP.rf.c1, hra, Nat.lt_of_lt_of_le hP.rf.lt hP.rf.bs⟩
/-- A block made later may be written over. -/
theorem grown_below {w w' : World} {n : Nat} {o : Option Nat} (h : w.grownBy w' o) (ho : ∀ k, o = some k → n ≤ k) (hn : n ≤ w.heap.size) : Below n w w' := by
  obtain ⟨h1, h2, h3, h4, h5⟩ := h
  exact ⟨h1, h2, h3, h4, fun k hk => h5 k (Nat.lt_of_lt_of_le hk hn) (fun e => by have := ho k e.symm; omega)⟩
end Go.Proofs.Ytkladhbamkomnaa
