/- SlotsOwn: what a slot is given it has, and no other slot is changed. -/
import Derived.Test.YtplanbihejodoaaDoorSlM
import Derived.Test.YtplanbihejodoaaDoorLowL
import Derived.Test.YtplanbihejodoaaDoorSloM
import Derived.Deep.RegionHeld3
import Derived.BigQuiet
namespace Go.Proofs.YtplanbihejodoaaDoor
set_option linter.unusedVariables false
set_option linter.unusedSimpArgs false
open Go.ChangeShapes Go.WideShapes Go.ChangeAt Go.RowKit Go.Shelf

namespace TabS
def Nodes (k : Nat) (L : List Sn) : Prop := L.length = k ∧ ∀ (i : Nat) (x : Sn), L[i]? = some x → x.id = i + 1 ∧ x.l.length = 4
theorem SlW.add1 {W w : World} {b : Nat} {L : List Sn} {S : Nat → Prop} (h : SlW W w b L S) (hL : Nodes 0 L) :
    Calls Tryd.prog 9 #[.pointer (some ⟨b, 0, none⟩), .int .i64 1, .int .i64 4] w fun e w' => e = .returned (.int .i64 0) ∧ ∃ L', Nodes 1 L' ∧ SlW W w' b L' S ∧ SameK S w w' :=
  (h.addn 0 hL.1 (by omega) hL.2).mono fun e w' ⟨he, L', h1, h2, h3⟩ => ⟨he, L', ⟨h1, h2⟩, h3⟩
theorem SlW.add2 {W w : World} {b : Nat} {L : List Sn} {S : Nat → Prop} (h : SlW W w b L S) (hL : Nodes 1 L) :
    Calls Tryd.prog 9 #[.pointer (some ⟨b, 0, none⟩), .int .i64 2, .int .i64 4] w fun e w' => e = .returned (.int .i64 0) ∧ ∃ L', Nodes 2 L' ∧ SlW W w' b L' S ∧ SameK S w w' :=
  (h.addn 1 hL.1 (by omega) hL.2).mono fun e w' ⟨he, L', h1, h2, h3⟩ => ⟨he, L', ⟨h1, h2⟩, h3⟩
theorem SlW.add3 {W w : World} {b : Nat} {L : List Sn} {S : Nat → Prop} (h : SlW W w b L S) (hL : Nodes 2 L) :
    Calls Tryd.prog 9 #[.pointer (some ⟨b, 0, none⟩), .int .i64 3, .int .i64 4] w fun e w' => e = .returned (.int .i64 0) ∧ ∃ L', Nodes 3 L' ∧ SlW W w' b L' S ∧ SameK S w w' :=
  (h.addn 2 hL.1 (by omega) hL.2).mono fun e w' ⟨he, L', h1, h2, h3⟩ => ⟨he, L', ⟨h1, h2⟩, h3⟩
/-- The two arguments, boxed. -/
structure Bx (w : World) (xS xC : Nat) (s i : Int) (c : Cp) : Prop where
  sb : w.heap[xS]? = some (.cells #[.int .i64 s, .int .i64 i] 31 (0, 0))
  cb : w.heap[xC]? = some (.cells c.L.toArray 34 (0, 0))
theorem Bx.call {w w' : World} {xS xC : Nat} {s i : Int} {c : Cp} (h : Bx w xS xC s i c) (hb : Below w.heap.size w w') : Bx w' xS xC s i c :=
  ⟨(hb.block _ (Array.getElem?_eq_some_iff.1 h.sb).1).trans h.sb, (hb.block _ (Array.getElem?_eq_some_iff.1 h.cb).1).trans h.cb⟩
theorem Bx.same {w w' : World} {xS xC : Nat} {s i : Int} {c : Cp} {S : Nat → Prop} (h : Bx w xS xC s i c) (hk : SameK S w w') (h1 : S xS) (h2 : S xC) : Bx w' xS xC s i c :=
  ⟨(hk _ h1).trans h.sb, (hk _ h2).trans h.cb⟩
theorem SlW.new {W w w' : World} {base : Nat} {S : Nat → Prop} (hW : Below W.heap.size W w) (h : SlotsAt w' w.heap.size base (.slice none 0 0) []) (hb : Below w.heap.size w w') (hS : ∀ k, S k → k < w.heap.size) : SlW W w' w.heap.size [] S :=
  ⟨base, _, h, hW.size, hW.trans (hb.mono hW.size), fun k hk => ⟨Nat.lt_of_lt_of_le (hS k hk) hb.size, (by have := hS k hk; omega), (fun e => by cases e), (fun x hx => by cases hx)⟩⟩
abbrev S2 (W : World) : Nat → Prop := fun k => k = W.heap.size ∨ k = W.heap.size + 1
/-- All that the loop over the acts keeps. -/
structure OwS (W w : World) (b : Nat) (L : List Sn) (s i : Int) (c : Cp) : Prop where
  st : SlW W w b L (S2 W)
  three : Three L
  bx : Bx w W.heap.size (W.heap.size + 1) s i c
/-- A row of what is held. -/
def HdsAt (w : World) (g : Nat) (H : List Hd) : Prop := ∀ (t : Nat) (h : Hd), H[t]? = some h → w.rangeAt g (t * 10) h.L
theorem hds_get : ∀ (L : List Hd) (i j : Nat) (x : Hd) (u : Value), L[i]? = some x → x.L[j]? = some u → (hdsC L)[i * 10 + j]? = some u
  | [], i, j, x, u, hi, _ => by simp at hi
  | y :: L, 0, j, x, u, hi, hj => by
    simp at hi
    subst hi
    have e : hdsC (y :: L) = y.L ++ hdsC L := rfl
    have hl : y.L.length = 10 := rfl
    rw [e, List.getElem?_append_left (by have := (List.getElem?_eq_some_iff.1 hj).1; omega)]
    simpa using hj
  | y :: L, i + 1, j, x, u, hi, hj => by
    have e : hdsC (y :: L) = y.L ++ hdsC L := rfl
    have hl : y.L.length = 10 := rfl
    rw [e, List.getElem?_append_right (by omega), hl, show (i + 1) * 10 + j - 10 = i * 10 + j by omega]
    exact hds_get L i j x u (by simpa using hi) hj
theorem hds_of {w : World} {base : Nat} {r : Value} {H : List Hd} (h : w.ownsRow base 56 10 r H.length (hdsC H)) : ∃ ra rc, r = .slice ra H.length rc ∧ H.length ≤ rc ∧ ∃ g, (∀ t, t < H.length → ra = some ⟨g, 0, none⟩ ∧ base ≤ g ∧ g < w.heap.size) ∧ HdsAt w g H := by
  have hlt := h.lt
  have hcs := fun g hg => h.cells (g := g) hg
  rcases h.2 with ⟨rfl, h0⟩ | ⟨g, cap, cur, rfl, q1, q2, q3, q4, q5, q6⟩
  · exact ⟨none, 0, by rw [h0], by omega, 0, fun i hi => by omega, fun t x hx => by have := (List.getElem?_eq_some_iff.1 hx).1; omega⟩
  · refine ⟨_, _, rfl, q3, g, fun _ _ => ⟨rfl, (hlt g rfl).1, (hlt g rfl).2⟩, fun i x hi j u hj => ?_⟩
    have := hcs g rfl _ _ (hds_get H i j x u hi hj)
    rwa [Addr.add_mid, Nat.zero_add] at this
theorem own_get {L : List Sn} (h3 : Three L) {p r : Nat} (hp : p < 3) (hr : r < 4) (c : Cp) : ∃ c', getC (setSL L p r c) p r = some c' ∧ (mayC c = true → c' = c) := by
  cases hm : mayC c with
  | true => exact ⟨c, by rw [getC_set h3 hp hr c hm, if_pos ⟨rfl, rfl⟩], fun _ => rfl⟩
  | false =>
    obtain ⟨x, hx, _, hl⟩ := three_get h3 hp
    refine ⟨x.l[r]'(by omega), ?_, fun h => by cases h⟩
    unfold setSL
    rw [if_neg (by rw [hm]; decide)]
    unfold getC
    rw [hx]
    exact List.getElem?_eq_getElem _
theorem own_keep {L : List Sn} (h3 : Three L) {p r : Nat} (hp : p < 3) (hr : r < 4) (c : Cp) {h : Hd} (hh : h ∈ heldA L) : ∃ (q : Nat) (c2 : Cp), h.n = q + 1 ∧ getC (setSL L p r c) q h.i = some c2 ∧ (¬ (h.n = 1 + (p : Int) ∧ h.i = r) → c2 = h.c) ∧ q < 3 ∧ h.i < 4 := by
  obtain ⟨q, x, hx, hn, hg⟩ := mem_heldA hh
  have hxi := (h3.2 q x hx).1
  have hq3 : q < 3 := by have := (List.getElem?_eq_some_iff.1 hx).1; have := h3.1; omega
  have hi4 : h.i < 4 := by
    unfold getC at hg
    rw [hx] at hg
    have := (List.getElem?_eq_some_iff.1 hg).1
    have := (h3.2 q x hx).2
    omega
  cases hm : mayC c with
  | true =>
    by_cases e : q = p ∧ h.i = r
    · exact ⟨q, c, by omega, by rw [getC_set h3 hp hr c hm, if_pos e], fun h => absurd ⟨by omega, e.2⟩ h, hq3, hi4⟩
    · exact ⟨q, h.c, by omega, by rw [getC_set h3 hp hr c hm, if_neg e]; exact hg, fun _ => rfl, hq3, hi4⟩
  | false =>
    refine ⟨q, h.c, by omega, ?_, fun _ => rfl, hq3, hi4⟩
    unfold setSL
    rw [if_neg (by rw [hm]; decide)]
    exact hg
abbrev S3 (W : World) (lo hi : Nat) : Nat → Prop := fun k => S2 W k ∨ (lo ≤ k ∧ k < hi)
/-- All that the second loop keeps. -/
structure OwL (W w : World) (b lo hi g : Nat) (L : List Sn) (H : List Hd) (s i : Int) (c : Cp) : Prop where
  st : SlW W w b L (S3 W lo hi)
  bx : Bx w W.heap.size (W.heap.size + 1) s i c
  row : HdsAt w g H
  gl : 0 < H.length → S3 W lo hi g
theorem HdsAt.kept {w w' : World} {g : Nat} {H : List Hd} (h : HdsAt w g H) (e : 0 < H.length → w'.heap[g]? = w.heap[g]?) : HdsAt w' g H := fun i x hi j u hj => (World.cell?_of_block (e (by have := (List.getElem?_eq_some_iff.1 hi).1; omega))).trans (h i x hi j u hj)
theorem OwL.call {W w w' : World} {b lo hi g : Nat} {L : List Sn} {H : List Hd} {s i : Int} {c : Cp} (h : OwL W w b lo hi g L H s i c) (hb : Below w.heap.size w w') : OwL W w' b lo hi g L H s i c :=
  ⟨h.st.call hb, h.bx.call hb, h.row.kept (fun hl => hb.block g (h.st.lt (h.gl hl))), h.gl⟩
theorem SlW.mono {W w : World} {b : Nat} {L : List Sn} {S T : Nat → Prop} (h : SlW W w b L S) (k : ∀ j, T j → S j) : SlW W w b L T := by
  obtain ⟨base, tv, hA, q1, q2, q3⟩ := h
  exact ⟨base, tv, hA, q1, q2, fun j hj => q3 j (k j hj)⟩
/-- The slot's box is written over. -/
theorem OwS.turn {W w : World} {b : Nat} {L : List Sn} {s i s' i' : Int} {c : Cp} (h : OwS W w b L s i c) : OwS W (((w.setCell ⟨W.heap.size, 0, none⟩ (.int .i64 s')).setCell ⟨W.heap.size, 1, none⟩ (.int .i64 i')).drew) b L s' i' c := by
  refine ⟨h.st.turn (B := W.heap.size) (.inl rfl) (Nat.le_refl _) rfl rfl rfl (by simp) (fun k hk => ?_), h.three, ⟨?_, ?_⟩⟩
  · exact (Go.heap_setCell_other _ _ _ _ (by simpa using hk)).trans (Go.heap_setCell_other _ _ _ _ (by simpa using hk))
  · exact Go.heap_setCell_same _ _ _ _ _ _ (Go.heap_setCell_same _ _ _ _ _ _ h.bx.sb)
  · exact ((Go.heap_setCell_other _ _ _ _ (by simp)).trans (Go.heap_setCell_other _ _ _ _ (by simp))).trans h.bx.cb
theorem SlW.hlen {W w : World} {b : Nat} {L : List Sn} {S : Nat → Prop} (h : SlW W w b L S) : (heldA L).length ≤ 16 * L.length := by
  obtain ⟨base, tv, hA, q1, q2, q3⟩ := h
  exact heldA_len L hA.bd
theorem Bx.cells {w : World} {xS xC : Nat} {s i : Int} {c : Cp} (h : Bx w xS xC s i c) : w.cell? ⟨xS, 0, none⟩ = some (.int .i64 s) ∧ w.cell? ⟨xS, 1, none⟩ = some (.int .i64 i) ∧ w.cell? ⟨xC, 0, none⟩ = some (.int .i64 c.a) ∧ w.cell? ⟨xC, 1, none⟩ = some (.int .i64 c.b) ∧ w.cell? ⟨xC, 2, none⟩ = some (.int .i64 c.c) ∧ w.cell? ⟨xC, 3, none⟩ = some (.int .u64 c.d) ∧ w.cell? ⟨xC, 4, none⟩ = some (.int .i64 c.e) ∧ w.cell? ⟨xC, 5, none⟩ = some (.int .i64 c.f) ∧ w.cell? ⟨xC, 6, none⟩ = some (.int .i64 c.g) ∧ w.cell? ⟨xC, 7, none⟩ = some (.int .i64 c.h) :=
  ⟨cell_of_row _ _ 0 _ _ _ h.sb, cell_of_row _ _ 1 _ _ _ h.sb, cell_of_row _ _ 0 _ _ _ h.cb, cell_of_row _ _ 1 _ _ _ h.cb, cell_of_row _ _ 2 _ _ _ h.cb, cell_of_row _ _ 3 _ _ _ h.cb, cell_of_row _ _ 4 _ _ _ h.cb, cell_of_row _ _ 5 _ _ _ h.cb, cell_of_row _ _ 6 _ _ _ h.cb, cell_of_row _ _ 7 _ _ _ h.cb⟩
/-- A capability in a box. -/
theorem cap_cells {w : World} {k : Nat} {c : Cp} (h : w.heap[k]? = some (.cells c.L.toArray 34 (0, 0))) : w.cell? ⟨k, 0, none⟩ = some (.int .i64 c.a) ∧ w.cell? ⟨k, 1, none⟩ = some (.int .i64 c.b) ∧ w.cell? ⟨k, 2, none⟩ = some (.int .i64 c.c) ∧ w.cell? ⟨k, 3, none⟩ = some (.int .u64 c.d) ∧ w.cell? ⟨k, 4, none⟩ = some (.int .i64 c.e) ∧ w.cell? ⟨k, 5, none⟩ = some (.int .i64 c.f) ∧ w.cell? ⟨k, 6, none⟩ = some (.int .i64 c.g) ∧ w.cell? ⟨k, 7, none⟩ = some (.int .i64 c.h) :=
  ⟨cell_of_row _ _ 0 _ _ _ h, cell_of_row _ _ 1 _ _ _ h, cell_of_row _ _ 2 _ _ _ h, cell_of_row _ _ 3 _ _ _ h, cell_of_row _ _ 4 _ _ _ h, cell_of_row _ _ 5 _ _ _ h, cell_of_row _ _ 6 _ _ _ h, cell_of_row _ _ 7 _ _ _ h⟩
attribute [local go_sem] neCp
set_option maxRecDepth 100000 in
set_option maxHeartbeats 2000000 in
theorem own_any (q : Option Addr) (n cc : Nat) (D : Nat → ActC) (s i : Int) (c : Cp) (W : World) (hn : n ≤ 60) (hD : ActsAt W q n D) (hT : CX.TabG W) (hs : InS s) (hi : InS i) (he : InS c.e) :
    Calls Tryd.prog 4 #[.slice q n cc, .agg #[.int .i64 s, .int .i64 i], c.V] W fun e w' => e = .returned (.bool true) ∧ Below W.heap.size W w' := by
  have HD := Lib.hid hD
  have HT := Lib.hid hT
  have HSI := Lib.hid (And.intro hs (And.intro hi he))
  have hn' : ¬ (n : Int) > 60 := by omega
  clear hD hT hs hi he
  go_enter Tryd.func4, Tryd.ntmps4
  go_upto_region 3 with fail
  obtain ⟨w0, hw0⟩ : ∃ y, y = (W.alloc (.cells #[.int .i64 s, .int .i64 i] 31)).alloc (.cells #[.int .i64 c.a, .int .i64 c.b, .int .i64 c.c, .int .u64 c.d, .int .i64 c.e, .int .i64 c.f, .int .i64 c.g, .int .i64 c.h] 34) := ⟨_, rfl⟩
  rw [← hw0]
  have hB0 : Below W.heap.size W w0 := hw0 ▸ bal (bal (Below.refl _ _) _) _
  have hs0 : w0.heap.size = W.heap.size + 2 := by rw [hw0]; simp
  have hx0 : Bx w0 W.heap.size (W.heap.size + 1) s i c := by
    rw [hw0]
    refine ⟨(Below.heap_alloc _ _ _ (by simp)).trans (heap_alloc_new W _), ?_⟩
    have := heap_alloc_new (W.alloc (.cells #[.int .i64 s, .int .i64 i] 31)) (.cells c.L.toArray 34)
    rwa [show (W.alloc (.cells #[.int .i64 s, .int .i64 i] 31)).heap.size = W.heap.size + 1 by simp] at this
  have HS0 : Hid (∀ k, S2 W k → k < w0.heap.size) := Lib.hid (fun k hk => by rcases hk with rfl | rfl <;> omega)
  have HB0 := Lib.hid hB0
  have HX0 := Lib.hid hx0
  have e1 : S2 W W.heap.size := .inl rfl
  have e2 : S2 W (W.heap.size + 1) := .inr rfl
  have HE := Lib.hid (And.intro e1 e2)
  clear hw0 hB0 hs0 hx0 e1 e2
  go_upto_region 4 with (go_at_call 7; refine (snew_any' _).mono ?_; rintro e w1 ⟨rfl, ha1, hb1⟩; have H1 := Lib.hid (SlW.new (S := S2 W) HB0.out ha1 hb1 HS0.out); have X1 := Lib.hid (HX0.out.call hb1); clear ha1 hb1)
  generalize w0.heap.size = b at *
  have N0 : Hid (Nodes 0 []) := Lib.hid ⟨rfl, fun i x h => by simp at h⟩
  generalize ([] : List Sn) = L0 at H1 N0
  go_upto_region 6 with (first
    | (go_at_call 9; (with_reducible refine (H3.out.add3 N2.out).mono ?_); rintro e w4 ⟨rfl, L3, hn, hs, hk⟩; have H4 := Lib.hid hs; have N3 := Lib.hid hn; have X4 := Lib.hid (X3.out.same hk HE.out.1 HE.out.2); clear hn hs hk)
    | (go_at_call 9; (with_reducible refine (H2.out.add2 N1.out).mono ?_); rintro e w3 ⟨rfl, L2, hn, hs, hk⟩; have H3 := Lib.hid hs; have N2 := Lib.hid hn; have X3 := Lib.hid (X2.out.same hk HE.out.1 HE.out.2); clear hn hs hk)
    | (go_at_call 9; (with_reducible refine (H1.out.add1 N0.out).mono ?_); rintro e w2 ⟨rfl, L1, hn, hs, hk⟩; have H2 := Lib.hid hs; have N1 := Lib.hid hn; have X2 := Lib.hid (X1.out.same hk HE.out.1 HE.out.2); clear hn hs hk))
  have O4 : Hid (OwS W w4 b L3 s i c) := Lib.hid ⟨H4.out, N3.out, X4.out⟩
  clear H1 H2 H3 H4 N0 N1 N2 N3 X1 X2 X3 X4 HX0 HB0 HS0
  go_wp2
  go_loopw [8] (fun k wr => ∃ (t : Nat) (L : List Sn), t ≤ n ∧ k = .int .i64 t ∧ Hid (OwS W wr b L s i c)) (fun k _ => n - (intOf k).toNat)
  case atStart => exact ⟨0, L3, by omega, rfl, O4⟩
  case round =>
    obtain ⟨t, L, ht, rfl, HO⟩ := hrel
    clear O4
    by_cases hlt : t < n
    · have hltI : (t : Int) < n := by omega
      obtain ⟨aB, aO, hq, hcs⟩ := HD.out
      obtain ⟨rfl, hal⟩ := hq (by omega)
      obtain ⟨hrow, hok⟩ := hcs t hlt
      have hbl := HO.out.st.below
      have hcell : ∀ w', Below W.heap.size W w' → ∀ j v, (D t).cells[j]? = some v → w'.cell? ⟨aB, aO + t * 12 + j, none⟩ = some v := fun w' hb j v hj => (hb.cell (p := ⟨aB, _, none⟩) hal).trans (hrow j v hj)
      have HTW := Lib.hid (HT.out.call hbl)
      generalize D t = x at *
      obtain ⟨p, hp, hp3⟩ : ∃ p : Nat, lowI x.s 3 = p ∧ p < 3 := ⟨(lowI x.s 3).toNat, by have := lowI_0 x.s 3 (by decide); omega, by have := lowI_0 x.s 3 (by decide); have := lowI_1 x.s 3 (by decide); omega⟩
      obtain ⟨r, hr, hr4⟩ : ∃ p : Nat, lowI x.i 4 = p ∧ p < 4 := ⟨(lowI x.i 4).toNat, by have := lowI_0 x.i 4 (by decide); omega, by have := lowI_0 x.i 4 (by decide); have := lowI_1 x.i 4 (by decide); omega⟩
      have HAC : Hid (∀ w', Below W.heap.size W w' → w'.cell? ⟨aB, aO + t * 12 + 2, none⟩ = some (.int .i64 x.s) ∧ w'.cell? ⟨aB, aO + t * 12 + 3, none⟩ = some (.int .i64 x.i) ∧ w'.cell? ⟨aB, aO + t * 12 + 4, none⟩ = some (.int .i64 x.c.a) ∧ w'.cell? ⟨aB, aO + t * 12 + 5, none⟩ = some (.int .i64 x.c.b) ∧ w'.cell? ⟨aB, aO + t * 12 + 6, none⟩ = some (.int .i64 x.c.c) ∧ w'.cell? ⟨aB, aO + t * 12 + 7, none⟩ = some (.int .u64 x.c.d) ∧ w'.cell? ⟨aB, aO + t * 12 + 8, none⟩ = some (.int .i64 x.c.e) ∧ w'.cell? ⟨aB, aO + t * 12 + 9, none⟩ = some (.int .i64 x.c.f) ∧ w'.cell? ⟨aB, aO + t * 12 + 10, none⟩ = some (.int .i64 x.c.g) ∧ w'.cell? ⟨aB, aO + t * 12 + 11, none⟩ = some (.int .i64 x.c.h)) := Lib.hid (fun w' hb => ⟨hcell w' hb 2 _ rfl, hcell w' hb 3 _ rfl, hcell w' hb 4 _ rfl, hcell w' hb 5 _ rfl, hcell w' hb 6 _ rfl, hcell w' hb 7 _ rfl, hcell w' hb 8 _ rfl, hcell w' hb 9 _ rfl, hcell w' hb 10 _ rfl, hcell w' hb 11 _ rfl⟩)
      have HP := Lib.hid (fun v => hp ▸ low_any x.s 3 v hok.2.2.1 (by decide) (by decide))
      have HR := Lib.hid (fun v => hr ▸ low_any x.i 4 v hok.2.2.2.1 (by decide) (by decide))
      have HOK := Lib.hid hok
      have HAL := Lib.hid hal
      have hset : Calls Tryd.prog 15 #[.pointer (some ⟨b, 0, none⟩), .agg #[.int .i64 (1 + p), .int .i64 r], x.c.V] wr.drew fun e w' => e = .returned (.int .i64 (setSR x.c)) ∧ OwS W w' b (setSL L p r x.c) s i c := by
        have hbd : Below wr.heap.size wr wr.drew := (Below.refl _ _).drew
        refine (SlW.set (HO.out.st.call hbd) HO.out.three (HTW.out.call hbd) hp3 hr4 x.c hok.2.2.2.2.2).mono ?_
        rintro e w5 ⟨rfl, hs5, hk5⟩
        exact ⟨rfl, hs5, three_set HO.out.three p r x.c, (HO.out.bx.call hbd).same hk5 HE.out.1 HE.out.2⟩
      have HSET := Lib.hid hset
      have HWR := Lib.hid (show IntKind.i64.wrap (1 + (p : Int)) = 1 + p from IntWalk.i64_in _ (by omega))
      clear hq hcs hrow hok hbl hcell hp hr hal hset
      have HOd := Lib.hid (show Below W.heap.size W wr.drew from HO.out.st.below.drew)
      go_upto_region 9 with fail
      obtain ⟨c2, c3, c4, c5, c6, c7, c8, c9, c10, c11⟩ := HAC.out wr HO.out.st.below
      go_region_held3 (fun w' => w'.cell? ⟨aB, aO + t * 12 + 2, none⟩ = some (.int .i64 x.s) ∧ w'.cell? ⟨aB, aO + t * 12 + 3, none⟩ = some (.int .i64 x.i) ∧ w'.cell? ⟨aB, aO + t * 12 + 4, none⟩ = some (.int .i64 x.c.a) ∧ w'.cell? ⟨aB, aO + t * 12 + 5, none⟩ = some (.int .i64 x.c.b) ∧ w'.cell? ⟨aB, aO + t * 12 + 6, none⟩ = some (.int .i64 x.c.c) ∧ w'.cell? ⟨aB, aO + t * 12 + 7, none⟩ = some (.int .u64 x.c.d) ∧ w'.cell? ⟨aB, aO + t * 12 + 8, none⟩ = some (.int .i64 x.c.e) ∧ w'.cell? ⟨aB, aO + t * 12 + 9, none⟩ = some (.int .i64 x.c.f) ∧ w'.cell? ⟨aB, aO + t * 12 + 10, none⟩ = some (.int .i64 x.c.g) ∧ w'.cell? ⟨aB, aO + t * 12 + 11, none⟩ = some (.int .i64 x.c.h))
        (first | exact HAC.out _ H5.out.st.below | exact HAC.out _ HOd.out | exact HAC.out _ HO.out.st.below)
        (first
        | (go_at_call 23; (with_reducible refine (HP.out _).mono ?_); rintro e w3 ⟨rfl, rfl⟩)
        | (go_at_call 23; (with_reducible refine (HR.out _).mono ?_); rintro e w3 ⟨rfl, rfl⟩)
        | (go_at_call 15; (try rw [HWR.out]); (with_reducible refine HSET.out.mono ?_); rintro e w5 ⟨rfl, hs5⟩; have H5 := Lib.hid hs5; clear hs5))
      all_goals
        go_wp2
        go_roundw
        case rel => exact ⟨t + 1, _, by omega, by go_num, H5⟩
        case measure => first | (simp [intOf]; done) | (simp [intOf]; omega)
    · obtain rfl : t = n := by omega
      obtain ⟨p, hp, hp3⟩ : ∃ p : Nat, lowI s 3 = p ∧ p < 3 := ⟨(lowI s 3).toNat, by have := lowI_0 s 3 (by decide); omega, by have := lowI_0 s 3 (by decide); have := lowI_1 s 3 (by decide); omega⟩
      obtain ⟨r, hr, hr4⟩ : ∃ p : Nat, lowI i 4 = p ∧ p < 4 := ⟨(lowI i 4).toNat, by have := lowI_0 i 4 (by decide); omega, by have := lowI_0 i 4 (by decide); have := lowI_1 i 4 (by decide); omega⟩
      have HP := Lib.hid (fun v => hp ▸ low_any s 3 v HSI.out.1 (by decide) (by decide))
      have HR := Lib.hid (fun v => hr ▸ low_any i 4 v HSI.out.2.1 (by decide) (by decide))
      have HWR := Lib.hid (show IntKind.i64.wrap (1 + (p : Int)) = 1 + p from IntWalk.i64_in _ (by omega))
      have x0 : wr.cell? ⟨W.heap.size, 0, none⟩ = some (.int .i64 s) := cell_of_row _ _ 0 _ _ _ HO.out.bx.sb
      have x1 : wr.cell? ⟨W.heap.size, 1, none⟩ = some (.int .i64 i) := cell_of_row _ _ 1 _ _ _ HO.out.bx.sb
      have f0 : wr.frozen? ⟨W.heap.size, 0, none⟩ = false := by simp [World.frozen?, HO.out.bx.sb]
      have f1 : wr.frozen? ⟨W.heap.size, 1, none⟩ = false := by simp [World.frozen?, HO.out.bx.sb]
      have hwr : IntKind.i64.wrap (1 + (p : Int)) = 1 + p := HWR.out
      clear hp hr HD
      go_upto_region 10 with fail
      go_region_with (first
        | (go_at_call 23; (with_reducible refine (HP.out _).mono ?_); rintro e w3 ⟨rfl, rfl⟩)
        | (go_at_call 23; (with_reducible refine (HR.out _).mono ?_); rintro e w3 ⟨rfl, rfl⟩))
      all_goals
        obtain ⟨w6, hw6⟩ : ∃ y, y = ((wr.setCell ⟨W.heap.size, 0, none⟩ (.int .i64 (1 + (p : Int)))).setCell ⟨W.heap.size, 1, none⟩ (.int .i64 (r : Int))).drew := ⟨_, rfl⟩
        rw [← hw6]
        have O6 : Hid (OwS W w6 b L (1 + (p : Int)) r c) := Lib.hid (by rw [hw6]; exact HO.out.turn)
        clear hw6 x0 x1 f0 f1 HO
        have HL3 := Lib.hid (show L.length < 1000000 by have := O6.out.three.1; omega)
        go_upto_region 12 with (go_at_call 19; (with_reducible refine (SlW.used O6.out.st HL3.out).mono ?_); rintro e w7 ⟨rv, rfl, hrow, hb7⟩; have HROW := Lib.hid hrow; have HB7 := Lib.hid hb7; clear hrow hb7)
        obtain ⟨ra, rc, rfl, hrc, g, hg, hat⟩ := hds_of HROW.out
        have h48 : (heldA L).length ≤ 48 := by have := O6.out.st.hlen; have := O6.out.three.1; omega
        have O7 : Hid (OwL W w7 b w6.heap.size w7.heap.size g L (heldA L) (1 + (p : Int)) r c) := Lib.hid ⟨O6.out.st.beside HB7.out, O6.out.bx.call HB7.out, hat, fun hl => .inr ⟨(hg 0 hl).2.1, (hg 0 hl).2.2⟩⟩
        have HG : Hid (∀ t, t < (heldA L).length → ra = some ⟨g, 0, none⟩) := Lib.hid (fun t ht => (hg t ht).1)
        have HKP : Hid (∀ h ∈ heldA L, ∃ (q : Nat) (c2 : Cp), h.n = q + 1 ∧ getC (setSL L p r c) q h.i = some c2 ∧ (¬ (h.n = 1 + (p : Int) ∧ h.i = r) → c2 = h.c) ∧ q < 3 ∧ h.i < 4) := Lib.hid (fun h hh => own_keep O6.out.three hp3 hr4 c hh)
        obtain ⟨c', hc', hcc⟩ := own_get O6.out.three hp3 hr4 c
        have H3' := Lib.hid (three_set O6.out.three p r c)
        have hway : (mayC c = true ∧ setSR c = 0 ∧ c = c') ∨ (mayC c = false ∧ setSR c = 5) := by
          cases hm : mayC c with
          | true => exact .inl ⟨rfl, by simp [setSR, hm], (hcc hm).symm⟩
          | false => exact .inr ⟨rfl, by simp [setSR, hm]⟩
        have HMAY : Hid (∀ v, Below W.heap.size W v → Calls Tryd.prog 24 #[c.V] v fun e w' => e = .returned (.bool (mayC c)) ∧ Below v.heap.size v w') := Lib.hid (fun v hv => CX.capMay c.a c.b c.c c.d c.e c.f c.g c.h v (HT.out.call hv) HSI.out.2.2.2)
        have HSET : Hid (Calls Tryd.prog 15 #[.pointer (some ⟨b, 0, none⟩), .agg #[.int .i64 (1 + p), .int .i64 r], c.V] w7 fun e w' => e = .returned (.int .i64 (setSR c)) ∧ OwL W w' b w6.heap.size w7.heap.size g (setSL L p r c) (heldA L) (1 + (p : Int)) r c) := Lib.hid (by
          refine (SlW.set O7.out.st O6.out.three (HT.out.call O7.out.st.below) hp3 hr4 c HSI.out.2.2.2).mono ?_
          rintro e w8 ⟨rfl, hs, hk⟩
          exact ⟨rfl, hs, O7.out.bx.same hk (.inl (.inl rfl)) (.inl (.inr rfl)), O7.out.row.kept (fun hl => hk _ (O7.out.gl hl)), O7.out.gl⟩)
        have HC := Lib.hid hc'
        obtain ⟨s0, s1, k0, k1, k2, k3, k4, k5, k6, k7⟩ := O7.out.bx.cells
        generalize setSL L p r c = L' at *
        generalize heldA L = H at *
        generalize setSR c = er at *
        generalize w6.heap.size = lo at *
        generalize w7.heap.size = hi at *
        clear hc' hcc hat hg HROW O6 HL3 HB7 O7 hrc
        go_upto_region 13 with (go_at_call 15; (with_reducible refine HSET.out.mono ?_); rintro e w8 ⟨rfl, hs8⟩; have O8 := Lib.hid hs8; clear hs8)
        clear s0 s1 k0 k1 k2 k3 k4 k5 k6 k7 HSET
        obtain ⟨s0, s1, k0, k1, k2, k3, k4, k5, k6, k7⟩ := O8.out.bx.cells
        have HGET : Hid (Calls Tryd.prog 13 #[.pointer (some ⟨b, 0, none⟩), .agg #[.int .i64 (1 + p), .int .i64 r]] w8 fun e w' => e = .returned (.tuple #[c'.V, .int .i64 0]) ∧ Below w8.heap.size w8 w') := Lib.hid (SlW.get O8.out.st H3'.out HC.out _ (by omega))
        go_upto_region 14 with (go_at_call 13; (with_reducible refine HGET.out.mono ?_); rintro e w9 ⟨rfl, hb9⟩; have O9 := Lib.hid (O8.out.call hb9); clear hb9)
        clear s0 s1 k0 k1 k2 k3 k4 k5 k6 k7
        obtain ⟨w10, hw10⟩ : ∃ y, y = w9.alloc (.cells #[.int .i64 c'.a, .int .i64 c'.b, .int .i64 c'.c, .int .u64 c'.d, .int .i64 c'.e, .int .i64 c'.f, .int .i64 c'.g, .int .i64 c'.h] 34) := ⟨_, rfl⟩
        rw [← hw10]
        have hbd : w10.heap[w9.heap.size]? = some (.cells c'.L.toArray 34 (0, 0)) := by rw [hw10]; exact heap_alloc_new w9 _
        have O10 := Lib.hid (O9.out.call (show Below w9.heap.size w9 w10 by rw [hw10]; exact bal (Below.refl _ _) _))
        have HBD := Lib.hid hbd
        obtain ⟨d0, d1, d2, d3, d4, d5, d6, d7⟩ := cap_cells hbd
        obtain ⟨s0, s1, k0, k1, k2, k3, k4, k5, k6, k7⟩ := O10.out.bx.cells
        generalize w9.heap.size = dB at *
        clear hw10 hbd O9 O8 HGET
        have hdl : dB < w10.heap.size := (Array.getElem?_eq_some_iff.1 HBD.out).1
        have h48I : (H.length : Int) ≤ 48 := by omega
        rcases hway with ⟨hm, rfl, rfl⟩ | ⟨hm, rfl⟩
        all_goals
          have hmay := HMAY.out
          rw [hm] at hmay
          have HM2 := Lib.hid hmay
          clear hmay HMAY hm
          go_wp2_with (go_at_call 24; (with_reducible refine (HM2.out _ O10.out.st.below).mono ?_); rintro e w11 ⟨rfl, hb11⟩; have O11 := Lib.hid (O10.out.call hb11); have BD := (hb11.block dB hdl).trans HBD.out; clear s0 s1 k0 k1 k2 k3 k4 k5 k6 k7 d0 d1 d2 d3 d4 d5 d6 d7 hb11; obtain ⟨d0, d1, d2, d3, d4, d5, d6, d7⟩ := cap_cells BD; obtain ⟨s0, s1, k0, k1, k2, k3, k4, k5, k6, k7⟩ := O11.out.bx.cells; clear BD)
          clear s0 s1 k0 k1 k2 k3 k4 k5 k6 k7 d0 d1 d2 d3 d4 d5 d6 d7 HBD hdl HM2 O10
          go_loopw [13, 14, 15] (fun k x e wr => ∃ t : Nat, t ≤ H.length ∧ k = .int .i64 t ∧ Hid (OwL W wr b lo hi g L' H (1 + (p : Int)) r c)) (fun k x e _ => H.length - (intOf k).toNat)
          case atStart => exact ⟨0, by omega, rfl, O11⟩
          case round =>
            obtain ⟨u, hu, rfl, HO⟩ := hrel
            clear O11
            by_cases hlt2 : u < H.length
            · have hltI : (u : Int) < H.length := by omega
              obtain ⟨hd, hh⟩ : ∃ y, H[u]? = some y := ⟨H[u]'hlt2, List.getElem?_eq_getElem hlt2⟩
              obtain ⟨qq, c2, hn, hgc, hne, hq3, hi4⟩ := HKP.out hd (List.mem_of_getElem? hh)
              have HROW : Hid (∀ v, OwL W v b lo hi g L' H (1 + (p : Int)) r c → v.rangeAt g (u * 10) hd.L) := Lib.hid (fun v hv => hv.row u hd hh)
              have hgl := HO.out.st.lt (HO.out.gl (by omega))
              obtain rfl := HG.out u hlt2
              have HGT := Lib.hid (SlW.get HO.out.st H3'.out hgc hd.n hn)
              obtain ⟨hdn, hdi, hdc⟩ := hd
              simp only [] at HGT hne
              have hrow := HROW.out wr HO.out
              have z0 := hrow 0 _ rfl
              rw [Nat.add_zero] at z0
              have z1 := hrow 1 _ rfl
              simp only [] at z0 z1
              have HNE := Lib.hid hne
              clear hn hgc hne hrow hh
              go_upto_region 20 with (go_at_call 13; (with_reducible refine HGT.out.mono ?_); rintro e w12 ⟨rfl, hb12⟩; have O12 := Lib.hid (HO.out.call hb12); clear hb12)
              obtain ⟨w13, hw13⟩ : ∃ y, y = w12.alloc (.cells #[.int .i64 c2.a, .int .i64 c2.b, .int .i64 c2.c, .int .u64 c2.d, .int .i64 c2.e, .int .i64 c2.f, .int .i64 c2.g, .int .i64 c2.h] 34) := ⟨_, rfl⟩
              rw [← hw13]
              have hbd : w13.heap[w12.heap.size]? = some (.cells c2.L.toArray 34 (0, 0)) := by rw [hw13]; exact heap_alloc_new w12 _
              have O13 := Lib.hid (O12.out.call (show Below w12.heap.size w12 w13 by rw [hw13]; exact bal (Below.refl _ _) _))
              obtain ⟨d0, d1, d2, d3, d4, d5, d6, d7⟩ := cap_cells hbd
              obtain ⟨s0, s1, -⟩ := O13.out.bx.cells
              have hrow := HROW.out w13 O13.out
              clear z0 z1
              have z0 := hrow 0 _ rfl
              rw [Nat.add_zero] at z0
              have z1 := hrow 1 _ rfl
              have z2 := hrow 2 _ rfl
              have z3 := hrow 3 _ rfl
              have z4 := hrow 4 _ rfl
              have z5 := hrow 5 _ rfl
              have z6 := hrow 6 _ rfl
              have z7 := hrow 7 _ rfl
              have z8 := hrow 8 _ rfl
              have z9 := hrow 9 _ rfl
              simp only [] at z0 z1 z2 z3 z4 z5 z6 z7 z8 z9
              generalize w12.heap.size = eB at *
              clear hw13 hbd O12 HGT HO hrow HROW
              by_cases same : hdn = 1 + (p : Int) ∧ hdi = r
              · obtain ⟨e1, e2⟩ := same
                subst e1
                subst e2
                have hne2 : ∀ v, (binOp .neq 31 (.agg #[.int .i64 (1 + (p : Int)), .int .i64 (hdi : Int)]) (.agg #[.int .i64 (1 + (p : Int)), .int .i64 (hdi : Int)])).run Tryd.prog v = .ok (.bool false) v := fun v => by rw [neSl]; simp
                go_quiet (fail)
                go_wp2
                go_roundw
                case rel => exact ⟨u + 1, by omega, by go_num, Lib.hid (O13.out.call (below_drewN (Below.refl _ _) _))⟩
                case measure => first | (simp [intOf]; done) | (simp [intOf]; omega)
              · have hb : (hdn == 1 + (p : Int) && (hdi : Int) == (r : Int)) = false := by
                  rw [Bool.eq_false_iff]
                  intro h
                  rw [Bool.and_eq_true, beq_iff_eq, beq_iff_eq] at h
                  exact same ⟨h.1, by omega⟩
                have hne2 : ∀ v, (binOp .neq 31 (.agg #[.int .i64 hdn, .int .i64 (hdi : Int)]) (.agg #[.int .i64 (1 + (p : Int)), .int .i64 (r : Int)])).run Tryd.prog v = .ok (.bool true) v := fun v => by rw [neSl, hb]; rfl
                obtain rfl := HNE.out same
                clear hb same
                go_quiet (fail)
                go_wp2
                go_roundw
                case rel => exact ⟨u + 1, by omega, by go_num, Lib.hid (O13.out.call (below_drewN (Below.refl _ _) _))⟩
                case measure => first | (simp [intOf]; done) | (simp [intOf]; omega)
            · obtain rfl : u = H.length := by omega
              go_wp2_with (go_at_call 6; (with_reducible refine (SX.awake15 _).mono ?_); rintro e w12 ⟨rfl, hb12⟩)
              go_ret
              exact ⟨rfl, bgo HO.out.st.below hb12⟩
end TabS
end Go.Proofs.YtplanbihejodoaaDoor
