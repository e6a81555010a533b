import Derived.Test.YtekllgejmgoajaaDoorPkat
import Derived.Deep.RegionLaw
import Derived.Deep.QuietTactic
import Derived.BigQuiet
namespace Go.Proofs.YtekllgejmgoajaaDoor
set_option linter.unusedVariables false
set_option linter.unusedSimpArgs false
set_option maxRecDepth 100000
set_option maxHeartbeats 8000000
open Lib (hid)
section
open Go.ChangeShapes Go.WideShapes Go.ChangeAt Go.RowKit
theorem insert_wA (w : World) (b p m : Nat) (o i : Int) (u1 u3 u4 d : Value) (Q : World → Prop) (n0 : b ≠ p) (n1 : p ≠ b) (c0 : w.cell? ⟨b, 0, none⟩ = some (.pointer none)) (c1 : w.cell? ⟨b, 1, none⟩ = some u1) (c2 : w.cell? ⟨b, 2, none⟩ = some (.map (some m))) (cz : ∀ k, w.frozen? ⟨b, k, none⟩ = false)
  (p0 : w.cell? ⟨p, 0, none⟩ = some (.int .i64 o)) (p1 : w.cell? ⟨p, 1, none⟩ = some (.int .i64 i)) (p2 : w.cell? ⟨p, 2, none⟩ = some d) (p3 : w.cell? ⟨p, 3, none⟩ = some u3) (p4 : w.cell? ⟨p, 4, none⟩ = some u4) (pz : ∀ k, w.frozen? ⟨p, k, none⟩ = false)
  (hQ : ∃ W', (Instr.mapUpdate 72 (.map (some m)) (slV o i) (.pointer (some ⟨p, 0, none⟩))).run Tryd.prog (insW w p ⟨b, 0, none⟩ ⟨b, 1, none⟩ (.pointer none) (.pointer none)).drew = .ok () W' ∧ Q W') :
  Calls Tryd.prog 49 #[.pointer (some ⟨b, 0, none⟩), .pointer (some ⟨p, 0, none⟩), .pointer none] w fun e w' => (∃ v, e = .returned v) ∧ Q w' := by
 obtain ⟨W', hr, hQ⟩ := hQ
 unfold insW at hr
 have HQ := hid hQ
 clear hQ
 go_enter Tryd.func49, Tryd.ntmps49
 go_upto_region 7 with fail
 go_region
 all_goals
  go_wp2
  go_end0
  exact ⟨⟨_, rfl⟩, HQ.out⟩
theorem insert_wB (w : World) (b p m : Nat) (o i : Int) (r : Nat) (u1 u3 u4 d : Value) (Q : World → Prop) (n0 : b ≠ p) (n1 : p ≠ b) (n2 : r ≠ p) (n3 : p ≠ r) (n4 : r ≠ b) (n5 : b ≠ r) (c0 : w.cell? ⟨b, 0, none⟩ = some (.pointer (some ⟨r, 0, none⟩))) (c1 : w.cell? ⟨b, 1, none⟩ = some u1) (c2 : w.cell? ⟨b, 2, none⟩ = some (.map (some m))) (cz : ∀ k, w.frozen? ⟨b, k, none⟩ = false)
  (p0 : w.cell? ⟨p, 0, none⟩ = some (.int .i64 o)) (p1 : w.cell? ⟨p, 1, none⟩ = some (.int .i64 i)) (p2 : w.cell? ⟨p, 2, none⟩ = some d) (p3 : w.cell? ⟨p, 3, none⟩ = some u3) (p4 : w.cell? ⟨p, 4, none⟩ = some u4) (pz : ∀ k, w.frozen? ⟨p, k, none⟩ = false)
  (v3 : Value) (r3 : w.cell? ⟨r, 3, none⟩ = some v3) (rz : ∀ k, w.frozen? ⟨r, k, none⟩ = false)
  (hQ : ∃ W', (Instr.mapUpdate 72 (.map (some m)) (slV o i) (.pointer (some ⟨p, 0, none⟩))).run Tryd.prog (insW w p ⟨b, 0, none⟩ ⟨r, 3, none⟩ (.pointer none) (.pointer (some ⟨r, 0, none⟩))).drew = .ok () W' ∧ Q W') :
  Calls Tryd.prog 49 #[.pointer (some ⟨b, 0, none⟩), .pointer (some ⟨p, 0, none⟩), .pointer none] w fun e w' => (∃ v, e = .returned v) ∧ Q w' := by
 obtain ⟨W', hr, hQ⟩ := hQ
 unfold insW at hr
 have HQ := hid hQ
 clear hQ
 go_enter Tryd.func49, Tryd.ntmps49
 go_upto_region 7 with fail
 go_region
 all_goals
  go_wp2
  go_end0
  exact ⟨⟨_, rfl⟩, HQ.out⟩
theorem insert_wC (w : World) (b p m : Nat) (o i : Int) (s : Nat) (u0 u1 u3 u4 d : Value) (Q : World → Prop) (n0 : b ≠ p) (n1 : p ≠ b) (n2 : s ≠ p) (n3 : p ≠ s) (n4 : s ≠ b) (n5 : b ≠ s) (c0 : w.cell? ⟨b, 0, none⟩ = some (u0)) (c1 : w.cell? ⟨b, 1, none⟩ = some u1) (c2 : w.cell? ⟨b, 2, none⟩ = some (.map (some m))) (cz : ∀ k, w.frozen? ⟨b, k, none⟩ = false)
  (p0 : w.cell? ⟨p, 0, none⟩ = some (.int .i64 o)) (p1 : w.cell? ⟨p, 1, none⟩ = some (.int .i64 i)) (p2 : w.cell? ⟨p, 2, none⟩ = some d) (p3 : w.cell? ⟨p, 3, none⟩ = some u3) (p4 : w.cell? ⟨p, 4, none⟩ = some u4) (pz : ∀ k, w.frozen? ⟨p, k, none⟩ = false)
  (s4 : w.cell? ⟨s, 4, none⟩ = some (.pointer none)) (sz : ∀ k, w.frozen? ⟨s, k, none⟩ = false)
  (hQ : ∃ W', (Instr.mapUpdate 72 (.map (some m)) (slV o i) (.pointer (some ⟨p, 0, none⟩))).run Tryd.prog (insW w p ⟨s, 4, none⟩ ⟨b, 1, none⟩ (.pointer (some ⟨s, 0, none⟩)) (.pointer none)).drew = .ok () W' ∧ Q W') :
  Calls Tryd.prog 49 #[.pointer (some ⟨b, 0, none⟩), .pointer (some ⟨p, 0, none⟩), .pointer (some ⟨s, 0, none⟩)] w fun e w' => (∃ v, e = .returned v) ∧ Q w' := by
 obtain ⟨W', hr, hQ⟩ := hQ
 unfold insW at hr
 have HQ := hid hQ
 clear hQ
 go_enter Tryd.func49, Tryd.ntmps49
 go_upto_region 7 with fail
 go_region
 all_goals
  go_wp2
  go_end0
  exact ⟨⟨_, rfl⟩, HQ.out⟩
theorem insert_wD (w : World) (b p m : Nat) (o i : Int) (s : Nat) (r : Nat) (u0 u1 u3 u4 d : Value) (Q : World → Prop) (n0 : b ≠ p) (n1 : p ≠ b) (n2 : s ≠ p) (n3 : p ≠ s) (n4 : s ≠ b) (n5 : b ≠ s) (n6 : r ≠ p) (n7 : p ≠ r) (n8 : r ≠ b) (n9 : b ≠ r) (n10 : s ≠ r) (n11 : r ≠ s) (c0 : w.cell? ⟨b, 0, none⟩ = some (u0)) (c1 : w.cell? ⟨b, 1, none⟩ = some u1) (c2 : w.cell? ⟨b, 2, none⟩ = some (.map (some m))) (cz : ∀ k, w.frozen? ⟨b, k, none⟩ = false)
  (p0 : w.cell? ⟨p, 0, none⟩ = some (.int .i64 o)) (p1 : w.cell? ⟨p, 1, none⟩ = some (.int .i64 i)) (p2 : w.cell? ⟨p, 2, none⟩ = some d) (p3 : w.cell? ⟨p, 3, none⟩ = some u3) (p4 : w.cell? ⟨p, 4, none⟩ = some u4) (pz : ∀ k, w.frozen? ⟨p, k, none⟩ = false)
  (s4 : w.cell? ⟨s, 4, none⟩ = some (.pointer (some ⟨r, 0, none⟩))) (sz : ∀ k, w.frozen? ⟨s, k, none⟩ = false)
  (v3 : Value) (r3 : w.cell? ⟨r, 3, none⟩ = some v3) (rz : ∀ k, w.frozen? ⟨r, k, none⟩ = false)
  (hQ : ∃ W', (Instr.mapUpdate 72 (.map (some m)) (slV o i) (.pointer (some ⟨p, 0, none⟩))).run Tryd.prog (insW w p ⟨s, 4, none⟩ ⟨r, 3, none⟩ (.pointer (some ⟨s, 0, none⟩)) (.pointer (some ⟨r, 0, none⟩))).drew = .ok () W' ∧ Q W') :
  Calls Tryd.prog 49 #[.pointer (some ⟨b, 0, none⟩), .pointer (some ⟨p, 0, none⟩), .pointer (some ⟨s, 0, none⟩)] w fun e w' => (∃ v, e = .returned v) ∧ Q w' := by
 obtain ⟨W', hr, hQ⟩ := hQ
 unfold insW at hr
 have HQ := hid hQ
 clear hQ
 go_enter Tryd.func49, Tryd.ntmps49
 go_upto_region 7 with fail
 go_region
 all_goals
  go_wp2
  go_end0
  exact ⟨⟨_, rfl⟩, HQ.out⟩
theorem get_len {α β : Type} {a : List α} {c : List β} (h : a.length = c.length) {k : Nat} {x : α} (hk : a[k]? = some x) : ∃ y, c[k]? = some y := by
 have hl : k < a.length := (lgs hk).1
 exact ⟨c[k]'(h ▸ hl), List.getElem?_eq_getElem _⟩
theorem ins_end {w : World} {B b m n : Nat} {ps : List Nat} {l : List Nod} {f : Int → Int → Option Nat} {p q : Nat} {x : Nod} {A C : Addr} {v1 v2 : Value} (h : TreeAt w B b m n ps l f) (hq : q ≤ ps.length) (hp : w.heap[p]? = some (placeO x none none)) (hpn : ∀ k : Nat, ps[k]? ≠ some p) (hB : B ≤ p)
  (hx : InS x.o ∧ InS x.i ∧ 0 ≤ x.d ∧ x.d ≤ (n + 1 : Nat)) (hf : f x.o x.i = none) (hn : n < maxLen)
  (h1 : v1 = ptrV (prv ps q)) (h2 : v2 = ptrV ps[q]?) (hA : foot b m ps A.block) (hC : foot b m ps C.block) (hAp : p ≠ A.block) (hCp : p ≠ C.block) (hAm : m ≠ A.block) (hCm : m ≠ C.block)
  (hb : (insW w p A C v1 v2).heap[b]? = some (treeO (if q = 0 then some p else ps[0]?) (if q = ps.length then some p else prv ps ps.length) m))
  (hpv : ∀ (k r : Nat) (y : Nod), q = k + 1 → ps[k]? = some r → l[k]? = some y → (insW w p A C v1 v2).heap[r]? = some (placeO y (prv ps k) (some p)))
  (hnx : ∀ (r : Nat) (y : Nod), ps[q]? = some r → l[q]? = some y → (insW w p A C v1 v2).heap[r]? = some (placeO y (some p) ps[q + 1]?))
  (hot : ∀ k r : Nat, ps[k]? = some r → k ≠ q → k + 1 ≠ q → r ≠ A.block ∧ r ≠ C.block) :
  ∃ W', (Instr.mapUpdate 72 (.map (some m)) (slV x.o x.i) (.pointer (some ⟨p, 0, none⟩))).run Tryd.prog (insW w p A C v1 v2).drew = .ok () W' ∧ InsPost w W' B b m n ps l f p q x := by
 have hmp := map_place hp h.map
 obtain ⟨W, hW⟩ : ∃ W, W = insW w p A C v1 v2 := ⟨_, rfl⟩
 have hpW : W.heap[p]? = some (placeO x (prv ps q) ps[q]?) := by
  rw [hW, h1, h2]; exact insW_p hp hAp hCp
 have hmm : W.heap[m]? = w.heap[m]? := by rw [hW]; exact insW_other hmp hAm hCm
 have hoth : ∀ r, r ≠ p → r ≠ A.block → r ≠ C.block → W.heap[r]? = w.heap[r]? := fun r a b c => by rw [hW]; exact insW_other a b c
 have hWq : W = insW w p A C (ptrV (prv ps q)) (ptrV ps[q]?) := by rw [hW, h1, h2]
 rw [← hW] at hb hpv hnx ⊢
 clear hW h1 h2
 have hmW : MapS W.drew m n f := h.map.of_block hmm
 obtain ⟨W', hr, hm', ht⟩ := hmW.put hn hx.1 hx.2.1 p
 have hk := fun k (e : k ≠ m) => turned_block ht e
 have hbm := map_head h.head h.map
 have hne : ∀ (k r : Nat), ps[k]? = some r → r ≠ m := by
  intro k r hr9 e9
  obtain ⟨y, hy⟩ := get_len h.len hr9
  exact map_place (h.row k r y hr9 hy) h.map e9.symm
 rw [ptrV_some] at hr
 have hlast : ∀ hT, InsPost w W' B b m n ps l f p q x := ins_post (w := w) (W := W) (ps := ps) (q := q) (p := p) (A := A) (C := C) hWq ht hA hC
 refine ⟨W', hr, hlast (ins_tree h hq hpn hB hx hf ?_ ?_ ?_ ?_ ?_ hm')⟩
 ·exact (hk p (fun e => hmp e.symm)).trans hpW
 ·exact (hk b (fun e => hbm e.symm)).trans hb
 ·intro k r y e hr hy
  exact (hk r (hne k r hr)).trans (hpv k r y e hr hy)
 ·intro r y hr hy
  exact (hk r (hne q r hr)).trans (hnx r y hr hy)
 ·intro k r hr e1 e2
  have := hot k r hr e1 e2
  exact (hk r (hne k r hr)).trans (hoth r (fun e => hpn k (e ▸ hr)) this.1 this.2)
theorem insert_any (w : World) (B b m n : Nat) (ps : List Nat) (l : List Nod) (f : Int → Int → Option Nat) (p q : Nat) (x : Nod) (h : TreeAt w B b m n ps l f) (hq : q ≤ ps.length) (hp : w.heap[p]? = some (placeO x none none)) (hpn : ∀ k : Nat, ps[k]? ≠ some p) (hB : B ≤ p)
  (hx : InS x.o ∧ InS x.i ∧ 0 ≤ x.d ∧ x.d ≤ (n + 1 : Nat)) (hf : f x.o x.i = none) (hn : n < maxLen) :
  Calls Tryd.prog 49 #[.pointer (some ⟨b, 0, none⟩), .pointer (some ⟨p, 0, none⟩), ptrV (prv ps q)] w fun e w' => (∃ v, e = .returned v) ∧ InsPost w w' B b m n ps l f p q x := by
 have hbp := head_place h.head hp
 have hmp := map_place hp h.map
 have hmb := map_head h.head h.map
 obtain ⟨c0, c1, c2, cz⟩ := head_cells h.head
 obtain ⟨p0, p1, p2, p3, p4, pz⟩ := place_cells hp
 have hrow := h.row
 have hl := h.len
 rcases Nat.eq_zero_or_pos q with rfl | hq0
 ·cases hn0 : ps[0]? with
  | none =>
   have hps : ps = [] := by
    cases ps with
    | nil => rfl
    | cons a t => simp at hn0
   subst hps
   rw [hn0] at c0
   refine insert_wA w b p m x.o x.i _ _ _ _ _ hbp hbp.symm c0 c1 c2 cz p0 p1 p2 p3 p4 pz (ins_end h hq hp hpn hB hx hf hn rfl (by rw [hn0]; rfl) (.inl rfl) (.inl rfl) hbp.symm hbp.symm hmb hmb ?_ ?_ ?_ ?_)
   ·exact insW_AC h.head hbp
   ·intro k r y e; omega
   ·intro r y hr; rw [hn0] at hr; cases hr
   ·intro k r hr; simp at hr
  | some r =>
   obtain ⟨y, hy⟩ := get_len hl hn0
   have hr := hrow 0 r y hn0 hy
   obtain ⟨r0, r1, r2, r3, r4, rz⟩ := place_cells hr
   have hbr := head_place h.head hr
   have hmr := map_place hr h.map
   have hrp : r ≠ p := fun e => hpn 0 (e ▸ hn0)
   have hlen : 0 < ps.length := (lgs hn0).1
   rw [hn0] at c0
   refine insert_wB w b p m x.o x.i r _ _ _ _ _ hbp hbp.symm hrp hrp.symm hbr.symm hbr c0 c1 c2 cz p0 p1 p2 p3 p4 pz _ r3 rz (ins_end h hq hp hpn hB hx hf hn rfl (by rw [hn0]; rfl) (.inl rfl) (foot_at hn0) hbp.symm hrp.symm hmb hmr ?_ ?_ ?_ ?_)
   ·rw [insW_A h.head hbp hbr, if_pos rfl, if_neg (by omega)]
    rfl
   ·intro k r y e; omega
   ·intro r' y' hr' hy'
    rw [hn0] at hr'
    cases hr'
    rw [hy] at hy'
    cases hy'
    rw [insW_C hr hrp hbr.symm]
    rfl
   ·intro k r' hr' e1 _
    refine ⟨?_, ?_⟩
    ·rintro rfl
     obtain ⟨y', hy'⟩ := get_len hl hr'
     exact head_place h.head (hrow k _ y' hr' hy') rfl
    ·rintro rfl
     exact e1 (h.inj _ _ _ hr' hn0)
 ·obtain ⟨k, rfl⟩ : ∃ k, q = k + 1 := ⟨q - 1, by omega⟩
  obtain ⟨s, hs⟩ : ∃ s, ps[k]? = some s := ⟨ps[k]'(by omega), List.getElem?_eq_getElem _⟩
  obtain ⟨y, hy⟩ := get_len hl hs
  have hsr := hrow k s y hs hy
  obtain ⟨s0, s1, s2, s3, s4, sz⟩ := place_cells hsr
  have hbs := head_place h.head hsr
  have hms := map_place hsr h.map
  have hsp : s ≠ p := fun e => hpn k (e ▸ hs)
  have hpr : prv ps (k + 1) = some s := hs
  rw [hpr]
  have hnb : ∀ (j r : Nat), ps[j]? = some r → r ≠ b := by
   rintro j r hr rfl
   obtain ⟨y', hy'⟩ := get_len hl hr
   exact head_place h.head (hrow j _ y' hr hy') rfl
  cases hnx : ps[k + 1]? with
  | none =>
   have hlen : k + 1 = ps.length := by
    have := List.getElem?_eq_none_iff.1 hnx
    omega
   rw [hnx] at s4
   refine insert_wC w b p m x.o x.i s _ _ _ _ _ _ hbp hbp.symm hsp hsp.symm hbs.symm hbs c0 c1 c2 cz p0 p1 p2 p3 p4 pz s4 sz (ins_end h hq hp hpn hB hx hf hn (by rw [hpr]; rfl) (by rw [hnx]; rfl) (foot_at hs) (.inl rfl) hsp.symm hbp.symm hms hmb ?_ ?_ ?_ ?_)
   ·rw [insW_C h.head hbp hbs, if_neg (by omega), if_pos hlen]
    rfl
   ·intro j r' y' e hr' hy'
    obtain rfl : k = j := by omega
    rw [hs] at hr'
    cases hr'
    rw [hy] at hy'
    cases hy'
    rw [insW_A hsr hsp hbs.symm]
    rfl
   ·intro r y hr; rw [hnx] at hr; cases hr
   ·intro j r' hr' e1 e2
    exact ⟨by rintro rfl; exact e2 (by rw [h.inj _ _ _ hr' hs]), hnb j r' hr'⟩
  | some r =>
   obtain ⟨z, hz⟩ := get_len hl hnx
   have hr := hrow _ r z hnx hz
   obtain ⟨r0, r1, r2, r3, r4, rz⟩ := place_cells hr
   have hbr := head_place h.head hr
   have hmr := map_place hr h.map
   have hrp : r ≠ p := fun e => hpn _ (e ▸ hnx)
   have hrs : r ≠ s := by
    rintro rfl
    have := h.inj _ _ _ hnx hs
    omega
   have hlen : k + 1 < ps.length := (lgs hnx).1
   rw [hnx] at s4
   refine insert_wD w b p m x.o x.i s r _ _ _ _ _ _ hbp hbp.symm hsp hsp.symm hbs.symm hbs hrp hrp.symm hbr.symm hbr hrs.symm hrs c0 c1 c2 cz p0 p1 p2 p3 p4 pz s4 sz _ r3 rz (ins_end h hq hp hpn hB hx hf hn (by rw [hpr]; rfl) (by rw [hnx]; rfl) (foot_at hs) (foot_at hnx) hsp.symm hrp.symm hms hmr ?_ ?_ ?_ ?_)
   ·rw [insW_other hbp hbs hbr, if_neg (by omega), if_neg (by omega)]
    exact h.head
   ·intro j r' y' e hr' hy'
    obtain rfl : k = j := by omega
    rw [hs] at hr'
    cases hr'
    rw [hy] at hy'
    cases hy'
    rw [insW_A hsr hsp hrs.symm]
    rfl
   ·intro r' y' hr' hy'
    rw [hnx] at hr'
    cases hr'
    rw [hz] at hy'
    cases hy'
    rw [insW_C hr hrp hrs, hpr]
    rfl
   ·intro j r' hr' e1 e2
    exact ⟨by rintro rfl; exact e2 (by rw [h.inj _ _ _ hr' hs]), by rintro rfl; exact e1 (h.inj _ _ _ hr' hnx)⟩
end
end Go.Proofs.YtekllgejmgoajaaDoor
