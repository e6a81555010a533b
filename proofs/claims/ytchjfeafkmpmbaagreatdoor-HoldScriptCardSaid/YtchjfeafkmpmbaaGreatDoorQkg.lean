import Derived.Test.YtchjfeafkmpmbaaGreatDoorQkf
import Derived.Deep.RegionLaw
import Derived.Deep.QuietTactic
import Derived.BigQuiet
import Derived.Deep.RegionWith
import Derived.Deep.AppendLies
import Derived.OwnWalk
import Derived.LoopIn
import Derived.LoopTactic
import Derived.Outline
import Derived.Stop.RegionWithIn
import Derived.Sort.QuietIn
import Derived.Lib.SmallJoins
namespace Go.Proofs.YtchjfeafkmpmbaaGreatDoor
set_option linter.unusedVariables false
set_option linter.unusedSimpArgs false
set_option maxRecDepth 100000
set_option maxHeartbeats 8000000
open Lib (hid)
section
open Go.ChangeShapes Go.WideShapes Go.ChangeAt Go.RowKit
theorem insert_wA (w : World) (b p m : Nat) (o i : Int) (u1 u3 u4 d : Value) (Q : World → Prop) (n0 : b ≠ p) (n1 : p ≠ b) (c0 : w.cell? ⟨b, 0, none⟩ = some (.pointer none)) (c1 : w.cell? ⟨b, 1, none⟩ = some u1) (c2 : w.cell? ⟨b, 2, none⟩ = some (.map (some m))) (cz : ∀ k, w.frozen? ⟨b, k, none⟩ = false)
  (p0 : w.cell? ⟨p, 0, none⟩ = some (.int .i64 o)) (p1 : w.cell? ⟨p, 1, none⟩ = some (.int .i64 i)) (p2 : w.cell? ⟨p, 2, none⟩ = some d) (p3 : w.cell? ⟨p, 3, none⟩ = some u3) (p4 : w.cell? ⟨p, 4, none⟩ = some u4) (pz : ∀ k, w.frozen? ⟨p, k, none⟩ = false)
  (hQ : ∃ W', (Instr.mapUpdate 120 (.map (some m)) (slV o i) (.pointer (some ⟨p, 0, none⟩))).run Tryz.prog (insW w p ⟨b, 0, none⟩ ⟨b, 1, none⟩ (.pointer none) (.pointer none)).drew = .ok () W' ∧ Q W') :
  Calls Tryz.prog 108 #[.pointer (some ⟨b, 0, none⟩), .pointer (some ⟨p, 0, none⟩), .pointer none] w fun e w' => (∃ v, e = .returned v) ∧ Q w' := by
 obtain ⟨W', hr, hQ⟩ := hQ
 unfold insW at hr
 have HQ := hid hQ
 clear hQ
 go_enter Tryz.func108, Tryz.ntmps108
 go_upto_region 7 with fail
 go_region
 all_goals
  go_wp2
  go_end0
  exact ⟨⟨_, rfl⟩, HQ.out⟩
theorem insert_wB (w : World) (b p m : Nat) (o i : Int) (r : Nat) (u1 u3 u4 d : Value) (Q : World → Prop) (n0 : b ≠ p) (n1 : p ≠ b) (n2 : r ≠ p) (n3 : p ≠ r) (n4 : r ≠ b) (n5 : b ≠ r) (c0 : w.cell? ⟨b, 0, none⟩ = some (.pointer (some ⟨r, 0, none⟩))) (c1 : w.cell? ⟨b, 1, none⟩ = some u1) (c2 : w.cell? ⟨b, 2, none⟩ = some (.map (some m))) (cz : ∀ k, w.frozen? ⟨b, k, none⟩ = false)
  (p0 : w.cell? ⟨p, 0, none⟩ = some (.int .i64 o)) (p1 : w.cell? ⟨p, 1, none⟩ = some (.int .i64 i)) (p2 : w.cell? ⟨p, 2, none⟩ = some d) (p3 : w.cell? ⟨p, 3, none⟩ = some u3) (p4 : w.cell? ⟨p, 4, none⟩ = some u4) (pz : ∀ k, w.frozen? ⟨p, k, none⟩ = false)
  (v3 : Value) (r3 : w.cell? ⟨r, 3, none⟩ = some v3) (rz : ∀ k, w.frozen? ⟨r, k, none⟩ = false)
  (hQ : ∃ W', (Instr.mapUpdate 120 (.map (some m)) (slV o i) (.pointer (some ⟨p, 0, none⟩))).run Tryz.prog (insW w p ⟨b, 0, none⟩ ⟨r, 3, none⟩ (.pointer none) (.pointer (some ⟨r, 0, none⟩))).drew = .ok () W' ∧ Q W') :
  Calls Tryz.prog 108 #[.pointer (some ⟨b, 0, none⟩), .pointer (some ⟨p, 0, none⟩), .pointer none] w fun e w' => (∃ v, e = .returned v) ∧ Q w' := by
 obtain ⟨W', hr, hQ⟩ := hQ
 unfold insW at hr
 have HQ := hid hQ
 clear hQ
 go_enter Tryz.func108, Tryz.ntmps108
 go_upto_region 7 with fail
 go_region
 all_goals
  go_wp2
  go_end0
  exact ⟨⟨_, rfl⟩, HQ.out⟩
theorem insert_wC (w : World) (b p m : Nat) (o i : Int) (s : Nat) (u0 u1 u3 u4 d : Value) (Q : World → Prop) (n0 : b ≠ p) (n1 : p ≠ b) (n2 : s ≠ p) (n3 : p ≠ s) (n4 : s ≠ b) (n5 : b ≠ s) (c0 : w.cell? ⟨b, 0, none⟩ = some (u0)) (c1 : w.cell? ⟨b, 1, none⟩ = some u1) (c2 : w.cell? ⟨b, 2, none⟩ = some (.map (some m))) (cz : ∀ k, w.frozen? ⟨b, k, none⟩ = false)
  (p0 : w.cell? ⟨p, 0, none⟩ = some (.int .i64 o)) (p1 : w.cell? ⟨p, 1, none⟩ = some (.int .i64 i)) (p2 : w.cell? ⟨p, 2, none⟩ = some d) (p3 : w.cell? ⟨p, 3, none⟩ = some u3) (p4 : w.cell? ⟨p, 4, none⟩ = some u4) (pz : ∀ k, w.frozen? ⟨p, k, none⟩ = false)
  (s4 : w.cell? ⟨s, 4, none⟩ = some (.pointer none)) (sz : ∀ k, w.frozen? ⟨s, k, none⟩ = false)
  (hQ : ∃ W', (Instr.mapUpdate 120 (.map (some m)) (slV o i) (.pointer (some ⟨p, 0, none⟩))).run Tryz.prog (insW w p ⟨s, 4, none⟩ ⟨b, 1, none⟩ (.pointer (some ⟨s, 0, none⟩)) (.pointer none)).drew = .ok () W' ∧ Q W') :
  Calls Tryz.prog 108 #[.pointer (some ⟨b, 0, none⟩), .pointer (some ⟨p, 0, none⟩), .pointer (some ⟨s, 0, none⟩)] w fun e w' => (∃ v, e = .returned v) ∧ Q w' := by
 obtain ⟨W', hr, hQ⟩ := hQ
 unfold insW at hr
 have HQ := hid hQ
 clear hQ
 go_enter Tryz.func108, Tryz.ntmps108
 go_upto_region 7 with fail
 go_region
 all_goals
  go_wp2
  go_end0
  exact ⟨⟨_, rfl⟩, HQ.out⟩
theorem insert_wD (w : World) (b p m : Nat) (o i : Int) (s : Nat) (r : Nat) (u0 u1 u3 u4 d : Value) (Q : World → Prop) (n0 : b ≠ p) (n1 : p ≠ b) (n2 : s ≠ p) (n3 : p ≠ s) (n4 : s ≠ b) (n5 : b ≠ s) (n6 : r ≠ p) (n7 : p ≠ r) (n8 : r ≠ b) (n9 : b ≠ r) (n10 : s ≠ r) (n11 : r ≠ s) (c0 : w.cell? ⟨b, 0, none⟩ = some (u0)) (c1 : w.cell? ⟨b, 1, none⟩ = some u1) (c2 : w.cell? ⟨b, 2, none⟩ = some (.map (some m))) (cz : ∀ k, w.frozen? ⟨b, k, none⟩ = false)
  (p0 : w.cell? ⟨p, 0, none⟩ = some (.int .i64 o)) (p1 : w.cell? ⟨p, 1, none⟩ = some (.int .i64 i)) (p2 : w.cell? ⟨p, 2, none⟩ = some d) (p3 : w.cell? ⟨p, 3, none⟩ = some u3) (p4 : w.cell? ⟨p, 4, none⟩ = some u4) (pz : ∀ k, w.frozen? ⟨p, k, none⟩ = false)
  (s4 : w.cell? ⟨s, 4, none⟩ = some (.pointer (some ⟨r, 0, none⟩))) (sz : ∀ k, w.frozen? ⟨s, k, none⟩ = false)
  (v3 : Value) (r3 : w.cell? ⟨r, 3, none⟩ = some v3) (rz : ∀ k, w.frozen? ⟨r, k, none⟩ = false)
  (hQ : ∃ W', (Instr.mapUpdate 120 (.map (some m)) (slV o i) (.pointer (some ⟨p, 0, none⟩))).run Tryz.prog (insW w p ⟨s, 4, none⟩ ⟨r, 3, none⟩ (.pointer (some ⟨s, 0, none⟩)) (.pointer (some ⟨r, 0, none⟩))).drew = .ok () W' ∧ Q W') :
  Calls Tryz.prog 108 #[.pointer (some ⟨b, 0, none⟩), .pointer (some ⟨p, 0, none⟩), .pointer (some ⟨s, 0, none⟩)] w fun e w' => (∃ v, e = .returned v) ∧ Q w' := by
 obtain ⟨W', hr, hQ⟩ := hQ
 unfold insW at hr
 have HQ := hid hQ
 clear hQ
 go_enter Tryz.func108, Tryz.ntmps108
 go_upto_region 7 with fail
 go_region
 all_goals
  go_wp2
  go_end0
  exact ⟨⟨_, rfl⟩, HQ.out⟩
theorem get_len {α β : Type} {a : List α} {c : List β} (h : a.length = c.length) {k : Nat} {x : α} (hk : a[k]? = some x) : ∃ y, c[k]? = some y := by
 have hl : k < a.length := (lgs hk).1
 exact ⟨c[k]'(h ▸ hl), List.getElem?_eq_getElem _⟩
theorem ins_end {w : World} {B b m n : Nat} {ps : List Nat} {l : List Nod} {f : Int → Int → Option Nat} {p q : Nat} {x : Nod} {A C : Addr} {v1 v2 : Value} (h : TreeAt w B b m n ps l f) (hq : q ≤ ps.length) (hp : w.heap[p]? = some (placeO x none none)) (hpn : ∀ k : Nat, ps[k]? ≠ some p) (hB : B ≤ p)
  (hx : InS x.o ∧ InS x.i ∧ 0 ≤ x.d ∧ x.d ≤ (n + 1 : Nat)) (hf : f x.o x.i = none) (hn : n < maxLen)
  (h1 : v1 = ptrV (prv ps q)) (h2 : v2 = ptrV ps[q]?) (hA : foot b m ps A.block) (hC : foot b m ps C.block) (hAp : p ≠ A.block) (hCp : p ≠ C.block) (hAm : m ≠ A.block) (hCm : m ≠ C.block)
  (hb : (insW w p A C v1 v2).heap[b]? = some (treeO (if q = 0 then some p else ps[0]?) (if q = ps.length then some p else prv ps ps.length) m))
  (hpv : ∀ (k r : Nat) (y : Nod), q = k + 1 → ps[k]? = some r → l[k]? = some y → (insW w p A C v1 v2).heap[r]? = some (placeO y (prv ps k) (some p)))
  (hnx : ∀ (r : Nat) (y : Nod), ps[q]? = some r → l[q]? = some y → (insW w p A C v1 v2).heap[r]? = some (placeO y (some p) ps[q + 1]?))
  (hot : ∀ k r : Nat, ps[k]? = some r → k ≠ q → k + 1 ≠ q → r ≠ A.block ∧ r ≠ C.block) :
  ∃ W', (Instr.mapUpdate 120 (.map (some m)) (slV x.o x.i) (.pointer (some ⟨p, 0, none⟩))).run Tryz.prog (insW w p A C v1 v2).drew = .ok () W' ∧ InsPost w W' B b m n ps l f p q x := by
 have hmp := map_place hp h.map
 obtain ⟨W, hW⟩ : ∃ W, W = insW w p A C v1 v2 := ⟨_, rfl⟩
 have hpW : W.heap[p]? = some (placeO x (prv ps q) ps[q]?) := by
  rw [hW, h1, h2]; exact insW_p hp hAp hCp
 have hmm : W.heap[m]? = w.heap[m]? := by rw [hW]; exact insW_other hmp hAm hCm
 have hoth : ∀ r, r ≠ p → r ≠ A.block → r ≠ C.block → W.heap[r]? = w.heap[r]? := fun r a b c => by rw [hW]; exact insW_other a b c
 have hWq : W = insW w p A C (ptrV (prv ps q)) (ptrV ps[q]?) := by rw [hW, h1, h2]
 rw [← hW] at hb hpv hnx ⊢
 clear hW h1 h2
 have hmW : MapS W.drew m n f := h.map.of_block hmm
 obtain ⟨W', hr, hm', ht⟩ := hmW.put hn hx.1 hx.2.1 p
 have hk := fun k (e : k ≠ m) => turned_block ht e
 have hbm := map_head h.head h.map
 have hne : ∀ (k r : Nat), ps[k]? = some r → r ≠ m := by
  intro k r hr9 e9
  obtain ⟨y, hy⟩ := get_len h.len hr9
  exact map_place (h.row k r y hr9 hy) h.map e9.symm
 rw [ptrV_some] at hr
 have hlast : ∀ hT, InsPost w W' B b m n ps l f p q x := ins_post (w := w) (W := W) (ps := ps) (q := q) (p := p) (A := A) (C := C) hWq ht hA hC
 refine ⟨W', hr, hlast (ins_tree h hq hpn hB hx hf ?_ ?_ ?_ ?_ ?_ hm')⟩
 ·exact (hk p (fun e => hmp e.symm)).trans hpW
 ·exact (hk b (fun e => hbm e.symm)).trans hb
 ·intro k r y e hr hy
  exact (hk r (hne k r hr)).trans (hpv k r y e hr hy)
 ·intro r y hr hy
  exact (hk r (hne q r hr)).trans (hnx r y hr hy)
 ·intro k r hr e1 e2
  have := hot k r hr e1 e2
  exact (hk r (hne k r hr)).trans (hoth r (fun e => hpn k (e ▸ hr)) this.1 this.2)
theorem insert_any (w : World) (B b m n : Nat) (ps : List Nat) (l : List Nod) (f : Int → Int → Option Nat) (p q : Nat) (x : Nod) (h : TreeAt w B b m n ps l f) (hq : q ≤ ps.length) (hp : w.heap[p]? = some (placeO x none none)) (hpn : ∀ k : Nat, ps[k]? ≠ some p) (hB : B ≤ p)
  (hx : InS x.o ∧ InS x.i ∧ 0 ≤ x.d ∧ x.d ≤ (n + 1 : Nat)) (hf : f x.o x.i = none) (hn : n < maxLen) :
  Calls Tryz.prog 108 #[.pointer (some ⟨b, 0, none⟩), .pointer (some ⟨p, 0, none⟩), ptrV (prv ps q)] w fun e w' => (∃ v, e = .returned v) ∧ InsPost w w' B b m n ps l f p q x := by
 have hbp := head_place h.head hp
 have hmp := map_place hp h.map
 have hmb := map_head h.head h.map
 obtain ⟨c0, c1, c2, cz⟩ := head_cells h.head
 obtain ⟨p0, p1, p2, p3, p4, pz⟩ := place_cells hp
 have hrow := h.row
 have hl := h.len
 rcases Nat.eq_zero_or_pos q with rfl | hq0
 ·cases hn0 : ps[0]? with
  | none =>
   have hps : ps = [] := by
    cases ps with
    | nil => rfl
    | cons a t => simp at hn0
   subst hps
   rw [hn0] at c0
   refine insert_wA w b p m x.o x.i _ _ _ _ _ hbp hbp.symm c0 c1 c2 cz p0 p1 p2 p3 p4 pz (ins_end h hq hp hpn hB hx hf hn rfl (by rw [hn0]; rfl) (.inl rfl) (.inl rfl) hbp.symm hbp.symm hmb hmb ?_ ?_ ?_ ?_)
   ·exact insW_AC h.head hbp
   ·intro k r y e; omega
   ·intro r y hr; rw [hn0] at hr; cases hr
   ·intro k r hr; simp at hr
  | some r =>
   obtain ⟨y, hy⟩ := get_len hl hn0
   have hr := hrow 0 r y hn0 hy
   obtain ⟨r0, r1, r2, r3, r4, rz⟩ := place_cells hr
   have hbr := head_place h.head hr
   have hmr := map_place hr h.map
   have hrp : r ≠ p := fun e => hpn 0 (e ▸ hn0)
   have hlen : 0 < ps.length := (lgs hn0).1
   rw [hn0] at c0
   refine insert_wB w b p m x.o x.i r _ _ _ _ _ hbp hbp.symm hrp hrp.symm hbr.symm hbr c0 c1 c2 cz p0 p1 p2 p3 p4 pz _ r3 rz (ins_end h hq hp hpn hB hx hf hn rfl (by rw [hn0]; rfl) (.inl rfl) (foot_at hn0) hbp.symm hrp.symm hmb hmr ?_ ?_ ?_ ?_)
   ·rw [insW_A h.head hbp hbr, if_pos rfl, if_neg (by omega)]
    rfl
   ·intro k r y e; omega
   ·intro r' y' hr' hy'
    rw [hn0] at hr'
    cases hr'
    rw [hy] at hy'
    cases hy'
    rw [insW_C hr hrp hbr.symm]
    rfl
   ·intro k r' hr' e1 _
    refine ⟨?_, ?_⟩
    ·rintro rfl
     obtain ⟨y', hy'⟩ := get_len hl hr'
     exact head_place h.head (hrow k _ y' hr' hy') rfl
    ·rintro rfl
     exact e1 (h.inj _ _ _ hr' hn0)
 ·obtain ⟨k, rfl⟩ : ∃ k, q = k + 1 := ⟨q - 1, by omega⟩
  obtain ⟨s, hs⟩ : ∃ s, ps[k]? = some s := ⟨ps[k]'(by omega), List.getElem?_eq_getElem _⟩
  obtain ⟨y, hy⟩ := get_len hl hs
  have hsr := hrow k s y hs hy
  obtain ⟨s0, s1, s2, s3, s4, sz⟩ := place_cells hsr
  have hbs := head_place h.head hsr
  have hms := map_place hsr h.map
  have hsp : s ≠ p := fun e => hpn k (e ▸ hs)
  have hpr : prv ps (k + 1) = some s := hs
  rw [hpr]
  have hnb : ∀ (j r : Nat), ps[j]? = some r → r ≠ b := by
   rintro j r hr rfl
   obtain ⟨y', hy'⟩ := get_len hl hr
   exact head_place h.head (hrow j _ y' hr hy') rfl
  cases hnx : ps[k + 1]? with
  | none =>
   have hlen : k + 1 = ps.length := by
    have := List.getElem?_eq_none_iff.1 hnx
    omega
   rw [hnx] at s4
   refine insert_wC w b p m x.o x.i s _ _ _ _ _ _ hbp hbp.symm hsp hsp.symm hbs.symm hbs c0 c1 c2 cz p0 p1 p2 p3 p4 pz s4 sz (ins_end h hq hp hpn hB hx hf hn (by rw [hpr]; rfl) (by rw [hnx]; rfl) (foot_at hs) (.inl rfl) hsp.symm hbp.symm hms hmb ?_ ?_ ?_ ?_)
   ·rw [insW_C h.head hbp hbs, if_neg (by omega), if_pos hlen]
    rfl
   ·intro j r' y' e hr' hy'
    obtain rfl : k = j := by omega
    rw [hs] at hr'
    cases hr'
    rw [hy] at hy'
    cases hy'
    rw [insW_A hsr hsp hbs.symm]
    rfl
   ·intro r y hr; rw [hnx] at hr; cases hr
   ·intro j r' hr' e1 e2
    exact ⟨by rintro rfl; exact e2 (by rw [h.inj _ _ _ hr' hs]), hnb j r' hr'⟩
  | some r =>
   obtain ⟨z, hz⟩ := get_len hl hnx
   have hr := hrow _ r z hnx hz
   obtain ⟨r0, r1, r2, r3, r4, rz⟩ := place_cells hr
   have hbr := head_place h.head hr
   have hmr := map_place hr h.map
   have hrp : r ≠ p := fun e => hpn _ (e ▸ hnx)
   have hrs : r ≠ s := by
    rintro rfl
    have := h.inj _ _ _ hnx hs
    omega
   have hlen : k + 1 < ps.length := (lgs hnx).1
   rw [hnx] at s4
   refine insert_wD w b p m x.o x.i s r _ _ _ _ _ _ hbp hbp.symm hsp hsp.symm hbs.symm hbs hrp hrp.symm hbr.symm hbr hrs.symm hrs c0 c1 c2 cz p0 p1 p2 p3 p4 pz s4 sz _ r3 rz (ins_end h hq hp hpn hB hx hf hn (by rw [hpr]; rfl) (by rw [hnx]; rfl) (foot_at hs) (foot_at hnx) hsp.symm hrp.symm hms hmr ?_ ?_ ?_ ?_)
   ·rw [insW_other hbp hbs hbr, if_neg (by omega), if_neg (by omega)]
    exact h.head
   ·intro j r' y' e hr' hy'
    obtain rfl : k = j := by omega
    rw [hs] at hr'
    cases hr'
    rw [hy] at hy'
    cases hy'
    rw [insW_A hsr hsp hrs.symm]
    rfl
   ·intro r' y' hr' hy'
    rw [hnx] at hr'
    cases hr'
    rw [hz] at hy'
    cases hy'
    rw [insW_C hr hrp hrs, hpr]
    rfl
   ·intro j r' hr' e1 e2
    exact ⟨by rintro rfl; exact e2 (by rw [h.inj _ _ _ hr' hs]), by rintro rfl; exact e1 (h.inj _ _ _ hr' hnx)⟩
def idx (l : List Nod) (o i : Int) : Option Nat := l.findIdx? fun x => decide (x.o = o ∧ x.i = i)
theorem idx_some {l : List Nod} {o i : Int} {k : Nat} (h : idx l o i = some k) : ∃ x, l[k]? = some x ∧ x.o = o ∧ x.i = i := by
 obtain ⟨hk, hx, _⟩ := List.findIdx?_eq_some_iff_getElem.1 h
 exact ⟨l[k], List.getElem?_eq_getElem hk, by simpa using hx⟩
theorem idx_none {l : List Nod} {o i : Int} (h : idx l o i = none) {k : Nat} {x : Nod} (hk : l[k]? = some x) : ¬ (x.o = o ∧ x.i = i) := by
 have := List.findIdx?_eq_none_iff.1 h x (List.mem_of_getElem? hk)
 simpa using this
theorem TreeAt.find {W : World} {B b m n : Nat} {ps : List Nat} {l : List Nod} {f : Int → Int → Option Nat} (h : TreeAt W B b m n ps l f) {o i : Int} (ho : InS o) (hi : InS i) : f o i = (idx l o i).bind fun k => ps[k]? := by
 cases e : idx l o i with
 | none =>
  cases hf : f o i with
  | none => rfl
  | some p =>
   obtain ⟨k, x, h1, h2, h3⟩ := (h.finds o i p ho hi).1 hf
   exact absurd h3 (idx_none e h2)
 | some k =>
  obtain ⟨x, hx, h3⟩ := idx_some e
  obtain ⟨p, hp⟩ := get_len h.len.symm hx
  show f o i = ps[k]?
  rw [hp]
  exact (h.finds o i p ho hi).2 ⟨k, x, hp, hx, h3⟩
theorem TreeAt.isSome {W : World} {B b m n : Nat} {ps : List Nat} {l : List Nod} {f : Int → Int → Option Nat} (h : TreeAt W B b m n ps l f) {o i : Int} (ho : InS o) (hi : InS i) : (f o i).isSome = (idx l o i).isSome := by
 rw [h.find ho hi]
 cases e : idx l o i with
 | none => rfl
 | some k =>
  obtain ⟨x, hx, h3⟩ := idx_some e
  obtain ⟨p, hp⟩ := get_len h.len.symm hx
  show (ps[k]?).isSome = true
  rw [hp]; rfl
theorem InsPost.only {w0 w w' : World} {B b m n : Nat} {ps : List Nat} {l : List Nod} {f : Int → Int → Option Nat} {p q : Nat} {x : Nod} (h : InsPost w w' B b m n ps l f p q x) (hb : Below w0.heap.size w0 w) (hp : w0.heap.size ≤ p) (hq : q ≤ ps.length) : TOnly w0 w' b m ps (ps.insertIdx q p) :=
  ⟨h.os.trans hb.os, h.tape.trans hb.tape, h.output.trans hb.output, by rw [h.size]; exact hb.size,
   fun k hk hf => (h.block k hf (by omega)).trans (hb.block k hk),
   fun k hk hf => by
     rcases hf with rfl | rfl | ⟨j, hj⟩
     · exact .inl rfl
     · exact .inr (.inl rfl)
     · rcases ins_get hq hj with ⟨_, hr⟩ | ⟨_, rfl⟩ | ⟨j', _, _, hr⟩
       · exact foot_at hr
       · omega
       · exact foot_at hr⟩
def rootA (l : List Nod) (o i : Int) : List Nod × Int := if (idx l o i).isSome then (l, 11) else (l.insertIdx l.length ⟨o, i, 0⟩, 0)
def Left (w w' : World) (B b m n : Nat) (ps : List Nat) (l : List Nod) : Prop := ∃ ps' f', TreeAt w' B b m n ps' l f' ∧ TOnly w w' b m ps ps'
theorem Left.same {w w' : World} {B b m n n' : Nat} {ps : List Nat} {l : List Nod} {f : Int → Int → Option Nat} (h : TreeAt w B b m n ps l f) (hb : Below w.heap.size w w') (hn : n ≤ n') : Left w w' B b m n' ps l :=
 ⟨ps, f, (h.call hb).mono hn, .of_below hb⟩
theorem InsPost.left {w0 w w' : World} {B b m n : Nat} {ps : List Nat} {l : List Nod} {f : Int → Int → Option Nat} {p q : Nat} {x : Nod} (h : InsPost w w' B b m n ps l f p q x) (hb : Below w0.heap.size w0 w) (hp : w0.heap.size ≤ p) (hq : q ≤ ps.length) : Left w0 w' B b m (n + 1) ps (l.insertIdx q x) :=
 ⟨_, _, h.tree, h.only hb hp hq⟩
theorem TreeAt.fresh {W : World} {B b m n : Nat} {ps : List Nat} {l : List Nod} {f : Int → Int → Option Nat} (h : TreeAt W B b m n ps l f) {p : Nat} (hp : W.heap.size ≤ p) : ∀ k : Nat, ps[k]? ≠ some p := fun k e => by
 have := h.lt (foot_at (b := b) (m := m) e)
 omega
theorem root_any (w : World) (B b m n : Nat) (ps : List Nat) (l : List Nod) (f : Int → Int → Option Nat) (o i : Int) (ho : InS o) (hi : InS i) (h : TreeAt w B b m n ps l f) (hn : n < maxLen) (hB : B ≤ w.heap.size) :
  Calls Tryz.prog 77 #[.pointer (some ⟨b, 0, none⟩), slV o i] w fun e w' => e = .returned (.int .i64 (rootA l o i).2) ∧ Left w w' B b m (n + 1) ps (rootA l o i).1 := by
 have his := h.isSome ho hi
 have H := hid h
 have hal : Below w.heap.size w (w.alloc (.cells #[.int .i64 o, .int .i64 i] 30)) := bal (Below.refl _ _) _
 have HA := hid hal
 unfold rootA
 cases hf : f o i
 ·rw [hf] at his
  have e : (idx l o i).isSome = false := his.symm
  simp only [e, Bool.false_eq_true, if_false]
  have HF := hid hf
  clear h hal his e
  go_enter Tryz.func77, Tryz.ntmps77
  go_upto_region 5 with (go_at_call 103; refine (has_any _ B b m n ps l f o i ho hi (H.out.call HA.out)).mono ?_; rw [HF.out]; rintro e w1 ⟨rfl, hb1⟩)
  have hT := H.out.call (HA.out.trans (hb1.mono HA.out.size))
  have hsl : w1.cell? ⟨w.heap.size, 0, none⟩ = some (.int .i64 o) ∧ w1.cell? ⟨w.heap.size, 1, none⟩ = some (.int .i64 i) := by
   obtain ⟨hc, _⟩ := bcell hb1
   constructor
   ·rw [hc _ _ (by simp)]; simp
   ·rw [hc _ _ (by simp)]; simp
  obtain ⟨s0, s1⟩ := hsl
  obtain ⟨c0, c1, c2, cz⟩ := head_cells hT.head
  have hsz : w.heap.size < w1.heap.size := by have := hb1.size; simp at this; omega
  have hbl : b < w1.heap.size := hT.lt (.inl rfl)
  have hB1 : Below w.heap.size w w1 := HA.out.trans (hb1.mono HA.out.size)
  have hins : Calls Tryz.prog 108 #[.pointer (some ⟨b, 0, none⟩), .pointer (some ⟨w1.heap.size, 0, none⟩), ptrV (prv ps ps.length)] (w1.alloc (placeO ⟨o, i, 0⟩ none none)).drew fun e w' => (∃ v, e = .returned v) ∧ Left w w' B b m (n + 1) ps (l.insertIdx l.length ⟨o, i, 0⟩) := by
   have hb2 : Below w1.heap.size w1 (w1.alloc (placeO ⟨o, i, 0⟩ none none)).drew := (bal (Below.refl _ _) _).drew
   have hT2 := hT.call hb2
   refine (insert_any _ B b m n ps l f w1.heap.size ps.length ⟨o, i, 0⟩ hT2 (Nat.le_refl _) (World.alloc_heap_new w1 _) (hT.fresh (Nat.le_refl _)) (by omega) ⟨ho, hi, by simp, by simp; omega⟩ HF.out hn).mono ?_
   rintro e w' ⟨hv, hp⟩
   refine ⟨hv, ?_⟩
   have := hp.left (hB1.trans (hb2.mono hB1.size)) (by omega) (Nat.le_refl _)
   rw [hT.len] at this
   exact this
  have HI := hid hins
  clear hins hT hB1
  go_region_with (go_at_call 108; refine HI.out.mono ?_; rintro e w' ⟨⟨v, rfl⟩, hL⟩)
  all_goals
   go_wp2
   go_ret
   exact ⟨rfl, hL⟩
 ·rw [hf] at his
  have e : (idx l o i).isSome = true := his.symm
  simp only [e, if_true]
  have HF := hid hf
  clear h hal his e
  go_enter Tryz.func77, Tryz.ntmps77
  go_wp2_with (go_at_call 103; refine (has_any _ B b m n ps l f o i ho hi (H.out.call HA.out)).mono ?_; rw [HF.out]; rintro e w1 ⟨rfl, hb1⟩)
  go_ret
  exact ⟨rfl, Left.same H.out (HA.out.trans (hb1.mono HA.out.size)) (Nat.le_succ _)⟩
abbrev slO (o i : Int) : Obj := .cells #[.int .i64 o, .int .i64 i] 30
def childA (l : List Nod) (o i p j : Int) : List Nod × Int :=
 match idx l o i with
 | none => (l, 10)
 | some k => if (idx l p j).isSome then (l, 11) else (l.insertIdx (k + 1) ⟨p, j, (l[k]?.map Nod.d).getD 0 + 1⟩, 0)
theorem TreeAt.look {w W : World} {B b m n : Nat} {ps : List Nat} {l : List Nod} {f : Int → Int → Option Nat} (h : TreeAt w B b m n ps l f) (e : W.heap[m]? = w.heap[m]?) {o i : Int} (ho : InS o) (hi : InS i) :
  (Instr.lookup 120 (.map (some m)) (slV o i) false).run Tryz.prog W = .ok (ptrV (f o i)) W := (h.map.of_block e).look ho hi
theorem TreeAt.look_ok {w W : World} {B b m n : Nat} {ps : List Nat} {l : List Nod} {f : Int → Int → Option Nat} (h : TreeAt w B b m n ps l f) (e : W.heap[m]? = w.heap[m]?) {o i : Int} (ho : InS o) (hi : InS i) :
  (Instr.lookup 120 (.map (some m)) (slV o i) true).run Tryz.prog W = .ok (.tuple #[ptrV (f o i), .bool (f o i).isSome]) W := (h.map.of_block e).look_ok ho hi
theorem child_any (w : World) (B b m n : Nat) (ps : List Nat) (l : List Nod) (f : Int → Int → Option Nat) (o i p j : Int) (ho : InS o) (hi : InS i) (hp : InS p) (hj : InS j) (h : TreeAt w B b m n ps l f) (hn : n < 1000000) (hB : B ≤ w.heap.size) :
  Calls Tryz.prog 84 #[.pointer (some ⟨b, 0, none⟩), slV o i, slV p j] w fun e w' => e = .returned (.int .i64 (childA l o i p j).2) ∧ Left w w' B b m (n + 1) ps (childA l o i p j).1 := by
 have his := h.isSome hp hj
 have hfo := h.find ho hi
 have H := hid h
 have hal : Below w.heap.size w ((w.alloc (slO o i)).alloc (slO p j)) := bal (bal (Below.refl _ _) _) _
 have HA := hid hal
 have hl := h.look_ok (W := ((w.alloc (slO o i)).alloc (slO p j)).drew) (hal.drew.block m (h.lt (.inr (.inl rfl)))) ho hi
 obtain ⟨c0, c1, c2, cz⟩ := head_cells h.head
 have hbl : b < w.heap.size := h.lt (.inl rfl)
 unfold childA
 cases hk : idx l o i with
 | none =>
  rw [hk] at hfo
  change f o i = none at hfo
  rw [hfo] at hl
  simp only [ptrV, Option.isSome] at hl
  clear h hal his hfo hk
  go_enter Tryz.func84, Tryz.ntmps84
  go_upto_region 3 with fail
  go_region
  all_goals
   go_wp2
   go_ret
   exact ⟨rfl, Left.same H.out HA.out.drew (Nat.le_succ _)⟩
 | some k =>
  rw [hk] at hfo
  change f o i = ps[k]? at hfo
  obtain ⟨x, hx, hx1, hx2⟩ := idx_some hk
  obtain ⟨pp, hpp⟩ := get_len h.len.symm hx
  have hr := h.row k pp x hpp hx
  have hxi := h.ins k x hx
  rw [hpp] at hfo
  rw [hfo] at hl
  simp only [ptrV, Option.isSome] at hl
  have hxd : (l[k]?.map Nod.d).getD 0 = x.d := by rw [hx]; rfl
  simp only []
  rw [hxd]
  have hd0 := hxi.2.2.1
  have hd1 := hxi.2.2.2
  generalize hd : x.d = d at hd0 hd1 ⊢
  have hdn : d ≤ 1000000 := by omega
  have hdm : -9223372036854775808 ≤ d := by omega
  obtain ⟨r0, r1, r2, r3, r4, rz⟩ := place_cells hr
  rw [hd] at r2
  have hpl : pp < w.heap.size := h.lt (foot_at hpp)
  have HK := hid (show k < ps.length from (lgs hpp).1)
  have HPP := hid hpp
  cases hf : f p j
  ·rw [hf] at his
   have e : (idx l p j).isSome = false := his.symm
   simp only [e, Bool.false_eq_true, if_false]
   have HF := hid hf
   clear h hal his e r0 r1 r3 r4 hxi hx hx1 hx2 hk hfo hxd hpp hr
   have HR2 := hid r2
   clear r2
   go_enter Tryz.func84, Tryz.ntmps84
   go_upto_region 3 with fail
   go_region
   all_goals
    go_upto_region 8 with (go_at_call 103; refine (has_any _ B b m n ps l f p j hp hj (H.out.call HA.out.drew)).mono ?_; rw [HF.out]; rintro e w1 ⟨rfl, hb1⟩)
    have hB1 : Below w.heap.size w w1 := HA.out.drew.trans (hb1.mono HA.out.size)
    have hT := H.out.call hB1
    have hsl : w1.cell? ⟨w.heap.size + 1, 0, none⟩ = some (.int .i64 p) ∧ w1.cell? ⟨w.heap.size + 1, 1, none⟩ = some (.int .i64 j) := by
     obtain ⟨hc, _⟩ := bcell hb1
     constructor
     ·rw [hc _ _ (by simp)]; simp
     ·rw [hc _ _ (by simp)]; simp
    obtain ⟨s0, s1⟩ := hsl
    have r2 : w1.cell? ⟨pp, 2, none⟩ = some (.int .i64 d) := (hB1.cell (p := ⟨pp, 2, none⟩) hpl).trans HR2.out
    have hsz : w.heap.size + 1 < w1.heap.size := by have := hb1.size; simp at this; omega
    have hpl1 : pp < w1.heap.size := by omega
    have hins : Calls Tryz.prog 108 #[.pointer (some ⟨b, 0, none⟩), .pointer (some ⟨w1.heap.size, 0, none⟩), .pointer (some ⟨pp, 0, none⟩)] (w1.alloc (placeO ⟨p, j, d + 1⟩ none none)).drew fun e w' => (∃ v, e = .returned v) ∧ Left w w' B b m (n + 1) ps (l.insertIdx (k + 1) ⟨p, j, d + 1⟩) := by
     have hb2 : Below w1.heap.size w1 (w1.alloc (placeO ⟨p, j, d + 1⟩ none none)).drew := (bal (Below.refl _ _) _).drew
     have hT2 := hT.call hb2
     have hpr : ptrV (prv ps (k + 1)) = .pointer (some ⟨pp, 0, none⟩) := by show ptrV ps[k]? = _; rw [HPP.out]; rfl
     rw [← hpr]
     refine (insert_any _ B b m n ps l f w1.heap.size (k + 1) ⟨p, j, d + 1⟩ hT2 HK.out (World.alloc_heap_new w1 _) (hT.fresh (Nat.le_refl _)) (by omega) ⟨hp, hj, by show 0 ≤ d + 1; omega, by show d + 1 ≤ _; omega⟩ HF.out (by unfold maxLen; omega)).mono ?_
     rintro e w' ⟨hv, hpo⟩
     exact ⟨hv, hpo.left (hB1.trans (hb2.mono hB1.size)) (by omega) HK.out⟩
    have HI := hid hins
    clear hins hT hB1 c0 c1 c2 hl
    go_region_with (go_at_call 108; rw [IntWalk.i64_in (d + 1) (by omega)]; refine HI.out.mono ?_; rintro e w' ⟨⟨v, rfl⟩, hL⟩)
    all_goals
     go_wp2
     go_ret
     exact ⟨rfl, hL⟩
  ·rw [hf] at his
   have e : (idx l p j).isSome = true := his.symm
   simp only [e, if_true]
   have HF := hid hf
   clear h hal his e hr hpp hxi hx hk hxd r0 r1 r2 r3 r4
   go_enter Tryz.func84, Tryz.ntmps84
   go_upto_region 3 with fail
   go_region
   all_goals
    go_wp2_with (go_at_call 103; refine (has_any _ B b m n ps l f p j hp hj (H.out.call HA.out.drew)).mono ?_; rw [HF.out]; rintro e w1 ⟨rfl, hb1⟩)
    go_ret
    exact ⟨rfl, Left.same H.out (HA.out.drew.trans (hb1.mono HA.out.size)) (Nat.le_succ _)⟩
end
section
open Go.ChangeShapes Go.WideShapes Go.ChangeAt Go.RowKit Go.Shelf
theorem op_append_at_TrB {P : Program} {o : Oper} {a : Act} {w : World} {K : Act → World → Prop} {Q : Exit → Act → World → Prop}
  (s x : Operand) (t : TypeId) (hop : o.op = Op.call { callee := Callee.builtin Builtin.append, args := #[s, x], argTypes := #[t, t] })
  (base : Nat) (e : TypeId) (i : TypeInfo) (z : Value) (size bytes : Nat) (h1 : P.underlying t = some (.slice e)) (h2 : P.info? e = some i) (h3 : i.zero = some z) (h4 : i.size = size) (h5 : i.bytes = bytes) (h6 : z.cells.size = size) (h7 : 0 < size)
  (v : Value) (k : Nat) (xs : List Value) (hs : a.eval s = v) (hown : w.ownsRow base e size v k xs) (ad : Addr) (m c : Nat) (news : List Value) (hx : a.eval x = .slice (some ad) m c) (hn : news.length = m * size)
  (hc : ∀ j u, news[j]? = some u → w.cell? (ad.add j) = some u) (h1c : ∀ u ∈ news, u.oneCell' = true) (b1 : k + m ≤ maxLen) (b2 : (k + m) * bytes ≤ 140737488355328) (b3 : base ≤ w.heap.size)
  (hK : ∀ v' w', w'.ownsRow base e size v' (k + m) (xs ++ news) → w.grownBy w' v.ownBlock → (v'.ownBlock = v.ownBlock ∨ v'.ownBlock = some w.heap.size) → K (a.put o.dst v') w') :
  o.wp P a w K Q := by
 obtain ⟨v', w', hrun, r1, r2, r3, r4⟩ := run_append_own_at (P := P) (w := w) base t o.type e i z size bytes h1 h2 h3 h4 h5 h6 h7 v k xs hown ad m c news hn hc h1c b1 b2 b3
 unfold Oper.wp
 simp [execOp, hop, resolve, invoke, builtin, hs, hx, hrun, Result.andThen]
 exact hK v' w' r1 r2 r4
theorem step_append_at_TrB {P : Program} {ops : Array Oper} {o : Oper} {a : Act} {w : World} {K : Act → World → Prop} {Q : Exit → Act → World → Prop} {E : Prop}
  (hg : o.guard = none) (s x : Operand) (t : TypeId) (hop : o.op = Op.call { callee := Callee.builtin Builtin.append, args := #[s, x], argTypes := #[t, t] })
  (base : Nat) (e : TypeId) (i : TypeInfo) (z : Value) (size bytes : Nat) (h1 : P.underlying t = some (.slice e)) (h2 : P.info? e = some i) (h3 : i.zero = some z) (h4 : i.size = size) (h5 : i.bytes = bytes) (h6 : z.cells.size = size) (h7 : 0 < size)
  (v : Value) (k : Nat) (xs : List Value) (hs : a.eval s = v) (hown : w.ownsRow base e size v k xs) (ad : Addr) (m c : Nat) (news : List Value) (hx : a.eval x = .slice (some ad) m c) (hn : news.length = m * size)
  (hc : ∀ j u, news[j]? = some u → w.cell? (ad.add j) = some u) (h1c : ∀ u ∈ news, u.oneCell' = true) (b1 : k + m ≤ maxLen) (b2 : (k + m) * bytes ≤ 140737488355328) (b3 : base ≤ w.heap.size)
  (hK : ∀ v' w', w'.ownsRow base e size v' (k + m) (xs ++ news) → w.grownBy w' v.ownBlock → (v'.ownBlock = v.ownBlock ∨ v'.ownBlock = some w.heap.size) → K (a.put o.dst v') w') :
  if Region.wanted o (yielded ops a.tmps) = true then Oper.wp P o a w K Q else E := by
 have hw : Region.wanted o (yielded ops a.tmps) = true := by simp [Region.wanted, hg]
 rw [if_pos hw]
 exact op_append_at_TrB s x t hop base e i z size bytes h1 h2 h3 h4 h5 h6 h7 v k xs hs hown ad m c news hx hn hc h1c b1 b2 b3 hK
theorem infoNd : (Tryz.prog.info? 44).map (fun i => (i.zero, i.size, i.bytes)) = some (some (.agg #[.int .i64 0, .int .i64 0, .int .i64 0]), 3, 24) := by kernel_rfl
def lenOf : Value → Nat
 | .slice _ n _ => n
 | _ => 0
theorem row_lenOf {w : World} {base : Nat} {e : TypeId} {s : Nat} {v : Value} {n : Nat} {xs : List Value} (h : w.ownsRow base e s v n xs) : lenOf v = n := by
 rcases h.2 with ⟨rfl, rfl⟩ | ⟨g, cap, cur, rfl, _⟩ <;> rfl
abbrev nodC (x : Nod) : List Value := [.int .i64 x.o, .int .i64 x.i, .int .i64 x.d]
def nodsC (l : List Nod) : List Value := l.flatMap nodC
theorem nodsC_take {l : List Nod} {k : Nat} {x : Nod} (h : l[k]? = some x) : nodsC (l.take (k + 1)) = nodsC (l.take k) ++ nodC x := by
 unfold nodsC
 rw [List.take_add_one, h]
 simp
theorem news_at (wr W : World) (cs : List Value) (t : TypeId) (h : W.heap = (wr.alloc (.cells cs.toArray t)).heap) : ∀ j u, cs[j]? = some u → W.cell? ((⟨wr.heap.size, 0, none⟩ : Addr).add j) = some u := by
 intro j u hj
 have e : ((⟨wr.heap.size, 0, none⟩ : Addr).add j) = ⟨wr.heap.size, j, none⟩ := by unfold Addr.add; split <;> simp_all
 have hb : W.heap[wr.heap.size]? = some (.cells cs.toArray t (0, 0)) := by rw [h]; exact World.alloc_heap_new _ _
 rw [e]
 simp [World.cell?, hb, hj]
theorem all_any (w : World) (B b m n : Nat) (ps : List Nat) (l : List Nod) (f : Int → Int → Option Nat) (h : TreeAt w B b m n ps l f) (hn : n < 1000000) :
  Calls Tryz.prog 56 #[.pointer (some ⟨b, 0, none⟩)] w fun e w' => ∃ v, e = .returned v ∧ w'.ownsRow w.heap.size 44 3 v l.length (nodsC l) ∧ Below w.heap.size w w' := by
 obtain ⟨i0, hi, hz0, hz1, hz2⟩ := info_parts infoNd
 have HI := hid hi
 obtain ⟨c0, c1, c2, cz⟩ := head_cells h.head
 have H := hid h
 have hle := h.le
 clear h hi
 go_enter Tryz.func56, Tryz.ntmps56
 go_wp2
 clear c0 c1 c2 cz
 go_loopw [3, 4] (fun v p wr => ∃ k : Nat, k ≤ l.length ∧ p = ptrV ps[k]? ∧ wr.ownsRow w.heap.size 44 3 v k (nodsC (l.take k)) ∧ Below w.heap.size w wr) (fun v _ _ => l.length - lenOf v)
 case atStart => exact ⟨0, by omega, rfl, World.ownsRow_nil _ _ _ _, Below.refl _ _⟩
 case round =>
  obtain ⟨k, hk, rfl, hown, hB⟩ := hrel
  cases hx : l[k]? with
  | some x =>
   obtain ⟨p, hp⟩ := get_len H.out.len.symm hx
   have hr := (H.out.call hB).row k p x hp hx
   obtain ⟨r0, r1, r2, r3, r4, rz⟩ := place_cells hr
   have hpl : p < wr.heap.size := (H.out.call hB).lt (foot_at hp)
   have hpw : p < w.heap.size := H.out.lt (foot_at hp)
   have HR4 := hid (place_cells (H.out.row k p x hp hx)).2.2.2.2.1
   have hlt : k < l.length := (lgs hx).1
   have HX := hid (nodsC_take hx)
   rw [hp, ptrV_some]
   have hown2 : (wr.alloc (.cells #[.int .i64 x.o, .int .i64 x.i, .int .i64 x.d] 44)).drew.ownsRow w.heap.size 44 3 u3 k (nodsC (l.take k)) := hown.alloc _
   have hv := row_lenOf hown
   have HV := hid hv
   have hob : ∀ j, u3.ownBlock = some j → w.heap.size ≤ j := fun j e => (hown.lt j e).1
   have HOB := hid hob
   have HO2 := hid hown2
   have HB := hid hB
   have hsz := hB.size
   clear hr hown hown2 hv hB hob hx hp
   go_upto_region 7 with fail
   go_region_law (refine step_append_at_TrB rfl _ _ 41 rfl w.heap.size 44 i0 (.agg #[.int .i64 0, .int .i64 0, .int .i64 0]) 3 24 Tryz.underlying41 HI.out hz0 hz1 hz2 rfl (by decide) u3 k _ rfl HO2.out ⟨wr.heap.size, 0, none⟩ 1 1 (nodC x) rfl rfl (news_at wr _ (nodC x) _ rfl) (by simp [Value.oneCell']) (by unfold maxLen; omega) (by omega) (by simp; omega) ?_; intro v' w2 ho2 hg2 hat2)
   all_goals
    have hB2 : Below w.heap.size w w2 := ((HB.out.alloc HB.out.size _).drew).grown hg2 (by simp; omega) HOB.out
    have hr4 : w2.cell? ⟨p, 4, none⟩ = some (ptrV ps[k + 1]?) := by
     exact (hB2.cell (p := ⟨p, 4, none⟩) hpw).trans HR4.out
    have HO3 := hid ho2
    have HB2 := hid hB2
    clear ho2 hg2 hat2 hB2 r0 r1 r2 r3 r4 rz
    go_wp2
    go_roundw
    case rel => exact ⟨k + 1, by omega, rfl, by rw [HX.out]; exact HO3.out, HB2.out⟩
    case measure => rw [row_lenOf HO3.out, HV.out]; omega
  | none =>
   have hke : k = l.length := by have := List.getElem?_eq_none_iff.1 hx; omega
   have hpn : ps[k]? = none := by rw [List.getElem?_eq_none_iff, H.out.len]; omega
   rw [hpn, ptrV_none]
   subst hke
   rw [List.take_length] at hown
   go_wp2
   exact bodyPost_ret (v := u3) (by simp [results, Tryz.results56, go_sem]) rfl ⟨u3, rfl, hown, hB⟩
end
section
open Go.RowKit Go.Shelf
variable {P : Program} {F : Fence} {n : Nat}
def SeqLinkedP {α : Type} (F : Fence) (n : Nat) (P : Program) (g : Nat) (lb : Array Value) (encs : α → Array Value) (V : List α → α → Prop) (I : List α → World → Prop) (S : List α → Prop) (N B : Nat) : Prop :=
 ∀ (l : Nat) (J : List α → World → Prop) (W : World), B ≤ W.heap.size → AbidesFrom W.heap.size J → (∀ pre W1, J pre W1 → I pre W1) →
  (∀ pre x W1, V pre x → J pre W1 → pre.length < N → YieldAt F (n - 1) P l (encs x) W1 fun e W' => e = .returned (.bool true) ∧ J (pre ++ [x]) W') →
  J [] W → CallsIn F n P g (#[.func (.yield l) #[] #[]] ++ lb) W fun e W' => (∃ v, e = .returned v) ∧ ∃ xs, S xs ∧ J xs W'
theorem wpIn_range_linkedP {α : Type} {g : Operand} {ps : Array Tmp} {assign body : Code} {Q : Exit → Act → World → Prop} {a : Act} {w : World}
  (hro : F.round = none) (h1 : 1 ≤ n) {gf : Nat} {lb : Array Value} (hg : a.eval g = .func (.func gf) #[] lb) (hFg : F.fn gf) (eg : ∀ args w, (callFunc gf args).run P w = .ok (.enter gf args) w)
  {encs : α → Array Value} {V : List α → α → Prop} {S : List α → Prop} {N : Nat} (I : List α → World → Prop) (hseq : SeqLinkedP F (n - 1) P gf lb encs V I S N w.heap.size) (hps : ∀ x, (encs x).size = ps.size)
  (hI : OwnFrom w.heap.size I) (h0 : I [] w) (a₁ : α → Act)
  (hassign : ∀ (l : Nat) (x : α) (W : World) (K : Act → World → Prop), K (a₁ x) W →
   assign.wpIn (F.inRound l) (n - 1 - 1) P (Exit.then K (fun _ _ _ => False)) { tmps := (ps.zip (encs x)).foldl (fun t (p, v) => t.setIfInBounds p v) a.tmps, defers := [] } W)
  (hbody : ∀ (l : Nat) (pre : List α) (x : α) (W : World), V pre x → I pre W → pre.length < N → body.wpIn (F.inRound l) (n - 1 - 1) P (fun e _ W' => e = .normal ∧ KeepsOthers W W' ∧ I (pre ++ [x]) W') (a₁ x) W)
  (hdone : ∀ (D : Nat) (xs : List α) (W : World), w.heap.size ≤ D → S xs → I xs W → W.heap[D]? = some (.deferred (some [])) → Q .normal { a with defers := { target := .collected D, args := #[] } :: a.defers } W) :
  (Code.rangeFunc g ps assign body).wpIn F n P Q a w := by
 refine wpIn_rangeFunc ?_
 intro fn hfn
 rw [hro]
 -- the loop's record, by its state
 obtain ⟨rc, hrc⟩ : ∃ rc : LoopState → Loop, rc = fun st => { state := st, pending := none, fn, tmps := a.tmps, params := ps, assign, body, defers := w.heap.size } := ⟨_, rfl⟩
 have hent := run_enterLoop_outer (P := P) (w := w) fn a.tmps ps assign body
 obtain ⟨W1, hW1⟩ : ∃ W1, W1 = (w.alloc (.deferred (some []))).alloc (.loop (rc .ready)) := ⟨_, rfl⟩
 have rec1 : W1.heap[w.heap.size + 1]? = some (.loop (rc .ready)) := by
  have e := World.alloc_heap_new (w.alloc (.deferred (some []))) (.loop (rc .ready))
  rw [World.size_alloc] at e
  rw [hW1]; exact e
 have def1 : W1.heap[w.heap.size]? = some (.deferred (some [])) := by
  rw [hW1, Below.heap_alloc _ _ _ (by simp)]
  exact World.alloc_heap_new w _
 have inv1 : I [] W1 := by rw [hW1]; exact hI.alloc _ (hI.alloc _ h0)
 have siz1 : w.heap.size + 2 ≤ W1.heap.size := by rw [hW1]; simp
 refine ⟨w.heap.size + 1, [{ target := .collected w.heap.size, args := #[] }], W1, { target := .fn (.func gf) lb, args := #[.func (.yield (w.heap.size + 1)) #[] #[]] }, W1, gf, #[.func (.yield (w.heap.size + 1)) #[] #[]] ++ lb, W1, ?_, ?_, ?_, ?_, fun _ => h1, ?_⟩
 ·rw [hW1, hrc]; exact hent
 ·simp only [resolve, hg]
  simp [go_sem]
 ·intro f' hf'
  simp [Target.leads] at hf'
  exact hf' ▸ hFg
 ·simp [invoke, go_sem, eg]
 refine (hseq (w.heap.size + 1) (fun pre W => I pre W ∧ W.heap[w.heap.size + 1]? = some (.loop (rc .ready)) ∧ W.heap[w.heap.size]? = some (.deferred (some []))) W1 (by omega) ?_ (fun _ _ h => h.1) ?_ ⟨inv1, rec1, def1⟩).mono ?_
 ·-- turns of walks beyond leave all three
  intro s A B row hs hgr hr
  have hw : ∀ r, row = some r → w.heap.size ≤ r ∧ ∃ o : Obj, A.heap[r]? = some o ∧ o.isCells = false := fun r e => by
   obtain ⟨hB, o, ho, hk⟩ := hr r e
   exact ⟨by omega, o, ho, Obj.not_cells_of_walk hk⟩
  exact ⟨hI s A B row hs.1 hgr hw, (grownBy_keeps hgr (fun r e => (hr r e).2) hs.2.1 rfl).trans hs.2.1, (grownBy_keeps hgr (fun r e => (hr r e).2) hs.2.2 rfl).trans hs.2.2⟩
 ·-- a round
  rintro pre x W hv ⟨hi, hl, hk⟩ hlen
  have hlt : w.heap.size + 1 < W.heap.size := (ags hl).1
  have hy := run_yield (P := P) (args := encs x) hl (by rw [hrc]; exact hps x)
  rw [hrc] at hy
  obtain ⟨U, hU⟩ : ∃ U, U = W.putObj (w.heap.size + 1) (.loop { rc .ready with state := .busy }) := ⟨_, rfl⟩
  have recU : U.heap[w.heap.size + 1]? = some (.loop { rc .ready with state := .busy }) := by rw [hU]; exact World.putObj_heap_same hlt
  have defU : U.heap[w.heap.size]? = some (.deferred (some [])) := by rw [hU]; exact (World.putObj_heap_other (by omega)).trans hk
  have invU : I pre U := by rw [hU]; exact hI.putObj _ hi (by omega) hl rfl
  refine ⟨fn, _, assign, body, hy, roundIn_of_wpIn hfn (hassign _ x W _ ⟨_, run_beginRound hl (by rw [hrc]), ?_⟩)⟩
  rw [← hU]
  refine wpIn_mono (hbody _ pre x U hv invU hlen) ?_
  rintro e a3 W3 ⟨rfl, hk3, hi3⟩
  have rec3 := hk3.same _ _ recU rfl
  have def3 := hk3.same _ _ defU rfl
  have hend := run_endRound (P := P) none rec3
  have lt3 : w.heap.size + 1 < W3.heap.size := (ags rec3).1
  rw [hrc] at hend rec3
  refine ⟨_, _, hend, rfl, ?_, ?_, ?_⟩
  ·exact hI.putObj _ hi3 (by omega) rec3 rfl
  ·rw [hrc]; exact World.putObj_heap_same lt3
  ·exact (World.putObj_heap_other (by omega)).trans def3
 ·-- behind the iterator
  rintro e W2 ⟨⟨v, rfl⟩, xs, hS, hi, hl, hk⟩
  have hend := run_endLoop (P := P) hl (by rw [hrc]; simp)
  rw [hrc] at hend
  exact ⟨none, _, hend, hdone _ xs _ (Nat.le_refl _) hS (hI.putObj _ hi (by omega) hl rfl) ((World.putObj_heap_other (by omega)).trans hk)⟩
end
section
open Go.RowKit Go.Shelf
attribute [local go_sem] Oper.semAt_some
def pos (ps : List Nat) : Value → Nat
 | .pointer (some a) => ps.idxOf a.block
 | _ => ps.length
theorem idx_of {ps : List Nat} (hi : ∀ (k j p : Nat), ps[k]? = some p → ps[j]? = some p → k = j) {j p : Nat} (h : ps[j]? = some p) : ps.idxOf p = j := by
 have hlt : ps.idxOf p < ps.length := List.idxOf_lt_length_of_mem (List.mem_of_getElem? h)
 refine hi _ _ p ?_ h
 rw [List.getElem?_eq_getElem hlt, List.getElem_idxOf hlt]
theorem pos_at {ps : List Nat} (hi : ∀ (k j p : Nat), ps[k]? = some p → ps[j]? = some p → k = j) (j : Nat) (hj : j ≤ ps.length) : pos ps (ptrV ps[j]?) = j := by
 cases h : ps[j]? with
 | none =>
  have := List.getElem?_eq_none_iff.1 h
  show ps.length = j
  omega
 | some p => exact idx_of hi h
def belowN (l : List Nod) (k : Nat) : Nat := ((l.drop (k + 1)).takeWhile fun x => decide (((l[k]?).map Nod.d).getD 0 < x.d)).length
theorem takeWhile_in {α : Type} {q : α → Bool} : ∀ {a : List α} {j : Nat}, j < (a.takeWhile q).length → ∃ x, a[j]? = some x ∧ q x = true
 | [], j, h => by simp at h
 | x :: a, j, h => by
  rw [List.takeWhile_cons] at h
  split at h
  ·rename_i hq
   cases j with
   | zero => exact ⟨x, rfl, hq⟩
   | succ j => exact takeWhile_in (a := a) (by simpa using h)
  ·simp at h
theorem takeWhile_out {α : Type} {q : α → Bool} : ∀ {a : List α} {x : α}, a[(a.takeWhile q).length]? = some x → q x = false
 | [], x, h => by simp at h
 | y :: a, x, h => by
  rw [List.takeWhile_cons] at h
  split at h
  ·exact takeWhile_out (a := a) (by simpa using h)
  ·rename_i hq
   simp at h
   subst h
   simpa using hq
theorem takeWhile_le {α : Type} (q : α → Bool) : ∀ (a : List α), (a.takeWhile q).length ≤ a.length
 | [] => by simp
 | x :: a => by
  rw [List.takeWhile_cons]
  split
  ·have := takeWhile_le q a
   simpa using this
  ·simp
theorem belowN_in {l : List Nod} {k c : Nat} {y : Nod} (hy : l[k]? = some y) (h : c < belowN l k) : ∃ x, l[k + 1 + c]? = some x ∧ y.d < x.d := by
 obtain ⟨x, h1, h2⟩ := takeWhile_in h
 rw [List.getElem?_drop] at h1
 exact ⟨x, h1, by simpa [hy] using h2⟩
theorem belowN_out {l : List Nod} {k : Nat} {x y : Nod} (hy : l[k]? = some y) (h : l[k + 1 + belowN l k]? = some x) : x.d ≤ y.d := by
 have := takeWhile_out (a := l.drop (k + 1)) (q := fun x => decide (((l[k]?).map Nod.d).getD 0 < x.d)) (x := x) (by rw [List.getElem?_drop]; exact h)
 simp [hy] at this
 omega
theorem belowN_le {l : List Nod} {k : Nat} (hk : k < l.length) : k + 1 + belowN l k ≤ l.length := by
 have := takeWhile_le (fun x => decide (((l[k]?).map Nod.d).getD 0 < x.d)) (l.drop (k + 1))
 rw [List.length_drop] at this
 unfold belowN
 omega
theorem below_in (n : Nat) (p : Option Addr) (w : World) :
  CallsIn Fence.wide n Tryz.prog 104 #[.pointer p] w fun e w' => e = .returned (.func (.func 121) #[] #[.pointer (some ⟨w.heap.size, 0, none⟩)]) ∧ w' = w.alloc (.cells #[.pointer p] 119) := by
 refine callsIn_of_wp Tryz.func104 rfl trivial ?_ rfl
 simp only [Tryz.ntmps104, List.size_toArray, List.length_cons, List.length_nil, Nat.reduceAdd, Nat.reduceSub, Array.replicate_succ, Array.replicate_zero, List.push_toArray, List.append_toArray, List.nil_append, List.cons_append]
 gi_wp2
 go_ret
 exact ⟨rfl, rfl⟩
structure Rows (W : World) (ps : List Nat) (l : List Nod) (k c Bn pk : Nat) : Prop where
 box : W.cell? ⟨Bn, 0, none⟩ = some (.pointer (some ⟨pk, 0, none⟩))
 next : ∀ (j p : Nat), ps[j]? = some p → W.cell? ⟨p, 4, none⟩ = some (ptrV ps[j + 1]?)
 depth : ∀ (j p : Nat) (x : Nod), ps[j]? = some p → l[j]? = some x → j = k ∨ k + c < j → W.cell? ⟨p, 2, none⟩ = some (.int .i64 x.d)
theorem below1_linked (n lb Bn : Nat) (W : World) (ps : List Nat) (l : List Nod) (k pk : Nat) (y : Nod) (hlen : ps.length = l.length) (hinj : ∀ (k j p : Nat), ps[k]? = some p → ps[j]? = some p → k = j) (hk : ps[k]? = some pk) (hy : l[k]? = some y) (J : List Nat → World → Prop)
   (hY : ∀ pre x W1, (x = k + 1 + pre.length ∧ pre.length < belowN l k) → J pre W1 → pre.length < belowN l k → YieldAt Fence.wide n Tryz.prog lb #[ptrV ps[x]?] W1 fun e W' => e = .returned (.bool true) ∧ J (pre ++ [x]) W') (h0 : J [] W) (hJd : ∀ pre W1 k, J pre W1 → J pre (W1.drewN k))
   (hJ : ∀ pre W1, J pre W1 → Rows W1 ps l k pre.length Bn pk) :
    CallsIn Fence.wide (n + 1) Tryz.prog 121 #[.func (.yield lb) #[] #[], .pointer (some ⟨Bn, 0, none⟩)] W fun e W' => (∃ v, e = .returned v) ∧ ∃ xs, xs = List.range' (k + 1) (belowN l k) ∧ J xs W' := by
  have hc := (hJ [] W h0).box
  have hc4 := (hJ [] W h0).next k pk hk
  have HY := hid hY
  have HJ := hid hJ
  have hkl : k < l.length := (lgs hy).1
  have hble := belowN_le hkl
  have HK := hid hk
  have HYK := hid hy
  have HIN := hid hinj
  clear hY hJ hk hy hinj
  refine callsIn_of_wp Tryz.func121 rfl trivial ?_ rfl
  simp only [Tryz.ntmps121, List.size_toArray, List.length_cons, List.length_nil, Nat.reduceAdd, Nat.reduceSub, Array.replicate_succ, Array.replicate_zero, List.push_toArray, List.append_toArray, List.nil_append, List.cons_append]
  gi_wp2
  clear hc hc4
  gi_loopw [3] (fun q wr => ∃ c : Nat, c ≤ belowN l k ∧ q = ptrV ps[k + 1 + c]? ∧ J (List.range' (k + 1) c) wr) (fun q _ => ps.length - pos ps q)
  case atStart => exact ⟨0, by omega, rfl, h0⟩
  case round =>
    obtain ⟨c, hc, rfl, hJc⟩ := hrel
    have hR := HJ.out _ _ hJc
    rw [List.length_range'] at hR
    have hb := hR.box
    have hdk := hR.depth k pk y HK.out HYK.out (.inl rfl)
    cases hq : ps[k + 1 + c]? with
    | none =>
      have hce : c = belowN l k := by
        rcases Nat.lt_or_ge c (belowN l k) with h | h
        · obtain ⟨x, hx, _⟩ := belowN_in HYK.out h
          obtain ⟨p, hp⟩ := get_len hlen.symm hx
          rw [hq] at hp; cases hp
        · omega
      subst hce
      rw [ptrV_none]
      gi_wp2
      gi_quiet (fail)
      gi_wp2
      go_end0
      exact ⟨⟨_, rfl⟩, _, rfl, hJd _ _ _ hJc⟩
    | some p =>
      obtain ⟨x, hx⟩ := get_len hlen hq
      have hdx := hR.depth (k + 1 + c) p x hq hx (.inr (by omega))
      have hnx := hR.next (k + 1 + c) p hq
      rw [ptrV_some]
      by_cases hlt : c < belowN l k
      · have hgt : y.d < x.d := by
          obtain ⟨x', hx', h⟩ := belowN_in HYK.out hlt
          rw [hx] at hx'; cases hx'; exact h
        have HRN := hid (show List.range' (k + 1) (c + 1) = List.range' (k + 1) c ++ [k + 1 + c] by rw [List.range'_1_concat])
        gi_wp2
        gi_quiet (fail)
        obtain ⟨fn, tmps, assign, body, hy, hR2⟩ := HY.out _ (k + 1 + c) (wr.drewN nq) ⟨by rw [List.length_range'], by rw [List.length_range']; exact hlt⟩ (hJd _ _ _ hJc) (by rw [List.length_range']; exact hlt)
        rw [hq] at hy
        dsimp only [ptrV] at hy
        have HR2 := hid hR2
        clear hR2
        gi_wp2
        refine HR2.out.mono ?_
        rintro e W' ⟨rfl, hJ'⟩
        rw [← HRN.out] at hJ'
        have hn2 := (HJ.out _ _ hJ').next (k + 1 + c) p hq
        gi_wp2
        go_roundw
        case rel => exact ⟨c + 1, by omega, rfl, hJ'⟩
        case measure =>
          rw [show k + 1 + c + 1 = k + 1 + (c + 1) from rfl, pos_at HIN.out _ (by omega)]
          have h1 : pos ps (.pointer (some ⟨p, 0, none⟩)) = k + 1 + c := by
            have := pos_at HIN.out (k + 1 + c) (by omega)
            rw [hq] at this
            exact this
          rw [h1]
          omega
      · have hce : c = belowN l k := by omega
        subst hce
        have hle : ¬ y.d < x.d := by have := belowN_out HYK.out hx; omega
        gi_wp2
        gi_quiet (fail)
        gi_wp2
        go_end0
        exact ⟨⟨_, rfl⟩, _, rfl, hJd _ _ _ hJc⟩
end
section
open Go.ChangeShapes Go.WideShapes Go.ChangeAt Go.RowKit Go.MapKept Go.ChangeMaps
theorem unlink_wA (w : World) (b p m : Nat) (o i : Int) (u0 u1 d : Value) (Q : World → Prop) (n0 : b ≠ p) (n1 : p ≠ b) (c0 : w.cell? ⟨b, 0, none⟩ = some u0) (c1 : w.cell? ⟨b, 1, none⟩ = some u1) (c2 : w.cell? ⟨b, 2, none⟩ = some (.map (some m))) (cz : ∀ k, w.frozen? ⟨b, k, none⟩ = false)
  (p0 : w.cell? ⟨p, 0, none⟩ = some (.int .i64 o)) (p1 : w.cell? ⟨p, 1, none⟩ = some (.int .i64 i)) (p2 : w.cell? ⟨p, 2, none⟩ = some d) (p3 : w.cell? ⟨p, 3, none⟩ = some (.pointer none)) (p4 : w.cell? ⟨p, 4, none⟩ = some (.pointer none)) (pz : ∀ k, w.frozen? ⟨p, k, none⟩ = false)
  (hQ : ∀ W, W.heap = ((w.setCell ⟨b, 0, none⟩ (.pointer none)).setCell ⟨b, 1, none⟩ (.pointer none)).heap → W.os = w.os → W.tape = w.tape → W.output = w.output → ∃ W', (Builtin.delete_ #[120, 30] 0 #[.map (some m), slV o i]).run Tryz.prog W = .ok (.tuple #[]) W' ∧ Q W') :
  Calls Tryz.prog 106 #[.pointer (some ⟨b, 0, none⟩), .pointer (some ⟨p, 0, none⟩)] w fun e w' => (∃ v, e = .returned v) ∧ Q w' := by
 obtain ⟨W', hr, hQ⟩ := hQ ((w.setCell ⟨b, 0, none⟩ (.pointer none)).setCell ⟨b, 1, none⟩ (.pointer none)).drew rfl rfl rfl rfl
 have HQ := hid hQ
 clear hQ
 go_enter Tryz.func106, Tryz.ntmps106
 go_upto_region 6 with fail
 go_region
 all_goals
  go_wp2
  go_end0
  exact ⟨⟨_, rfl⟩, HQ.out⟩
theorem unlink_wB (w : World) (b p m : Nat) (o i : Int) (r : Nat) (u0 u1 d : Value) (Q : World → Prop) (n0 : b ≠ p) (n1 : p ≠ b) (n2 : r ≠ p) (n3 : p ≠ r) (n4 : r ≠ b) (n5 : b ≠ r) (c0 : w.cell? ⟨b, 0, none⟩ = some u0) (c1 : w.cell? ⟨b, 1, none⟩ = some u1) (c2 : w.cell? ⟨b, 2, none⟩ = some (.map (some m))) (cz : ∀ k, w.frozen? ⟨b, k, none⟩ = false)
  (p0 : w.cell? ⟨p, 0, none⟩ = some (.int .i64 o)) (p1 : w.cell? ⟨p, 1, none⟩ = some (.int .i64 i)) (p2 : w.cell? ⟨p, 2, none⟩ = some d) (p3 : w.cell? ⟨p, 3, none⟩ = some (.pointer none)) (p4 : w.cell? ⟨p, 4, none⟩ = some (.pointer (some ⟨r, 0, none⟩))) (pz : ∀ k, w.frozen? ⟨p, k, none⟩ = false)
  (v3 : Value) (r3 : w.cell? ⟨r, 3, none⟩ = some v3) (rz : ∀ k, w.frozen? ⟨r, k, none⟩ = false)
  (hQ : ∀ W, W.heap = ((w.setCell ⟨b, 0, none⟩ (.pointer (some ⟨r, 0, none⟩))).setCell ⟨r, 3, none⟩ (.pointer none)).heap → W.os = w.os → W.tape = w.tape → W.output = w.output → ∃ W', (Builtin.delete_ #[120, 30] 0 #[.map (some m), slV o i]).run Tryz.prog W = .ok (.tuple #[]) W' ∧ Q W') :
  Calls Tryz.prog 106 #[.pointer (some ⟨b, 0, none⟩), .pointer (some ⟨p, 0, none⟩)] w fun e w' => (∃ v, e = .returned v) ∧ Q w' := by
 obtain ⟨W', hr, hQ⟩ := hQ ((w.setCell ⟨b, 0, none⟩ (.pointer (some ⟨r, 0, none⟩))).setCell ⟨r, 3, none⟩ (.pointer none)).drew.drew rfl rfl rfl rfl
 have HQ := hid hQ
 clear hQ
 go_enter Tryz.func106, Tryz.ntmps106
 go_upto_region 5 with fail
 go_region
 all_goals
  go_upto_region 6 with fail
  go_region
  all_goals
   go_wp2
   go_end0
   exact ⟨⟨_, rfl⟩, HQ.out⟩
theorem unlink_wC (w : World) (b p m : Nat) (o i : Int) (s : Nat) (u0 u1 d : Value) (Q : World → Prop) (n0 : b ≠ p) (n1 : p ≠ b) (n2 : s ≠ p) (n3 : p ≠ s) (n4 : s ≠ b) (n5 : b ≠ s) (c0 : w.cell? ⟨b, 0, none⟩ = some u0) (c1 : w.cell? ⟨b, 1, none⟩ = some u1) (c2 : w.cell? ⟨b, 2, none⟩ = some (.map (some m))) (cz : ∀ k, w.frozen? ⟨b, k, none⟩ = false)
  (p0 : w.cell? ⟨p, 0, none⟩ = some (.int .i64 o)) (p1 : w.cell? ⟨p, 1, none⟩ = some (.int .i64 i)) (p2 : w.cell? ⟨p, 2, none⟩ = some d) (p3 : w.cell? ⟨p, 3, none⟩ = some (.pointer (some ⟨s, 0, none⟩))) (p4 : w.cell? ⟨p, 4, none⟩ = some (.pointer none)) (pz : ∀ k, w.frozen? ⟨p, k, none⟩ = false)
  (v4 : Value) (s4 : w.cell? ⟨s, 4, none⟩ = some v4) (sz : ∀ k, w.frozen? ⟨s, k, none⟩ = false)
  (hQ : ∀ W, W.heap = ((w.setCell ⟨s, 4, none⟩ (.pointer none)).setCell ⟨b, 1, none⟩ (.pointer (some ⟨s, 0, none⟩))).heap → W.os = w.os → W.tape = w.tape → W.output = w.output → ∃ W', (Builtin.delete_ #[120, 30] 0 #[.map (some m), slV o i]).run Tryz.prog W = .ok (.tuple #[]) W' ∧ Q W') :
  Calls Tryz.prog 106 #[.pointer (some ⟨b, 0, none⟩), .pointer (some ⟨p, 0, none⟩)] w fun e w' => (∃ v, e = .returned v) ∧ Q w' := by
 obtain ⟨W', hr, hQ⟩ := hQ ((w.setCell ⟨s, 4, none⟩ (.pointer none)).setCell ⟨b, 1, none⟩ (.pointer (some ⟨s, 0, none⟩))).drew.drew rfl rfl rfl rfl
 have HQ := hid hQ
 clear hQ
 go_enter Tryz.func106, Tryz.ntmps106
 go_upto_region 2 with fail
 go_region
 all_goals
  go_upto_region 6 with fail
  go_region
  all_goals
   go_wp2
   go_end0
   exact ⟨⟨_, rfl⟩, HQ.out⟩
theorem unlink_wD (w : World) (b p m : Nat) (o i : Int) (s : Nat) (r : Nat) (u0 u1 d : Value) (Q : World → Prop) (n0 : b ≠ p) (n1 : p ≠ b) (n2 : s ≠ p) (n3 : p ≠ s) (n4 : s ≠ b) (n5 : b ≠ s) (n6 : r ≠ p) (n7 : p ≠ r) (n8 : r ≠ b) (n9 : b ≠ r) (n10 : s ≠ r) (n11 : r ≠ s) (c0 : w.cell? ⟨b, 0, none⟩ = some u0) (c1 : w.cell? ⟨b, 1, none⟩ = some u1) (c2 : w.cell? ⟨b, 2, none⟩ = some (.map (some m))) (cz : ∀ k, w.frozen? ⟨b, k, none⟩ = false)
  (p0 : w.cell? ⟨p, 0, none⟩ = some (.int .i64 o)) (p1 : w.cell? ⟨p, 1, none⟩ = some (.int .i64 i)) (p2 : w.cell? ⟨p, 2, none⟩ = some d) (p3 : w.cell? ⟨p, 3, none⟩ = some (.pointer (some ⟨s, 0, none⟩))) (p4 : w.cell? ⟨p, 4, none⟩ = some (.pointer (some ⟨r, 0, none⟩))) (pz : ∀ k, w.frozen? ⟨p, k, none⟩ = false)
  (v4 : Value) (s4 : w.cell? ⟨s, 4, none⟩ = some v4) (sz : ∀ k, w.frozen? ⟨s, k, none⟩ = false)
  (v3 : Value) (r3 : w.cell? ⟨r, 3, none⟩ = some v3) (rz : ∀ k, w.frozen? ⟨r, k, none⟩ = false)
  (hQ : ∀ W, W.heap = ((w.setCell ⟨s, 4, none⟩ (.pointer (some ⟨r, 0, none⟩))).setCell ⟨r, 3, none⟩ (.pointer (some ⟨s, 0, none⟩))).heap → W.os = w.os → W.tape = w.tape → W.output = w.output → ∃ W', (Builtin.delete_ #[120, 30] 0 #[.map (some m), slV o i]).run Tryz.prog W = .ok (.tuple #[]) W' ∧ Q W') :
  Calls Tryz.prog 106 #[.pointer (some ⟨b, 0, none⟩), .pointer (some ⟨p, 0, none⟩)] w fun e w' => (∃ v, e = .returned v) ∧ Q w' := by
 obtain ⟨W', hr, hQ⟩ := hQ ((w.setCell ⟨s, 4, none⟩ (.pointer (some ⟨r, 0, none⟩))).setCell ⟨r, 3, none⟩ (.pointer (some ⟨s, 0, none⟩))).drew.drew.drew rfl rfl rfl rfl
 have HQ := hid hQ
 clear hQ
 go_enter Tryz.func106, Tryz.ntmps106
 go_upto_region 2 with fail
 go_region
 all_goals
  go_upto_region 5 with fail
  go_region
  all_goals
   go_upto_region 6 with fail
   go_region
   all_goals
    go_wp2
    go_end0
    exact ⟨⟨_, rfl⟩, HQ.out⟩
end
section
open Go.ChangeShapes Go.WideShapes Go.ChangeAt Go.RowKit Go.MapKept Go.ChangeMaps
section
variable {α : Type}
theorem del_lo {a : List α} {k j : Nat} (h : j < k) : (a.eraseIdx k)[j]? = a[j]? := by rw [List.getElem?_eraseIdx, if_pos h]
theorem del_hi {a : List α} {k j : Nat} (h : k ≤ j) : (a.eraseIdx k)[j]? = a[j + 1]? := by rw [List.getElem?_eraseIdx, if_neg (by omega)]
end
theorem prv_del_lo {ps : List Nat} {k j : Nat} (h : j ≤ k) : prv (ps.eraseIdx k) j = prv ps j := by
 cases j with
 | zero => rfl
 | succ j => exact del_lo (by omega)
theorem prv_del_hi {ps : List Nat} {k j : Nat} (h : k < j) : prv (ps.eraseIdx k) j = prv ps (j + 1) := by
 obtain ⟨i, rfl⟩ : ∃ i, j = i + 1 := ⟨j - 1, by omega⟩
 exact del_hi (by omega)
def back (k j : Nat) : Nat := if j < k then j else j + 1
theorem del_back {α : Type} {a : List α} {k j : Nat} : (a.eraseIdx k)[j]? = a[back k j]? := by
 unfold back
 split
 ·rename_i h; exact del_lo h
 ·rename_i h; exact del_hi (by omega)
theorem back_ne (k j : Nat) : back k j ≠ k := by unfold back; split <;> omega
theorem back_inj {k i j : Nat} (h : back k i = back k j) : i = j := by
 unfold back at h
 split at h <;> split at h <;> omega
theorem del_tree {w W : World} {B b m n : Nat} {ps : List Nat} {l : List Nod} {f : Int → Int → Option Nat} {p k : Nat} {x : Nod} (h : TreeAt w B b m n ps l f) (hk : ps[k]? = some p) (hx : l[k]? = some x)
  (hb : W.heap[b]? = some (treeO (if k = 0 then ps[1]? else ps[0]?) (if k + 1 = ps.length then prv ps k else prv ps ps.length) m))
  (hpv : ∀ (j r : Nat) (y : Nod), k = j + 1 → ps[j]? = some r → l[j]? = some y → W.heap[r]? = some (placeO y (prv ps j) ps[k + 1]?))
  (hnx : ∀ (r : Nat) (y : Nod), ps[k + 1]? = some r → l[k + 1]? = some y → W.heap[r]? = some (placeO y (prv ps k) ps[k + 2]?))
  (hot : ∀ j r : Nat, ps[j]? = some r → j ≠ k → j + 1 ≠ k → j ≠ k + 1 → W.heap[r]? = w.heap[r]?)
  (hm : MapS W m n (fdel f x.o x.i)) : TreeAt W B b m n (ps.eraseIdx k) (l.eraseIdx k) (fdel f x.o x.i) := by
 have hkl : k < ps.length := (lgs hk).1
 have hll := h.len
 have hl1 : (ps.eraseIdx k).length = ps.length - 1 := by rw [List.length_eraseIdx, if_pos hkl]
 have hl2 : (l.eraseIdx k).length = l.length - 1 := by rw [List.length_eraseIdx, if_pos (by omega)]
 have hle := h.le
 refine ⟨by omega, by omega, ?_, ?_, ?_, h.gb, h.gm, ?_, ?_, ?_, hm, ?_⟩
 ·rw [hb, hl1]
  congr 2
  ·by_cases e : k = 0
   ·subst e; rw [if_pos rfl, del_hi (Nat.le_refl _)]
   ·rw [if_neg e, del_lo (by omega)]
  ·by_cases e : k + 1 = ps.length
   ·rw [if_pos e, prv_del_lo (by omega), show ps.length - 1 = k by omega]
   ·rw [if_neg e, prv_del_hi (by omega), show ps.length - 1 + 1 = ps.length by omega]
 ·intro j r y hr hy
  rcases Nat.lt_or_ge j k with e | e
  ·rw [del_lo e] at hr hy
   rw [prv_del_lo (by omega)]
   by_cases e2 : j + 1 = k
   ·rw [e2, del_hi (Nat.le_refl _)]
    exact hpv j r y e2.symm hr hy
   ·rw [del_lo (by omega)]
    exact (hot j r hr (by omega) e2 (by omega)).trans (h.row j r y hr hy)
  ·rw [del_hi e] at hr hy
   rw [del_hi (by omega)]
   by_cases e2 : j = k
   ·subst e2
    rw [prv_del_lo (Nat.le_refl _)]
    exact hnx r y hr hy
   ·rw [prv_del_hi (by omega)]
    exact (hot (j + 1) r hr (by omega) (by omega) (by omega)).trans (h.row (j + 1) r y hr hy)
 ·intro i j r hi hj
  rw [del_back] at hi hj
  exact back_inj (h.inj _ _ _ hi hj)
 ·intro i r hi
  rw [del_back] at hi
  exact h.gp _ _ hi
 ·intro i j y z hi hj h1 h2
  rw [del_back] at hi hj
  exact back_inj (h.slots _ _ _ _ hi hj h1 h2)
 ·intro i y hi
  rw [del_back] at hi
  exact h.ins _ _ hi
 ·intro o i r ho hi
  unfold fdel
  constructor
  ·intro hr
   split at hr
   ·cases hr
   ·rename_i hne
    obtain ⟨j, y, h1, h2, h3⟩ := (h.finds o i r ho hi).1 hr
    have hjk : j ≠ k := by
     rintro rfl
     rw [hx] at h2
     cases h2
     exact hne ⟨h3.1.symm, h3.2.symm⟩
    rcases Nat.lt_or_ge j k with e | e
    ·exact ⟨j, y, (del_lo e).trans h1, (del_lo e).trans h2, h3⟩
    ·obtain ⟨i', rfl⟩ : ∃ i', j = i' + 1 := ⟨j - 1, by omega⟩
     exact ⟨i', y, (del_hi (by omega)).trans h1, (del_hi (by omega)).trans h2, h3⟩
  ·rintro ⟨j, y, h1, h2, h3⟩
   rw [del_back] at h1 h2
   rw [if_neg ?_]
   ·exact (h.finds o i r ho hi).2 ⟨_, y, h1, h2, h3⟩
   ·rintro ⟨rfl, rfl⟩
    exact back_ne k j (h.slots _ _ _ _ h2 hx h3.1 h3.2)
abbrev unlW (w : World) (A C : Addr) (v1 v2 : Value) : World := (w.setCell A v1).setCell C v2
theorem unl_end {w : World} {B b m n : Nat} {ps : List Nat} {l : List Nod} {f : Int → Int → Option Nat} {p k : Nat} {x : Nod} {A C : Addr} {v1 v2 : Value} (h : TreeAt w B b m n ps l f) (hk : ps[k]? = some p) (hx : l[k]? = some x)
  (hA : foot b m ps A.block) (hC : foot b m ps C.block) (hAm : m ≠ A.block) (hCm : m ≠ C.block)
  (hb : (unlW w A C v1 v2).heap[b]? = some (treeO (if k = 0 then ps[1]? else ps[0]?) (if k + 1 = ps.length then prv ps k else prv ps ps.length) m))
  (hpv : ∀ (j r : Nat) (y : Nod), k = j + 1 → ps[j]? = some r → l[j]? = some y → (unlW w A C v1 v2).heap[r]? = some (placeO y (prv ps j) ps[k + 1]?))
  (hnx : ∀ (r : Nat) (y : Nod), ps[k + 1]? = some r → l[k + 1]? = some y → (unlW w A C v1 v2).heap[r]? = some (placeO y (prv ps k) ps[k + 2]?))
  (hot : ∀ j r : Nat, ps[j]? = some r → j ≠ k → j + 1 ≠ k → j ≠ k + 1 → r ≠ A.block ∧ r ≠ C.block) :
  ∀ W, W.heap = (unlW w A C v1 v2).heap → W.os = w.os → W.tape = w.tape → W.output = w.output → ∃ W', (Builtin.delete_ #[120, 30] 0 #[.map (some m), slV x.o x.i]).run Tryz.prog W = .ok (.tuple #[]) W' ∧
   (TreeAt W' B b m n (ps.eraseIdx k) (l.eraseIdx k) (fdel f x.o x.i) ∧ TOnly w W' b m ps (ps.eraseIdx k)) := by
 intro W hW hos htp hou
 have hoth : ∀ r, r ≠ A.block → r ≠ C.block → W.heap[r]? = w.heap[r]? := fun r a c => by
  rw [hW, Go.heap_setCell_other _ _ _ _ c, Go.heap_setCell_other _ _ _ _ a]
 rw [← hW] at hb hpv hnx
 have hsz : W.heap.size = w.heap.size := by rw [hW]; simp
 have hmW : MapS W m n f := h.map.of_block (hoth m hAm hCm)
 obtain ⟨ho, hi, _⟩ := h.ins k x hx
 obtain ⟨W', hr, hm', ht⟩ := hmW.del ho hi 0
 obtain ⟨es, c, es', c', hmb, e⟩ := ht
 have hkk : ∀ j, j ≠ m → W'.heap[j]? = W.heap[j]? := fun j hj => by rw [e]; exact heap_setBlock_other hmb _ hj
 have hbm := map_head h.head h.map
 have hne : ∀ (j r : Nat), ps[j]? = some r → r ≠ m := by
  intro j r hr9 e9
  obtain ⟨y, hy⟩ := get_len h.len hr9
  exact map_place (h.row j r y hr9 hy) h.map e9.symm
 refine ⟨W', hr, del_tree h hk hx ?_ ?_ ?_ ?_ hm', ?_, ?_, ?_, ?_, ?_, ?_⟩
 ·exact (hkk b (fun e => hbm e.symm)).trans hb
 ·intro j r y e hr hy
  exact (hkk r (hne j r hr)).trans (hpv j r y e hr hy)
 ·intro r y hr hy
  exact (hkk r (hne _ r hr)).trans (hnx r y hr hy)
 ·intro j r hr e1 e2 e3
  have := hot j r hr e1 e2 e3
  exact (hkk r (hne j r hr)).trans (hoth r this.1 this.2)
 ·rw [e]; exact hos
 ·rw [e]; exact htp
 ·rw [e]; exact hou
 ·rw [e]; simp [setBlock, hsz]
 ·intro j hj hf
  exact (hkk j (fun e => hf (.inr (.inl e)))).trans (hoth j (fun e => hf (e ▸ hA)) (fun e => hf (e ▸ hC)))
 ·intro j hj hf
  rcases hf with rfl | rfl | ⟨i, hi⟩
  ·exact .inl rfl
  ·exact .inr (.inl rfl)
  ·rw [del_back] at hi
   exact foot_at hi
theorem unlink_any (w : World) (B b m n : Nat) (ps : List Nat) (l : List Nod) (f : Int → Int → Option Nat) (p k : Nat) (x : Nod) (h : TreeAt w B b m n ps l f) (hk : ps[k]? = some p) (hx : l[k]? = some x) :
  Calls Tryz.prog 106 #[.pointer (some ⟨b, 0, none⟩), .pointer (some ⟨p, 0, none⟩)] w fun e w' => (∃ v, e = .returned v) ∧ TreeAt w' B b m n (ps.eraseIdx k) (l.eraseIdx k) (fdel f x.o x.i) ∧ TOnly w w' b m ps (ps.eraseIdx k) := by
 have hp := h.row k p x hk hx
 have hbp := head_place h.head hp
 have hmb := map_head h.head h.map
 obtain ⟨c0, c1, c2, cz⟩ := head_cells h.head
 obtain ⟨p0, p1, p2, p3, p4, pz⟩ := place_cells hp
 have hrow := h.row
 have hl := h.len
 have hkl : k < ps.length := (lgs hk).1
 have hnb : ∀ (j r : Nat), ps[j]? = some r → r ≠ b := by
  rintro j r hr rfl
  obtain ⟨y', hy'⟩ := get_len hl hr
  exact head_place h.head (hrow j _ y' hr hy') rfl
 rcases Nat.eq_zero_or_pos k with rfl | hk0
 ·cases hn1 : ps[1]? with
  | none =>
   have hlen : ps.length = 1 := by have := List.getElem?_eq_none_iff.1 hn1; omega
   rw [hn1] at p4
   refine unlink_wA w b p m x.o x.i _ _ _ _ hbp hbp.symm c0 c1 c2 cz p0 p1 p2 p3 p4 pz (unl_end h hk hx (.inl rfl) (.inl rfl) hmb hmb ?_ ?_ ?_ ?_)
   ·rw [if_pos rfl, if_pos hlen.symm, hn1]
    exact Go.heap_setCell_same _ _ _ _ _ _ (Go.heap_setCell_same _ _ _ _ _ _ h.head)
   ·intro j r y e; omega
   ·intro r y hr; rw [hn1] at hr; cases hr
   ·intro j r hr e1; have := (lgs hr).1; omega
  | some r =>
   obtain ⟨y, hy⟩ := get_len hl hn1
   have hr := hrow 1 r y hn1 hy
   obtain ⟨r0, r1, r2, r3, r4, rz⟩ := place_cells hr
   have hbr := head_place h.head hr
   have hmr := map_place hr h.map
   have hrp : r ≠ p := by rintro rfl; have := h.inj _ _ _ hn1 hk; omega
   have hlen : 1 < ps.length := (lgs hn1).1
   rw [hn1] at p4
   refine unlink_wB w b p m x.o x.i r _ _ _ _ hbp hbp.symm hrp hrp.symm hbr.symm hbr c0 c1 c2 cz p0 p1 p2 p3 p4 pz _ r3 rz (unl_end h hk hx (.inl rfl) (foot_at hn1) hmb hmr ?_ ?_ ?_ ?_)
   ·rw [if_pos rfl, if_neg (by omega), hn1]
    exact (Go.heap_setCell_other _ _ _ _ hbr).trans (Go.heap_setCell_same _ _ _ _ _ _ h.head)
   ·intro j r y e; omega
   ·intro r' y' hr' hy'
    rw [hn1] at hr'
    cases hr'
    rw [hy] at hy'
    cases hy'
    exact Go.heap_setCell_same _ _ _ _ _ _ ((Go.heap_setCell_other _ _ _ _ hbr.symm).trans hr)
   ·intro j r' hr' e1 _ e3
    exact ⟨hnb j r' hr', by rintro rfl; exact e3 (h.inj _ _ _ hr' hn1)⟩
 ·obtain ⟨q, rfl⟩ : ∃ q, k = q + 1 := ⟨k - 1, by omega⟩
  obtain ⟨s, hs⟩ : ∃ s, ps[q]? = some s := ⟨ps[q]'(by omega), List.getElem?_eq_getElem _⟩
  obtain ⟨y, hy⟩ := get_len hl hs
  have hsr := hrow q s y hs hy
  obtain ⟨s0, s1, s2, s3, s4, sz⟩ := place_cells hsr
  have hbs := head_place h.head hsr
  have hms := map_place hsr h.map
  have hsp : s ≠ p := by rintro rfl; have := h.inj _ _ _ hs hk; omega
  have hpr : prv ps (q + 1) = some s := hs
  rw [hpr] at p3
  cases hn1 : ps[q + 1 + 1]? with
  | none =>
   have hlen : q + 1 + 1 = ps.length := by have := List.getElem?_eq_none_iff.1 hn1; omega
   rw [hn1] at p4
   refine unlink_wC w b p m x.o x.i s _ _ _ _ hbp hbp.symm hsp hsp.symm hbs.symm hbs c0 c1 c2 cz p0 p1 p2 p3 p4 pz _ s4 sz (unl_end h hk hx (foot_at hs) (.inl rfl) hms hmb ?_ ?_ ?_ ?_)
   ·rw [if_neg (by omega), if_pos hlen, hpr]
    exact Go.heap_setCell_same _ _ _ _ _ _ ((Go.heap_setCell_other _ _ _ _ hbs).trans h.head)
   ·intro j r' y' e hr' hy'
    obtain rfl : q = j := by omega
    rw [hs] at hr'
    cases hr'
    rw [hy] at hy'
    cases hy'
    rw [hn1]
    exact (Go.heap_setCell_other _ _ _ _ hbs.symm).trans (Go.heap_setCell_same _ _ _ _ _ _ hsr)
   ·intro r y hr; rw [hn1] at hr; cases hr
   ·intro j r' hr' e1 e2 _
    exact ⟨by rintro rfl; exact e2 (by rw [h.inj _ _ _ hr' hs]), hnb j r' hr'⟩
  | some r =>
   obtain ⟨z, hz⟩ := get_len hl hn1
   have hr := hrow _ r z hn1 hz
   obtain ⟨r0, r1, r2, r3, r4, rz⟩ := place_cells hr
   have hbr := head_place h.head hr
   have hmr := map_place hr h.map
   have hrp : r ≠ p := by rintro rfl; have := h.inj _ _ _ hn1 hk; omega
   have hrs : r ≠ s := by rintro rfl; have := h.inj _ _ _ hn1 hs; omega
   have hlen : q + 1 + 1 < ps.length := (lgs hn1).1
   rw [hn1] at p4
   refine unlink_wD w b p m x.o x.i s r _ _ _ _ hbp hbp.symm hsp hsp.symm hbs.symm hbs hrp hrp.symm hbr.symm hbr hrs.symm hrs c0 c1 c2 cz p0 p1 p2 p3 p4 pz _ s4 sz _ r3 rz (unl_end h hk hx (foot_at hs) (foot_at hn1) hms hmr ?_ ?_ ?_ ?_)
   ·rw [if_neg (by omega), if_neg (by omega)]
    exact (Go.heap_setCell_other _ _ _ _ hbr).trans ((Go.heap_setCell_other _ _ _ _ hbs).trans h.head)
   ·intro j r' y' e hr' hy'
    obtain rfl : q = j := by omega
    rw [hs] at hr'
    cases hr'
    rw [hy] at hy'
    cases hy'
    rw [hn1]
    exact (Go.heap_setCell_other _ _ _ _ hrs.symm).trans (Go.heap_setCell_same _ _ _ _ _ _ hsr)
   ·intro r' y' hr' hy'
    rw [hn1] at hr'
    cases hr'
    rw [hz] at hy'
    cases hy'
    rw [hpr]
    exact Go.heap_setCell_same _ _ _ _ _ _ ((Go.heap_setCell_other _ _ _ _ hrs).trans hr)
   ·intro j r' hr' e1 e2 e3
    exact ⟨by rintro rfl; exact e2 (by rw [h.inj _ _ _ hr' hs]), by rintro rfl; exact e3 (h.inj _ _ _ hr' hn1)⟩
end
end Go.Proofs.YtchjfeafkmpmbaaGreatDoor
