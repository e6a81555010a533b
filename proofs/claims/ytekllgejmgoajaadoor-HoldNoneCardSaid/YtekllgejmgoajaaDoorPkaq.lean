import Derived.Test.YtekllgejmgoajaaDoorPkam
import Derived.Test.YtekllgejmgoajaaDoorPkao
import Derived.Test.YtekllgejmgoajaaDoorPkap
import Derived.OwnWalkIn
import Derived.TacticsInMore
import Derived.LoopNIn
import Derived.LoopIn
import Derived.Stop.RegionWithIn
import Derived.Laws.MakeOwn
import Derived.Maps.OwnIn
import Derived.Deep.CutRange
namespace Go.Proofs.YtekllgejmgoajaaDoor
set_option linter.unusedVariables false
set_option linter.unusedSimpArgs false
set_option maxRecDepth 100000
set_option maxHeartbeats 8000000
open Lib (hid)
section
section
open Go.ChangeShapes Go.WideShapes Go.ChangeAt Go.RowKit Go.Shelf
attribute [local go_sem] Oper.semAt_some
namespace TabS
structure Hd where
 n : Int
 i : Nat
 c : Cp
abbrev Hd.V (x : Hd) : Value := .agg #[.int .i64 x.n, .int .i64 x.i, .int .i64 x.c.a, .int .i64 x.c.b, .int .i64 x.c.c, .int .u64 x.c.d, .int .i64 x.c.e, .int .i64 x.c.f, .int .i64 x.c.g, .int .i64 x.c.h]
def heldL (id : Int) : Nat → List Cp → List Hd
 | _, [] => []
 | o, c :: t => if c.a = 0 then heldL id (o + 1) t else ⟨id, o, c⟩ :: heldL id (o + 1) t
theorem heldL_append (id : Int) : ∀ (l m : List Cp) (o : Nat), heldL id o (l ++ m) = heldL id o l ++ heldL id (o + l.length) m
 | [], m, o => by simp [heldL]
 | c :: t, m, o => by
  have e : o + (c :: t).length = o + 1 + t.length := by simp; omega
  by_cases h : c.a = 0
  ·simp only [List.cons_append, heldL, if_pos h, heldL_append id t m (o + 1), e]
  ·simp only [List.cons_append, heldL, if_neg h, heldL_append id t m (o + 1), e]
def cntH (id : Int) (l : List Cp) (k : Nat) : Nat := (heldL id 0 (l.take k)).length
theorem cntH_all (id : Int) (l : List Cp) : cntH id l l.length = (heldL id 0 l).length := by unfold cntH; rw [List.take_length]
theorem held_split {id : Int} {l : List Cp} {k : Nat} {c : Cp} (h : l[k]? = some c) : heldL id 0 l = heldL id 0 (l.take k) ++ heldL id k (c :: l.drop (k + 1)) := by
 obtain ⟨hk, hc⟩ := lgs h
 have e : l = l.take k ++ c :: l.drop (k + 1) := by
  conv => lhs; rw [← List.take_append_drop k l, List.drop_eq_getElem_cons hk, hc]
 conv => lhs; rw [e]
 rw [heldL_append, List.length_take, Nat.min_eq_left (by omega), Nat.zero_add]
theorem cntH_succ {id : Int} {l : List Cp} {k : Nat} {c : Cp} (h : l[k]? = some c) : cntH id l (k + 1) = if c.a = 0 then cntH id l k else cntH id l k + 1 := by
 unfold cntH
 rw [List.take_add_one, h, Option.toList_some, heldL_append]
 by_cases e : c.a = 0
 ·simp [heldL, e]
 ·simp [heldL, e]
theorem held_at {id : Int} {l : List Cp} {k : Nat} {c : Cp} (h : l[k]? = some c) (ha : c.a ≠ 0) : (heldL id 0 l)[cntH id l k]? = some ⟨id, k, c⟩ := by
 rw [held_split h, List.getElem?_append_right (by unfold cntH; omega)]
 unfold cntH
 simp [heldL, ha]
def hdAt (H : List Hd) (k : Nat) : Hd := H[k]?.getD ⟨0, 0, zC⟩
theorem hdAt_eq {H : List Hd} {k : Nat} {x : Hd} (h : H[k]? = some x) : hdAt H k = x := by unfold hdAt; rw [h]; rfl
theorem held_in (n : Nat) (id : Int) (g m : Nat) (w : World) :
  CallsIn Fence.wide n Tryd.prog 57 #[.int .i64 id, .slice (some ⟨g, 0, none⟩) m m] w fun e w' => e = .returned (.func (.func 72) #[] #[.pointer (some ⟨w.heap.size + 1, 0, none⟩), .pointer (some ⟨w.heap.size, 0, none⟩)]) ∧ w' = (w.alloc (.cells #[.int .i64 id] 3)).alloc (.cells #[.slice (some ⟨g, 0, none⟩) m m] 92) := by
 refine callsIn_of_wp Tryd.func57 rfl trivial ?_ rfl
 simp only [Tryd.ntmps57, List.size_toArray, List.length_cons, List.length_nil, Nat.reduceAdd, Nat.reduceSub, Array.replicate_succ, Array.replicate_zero, List.push_toArray, List.append_toArray, List.nil_append, List.cons_append]
 gi_wp2
 go_ret
 exact ⟨rfl, rfl⟩
theorem held1_px (E : TypeId) (q cb nb g n B : Nat) (id : Int) (l : List Cp) (I : Nat → World → Prop) (hn : l.length = n) (hl : n ≤ 16)
  (hI : ∀ k U, I k U → U.cell? ⟨cb, 0, none⟩ = some (.slice (some ⟨g, 0, none⟩) n n) ∧ U.cell? ⟨nb, 0, none⟩ = some (.int .i64 id) ∧ U.heap[g]? = some (.cells (flatC l).toArray 26 (0, 0))) :
  SeqPx E Fence.wide (q + 1) Tryd.prog 72 #[.pointer (some ⟨cb, 0, none⟩), .pointer (some ⟨nb, 0, none⟩)] (fun k => #[(hdAt (heldL id 0 l) k).V]) I (heldL id 0 l).length B := by
 intro y J Jx W hBW hAb hAx hJI hY h0
 have hR0 := hI _ _ (hJI _ _ h0)
 have hbc := hR0.1
 have HY := Lib.hid hY
 have HAB := Lib.hid hAb
 have HI := Lib.hid (fun k W h => hI k W (hJI k W h))
 have HN := Lib.hid hn
 clear hY hAb hAx hI hJI hR0 hn
 refine callsIn_of_wp Tryd.func72 rfl trivial ?_ rfl
 simp only [Tryd.ntmps72, List.size_toArray, List.length_cons, List.length_nil, Nat.reduceAdd, Nat.reduceSub, Array.replicate_succ, Array.replicate_zero, List.push_toArray, List.append_toArray, List.nil_append, List.cons_append]
 gi_wp2
 clear hbc
 gi_loopw [4, 5, 8] (fun i c x wr => ∃ k : Nat, k ≤ n ∧ x = .int .i64 k ∧ J (cntH id l k) wr) (fun i c x _ => n - (intOf x).toNat)
 case atStart => exact ⟨0, by omega, rfl, h0⟩
 case round =>
  obtain ⟨k, hk, rfl, hJ⟩ := hrel
  obtain ⟨-, bn, hmr⟩ := HI.out _ _ hJ
  by_cases hlt : k < n
  ·have hltI : (k : Int) < n := by omega
   obtain ⟨c, hc⟩ : ∃ c, l[k]? = some c := ⟨_, List.getElem?_eq_getElem (by have := HN.out; omega)⟩
   have lmr : g < wr.heap.size := (ags hmr).1
   have lnr : nb < wr.heap.size := World.block_lt_of_cell? wr _ bn
   have hz : ∀ (j : Nat) (u : Value), c.L[j]? = some u → wr.cell? ⟨g, k * 8 + j, none⟩ = some u := fun j u hu => by
    rw [cell_of_row _ _ _ _ _ _ hmr]
    simpa using flatC_get hc hu
   have z0 := hz 0 _ rfl
   rw [Nat.add_zero] at z0
   have z1 := hz 1 _ rfl
   have z2 := hz 2 _ rfl
   have z3 := hz 3 _ rfl
   have z4 := hz 4 _ rfl
   have z5 := hz 5 _ rfl
   have z6 := hz 6 _ rfl
   have z7 := hz 7 _ rfl
   have hja : ∀ o, J (cntH id l k) (wr.alloc o) := fun o => HAB.out.alloc o hJ
   have HJA := Lib.hid hja
   have hs := cntH_succ (id := id) hc
   have HS := Lib.hid hs
   have HC := Lib.hid hc
   clear hz hmr hja hs hJ
   by_cases ha : c.a = 0
   ·rw [ha] at z0
    clear hc
    gi_wp2
    refine ⟨fun _ h => (by cases h), ?_⟩
    gi_wp2
    go_roundw
    case rel => exact ⟨k + 1, by omega, by go_num, by rw [HS.out, if_pos ha]; exact HJA.out _⟩
    case measure => first | (simp [intOf]; done) | (simp [intOf]; omega)
   ·have hat := held_at (id := id) hc ha
    have hNl : cntH id l k < (heldL id 0 l).length := (lgs hat).1
    obtain ⟨fn, tmps, assign, body, hy, hR⟩ := HY.out (cntH id l k) (wr.alloc (.cells #[.int .i64 c.a, .int .i64 c.b, .int .i64 c.c, .int .u64 c.d, .int .i64 c.e, .int .i64 c.f, .int .i64 c.g, .int .i64 c.h] 26)) hNl (HJA.out _)
    rw [hdAt_eq hat] at hy
    (try dsimp only at hy)
    have HR := Lib.hid (hR.mono (fun e W' h => two_ways (A := fun W' => J (cntH id l k + 1) W' ∧ HiKept E W.heap.size (wr.alloc (.cells #[.int .i64 c.a, .int .i64 c.b, .int .i64 c.c, .int .u64 c.d, .int .i64 c.e, .int .i64 c.f, .int .i64 c.g, .int .i64 c.h] 26)) W') (B := fun W' => Jx (cntH id l k) W' ∧ HiKept E W.heap.size (wr.alloc (.cells #[.int .i64 c.a, .int .i64 c.b, .int .i64 c.c, .int .u64 c.d, .int .i64 c.e, .int .i64 c.f, .int .i64 c.g, .int .i64 c.h] 26)) W') h))
    clear hR hc hat
    gi_wp2
    refine HR.out.mono ?_
    rintro e W' ⟨t, rfl, ht⟩
    cases t
    ·have hJx := ht.2 rfl
     gi_wp2
     first
      | refine bodyPost_ret (results_none rfl _ _ _) rfl ?_
      | go_end0
     exact ⟨⟨_, rfl⟩, .inr ⟨_, hNl, hJx.1⟩⟩
    ·obtain ⟨hJ', hK'⟩ := ht.1 rfl
     gi_wp2
     go_roundw
     case rel => exact ⟨k + 1, by omega, by go_num, by rw [HS.out, if_neg ha]; exact hJ'⟩
     case measure => first | (simp [intOf]; done) | (simp [intOf]; omega)
  ·obtain rfl : k = n := by omega
   have HJ := Lib.hid hJ
   clear hJ hmr bn
   gi_wp2
   go_end0
   refine ⟨⟨_, rfl⟩, .inl ?_⟩
   have := HJ.out
   rw [← HN.out, cntH_all] at this
   exact this
end TabS
end
section
open Go.ChangeShapes Go.WideShapes Go.ChangeAt Go.RowKit Go.Shelf
attribute [local go_sem] Oper.semAt_some
namespace TabS
def heldA (L : List Sn) : List Hd := L.flatMap fun x => heldL x.id 0 x.l
def offA (L : List Sn) (k : Nat) : Nat := (heldA (L.take k)).length
theorem offA_all (L : List Sn) : offA L L.length = (heldA L).length := by unfold offA; rw [List.take_length]
theorem heldA_append (L M : List Sn) : heldA (L ++ M) = heldA L ++ heldA M := by unfold heldA; rw [List.flatMap_append]
theorem offA_succ {L : List Sn} {k : Nat} {x : Sn} (h : L[k]? = some x) : offA L (k + 1) = offA L k + (heldL x.id 0 x.l).length := by
 unfold offA
 rw [List.take_add_one, h, Option.toList_some, heldA_append]
 simp [heldA]
theorem heldA_at {L : List Sn} {k : Nat} {x : Sn} (h : L[k]? = some x) {j : Nat} (hj : j < (heldL x.id 0 x.l).length) : (heldA L)[offA L k + j]? = (heldL x.id 0 x.l)[j]? := by
 obtain ⟨hk, hx⟩ := lgs h
 have e : L = L.take k ++ x :: L.drop (k + 1) := by
  conv => lhs; rw [← List.take_append_drop k L, List.drop_eq_getElem_cons hk, hx]
 have e2 : heldA L = heldA (L.take k) ++ (heldL x.id 0 x.l ++ heldA (L.drop (k + 1))) := by
  conv => lhs; rw [e, heldA_append]
  rfl
 rw [e2, List.getElem?_append_right (by unfold offA; omega), List.getElem?_append_left (by unfold offA; omega)]
 congr 1
 unfold offA
 omega
theorem hdAt_off {L : List Sn} {k : Nat} {x : Sn} (h : L[k]? = some x) {j : Nat} (hj : j < (heldL x.id 0 x.l).length) : hdAt (heldA L) (offA L k + j) = hdAt (heldL x.id 0 x.l) j := by
 unfold hdAt
 rw [heldA_at h hj]
def Hd.cells (x : Hd) : Array Value := #[.int .i64 x.n, .int .i64 x.i, .int .i64 x.c.a, .int .i64 x.c.b, .int .i64 x.c.c, .int .u64 x.c.d, .int .i64 x.c.e, .int .i64 x.c.f, .int .i64 x.c.g, .int .i64 x.c.h]
theorem own_in (n : Nat) (p : Option Addr) (w : World) :
  CallsIn Fence.wide n Tryd.prog 60 #[.pointer p] w fun e w' => e = .returned (.func (.func 74) #[] #[.pointer (some ⟨w.heap.size, 0, none⟩)]) ∧ w' = w.alloc (.cells #[.pointer p] 47) := by
 refine callsIn_of_wp Tryd.func60 rfl trivial ?_ rfl
 simp only [Tryd.ntmps60, List.size_toArray, List.length_cons, List.length_nil, Nat.reduceAdd, Nat.reduceSub, Array.replicate_succ, Array.replicate_zero, List.push_toArray, List.append_toArray, List.nil_append, List.cons_append]
 gi_wp2
 go_ret
 exact ⟨rfl, rfl⟩
structure EachI (eb b : Nat) (v : Value) (L : List Sn) (U : World) : Prop where
 box : U.cell? ⟨eb, 0, none⟩ = some (.pointer (some ⟨b, 0, none⟩))
 tab : U.cell? ⟨b, 0, none⟩ = some v
 row : ∀ g, v.ownBlock = some g → ∀ k x, L[k]? = some x → U.cell? ⟨g, k * 2, none⟩ = some (.int .i64 x.id) ∧ U.cell? ⟨g, k * 2 + 1, none⟩ = some x.v
 blk : ∀ x ∈ L, U.heap[x.g]? = some (.cells (flatC x.l).toArray 26 (0, 0)) ∧ x.l.length ≤ 16
abbrev keyS (L : List Sn) (k : Nat) : Int := (L[k]?.map Sn.id).getD 0
structure InI (E : TypeId) (J : Nat → World → Prop) (l o B N2 C : Nat) (b : Nat) (U0 : World) (id : Int) (g n : Nat) (j : Nat) (U : World) : Prop where
 J : J (o + j) U
 y : U.heap[B]? = some (.cells #[.func (.yield l) #[] #[]] 116 (0, 0))
 p : U.heap[B + 1]? = some (.cells #[.pointer (some ⟨b, 0, none⟩)] 110 (0, 0))
 k : HiKept E N2 U0 U
 i : U.heap[C]? = some (.cells #[.int .i64 id] 3 (0, 0))
 c : U.heap[C + 1]? = some (.cells #[.slice (some ⟨g, 0, none⟩) n n] 92 (0, 0))
 s : C + 2 ≤ U.heap.size
theorem own_px (E : TypeId) (hE1 : (116 == E) = false) (hE2 : (110 == E) = false) (hE3 : (3 == E) = false) (hE4 : (92 == E) = false) (q eb b B : Nat) (v : Value) (L : List Sn) (I : Nat → World → Prop) (hv : (v = .slice none 0 0 ∧ L.length = 0) ∨ ∃ g c, v = .slice (some ⟨g, 0, none⟩) L.length c) (hN : L.length ≤ 1000000)
  (hI : ∀ k W, I k W → EachI eb b v L W) :
  SeqPx E Fence.wide (q + 4) Tryd.prog 74 #[.pointer (some ⟨eb, 0, none⟩)] (fun k => #[(hdAt (heldA L) k).V]) I (heldA L).length B := by
 intro l J Jx W hBW hAb hAx hJI hY h0
 have hK := hI _ _ (hJI _ _ h0)
 have x0 : W.cell? ⟨eb, 0, none⟩ = some (.pointer (some ⟨b, 0, none⟩)) := hK.box
 have e1 : eb < W.heap.size := World.block_lt_of_cell? W _ x0
 have HY := Lib.hid hY
 have HAB := Lib.hid hAb
 have HAX := Lib.hid hAx
 have HIJ := Lib.hid (fun k W h => hI k W (hJI k W h))
 have H0 := Lib.hid h0
 clear hY hAb hAx hJI hI h0 hK
 refine callsIn_of_wp_marks Tryd.func74 rfl trivial ?_ rfl
 simp only [Tryd.ntmps74, List.size_toArray, List.length_cons, List.length_nil, Nat.reduceAdd, Nat.reduceSub, Array.replicate_succ, Array.replicate_zero, List.push_toArray, List.append_toArray, List.nil_append, List.cons_append]
 gi_wp2_with (refine ⟨trivial, ?_⟩; gi_at_call 75; refine (each_in _ b 0 _).mono ?_; rintro e w' ⟨rfl, rfl⟩)
 obtain ⟨W2, hW2⟩ : ∃ x, x = (W.alloc (.cells #[.func (.yield l) #[] #[]] 116)).alloc (.cells #[.pointer (some ⟨b, 0, none⟩)] 110) := ⟨_, rfl⟩
 rw [← hW2]
 have y2 : W2.heap[W.heap.size]? = some (.cells #[.func (.yield l) #[] #[]] 116 (0, 0)) := by rw [hW2]; exact (Below.heap_alloc _ _ _ (by simp)).trans (heap_alloc_new W _)
 have p2 : W2.heap[W.heap.size + 1]? = some (.cells #[.pointer (some ⟨b, 0, none⟩)] 110 (0, 0)) := by
  rw [hW2]
  have := heap_alloc_new (W.alloc (.cells #[.func (.yield l) #[] #[]] 116)) (.cells #[.pointer (some ⟨b, 0, none⟩)] 110)
  rwa [show (W.alloc (.cells #[.func (.yield l) #[] #[]] 116)).heap.size = W.heap.size + 1 by simp] at this
 have hsz : W2.heap.size = W.heap.size + 2 := by rw [hW2]; simp
 have J2 : J 0 W2 := hW2 ▸ HAB.out.alloc _ (HAB.out.alloc _ H0.out)
 clear hW2
 refine wpIn_range_pxH rfl (by simp) (gf := 82) (lb := #[.pointer (some ⟨W.heap.size + 1, 0, none⟩)]) rfl trivial (enters_of Tryd.func82 (by kernel_rfl) rfl)
  (encs := encT v (keyS L)) (N := L.length) E (fun k U => J (offA L k) U ∧ U.heap[W.heap.size]? = some (.cells #[.func (.yield l) #[] #[]] 116 (0, 0)) ∧ U.heap[W.heap.size + 1]? = some (.cells #[.pointer (some ⟨b, 0, none⟩)] 110 (0, 0)) ∧ W2.heap.size ≤ U.heap.size)
  (fun c k U => c = .ret ∧ ∃ j, j < (heldA L).length ∧ Jx j U)
  (eachT_px E (q + 2) (W.heap.size + 1) b 0 L.length _ v (keyS L) _ hv hN (fun k U h => ⟨(cell_box h.2.2.1).1, (HIJ.out _ U h.1).tab, fun g hg j hj => by
   have hx : L[j]? = some (L[j]'hj) := List.getElem?_eq_getElem hj
   have := ((HIJ.out _ U h.1).row g hg j _ hx).1
   rw [this]
   simp [keyS, hx]⟩)) (fun _ => rfl) ?hI ?hIx ⟨J2, y2, p2, Nat.le_refl _⟩
  (fun x => { tmps := #[.func (.yield l) #[] #[], .pointer (some ⟨eb, 0, none⟩), .pointer (some ⟨W.heap.size, 0, none⟩), .int .i64 (keyS L x), .pointer (v.ownBlock.map fun g => ⟨g, x * 2 + 1, none⟩), undef, .pointer (some ⟨b, 0, none⟩), .bool false, .pointer (some ⟨b, 0, none⟩), .pointer (some ⟨b, 0, none⟩), .pointer (some ⟨b, 0, none⟩), .func (.func 82) #[] #[.pointer (some ⟨W.heap.size + 1, 0, none⟩)], .int .i64 (keyS L x), .pointer (v.ownBlock.map fun g => ⟨g, x * 2 + 1, none⟩), undef, undef, undef, undef, undef, undef, undef, undef, undef, undef], defers := [] }) ?hassign ?hbody ?hdone ?hstop
 case hI =>
  intro s A C row h hgr hr
  have hlA : W2.heap.size ≤ A.heap.size := h.2.2.2
  have e : ∀ k, k < W2.heap.size → C.heap[k]? = A.heap[k]? := fun k hk => hgr.block k (by omega) (fun e => by have := (hr k e.symm).1; omega)
  exact ⟨HAB.out _ A C row h.1 hgr (fun r e => ⟨by have := (hr r e).1; omega, (hr r e).2⟩), (e _ (by omega)).trans h.2.1, (e _ (by omega)).trans h.2.2.1, Nat.le_trans hlA hgr.size⟩
 case hIx =>
  intro c s A C row h hgr hr
  obtain ⟨h1, j, hj, h2⟩ := h
  exact ⟨h1, j, hj, HAX.out j A C row h2 hgr (fun r e => ⟨by have := (hr r e).1; omega, (hr r e).2⟩)⟩
 case hassign =>
  intro l x W K hK
  unfold encT
  gi_wp2
  exact hK
 case hbody =>
  rintro l' k U hl' hrec hkN ⟨hJ, hyb, hpb, hUs⟩
  rcases hv with ⟨_, h0⟩ | ⟨g, c, rfl⟩
  ·omega
  obtain ⟨r₀, hr₀⟩ := hrec
  obtain ⟨x, hx⟩ : ∃ x, L[k]? = some x := ⟨L[k]'hkN, List.getElem?_eq_getElem hkN⟩
  have hE := HIJ.out _ U hJ
  obtain ⟨c0, c1⟩ := hE.row g rfl k x hx
  obtain ⟨hbx, hb16⟩ := hE.blk x (List.mem_of_getElem? hx)
  have hid : keyS L k = x.id := by simp [keyS, hx]
  rw [hid]
  simp only [Value.ownBlock, Option.map]
  have gU : g < U.heap.size := World.block_lt_of_cell? U _ c1
  have HJ := Lib.hid hJ
  have HYB := Lib.hid hyb
  have HPB := Lib.hid hpb
  have HX := Lib.hid hx
  have HR0 := Lib.hid hr₀
  have HBX := Lib.hid hbx
  clear hJ hyb hpb hx hr₀ hbx hE hid c0
  gi_wp2_with (refine ⟨trivial, ?_⟩; gi_at_call 57; refine (held_in _ x.id x.g x.l.length _).mono ?_; rintro e w' ⟨rfl, rfl⟩)
  obtain ⟨U2, hU2⟩ : ∃ y, y = (U.alloc (.cells #[.int .i64 x.id] 3)).alloc (.cells #[.slice (some ⟨x.g, 0, none⟩) x.l.length x.l.length] 92) := ⟨_, rfl⟩
  rw [← hU2]
  have hBU : Below U.heap.size U U2 := hU2 ▸ bal (bal (Below.refl _ _) _) _
  have hs2 : U2.heap.size = U.heap.size + 2 := by rw [hU2]; simp
  have i2 : U2.heap[U.heap.size]? = some (.cells #[.int .i64 x.id] 3 (0, 0)) := by rw [hU2]; exact (Below.heap_alloc _ _ _ (by simp)).trans (heap_alloc_new U _)
  have s2 : U2.heap[U.heap.size + 1]? = some (.cells #[.slice (some ⟨x.g, 0, none⟩) x.l.length x.l.length] 92 (0, 0)) := by
   rw [hU2]
   have := heap_alloc_new (U.alloc (.cells #[.int .i64 x.id] 3)) (.cells #[.slice (some ⟨x.g, 0, none⟩) x.l.length x.l.length] 92)
   rwa [show (U.alloc (.cells #[.int .i64 x.id] 3)).heap.size = U.heap.size + 1 by simp] at this
  have JU2 : J (offA L k) U2 := hU2 ▸ HAB.out.alloc _ (HAB.out.alloc _ HJ.out)
  clear hU2
  have hwu : W.heap.size < U.heap.size := by omega
  have hin : InI E J l (offA L k) W.heap.size W2.heap.size U.heap.size b U x.id x.g x.l.length 0 U2 := ⟨JU2, (hBU.block _ hwu).trans HYB.out, (hBU.block _ (by omega)).trans HPB.out, HiKept.below hBU, i2, s2, by omega⟩
  have hr2 := (hBU.block l' (ags HR0.out).1).trans HR0.out
  have htot : ∀ j, j < (heldL x.id 0 x.l).length → offA L k + j < (heldA L).length := fun j hj => by
   have h1 := heldA_at HX.out hj
   rw [List.getElem?_eq_getElem hj] at h1
   exact (lgs h1).1
  clear i2 s2 JU2 hBU
  refine wpIn_range_paN (l₀ := l') (r₀ := r₀) rfl hr2 (by simp) (gf := 72) (lb := #[.pointer (some ⟨U.heap.size + 1, 0, none⟩), .pointer (some ⟨U.heap.size, 0, none⟩)]) rfl trivial (enters_of Tryd.func72 (by kernel_rfl) rfl)
   (encs := fun j => #[(hdAt (heldL x.id 0 x.l) j).V]) (N := (heldL x.id 0 x.l).length) E (InI E J l (offA L k) W.heap.size W2.heap.size U.heap.size b U x.id x.g x.l.length)
   (fun c j U3 => c = .ret ∧ Jx (offA L k + j) U3 ∧ HiKept E W2.heap.size U U3)
   (SeqPx.inRound l' (held1_px E q (U.heap.size + 1) U.heap.size x.g x.l.length _ x.id x.l _ rfl hb16 (fun j U3 h => ⟨(cell_box h.c).1, (cell_box h.i).1, ((HIJ.out _ U3 h.J).blk x (List.mem_of_getElem? HX.out)).1⟩))) (fun _ => rfl) ?hO ?hOx hin
   (fun j => .cells (hdAt (heldL x.id 0 x.l) j).cells 100) (fun _ => rfl)
   (fun j s => { tmps := #[.func (.yield l) #[] #[], .pointer (some ⟨eb, 0, none⟩), .pointer (some ⟨W.heap.size, 0, none⟩), .int .i64 x.id, .pointer (some ⟨g, k * 2 + 1, none⟩), .pointer (some ⟨s, 0, none⟩), .pointer (some ⟨b, 0, none⟩), .bool false, .pointer (some ⟨b, 0, none⟩), .pointer (some ⟨b, 0, none⟩), .pointer (some ⟨b, 0, none⟩), .func (.func 82) #[] #[.pointer (some ⟨W.heap.size + 1, 0, none⟩)], .int .i64 x.id, .pointer (some ⟨g, k * 2 + 1, none⟩), .int .i64 x.id, .pointer (some ⟨g, k * 2 + 1, none⟩), .pointer (some ⟨g, k * 2 + 1, none⟩), .slice (some ⟨x.g, 0, none⟩) x.l.length x.l.length, .func (.func 72) #[] #[.pointer (some ⟨U.heap.size + 1, 0, none⟩), .pointer (some ⟨U.heap.size, 0, none⟩)], (hdAt (heldL x.id 0 x.l) j).V, undef, undef, undef, undef], defers := [] }) ?hassign2 ?hbody2 ?hdone2 ?hstop2
  case hO =>
   intro s A C row h hgr hr
   have hlA := h.s
   have e : ∀ k, k < U2.heap.size → C.heap[k]? = A.heap[k]? := fun k hk => hgr.block k (by omega) (fun e => by have := (hr k e.symm).1; omega)
   exact ⟨HAB.out _ A C row h.J hgr (fun r e => ⟨by have := (hr r e).1; omega, (hr r e).2⟩), (e _ (by omega)).trans h.y, (e _ (by omega)).trans h.p, ownFrom_hiKept (β := Unit) (E := E) (B := W2.heap.size) (w₀ := U) (B' := U2.heap.size) (by omega) () A C row h.k hgr hr, (e _ (by omega)).trans h.i, (e _ (by omega)).trans h.c, Nat.le_trans hlA hgr.size⟩
  case hOx =>
   intro c s A C row h hgr hr
   exact ⟨h.1, HAX.out _ A C row h.2.1 hgr (fun r e => ⟨by have := (hr r e).1; omega, (hr r e).2⟩), ownFrom_hiKept (β := Unit) (E := E) (B := W2.heap.size) (w₀ := U) (B' := U2.heap.size) (by omega) () A C row h.2.2 hgr hr⟩
  case hassign2 =>
   intro l2 j W3 K hK
   unfold Hd.cells at hK
   generalize hdAt (heldL x.id 0 x.l) j = z at *
   gi_wp2
   exact hK
  case hbody2 =>
   rintro l2 j s U3 hjN hI3 hs hbox
   have yU : U3.cell? ⟨W.heap.size, 0, none⟩ = some (.func (.yield l) #[] #[]) := (cell_box hI3.y).1
   obtain ⟨fn, tmps, assign, body, hy, hR⟩ := HY.out _ U3 (htot j hjN) hI3.J
   rw [hdAt_off HX.out hjN] at hy
   unfold Hd.cells at hbox
   generalize hdAt (heldL x.id 0 x.l) j = z at *
   (try dsimp only at hy)
   have HR := Lib.hid (hR.mono (fun e W' h => two_ways (A := fun W' => J (offA L k + j + 1) W' ∧ HiKept E W.heap.size U3 W') (B := fun W' => Jx (offA L k + j) W' ∧ HiKept E W.heap.size U3 W') h))
   have t0 : U3.cell? ⟨s, 0, none⟩ = _ := cell_of_row _ _ 0 _ _ _ hbox
   have t1 : U3.cell? ⟨s, 1, none⟩ = _ := cell_of_row _ _ 1 _ _ _ hbox
   have t2 : U3.cell? ⟨s, 2, none⟩ = _ := cell_of_row _ _ 2 _ _ _ hbox
   have t3 : U3.cell? ⟨s, 3, none⟩ = _ := cell_of_row _ _ 3 _ _ _ hbox
   have t4 : U3.cell? ⟨s, 4, none⟩ = _ := cell_of_row _ _ 4 _ _ _ hbox
   have t5 : U3.cell? ⟨s, 5, none⟩ = _ := cell_of_row _ _ 5 _ _ _ hbox
   have t6 : U3.cell? ⟨s, 6, none⟩ = _ := cell_of_row _ _ 6 _ _ _ hbox
   have t7 : U3.cell? ⟨s, 7, none⟩ = _ := cell_of_row _ _ 7 _ _ _ hbox
   have t8 : U3.cell? ⟨s, 8, none⟩ = _ := cell_of_row _ _ 8 _ _ _ hbox
   have t9 : U3.cell? ⟨s, 9, none⟩ = _ := cell_of_row _ _ 9 _ _ _ hbox
   simp only [List.getElem?_toArray, List.getElem?_cons_zero, List.getElem?_cons_succ] at t0 t1 t2 t3 t4 t5 t6 t7 t8 t9
   have HI3 := Lib.hid hI3
   clear hR hbox hI3
   gi_wp2
   refine ⟨fun h => (by cases h), ?_⟩
   refine (round_any HR.out).mono ?_
   rintro e W' ⟨t, rfl, ht⟩
   have h2 := HI3.out.s
   cases t
   ·obtain ⟨hJx, hH⟩ := ht.2 rfl
    gi_wp2
    exact ⟨hH.mono (by omega), rfl, hJx, HI3.out.k.trans (hH.mono (by omega))⟩
   ·obtain ⟨hJ', hH⟩ := ht.1 rfl
    gi_wp2
    exact ⟨hH.mono (by omega), hJ', hH.2 _ _ (by omega) HI3.out.y hE1, hH.2 _ _ (by omega) HI3.out.p hE2, HI3.out.k.trans (hH.mono (by omega)), hH.2 _ _ (by omega) HI3.out.i hE3, hH.2 _ _ (by omega) HI3.out.c hE4, Nat.le_trans h2 hH.1⟩
  case hdone2 =>
   rintro U3 hI3
   gi_wp2
   exact ⟨hI3.k, by rw [offA_succ HX.out]; exact hI3.J, hI3.y, hI3.p, by have := hI3.s; omega⟩
  case hstop2 =>
   rintro c j U3 hj ⟨rfl, hJx, hK3⟩
   gi_wp2
   exact ⟨hK3, rfl, _, htot j hj, hJx⟩
 case hdone =>
  rintro D U hD ⟨hJ, -, -, -⟩ hK
  gi_wp2
  refine ⟨by simp, .inl ⟨_, _, rfl, run_takeDeferred hK, ?_⟩⟩
  exact ⟨.tuple #[], by simp [results, Tryd.results74, go_sem], ⟨_, rfl⟩, .inl (by rw [← offA_all]; exact HAB.out.putObj _ hJ (by omega) hK rfl)⟩
 case hstop =>
  rintro D c k U hD hkN ⟨rfl, j, hj, hJx⟩ hK
  gi_wp2
  refine ⟨by simp, .inl ⟨_, _, rfl, run_takeDeferred hK, ?_⟩⟩
  exact ⟨.tuple #[], by simp [results, Tryd.results74, go_sem], ⟨_, rfl⟩, .inr ⟨j, hj, HAX.out.putObj _ hJx (by omega) hK rfl⟩⟩
end TabS
end
section
open Go.ChangeShapes Go.WideShapes Go.ChangeAt Go.RowKit Go.Shelf
attribute [local go_sem] Oper.semAt_some
namespace TabS
def Hd.L (x : Hd) : List Value := [.int .i64 x.n, .int .i64 x.i, .int .i64 x.c.a, .int .i64 x.c.b, .int .i64 x.c.c, .int .u64 x.c.d, .int .i64 x.c.e, .int .i64 x.c.f, .int .i64 x.c.g, .int .i64 x.c.h]
theorem hd_one (x : Hd) : ∀ u ∈ x.L, u.oneCell' = true := by
 intro u hu
 simp [Hd.L] at hu
 rcases hu with rfl | rfl | rfl | rfl | rfl | rfl | rfl | rfl | rfl | rfl <;> rfl
def hdsC (L : List Hd) : List Value := L.flatMap Hd.L
abbrev zHd : Value := .agg #[.int .i64 0, .int .i64 0, .int .i64 0, .int .i64 0, .int .i64 0, .int .u64 0, .int .i64 0, .int .i64 0, .int .i64 0, .int .i64 0]
theorem infoHd : (Tryd.prog.info? 100).map (fun i => (i.zero, i.size, i.bytes)) = some (some zHd, 10, 80) := by kernel_rfl
theorem heldL_len (id : Int) : ∀ (l : List Cp) (o : Nat), (heldL id o l).length ≤ l.length
 | [], _ => by simp [heldL]
 | c :: t, o => by
  have := heldL_len id t (o + 1)
  unfold heldL
  split <;> simp <;> omega
theorem heldA_len : ∀ (L : List Sn), (∀ x ∈ L, x.l.length ≤ 16) → (heldA L).length ≤ 16 * L.length
 | [], _ => by simp [heldA]
 | x :: t, h => by
  have h1 := heldA_len t (fun y hy => h y (List.mem_cons_of_mem _ hy))
  have h2 := heldL_len x.id x.l 0
  have h3 := h x (by simp)
  have e : heldA (x :: t) = heldL x.id 0 x.l ++ heldA t := rfl
  rw [e, List.length_append, List.length_cons]
  omega
theorem add_cellsT {w : World} {g : Nat} {cs : List Value} (h : ∀ j v, cs[j]? = some v → w.cell? ⟨g, j, none⟩ = some v) : ∀ j v, cs[j]? = some v → w.cell? ((⟨g, 0, none⟩ : Addr).add j) = some v := by
 intro j v hj
 rw [Addr.add_mid, Nat.zero_add]
 exact h j v hj
structure AllI (w : World) (b : Nat) (L : List Hd) (k : Nat) (U : World) : Prop where
 list : ∃ v, U.heap[w.heap.size]? = some (.cells #[v] 43 (0, 0)) ∧ U.ownsRow (w.heap.size + 2) 100 10 v k (hdsC (L.take k))
 box : U.heap[w.heap.size + 1]? = some (.cells #[.pointer (some ⟨b, 0, none⟩)] 47 (0, 0))
 lt : w.heap.size + 2 ≤ U.heap.size
 below : Below w.heap.size w U
theorem own_kept {A C : World} {base : Nat} {e : TypeId} {s : Nat} {v : Value} {n : Nat} {xs : List Value} {row : Option Nat} (h : A.ownsRow base e s v n xs) (hg : A.grownBy C row) (hr : ∀ r, row = some r → ∃ o : Obj, A.heap[r]? = some o ∧ o.isCells = false) : C.ownsRow base e s v n xs := by
 have hlt := h.lt
 refine ⟨h.1, ?_⟩
 rcases h.2 with h2 | ⟨g, cap, cur, rfl, q1, q2, q3⟩
 ·exact .inl h2
 ·refine .inr ⟨g, cap, cur, rfl, q1, (hg.block g (hlt g rfl).2 (fun e => ?_)).trans q2, q3⟩
  obtain ⟨o, ho, hc⟩ := hr g e.symm
  rw [q2] at ho
  cases ho
  cases hc
theorem AllI.own {w : World} {b : Nat} {L : List Hd} : OwnFrom (w.heap.size + 2) (AllI w b L) := by
 intro s A C row h hg hr
 have e : ∀ j, j < w.heap.size + 2 → C.heap[j]? = A.heap[j]? := fun j hj => hg.block j (Nat.lt_of_lt_of_le hj h.lt) (fun e => by have := (hr j e.symm).1; omega)
 obtain ⟨v, hv, hrow⟩ := h.list
 exact ⟨⟨v, (e _ (by omega)).trans hv, own_kept hrow hg (fun r e => (hr r e).2)⟩, (e _ (by omega)).trans h.box, Nat.le_trans h.lt hg.size,
  ⟨hg.os.trans h.below.os, hg.tape.trans h.below.tape, hg.output.trans h.below.output, Nat.le_trans h.below.size hg.size, fun j hj => (e j (by omega)).trans (h.below.block j hj)⟩⟩
theorem AllI.step {w U w2 : World} {b k : Nat} {L : List Hd} {y : Hd} {v v' : Value} (h : AllI w b L k U) (hy : L[k]? = some y)
  (hv : U.heap[w.heap.size]? = some (.cells #[v] 43 (0, 0))) (hrow : U.ownsRow (w.heap.size + 2) 100 10 v k (hdsC (L.take k)))
  (hown : w2.ownsRow (w.heap.size + 2) 100 10 v' (k + 1) (hdsC (L.take k) ++ y.L)) (o : Array Value) (hg : (U.alloc (.cells o 100)).grownBy w2 v.ownBlock) :
  AllI w b L (k + 1) (w2.setCell ⟨w.heap.size, 0, none⟩ v') ∧ HiKept 100 (w.heap.size + 2) U (w2.setCell ⟨w.heap.size, 0, none⟩ v') := by
 have hlt := h.lt
 have sz := hg.size
 simp at sz
 have hvb : ∀ j, v.ownBlock = some j → w.heap.size + 2 ≤ j ∧ j < U.heap.size := fun j e => hrow.lt j e
 have hvb' : ∀ j, v'.ownBlock = some j → w.heap.size + 2 ≤ j := fun j e => (hown.lt j e).1
 have e : ∀ j, j < U.heap.size → v.ownBlock ≠ some j → w2.heap[j]? = U.heap[j]? := fun j hj hn => by
  rw [hg.block j (by simp; omega) (fun q => hn q.symm)]
  exact Below.heap_alloc _ _ _ hj
 have e2 : ∀ j, j < w.heap.size + 2 → w2.heap[j]? = U.heap[j]? := fun j hj => e j (by omega) (fun q => by have := (hvb j q).1; omega)
 have htake : L.take (k + 1) = L.take k ++ [y] := by rw [List.take_add_one, hy]; rfl
 refine ⟨⟨⟨v', ?_, ?_⟩, ?_, by simp; omega, ?_⟩, by simp; omega, fun j ob hB hj ho => ?_⟩
 ·exact Go.heap_setCell_same _ _ _ _ _ _ ((e2 _ (by omega)).trans hv)
 ·rw [htake, show hdsC (L.take k ++ [y]) = hdsC (L.take k) ++ y.L by simp [hdsC]]
  exact row_of_block hown (fun g hg' => Go.heap_setCell_other _ _ _ _ (by have := hvb' g hg'; simp; omega))
 ·exact (Go.heap_setCell_other _ _ _ _ (by simp)).trans ((e2 _ (by omega)).trans h.box)
 ·refine ⟨?_, ?_, ?_, ?_, fun j hj => ?_⟩
  ·exact hg.os.trans h.below.os
  ·exact hg.tape.trans h.below.tape
  ·exact hg.output.trans h.below.output
  ·simp; have := h.below.size; omega
  ·exact (Go.heap_setCell_other _ _ _ _ (by simp; omega)).trans ((e2 j (by omega)).trans (h.below.block j hj))
 ·have hjl := (ags hj).1
  refine (Go.heap_setCell_other _ _ _ _ (by simp; omega)).trans ((e j hjl (fun q => ?_)).trans hj)
  rcases hrow.2 with ⟨rfl, _⟩ | ⟨g, cap, cur, rfl, _, q2, _⟩
  ·cases q
  ·cases q
   rw [q2] at hj
   cases hj
   simp [Obj.rowOf] at ho
attribute [-go_sem] loadVar
attribute [-go_sem] Builtin.append_
theorem used_in (w : World) (b base : Nat) (tv : Value) (L : List Sn) (h : SlotsAt w b base tv L) (hlen : L.length < 1000000) :
  CallsIn Fence.wide 5 Tryd.prog 40 #[.pointer (some ⟨b, 0, none⟩)] w fun e w' => ∃ r, e = .returned r ∧ w'.ownsRow w.heap.size 100 10 r (heldA L).length (hdsC (heldA L)) ∧ Below w.heap.size w w' := by
 have HA := Lib.hid h
 have hbl := h.lt
 have hH : (heldA L).length ≤ 16 * L.length := heldA_len L h.bd
 clear h
 obtain ⟨i0, hi0, hz0, hz1, hz2⟩ := info_parts infoHd
 have HI0 := Lib.hid hi0
 clear hi0
 refine callsIn_of_wp_marks Tryd.func40 rfl trivial ?_ rfl
 simp only [Tryd.ntmps40, List.size_toArray, List.length_cons, List.length_nil, Nat.reduceAdd, Nat.reduceSub, Array.replicate_succ, Array.replicate_zero, List.push_toArray, List.append_toArray, List.nil_append, List.cons_append]
 gi_wp2_with (refine ⟨trivial, ?_⟩; gi_at_call 60; refine (own_in _ _ _).mono ?_; rintro e w' ⟨rfl, rfl⟩)
 obtain ⟨Wc, hWc⟩ : ∃ x, x = (w.alloc (.cells #[.slice none 0 0] 43)).alloc (.cells #[.pointer (some ⟨b, 0, none⟩)] 47) := ⟨_, rfl⟩
 rw [← hWc]
 have hcz : Wc.heap.size = w.heap.size + 2 := by rw [hWc]; simp
 have hBW : Below w.heap.size w Wc := by rw [hWc]; exact bal (bal (Below.refl _ _) _) _
 have inv : AllI w b (heldA L) 0 Wc := by
  refine ⟨⟨.slice none 0 0, ?_, World.ownsRow_nil _ _ _ _⟩, ?_, by omega, hBW⟩
  ·rw [hWc]
   exact (Below.heap_alloc _ _ _ (by simp)).trans (heap_alloc_new w _)
  ·rw [hWc]
   have e1 := heap_alloc_new (w.alloc (.cells #[.slice none 0 0] 43)) (.cells #[.pointer (some ⟨b, 0, none⟩)] 47)
   rwa [show (w.alloc (.cells #[.slice none 0 0] 43)).heap.size = w.heap.size + 1 by simp] at e1
 clear hWc
 have HCZ := Lib.hid hcz
 have hv : (tv = .slice none 0 0 ∧ L.length = 0) ∨ ∃ g c, tv = .slice (some ⟨g, 0, none⟩) L.length c := by
  rcases HA.out.tab.form with ⟨h1, h2⟩ | ⟨g, c, h1, _⟩
  ·exact .inl ⟨h1, by rw [← rowsS_len, h2]; rfl⟩
  ·exact .inr ⟨g, c, by rw [← rowsS_len]; exact h1⟩
 have HV := Lib.hid hv
 have INV := Lib.hid inv
 have HLN := Lib.hid hlen
 have HH := Lib.hid hH
 clear hv inv hBW hlen
 refine wpIn_range_pa rfl (by decide) (gf := 74) (lb := #[.pointer (some ⟨w.heap.size + 1, 0, none⟩)]) rfl trivial (enters_of Tryd.func74 (by kernel_rfl) rfl)
  (encs := fun k => #[(hdAt (heldA L) k).V]) (N := (heldA L).length) 100 (AllI w b (heldA L)) (fun _ _ _ => False)
  (own_px 100 (by kernel_rfl) (by kernel_rfl) (by kernel_rfl) (by kernel_rfl) 0 (w.heap.size + 1) b _ tv L _ HV.out (by have := HLN.out; omega) ?hI0) (fun _ => rfl) (by have := HCZ.out; rw [this]; exact AllI.own) (fun _ => fun _ _ _ _ h _ _ => h) INV.out
  (fun k => .cells (hdAt (heldA L) k).cells 100) (fun _ => rfl)
  (fun x s => { tmps := #[.pointer (some ⟨b, 0, none⟩), undef, .slice none 0 0, .pointer (some ⟨w.heap.size, 0, none⟩), .pointer (some ⟨s, 0, none⟩), .pointer (some ⟨b, 0, none⟩), .func (.func 74) #[] #[.pointer (some ⟨w.heap.size + 1, 0, none⟩)], (hdAt (heldA L) x).V, undef, undef, undef, undef, undef], defers := [] }) ?hassign ?hbody ?hdone (fun _ _ _ _ _ _ h => h.elim)
 case hI0 =>
  rintro k U hU
  have hS := HA.out.call hU.below
  refine ⟨(cell_box hU.box).1, hS.tab.cell, fun g hg j x hx => ?_, fun x hx => ⟨(hS.blk x hx).1, hS.bd x hx⟩⟩
  obtain ⟨g', c, e, _, p1, p2⟩ := hS.place hx
  rw [e] at hg
  cases hg
  exact ⟨p1, p2⟩
 case hassign =>
  intro l x W K hK
  unfold Hd.cells at hK
  generalize hdAt (heldA L) x = z at *
  gi_wp2
  exact hK
 case hbody =>
  rintro l k s U hkN hI hs hbox
  obtain ⟨y, hy⟩ : ∃ y, (heldA L)[k]? = some y := ⟨(heldA L)[k]'hkN, List.getElem?_eq_getElem hkN⟩
  rw [hdAt_eq hy] at hbox ⊢
  have hbox : U.heap[s]? = some (.cells y.L.toArray 100 (0, 0)) := hbox
  obtain ⟨vv, hvv, hrow⟩ := hI.list
  obtain ⟨v0, vz⟩ := cell_box hvv
  have hll := hI.lt
  have hln := HLN.out
  have hlh := HH.out
  have hlw : w.heap.size < U.heap.size := by omega
  have q1 : (loadVar 43 ⟨w.heap.size, 0, none⟩).run Tryd.prog U = .ok vv U := by simp [go_sem, loadVar, v0]
  have q2 : (loadVar 100 ⟨s, 0, none⟩).run Tryd.prog U = .ok (.agg #[.int .i64 y.n, .int .i64 y.i, .int .i64 y.c.a, .int .i64 y.c.b, .int .i64 y.c.c, .int .u64 y.c.d, .int .i64 y.c.e, .int .i64 y.c.f, .int .i64 y.c.g, .int .i64 y.c.h]) U := run_loadVar_row _ _ _ _ _ _ _ hbox Tryd.underlying100 rfl (by kernel_rfl)
  have hnw : ∀ j u, y.L[j]? = some u → (U.alloc (.cells #[.int .i64 y.n, .int .i64 y.i, .int .i64 y.c.a, .int .i64 y.c.b, .int .i64 y.c.c, .int .u64 y.c.d, .int .i64 y.c.e, .int .i64 y.c.f, .int .i64 y.c.g, .int .i64 y.c.h] 100)).cell? ((⟨U.heap.size, 0, none⟩ : Addr).add j) = some u := add_cellsT (fun j u hj => (cell_cur (cur := y.L) (show (U.alloc (.cells #[.int .i64 y.n, .int .i64 y.i, .int .i64 y.c.a, .int .i64 y.c.b, .int .i64 y.c.c, .int .u64 y.c.d, .int .i64 y.c.e, .int .i64 y.c.f, .int .i64 y.c.g, .int .i64 y.c.h] 100)).heap[U.heap.size]? = some (.cells y.L.toArray 100 (0, 0)) from heap_alloc_new U _) j).trans hj)
  obtain ⟨v', w3, hrun, hown, hgrow, _, hat⟩ := run_append_own_at (P := Tryd.prog) (w := U.alloc (.cells #[.int .i64 y.n, .int .i64 y.i, .int .i64 y.c.a, .int .i64 y.c.b, .int .i64 y.c.c, .int .u64 y.c.d, .int .i64 y.c.e, .int .i64 y.c.f, .int .i64 y.c.g, .int .i64 y.c.h] 100)) (w.heap.size + 2) 43 43 100 i0 zHd 10 80 Tryd.underlying43 HI0.out hz0 hz1 hz2 rfl (by decide) vv k _ (hrow.alloc _) ⟨U.heap.size, 0, none⟩ 1 1 y.L rfl hnw (hd_one y) (by unfold maxLen; omega) (by omega) (by simp; omega)
  obtain ⟨gg, cc, rfl⟩ : ∃ gg cc, v' = .slice (some ⟨gg, 0, none⟩) (k + 1) cc := by
   rcases hown.2 with ⟨_, h0⟩ | ⟨gg, cc, cur, e, _⟩
   ·omega
   ·exact ⟨gg, cc, e⟩
  have HST := Lib.hid (hI.step hy hvv hrow hown _ hgrow)
  have hvb : vv.ownBlock ≠ some w.heap.size := fun e => by have := (hrow.lt _ e).1; omega
  have e3 : w3.heap[w.heap.size]? = U.heap[w.heap.size]? := (hgrow.block _ (by simp; omega) (fun e => hvb e.symm)).trans (Below.heap_alloc _ _ _ (by omega))
  obtain ⟨g0, gz⟩ := cell_box (e3.trans hvv)
  have HCZo := HCZ.out
  clear hI hy hvv hrow hown hgrow hat e3 hvb hnw hbox
  generalize y.L.toArray = yA at *
  gi_wp2
  exact ⟨HST.out.2.mono (by omega), HST.out.1⟩
 case hdone =>
  rintro D U hD hI hK
  obtain ⟨r, hr, hrow⟩ := hI.list
  obtain ⟨d0, dz⟩ := cell_box hr
  have hll := hI.lt
  have hcz := HCZ.out
  have hB := hI.below.trans (belowK_b (w := w) (Nat.le_refl _) U D (.deferred (some [])) (.deferred none) (by omega) hK rfl rfl)
  have hrw : (U.putObj D (.deferred none)).ownsRow w.heap.size 100 10 r (heldA L).length (hdsC (heldA L)) := by
   rw [List.take_length] at hrow
   obtain ⟨hl, h | ⟨g', cap, cur, e, q1, q2, q3⟩⟩ := hrow
   ·exact ⟨hl, .inl h⟩
   ·refine ⟨hl, .inr ⟨g', cap, cur, e, by omega, ?_, q3⟩⟩
    refine (World.putObj_heap_other ?_).trans q2
    rintro rfl
    rw [hK] at q2
    cases q2
  have HRW := Lib.hid hrw
  have HB := Lib.hid hB
  have q1 : (loadVar 43 ⟨w.heap.size, 0, none⟩).run Tryd.prog U = .ok r U := by simp [go_sem, loadVar, d0]
  clear hrow hr hB hrw hI hcz
  gi_wp2
  refine ⟨by simp, .inl ⟨_, _, rfl, run_takeDeferred hK, ?_⟩⟩
  exact ⟨r, by simp [results, Tryd.results40, go_sem], r, rfl, HRW.out, HB.out⟩
theorem used_all (w : World) (b base : Nat) (tv : Value) (L : List Sn) (h : SlotsAt w b base tv L) (hlen : L.length < 1000000) :
  Calls Tryd.prog 40 #[.pointer (some ⟨b, 0, none⟩)] w fun e w' => ∃ r, e = .returned r ∧ w'.ownsRow w.heap.size 100 10 r (heldA L).length (hdsC (heldA L)) ∧ Below w.heap.size w w' := callsIn_wide.1 (used_in w b base tv L h hlen)
end TabS
end
section
open Go.ChangeShapes Go.WideShapes Go.ChangeAt Go.RowKit Go.Shelf
namespace TabS
structure ActC where
 d : Int
 n : Int
 s : Int
 i : Int
 c : Cp
def ActC.cells (x : ActC) : List Value := .int .i64 x.d :: .int .i64 x.n :: .int .i64 x.s :: .int .i64 x.i :: x.c.L
def InS (n : Int) : Prop := -9223372036854775808 ≤ n ∧ n ≤ 9223372036854775807
def ActC.Ok (x : ActC) : Prop := InS x.d ∧ InS x.n ∧ InS x.s ∧ InS x.i ∧ InS x.c.e
def ActsAt (w : World) (p : Option Addr) (n : Nat) (D : Nat → ActC) : Prop :=
 ∃ b off, (0 < n → p = some ⟨b, off, none⟩ ∧ b < w.heap.size) ∧ ∀ k, k < n → w.rangeAt b (off + k * 12) (D k).cells ∧ (D k).Ok
theorem eqSl (a b a' b' : Int) (w : World) : (binOp .eql 23 (.agg #[.int .i64 a, .int .i64 b]) (.agg #[.int .i64 a', .int .i64 b'])).run Tryd.prog w = .ok (.bool (a == a' && b == b')) w := by
 go_simp
 repeat (split <;> simp_all)
def getC (L : List Sn) (q i : Nat) : Option Cp := L[q]?.bind fun x => x.l[i]?
def Three (L : List Sn) : Prop := L.length = 3 ∧ ∀ (i : Nat) (x : Sn), L[i]? = some x → x.id = i + 1 ∧ x.l.length = 4
def SlW (W w : World) (b : Nat) (L : List Sn) (S : Nat → Prop) : Prop := ∃ base tv, SlotsAt w b base tv L ∧ W.heap.size ≤ b ∧ Below W.heap.size W w ∧ ∀ k, S k → k < w.heap.size ∧ k ≠ b ∧ tv.ownBlock ≠ some k ∧ ∀ x ∈ L, x.g ≠ k
def SameK (S : Nat → Prop) (w w' : World) : Prop := ∀ k, S k → w'.heap[k]? = w.heap[k]?
def setSR (c : Cp) : Int := if mayC c = true then 0 else 5
def setSL (L : List Sn) (p r : Nat) (c : Cp) : List Sn := if mayC c = true then (match L[p]? with | some x => putS L p x r c | none => L) else L
end TabS
end
end
end Go.Proofs.YtekllgejmgoajaaDoor
