/- package arena: what Add leaves. -/
import Derived.Test.YtkladhbamkomnaaAr3
namespace Go.Proofs.Ytkladhbamkomnaa
set_option linter.unusedVariables false
set_option linter.unusedSimpArgs false
open Go.ChangeShapes Go.WideShapes Go.ChangeAt Go.RowKit Go.Shelf
open TabA

/-- What Add answers where the place is right: number, error. -/
def addA (cnt : List Int) (L : List Ob) (x : Ob) : Int × Int :=
  if L.any (collideA x) then (0, 16) else if nextA cnt x.fi = 0 then (0, 11) else (nextA cnt x.fi, 0)
def insO (L : List Ob) (x : Ob) : List Ob := L.take (posR (rowsO L) x.id) ++ x :: L.drop (posR (rowsO L) x.id)
theorem rows_ins (L : List Ob) (x : Ob) : rowsO (insO L x) = insR (rowsO L) (rowO x) := by
  unfold insO insR rowsO
  rw [List.map_append, List.map_cons, List.map_take, List.map_drop]
  rfl
/-- What an act leaves of the world: only the arena's own blocks are turned. -/
structure OnlyA (w w' : World) (b ab : Nat) (v v' : Value) : Prop where
  os : w'.os = w.os
  tape : w'.tape = w.tape
  output : w'.output = w.output
  size : w.heap.size ≤ w'.heap.size
  block : ∀ k, k < w.heap.size → k ≠ b → k ≠ ab → v.ownBlock ≠ some k → w'.heap[k]? = w.heap[k]?
  foot : v'.ownBlock = v.ownBlock ∨ ∃ g, v'.ownBlock = some g ∧ w.heap.size ≤ g
/-- What Add leaves. -/
def AddPost (w w' : World) (b ab base F : Nat) (cnt : List Int) (v : Value) (L : List Ob) (x : Ob) : Prop :=
  ((addA cnt L x).2 ≠ 0 ∧ Below w.heap.size w w') ∨
  ((addA cnt L x).2 = 0 ∧ ∃ v' c, cnt[x.fi.toNat]? = some c ∧ ArAt w' b ab base F (cnt.set x.fi.toNat (c + 1)) v' (insO L { x with id := nextA cnt x.fi }) ∧ OnlyA w w' b ab v v')
theorem own_ne {w : World} {b o base g : Nat} {v : Value} {R : List Rw} (h : TabAt w b o base v R) (hg : v.ownBlock = some g) : g ≠ b := by
  have := (h.own hg).1
  have := h.ne
  omega
theorem good_fresh {F : Nat} {cnt : List Int} {L : List Ob} {k : Nat} {c : Int} (h : GoodO F cnt L) (hF : F ≤ 64) (hc : cnt[k]? = some c) (hk : k < F) : hasR (rowsO L) (k + 1 + 64 * c) = false := by
  rw [Bool.eq_false_iff]
  intro hh
  unfold hasR rowsO at hh
  rw [List.any_eq_true] at hh
  obtain ⟨r, hr, he⟩ := hh
  obtain ⟨y, hy, rfl⟩ := List.mem_map.1 hr
  have he2 : y.id = (k : Int) + 1 + 64 * c := of_decide_eq_true he
  obtain ⟨h0, h1, h2, h3, d, m, d0, dm, hm, hid⟩ := h y hy
  rw [hid] at he2
  have h5 : y.fi < 64 := by omega
  have e1 : y.fi = k := by omega
  rw [e1, show ((k : Int)).toNat = k by omega, hc] at hm
  cases hm
  omega
theorem good_ins {F : Nat} {cnt : List Int} {L : List Ob} {k : Nat} {c : Int} {x : Ob} (h : GoodO F cnt L) (hc : cnt[k]? = some c) (hx : x.fi = k) (h0 : 0 ≤ c) (h1 : 1 ≤ x.fr) (h2 : x.fi + x.fr ≤ F) (h3 : x.fr = framesN x.kd x.sz) (hid : x.id = k + 1 + 64 * c) : GoodO F (cnt.set k (c + 1)) (insO L x) := by
  have hkl := (List.getElem?_eq_some_iff.1 hc).1
  intro y hy
  unfold insO at hy
  have hy' : y = x ∨ y ∈ L := by
    rcases List.mem_append.1 hy with q | q
    · exact .inr (List.mem_of_mem_take q)
    · rcases List.mem_cons.1 q with q | q
      · exact .inl q
      · exact .inr (List.mem_of_mem_drop q)
  rcases hy' with rfl | hy
  · refine ⟨by omega, h1, h2, h3, c, c + 1, h0, by omega, ?_, by rw [hid, hx]⟩
    rw [hx, show ((k : Int)).toNat = k by omega, List.getElem?_set_self hkl]
  · obtain ⟨g0, g1, g2, g3, d, m, d0, dm, hm, hi⟩ := h y hy
    by_cases e : y.fi.toNat = k
    · rw [e, hc] at hm
      cases hm
      exact ⟨g0, g1, g2, g3, d, c + 1, d0, by omega, by rw [e, List.getElem?_set_self hkl], hi⟩
    · exact ⟨g0, g1, g2, g3, d, m, d0, dm, by rw [List.getElem?_set_ne (fun q => e q.symm)]; exact hm, hi⟩
/-- The end of Add: the table takes the object. -/
theorem add_fin (w W U U2 : World) (b ab base F : Nat) (cnt : List Int) (v : Value) (L : List Ob) (kd sz fr nx c : Int) (k D : Nat) (hA : ArAt w b ab base F cnt v L) (hW : AddW w W ⟨0, kd, sz, k, fr, 0, 0, 0, 0⟩) (hU : Below W.heap.size W U) (hD : U.heap[D]? = some (.deferred (some []))) (hDz : w.heap.size + 2 < D)
    (hlen : L.length < 1000000) (hc : cnt[k]? = some c) (hnx : nx = k + 1 + 64 * c) (hnb : nx ≤ 65535) (h1 : 1 ≤ fr) (h2 : k + fr ≤ F) (h3 : fr = framesN kd sz)
    (hU2 : U2 = (U.setCell ⟨w.heap.size + 1 + 1, 0, none⟩ (.int .i64 nx)).setCell ⟨ab, k, none⟩ (.int .i64 (c + 1))) :
    (∀ j u, (⟨nx, kd, sz, k, fr, 0, 0, 0, 0⟩ : Ob).cells[j]? = some u → U2.cell? ⟨w.heap.size + 1 + 1, j, none⟩ = some u) ∧
    Calls Try.prog 39 #[.pointer (some ⟨b, 1, none⟩), .int .i64 nx, obV ⟨nx, kd, sz, k, fr, 0, 0, 0, 0⟩] U2.drew fun e w3 => e = .returned (.bool true) ∧ ∃ v',
      w3.cell? ⟨w.heap.size, 0, none⟩ = some (.int .i64 0) ∧ w3.frozen? ⟨w.heap.size, 0, none⟩ = false ∧ w3.cell? ⟨w.heap.size + 1, 0, none⟩ = some (.int .i64 0) ∧ w3.frozen? ⟨w.heap.size + 1, 0, none⟩ = false ∧
      w3.cell? ⟨w.heap.size + 1 + 1, 0, none⟩ = some (.int .i64 nx) ∧
      ∀ V, V = (w3.setCell ⟨w.heap.size, 0, none⟩ (.int .i64 nx)).setCell ⟨w.heap.size + 1, 0, none⟩ (.int .i64 0) → V.heap[D]? = some (.deferred (some [])) ∧ V.cell? ⟨w.heap.size, 0, none⟩ = some (.int .i64 nx) ∧ V.cell? ⟨w.heap.size + 1, 0, none⟩ = some (.int .i64 0) ∧
        ArAt V b ab base F (cnt.set k (c + 1)) v' (insO L ⟨nx, kd, sz, k, fr, 0, 0, 0, 0⟩) ∧ OnlyA w V b ab v v' := by
  have hs := hW.size
  have hsU := hU.size
  have hbw := hA.bl
  have haw := hA.al
  have hF := hA.f1
  have hcb := hA.cn c (List.mem_of_getElem? hc)
  have hAU := (hA.call hW.below).call hU
  have hDl : D < U.heap.size := (Array.getElem?_eq_some_iff.1 hD).1
  have hkF : k < F := by
    have := (List.getElem?_eq_some_iff.1 hc).1
    rw [hA.fl] at this
    exact this
  have o2 : ∀ j, j ≠ ab → j ≠ w.heap.size + 1 + 1 → U2.heap[j]? = U.heap[j]? := fun j h1 h2 => by
    rw [hU2, Go.heap_setCell_other _ _ _ _ (by simpa using h1), Go.heap_setCell_other _ _ _ _ (by simpa using h2)]
  have z2 : U2.heap.size = U.heap.size := by rw [hU2]; simp
  have x2 : U2.heap[w.heap.size + 1 + 1]? = some (.cells (⟨nx, kd, sz, k, fr, 0, 0, 0, 0⟩ : Ob).cells.toArray 37 (0, 0)) := by
    rw [hU2, Go.heap_setCell_other _ _ _ _ (by simp; omega)]
    have hx := (hU.block (w.heap.size + 1 + 1) (by omega)).trans hW.rx
    have := heap_setCell_same U (w.heap.size + 1 + 1) 0 _ _ (.int .i64 nx) hx
    simpa [Ob.cells] using this
  have a2 : U2.heap[ab]? = some (.cells ((cnt.set k (c + 1)).map (Value.int .i64)).toArray 3 (0, 0)) := by
    rw [hU2]
    have hx : (U.setCell ⟨w.heap.size + 1 + 1, 0, none⟩ (.int .i64 nx)).heap[ab]? = _ := (Go.heap_setCell_other _ _ _ _ (by simp; omega)).trans hAU.ad
    have := heap_setCell_same _ ab k _ _ (.int .i64 (c + 1)) hx
    rw [this]
    congr 2
    apply Array.ext'
    simp [List.map_set]
  have t2 : TabAt U2 b 1 base v (rowsO L) := hAU.tab.of (by omega) (World.cell?_of_block (o2 b (fun e => hA.ne e.symm) (by omega))) (World.frozen?_of_block (o2 b (fun e => hA.ne e.symm) (by omega))) (fun g hg => o2 g (by have := (hA.tab.own hg).1; have := hA.abl; omega) (by have := (hA.tab.own hg).2; omega))
  have hfr : hasR (rowsO L) nx = false := by rw [hnx]; exact good_fresh hA.good hF.2 hc hkF
  refine ⟨fun j u hj => by rw [cell_cur x2]; exact hj, ?_⟩
  refine (add_yes U2.drew b 1 base v (rowsO L) nx (.int .i64 nx) (.int .i64 kd) (.int .i64 sz) (.int .i64 k) (.int .i64 fr) (.int .i64 0) (.int .i64 0) (.int .i64 0) (.int .i64 0) (t2.call (Below.refl _ _).drew) hfr (by rw [rows_len]; exact hlen) (wideO ⟨nx, kd, sz, k, fr, 0, 0, 0, 0⟩)).mono ?_
  rintro e w3 ⟨rfl, v', t3, o3⟩
  have e3 : ∀ j, j < U.heap.size → j ≠ b → v.ownBlock ≠ some j → w3.heap[j]? = U2.heap[j]? := fun j hj h1 h2 => o3.block j (by show j < U2.heap.size; omega) h1 h2
  have vne : ∀ j, w.heap.size ≤ j → v.ownBlock ≠ some j := fun j hj e => by have := (hA.tab.own e).2; omega
  have s3 : U.heap.size ≤ w3.heap.size := by have := o3.size; have : U2.drew.heap.size = U2.heap.size := rfl; omega
  have k8 : w3.heap[w.heap.size]? = U.heap[w.heap.size]? := (e3 _ (by omega) (by omega) (vne _ (by omega))).trans (o2 _ (by omega) (by omega))
  have k9 : w3.heap[w.heap.size + 1]? = U.heap[w.heap.size + 1]? := (e3 _ (by omega) (by omega) (vne _ (by omega))).trans (o2 _ (by omega) (by omega))
  have r8 := (World.cell?_of_block (a := ⟨w.heap.size, 0, none⟩) k8).trans ((hU.cell (p := ⟨w.heap.size, 0, none⟩) (by simp; omega)).trans hW.r8)
  have q8 := (World.frozen?_of_block (a := ⟨w.heap.size, 0, none⟩) k8).trans ((hU.frozen (p := ⟨w.heap.size, 0, none⟩) (by simp; omega)).trans hW.f8)
  have r9 := (World.cell?_of_block (a := ⟨w.heap.size + 1, 0, none⟩) k9).trans ((hU.cell (p := ⟨w.heap.size + 1, 0, none⟩) (by simp; omega)).trans hW.r9)
  have q9 := (World.frozen?_of_block (a := ⟨w.heap.size + 1, 0, none⟩) k9).trans ((hU.frozen (p := ⟨w.heap.size + 1, 0, none⟩) (by simp; omega)).trans hW.f9)
  refine ⟨rfl, v', r8, q8, r9, q9, ?_, ?_⟩
  · rw [World.cell?_of_block (a := ⟨w.heap.size + 1 + 1, 0, none⟩) (e3 (w.heap.size + 1 + 1) (by omega) (by omega) (vne _ (by omega))), cell_cur x2]
    rfl
  · intro V hV
    have oV : ∀ j, j ≠ w.heap.size → j ≠ w.heap.size + 1 → V.heap[j]? = w3.heap[j]? := fun j h1 h2 => by
      rw [hV, Go.heap_setCell_other _ _ _ _ (by simpa using h2), Go.heap_setCell_other _ _ _ _ (by simpa using h1)]
    have zV : V.heap.size = w3.heap.size := by rw [hV]; simp
    refine ⟨?_, by rw [hV]; go_simp, by rw [hV]; go_simp, ⟨?_, ?_, ?_, hF, ?_, hA.abl, hA.ne, ?_, ?_⟩, ⟨?_, ?_, ?_, by omega, ?_, ?_⟩⟩
    · exact (oV D (by omega) (by omega)).trans ((e3 D (by omega) (by omega) (vne _ (by omega))).trans ((o2 D (by omega) (by omega)).trans hD))
    · rw [World.cell?_of_block (a := ⟨b, 0, none⟩) (oV b (by omega) (by omega)), o3.cells 0 (by decide)]
      exact (World.cell?_of_block (a := ⟨b, 0, none⟩) (o2 b (fun e => hA.ne e.symm) (by omega))).trans hAU.c0
    · exact (oV ab (by omega) (by omega)).trans ((e3 ab (by omega) hA.ne (fun e => by have := (hA.tab.own e).1; have := hA.abl; omega)).trans a2)
    · rw [List.length_set]; exact hA.fl
    · have hin : insR (rowsO L) (nx, [.int .i64 nx, .int .i64 kd, .int .i64 sz, .int .i64 k, .int .i64 fr, .int .i64 0, .int .i64 0, .int .i64 0, .int .i64 0]) = rowsO (insO L ⟨nx, kd, sz, k, fr, 0, 0, 0, 0⟩) := (rows_ins L ⟨nx, kd, sz, k, fr, 0, 0, 0, 0⟩).symm
      rw [hin] at t3
      exact t3.of (by omega) (World.cell?_of_block (oV b (by omega) (by omega))) (World.frozen?_of_block (oV b (by omega) (by omega))) (fun g hg => by
        rcases o3.foot with h | ⟨g', h, hg'⟩
        · rw [h] at hg
          have := (hA.tab.own hg).2
          exact oV g (by omega) (by omega)
        · rw [h] at hg
          cases hg
          have : U2.heap.size ≤ g := hg'
          exact oV g (by omega) (by omega))
    · intro d hd
      rcases List.mem_or_eq_of_mem_set hd with q | q
      · exact hA.cn d q
      · omega
    · exact good_ins hA.good hc rfl hcb.1 h1 h2 h3 hnx
    · rw [hV]; exact (o3.os.trans (by rw [hU2]; rfl)).trans (hU.os.trans hW.below.os)
    · rw [hV]; exact (o3.tape.trans (by rw [hU2]; rfl)).trans (hU.tape.trans hW.below.tape)
    · rw [hV]; exact (o3.output.trans (by rw [hU2]; rfl)).trans (hU.output.trans hW.below.output)
    · intro j hj hjb hja hjv
      exact (oV j (by omega) (by omega)).trans ((e3 j (by omega) hjb hjv).trans ((o2 j hja (by omega)).trans ((hU.block j (by omega)).trans (hW.below.block j hj))))
    · rcases o3.foot with h | ⟨g', h, hg'⟩
      · exact .inl h
      · have : U2.heap.size ≤ g' := hg'
        exact .inr ⟨g', h, by omega⟩
end Go.Proofs.Ytkladhbamkomnaa
