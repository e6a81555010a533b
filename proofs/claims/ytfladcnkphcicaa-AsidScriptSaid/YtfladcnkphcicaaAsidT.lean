/- package asid: New, AddPool, Unassign; Assign of anything; the nil object. -/
import Derived.Test.YtfladcnkphcicaaAsidS
namespace Go.Proofs.Ytfladcnkphcicaa
set_option linter.unusedVariables false
set_option linter.unusedSimpArgs false
open Go.ChangeShapes Go.WideShapes Go.ChangeAt Go.RowKit Go.Shelf

abbrev N0 : Nums := fun _ => (0, 0, 0)
abbrev po0 : Nat → Int := fun _ => 0
theorem ok_N0 : NumsOk N0 := fun n _ => ⟨by simp, by simp⟩
theorem cell_new (W : World) (cs : Array Value) (t : TypeId) (j : Nat) : (W.alloc (.cells cs t)).cell? ⟨W.heap.size, j, none⟩ = cs[j]? := by
  have h := World.alloc_heap_new W (.cells cs t)
  unfold World.cell?
  rw [h]
  simp
theorem frozen_new (W : World) (cs : Array Value) (t : TypeId) (j : Nat) : (W.alloc (.cells cs t)).frozen? ⟨W.heap.size, j, none⟩ = false := by
  have h := World.alloc_heap_new W (.cells cs t)
  unfold World.frozen?
  rw [h]
  simp
theorem asidAt_new (W : World) : AsidAt (W.alloc (.cells #[.int .i64 0, .int .i64 0, .int .i64 0, .int .i64 0, .int .i64 0, .int .i64 0, .int .i64 0, .int .i64 0, .int .i64 0, .int .i64 0, .int .i64 0, .int .i64 0, .int .i64 0, .int .i64 0, .int .i64 0, .int .i64 0, .int .i64 0, .int .i64 0, .int .i64 0, .int .i64 0, .int .i64 0, .int .i64 0, .int .i64 0, .int .i64 0, .int .i64 0, .int .i64 0, .int .i64 0, .int .i64 0, .int .i64 0, .int .i64 0, .int .i64 0, .int .i64 0, .int .i64 0, .int .i64 0, .int .i64 0, .int .i64 0, .int .i64 0, .int .i64 0, .int .i64 0, .int .i64 0, .int .i64 0, .int .i64 0, .int .i64 0, .int .i64 0, .int .i64 0, .int .i64 0, .int .i64 0, .int .i64 0, .int .i64 0, .int .i64 0, .int .i64 0, .int .i64 0, .int .i64 0, .int .i64 0, .int .i64 0, .int .i64 0, .int .i64 0, .int .i64 0, .int .i64 0, .int .i64 0, .int .i64 0, .int .i64 0, .int .i64 0, .int .i64 0, .int .i64 0, .int .i64 0, .int .i64 0, .int .i64 0, .int .i64 0, .int .i64 0, .int .i64 0, .int .i64 0, .int .i64 0, .int .i64 0, .int .i64 0, .int .i64 0, .int .i64 0, .int .i64 0, .int .i64 0, .int .i64 0, .int .i64 0, .int .i64 0, .int .i64 0, .int .i64 0, .int .i64 0, .int .i64 0, .int .i64 0, .int .i64 0, .int .i64 0, .int .i64 0, .int .i64 0, .int .i64 0, .int .i64 0, .int .i64 0, .int .i64 0, .int .i64 0, .int .i64 0, .int .i64 0, .int .i64 0, .int .i64 0, .int .i64 0, .int .i64 0, .int .i64 0, .int .i64 0, .int .i64 0] 62)) W.heap.size po0 0 N0 := by
  have e : (#[.int .i64 0, .int .i64 0, .int .i64 0, .int .i64 0, .int .i64 0, .int .i64 0, .int .i64 0, .int .i64 0, .int .i64 0, .int .i64 0, .int .i64 0, .int .i64 0, .int .i64 0, .int .i64 0, .int .i64 0, .int .i64 0, .int .i64 0, .int .i64 0, .int .i64 0, .int .i64 0, .int .i64 0, .int .i64 0, .int .i64 0, .int .i64 0, .int .i64 0, .int .i64 0, .int .i64 0, .int .i64 0, .int .i64 0, .int .i64 0, .int .i64 0, .int .i64 0, .int .i64 0, .int .i64 0, .int .i64 0, .int .i64 0, .int .i64 0, .int .i64 0, .int .i64 0, .int .i64 0, .int .i64 0, .int .i64 0, .int .i64 0, .int .i64 0, .int .i64 0, .int .i64 0, .int .i64 0, .int .i64 0, .int .i64 0, .int .i64 0, .int .i64 0, .int .i64 0, .int .i64 0, .int .i64 0, .int .i64 0, .int .i64 0, .int .i64 0, .int .i64 0, .int .i64 0, .int .i64 0, .int .i64 0, .int .i64 0, .int .i64 0, .int .i64 0, .int .i64 0, .int .i64 0, .int .i64 0, .int .i64 0, .int .i64 0, .int .i64 0, .int .i64 0, .int .i64 0, .int .i64 0, .int .i64 0, .int .i64 0, .int .i64 0, .int .i64 0, .int .i64 0, .int .i64 0, .int .i64 0, .int .i64 0, .int .i64 0, .int .i64 0, .int .i64 0, .int .i64 0, .int .i64 0, .int .i64 0, .int .i64 0, .int .i64 0, .int .i64 0, .int .i64 0, .int .i64 0, .int .i64 0, .int .i64 0, .int .i64 0, .int .i64 0, .int .i64 0, .int .i64 0, .int .i64 0, .int .i64 0, .int .i64 0, .int .i64 0, .int .i64 0, .int .i64 0, .int .i64 0] : Array Value) = Array.replicate 105 (.int .i64 0) := rfl
  have c : ∀ j, j < 105 → (W.alloc (.cells #[.int .i64 0, .int .i64 0, .int .i64 0, .int .i64 0, .int .i64 0, .int .i64 0, .int .i64 0, .int .i64 0, .int .i64 0, .int .i64 0, .int .i64 0, .int .i64 0, .int .i64 0, .int .i64 0, .int .i64 0, .int .i64 0, .int .i64 0, .int .i64 0, .int .i64 0, .int .i64 0, .int .i64 0, .int .i64 0, .int .i64 0, .int .i64 0, .int .i64 0, .int .i64 0, .int .i64 0, .int .i64 0, .int .i64 0, .int .i64 0, .int .i64 0, .int .i64 0, .int .i64 0, .int .i64 0, .int .i64 0, .int .i64 0, .int .i64 0, .int .i64 0, .int .i64 0, .int .i64 0, .int .i64 0, .int .i64 0, .int .i64 0, .int .i64 0, .int .i64 0, .int .i64 0, .int .i64 0, .int .i64 0, .int .i64 0, .int .i64 0, .int .i64 0, .int .i64 0, .int .i64 0, .int .i64 0, .int .i64 0, .int .i64 0, .int .i64 0, .int .i64 0, .int .i64 0, .int .i64 0, .int .i64 0, .int .i64 0, .int .i64 0, .int .i64 0, .int .i64 0, .int .i64 0, .int .i64 0, .int .i64 0, .int .i64 0, .int .i64 0, .int .i64 0, .int .i64 0, .int .i64 0, .int .i64 0, .int .i64 0, .int .i64 0, .int .i64 0, .int .i64 0, .int .i64 0, .int .i64 0, .int .i64 0, .int .i64 0, .int .i64 0, .int .i64 0, .int .i64 0, .int .i64 0, .int .i64 0, .int .i64 0, .int .i64 0, .int .i64 0, .int .i64 0, .int .i64 0, .int .i64 0, .int .i64 0, .int .i64 0, .int .i64 0, .int .i64 0, .int .i64 0, .int .i64 0, .int .i64 0, .int .i64 0, .int .i64 0, .int .i64 0, .int .i64 0, .int .i64 0] 62)).cell? ⟨W.heap.size, j, none⟩ = some (.int .i64 0) := fun j hj => by
    rw [cell_new, e, Array.getElem?_replicate, if_pos hj]
  exact ⟨fun i hi => c i (by omega), c 8 (by omega), fun n hn => ⟨c _ (by omega), c _ (by omega), c _ (by omega)⟩, fun j => frozen_new _ _ _ _, by simp⟩
set_option maxRecDepth 100000 in
theorem new_any (W : World) : Calls Try.prog 5 #[] W fun e w' => e = .returned (.pointer (some ⟨W.heap.size, 0, none⟩)) ∧ AsidAt w' W.heap.size po0 0 N0 ∧ Below W.heap.size W w' := by
  have h := Lib.hid (asidAt_new W)
  have hz : ∀ w, (zeroValue 62).run Try.prog w = .ok (.agg #[.int .i64 0, .int .i64 0, .int .i64 0, .int .i64 0, .int .i64 0, .int .i64 0, .int .i64 0, .int .i64 0, .int .i64 0, .int .i64 0, .int .i64 0, .int .i64 0, .int .i64 0, .int .i64 0, .int .i64 0, .int .i64 0, .int .i64 0, .int .i64 0, .int .i64 0, .int .i64 0, .int .i64 0, .int .i64 0, .int .i64 0, .int .i64 0, .int .i64 0, .int .i64 0, .int .i64 0, .int .i64 0, .int .i64 0, .int .i64 0, .int .i64 0, .int .i64 0, .int .i64 0, .int .i64 0, .int .i64 0, .int .i64 0, .int .i64 0, .int .i64 0, .int .i64 0, .int .i64 0, .int .i64 0, .int .i64 0, .int .i64 0, .int .i64 0, .int .i64 0, .int .i64 0, .int .i64 0, .int .i64 0, .int .i64 0, .int .i64 0, .int .i64 0, .int .i64 0, .int .i64 0, .int .i64 0, .int .i64 0, .int .i64 0, .int .i64 0, .int .i64 0, .int .i64 0, .int .i64 0, .int .i64 0, .int .i64 0, .int .i64 0, .int .i64 0, .int .i64 0, .int .i64 0, .int .i64 0, .int .i64 0, .int .i64 0, .int .i64 0, .int .i64 0, .int .i64 0, .int .i64 0, .int .i64 0, .int .i64 0, .int .i64 0, .int .i64 0, .int .i64 0, .int .i64 0, .int .i64 0, .int .i64 0, .int .i64 0, .int .i64 0, .int .i64 0, .int .i64 0, .int .i64 0, .int .i64 0, .int .i64 0, .int .i64 0, .int .i64 0, .int .i64 0, .int .i64 0, .int .i64 0, .int .i64 0, .int .i64 0, .int .i64 0, .int .i64 0, .int .i64 0, .int .i64 0, .int .i64 0, .int .i64 0, .int .i64 0, .int .i64 0, .int .i64 0, .int .i64 0]) w := fun _ => by kernel_rfl
  go_enter Try.func5, Try.ntmps5
  go_wp2
  go_ret
  exact ⟨rfl, h.out, bal (Below.refl _ _) _⟩
theorem BlkOnly.cell {b : Nat} {w w' : World} {k j : Nat} {v : Option Value} (h : BlkOnly b w w') (hk : k < w.heap.size) (hn : k ≠ b) (q : w.cell? ⟨k, j, none⟩ = v) : w'.cell? ⟨k, j, none⟩ = v := (cell_of_block (h.block k hk hn)).trans q
/-- What AddPool tells and leaves. -/
def addF (po : Nat → Int) (tk obj : Int) : (Int × Int) × (Nat → Int) × Int :=
  if obj < 1 then ((0, 2), po, tk) else if (placeF po obj).2 = true then ((0, 16), po, tk) else if tk = 8 then ((0, 11), po, tk) else ((tk, 0), (fun i => if i = tk.toNat then obj else po i), tk + 1)
set_option maxHeartbeats 1000000 in
theorem addPool_any (w : World) (b : Nat) (po : Nat → Int) (tk : Int) (N : Nums) (obj : Int) (h : AsidAt w b po tk N) (h0 : 0 ≤ tk) (h8 : tk ≤ 8) :
    Calls Try.prog 6 #[.pointer (some ⟨b, 0, none⟩), .int .i64 obj] w fun e w' => e = .returned (.tuple #[.int .i64 (addF po tk obj).1.1, .int .i64 (addF po tk obj).1.2]) ∧ AsidAt w' b (addF po tk obj).2.1 (addF po tk obj).2.2 N ∧ BlkOnly b w w' := by
  have H := Lib.hid h
  have ct := h.taken
  have hfz := h.free
  have hb := h.lt
  clear h
  by_cases h1 : obj < 1
  · have e : addF po tk obj = ((0, 2), po, tk) := by unfold addF; rw [if_pos h1]
    rw [e]
    go_enter Try.func6, Try.ntmps6
    go_wp2
    go_ret2
    exact ⟨rfl, H.out, BlkOnly.refl _ _⟩
  · obtain ⟨⟨pl, pb⟩, hp⟩ : ∃ r, placeF po obj = r := ⟨_, rfl⟩
    have h1' : 1 ≤ obj := by omega
    cases pb
    · by_cases h2 : tk = 8
      · have e : addF po tk obj = ((0, 11), po, tk) := by unfold addF; rw [if_neg h1, hp, if_neg (by simp), if_pos h2]
        rw [e]
        have HP := Lib.hid hp
        rw [h2] at ct
        clear hp h1 e
        go_enter Try.func6, Try.ntmps6
        go_wp2_with (first
          | (go_at_call 22; refine (place_any _ b po tk N obj H.out).mono ?_; rw [HP.out]; rintro e w1 ⟨rfl, rfl⟩))
        go_ret2
        exact ⟨rfl, H.out, BlkOnly.refl _ _⟩
      · obtain ⟨k, hk⟩ : ∃ k : Nat, tk = k := ⟨tk.toNat, by omega⟩
        subst hk
        have e : addF po k obj = (((k : Int), 0), (fun i => if i = k then obj else po i), (k : Int) + 1) := by unfold addF; rw [if_neg h1, hp, if_neg (by simp), if_neg h2]; simp
        rw [e]
        have h3 : ((k : Int) == 8) = false := beq_eq_false_iff_ne.2 h2
        have hk8 : k < 8 := by omega
        have hk8' : (k : Int) < 8 := by omega
        have cp := H.out.pool k hk8
        have HP := Lib.hid hp
        clear hp h1 e h2
        go_enter Try.func6, Try.ntmps6
        go_wp2_with (first
          | (go_at_call 22; refine (place_any _ b po k N obj H.out).mono ?_; rw [HP.out]; rintro e w1 ⟨rfl, rfl⟩))
        go_ret2
        refine ⟨rfl, ?_, ((BlkOnly.refl b w).set _ _).set _ _⟩
        refine ⟨fun i hi => ?_, ?_, fun m hm => ?_, fun j => ?_, ?_⟩
        · have c := H.out.pool i hi
          rw [World.cell?_setCell_other]
          · by_cases hik : i = k
            · subst hik; simp [go_sem, c]
            · rw [World.cell?_setCell_other, if_neg hik]
              · exact c
              · intro e; simp only [Addr.mk.injEq, true_and, and_true] at e; omega
          · intro e; simp only [Addr.mk.injEq, true_and, and_true] at e; omega
        · have : (w.setCell ⟨b, k, none⟩ (.int .i64 obj)).cell? ⟨b, 8, none⟩ = some (.int .i64 k) := by
            rw [World.cell?_setCell_other]
            · exact ct
            · intro e; simp only [Addr.mk.injEq, true_and, and_true] at e; omega
          simp [go_sem, this]
        · obtain ⟨c0, c1, c2⟩ := H.out.num m hm
          refine ⟨?_, ?_, ?_⟩
          all_goals
            rw [World.cell?_setCell_other, World.cell?_setCell_other]
            · assumption
            all_goals (intro e; simp only [Addr.mk.injEq, true_and, and_true] at e; omega)
        · simp [go_sem, hfz]
        · simpa using hb
    · have e : addF po tk obj = ((0, 16), po, tk) := by unfold addF; rw [if_neg h1, hp, if_pos rfl]
      rw [e]
      have HP := Lib.hid hp
      clear hp h1 e
      go_enter Try.func6, Try.ntmps6
      go_wp2_with (first
        | (go_at_call 22; refine (place_any _ b po tk N obj H.out).mono ?_; rw [HP.out]; rintro e w1 ⟨rfl, rfl⟩))
      go_ret2
      exact ⟨rfl, H.out, BlkOnly.refl _ _⟩
/-- What Assign tells and leaves. -/
def assignF (po : Nat → Int) (N : Nums) (pool root : Int) : (Int × Int × Int) × Nums :=
  if (placeF po pool).2 = false ∨ root < 1 then ((0, 0, 2), N) else if (ofR N root).2.2 = true then ((0, 0, 13), N) else takeF N (placeF po pool).1.toNat root
theorem place_in (po : Nat → Int) (obj : Int) : (∃ p : Nat, p < 8 ∧ placeF po obj = ((p : Int), true)) ∨ placeF po obj = (0, false) := by
  unfold placeF
  split
  · rename_i p hp
    have := List.mem_of_find?_eq_some hp
    exact .inl ⟨p, by simpa using this, rfl⟩
  · exact .inr rfl
theorem of_in2 (N : Nums) (r : Int) : (ofR N r).2.2 = true ∨ ofR N r = (0, 0, false) := by
  unfold ofR
  split
  · exact .inl rfl
  · exact .inr rfl
set_option maxRecDepth 100000 in
set_option maxHeartbeats 2000000 in
theorem assign_any (w : World) (b : Nat) (po : Nat → Int) (tk : Int) (N : Nums) (pool root : Int) (h : AsidAt w b po tk N) (hN : NumsOk N) :
    Calls Try.prog 13 #[.pointer (some ⟨b, 0, none⟩), .int .i64 pool, .int .i64 root] w fun e W' => e = .returned (.tuple #[.int .i64 (assignF po N pool root).1.1, .int .i64 (assignF po N pool root).1.2.1, .int .i64 (assignF po N pool root).1.2.2]) ∧ AsidAt W' b po tk (assignF po N pool root).2 ∧ BlkOnly b w W' := by
  have HA := Lib.hid h
  rcases place_in po pool with ⟨pl, hpl, hp⟩ | hp
  · by_cases hr : root < 1
    · have e : assignF po N pool root = ((0, 0, 2), N) := by unfold assignF; rw [if_pos (.inr hr)]
      rw [e]
      have HP := Lib.hid hp
      clear hp h e hN
      go_enter Try.func13, Try.ntmps13
      go_wp2
      go_step3
      go_wp2_with (first
        | (go_at_call 22; refine (place_any _ b po tk N pool (HA.out.call (bal (Below.refl _ _) _))).mono ?_; rw [HP.out]; rintro e w1 ⟨rfl, rfl⟩))
      (try rw [Exit.noGoto_ret])
      refine bodyPost_ret (v := .tuple #[.int .i64 0, .int .i64 0, .int .i64 2]) (by simp [results, Try.results13, go_sem]) rfl ⟨rfl, HA.out.call (bal (Below.refl _ _) _), BlkOnly.of_below (bal (Below.refl _ _) _)⟩
    · have hr' : 1 ≤ root := by omega
      rcases of_in2 N root with ho | ho
      · have e : assignF po N pool root = ((0, 0, 13), N) := by unfold assignF; rw [if_neg (by rw [hp]; simp; omega), if_pos ho]
        rw [e]
        obtain ⟨⟨o1, o2, o3⟩, hoo⟩ : ∃ r, ofR N root = r := ⟨_, rfl⟩
        rw [hoo] at ho
        simp only at ho
        subst ho
        have HP := Lib.hid hp
        have HO := Lib.hid hoo
        clear hp h e hN hoo hr
        go_enter Try.func13, Try.ntmps13
        go_wp2
        go_step3
        go_wp2_with (first
          | (go_at_call 22; refine (place_any _ b po tk N pool (HA.out.call (bal (Below.refl _ _) _))).mono ?_; rw [HP.out]; rintro e w1 ⟨rfl, rfl⟩)
          | (go_at_call 17; refine (of_any _ b po tk N root (HA.out.call (bal (Below.refl _ _) _))).mono ?_; rw [HO.out]; rintro e w2 ⟨rfl, hb2⟩))
        (try rw [Exit.noGoto_ret])
        refine bodyPost_ret (v := .tuple #[.int .i64 0, .int .i64 0, .int .i64 13]) (by simp [results, Try.results13, go_sem]) rfl ⟨rfl, HA.out.call (bgo (bal (Below.refl _ _) _) hb2), BlkOnly.of_below (bgo (bal (Below.refl _ _) _) hb2)⟩
      · have e : assignF po N pool root = takeF N pl root := by unfold assignF; rw [if_neg (by rw [hp]; simp; omega), ho, hp]; simp
        rw [e]
        exact callsIn_wide.1 (assign_in w b pl po tk N pool root h hN hpl hp hr' ho)
  · have e : assignF po N pool root = ((0, 0, 2), N) := by unfold assignF; rw [if_pos (.inl (by rw [hp]))]
    rw [e]
    have HP := Lib.hid hp
    clear hp h e hN
    go_enter Try.func13, Try.ntmps13
    go_wp2
    go_step3
    go_wp2_with (first
      | (go_at_call 22; refine (place_any _ b po tk N pool (HA.out.call (bal (Below.refl _ _) _))).mono ?_; rw [HP.out]; rintro e w1 ⟨rfl, rfl⟩))
    (try rw [Exit.noGoto_ret])
    refine bodyPost_ret (v := .tuple #[.int .i64 0, .int .i64 0, .int .i64 2]) (by simp [results, Try.results13, go_sem]) rfl ⟨rfl, HA.out.call (bal (Below.refl _ _) _), BlkOnly.of_below (bal (Below.refl _ _) _)⟩
end Go.Proofs.Ytfladcnkphcicaa
