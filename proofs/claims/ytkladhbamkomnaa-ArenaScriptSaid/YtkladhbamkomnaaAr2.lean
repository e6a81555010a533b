/- package arena: New; Add that is refused ahead. -/
import Derived.Test.YtkladhbamkomnaaAr1
import Derived.Sort.QuietIn
namespace Go.Proofs.Ytkladhbamkomnaa
set_option linter.unusedVariables false
set_option linter.unusedSimpArgs false
open Go.ChangeShapes Go.WideShapes Go.ChangeAt Go.RowKit Go.Shelf
open TabA

theorem infoInt : (Try.prog.info? 3).map (fun i => (i.zero, i.size, i.bytes)) = some (some (.int .i64 0), 1, 8) := by kernel_rfl
def zerosA (F : Nat) : List Int := List.replicate F 0
theorem made_zeros (F : Nat) : (madeCells (Value.cells (.int .i64 0)) (F * 1)).toList = (zerosA F).map (Value.int .i64) := by
  apply List.ext_getElem?
  intro k
  by_cases hk : k < F
  · rw [List.getElem?_eq_getElem (by simp [size_madeCells]; omega), List.getElem?_eq_getElem (by simp [zerosA]; omega)]
    simp [madeCells, zerosA, Value.cells, Nat.mod_one]
  · rw [List.getElem?_eq_none (by simp [size_madeCells]; omega), List.getElem?_eq_none (by simp [zerosA]; omega)]
/-- What New leaves. -/
def NewA (w w' : World) (b F : Nat) : Prop := ∃ ab base, ArAt w' b ab base F (zerosA F) (.slice none 0 0) [] ∧ w.heap.size ≤ ab ∧ w.heap.size ≤ b ∧ Below w.heap.size w w'
set_option maxRecDepth 100000 in
set_option maxHeartbeats 2000000 in
theorem new_any (w : World) (F : Nat) (hF : 1 ≤ F ∧ F ≤ 64) :
    Calls Try.prog 9 #[.int .i64 (F : Nat)] w fun e w' => ∃ b, e = .returned (.tuple #[.pointer (some ⟨b, 0, none⟩), .int .i64 0]) ∧ NewA w w' b F := by
  obtain ⟨i0, hi, hz0, hz1, hz2⟩ := info_parts infoInt
  have HI := Lib.hid hi
  clear hi
  have h1 : (1 : Int) ≤ F := by omega
  have h2 : ¬ (F : Int) < 1 := by omega
  have h3 : ¬ (64 : Int) < F := by omega
  go_enter Try.func9, Try.ntmps9
  go_wp2_with (at_make; refine wpList_make_full _ rfl _ _ 51 rfl w.heap.size 3 i0 (.int .i64 0) 1 Try.underlying51 HI.out hz0 hz1 .i64 .i64 (F : Int) (F : Int) F rfl rfl rfl rfl (by rw [hz2]; omega) (by unfold maxLen; omega) (Nat.le_refl _) ?_; intro w1 hown hgr)
  go_ret2
  rw [made_zeros] at hown
  have hw1 := hgr.size
  obtain ⟨_, ⟨h, _⟩ | ⟨g, cap, cur, hv, hbg, hblk, q1, q2, q3, q4⟩⟩ := hown
  · cases h
  · cases hv
    have hcur : cur = ((zerosA F).map (Value.int .i64)).toArray := by
      apply Array.ext'
      rw [← q4, List.take_of_length_le (by rw [Array.length_toList]; omega)]
    rw [hcur] at hblk
    have hgl : w.heap.size < w1.heap.size := (Array.getElem?_eq_some_iff.1 hblk).1
    refine ⟨_, rfl, w.heap.size, w1.heap.size + 1, ⟨?_, ?_, ?_, hF, ⟨?_, ?_, ?_, Nat.lt_succ_self _, ?_, ?_, ?_, ?_⟩, by omega, by omega, ?_, ?_⟩, Nat.le_refl _, by omega, ?_⟩
    · go_simp
    · exact (Below.heap_alloc _ _ _ hgl).trans hblk
    · simp [zerosA]
    · go_simp
    · go_simp
    · exact World.ownsRow_nil _ _ _ _
    · simp
    · intro r hr; cases hr
    · exact List.Pairwise.nil
    · simp [rowsO]
    · intro c hc
      have := List.eq_of_mem_replicate hc
      omega
    · intro x hx; cases hx
    · exact bal ((Below.refl _ _).grown hgr (Nat.le_refl _) (fun k hk => by cases hk)) _
set_option maxRecDepth 100000 in
set_option maxHeartbeats 2000000 in
theorem add_arg (w : World) (b : Nat) (kd sz fi : Int) (h : framesN kd sz = 0) :
    Calls Try.prog 24 #[.pointer (some ⟨b, 0, none⟩), .int .i64 kd, .int .i64 sz, .int .i64 fi] w fun e w' => e = .returned (.tuple #[.int .i64 0, .int .i64 2]) ∧ Below w.heap.size w w' := by
  have H := Lib.hid h
  clear h
  go_enter Try.func24, Try.ntmps24
  go_wp2_with (go_at_call 37; refine (frames_any _ _ _).mono ?_; rw [H.out]; rintro e w1 ⟨rfl, rfl⟩)
  exact bodyPost_ret (v := .tuple #[.int .i64 0, .int .i64 2]) (by simp [results, Try.results24, go_sem]) rfl ⟨rfl, by repeat (first | with_reducible exact Below.refl _ _ | refine Below.setCell ?_ (by simp) _ | refine bal ?_ _)⟩
end Go.Proofs.Ytkladhbamkomnaa
