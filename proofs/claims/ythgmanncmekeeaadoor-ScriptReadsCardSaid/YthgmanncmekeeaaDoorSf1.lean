/- chapter 35: rows of numbers read, by the own answer. -/
import Derived.Test.YthgmanncmekeeaaDoorSf0
namespace Go.Proofs.YthgmanncmekeeaaDoor
set_option linter.unusedVariables false
set_option linter.unusedSimpArgs false
open Go.ChangeShapes Go.WideShapes Go.ChangeAt Go.RowKit Go.Shelf
attribute [-go_sem] binOp_string_add binOp_string_eql binOp_string_neq run_index_string
attribute [local go_sem] Sc.bs_size
namespace Sc
/-- A field's number. -/
def numF (l : Bs) : Option Nat := match numW l with
  | some v => if v ≤ 999999 then some v else none
  | none => none
theorem numF_far (l : Bs) : (numF l = none ↔ numW l = none ∨ ∃ v, numW l = some v ∧ farP false (v : Int) = true) := by
  unfold numF farP
  cases h : numW l with
  | none => simp
  | some v =>
    by_cases hv : v ≤ 999999
    · simp [hv]; omega
    · simp [hv]; omega
theorem numF_some {l : Bs} {v : Nat} (h : numF l = some v) : numW l = some v ∧ farP false (v : Int) = false := by
  unfold numF at h
  cases hw : numW l with
  | none => rw [hw] at h; cases h
  | some u =>
    rw [hw] at h
    simp only at h
    split at h
    · cases h
      refine ⟨rfl, ?_⟩
      unfold farP; simp; omega
    · cases h
theorem number_any (l : Bs) (hl : l.length ≤ 100000) (w : World) : Calls Tryd.prog 51 #[.string (bs l)] w fun e w' => e = .returned (.tuple #[.int .i64 ((numF l).getD 0 : Nat), .bool (numF l).isSome]) ∧ w = w' := by
  have HW := Lib.hid (fun v => word_any l (by omega) v)
  obtain ⟨x, hx⟩ : ∃ x, x = (numF l).getD 0 := ⟨_, rfl⟩
  obtain ⟨b, hb⟩ : ∃ x, x = (numF l).isSome := ⟨_, rfl⟩
  rw [← hx, ← hb]
  unfold numV numB at HW
  unfold numF at hx hb
  cases hw : numW l with
  | none =>
    rw [hw] at HW hx hb
    simp only [Option.getD_none, Option.isSome_none] at HW hx hb
    subst hx; subst hb
    clear hl hw
    go_enter Tryd.func51, Tryd.ntmps51
    go_wp2_with (go_at_call 52; (with_reducible refine (HW.out _).mono ?_); rintro e w1 ⟨rfl, rfl⟩)
    go_ret2
    exact ⟨rfl, rfl⟩
  | some v =>
    have hv64 := (numW_iff.1 hw).1
    rw [hw] at HW hx hb
    simp only [Option.getD_some, Option.isSome_some] at HW hx hb
    by_cases hv : v ≤ 999999
    · rw [if_pos hv] at hx hb
      simp only [Option.getD_some, Option.isSome_some] at hx hb
      subst hx; subst hb
      have q : ((999999 : Int) < (x : Int)) = False := by rw [eq_iff_iff, iff_false]; omega
      have hcv : IntKind.i64.wrap (x : Int) = (x : Int) := IntWalk.i64_in _ (by omega)
      clear hl hw
      go_enter Tryd.func51, Tryd.ntmps51
      go_wp2_with (go_at_call 52; (with_reducible refine (HW.out _).mono ?_); rintro e w1 ⟨rfl, rfl⟩)
      go_ret2
      exact ⟨rfl, rfl⟩
    · rw [if_neg hv] at hx hb
      simp only [Option.getD_none, Option.isSome_none] at hx hb
      subst hx; subst hb
      have q : ((999999 : Int) < (v : Int)) = True := by rw [eq_iff_iff, iff_true]; omega
      clear hl hw
      go_enter Tryd.func51, Tryd.ntmps51
      go_wp2_with (go_at_call 52; (with_reducible refine (HW.out _).mono ?_); rintro e w1 ⟨rfl, rfl⟩)
      go_ret2
      exact ⟨rfl, rfl⟩
theorem infoI : (Tryd.prog.info? 3).map (fun i => (i.zero, i.size, i.bytes)) = some (some (.int .i64 0), 1, 8) := by kernel_rfl
theorem infoW : (Tryd.prog.info? 31).map (fun i => (i.zero, i.size, i.bytes)) = some (some (.int .u64 0), 1, 8) := by kernel_rfl
/-- All of a row, by a reading. -/
def okL (f : Bs → Option Nat) (L : List Bs) : Bool := L.all (fun l => (f l).isSome)
def valL (f : Bs → Option Nat) (L : List Bs) : List Int := L.map (fun l => (((f l).getD 0 : Nat) : Int))
theorem valL_len (f : Bs → Option Nat) (L : List Bs) : (valL f L).length = L.length := by unfold valL; rw [List.length_map]
set_option maxRecDepth 100000 in
set_option maxHeartbeats 2000000 in
theorem refnumbers_any (L : List Bs) (p : Option Addr) (n cap : Nat) (w : World) (hL : StrR w p L) (hn : L.length = n) (hn2 : n ≤ 70001) (hl : ∀ l ∈ L, l.length ≤ 100000) : Calls Tryd.prog 41 #[.slice p n cap] w fun e w' => ∃ v, e = .returned (.tuple #[v, .bool (okL numF L)]) ∧ (okL numF L = true → IntR .i64 w' v (valL numF L)) ∧ Below w.heap.size w w' := by
  obtain ⟨i0, hi0, hz0, hz1, hz2⟩ := info_parts infoI
  have HI0 := Lib.hid hi0
  have HL := Lib.hid hL
  have HN := Lib.hid hn
  have HS := Lib.hid hl
  obtain ⟨ok, hok⟩ : ∃ b, b = okL numF L := ⟨_, rfl⟩
  rw [← hok]
  have HOK := Lib.hid hok
  clear hi0 hL hn hl hok
  go_enter Tryd.func41, Tryd.ntmps41
  go_wp2
  go_loopw [4, 5] (fun out i wr => ∃ k : Nat, k ≤ n ∧ i = .int .i64 k ∧ wr.ownsRow w.heap.size 3 1 out k ((valL numF (L.take k)).map (Value.int .i64)) ∧ Hid (∀ l ∈ L.take k, (numF l).isSome = true) ∧ Below w.heap.size w wr) (fun _ i _ => n - (intOf i).toNat)
  case atStart => exact ⟨0, by omega, rfl, World.ownsRow_nil _ _ _ _, Lib.hid (fun l h => by simp at h), Below.refl _ _⟩
  case round =>
    obtain ⟨k, hk, rfl, hown, HG, hB⟩ := hrel
    by_cases hlt : k < n
    · have hltI : (k : Int) < n := by omega
      obtain ⟨l, hlk⟩ : ∃ l, L[k]? = some l := ⟨_, List.getElem?_eq_getElem (by have := HN.out; omega)⟩
      have hlm := List.mem_of_getElem? hlk
      obtain ⟨g, o, rfl, hg, hc⟩ := HL.out k l hlk
      have cl : wr.cell? ⟨g, o + k, none⟩ = some (.string (bs l)) := (World.cell?_of_block (hB.block g hg)).trans hc
      have HC : Hid (∀ v, Calls Tryd.prog 51 #[.string (bs l)] v fun e w' => e = .returned (.tuple #[.int .i64 ((numF l).getD 0 : Nat), .bool (numF l).isSome]) ∧ v = w') := Lib.hid (fun v => (fun l hl v => number_any l hl v) l (HS.out l hlm) v)
      obtain ⟨x, hx⟩ : ∃ x : Nat, x = (numF l).getD 0 := ⟨_, rfl⟩
      obtain ⟨b, hb⟩ : ∃ b, b = (numF l).isSome := ⟨_, rfl⟩
      rw [← hx, ← hb] at HC
      have HX : Hid (valL numF (L.take (k + 1)) = valL numF (L.take k) ++ [(x : Int)]) := Lib.hid (by rw [List.take_add_one, hlk, hx]; unfold valL; simp)
      cases b with
      | false =>
        obtain rfl : ok = false := by
          rw [HOK.out]
          unfold okL
          exact List.all_eq_false.2 ⟨l, hlm, by rw [← hb]; simp⟩
        clear hc hx hb hlk hlm
        go_wp2_with (go_at_call 51; (with_reducible refine (HC.out _).mono ?_); rintro e w3 ⟨rfl, rfl⟩)
        exact bodyPost_ret (v := .tuple #[.slice none 0 0, .bool false]) (by simp [results, Tryd.results41, go_sem]) rfl ⟨_, rfl, (fun h => by cases h), hB⟩
      | true =>
        have HG2 : Hid (∀ l ∈ L.take (k + 1), (numF l).isSome = true) := Lib.hid (by
          rw [List.take_add_one, hlk]
          intro y hy
          rcases List.mem_append.1 hy with hy | hy
          · exact HG.out y hy
          · simp at hy; rw [hy, ← hb])
        have hkw : k + 1 < 4000000 := by omega
        clear hc hx hb hlk hlm
        go_wp2_with (first
          | (go_at_call 51; (with_reducible refine (HC.out _).mono ?_); rintro e w3 ⟨rfl, rfl⟩)
          | (at_builtin; refine wpList_append_own _ rfl _ _ 69 rfl w.heap.size 3 i0 (.int .i64 0) 1 8 Tryd.underlying69 HI0.out hz0 hz1 hz2 rfl (by decide) _ _ _ rfl (hown.alloc _) ⟨wr.heap.size, 0, none⟩ 1 1 [.int .i64 x] rfl rfl (news_atE wr _ _ _ rfl) (by simp [Value.oneCell']) (by unfold maxLen; omega) (by omega) (by have := hB.size; simp; omega) ?_; intro v' w1 hown' hgrow _))
        go_roundw
        case rel =>
          refine ⟨k + 1, by omega, by go_num, ?_, HG2, (bal hB _).grown hgrow (by have := hB.size; simp; omega) (fun j ej => (hown.lt j ej).1)⟩
          rw [HX.out, List.map_append]
          exact hown'
        case measure => first | (simp [intOf]; done) | (simp [intOf]; omega)
    · obtain rfl : k = n := by omega
      have hall : L.take k = L := List.take_of_length_le (by have := HN.out; omega)
      obtain rfl : ok = true := by
        rw [HOK.out]
        unfold okL
        rw [List.all_eq_true]
        intro l hl
        exact HG.out l (by rw [hall]; exact hl)
      rw [hall] at hown
      have HR := Lib.hid (IntR.own (by rw [valL_len]; exact HN.out) hown)
      clear hall
      go_wp2
      exact bodyPost_ret (by simp [results, Tryd.results41, go_sem]) rfl ⟨_, rfl, HR.out, hB⟩
set_option maxRecDepth 100000 in
set_option maxHeartbeats 2000000 in
theorem refwords_any (L : List Bs) (p : Option Addr) (n cap : Nat) (w : World) (hL : StrR w p L) (hn : L.length = n) (hn2 : n ≤ 70001) (hl : ∀ l ∈ L, l.length ≤ 100000) : Calls Tryd.prog 42 #[.slice p n cap] w fun e w' => ∃ v, e = .returned (.tuple #[v, .bool (okL numW L)]) ∧ (okL numW L = true → IntR .u64 w' v (valL numW L)) ∧ Below w.heap.size w w' := by
  obtain ⟨i0, hi0, hz0, hz1, hz2⟩ := info_parts infoW
  have HI0 := Lib.hid hi0
  have HL := Lib.hid hL
  have HN := Lib.hid hn
  have HS := Lib.hid hl
  obtain ⟨ok, hok⟩ : ∃ b, b = okL numW L := ⟨_, rfl⟩
  rw [← hok]
  have HOK := Lib.hid hok
  clear hi0 hL hn hl hok
  go_enter Tryd.func42, Tryd.ntmps42
  go_wp2
  go_loopw [4, 5] (fun out i wr => ∃ k : Nat, k ≤ n ∧ i = .int .i64 k ∧ wr.ownsRow w.heap.size 31 1 out k ((valL numW (L.take k)).map (Value.int .u64)) ∧ Hid (∀ l ∈ L.take k, (numW l).isSome = true) ∧ Below w.heap.size w wr) (fun _ i _ => n - (intOf i).toNat)
  case atStart => exact ⟨0, by omega, rfl, World.ownsRow_nil _ _ _ _, Lib.hid (fun l h => by simp at h), Below.refl _ _⟩
  case round =>
    obtain ⟨k, hk, rfl, hown, HG, hB⟩ := hrel
    by_cases hlt : k < n
    · have hltI : (k : Int) < n := by omega
      obtain ⟨l, hlk⟩ : ∃ l, L[k]? = some l := ⟨_, List.getElem?_eq_getElem (by have := HN.out; omega)⟩
      have hlm := List.mem_of_getElem? hlk
      obtain ⟨g, o, rfl, hg, hc⟩ := HL.out k l hlk
      have cl : wr.cell? ⟨g, o + k, none⟩ = some (.string (bs l)) := (World.cell?_of_block (hB.block g hg)).trans hc
      have HC : Hid (∀ v, Calls Tryd.prog 52 #[.string (bs l)] v fun e w' => e = .returned (.tuple #[.int .u64 ((numW l).getD 0 : Nat), .bool (numW l).isSome]) ∧ v = w') := Lib.hid (fun v => (fun l (hl : l.length ≤ 100000) v => word_any l (by omega) v) l (HS.out l hlm) v)
      obtain ⟨x, hx⟩ : ∃ x : Nat, x = (numW l).getD 0 := ⟨_, rfl⟩
      obtain ⟨b, hb⟩ : ∃ b, b = (numW l).isSome := ⟨_, rfl⟩
      rw [← hx, ← hb] at HC
      have HX : Hid (valL numW (L.take (k + 1)) = valL numW (L.take k) ++ [(x : Int)]) := Lib.hid (by rw [List.take_add_one, hlk, hx]; unfold valL; simp)
      cases b with
      | false =>
        obtain rfl : ok = false := by
          rw [HOK.out]
          unfold okL
          exact List.all_eq_false.2 ⟨l, hlm, by rw [← hb]; simp⟩
        clear hc hx hb hlk hlm
        go_wp2_with (go_at_call 52; (with_reducible refine (HC.out _).mono ?_); rintro e w3 ⟨rfl, rfl⟩)
        exact bodyPost_ret (v := .tuple #[.slice none 0 0, .bool false]) (by simp [results, Tryd.results42, go_sem]) rfl ⟨_, rfl, (fun h => by cases h), hB⟩
      | true =>
        have HG2 : Hid (∀ l ∈ L.take (k + 1), (numW l).isSome = true) := Lib.hid (by
          rw [List.take_add_one, hlk]
          intro y hy
          rcases List.mem_append.1 hy with hy | hy
          · exact HG.out y hy
          · simp at hy; rw [hy, ← hb])
        have hkw : k + 1 < 4000000 := by omega
        clear hc hx hb hlk hlm
        go_wp2_with (first
          | (go_at_call 52; (with_reducible refine (HC.out _).mono ?_); rintro e w3 ⟨rfl, rfl⟩)
          | (at_builtin; refine wpList_append_own _ rfl _ _ 70 rfl w.heap.size 31 i0 (.int .u64 0) 1 8 Tryd.underlying70 HI0.out hz0 hz1 hz2 rfl (by decide) _ _ _ rfl (hown.alloc _) ⟨wr.heap.size, 0, none⟩ 1 1 [.int .u64 x] rfl rfl (news_atE wr _ _ _ rfl) (by simp [Value.oneCell']) (by unfold maxLen; omega) (by omega) (by have := hB.size; simp; omega) ?_; intro v' w1 hown' hgrow _))
        go_roundw
        case rel =>
          refine ⟨k + 1, by omega, by go_num, ?_, HG2, (bal hB _).grown hgrow (by have := hB.size; simp; omega) (fun j ej => (hown.lt j ej).1)⟩
          rw [HX.out, List.map_append]
          exact hown'
        case measure => first | (simp [intOf]; done) | (simp [intOf]; omega)
    · obtain rfl : k = n := by omega
      have hall : L.take k = L := List.take_of_length_le (by have := HN.out; omega)
      obtain rfl : ok = true := by
        rw [HOK.out]
        unfold okL
        rw [List.all_eq_true]
        intro l hl
        exact HG.out l (by rw [hall]; exact hl)
      rw [hall] at hown
      have HR := Lib.hid (IntR.own (by rw [valL_len]; exact HN.out) hown)
      clear hall
      go_wp2
      exact bodyPost_ret (by simp [results, Tryd.results42, go_sem]) rfl ⟨_, rfl, HR.out, hB⟩
end Sc
end Go.Proofs.YthgmanncmekeeaaDoor
