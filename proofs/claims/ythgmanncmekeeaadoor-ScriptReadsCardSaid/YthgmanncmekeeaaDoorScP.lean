/- chapter 35: all events' text, by the package. -/
import Derived.Test.YthgmanncmekeeaaDoorScF
import Derived.Shelf.Strings.BuilderK
import Derived.Shelf.Strings.MapGrows
namespace Go.Proofs.YthgmanncmekeeaaDoor
set_option linter.unusedVariables false
set_option linter.unusedSimpArgs false
open Go.ChangeShapes Go.WideShapes Go.ChangeAt Go.RowKit Go.Shelf
attribute [-go_sem] binOp_string_add binOp_string_eql binOp_string_neq run_index_string
attribute [local go_sem] Sc.bs_size
namespace Sc
/-- An event whose numbers are numbers of the machine. -/
structure EvG (c : Ev) : Prop where
  ok : EvOk c
  lt : ∀ i, c i < 18446744073709551616
theorem line_any (c : Ev) (w : World) (hc : EvG c) (hE : EnvAt w) : Calls Tryd.prog 12 #[evV c] w fun e w' => e = .returned (.tuple #[.string (bs (lineE c).1), .int .i64 (lineE c).2]) ∧ Below w.heap.size w w' := by
  by_cases h : nm (c 0) = []
  · have : lineE c = ([], 2) := by unfold lineE; rw [if_pos h]
    rw [this]
    exact line_none c w h
  · exact callsIn_wide.1 (line_in c w hc.ok hc.lt h hE)
theorem flat_len {α : Type} (f : α → Bs) (m : Nat) : ∀ l : List α, (∀ x ∈ l, (f x).length ≤ m) → ((l.map f).flatten).length ≤ m * l.length
  | [], _ => by simp
  | x :: l, h => by
    have h1 := h x List.mem_cons_self
    have h2 := flat_len f m l (fun y hy => h y (List.mem_cons_of_mem _ hy))
    simp only [List.map_cons, List.flatten_cons, List.length_append, List.length_cons]
    rw [Nat.mul_succ]
    omega
theorem line_len (c : Ev) (hc : EvG c) : (lineE c).1.length ≤ 200 := by
  by_cases h : (lineE c).2 = 0
  · obtain ⟨h1, h2, h3⟩ := line_eq (c := c) (t := (lineE c).1) (by rw [← h])
    rw [h3, jn_flat]
    have a1 := nm_len (c 0)
    have a2 : (((wordsOf c).map (fun x => (32 : UInt8) :: x)).flatten).length ≤ 21 * (wordsOf c).length := by
      refine flat_len _ 21 _ (fun x hx => ?_)
      unfold wordsOf at hx
      obtain ⟨p, -, rfl⟩ := List.mem_map.1 hx
      have := nd20 (u := (c p.2).toNat) (by have := hc.lt p.2; omega)
      simp only [List.length_cons]
      omega
    have a3 : (wordsOf c).length ≤ 8 := by unfold wordsOf; rw [List.length_map]; exact (places_len _).2
    rw [List.length_append]
    omega
  · rw [lineE_err c h]; simp
def txtE (L : List Ev) : Bs := (L.map (fun c => (lineE c).1 ++ [10])).flatten
theorem txtE_snoc (L : List Ev) (c : Ev) : txtE (L ++ [c]) = txtE L ++ ((lineE c).1 ++ [10]) := by unfold txtE; simp
def printE (L : List Ev) : Bs × Int := match L.find? (fun c => decide ((lineE c).2 ≠ 0)) with
  | some c => ([], (lineE c).2)
  | none => if 65536 < (txtE L).length then ([], 11) else (txtE L, 0)
theorem printE_bad {L : List Ev} {c : Ev} (k : Nat) (hc : L[k]? = some c) (hg : ∀ c ∈ L.take k, (lineE c).2 = 0) (hb : (lineE c).2 ≠ 0) : printE L = ([], (lineE c).2) := by
  have hk : k < L.length := (List.getElem?_eq_some_iff.1 hc).1
  have e1 : L = L.take k ++ c :: L.drop (k + 1) := by
    rw [← (List.getElem?_eq_some_iff.1 hc).2, ← List.drop_eq_getElem_cons hk, List.take_append_drop]
  have e2 : (L.take k).find? (fun c => decide ((lineE c).2 ≠ 0)) = none := List.find?_eq_none.2 (fun x hx => by simp [hg x hx])
  unfold printE
  rw [e1, List.find?_append, e2, List.find?_cons, decide_eq_true hb]
  rfl
theorem printE_ok {L : List Ev} (hg : ∀ c ∈ L, (lineE c).2 = 0) : printE L = if 65536 < (txtE L).length then ([], 11) else (txtE L, 0) := by
  unfold printE
  rw [List.find?_eq_none.2 (fun x hx => by simp [hg x hx])]
/-- A row of events, in the world. -/
def EvsAt (w : World) (v : Value) (L : List Ev) : Prop := ∃ p cap, v = .slice p L.length cap ∧ (p = none → L = []) ∧ ∀ a, p = some a → (0 < L.length → a.block < w.heap.size) ∧ ∀ i c, L[i]? = some c → ∀ j u, (evA c).toList[j]? = some u → w.cell? ((a.add (i * 15)).add j) = some u
theorem add_block (a : Addr) (n : Nat) : (a.add n).block = a.block := by unfold Addr.add; split <;> simp
theorem cell_blk {W W' : World} {a : Addr} (h : W'.heap[a.block]? = W.heap[a.block]?) : W'.cell? a = W.cell? a := by unfold World.cell?; rw [h]
theorem EvsAt.call {w w' : World} {v : Value} {L : List Ev} (h : EvsAt w v L) (hb : Below w.heap.size w w') : EvsAt w' v L := by
  obtain ⟨p, cap, h1, h2, h3⟩ := h
  refine ⟨p, cap, h1, h2, fun a ha => ⟨fun hl => by have := (h3 a ha).1 hl; have := hb.size; omega, fun i c hc j u hu => ?_⟩⟩
  have e : w'.heap[((a.add (i * 15)).add j).block]? = w.heap[((a.add (i * 15)).add j).block]? := by rw [add_block, add_block]; exact hb.block _ ((h3 a ha).1 (by have := (List.getElem?_eq_some_iff.1 hc).1; omega))
  rw [cell_blk e]
  exact (h3 a ha).2 i c hc j u hu
theorem ev_cells {w : World} {A : Addr} {c : Ev} (h : ∀ j u, (evA c).toList[j]? = some u → w.cell? (A.add j) = some u) : w.cell? A = some (.int .i64 (c 0)) ∧ w.cell? ⟨A.block, A.off + 1, none⟩ = some (.int .i64 (c 1)) ∧ w.cell? ⟨A.block, A.off + 2, none⟩ = some (.int .i64 (c 2)) ∧ w.cell? ⟨A.block, A.off + 3, none⟩ = some (.int .u64 (c 3)) ∧ w.cell? ⟨A.block, A.off + 4, none⟩ = some (.int .u64 (c 4)) ∧ w.cell? ⟨A.block, A.off + 5, none⟩ = some (.int .u64 (c 5)) ∧ w.cell? ⟨A.block, A.off + 6, none⟩ = some (.int .u64 (c 6)) ∧ w.cell? ⟨A.block, A.off + 7, none⟩ = some (.int .u64 (c 7)) ∧ w.cell? ⟨A.block, A.off + 8, none⟩ = some (.int .u64 (c 8)) ∧ w.cell? ⟨A.block, A.off + 9, none⟩ = some (.int .u64 (c 9)) ∧ w.cell? ⟨A.block, A.off + 10, none⟩ = some (.int .u64 (c 10)) ∧ w.cell? ⟨A.block, A.off + 11, none⟩ = some (.int .u64 (c 11)) ∧ w.cell? ⟨A.block, A.off + 12, none⟩ = some (.int .i64 (c 12)) ∧ w.cell? ⟨A.block, A.off + 13, none⟩ = some (.int .i64 (c 13)) ∧ w.cell? ⟨A.block, A.off + 14, none⟩ = some (.int .i64 (c 14)) :=
  ⟨(by have := h 0 _ rfl; rwa [Addr.add, if_pos rfl] at this), h 1 _ rfl, h 2 _ rfl, h 3 _ rfl, h 4 _ rfl, h 5 _ rfl, h 6 _ rfl, h 7 _ rfl, h 8 _ rfl, h 9 _ rfl, h 10 _ rfl, h 11 _ rfl, h 12 _ rfl, h 13 _ rfl, h 14 _ rfl⟩
abbrev BldF (B : Nat) (T : Bs) (w : World) : Prop := Lib.IsBuilderF 50 5 B B (Lib.byteCells T) w
theorem bc_len (T : Bs) : (Lib.byteCells T).length = T.length := by unfold Lib.byteCells; rw [List.length_map]
theorem builder_len {B : Nat} {T : Bs} {w : World} (h : BldF B T w) : Calls Tryd.prog 18 #[.pointer (some ⟨B, 0, none⟩)] w fun e w' => e = .returned (.int .i64 T.length) ∧ w' = w := by
  have := Any.Builder_Len_f Tryd.lays170 B B _ w h
  rw [bc_len] at this
  exact this
theorem builder_ws {B : Nat} {T : Bs} {w : World} (s : Bs) (h : BldF B T w) (hl : T.length + s.length ≤ 140737488355328) (hB : B ≤ w.heap.size) : Calls Tryd.prog 19 #[.pointer (some ⟨B, 0, none⟩), .string (bs s)] w fun e w' => e = .returned (.tuple #[.int .i64 s.length, .nilIface]) ∧ BldF B (T ++ s) w' ∧ Below B w w' := by
  refine (Any.Builder_WriteString_k Tryd.lays166 Tryd.Builder_Extra_166 B B _ (bs s) w h (by rw [bc_len, bs_size]; exact hl) hB).mono ?_
  rintro e w' ⟨rfl, h1, h2, -⟩
  refine ⟨by rw [bs_size], .inr ?_, h2⟩
  rw [byteCells_app, ← strCells_bs]
  exact h1
theorem builder_nl {B : Nat} {T : Bs} {w : World} (h : BldF B T w) (hl : T.length + 1 ≤ 140737488355328) (hB : B ≤ w.heap.size) : Calls Tryd.prog 20 #[.pointer (some ⟨B, 0, none⟩), .int .u8 10] w fun e w' => e = .returned .nilIface ∧ BldF B (T ++ [10]) w' ∧ Below B w w' := by
  refine (Any.Builder_WriteByte_k Tryd.lays167 Tryd.Builder_Extra_167 B B _ 10 w h (by rw [bc_len]; exact hl) hB).mono ?_
  rintro e w' ⟨rfl, h1, h2, -⟩
  refine ⟨rfl, .inr ?_, h2⟩
  rw [byteCells_app]
  exact h1
theorem builder_str {B : Nat} {T : Bs} {w : World} (h : BldF B T w) (hB : B ≤ w.heap.size) : Calls Tryd.prog 21 #[.pointer (some ⟨B, 0, none⟩)] w fun e w' => e = .returned (.string (bs T)) ∧ BldF B T w' ∧ Below B w w' := by
  refine (Any.Builder_String_any_k Tryd.lays169 Tryd.Builder_Extra_169 B B T w h hB).mono ?_
  rintro e w' ⟨rfl, h1, h2, -⟩
  exact ⟨rfl, h1, h2⟩
set_option maxRecDepth 100000 in
set_option maxHeartbeats 2000000 in
theorem print_any (L : List Ev) (v : Value) (w : World) (hL : EvsAt w v L) (hG : ∀ c ∈ L, EvG c) (hE : EnvAt w) (hn : L.length ≤ 1000000) : Calls Tryd.prog 9 #[v] w fun e w' => e = .returned (.tuple #[.string (bs (printE L).1), .int .i64 (printE L).2]) ∧ Below w.heap.size w w' := by
  obtain ⟨p, cap, rfl, hp0, hp⟩ := hL
  have hn2 : L.length < 9223372036854775807 := by omega
  go_enter Tryd.func9, Tryd.ntmps9
  go_wp2
  have hb0 : Lib.IsBuilderF 50 5 w.heap.size w.heap.size [] (w.alloc (.cells #[.pointer none, .slice none 0 0] 50)) := by
    exact .inl ⟨Nat.le_refl _, _, World.alloc_heap_new _ _, ⟨rfl, .inl ⟨rfl, rfl⟩⟩, fun e => by cases e⟩
  have hbw0 : Below w.heap.size w (w.alloc (.cells #[.pointer none, .slice none 0 0] 50)) := bal (Below.refl _ _) _
  go_loopw [11] (fun i wr => ∃ (k : Nat) (T : Bs), k ≤ L.length ∧ i = .int .i64 k ∧ Hid (Lib.IsBuilderF 50 5 w.heap.size w.heap.size (Lib.byteCells T) wr) ∧ Hid ((∀ c ∈ L.take k, (lineE c).2 = 0) ∧ T.length ≤ 66000 ∧ (T = txtE (L.take k) ∨ 65536 < T.length ∧ 65536 < (txtE (L.take k)).length)) ∧ Hid (Below w.heap.size w wr)) (fun i _ => L.length - (intOf i).toNat)
  case atStart => exact ⟨0, [], by omega, rfl, Lib.hid hb0, Lib.hid ⟨(fun c h => by simp at h), (by simp), .inl rfl⟩, Lib.hid hbw0⟩
  case round =>
    obtain ⟨k, T, hk, rfl, HB, HT, HW⟩ := hrel
    by_cases hlt : k < L.length
    · have q5 : ((k : Int) < (L.length : Int)) = True := by rw [eq_iff_iff, iff_true]; omega
      obtain ⟨a, rfl⟩ : ∃ a, p = some a := by
        cases p with
        | none => rw [hp0 rfl] at hlt; simp at hlt
        | some a => exact ⟨a, rfl⟩
      obtain ⟨c, hc⟩ : ∃ c, L[k]? = some c := ⟨_, List.getElem?_eq_getElem hlt⟩
      have hgc : EvG c := hG c (List.mem_of_getElem? hc)
      obtain ⟨c0, c1, c2, c3, c4, c5, c6, c7, c8, c9, c10, c11, c12, c13, c14⟩ := ev_cells (w := wr) (A := a.add (k * 15)) (c := c) (fun j u hj => by
        rw [← (hp a rfl).2 k c hc j u hj]
        exact cell_blk (by rw [add_block, add_block]; exact HW.out.block _ ((hp a rfl).1 (by omega))))
      have HL := Lib.hid (fun v' (hE' : EnvAt v') => line_any c v' hgc hE')
      have HEN := Lib.hid (fun v' (h' : Below w.heap.size w v') => hE.call h')
      clear hE hG hp hp0
      obtain ⟨st, hst⟩ : ∃ s, s = (lineE c).1 := ⟨_, rfl⟩
      obtain ⟨cd, hcd⟩ : ∃ s, s = (lineE c).2 := ⟨_, rfl⟩
      have hsl : st.length ≤ 200 := by rw [hst]; exact line_len c hgc
      have HST : Hid (∀ v', Below w.heap.size w v' → Calls Tryd.prog 12 #[evV c] v' fun e w' => e = .returned (.tuple #[.string (bs st), .int .i64 cd]) ∧ Below v'.heap.size v' w') := Lib.hid (fun v' h' => by rw [hst, hcd]; exact HL.out v' (HEN.out v' h'))
      have HW1 : Hid (∀ o, Below w.heap.size w (wr.alloc o)) := Lib.hid (fun o => bal HW.out o)
      have HB1 : Hid (∀ o v', Below (wr.alloc o).heap.size (wr.alloc o) v' → Below wr.heap.size wr v') := Lib.hid (fun o v' h' => (bal (Below.refl _ _) o).trans (h'.mono (by simp)))
      have HPB : Hid (cd ≠ 0 → printE L = ([], cd)) := Lib.hid (fun h => by rw [hcd]; exact printE_bad k hc HT.out.1 (by rw [← hcd]; exact h))
      have HSN : Hid (cd = 0 → (∀ c ∈ L.take (k + 1), (lineE c).2 = 0) ∧ txtE (L.take (k + 1)) = txtE (L.take k) ++ (st ++ [10])) := Lib.hid (fun h => by
        rw [List.take_add_one, hc, hst]
        refine ⟨fun x hx => ?_, txtE_snoc _ _⟩
        rcases List.mem_append.1 hx with hx | hx
        · exact HT.out.1 x hx
        · simp at hx
          rw [hx, ← hcd]; exact h)
      have HSL := Lib.hid hsl
      clear HL HEN hgc hst hcd hc hsl
      unfold evV evA at HST
      have HBL : Hid (∀ v', Below wr.heap.size wr v' → Lib.IsBuilderF 50 5 w.heap.size w.heap.size (Lib.byteCells T) v') := Lib.hid (fun v' h' => HB.out.below h')
      have HWL : Hid (∀ v', Below wr.heap.size wr v' → Below w.heap.size w v') := Lib.hid (fun v' h' => HW.out.trans (h'.mono HW.out.size))
      by_cases hz : cd = 0
      · subst hz
        obtain ⟨hs1, hs2⟩ := HSN.out rfl
        have HS1 := Lib.hid hs1
        have HS2 := Lib.hid hs2
        clear HSN HPB hs1 hs2
        by_cases hfull : T.length ≤ 65536
        · have hfi : ((T.length : Int) ≤ 65536) = True := by rw [eq_iff_iff, iff_true]; omega
          have HFU := Lib.hid hfull
          clear hfull
          go_wp2_with (first
            | (go_at_call 12; (with_reducible refine (HST.out _ (HW1.out _)).mono ?_); rintro e w1 ⟨rfl, hb1⟩; have hb2 := HB1.out _ _ hb1)
            | (go_at_call 18; have HA := HBL.out _ hb2; have HWA := Lib.hid (HWL.out _ hb2); (with_reducible refine (builder_len HA).mono ?_); rintro e w2 ⟨rfl, rfl⟩)
            | (go_at_call 19; (with_reducible refine (builder_ws st HA (by have := HFU.out; have := HSL.out; omega) HWA.out.size).mono ?_); rintro e w3 ⟨rfl, hA3, hW3⟩)
            | (go_at_call 20; (with_reducible refine (builder_nl hA3 (by have := HFU.out; have := HSL.out; simp; omega) (Nat.le_trans HWA.out.size hW3.size)).mono ?_); rintro e w4 ⟨rfl, hA4, hW4⟩))
          go_roundw
          case rel =>
            refine ⟨k + 1, T ++ st ++ [10], by omega, by go_num, Lib.hid hA4, Lib.hid ⟨HS1.out, ?_, .inl ?_⟩, Lib.hid ((HWA.out.trans hW3).trans hW4)⟩
            · have := HFU.out
              have := HSL.out
              simp only [List.length_append, List.length_singleton]
              omega
            · rw [HS2.out]
              rcases HT.out.2.2 with e | e
              · rw [← e, List.append_assoc]
              · have := HFU.out
                omega
          case measure => first | (simp [intOf]; done) | (simp [intOf]; omega)
        · have hfi : ((T.length : Int) ≤ 65536) = False := by rw [eq_iff_iff, iff_false]; omega
          have HFU := Lib.hid hfull
          clear hfull
          go_wp2_with (first
            | (go_at_call 12; (with_reducible refine (HST.out _ (HW1.out _)).mono ?_); rintro e w1 ⟨rfl, hb1⟩; have hb2 := HB1.out _ _ hb1)
            | (go_at_call 18; have HA := HBL.out _ hb2; have HWA := Lib.hid (HWL.out _ hb2); (with_reducible refine (builder_len HA).mono ?_); rintro e w2 ⟨rfl, rfl⟩))
          go_roundw
          case rel =>
            refine ⟨k + 1, T, by omega, by go_num, Lib.hid HA, Lib.hid ⟨HS1.out, HT.out.2.1, .inr ⟨by have := HFU.out; omega, ?_⟩⟩, HWA⟩
            rw [HS2.out, List.length_append]
            have := HFU.out
            rcases HT.out.2.2 with e | e
            · rw [← e]; omega
            · omega
          case measure => first | (simp [intOf]; done) | (simp [intOf]; omega)
      · have hz' : (cd != 0) = true := by simpa using hz
        have HPQ := Lib.hid (HPB.out hz)
        clear HPB HSN
        go_wp2_with (go_at_call 12; (with_reducible refine (HST.out _ (HW1.out _)).mono ?_); rintro e w1 ⟨rfl, hb1⟩; have hb2 := HB1.out _ _ hb1)
        rw [HPQ.out]
        go_ret2
        exact ⟨rfl, HW.out.trans (hb2.mono HW.out.size)⟩
    · have q5 : ((k : Int) < (L.length : Int)) = False := by rw [eq_iff_iff, iff_false]; omega
      obtain rfl : k = L.length := by omega
      rw [List.take_length] at HT
      have HPO := Lib.hid (printE_ok HT.out.1)
      have HA : BldF w.heap.size T wr := HB.out
      clear HB hG hE hp hp0
      by_cases hfull : 65536 < T.length
      · have hfi : ((65536 : Int) < (T.length : Int)) = True := by rw [eq_iff_iff, iff_true]; omega
        have HPR : Hid (printE L = ([], 11)) := Lib.hid (by
          rw [HPO.out, if_pos]
          rcases HT.out.2.2 with e | e
          · rw [← e]; exact hfull
          · exact e.2)
        clear hfull HPO
        go_wp2_with (go_at_call 18; (with_reducible refine (builder_len HA).mono ?_); rintro e w2 ⟨rfl, rfl⟩)
        rw [HPR.out]
        go_ret2
        exact ⟨rfl, HW.out⟩
      · have hfi : ((65536 : Int) < (T.length : Int)) = False := by rw [eq_iff_iff, iff_false]; omega
        have HPR : Hid (printE L = (T, 0)) := Lib.hid (by
          rcases HT.out.2.2 with e | e
          · rw [HPO.out, ← e, if_neg hfull]
          · exact absurd e.1 hfull)
        clear hfull HPO
        go_wp2_with (first
          | (go_at_call 18; (with_reducible refine (builder_len HA).mono ?_); rintro e w2 ⟨rfl, rfl⟩)
          | (go_at_call 21; (with_reducible refine (builder_str HA HW.out.size).mono ?_); rintro e w3 ⟨rfl, hA3, hW3⟩))
        rw [HPR.out]
        go_ret2
        exact ⟨rfl, HW.out.trans hW3⟩
end Sc
end Go.Proofs.YthgmanncmekeeaaDoor
