/- Chapter 28's own answer: order. -/
import Derived.Test.YtahagcghbeeajaaDcJ
import Derived.Deep.RegionWith
namespace Go.Proofs.Ytahagcghbeeajaa
set_option linter.unusedVariables false
set_option linter.unusedSimpArgs false
open Go.ChangeShapes Go.WideShapes Go.ChangeAt Go.RowKit Go.Shelf
attribute [-go_sem] run_index_string

def ordR (n : Int) (sB : Nat → Nat) (m4 : Bool) (a : Nat → Int) : Nat → (Nat → Int) × Bool × Nat
  | 0 => (o0 n, true, 0)
  | k + 1 =>
    let s := ordR n sB m4 a k
    if sB k = 97 then (if s.2.1 = true then (up s.1 1 (wrap64 (a k)), false, s.2.2) else (up s.1 2 (wrap64 (a k)), s.2.1, s.2.2))
    else if sB k = 119 then (if m4 = true then (up s.1 (8 + s.2.2) (a k), s.2.1, s.2.2 + 1) else (up s.1 7 (a k), s.2.1, s.2.2))
    else (up s.1 4 (wrap64 (a k)), s.2.1, s.2.2)
structure OrdI (w wr : World) (B : Nat) (n : Int) (a o : Nat → Int) : Prop where
  cal : CallAt wr B n a
  res : OrdAt wr (B + 1) zO
  ord : OrdAt wr (B + 1 + 1) o
  bel : Below w.heap.size w wr
theorem OrdI.step {w wr : World} {B : Nat} {n : Int} {a o o' : Nat → Int} (h : OrdI w wr B n a o) (i : Nat) (v : Value) (e : (ordA o).setIfInBounds i v = ordA o') (hB : w.heap.size ≤ B) : OrdI w (wr.setCell ⟨B + 1 + 1, i, none⟩ v) B n a o' :=
  have hon : OneOnly (B + 1 + 1) wr (wr.setCell ⟨B + 1 + 1, i, none⟩ v) := OneOnly.refl.set _ _
  ⟨(hon.block B (Array.getElem?_eq_some_iff.1 h.cal).1 (by omega)).trans h.cal, (hon.block (B + 1) h.res.lt (by omega)).trans h.res, h.ord.set i v e, h.bel.trans (hon.below (by omega) h.bel.size)⟩
theorem ordA_msg (o : Nat → Int) (m : Nat) (hm : m < 4) (v : Int) : (ordA o).setIfInBounds (8 + m) (.int .u64 v) = ordA (up o (8 + m) v) := by
  obtain rfl | rfl | rfl | rfl : m = 0 ∨ m = 1 ∨ m = 2 ∨ m = 3 := by omega
  all_goals rfl
theorem ordA_at (o : Nat → Int) (m : Nat) (hm : m < 4) : (ordA o)[8 + m]? = some (.int .u64 (o (8 + m))) := by
  obtain rfl | rfl | rfl | rfl : m = 0 ∨ m = 1 ∨ m = 2 ∨ m = 3 := by omega
  all_goals rfl
theorem ordI_new (w : World) (n : Int) (a : Nat → Int) (B : Nat) (hB : w.heap.size = B) : OrdI w (((w.alloc (.cells (callA n a) 25)).alloc (.cells #[.int .i64 0, .int .i64 0, .int .i64 0, .int .i64 0, .int .i64 0, .int .i64 0, .int .i64 0, .int .u64 0, .int .u64 0, .int .u64 0, .int .u64 0, .int .u64 0] 29)).alloc (.cells (ordA (o0 n)) 29)) B n a (o0 n) := by
  subst hB
  have e1 := World.size_alloc w (.cells (callA n a) 25)
  have e2 := World.size_alloc (w.alloc (.cells (callA n a) 25)) (.cells #[.int .i64 0, .int .i64 0, .int .i64 0, .int .i64 0, .int .i64 0, .int .i64 0, .int .i64 0, .int .u64 0, .int .u64 0, .int .u64 0, .int .u64 0, .int .u64 0] 29)
  have n1 : OrdAt ((w.alloc (.cells (callA n a) 25)).alloc (.cells #[.int .i64 0, .int .i64 0, .int .i64 0, .int .i64 0, .int .i64 0, .int .i64 0, .int .i64 0, .int .u64 0, .int .u64 0, .int .u64 0, .int .u64 0, .int .u64 0] 29)) _ zO := World.alloc_heap_new (w.alloc (.cells (callA n a) 25)) (.cells #[.int .i64 0, .int .i64 0, .int .i64 0, .int .i64 0, .int .i64 0, .int .i64 0, .int .i64 0, .int .u64 0, .int .u64 0, .int .u64 0, .int .u64 0, .int .u64 0] 29)
  have n2 := ord_new ((w.alloc (.cells (callA n a) 25)).alloc (.cells #[.int .i64 0, .int .i64 0, .int .i64 0, .int .i64 0, .int .i64 0, .int .i64 0, .int .i64 0, .int .u64 0, .int .u64 0, .int .u64 0, .int .u64 0, .int .u64 0] 29)) (o0 n)
  rw [e1] at n1
  rw [e2, e1] at n2
  exact ⟨alloc_old (alloc_old (call_new w n a) (by rw [e1]; omega)) (by rw [e2, e1]; omega), alloc_old n1 (by rw [e2, e1]; omega), n2, bal (bal (bal (Below.refl _ _) _) _) _⟩
set_option maxRecDepth 100000 in
set_option maxHeartbeats 4000000 in
theorem order_any (n : Nat) (a : Nat → Int) (S : ByteArray) (N : Nat) (sB : Nat → Nat) (m4 : Bool) (hn1 : ¬ n = 1) (hS : S.size = N) (hN : N ≤ 6) (hix : ∀ k < N, ∀ w, (Instr.index 9 (.string S) (.int .i64 k)).run Try.prog w = .ok (.int .u8 (sB k)) w) (hm : ∀ k < N, sB k = 119 → m4 = true → (ordR n sB m4 a k).2.2 < 4) (h4 : m4 = true → 4 ≤ N) (hs4 : 4 ≤ N → ((S.extract (N - 4) N).toList == [119, 119, 119, 119]) = m4) (w : World) :
    Calls Try.prog 21 #[.agg (callA n a), .string S] w fun e w' => e = .returned (ordV (ordR n sB m4 a N).1) ∧ Below w.heap.size w w' := by
  have hz : ∀ w, (zeroValue 29).run Try.prog w = .ok (.agg #[.int .i64 0, .int .i64 0, .int .i64 0, .int .i64 0, .int .i64 0, .int .i64 0, .int .i64 0, .int .u64 0, .int .u64 0, .int .u64 0, .int .u64 0, .int .u64 0]) w := zeroOrd
  have hn1b : ((n : Int) == 1) = false := beq_eq_false_iff_ne.2 (by omega)
  have hc0 : (callA n a)[0]? = some (.int .u64 n) := rfl
  have HIX := Lib.hid hix
  have HM := Lib.hid hm
  have H4 := Lib.hid h4
  have HS4 := Lib.hid hs4
  clear hix hm h4 hs4
  go_enter Try.func21, Try.ntmps21
  go_wp2_with (fail)
  obtain ⟨B, hB⟩ : ∃ B, w.heap.size = B := ⟨_, rfl⟩
  rw [lit_o0]
  have hI := ordI_new w n a B hB
  generalize (((w.alloc (.cells (callA n a) 25)).alloc (.cells #[.int .i64 0, .int .i64 0, .int .i64 0, .int .i64 0, .int .i64 0, .int .i64 0, .int .i64 0, .int .u64 0, .int .u64 0, .int .u64 0, .int .u64 0, .int .u64 0] 29)).alloc (.cells (ordA (o0 n)) 29)) = w2 at hI ⊢
  rw [hB]
  have HI0 := Lib.hid hI
  have hN6 : (N : Int) ≤ 6 := by omega
  clear hI
  go_loopw [6, 7, 8] (fun f m i wr => ∃ k : Nat, k ≤ N ∧ f = .bool (ordR n sB m4 a k).2.1 ∧ m = .int .i64 ((ordR n sB m4 a k).2.2 : Nat) ∧ i = .int .i64 k ∧ Hid (OrdI w wr B n a (ordR n sB m4 a k).1)) (fun _ _ i _ => N - (intOf i).toNat)
  case atStart => exact ⟨0, by omega, rfl, rfl, rfl, HI0⟩
  case round =>
    clear HI0
    obtain ⟨k, hk, rfl, rfl, rfl, HI⟩ := hrel
    by_cases hlt : k < N
    · have hlt' : (k : Int) < N := by omega
      have k0 : (0 : Int) ≤ k := by omega
      have k6 : (k : Int) < 6 := by omega
      have hk6 : k < 6 := by omega
      have hcl : wr.cell? ⟨B, 1 + k, none⟩ = some (.int .u64 (a k)) := (row_cell HI.out.cal _).trans (callA_at n a k hk6)
      have hx := HIX.out k hlt
      have hst : ordR n sB m4 a (k + 1) = (if sB k = 97 then (if (ordR n sB m4 a k).2.1 = true then (up (ordR n sB m4 a k).1 1 (wrap64 (a k)), false, (ordR n sB m4 a k).2.2) else (up (ordR n sB m4 a k).1 2 (wrap64 (a k)), (ordR n sB m4 a k).2.1, (ordR n sB m4 a k).2.2))
    else if sB k = 119 then (if m4 = true then (up (ordR n sB m4 a k).1 (8 + (ordR n sB m4 a k).2.2) (a k), (ordR n sB m4 a k).2.1, (ordR n sB m4 a k).2.2 + 1) else (up (ordR n sB m4 a k).1 7 (a k), (ordR n sB m4 a k).2.1, (ordR n sB m4 a k).2.2))
    else (up (ordR n sB m4 a k).1 4 (wrap64 (a k)), (ordR n sB m4 a k).2.1, (ordR n sB m4 a k).2.2)) := rfl
      have hmk := HM.out k hlt
      have hh := HI.out
      obtain ⟨⟨o, f, m⟩, hr⟩ : ∃ z, ordR n sB m4 a k = z := ⟨_, rfl⟩
      rw [hr] at hst hmk hh ⊢
      simp only at hst hmk hh ⊢
      obtain ⟨t, ht⟩ : ∃ t, sB k = t := ⟨_, rfl⟩
      rw [ht] at hx hst hmk
      have HH := Lib.hid hh
      have HST := Lib.hid hst
      have HMK := Lib.hid hmk
      obtain ⟨c0, c1, c2, c3, c4, c5, c6, c7, c8, c9, c10, c11⟩ := hh.ord.cells
      have hfz := hh.ord.free
      clear hr HI hst hmk ht hh
      have fin : ∀ (f' : Bool) (m' : Nat) (o' : Nat → Int) (W' : World), OrdI w W' B n a o' → ordR n sB m4 a (k + 1) = (o', f', m') → ∃ k1 : Nat, k1 ≤ N ∧ Value.bool f' = .bool (ordR n sB m4 a k1).2.1 ∧ Value.int .i64 (m' : Nat) = .int .i64 ((ordR n sB m4 a k1).2.2 : Nat) ∧ Value.int .i64 ((k : Int) + 1) = .int .i64 k1 ∧ Hid (OrdI w W' B n a (ordR n sB m4 a k1).1) := fun f' m' o' W' h e => ⟨k + 1, by omega, by rw [e], by rw [e], by go_num, Lib.hid (by rw [e]; exact h)⟩
      have FIN := Lib.hid fin
      clear fin
      by_cases h97 : t = 97
      · subst h97
        cases f
        · go_wp2
          go_roundw
          case rel => exact FIN.out _ _ _ _ (HH.out.step 2 _ rfl (by omega)) (by rw [HST.out]; rfl)
          case measure => simp [intOf]; omega
        · go_wp2
          go_roundw
          case rel => exact FIN.out _ _ _ _ (HH.out.step 1 _ rfl (by omega)) (by rw [HST.out]; rfl)
          case measure => simp [intOf]; omega
      · have hb97 : ((t : Int) == 97) = false := beq_eq_false_iff_ne.2 (by omega)
        by_cases h119 : t = 119
        · subst h119
          by_cases hm4 : m4 = true
          · skip
            have hN4 : (4 : Int) ≤ N := by have := H4.out hm4; omega
            have hs : ((S.extract (N - 4) N).toList == [119, 119, 119, 119]) = true := (HS4.out (H4.out hm4)).trans hm4
            have hmn : m < 4 := HMK.out rfl hm4
            have hm4' : (m : Int) < 4 := by omega
            have hcm : wr.cell? ⟨B + 1 + 1, 8 + m, none⟩ = some (.int .u64 (o (8 + m))) := (row_cell HH.out.ord _).trans (ordA_at o m hmn)
            go_wp2
            go_roundw
            case rel =>
              have hx := FIN.out f (m + 1) _ _ (HH.out.step (8 + m) (.int .u64 (a k)) (ordA_msg o m hmn _) (by omega)) (by rw [HST.out, if_neg h97, if_pos rfl, if_pos hm4])
              rw [show ((m + 1 : Nat) : Int) = (m : Int) + 1 from by omega] at hx
              exact hx
            case measure => simp [intOf]; omega
          · have hmf := hm4
            have hm4 : m4 = false := by simpa using hmf
            by_cases hN4 : 4 ≤ N
            · have hN4' : (4 : Int) ≤ N := by omega
              have hs : ((S.extract (N - 4) N).toList == [119, 119, 119, 119]) = false := (HS4.out hN4).trans hm4
              go_wp2
              go_roundw
              case rel => exact FIN.out _ _ _ _ (HH.out.step (o' := up o 7 (a k)) 7 (.int .u64 (a k)) rfl (by omega)) (by rw [HST.out, if_neg h97, if_pos rfl, if_neg hmf])
              case measure => simp [intOf]; omega
            · have hN4' : ¬ (4 : Int) ≤ N := by omega
              go_wp2
              go_roundw
              case rel => exact FIN.out _ _ _ _ (HH.out.step (o' := up o 7 (a k)) 7 (.int .u64 (a k)) rfl (by omega)) (by rw [HST.out, if_neg h97, if_pos rfl, if_neg hmf])
              case measure => simp [intOf]; omega
        · have hb119 : ((t : Int) == 119) = false := beq_eq_false_iff_ne.2 (by omega)
          go_wp2
          go_roundw
          case rel => exact FIN.out _ _ _ _ (HH.out.step 4 _ rfl (by omega)) (by rw [HST.out, if_neg h97, if_neg h119])
          case measure => simp [intOf]; omega
    · obtain rfl : k = N := by omega
      have hh := HI.out
      obtain ⟨⟨o, f, m⟩, hr⟩ : ∃ z, ordR n sB m4 a k = z := ⟨_, rfl⟩
      rw [hr] at hh ⊢
      simp only at hh ⊢
      have HR := Lib.hid hr
      have HH := Lib.hid hh
      clear hr hh HI hz
      go_wp2_with (first
        | (refine wpList_load_mid rfl 29 (.tmp 5) rfl (B + 1 + 1) 0 rfl (ordA o).toList _ (ord_range HH.out.ord) Try.underlying29 rfl (by kernel_rfl) ?_; rw [Array.toArray_toList])
        | (refine wpList_store_mid rfl 29 (.tmp 4) (.tmp 112) rfl (B + 1) 0 (ordA o) rfl rfl HH.out.res.there (by kernel_rfl) (ord_one o) ?_; obtain ⟨ho2, hon⟩ := ord_put o HH.out.res; generalize wr.setCells (B + 1) 0 (ordA o).toList = w3 at ho2 hon ⊢))
      obtain ⟨z0, z1, z2, z3, z4, z5, z6, z7, z8, z9, z10, z11⟩ := ho2.cells
      refine bodyPost_ret (v := ordV o) (by simp [results, Try.results21, go_sem, ordA, z0, z1, z2, z3, z4, z5, z6, z7, z8, z9, z10, z11]) rfl ⟨by rw [HR.out], ?_⟩
      exact (HH.out.bel.trans (hon.below (by omega) HH.out.bel.size))
end Go.Proofs.Ytahagcghbeeajaa
