import Derived.Test.YtchjfeafkmpmbaaGreatDoorHe6
import Derived.Test.YtchjfeafkmpmbaaGreatDoorHeK
import Derived.Deep.QuietTactic
import Derived.BigQuiet
namespace Go.Proofs.YtchjfeafkmpmbaaGreatDoor
set_option linter.unusedVariables false
set_option linter.unusedSimpArgs false
set_option maxRecDepth 100000
set_option maxHeartbeats 8000000
open Lib (hid)
open Go.ChangeShapes Go.WideShapes Go.ChangeAt Go.RowKit Go.Shelf
namespace HdS
open TabS (Cp Sn zC mayC sizS getR getN SameS setN setM rowsS heldA hdsC heldL)
variable {W w w' : World} {s : Sh} {hb rhb n n' t : Nat} {L M : List Sn} {l : List Nod}
theorem HdRow.kept {w1 w2 v : World} {ra : Option Addr} {g : Nat} {H : List TabS.Hd} (h : HdRow w2 ra g H) (hg : 0 < H.length → w1.heap.size ≤ g) (hk : KpM w1 w2 v) : HdRow v ra g H := by
 refine ⟨fun i x hi => ?_⟩
 obtain ⟨h1, h2, h3⟩ := h.at_ i x hi
 have hN : New w1 w2 g := ⟨hg (by have := (lgs hi).1; omega), h2⟩
 exact ⟨h1, hk.lt g hN, fun j u hj => (World.cell?_of_block (hk.k g hN)).trans (h3 j u hj)⟩
theorem hd_row2 {base : Nat} {r : Value} {H : List TabS.Hd} (h : w.ownsRow base 46 10 r H.length (hdsC H)) : ∃ ra rc g, r = .slice ra H.length rc ∧ HdRow w ra g H ∧ (0 < H.length → base ≤ g) := by
 have hlt := h.lt
 have hcs := fun g hg => h.cells (g := g) hg
 rcases h.2 with ⟨rfl, h0⟩ | ⟨g, cap, cur, rfl, q1, q2, q3, q4, q5, q6⟩
 ·exact ⟨none, 0, 0, by rw [h0], ⟨fun t x hx => by have := (lgs hx).1; omega⟩, fun h => by omega⟩
 ·refine ⟨_, _, g, rfl, ⟨fun i x hi => ⟨rfl, (hlt g rfl).2, fun j u hj => ?_⟩⟩, fun _ => (hlt g rfl).1⟩
  have := hcs g rfl _ _ (hds_get H i j x u hi hj)
  rwa [Addr.add_mid, Nat.zero_add] at this
theorem final_any (q : Option Addr) (n c : Nat) (D : Nat → A18) (W : World) (hn : n ≤ 60) (hD : Acts18 W q n D) (hT0 : CX.TabG W) :
  Calls Tryz.prog 7 #[.slice q n c] W fun e w' => e = .returned (.bool true) ∧ Below W.heap.size W w' := by
 have HPL := hid (played_any q n c D W (by omega) hD hT0)
 have HT := hid hT0
 have hn' : ¬ (n : Int) > 60 := by omega
 have HN := hid hn
 clear hD hT0 hn
 go_enter Tryz.func7, Tryz.ntmps7
 go_upto_region 6 with (go_at_call 12; (with_reducible refine HPL.out.mono ?_); rintro e w1 ⟨s, hb, rhb, rfl, hS⟩; have HS := hid hS; clear hS)
 obtain ⟨L, M, l, hH, hI, -, hLn⟩ := HS.out
 have hNn := HN.out
 have hlens := hH.lens
 have hsm := hH.hsmall (by omega)
 have HU := hid (hused hH (by omega))
 have HH := hid hH
 have HI := hid hI
 have HLL := hid (show L.length < 1000 ∧ n ≤ 60 ∧ l.length ≤ 1000 from ⟨by omega, hNn, by omega⟩)
 clear hH hI hLn hlens HS hNn HN HPL
 go_upto_region 7 with (go_at_call 13; (with_reducible refine HU.out.mono ?_); rintro e w2 ⟨r, rfl, hrow, hb2⟩; have HR2 := hid hrow; have HB2 := hid hb2; clear hrow hb2)
 obtain ⟨ra, rc, g, rfl, hr, hg⟩ := hd_row2 HR2.out
 have HHR := hid hr
 have HRK : Hid (∀ v, KpM w1 w2 v → HdRow v ra g (heldA L)) := hid (fun v hv => hr.kept hg hv)
 have HB : Hid (Below W.heap.size W w2) := hid (bgo HH.out.below HB2.out)
 have H2 : Hid (Hd W s hb rhb (2 * (3 + n)) L M l l (New w1 w2) w2) := hid ((HH.out.fresh HB2.out).weak (fun k q => .inr q))
 have HLF := hid (Left.first HI.out)
 have HPR := hid (heldA_pair HI.out.asc)
 have HFC : Hid (∀ (k : Nat) (x : TabS.Hd), (heldA L)[k]? = some x → ∀ v, Below w2.heap.size w2 v → Calls Tryz.prog 26 #[.pointer (some ⟨hb, 0, none⟩), slV x.n (x.i : Int)] v fun e w' => e = .returned (.bool (decide (cntS x.c (heldA L) (heldA L).length = 1))) ∧ Below v.heap.size v w') := hid (fun k x hx v hv => by
  rw [← fin_count HI.out hx]
  exact hfinal (H2.out.call hv) HT.out x.n (x.i : Int) (HI.out.e _ _) (fun k => HI.out.he k) (by have := HLL.out.1; omega) hsm)
 have HON : Hid (∀ (k : Nat) (x : TabS.Hd), (heldA L)[k]? = some x → mayC x.c = true ∧ x.c.a ≠ 0 ∧ x.c.e ≤ 9223372036854775807) := hid (fun k x hx => by
  obtain ⟨p, _, _, h1, h2, h3⟩ := HI.out.only hx
  exact ⟨h1, h2, h3⟩)
 clear hr hg HR2 HU HB2 HH HI
 generalize heldA L = H at *
 obtain ⟨N, hN⟩ : ∃ N, N = H.length := ⟨_, rfl⟩
 rw [← hN] at hsm HFC ⊢
 have HNH := hid hN
 have HSM := hid hsm
 have hbt : ∀ v, (binOp .neq 4 (.bool true) (.bool true)).run Tryz.prog v = .ok (.bool false) v := fun v => by kernel_rfl
 have hbf : ∀ v, (binOp .neq 4 (.bool false) (.bool false)).run Tryz.prog v = .ok (.bool false) v := fun v => by kernel_rfl
 have HQB := hid (And.intro hbt hbf)
 clear hN hbt hbf
 go_wp2
 go_loopw [5] (fun i wr => ∃ k : Nat, k ≤ N ∧ i = .int .i64 k ∧ Hid (Below w2.heap.size w2 wr)) (fun i _ => N - (intOf i).toNat)
 case atStart => exact ⟨0, by omega, rfl, hid (Below.refl _ _)⟩
 case round =>
  obtain ⟨k, hk, rfl, HBr⟩ := hrel
  by_cases hlt : k < N
  ·have hltI : (k : Int) < N := by omega
   obtain ⟨x, hx⟩ : ∃ x, H[k]? = some x := ⟨H[k]'(by have := HNH.out; omega), List.getElem?_eq_getElem _⟩
   have HF := hid (HFC.out k x hx)
   obtain ⟨hmay, ha, he⟩ := HON.out k x hx
   obtain ⟨rfl, -, -⟩ := HHR.out.at_ k x hx
   have HX : Hid (∀ v, Below w2.heap.size w2 v → v.rangeAt g (k * 10) x.L) := hid (fun v hv => ((HHR.out.call hv).at_ k x hx).2.2)
   have HE := hid he
   obtain ⟨xn, xi, ⟨xa, xb, xx, xd, xe, xf, xg, xh⟩⟩ := x
   simp only [] at HX HE HF
   have HXC : Hid (∀ v, Below w2.heap.size w2 v → v.cell? ⟨g, k * 10 + 2, none⟩ = some (.int .i64 xa) ∧ v.cell? ⟨g, k * 10 + 3, none⟩ = some (.int .i64 xb) ∧ v.cell? ⟨g, k * 10 + 4, none⟩ = some (.int .i64 xx) ∧ v.cell? ⟨g, k * 10 + 5, none⟩ = some (.int .u64 xd) ∧ v.cell? ⟨g, k * 10 + 6, none⟩ = some (.int .i64 xe) ∧ v.cell? ⟨g, k * 10 + 7, none⟩ = some (.int .i64 xf) ∧ v.cell? ⟨g, k * 10 + 8, none⟩ = some (.int .i64 xg) ∧ v.cell? ⟨g, k * 10 + 9, none⟩ = some (.int .i64 xh)) := hid (fun v hv => ⟨HX.out v hv 2 _ rfl, HX.out v hv 3 _ rfl, HX.out v hv 4 _ rfl, HX.out v hv 5 _ rfl, HX.out v hv 6 _ rfl, HX.out v hv 7 _ rfl, HX.out v hv 8 _ rfl, HX.out v hv 9 _ rfl⟩)
   have HCL : Hid (∀ j, cntS ⟨xa, xb, xx, xd, xe, xf, xg, xh⟩ H j ≤ j) := hid (fun j => cntS_le _ _ _)
   have HCS : Hid (∀ (j : Nat) (y : TabS.Hd), H[j]? = some y → cntS ⟨xa, xb, xx, xd, xe, xf, xg, xh⟩ H (j + 1) = cntS ⟨xa, xb, xx, xd, xe, xf, xg, xh⟩ H j + (if sameC ⟨xa, xb, xx, xd, xe, xf, xg, xh⟩ y.c then 1 else 0)) := hid (fun j y hy => cntS_succ _ hy)
   clear hx hmay ha he
   go_wp2
   go_loopw [6, 7] (fun nn kk wi => ∃ j m : Nat, j ≤ N ∧ kk = .int .i64 j ∧ nn = .int .i64 m ∧ m = cntS ⟨xa, xb, xx, xd, xe, xf, xg, xh⟩ H j ∧ Hid (Below w2.heap.size w2 wi)) (fun nn kk _ => N - (intOf kk).toNat)
   case atStart => exact ⟨0, 0, by omega, rfl, rfl, rfl, HBr⟩
   case round =>
    obtain ⟨j, m, hj, rfl, rfl, hm, HBi⟩ := hrel
    have hmj : m ≤ j := by rw [hm]; exact HCL.out j
    have hsm2 := HSM.out
    by_cases hjl : j < N
    ·have hjI : (j : Int) < N := by omega
     obtain ⟨y, hy⟩ : ∃ y, H[j]? = some y := ⟨H[j]'(by have := HNH.out; omega), List.getElem?_eq_getElem _⟩
     have hy2 := HON.out j y hy
     have hcs := HCS.out j y hy
     have HY : Hid (∀ v, Below w2.heap.size w2 v → v.rangeAt g (j * 10) y.L) := hid (fun v hv => ((HHR.out.call hv).at_ j y hy).2.2)
     obtain ⟨yn, yi, ⟨ya, yb, yx, yd, ye, yf, yg, yh⟩⟩ := y
     simp only [] at HY hy2 hcs
     obtain ⟨sb, hsb⟩ : ∃ b, b = sameC ⟨xa, xb, xx, xd, xe, xf, xg, xh⟩ ⟨ya, yb, yx, yd, ye, yf, yg, yh⟩ := ⟨_, rfl⟩
     have HAL : Hid (∀ v, Below w2.heap.size w2 v → Calls Tryz.prog 22 #[.agg #[.int .i64 xa, .int .i64 xb, .int .i64 xx, .int .u64 xd, .int .i64 xe, .int .i64 xf, .int .i64 xg, .int .i64 xh], .agg #[.int .i64 ya, .int .i64 yb, .int .i64 yx, .int .u64 yd, .int .i64 ye, .int .i64 yf, .int .i64 yg, .int .i64 yh]] v fun e w' => e = .returned (.bool sb) ∧ Below v.heap.size v w') := hid (fun v hv => by rw [hsb]; exact halike v (HT.out.call (bgo HB.out hv)) ⟨xa, xb, xx, xd, xe, xf, xg, xh⟩ ⟨ya, yb, yx, yd, ye, yf, yg, yh⟩ HE.out hy2.2.2)
     rw [← hsb, ← hm] at hcs
     have HM : Hid (cntS ⟨xa, xb, xx, xd, xe, xf, xg, xh⟩ H (j + 1) = m + if sb then 1 else 0) := hid hcs
     have HXY : Hid (∀ v, Below w2.heap.size w2 v → (v.cell? ⟨g, k * 10 + 2, none⟩ = some (.int .i64 xa) ∧ v.cell? ⟨g, k * 10 + 3, none⟩ = some (.int .i64 xb) ∧ v.cell? ⟨g, k * 10 + 4, none⟩ = some (.int .i64 xx) ∧ v.cell? ⟨g, k * 10 + 5, none⟩ = some (.int .u64 xd) ∧ v.cell? ⟨g, k * 10 + 6, none⟩ = some (.int .i64 xe) ∧ v.cell? ⟨g, k * 10 + 7, none⟩ = some (.int .i64 xf) ∧ v.cell? ⟨g, k * 10 + 8, none⟩ = some (.int .i64 xg) ∧ v.cell? ⟨g, k * 10 + 9, none⟩ = some (.int .i64 xh)) ∧ (v.cell? ⟨g, j * 10 + 2, none⟩ = some (.int .i64 ya) ∧ v.cell? ⟨g, j * 10 + 3, none⟩ = some (.int .i64 yb) ∧ v.cell? ⟨g, j * 10 + 4, none⟩ = some (.int .i64 yx) ∧ v.cell? ⟨g, j * 10 + 5, none⟩ = some (.int .u64 yd) ∧ v.cell? ⟨g, j * 10 + 6, none⟩ = some (.int .i64 ye) ∧ v.cell? ⟨g, j * 10 + 7, none⟩ = some (.int .i64 yf) ∧ v.cell? ⟨g, j * 10 + 8, none⟩ = some (.int .i64 yg) ∧ v.cell? ⟨g, j * 10 + 9, none⟩ = some (.int .i64 yh))) := hid (fun v hv => ⟨HXC.out v hv, ⟨HY.out v hv 2 _ rfl, HY.out v hv 3 _ rfl, HY.out v hv 4 _ rfl, HY.out v hv 5 _ rfl, HY.out v hv 6 _ rfl, HY.out v hv 7 _ rfl, HY.out v hv 8 _ rfl, HY.out v hv 9 _ rfl⟩⟩)
     have HD1 := hid (show Below w2.heap.size w2 wr.drew from HBi.out.drew)
     clear hy hy2 hcs hsb hm HY
     go_upto_region 14 with fail
     go_region_held3 (fun v => (v.cell? ⟨g, k * 10 + 2, none⟩ = some (.int .i64 xa) ∧ v.cell? ⟨g, k * 10 + 3, none⟩ = some (.int .i64 xb) ∧ v.cell? ⟨g, k * 10 + 4, none⟩ = some (.int .i64 xx) ∧ v.cell? ⟨g, k * 10 + 5, none⟩ = some (.int .u64 xd) ∧ v.cell? ⟨g, k * 10 + 6, none⟩ = some (.int .i64 xe) ∧ v.cell? ⟨g, k * 10 + 7, none⟩ = some (.int .i64 xf) ∧ v.cell? ⟨g, k * 10 + 8, none⟩ = some (.int .i64 xg) ∧ v.cell? ⟨g, k * 10 + 9, none⟩ = some (.int .i64 xh)) ∧ (v.cell? ⟨g, j * 10 + 2, none⟩ = some (.int .i64 ya) ∧ v.cell? ⟨g, j * 10 + 3, none⟩ = some (.int .i64 yb) ∧ v.cell? ⟨g, j * 10 + 4, none⟩ = some (.int .i64 yx) ∧ v.cell? ⟨g, j * 10 + 5, none⟩ = some (.int .u64 yd) ∧ v.cell? ⟨g, j * 10 + 6, none⟩ = some (.int .i64 ye) ∧ v.cell? ⟨g, j * 10 + 7, none⟩ = some (.int .i64 yf) ∧ v.cell? ⟨g, j * 10 + 8, none⟩ = some (.int .i64 yg) ∧ v.cell? ⟨g, j * 10 + 9, none⟩ = some (.int .i64 yh)))
      (first | (with_reducible exact HXY.out _ HBi.out) | (with_reducible exact HXY.out _ HD1.out) | (with_reducible exact HXY.out _ HB5.out))
      (first | (go_at_call 22; (with_reducible refine (HAL.out _ (by first | with_reducible exact HD1.out | with_reducible exact HBi.out)).mono ?_); rintro e w5 ⟨rfl, hv⟩; have HB5 := hid (show Below w2.heap.size w2 w5 from bgo (by first | exact HD1.out | exact HBi.out) hv); clear hv))
     all_goals
      cases sb
      ·go_wp2
       go_roundw
       case rel => exact ⟨j + 1, m, by omega, by go_num, rfl, by rw [HM.out]; simp, HB5⟩
       case measure => first | (simp [intOf]; done) | (simp [intOf]; omega)
      ·go_wp2
       go_roundw
       case rel => exact ⟨j + 1, m + 1, by omega, by go_num, by go_num, by rw [HM.out]; simp, HB5⟩
       case measure => first | (simp [intOf]; done) | (simp [intOf]; omega)
    ·obtain rfl : j = N := by omega
     have hx0 := HX.out wr HBi.out 0 _ rfl
     rw [Nat.add_zero] at hx0
     have hx1 := HX.out wr HBi.out 1 _ rfl
     simp only [] at hx0 hx1
     have hf := HF.out wr HBi.out
     rw [← hm] at hf
     obtain ⟨hbt, hbf⟩ := HQB.out
     by_cases e1 : m = 1
     ·subst e1
      rw [decide_eq_true rfl] at hf
      have HF1 := hid hf
      clear hf hm
      go_wp2_with (go_at_call 26; (with_reducible refine HF1.out.mono ?_); rintro e w5 ⟨rfl, hv⟩; have HB5 := hid (bgo HBi.out hv); clear hv)
      go_roundw
      case rel => exact ⟨k + 1, by omega, by go_num, HB5⟩
      case measure => first | (simp [intOf]; done) | (simp [intOf]; omega)
     ·rw [decide_eq_false e1] at hf
      have HF1 := hid hf
      have hm1 : ((m : Int) == 1) = false := beq_eq_false_iff_ne.2 (by omega)
      clear hf hm
      go_wp2_with (go_at_call 26; (with_reducible refine HF1.out.mono ?_); rintro e w5 ⟨rfl, hv⟩; have HB5 := hid (bgo HBi.out hv); clear hv)
      go_roundw
      case rel => exact ⟨k + 1, by omega, by go_num, HB5⟩
      case measure => first | (simp [intOf]; done) | (simp [intOf]; omega)
  ·obtain rfl : k = N := by omega
   clear hlt hk HFC HON HQB HHR
   have H3 := hid (H2.out.call HBr.out)
   have K3 := hid ((KpM.refl w1 w2).call HBr.out)
   go_wp2
   go_loopw [8] (fun i wq => ∃ (t : Nat) (Lt : List Sn) (lt : List Nod), t ≤ k ∧ i = .int .i64 t ∧ Hid (Hd W s hb rhb (2 * (3 + n) + t) Lt M lt l (New w1 w2) wq) ∧ Hid (Left H t Lt lt) ∧ Hid (KpM w1 w2 wq) ∧ Hid (Lt.length < 1000)) (fun i _ => k - (intOf i).toNat)
   case atStart => exact ⟨0, L, l, by omega, rfl, H3, HLF, K3, hid HLL.out.1⟩
   case round =>
    obtain ⟨t, Lt, lt, ht, rfl, HH, HLT, HK, HLTL⟩ := hrel
    clear H3 K3
    by_cases htl : t < k
    ·have htI : (t : Int) < k := by omega
     have hsm2 := HSM.out
     have hkb : k ≤ 1000 := by have := HNH.out; have := HLF.out.len; have := HLL.out.2.2; omega
     obtain ⟨x, hx⟩ : ∃ x, H[t]? = some x := ⟨H[t]'(by have := HNH.out; omega), List.getElem?_eq_getElem _⟩
     have hrr := fun v hv => (HRK.out v hv).at_ t x hx
     obtain ⟨rfl, -, -⟩ := hrr wr HK.out
     have HX : Hid (∀ v, KpM w1 w2 v → v.rangeAt g (t * 10) x.L) := hid (fun v hv => (hrr v hv).2.2)
     obtain ⟨g1, g2⟩ := HLT.out.keep t x hx (Nat.le_refl _)
     have hf : fullN Lt x.n (x.i : Int) = 0 := full_iff.2 (by rw [g1]; exact g2)
     obtain ⟨y, hy, e1, e2⟩ := in_mem.1 ((HLT.out.inv.tr x.n (x.i : Int)).2 (by rw [g1]; exact g2))
     have hin := (HH.out.lens.2 y hy).2
     rw [e1, e2] at hin
     obtain ⟨K, hK⟩ : ∃ K, K + (t + 1) = k := ⟨k - (t + 1), by omega⟩
     have HCR : Hid (Calls Tryz.prog 27 #[.pointer (some ⟨hb, 0, none⟩), .agg #[.int .i64 x.n, .int .i64 (x.i : Int)]] wr fun e w' => e = .returned (.tuple #[x.c.V, .int .i64 0]) ∧ ∃ (L' : List Sn) (l' : List Nod), Hd W s hb rhb (2 * (3 + n) + (t + 1)) L' M l' l (New w1 w2) w' ∧ Left H (t + 1) L' l' ∧ SameK (New w1 w2) wr w' ∧ L'.length < 1000) := hid (by
      have hc18 := HLL.out.2.1
      refine (hclear_yes HH.out HT.out x.n (x.i : Int) hin.1 hin.2 (by omega) hf).mono ?_
      rintro e w' ⟨rfl, hh, hkk⟩
      obtain ⟨q1, q2, q3, q4⟩ := HLT.out.step HPR.out hx hh.once
      exact ⟨by rw [q2, q3], _, _, hh, q4, hkk, by rw [TabS.set_len]; exact HLTL.out⟩)
     have HKN : Hid (K + (t + 1) = H.length ∧ 2 * (3 + n) + (t + 1) < 1000000) := hid ⟨by rw [hK]; exact HNH.out, by have := HLL.out.2.1; omega⟩
     obtain ⟨xn, xi, ⟨xa, xb, xx, xd, xe, xf, xg, xh⟩⟩ := x
     simp only [TabS.Cp.V] at HX HCR
     have hqc : ∀ v, (binOp .neq 33 (.agg #[.int .i64 xa, .int .i64 xb, .int .i64 xx, .int .u64 xd, .int .i64 xe, .int .i64 xf, .int .i64 xg, .int .i64 xh]) (.agg #[.int .i64 xa, .int .i64 xb, .int .i64 xx, .int .u64 xd, .int .i64 xe, .int .i64 xf, .int .i64 xg, .int .i64 xh])).run Tryz.prog v = .ok (.bool false) v := fun v => TabS.neCp ⟨xa, xb, xx, xd, xe, xf, xg, xh⟩ v
     have HQ := hid hqc
     have x0 := HX.out wr HK.out 0 _ rfl
     rw [Nat.add_zero] at x0
     have x1 := HX.out wr HK.out 1 _ rfl
     simp only [] at x0 x1
     clear hx hrr g1 g2 hf hy e1 e2 hin hqc H2 HLF HBr
     go_upto_region 22 with (go_at_call 27; (with_reducible refine HCR.out.mono ?_); rintro e w4 ⟨rfl, L', l', hh, hlf, hkk, hll⟩; have HH4 := hid hh; have HL4 := hid hlf; have HK4 := hid (HK.out.turn hkk hh); have HLL4 := hid hll; clear hh hlf hkk hll)
     obtain ⟨w5, hw5⟩ : ∃ y, y = w4.alloc (.cells #[.int .i64 xa, .int .i64 xb, .int .i64 xx, .int .u64 xd, .int .i64 xe, .int .i64 xf, .int .i64 xg, .int .i64 xh] 33) := ⟨_, rfl⟩
     rw [← hw5]
     have hx5 : w5.heap[w4.heap.size]? = some (.cells (⟨xa, xb, xx, xd, xe, xf, xg, xh⟩ : Cp).L.toArray 33 (0, 0)) := by rw [hw5]; exact heap_alloc_new w4 _
     have hv5 : Below w4.heap.size w4 w5 := hw5 ▸ bal (Below.refl _ _) _
     have H5 := hid (HH4.out.call hv5)
     have K5 := hid (HK4.out.call hv5)
     have HU5 : Hid (∀ v, Below w5.heap.size w5 v → Calls Tryz.prog 13 #[.pointer (some ⟨hb, 0, none⟩)] v fun e w' => ∃ a c, e = .returned (.slice a K c) ∧ Below v.heap.size v w') := hid (fun v hv => by
      refine (hused (H5.out.call hv) (by have := HLL4.out; omega)).mono ?_
      rintro e w' ⟨r, rfl, e2, e3⟩
      obtain ⟨a, c, g, rfl, -⟩ := hd_row e2
      refine ⟨a, c, ?_, e3⟩
      have h1 := HL4.out.inv.count
      have h2 := HL4.out.len
      have h3 := HKN.out.1
      rw [show (heldA L').length = K by omega])
     have HT5 : Hid (∀ v, Below w5.heap.size w5 v → Calls Tryz.prog 14 #[.pointer (some ⟨hb, 0, none⟩)] v fun e w' => ∃ a c, e = .returned (.slice a K c) ∧ Below v.heap.size v w') := hid (fun v hv => by
      refine (htree (H5.out.call hv) HKN.out.2).mono ?_
      rintro e w' ⟨r, rfl, e2, e3⟩
      obtain ⟨a, c, g, rfl, -⟩ := nd_row (nodes_row e2)
      refine ⟨a, c, ?_, e3⟩
      have h2 := HL4.out.len
      have h3 := HKN.out.1
      rw [show l'.length = K by omega])
     have HC5 : Hid (∀ v, Below w5.heap.size w5 v → (v.cell? ⟨w4.heap.size, 0, none⟩ = some (.int .i64 xa) ∧ v.cell? ⟨w4.heap.size, 1, none⟩ = some (.int .i64 xb) ∧ v.cell? ⟨w4.heap.size, 2, none⟩ = some (.int .i64 xx) ∧ v.cell? ⟨w4.heap.size, 3, none⟩ = some (.int .u64 xd) ∧ v.cell? ⟨w4.heap.size, 4, none⟩ = some (.int .i64 xe) ∧ v.cell? ⟨w4.heap.size, 5, none⟩ = some (.int .i64 xf) ∧ v.cell? ⟨w4.heap.size, 6, none⟩ = some (.int .i64 xg) ∧ v.cell? ⟨w4.heap.size, 7, none⟩ = some (.int .i64 xh)) ∧ (v.cell? ⟨g, t * 10 + 2, none⟩ = some (.int .i64 xa) ∧ v.cell? ⟨g, t * 10 + 3, none⟩ = some (.int .i64 xb) ∧ v.cell? ⟨g, t * 10 + 4, none⟩ = some (.int .i64 xx) ∧ v.cell? ⟨g, t * 10 + 5, none⟩ = some (.int .u64 xd) ∧ v.cell? ⟨g, t * 10 + 6, none⟩ = some (.int .i64 xe) ∧ v.cell? ⟨g, t * 10 + 7, none⟩ = some (.int .i64 xf) ∧ v.cell? ⟨g, t * 10 + 8, none⟩ = some (.int .i64 xg) ∧ v.cell? ⟨g, t * 10 + 9, none⟩ = some (.int .i64 xh))) := hid (fun v hv => ⟨cap_cells ((hv.block _ (ags hx5).1).trans hx5), ⟨HX.out v (K5.out.call hv) 2 _ rfl, HX.out v (K5.out.call hv) 3 _ rfl, HX.out v (K5.out.call hv) 4 _ rfl, HX.out v (K5.out.call hv) 5 _ rfl, HX.out v (K5.out.call hv) 6 _ rfl, HX.out v (K5.out.call hv) 7 _ rfl, HX.out v (K5.out.call hv) 8 _ rfl, HX.out v (K5.out.call hv) 9 _ rfl⟩⟩)
     have hqc := HQ.out
     have hwa : IntKind.i64.wrap ((k : Int) - (t : Int)) = (k : Int) - t := IntWalk.i64_in _ (by omega)
     have hwb : IntKind.i64.wrap ((k : Int) - (t : Int) - 1) = (k : Int) - t - 1 := IntWalk.i64_in _ (by omega)
     have hwc : ((K : Int) == (k : Int) - t - 1) = true := beq_iff_eq.2 (by omega)
     have hwd : (K : Int) = (k : Int) - t - 1 := by omega
     clear hw5 hx5 hv5 HH4 HK4 HCR HK HH HLT HKN x0 x1
     generalize w4.heap.size = xB at *
     go_region_held3 (fun v => (v.cell? ⟨xB, 0, none⟩ = some (.int .i64 xa) ∧ v.cell? ⟨xB, 1, none⟩ = some (.int .i64 xb) ∧ v.cell? ⟨xB, 2, none⟩ = some (.int .i64 xx) ∧ v.cell? ⟨xB, 3, none⟩ = some (.int .u64 xd) ∧ v.cell? ⟨xB, 4, none⟩ = some (.int .i64 xe) ∧ v.cell? ⟨xB, 5, none⟩ = some (.int .i64 xf) ∧ v.cell? ⟨xB, 6, none⟩ = some (.int .i64 xg) ∧ v.cell? ⟨xB, 7, none⟩ = some (.int .i64 xh)) ∧ (v.cell? ⟨g, t * 10 + 2, none⟩ = some (.int .i64 xa) ∧ v.cell? ⟨g, t * 10 + 3, none⟩ = some (.int .i64 xb) ∧ v.cell? ⟨g, t * 10 + 4, none⟩ = some (.int .i64 xx) ∧ v.cell? ⟨g, t * 10 + 5, none⟩ = some (.int .u64 xd) ∧ v.cell? ⟨g, t * 10 + 6, none⟩ = some (.int .i64 xe) ∧ v.cell? ⟨g, t * 10 + 7, none⟩ = some (.int .i64 xf) ∧ v.cell? ⟨g, t * 10 + 8, none⟩ = some (.int .i64 xg) ∧ v.cell? ⟨g, t * 10 + 9, none⟩ = some (.int .i64 xh)))
      (first | ((with_reducible refine HC5.out _ ?_); (repeat (first | (with_reducible exact Below.refl _ _) | (with_reducible refine Below.drew ?_) | (with_reducible refine bgo ?_ HV6.out) | (with_reducible refine bgo ?_ HV7.out)))))
      (first
       | (go_at_call 13; (with_reducible refine (HU5.out _ (by (repeat (first | (with_reducible exact Below.refl _ _) | (with_reducible refine Below.drew ?_) | (with_reducible refine bgo ?_ HV6.out) | (with_reducible refine bgo ?_ HV7.out))))).mono ?_); rintro e w6 ⟨a6, c6, rfl, hv⟩; have HV6 := hid hv; clear hv)
       | (go_at_call 14; (with_reducible refine (HT5.out _ (by (repeat (first | (with_reducible exact Below.refl _ _) | (with_reducible refine Below.drew ?_) | (with_reducible refine bgo ?_ HV6.out) | (with_reducible refine bgo ?_ HV7.out))))).mono ?_); rintro e w7 ⟨a7, c7, rfl, hv⟩; have HV7 := hid hv; clear hv))
     all_goals
      go_wp2
      go_roundw
      case rel => exact ⟨t + 1, L', l', by omega, by go_num, hid (H5.out.call (by (repeat (first | (with_reducible exact Below.refl _ _) | (with_reducible refine Below.drew ?_) | (with_reducible refine bgo ?_ HV6.out) | (with_reducible refine bgo ?_ HV7.out))))), HL4, hid (K5.out.call (by (repeat (first | (with_reducible exact Below.refl _ _) | (with_reducible refine Below.drew ?_) | (with_reducible refine bgo ?_ HV6.out) | (with_reducible refine bgo ?_ HV7.out))))), HLL4⟩
      case measure => first | (simp [intOf]; done) | (simp [intOf]; omega)
    ·obtain rfl : t = k := by omega
     have HAW := hid (HpS.awake18 wr (HT.out.call HH.out.below))
     go_wp2_with (go_at_call 8; (with_reducible refine HAW.out.mono ?_); rintro e w6 ⟨rfl, hb6⟩)
     go_ret
     exact ⟨rfl, bgo HH.out.below hb6⟩
end HdS
end Go.Proofs.YtchjfeafkmpmbaaGreatDoor
