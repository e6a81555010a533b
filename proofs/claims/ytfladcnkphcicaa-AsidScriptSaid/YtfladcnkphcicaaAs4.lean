/- chapter 19, the own answer: roots that get numbers and lose them. -/
import Derived.Test.YtfladcnkphcicaaAs3
import Derived.RegionTactic
import Derived.ChangeAlike
import Derived.BigRegion
import Derived.Deep.Cut
namespace Go.Proofs.Ytfladcnkphcicaa
set_option linter.unusedVariables false
set_option linter.unusedSimpArgs false
open Go.ChangeShapes Go.WideShapes Go.ChangeAt Go.RowKit Go.Shelf
theorem step_u (N : Nums) (n : Nat) (root : Int) : uS (uR (uG N n ((N n).2.2 + 1)) n root) n (n + 32 * (N n).2.2) = stepN N n root := by
  funext m
  unfold stepN
  by_cases e : m = n
  · subst e
    rw [uS_at, uR_at, uG_at, if_pos rfl]
  · rw [uS_no _ _ e, uR_no _ _ e, uG_no _ _ e, if_neg e]
theorem free_u (N : Nums) (n : Nat) : uS (uR N n 0) n 0 = freeN N n := by
  funext m
  by_cases e : m = n
  · subst e
    rw [uS_at, uR_at, free_at]
  · rw [uS_no _ _ e, uR_no _ _ e, free_same _ _ _ e]
set_option maxRecDepth 100000 in
set_option maxHeartbeats 2000000 in
theorem refassign_in (w : World) (b p : Nat) (po : Nat → Int) (tk : Int) (N : Nums) (pool root : Int) (h : RefAt w b po tk N) (hI : Inv po tk N) (hp : p < 8) (hpe : placeF po pool = ((p : Int), true)) (hr : 1 ≤ root) (ho : ofR N root = (0, 0, false)) :
    Calls Try.prog 14 #[.pointer (some ⟨b, 0, none⟩), .int .i64 pool, .int .i64 root] w fun e w' => e = .returned (.tuple #[.int .i64 (takeF N p root).1.1, .int .i64 (takeF N p root).1.2.1, .int .i64 (takeF N p root).1.2.2]) ∧ RefAt w' b po tk (takeF N p root).2 ∧ BlkOnly b w w' := by
  have HA := Lib.hid (refat_any w b po tk N pool h)
  have ea : atF po pool = (p : Int) := by unfold atF; rw [hpe]; rfl
  rw [ea] at HA
  have HO := Lib.hid (refof_any w b po tk N root h hI)
  rw [ho] at HO
  obtain ⟨z, hz⟩ : ∃ z, z = takeF N p root := ⟨_, rfl⟩
  rw [← hz]
  have HZ := Lib.hid hz
  have HR := Lib.hid h
  have HI := Lib.hid hI
  clear h hI hz ho hpe ea
  have hpI : (p : Int) < 8 := by omega
  have hr' : (root < 1) = False := by rw [eq_iff_iff, iff_false]; omega
  go_enter Try.func14, Try.ntmps14
  go_wp2_with (first
    | (go_at_call 23; (with_reducible refine HA.out.mono ?_); rintro e w1 ⟨rfl, rfl⟩)
    | (go_at_call 18; (with_reducible refine HO.out.mono ?_); rintro e w2 ⟨rfl, hb2⟩; have HB2 := Lib.hid hb2; clear hb2))
  go_loopw [13, 14, 15] (fun i _ _ wr => ∃ k : Nat, k ≤ 4 ∧ i = .int .i64 k ∧ wr = w2 ∧ Hid (∀ j, j < k → condA N (p * 4 + j) = false)) (fun i _ _ _ => 4 - (intOf i).toNat)
  case atStart => exact ⟨0, by omega, rfl, rfl, Lib.hid (fun j hj => by omega)⟩
  case round =>
    obtain ⟨k, hk, rfl, rfl, HN⟩ := hrel
    have HRw := Lib.hid (HR.out.call HB2.out)
    by_cases hlt : k < 4
    · have hltI : (k : Int) < 4 := by omega
      obtain ⟨n, hn⟩ : ∃ n : Nat, n = p * 4 + k := ⟨_, rfl⟩
      have hn32 : n < 32 := by omega
      have hc := HRw.out.cell (show p * 10 + 2 + k < 112 by omega)
      rw [rc_root po tk N hp hlt, ← hn] at hc
      have hg := HRw.out.cell (show 80 + n < 112 by omega)
      rw [rc_given po tk N hn32] at hg
      have hok := HI.out.ok n hn32
      obtain ⟨rv, hrv⟩ : ∃ x, x = (N n).1 := ⟨_, rfl⟩
      obtain ⟨g, hgv⟩ : ∃ x, x = (N n).2.2 := ⟨_, rfl⟩
      rw [← hrv] at hc
      rw [← hgv] at hg hok
      have hw1 : IntKind.i64.wrap (4 * (p : Int)) = 4 * (p : Int) := IntWalk.i64_in _ (by omega)
      have hw2 : IntKind.i64.wrap (4 * (p : Int) + k) = (n : Int) := by rw [IntWalk.i64_in _ (by omega)]; omega
      have hw3 : IntKind.i64.wrap (32 * g) = 32 * g := IntWalk.i64_in _ (by omega)
      obtain ⟨s, hs⟩ : ∃ s, s = (n : Int) + 32 * g := ⟨_, rfl⟩
      have hw4 : IntKind.i64.wrap ((n : Int) + 32 * g) = s := by rw [IntWalk.i64_in _ (by omega), hs]
      have hca : condA N n = (n != 0 && rv == 0 && decide (s ≤ 16777215)) := by unfold condA; rw [← hrv, ← hgv, hs]
      have hnI : (n : Int) < 32 := by omega
      have HNo : condA N n = false → Hid (∀ j, j < k + 1 → condA N (p * 4 + j) = false) := fun hc => Lib.hid (fun j hj => by
        rcases Nat.lt_succ_iff_lt_or_eq.1 hj with h | h
        · exact HN.out j h
        · rw [h, ← hn]; exact hc)
      by_cases h0 : rv = 0
      · have h0' : (rv == 0) = true := by simp [h0]
        by_cases hn0 : n = 0
        · have HX := HNo (by rw [hca]; simp [hn0])
          have hnz : (0 < (n : Int)) = False := by rw [eq_iff_iff, iff_false]; omega
          have hnz2 : (0 < n) = False := by rw [eq_iff_iff, iff_false]; omega
          clear hca HNo hrv hgv hs hn hok hn0
          subst h0
          go_wp2
          go_roundw
          case rel => exact ⟨k + 1, by omega, by go_num, (by first | rfl | trivial), HX⟩
          case measure => first | (simp [intOf]; done) | (simp [intOf]; omega)
        · have hnz : (0 < (n : Int)) = True := by rw [eq_iff_iff, iff_true]; omega
          have hnz2 : (0 < n) = True := by rw [eq_iff_iff, iff_true]; omega
          by_cases hle : s ≤ 16777215
          · have hle' : (s ≤ 16777215) = True := by rw [eq_iff_iff, iff_true]; exact hle
            have hyes : condA N n = true := by rw [hca]; simp [hn0, h0, hle]
            have htk := take_yes (root := root) hlt (by rw [← hn]; exact hyes) HN.out
            rw [← hn, ← hgv] at htk
            have hw5 : IntKind.i64.wrap (g + 1) = g + 1 := IntWalk.i64_in _ (by omega)
            have hf := HRw.out.free
            have hst := (step_u N n root).symm
            rw [← hgv] at hst
            have HT := Lib.hid (And.intro htk hst)
            have HGV := Lib.hid hgv
            have HEn := Lib.hid (And.intro hn hs)
            clear hca HNo hrv hgv htk hst hyes hn0 hle hn hs
            subst h0
            go_wp2
            go_region
            have R3 := Lib.hid (HRw.out.setGiven hn32 (g + 1)).drew
            have O3 := Lib.hid (((BlkOnly.refl b wr).set (80 + n) (.int .i64 (g + 1))).trans (BlkOnly.of_below ((Below.refl _ _).drew)))
            generalize (wr.setCell ⟨b, 80 + n, none⟩ (.int .i64 (g + 1))).drew = w3 at *
            have c3 := R3.out.cell (show p * 10 + 2 + k < 112 by omega)
            rw [rc_root po tk _ hp hlt] at c3
            have f3 := R3.out.free
            go_upto_region 15 with fail
            have R4 := Lib.hid (R3.out.setRoot hp hlt root)
            rw [← HEn.out.1] at R4
            have O4 := Lib.hid ((BlkOnly.refl b w3).set (p * 10 + 2 + k) (.int .i64 root))
            generalize w3.setCell ⟨b, p * 10 + 2 + k, none⟩ (.int .i64 root) = w4 at *
            have c4 := R4.out.cell (show p * 10 + 6 + k < 112 by omega)
            rw [rc_ser po tk _ hp hlt] at c4
            have f4 := R4.out.free
            have R5 := Lib.hid (R4.out.setSer hp hlt s)
            rw [← HEn.out.1] at R5
            have O5 := Lib.hid ((BlkOnly.refl b w4).set (p * 10 + 6 + k) (.int .i64 s))
            obtain ⟨t1, t2⟩ := HT.out
            have HZ1 := Lib.hid (HZ.out.trans t1)
            have hs4 : s = (n : Int) + 32 * g := HEn.out.2
            rw [hs4, ← t2] at R5
            have hpk : (p : Int) * 4 + k = n := by have := HEn.out.1; omega
            rw [hpk, ← hs4] at HZ1
            have hzz := HZ1.out
            subst hzz
            clear t1 t2 hs4 hpk hw1 hw2 hw3 hw4 hw5
            go_wp2
            refine bodyPost_ret (v := .tuple #[.int .i64 n, .int .i64 s, .int .i64 0]) (by simp [results, Try.results14, go_sem]) rfl ⟨rfl, ?_, ?_⟩
            · rw [HEn.out.2]; exact R5.out
            · exact (BlkOnly.of_below HB2.out).trans (O3.out.trans (O4.out.trans O5.out))
          · have hle' : (s ≤ 16777215) = False := by rw [eq_iff_iff, iff_false]; exact hle
            have HX := HNo (by rw [hca]; simp [hle])
            clear hca HNo hrv hgv hs hn hok hn0 hle
            subst h0
            go_wp2
            go_roundw
            case rel => exact ⟨k + 1, by omega, by go_num, (by first | rfl | trivial), HX⟩
            case measure => first | (simp [intOf]; done) | (simp [intOf]; omega)
      · have h0' : (rv == 0) = false := by simp [h0]
        have HX := HNo (by rw [hca]; simp [h0])
        clear hca HNo hrv hgv hs hn hok
        go_wp2
        go_roundw
        case rel => exact ⟨k + 1, by omega, by go_num, (by first | rfl | trivial), HX⟩
        case measure => first | (simp [intOf]; done) | (simp [intOf]; omega)
    · obtain rfl : k = 4 := by omega
      have hz := HZ.out
      rw [take_no HN.out] at hz
      subst hz
      go_wp2
      refine bodyPost_ret (v := .tuple #[.int .i64 0, .int .i64 0, .int .i64 11]) (by simp [results, Try.results14, go_sem]) rfl ⟨rfl, HRw.out, BlkOnly.of_below HB2.out⟩
set_option maxRecDepth 100000 in
set_option maxHeartbeats 2000000 in
theorem refassign_any (w : World) (b : Nat) (po : Nat → Int) (tk : Int) (N : Nums) (pool root : Int) (h : RefAt w b po tk N) (hI : Inv po tk N) :
    Calls Try.prog 14 #[.pointer (some ⟨b, 0, none⟩), .int .i64 pool, .int .i64 root] w fun e w' => e = .returned (.tuple #[.int .i64 (assignF po N pool root).1.1, .int .i64 (assignF po N pool root).1.2.1, .int .i64 (assignF po N pool root).1.2.2]) ∧ RefAt w' b po tk (assignF po N pool root).2 ∧ BlkOnly b w w' := by
  have HA := Lib.hid (refat_any w b po tk N pool h)
  have HR := Lib.hid h
  rcases place_in po pool with ⟨p, hp, hpe⟩ | hpe
  · have ea : atF po pool = (p : Int) := by unfold atF; rw [hpe]; rfl
    by_cases hr : root < 1
    · have e : assignF po N pool root = ((0, 0, 2), N) := by unfold assignF; rw [if_pos (.inr hr)]
      rw [e]
      rw [ea] at HA
      have hp1 : ((p : Int) < 0) = False := by rw [eq_iff_iff, iff_false]; omega
      have hr1 : (root < 1) = True := by rw [eq_iff_iff, iff_true]; omega
      clear h hI e ea hpe hr
      go_enter Try.func14, Try.ntmps14
      go_wp2_with (first
        | (go_at_call 23; (with_reducible refine HA.out.mono ?_); rintro e w1 ⟨rfl, rfl⟩))
      refine bodyPost_ret (v := .tuple #[.int .i64 0, .int .i64 0, .int .i64 2]) (by simp [results, Try.results14, go_sem]) rfl ⟨rfl, HR.out, BlkOnly.refl _ _⟩
    · rcases of_in2 N root with ho | ho
      · have e : assignF po N pool root = ((0, 0, 13), N) := by unfold assignF; rw [if_neg (by rw [hpe]; simp; omega), if_pos ho]
        rw [e]
        have HO := Lib.hid (refof_any w b po tk N root h hI)
        obtain ⟨⟨o1, o2, o3⟩, hoo⟩ : ∃ r, ofR N root = r := ⟨_, rfl⟩
        rw [hoo] at ho HO
        simp only at ho
        subst ho
        rw [ea] at HA
        have hp1 : ((p : Int) < 0) = False := by rw [eq_iff_iff, iff_false]; omega
        have hr1 : (root < 1) = False := by rw [eq_iff_iff, iff_false]; omega
        clear h hI e ea hpe hr hoo
        go_enter Try.func14, Try.ntmps14
        go_wp2_with (first
          | (go_at_call 23; (with_reducible refine HA.out.mono ?_); rintro e w1 ⟨rfl, rfl⟩)
          | (go_at_call 18; (with_reducible refine HO.out.mono ?_); rintro e w2 ⟨rfl, hb2⟩))
        refine bodyPost_ret (v := .tuple #[.int .i64 0, .int .i64 0, .int .i64 13]) (by simp [results, Try.results14, go_sem]) rfl ⟨rfl, HR.out.call hb2, BlkOnly.of_below hb2⟩
      · have e : assignF po N pool root = takeF N p root := by unfold assignF; rw [if_neg (by rw [hpe]; simp; omega), ho, hpe]; simp
        rw [e]
        exact refassign_in w b p po tk N pool root h hI hp hpe (by omega) ho
  · have ea : atF po pool = -1 := by unfold atF; rw [hpe]; rfl
    have e : assignF po N pool root = ((0, 0, 2), N) := by unfold assignF; rw [if_pos (.inl (by rw [hpe]))]
    rw [e]
    rw [ea] at HA
    clear h hI e ea hpe
    go_enter Try.func14, Try.ntmps14
    go_wp2_with (first
      | (go_at_call 23; (with_reducible refine HA.out.mono ?_); rintro e w1 ⟨rfl, rfl⟩))
    refine bodyPost_ret (v := .tuple #[.int .i64 0, .int .i64 0, .int .i64 2]) (by simp [results, Try.results14, go_sem]) rfl ⟨rfl, HR.out, BlkOnly.refl _ _⟩
theorem tdiv4 {n : Nat} : (n : Int).tdiv 4 = ((n / 4 : Nat) : Int) := by rw [Int.tdiv_eq_ediv_of_nonneg (by omega)]; omega
theorem tmod4 {n : Nat} : (n : Int).tmod 4 = ((n % 4 : Nat) : Int) := by rw [Int.tmod_eq_emod_of_nonneg (by omega)]; omega
theorem inv_unassign {po : Nat → Int} {tk : Int} {N : Nums} (h : Inv po tk N) (root : Int) : Inv po tk (unassignF N root).2 := by
  unfold unassignF
  split
  · exact inv_free h _
  · exact h
set_option maxRecDepth 100000 in
set_option maxHeartbeats 2000000 in
theorem refunassign_any (w : World) (b : Nat) (po : Nat → Int) (tk : Int) (N : Nums) (root : Int) (h : RefAt w b po tk N) (hI : Inv po tk N) :
    Calls Try.prog 16 #[.pointer (some ⟨b, 0, none⟩), .int .i64 root] w fun e w' => e = .returned (.tuple #[.int .i64 (unassignF N root).1.1, .int .i64 (unassignF N root).1.2]) ∧ RefAt w' b po tk (unassignF N root).2 ∧ BlkOnly b w w' := by
  have HO := Lib.hid (refof_any w b po tk N root h hI)
  have HR := Lib.hid h
  rcases of_in2 N root with ho | ho
  · obtain ⟨n, hn, hr, _, _⟩ := of_in3 ho
    have e : unassignF N root = (((n : Int), 0), freeN N n) := by unfold unassignF; rw [if_pos ho, hr]; simp
    rw [e]
    rw [hr] at HO
    have hn' : (n : Int) < 32 := by omega
    obtain ⟨p, hp⟩ : ∃ p, p = n / 4 := ⟨_, rfl⟩
    obtain ⟨k, hk⟩ : ∃ k, k = n % 4 := ⟨_, rfl⟩
    have hd := tdiv4 (n := n)
    have hm := tmod4 (n := n)
    rw [← hp] at hd
    rw [← hk] at hm
    have hp8 : p < 8 := by omega
    have hk4 : k < 4 := by omega
    have hpI : (p : Int) < 8 := by omega
    have hkI : (k : Int) < 4 := by omega
    have hwp : IntKind.i64.wrap (p : Int) = p := IntWalk.i64_in _ (by omega)
    have hwk : IntKind.i64.wrap (k : Int) = k := IntWalk.i64_in _ (by omega)
    have HEn := Lib.hid (show p * 4 + k = n by omega)
    clear h hI e ho hr hp hk
    go_enter Try.func16, Try.ntmps16
    go_upto_region 2 with (first
      | (go_at_call 18; (with_reducible refine HO.out.mono ?_); rintro e w2 ⟨rfl, hb2⟩; have HB2 := Lib.hid hb2; clear hb2))
    have R3 := Lib.hid (HR.out.call HB2.out)
    have c3 := R3.out.cell (show p * 10 + 2 + k < 112 by omega)
    rw [rc_root po tk _ hp8 hk4] at c3
    have f3 := R3.out.free
    go_upto_region 5 with fail
    have R4 := Lib.hid (R3.out.setRoot hp8 hk4 0)
    rw [HEn.out] at R4
    have O4 := Lib.hid ((BlkOnly.refl b w2).set (p * 10 + 2 + k) (.int .i64 0))
    generalize w2.setCell ⟨b, p * 10 + 2 + k, none⟩ (.int .i64 0) = w4 at *
    have c4 := R4.out.cell (show p * 10 + 6 + k < 112 by omega)
    rw [rc_ser po tk _ hp8 hk4] at c4
    have f4 := R4.out.free
    have R5 := Lib.hid (R4.out.setSer hp8 hk4 0)
    rw [HEn.out, free_u] at R5
    have O5 := Lib.hid ((BlkOnly.refl b w4).set (p * 10 + 6 + k) (.int .i64 0))
    go_wp2
    refine bodyPost_ret (v := .tuple #[.int .i64 n, .int .i64 0]) (by simp [results, Try.results16, go_sem]) rfl ⟨rfl, R5.out, (BlkOnly.of_below HB2.out).trans (O4.out.trans O5.out)⟩
  · have e : unassignF N root = ((0, 15), N) := by unfold unassignF; rw [ho]; rfl
    rw [e]
    rw [ho] at HO
    clear h hI e ho
    go_enter Try.func16, Try.ntmps16
    go_wp2_with (first
      | (go_at_call 18; (with_reducible refine HO.out.mono ?_); rintro e w2 ⟨rfl, hb2⟩))
    refine bodyPost_ret (v := .tuple #[.int .i64 0, .int .i64 15]) (by simp [results, Try.results16, go_sem]) rfl ⟨rfl, HR.out.call hb2, BlkOnly.of_below hb2⟩
end Go.Proofs.Ytfladcnkphcicaa
