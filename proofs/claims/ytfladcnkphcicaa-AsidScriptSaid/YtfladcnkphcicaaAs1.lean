/- chapter 19, the own answer: where a pool is, what number a root has, what root has a serial. -/
import Derived.Test.YtfladcnkphcicaaAs0
import Derived.Test.YtfladcnkphcicaaKq
import Derived.BigQuiet
namespace Go.Proofs.Ytfladcnkphcicaa
set_option linter.unusedVariables false
set_option linter.unusedSimpArgs false
open Go.ChangeShapes Go.WideShapes Go.ChangeAt Go.RowKit Go.Shelf
def atF (po : Nat → Int) (obj : Int) : Int := if (placeF po obj).2 = true then (placeF po obj).1 else -1
set_option maxRecDepth 100000 in
set_option maxHeartbeats 1000000 in
theorem refat_any (w : World) (b : Nat) (po : Nat → Int) (tk : Int) (N : Nums) (obj : Int) (h : RefAt w b po tk N) :
    Calls Try.prog 23 #[.pointer (some ⟨b, 0, none⟩), .int .i64 obj] w fun e w' => e = .returned (.int .i64 (atF po obj)) ∧ w = w' := by
  have HR := Lib.hid h
  obtain ⟨z, hz⟩ : ∃ z, z = atF po obj := ⟨_, rfl⟩
  rw [← hz]
  have HZ := Lib.hid hz
  clear h hz
  go_enter Try.func23, Try.ntmps23
  go_wp2
  go_loopw [5] (fun i wr => ∃ k : Nat, k ≤ 8 ∧ i = .int .i64 k ∧ wr = w ∧ Hid (∀ j, j < k → placeP po obj j = false)) (fun i _ => 8 - (intOf i).toNat)
  case atStart => exact ⟨0, by omega, rfl, rfl, Lib.hid (fun j hj => by omega)⟩
  case round =>
    obtain ⟨k, hk, rfl, rfl, HN⟩ := hrel
    by_cases hlt : k < 8
    · have hltI : (k : Int) < 8 := by omega
      have hc := HR.out.cell (show k * 10 < 112 by omega)
      rw [rc_obj po tk N hlt] at hc
      obtain ⟨pk, hpk⟩ : ∃ x, x = po k := ⟨_, rfl⟩
      rw [← hpk] at hc
      by_cases ho : obj = 0
      · subst ho
        have HX : Hid (∀ j, j < k + 1 → placeP po 0 j = false) := Lib.hid (fun j hj => by unfold placeP; simp)
        clear hpk
        go_wp2
        go_roundw
        case rel => exact ⟨k + 1, by omega, by go_num, (by first | rfl | trivial), HX⟩
        case measure => first | (simp [intOf]; done) | (simp [intOf]; omega)
      · have ho1 : (obj != 0) = true := by simp [ho]
        by_cases hp : pk = obj
        · have hq : placeP po obj k = true := by unfold placeP; rw [← hpk]; simp [hp, ho]
          obtain rfl : z = k := by
            rw [HZ.out]
            unfold atF
            rw [place_yes hlt hq HN.out]; rfl
          subst hp
          clear hq hpk ho
          go_wp2
          go_ret
          exact ⟨rfl, rfl⟩
        · have hq : placeP po obj k = false := by unfold placeP; rw [← hpk]; simp [hp]
          have hp1 : (pk == obj) = false := by simp [hp]
          have HX : Hid (∀ j, j < k + 1 → placeP po obj j = false) := Lib.hid (fun j hj => by
            rcases Nat.lt_succ_iff_lt_or_eq.1 hj with h | h
            · exact HN.out j h
            · rw [h]; exact hq)
          clear hq hpk ho hp
          go_wp2
          go_roundw
          case rel => exact ⟨k + 1, by omega, by go_num, (by first | rfl | trivial), HX⟩
          case measure => first | (simp [intOf]; done) | (simp [intOf]; omega)
    · obtain rfl : k = 8 := by omega
      obtain rfl : z = -1 := by
        rw [HZ.out]
        unfold atF
        rw [place_no HN.out]; rfl
      go_wp2
      go_ret
      exact ⟨rfl, rfl⟩
theorem ofR_at {N : Nums} {r : Int} {p i : Nat} (hp : p < 8) (hi : i < 4) (h : ofP N r (p * 4 + i) = true) (hb : ∀ j, j < p * 4 + i → ofP N r j = false) : ofR N r = (4 * (p : Int) + i, (N (p * 4 + i)).2.1, true) := by
  rw [of_yes (by omega) h hb]
  congr 1
  push_cast
  omega
theorem rootR_at {N : Nums} {s : Int} {p i : Nat} (hp : p < 8) (hi : i < 4) (h : rootP N s (p * 4 + i) = true) (hb : ∀ j, j < p * 4 + i → rootP N s j = false) : rootR N s = ((N (p * 4 + i)).1, 4 * (p : Int) + i, true) := by
  rw [root_yes (by omega) h hb]
  congr 2
  push_cast
  omega
theorem lt_step {q : Nat → Bool} {n : Nat} (h : ∀ j, j < n → q j = false) (h1 : q n = false) : ∀ j, j < n + 1 → q j = false := fun j hj => by
  rcases Nat.lt_succ_iff_lt_or_eq.1 hj with h2 | h2
  · exact h j h2
  · rw [h2]; exact h1
set_option maxRecDepth 100000 in
set_option maxHeartbeats 1000000 in
theorem refof_any (w : World) (b : Nat) (po : Nat → Int) (tk : Int) (N : Nums) (r : Int) (h : RefAt w b po tk N) (hI : Inv po tk N) :
    Calls Try.prog 18 #[.pointer (some ⟨b, 0, none⟩), .int .i64 r] w fun e w' => e = .returned (.tuple #[.int .i64 (ofR N r).1, .int .i64 (ofR N r).2.1, .bool (ofR N r).2.2]) ∧ Below w.heap.size w w' := by
  have HR := Lib.hid h
  have HI := Lib.hid hI
  obtain ⟨z0, hz0⟩ : ∃ z, z = (ofR N r).1 := ⟨_, rfl⟩
  obtain ⟨z1, hz1⟩ : ∃ z, z = (ofR N r).2.1 := ⟨_, rfl⟩
  obtain ⟨z2, hz2⟩ : ∃ z, z = (ofR N r).2.2 := ⟨_, rfl⟩
  rw [← hz0, ← hz1, ← hz2]
  have HZ := Lib.hid (And.intro hz0 (And.intro hz1 hz2))
  clear h hI hz0 hz1 hz2
  go_enter Try.func18, Try.ntmps18
  go_wp2
  go_loopw [7] (fun p wr => ∃ k : Nat, k ≤ 8 ∧ p = .int .i64 k ∧ wr = w ∧ Hid (∀ j, j < k * 4 → ofP N r j = false)) (fun p _ => 8 - (intOf p).toNat)
  case atStart => exact ⟨0, by omega, rfl, rfl, Lib.hid (fun j hj => by omega)⟩
  case round =>
    obtain ⟨k, hk, rfl, rfl, HN⟩ := hrel
    by_cases hlt : k < 8
    · have hltI : (k : Int) < 8 := by omega
      go_wp2
      go_loopw [8] (fun i wv => ∃ m : Nat, m ≤ 4 ∧ i = .int .i64 m ∧ wv = wr ∧ Hid (∀ j, j < k * 4 + m → ofP N r j = false)) (fun i _ => 4 - (intOf i).toNat)
      case atStart => exact ⟨0, by omega, rfl, rfl, HN⟩
      case round =>
        obtain ⟨m, hm, rfl, rfl, HM⟩ := hrel
        by_cases hlm : m < 4
        · have hlmI : (m : Int) < 4 := by omega
          have hc := HR.out.cell (show k * 10 + 2 + m < 112 by omega)
          rw [rc_root po tk N hlt hlm] at hc
          have hd := HR.out.cell (show k * 10 + 6 + m < 112 by omega)
          rw [rc_ser po tk N hlt hlm] at hd
          have hsv := HI.out.ser (k * 4 + m) (by omega)
          obtain ⟨rv, hrv⟩ : ∃ x, x = (N (k * 4 + m)).1 := ⟨_, rfl⟩
          obtain ⟨sv, hsv2⟩ : ∃ x, x = (N (k * 4 + m)).2.1 := ⟨_, rfl⟩
          rw [← hrv] at hc hsv
          rw [← hsv2] at hd hsv
          have hw1 : IntKind.i64.wrap (4 * (k : Int)) = 4 * (k : Int) := IntWalk.i64_in _ (by omega)
          have hw2 : IntKind.i64.wrap (4 * (k : Int) + m) = 4 * (k : Int) + m := IntWalk.i64_in _ (by omega)
          by_cases ho : r = 0
          · subst ho
            have hq : ofP N 0 (k * 4 + m) = false := by
              unfold ofP
              (try rw [← hrv])
              (try rw [← hsv2])
              by_cases q : rv = 0
              · simp [q]
              · have : sv ≠ 0 := fun e => q (hsv.2 e)
                simp [q, this]
            have HX := Lib.hid (lt_step HM.out hq)
            clear hq hsv hrv hsv2
            go_wp2
            go_roundw
            case rel => exact ⟨m + 1, by omega, by go_num, (by first | rfl | trivial), HX⟩
            case measure => first | (simp [intOf]; done) | (simp [intOf]; omega)
          · have ho1 : (r != 0) = true := by simp [ho]
            by_cases hp : rv = r
            · have hq : ofP N r (k * 4 + m) = true := by
                unfold ofP
                (try rw [← hrv])
                (try rw [← hsv2])
                have : rv ≠ 0 := fun e => ho (by rw [← hp]; first | exact e | exact hsv.1 e)
                simp [hp, this, ho]
              have hres := ofR_at hlt hlm hq HM.out
              (try rw [← hrv] at hres)
              (try rw [← hsv2] at hres)
              obtain ⟨e0, e1, e2⟩ := HZ.out
              rw [hres] at e0 e1 e2
              simp only at e0 e1 e2
              subst e0; subst e1; subst e2
              subst hp
              clear hq hsv hrv hsv2 hres ho
              go_wp2
              go_quiet (fail)
              go_wp2
              refine bodyPost_ret (v := .tuple #[.int .i64 (4 * (k : Int) + m), .int .i64 z1, .bool true]) (by simp [results, Try.results18, go_sem]) rfl ⟨rfl, ?_⟩
              first | exact Below.refl _ _ | exact (Below.refl _ _).drew | exact below_drewN (Below.refl _ _) _
            · have hq : ofP N r (k * 4 + m) = false := by
                unfold ofP
                (try rw [← hrv])
                (try rw [← hsv2])
                simp [hp]
              have HX := Lib.hid (lt_step HM.out hq)
              have hpb : (rv == r) = false := by simp [hp]
              clear hq hsv hrv hsv2 hp ho
              go_wp2
              go_roundw
              case rel => exact ⟨m + 1, by omega, by go_num, (by first | rfl | trivial), HX⟩
              case measure => first | (simp [intOf]; done) | (simp [intOf]; omega)
        · obtain rfl : m = 4 := by omega
          have HX : Hid (∀ j, j < (k + 1) * 4 → ofP N r j = false) := Lib.hid (fun j hj => HM.out j (by omega))
          go_wp2
          go_roundw
          case rel => exact ⟨k + 1, by omega, by go_num, (by first | rfl | trivial), HX⟩
          case measure => first | (simp [intOf]; done) | (simp [intOf]; omega)
    · obtain rfl : k = 8 := by omega
      have hres := of_no (N := N) (r := r) HN.out
      obtain ⟨e0, e1, e2⟩ := HZ.out
      rw [hres] at e0 e1 e2
      simp only at e0 e1 e2
      subst e0; subst e1; subst e2
      clear hres
      go_wp2
      exact bodyPost_ret (v := .tuple #[.int .i64 0, .int .i64 0, .bool false]) (by simp [results, Try.results18, go_sem]) rfl ⟨rfl, Below.refl _ _⟩
set_option maxRecDepth 100000 in
set_option maxHeartbeats 1000000 in
theorem refroot_any (w : World) (b : Nat) (po : Nat → Int) (tk : Int) (N : Nums) (r : Int) (h : RefAt w b po tk N) (hI : Inv po tk N) :
    Calls Try.prog 20 #[.pointer (some ⟨b, 0, none⟩), .int .i64 r] w fun e w' => e = .returned (.tuple #[.int .i64 (rootR N r).1, .int .i64 (rootR N r).2.1, .bool (rootR N r).2.2]) ∧ Below w.heap.size w w' := by
  have HR := Lib.hid h
  have HI := Lib.hid hI
  obtain ⟨z0, hz0⟩ : ∃ z, z = (rootR N r).1 := ⟨_, rfl⟩
  obtain ⟨z1, hz1⟩ : ∃ z, z = (rootR N r).2.1 := ⟨_, rfl⟩
  obtain ⟨z2, hz2⟩ : ∃ z, z = (rootR N r).2.2 := ⟨_, rfl⟩
  rw [← hz0, ← hz1, ← hz2]
  have HZ := Lib.hid (And.intro hz0 (And.intro hz1 hz2))
  clear h hI hz0 hz1 hz2
  go_enter Try.func20, Try.ntmps20
  go_wp2
  go_loopw [7] (fun p wr => ∃ k : Nat, k ≤ 8 ∧ p = .int .i64 k ∧ wr = w ∧ Hid (∀ j, j < k * 4 → rootP N r j = false)) (fun p _ => 8 - (intOf p).toNat)
  case atStart => exact ⟨0, by omega, rfl, rfl, Lib.hid (fun j hj => by omega)⟩
  case round =>
    obtain ⟨k, hk, rfl, rfl, HN⟩ := hrel
    by_cases hlt : k < 8
    · have hltI : (k : Int) < 8 := by omega
      go_wp2
      go_loopw [8] (fun i wv => ∃ m : Nat, m ≤ 4 ∧ i = .int .i64 m ∧ wv = wr ∧ Hid (∀ j, j < k * 4 + m → rootP N r j = false)) (fun i _ => 4 - (intOf i).toNat)
      case atStart => exact ⟨0, by omega, rfl, rfl, HN⟩
      case round =>
        obtain ⟨m, hm, rfl, rfl, HM⟩ := hrel
        by_cases hlm : m < 4
        · have hlmI : (m : Int) < 4 := by omega
          have hc := HR.out.cell (show k * 10 + 2 + m < 112 by omega)
          rw [rc_root po tk N hlt hlm] at hc
          have hd := HR.out.cell (show k * 10 + 6 + m < 112 by omega)
          rw [rc_ser po tk N hlt hlm] at hd
          have hsv := HI.out.ser (k * 4 + m) (by omega)
          obtain ⟨rv, hrv⟩ : ∃ x, x = (N (k * 4 + m)).1 := ⟨_, rfl⟩
          obtain ⟨sv, hsv2⟩ : ∃ x, x = (N (k * 4 + m)).2.1 := ⟨_, rfl⟩
          rw [← hrv] at hc hsv
          rw [← hsv2] at hd hsv
          have hw1 : IntKind.i64.wrap (4 * (k : Int)) = 4 * (k : Int) := IntWalk.i64_in _ (by omega)
          have hw2 : IntKind.i64.wrap (4 * (k : Int) + m) = 4 * (k : Int) + m := IntWalk.i64_in _ (by omega)
          by_cases ho : r = 0
          · subst ho
            have hq : rootP N 0 (k * 4 + m) = false := by
              unfold rootP
              (try rw [← hrv])
              (try rw [← hsv2])
              by_cases q : rv = 0
              · simp [q]
              · have : sv ≠ 0 := fun e => q (hsv.2 e)
                simp [q, this]
            have HX := Lib.hid (lt_step HM.out hq)
            clear hq hsv hrv hsv2
            go_wp2
            go_roundw
            case rel => exact ⟨m + 1, by omega, by go_num, (by first | rfl | trivial), HX⟩
            case measure => first | (simp [intOf]; done) | (simp [intOf]; omega)
          · have ho1 : (r != 0) = true := by simp [ho]
            by_cases hp : sv = r
            · have hq : rootP N r (k * 4 + m) = true := by
                unfold rootP
                (try rw [← hrv])
                (try rw [← hsv2])
                have : rv ≠ 0 := fun e => ho (by rw [← hp]; first | exact e | exact hsv.1 e)
                simp [hp, this, ho]
              have hres := rootR_at hlt hlm hq HM.out
              (try rw [← hrv] at hres)
              (try rw [← hsv2] at hres)
              obtain ⟨e0, e1, e2⟩ := HZ.out
              rw [hres] at e0 e1 e2
              simp only at e0 e1 e2
              subst e0; subst e1; subst e2
              subst hp
              clear hq hsv hrv hsv2 hres ho
              go_wp2
              refine bodyPost_ret (v := .tuple #[.int .i64 z0, .int .i64 (4 * (k : Int) + m), .bool true]) (by simp [results, Try.results20, go_sem]) rfl ⟨rfl, ?_⟩
              first | exact Below.refl _ _ | exact (Below.refl _ _).drew | exact below_drewN (Below.refl _ _) _
            · have hq : rootP N r (k * 4 + m) = false := by
                unfold rootP
                (try rw [← hrv])
                (try rw [← hsv2])
                simp [hp]
              have HX := Lib.hid (lt_step HM.out hq)
              have hpb : (sv == r) = false := by simp [hp]
              clear hq hsv hrv hsv2 hp ho
              go_wp2
              go_roundw
              case rel => exact ⟨m + 1, by omega, by go_num, (by first | rfl | trivial), HX⟩
              case measure => first | (simp [intOf]; done) | (simp [intOf]; omega)
        · obtain rfl : m = 4 := by omega
          have HX : Hid (∀ j, j < (k + 1) * 4 → rootP N r j = false) := Lib.hid (fun j hj => HM.out j (by omega))
          go_wp2
          go_roundw
          case rel => exact ⟨k + 1, by omega, by go_num, (by first | rfl | trivial), HX⟩
          case measure => first | (simp [intOf]; done) | (simp [intOf]; omega)
    · obtain rfl : k = 8 := by omega
      have hres := root_no (N := N) (r := r) HN.out
      obtain ⟨e0, e1, e2⟩ := HZ.out
      rw [hres] at e0 e1 e2
      simp only at e0 e1 e2
      subst e0; subst e1; subst e2
      clear hres
      go_wp2
      exact bodyPost_ret (v := .tuple #[.int .i64 0, .int .i64 0, .bool false]) (by simp [results, Try.results20, go_sem]) rfl ⟨rfl, Below.refl _ _⟩
end Go.Proofs.Ytfladcnkphcicaa
