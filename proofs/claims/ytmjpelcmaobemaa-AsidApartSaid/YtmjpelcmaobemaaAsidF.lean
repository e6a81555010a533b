/- The law AsidSerials. -/
import Derived.Test.YtmjpelcmaobemaaAsidE
import Derived.Test.YtmjpelcmaobemaaAsidNone
import Derived.Test.YtmjpelcmaobemaaActs
namespace Go.Proofs.Ytmjpelcmaobemaa
set_option linter.unusedVariables false
set_option linter.unusedSimpArgs false
open Go.ChangeShapes Go.WideShapes Go.ChangeAt Go.RowKit Go.Shelf

theorem i64_of' {n : Int} (h : (Lit.int .i64 n).wf = true) : -9223372036854775808 ≤ n ∧ n ≤ 9223372036854775807 := by
  simp [Lit.wf, IntKind.min, IntKind.max, IntKind.signed, IntKind.bits] at h
  exact ⟨by omega, by omega⟩
/-- An act's cells. -/
def ActCells (w : World) (b o : Nat) (x : ActA) : Prop :=
  w.cell? ⟨b, o, none⟩ = some (.int .i64 x.d) ∧ w.cell? ⟨b, o + 1, none⟩ = some (.int .i64 x.a) ∧ w.cell? ⟨b, o + 2, none⟩ = some (.int .i64 x.b)
def I64 (n : Int) : Prop := -9223372036854775808 ≤ n ∧ n ≤ 9223372036854775807
/-- The acts that a slice holds. -/
def ActsAt (w : World) (p : Option Addr) (n : Nat) (D : Nat → ActA) : Prop :=
  ∃ b off, (0 < n → p = some ⟨b, off, none⟩ ∧ b < w.heap.size) ∧ ∀ k, k < n → ActCells w b (off + k * 3) (D k) ∧ I64 (D k).d ∧ I64 (D k).a ∧ I64 (D k).b
theorem open_s22 {H : Type} {enc : TypeId × Value → H} {W : World} {base : Nat} {v : Value} {d : DataW H} {ps : List MemPlace} (hval : Value.okWide Try.prog W .any base 22 v) (hd : DataW.Trod enc Try.prog W 0 (fun _ => true) true 22 v d ps) :
    ∃ p n c, v = .slice p n c ∧ n ≤ c ∧ c ≤ maxLen ∧ ∃ D, ActsAt W p n D := by
  obtain ⟨p, n, c, rfl, h1, h2, b, off, h3, h4⟩ := open_rows (C := 3) Try.underlying22 (by kernel_rfl) (by kernel_rfl) (by decide) hval hd
  refine ⟨p, n, c, rfl, h1, h2, fun k => ⟨intAt W b (off + (k * 3 + 0)), intAt W b (off + (k * 3 + 1)), intAt W b (off + (k * 3 + 2))⟩, b, off, h3, fun k hk => ?_⟩
  obtain ⟨c0, o0⟩ := h4 k hk 0 (.i .i64) (by kernel_rfl)
  obtain ⟨c1, o1⟩ := h4 k hk 1 (.i .i64) (by kernel_rfl)
  obtain ⟨c2, o2⟩ := h4 k hk 2 (.i .i64) (by kernel_rfl)
  refine ⟨⟨?_, ?_, ?_⟩, i64_of' o0, i64_of' o1, i64_of' o2⟩
  all_goals first | exact c0 | exact c1 | exact c2 | (simp only [Nat.add_assoc]; first | exact c0 | exact c1 | exact c2)
theorem row_below {B : Nat} {w w' : World} {e : TypeId} {size : Nat} {v : Value} {n : Nat} {xs : List Value} (h : w.ownsRow B e size v n xs) (ho : Below w.heap.size w w') : w'.ownsRow B e size v n xs := by
  refine h.kept (row := none) ⟨ho.os, ho.tape, ho.output, ho.size, fun k hk _ => ho.block k hk⟩ ?_
  cases hv : v.ownBlock with
  | none => exact .inl rfl
  | some k => exact .inr (by simp)
/-- What a row's slice is. -/
theorem row_form {B : Nat} {w : World} {e : TypeId} {v : Value} {n : Nat} {xs : List Value} (h : w.ownsRow B e 1 v n xs) : ∃ p c, v = .slice p n c ∧ n ≤ c ∧ c ≤ maxLen ∧ (0 < n → ∃ g, p = some ⟨g, 0, none⟩ ∧ B ≤ g ∧ g < w.heap.size ∧ ∀ j u, xs[j]? = some u → w.cell? ⟨g, j, none⟩ = some u) := by
  have hlt := h.lt
  have hcs := fun g hg => h.cells (g := g) hg
  obtain ⟨hl, h | ⟨g, cap, cur, rfl, hg, hblk, h1, h2, h3, h4⟩⟩ := h
  · obtain ⟨rfl, rfl⟩ := h
    exact ⟨none, 0, rfl, by omega, by unfold maxLen; omega, fun h => absurd h (by omega)⟩
  · refine ⟨_, _, rfl, h1, h2, fun _ => ⟨g, rfl, hg, (hlt g rfl).2, fun j u hj => ?_⟩⟩
    have := hcs g rfl j u hj
    have e : ((⟨g, 0, none⟩ : Addr).add j) = ⟨g, j, none⟩ := by unfold Addr.add; split <;> simp_all
    rwa [e] at this
/-- What DropPool tells and leaves. -/
def dropPo (po : Nat → Int) (pool : Int) : Nat → Int := if (placeF po pool).2 = true then (fun i => if i = (placeF po pool).1.toNat then 0 else po i) else po
def dropNL (po : Nat → Int) (N : Nums) (pool : Int) : Nums × List Int := if (placeF po pool).2 = true then dfold (placeF po pool).1.toNat N (fst4 4) else (N, [])
theorem dropPool_any (w : World) (b : Nat) (po : Nat → Int) (tk : Int) (N : Nums) (pool : Int) (h : AsidAt w b po tk N) :
    Calls Try.prog 13 #[.pointer (some ⟨b, 0, none⟩), .int .i64 pool] w fun e W' => ∃ v, e = .returned (.tuple #[v, .int .i64 (if (placeF po pool).2 = true then 0 else 2)]) ∧ W'.ownsRow w.heap.size 3 1 v (dropNL po N pool).2.length ((dropNL po N pool).2.map (Value.int .i64)) ∧ AsidAt W' b (dropPo po pool) tk (dropNL po N pool).1 ∧ BlkOnly b w W' := by
  have HA := Lib.hid h
  rcases place_in po pool with ⟨pl, hpl, hp⟩ | hp
  · have e1 : dropPo po pool = fun i => if i = pl then 0 else po i := by unfold dropPo; rw [hp]; simp
    have e2 : dropNL po N pool = dfold pl N (fst4 4) := by unfold dropNL; rw [hp]; simp
    rw [e1, e2, hp]
    exact callsIn_wide.1 (drop_in w b pl po tk N pool h hpl hp)
  · have e1 : dropPo po pool = po := by unfold dropPo; rw [hp]; simp
    have e2 : dropNL po N pool = (N, []) := by unfold dropNL; rw [hp]; simp
    rw [e1, e2, hp]
    have HP := Lib.hid hp
    clear hp h e1 e2
    go_enter Try.func13, Try.ntmps13
    go_wp2_with (first
      | (go_at_call 27; refine (place_any _ b po tk N pool (HA.out.call (by repeat (first | exact Below.refl _ _ | refine bal ?_ _)))).mono ?_; rw [HP.out]; rintro e w1 ⟨rfl, rfl⟩))
    refine bodyPost_ret (v := .tuple #[.slice none 0 0, .int .i64 2]) (by simp [results, Try.results13, go_sem]) rfl ⟨_, rfl, World.ownsRow_nil _ _ _ _, HA.out.call (by repeat (first | exact Below.refl _ _ | refine bal ?_ _)), BlkOnly.of_below (by repeat (first | exact Below.refl _ _ | refine bal ?_ _))⟩
theorem ser_drop {N : Nums} {gv : List Int} (h : SerInv N gv) (hN : NumsOk N) (po : Nat → Int) (pool : Int) : SerInv (dropNL po N pool).1 gv ∧ NumsOk (dropNL po N pool).1 := by
  unfold dropNL
  split
  · exact ser_fold h hN _ _
  · exact ⟨h, hN⟩
theorem add_tk {po : Nat → Int} {tk obj : Int} (h0 : 0 ≤ tk) (h8 : tk ≤ 8) : 0 ≤ (addF po tk obj).2.2 ∧ (addF po tk obj).2.2 ≤ 8 := by
  unfold addF
  split
  · exact ⟨h0, h8⟩
  · split
    · exact ⟨h0, h8⟩
    · split
      · exact ⟨h0, h8⟩
      · simp only; omega
theorem BlkOnly.lt {b k : Nat} {w w' : World} (h : BlkOnly b w w') (hk : k < w.heap.size) : k < w'.heap.size := Nat.lt_of_lt_of_le hk h.size
theorem num_len {N : Nums} (h : NumsOk N) {k : Nat} (hk : k < 32) : 0 ≤ (N k).2.2 ∧ (N k).2.2 ≤ 524288 := h k hk
set_option maxRecDepth 100000 in
set_option maxHeartbeats 4000000 in
theorem walk_asidSerials {W : World} (p : Option Addr) (n c : Nat) (hx : n ≤ c ∧ c ≤ maxLen ∧ ∃ D, ActsAt W p n D) :
    Calls Try.prog 4 #[.slice p n c] W fun e w' => e = .returned (.bool true) ∧ Below W.heap.size W w' := by
  obtain ⟨h1, h2, D, pb, off, hp, hD⟩ := hx
  unfold maxLen at h2
  have HD := Lib.hid hD
  have HP := Lib.hid hp
  clear hD hp
  by_cases hn : 120 < n
  · go_enter Try.func4, Try.ntmps4
    go_wp2_with (first
      | (go_at_call 8; refine (awake19 _).mono ?_; rintro e w3 ⟨rfl, hb3⟩))
    go_ret
    exact ⟨rfl, hb3⟩
  have hn' : n ≤ 120 := by omega
  clear hn
  obtain ⟨i0, hi, hz0, hz1, hz2⟩ := info_parts infoInt
  have HI0 := Lib.hid hi
  clear hi
  go_enter Try.func4, Try.ntmps4
  go_wp2_with (first
    | (go_at_call 9; refine (new_any _).mono ?_; rintro e w1 ⟨rfl, ha1, hb1⟩; have hl1 := ha1.lt))
  have HA1 := Lib.hid ha1
  clear ha1
  go_loopw [4, 5] (fun gs i wr => ∃ (k : Nat) (po : Nat → Int) (tk : Int) (N : Nums) (gv : List Int) (q : Option Addr) (cp : Nat), k ≤ n ∧ i = .int .i64 k ∧ gs = .slice q gv.length cp ∧ Hid (wr.ownsRow (W.heap.size + 1) 3 1 (.slice q gv.length cp) gv.length (gv.map (Value.int .i64))) ∧ Hid (AsidAt wr W.heap.size po tk N) ∧ 0 ≤ tk ∧ tk ≤ 8 ∧ Hid (NumsOk N) ∧ Hid (SerInv N gv) ∧ gv.length ≤ k ∧ Below W.heap.size W wr ∧ W.heap.size < wr.heap.size) (fun _ i _ => n - (intOf i).toNat)
  case atStart => exact ⟨0, po0, 0, N0, [], none, 0, by omega, rfl, rfl, Lib.hid (World.ownsRow_nil _ _ _ _), HA1, by omega, by omega, Lib.hid ok_N0, Lib.hid ser_0, by simp, hb1, hl1⟩
  case round =>
    obtain ⟨k, po, tk, N, gv, q, cp, hk, rfl, rfl, HR, HA, t0, t8, HN, HS, hgk, hB, hZ⟩ := hrel
    clear HA1
    by_cases hlt : k < n
    · obtain ⟨rfl, hpb⟩ := HP.out (by omega)
      obtain ⟨⟨c0, c1, c2⟩, -, -, -⟩ := HD.out k hlt
      obtain ⟨⟨xd, xa, xb⟩, hx⟩ : ∃ x, D k = x := ⟨_, rfl⟩
      rw [hx] at c0 c1 c2
      simp only at c0 c1 c2
      have e0 := (hB.cell (p := ⟨pb, off + k * 3, none⟩) hpb).trans c0
      have e1 := (hB.cell (p := ⟨pb, off + k * 3 + 1, none⟩) hpb).trans c1
      have e2 := (hB.cell (p := ⟨pb, off + k * 3 + 2, none⟩) hpb).trans c2
      clear c0 c1 c2 hx
      have hBl : ∀ o, Below wr.heap.size wr (wr.alloc o) := fun o => bal (Below.refl _ _) o
      have HBL := Lib.hid hBl
      clear hBl
      by_cases d0 : xd = 0
      · subst d0
        obtain ⟨t1, t2⟩ := add_tk (po := po) (obj := xa) t0 t8
        go_wp2_with (first
          | (go_at_call 10; refine (addPool_any _ W.heap.size po tk N xa (HA.out.call (HBL.out _)) t0 t8).mono ?_; rintro e w2 ⟨rfl, ha2, ho2⟩; have HA2 := Lib.hid ha2; clear ha2))
        go_roundw
        case rel => first | exact ⟨k + 1, _, _, _, gv, q, cp, by omega, by go_num, rfl, Lib.hid (row_other (HR.out.alloc _) ho2 (by omega)), HA2, t1, t2, HN, HS, by omega, (bal hB _).trans (ho2.below (Nat.le_refl _) (by simp; omega)), ho2.lt (by simp; omega)⟩ | ((repeat apply Exists.intro); exact ⟨⟨k + 1, _, _, _, gv, q, cp, by omega, by go_num, rfl, Lib.hid (row_other (HR.out.alloc _) ho2 (by omega)), HA2, t1, t2, HN, HS, by omega, (bal hB _).trans (ho2.below (Nat.le_refl _) (by simp; omega)), ho2.lt (by simp; omega)⟩, rfl⟩)
        case measure => simp [intOf]; omega
      by_cases d1 : xd = 1
      · subst d1
        clear d0
        obtain ⟨s1, s2⟩ := ser_drop HS.out HN.out po xa
        have HS1 := Lib.hid s1
        have HN1 := Lib.hid s2
        clear s1 s2
        go_wp2_with (first
          | (go_at_call 13; refine (dropPool_any _ W.heap.size po tk N xa (HA.out.call (HBL.out _))).mono ?_; rintro e w2 ⟨v2, rfl, hr2, ha2, ho2⟩; have HA2 := Lib.hid ha2; clear ha2 hr2))
        go_roundw
        case rel => first | exact ⟨k + 1, _, _, _, gv, q, cp, by omega, by go_num, rfl, Lib.hid (row_other (HR.out.alloc _) ho2 (by omega)), HA2, t0, t8, HN1, HS1, by omega, (bal hB _).trans (ho2.below (Nat.le_refl _) (by simp; omega)), ho2.lt (by simp; omega)⟩ | ((repeat apply Exists.intro); exact ⟨⟨k + 1, _, _, _, gv, q, cp, by omega, by go_num, rfl, Lib.hid (row_other (HR.out.alloc _) ho2 (by omega)), HA2, t0, t8, HN1, HS1, by omega, (bal hB _).trans (ho2.below (Nat.le_refl _) (by simp; omega)), ho2.lt (by simp; omega)⟩, rfl⟩)
        case measure => simp [intOf]; omega
      by_cases d3 : xd = 3
      · subst d3
        clear d0 d1
        have HS1 := Lib.hid (ser_unassign HS.out xb)
        have HN1 := Lib.hid (ok_unassign HN.out xb)
        go_wp2_with (first
          | (go_at_call 19; refine (unassign_any _ W.heap.size po tk N xb (HA.out.call (HBL.out _))).mono ?_; rintro e w2 ⟨rfl, ha2, ho2⟩; have HA2 := Lib.hid ha2; clear ha2))
        go_roundw
        case rel => first | exact ⟨k + 1, _, _, _, gv, q, cp, by omega, by go_num, rfl, Lib.hid (row_other (HR.out.alloc _) ho2 (by omega)), HA2, t0, t8, HN1, HS1, by omega, (bal hB _).trans (ho2.below (Nat.le_refl _) (by simp; omega)), ho2.lt (by simp; omega)⟩ | ((repeat apply Exists.intro); exact ⟨⟨k + 1, _, _, _, gv, q, cp, by omega, by go_num, rfl, Lib.hid (row_other (HR.out.alloc _) ho2 (by omega)), HA2, t0, t8, HN1, HS1, by omega, (bal hB _).trans (ho2.below (Nat.le_refl _) (by simp; omega)), ho2.lt (by simp; omega)⟩, rfl⟩)
        case measure => simp [intOf]; omega
      by_cases d2 : xd = 2
      · subst d2
        clear d0 d1 d3
        rcases ser_assign HS.out HN.out po xa xb with ⟨cc, hcc, has⟩ | ⟨kk, s, M, hkk, hk1, hs, hs32, hs0, has, hrt, hsi, hok, hni⟩
        · have HAS := Lib.hid has
          clear has
          go_wp2_with (first
            | (go_at_call 17; refine (assign_any _ W.heap.size po tk N xa xb (HA.out.call (HBL.out _)) HN.out).mono ?_; rw [HAS.out]; rintro e w2 ⟨rfl, ha2, ho2⟩; have HA2 := Lib.hid ha2; clear ha2))
          go_roundw
          case rel => first | exact ⟨k + 1, _, _, _, gv, q, cp, by omega, by go_num, rfl, Lib.hid (row_other (HR.out.alloc _) ho2 (by omega)), HA2, t0, t8, HN, HS, by omega, (bal hB _).trans (ho2.below (Nat.le_refl _) (by simp; omega)), ho2.lt (by simp; omega)⟩ | ((repeat apply Exists.intro); exact ⟨⟨k + 1, _, _, _, gv, q, cp, by omega, by go_num, rfl, Lib.hid (row_other (HR.out.alloc _) ho2 (by omega)), HA2, t0, t8, HN, HS, by omega, (bal hB _).trans (ho2.below (Nat.le_refl _) (by simp; omega)), ho2.lt (by simp; omega)⟩, rfl⟩)
          case measure => simp [intOf]; omega
        · obtain ⟨u0, u1⟩ := num_len HN.out hkk
          have hs1 : s ≤ 20000000 := by omega
          have hkk' : (kk : Int) < 32 := by omega
          have hk1' : 1 ≤ (kk : Int) := by omega
          have HAS := Lib.hid has
          have HRT := Lib.hid hrt
          have HSI := Lib.hid hsi
          have HOK := Lib.hid hok
          have HNI := Lib.hid hni
          clear has hrt hsi hok hni hs u0 u1
          go_wp2_with (first
            | (go_at_call 17; refine (assign_any _ W.heap.size po tk N xa xb (HA.out.call (HBL.out _)) HN.out).mono ?_; rw [HAS.out]; rintro e w2 ⟨rfl, ha2, ho2⟩; have HA2 := Lib.hid ha2; clear ha2; have zz2 : wr.heap.size < w2.heap.size := (ho2.lt (by simp)); have x2 : w2.cell? ⟨wr.heap.size, 2, none⟩ = some (.int .i64 xb) := (ho2.cell (by simp) (by omega) (by go_simp)))
            | (go_at_call 23; refine (root_any _ W.heap.size _ _ M _ HA2.out).mono ?_; rw [HRT.out]; rintro e w6 ⟨rfl, hb6⟩; have x6 : w6.cell? ⟨wr.heap.size, 2, none⟩ = some (.int .i64 xb) := ((hb6.cell (p := ⟨wr.heap.size, 2, none⟩) zz2).trans x2)))
          have hr6 := row_below (row_other (HR.out.alloc (.cells #[.int .i64 2, .int .i64 xa, .int .i64 xb] 35)) ho2 (by omega)) hb6
          obtain ⟨q', c', hq, hle, hmx, hcl⟩ := row_form hr6
          obtain ⟨rfl, rfl⟩ : q = q' ∧ cp = c' := by simp only [Value.slice.injEq] at hq; exact ⟨hq.1, hq.2.2⟩
          have HCL := Lib.hid hcl
          have HR6 := Lib.hid hr6
          clear hcl hq hr6 x2 x6 e0 e1 e2
          go_loop [13] (fun i => ∃ j : Nat, j ≤ gv.length ∧ i = .int .i64 j) (fun i => gv.length - (intOf i).toNat)
          case atStart => exact ⟨0, by omega, rfl⟩
          case round =>
            obtain ⟨j, hj, rfl⟩ := hrel
            by_cases hjl : j < gv.length
            · obtain ⟨g, rfl, hg1, hg2, hcell⟩ := HCL.out (by omega)
              have cj := hcell j (.int .i64 gv[j]) (by simp [hjl])
              have hne : (gv[j] == s) = false := beq_eq_false_iff_ne.2 (fun e => HNI.out (e ▸ List.getElem_mem hjl))
              obtain ⟨y, hy⟩ : ∃ y, gv[j] = y := ⟨_, rfl⟩
              rw [hy] at cj hne
              clear hy hcell
              go_wp2
              go_round
              case rel => exact ⟨j + 1, by omega, by go_num⟩
              case measure => simp [intOf]; omega
            · obtain rfl : j = gv.length := by omega
              have ha6 := HA2.out.call hb6
              have HA6 := Lib.hid ha6
              have hB6 : Below W.heap.size W w6 := ((bal hB _).trans (ho2.below (Nat.le_refl _) (by simp; omega))).trans (hb6.mono (by omega))
              have hz6 : W.heap.size + 1 ≤ w6.heap.size := by have := hb6.size; omega
              clear ha6
              go_wp2_with (at_builtin; refine wpList_append_own _ rfl _ _ 42 rfl (W.heap.size + 1) 3 i0 (.int .i64 0) 1 8 Try.underlying42 HI0.out hz0 hz1 hz2 rfl (by decide) _ _ _ rfl (HR6.out.alloc _) ⟨w6.heap.size, 0, none⟩ 1 1 [.int .i64 s] rfl rfl (cell_one_new _ _ _) (by simp [Value.oneCell']) (by unfold maxLen; omega) (by omega) (by simp; omega) ?_; intro v' w1 hown' hgrow _; obtain ⟨g', cap', rfl⟩ := ownsRow_succ hown')
              go_roundw
              case rel => exact ⟨k + 1, po, tk, M, gv ++ [s], some ⟨g', 0, none⟩, cap', by omega, by go_num, by simp, Lib.hid (by simpa using hown'), Lib.hid ((HA6.out.call (bal (Below.refl _ _) _)).of_block hgrow.size (hgrow.block _ (by simp; omega) (row_ne HR6.out (by omega)))), t0, t8, HOK, HSI, by simp; omega, (bal hB6 _).grown hgrow (by simp; omega) (fun jj ej => by have := (HR6.out.lt jj ej).1; omega), by have := hgrow.size; simp at this; omega⟩
              case measure => simp [intOf]; omega
      · go_wp2
        have ho2 : BlkOnly W.heap.size (wr.alloc (.cells #[.int .i64 xd, .int .i64 xa, .int .i64 xb] 35)) (wr.alloc (.cells #[.int .i64 xd, .int .i64 xa, .int .i64 xb] 35)) := BlkOnly.refl _ _
        have HA2 := Lib.hid (HA.out.call (HBL.out (.cells #[.int .i64 xd, .int .i64 xa, .int .i64 xb] 35)))
        go_roundw
        case rel => first | exact ⟨k + 1, _, _, _, gv, q, cp, by omega, by go_num, rfl, Lib.hid (row_other (HR.out.alloc _) ho2 (by omega)), HA2, t0, t8, HN, HS, by omega, (bal hB _).trans (ho2.below (Nat.le_refl _) (by simp; omega)), ho2.lt (by simp; omega)⟩ | ((repeat apply Exists.intro); exact ⟨⟨k + 1, _, _, _, gv, q, cp, by omega, by go_num, rfl, Lib.hid (row_other (HR.out.alloc _) ho2 (by omega)), HA2, t0, t8, HN, HS, by omega, (bal hB _).trans (ho2.below (Nat.le_refl _) (by simp; omega)), ho2.lt (by simp; omega)⟩, rfl⟩)
        case measure => simp [intOf]; omega
    · obtain rfl : k = n := by omega
      go_wp2_with (first
        | (go_at_call 8; refine (awake19 _).mono ?_; rintro e w8 ⟨rfl, hb8⟩))
      go_ret
      exact ⟨rfl, bgo hB hb8⟩
end Go.Proofs.Ytmjpelcmaobemaa
