/- The law EndsScript. -/
import Derived.Test.YtmbjaemflmbljaaEr8
import Derived.Deep.RegionHeld3
import Derived.Deep.CutRange
import Derived.Deep.CutBlock
namespace Go.Proofs.Ytmbjaemflmbljaa
set_option linter.unusedVariables false
set_option linter.unusedSimpArgs false
open Go.ChangeShapes Go.WideShapes Go.ChangeAt Go.RowKit Go.Shelf
open TabE

theorem grown_cell (w : World) (g i : Nat) (u : Value) : w.grownBy (w.setCell ⟨g, i, none⟩ u) (some g) :=
  ⟨rfl, rfl, rfl, by simp, fun k hk hne => Go.heap_setCell_other _ _ _ _ (fun e => hne (by rw [e]))⟩
theorem grb {w w' : World} {n : Nat} {o : Option Nat} (h : w.grownBy w' o) (ho : ∀ k, o = some k → n ≤ k) (hn : n ≤ w.heap.size) : Below n w w' :=
  ⟨h.os, h.tape, h.output, h.size, fun k hk => h.block k (Nat.lt_of_lt_of_le hk hn) (fun e => by have := ho k e.symm; omega)⟩
set_option maxHeartbeats 1000000 in
theorem over_own (w : World) (B : Nat) (v : Value) (n : Nat) (xs : List Value) (hr : w.ownsRow B 3 1 v n xs) (hn : n ≤ 200) :
    Calls Try.prog 15 #[v] w fun e w' => (∃ u, e = .returned u) ∧ w.grownBy w' v.ownBlock := by
  obtain ⟨i0, hi, hz0, hz1, hz2⟩ := info_parts infoI
  have HI := Lib.hid hi
  clear hi
  obtain ⟨hl, ⟨rfl, rfl⟩ | ⟨g, cap, cur, rfl, hg, hb, hnc, hm, hcur, h4⟩⟩ := hr
  · go_enter Try.func15, Try.ntmps15
    go_wp2
    refine wp_loop_rounds 1 ?_
    rw [rounds_succ]
    go_wp2_with (at_builtin; refine wpList_append_own _ rfl _ _ 36 rfl w.heap.size 3 i0 (.int .i64 0) 1 8 Try.underlying36 HI.out hz0 hz1 hz2 rfl (by decide) _ _ _ rfl ((World.ownsRow_nil w w.heap.size 3 1).alloc _) ⟨w.heap.size, 0, none⟩ 1 1 [.int .i64 (-999)] rfl rfl (Go.cell_one_new _ _ _) (by simp [Value.oneCell']) (by unfold maxLen; omega) (by omega) (by simp) ?_; intro v' w1 hown' hgrow _)
    go_end0
    exact ⟨⟨_, rfl⟩, grown_trans (World.grownBy_alloc w _ _) hgrow⟩
  · have hcur' : cur.size = cap := by omega
    have hn' : (n : Int) ≤ 200 := by omega
    unfold maxLen at hm
    clear hcur
    show Calls _ _ _ _ (fun e w' => (∃ u, e = .returned u) ∧ w.grownBy w' (some g))
    go_enter Try.func15, Try.ntmps15
    go_wp2
    go_loopw [2] (fun i wr => ∃ (k : Nat) (cs : Array Value), k ≤ n ∧ i = .int .i64 k ∧ wr.heap[g]? = some (.cells cs 3 (0, 0)) ∧ cs.size = cap ∧ w.grownBy wr (some g)) (fun i _ => n - (intOf i).toNat)
    case atStart => exact ⟨0, cur, by omega, rfl, hb, hcur', ⟨rfl, rfl, rfl, Nat.le_refl _, fun _ _ _ => rfl⟩⟩
    case round =>
      obtain ⟨k, cs, hk, rfl, hB2, hcs, hgr⟩ := hrel
      clear hb
      by_cases hlt : k < n
      · have hlt' : (k : Int) < n := by omega
        have ck : wr.cell? ⟨g, k, none⟩ = some (cs[k]'(by omega)) := by
          rw [cell_of_row _ g k _ _ _ hB2]; exact Array.getElem?_eq_getElem (by omega)
        have fk : wr.frozen? ⟨g, k, none⟩ = false := by simp [World.frozen?, hB2]
        have HB := Lib.hid hB2; clear hB2
        generalize cs[k]'(by omega) = x at ck
        go_wp2
        go_roundw
        case rel => exact ⟨k + 1, _, by omega, by go_num, Go.heap_setCell_same _ _ _ _ _ _ HB.out, by simp [hcs], grown_trans hgr (grown_cell _ _ _ _)⟩
        case measure => simp [intOf]; omega
      · obtain rfl : k = n := by omega
        have hown : wr.ownsRow 0 3 1 (.slice (some ⟨g, 0, none⟩) k cap) k (cs.toList.take k) := ⟨by simp; omega, .inr ⟨g, cap, cs, rfl, Nat.zero_le _, hB2, by omega, by unfold maxLen; omega, by omega, by simp⟩⟩
        go_wp2_with (at_builtin; refine wpList_append_own _ rfl _ _ 36 rfl 0 3 i0 (.int .i64 0) 1 8 Try.underlying36 HI.out hz0 hz1 hz2 rfl (by decide) _ _ _ rfl (hown.alloc _) ⟨wr.heap.size, 0, none⟩ 1 1 [.int .i64 (-999)] rfl rfl (Go.cell_one_new _ _ _) (by simp [Value.oneCell']) (by unfold maxLen; omega) (by omega) (by omega) ?_; intro v' w1 hown' hgrow _)
        go_end0
        exact ⟨⟨_, rfl⟩, grown_trans (grown_trans hgr (World.grownBy_alloc wr _ _)) hgrow⟩
theorem list_len {A : List EA} {n : Nat} (h : OnceA A n) (id : Int) : (listA A id).1.length ≤ n := by
  unfold listA
  cases hg : getA A id with
  | none => simp
  | some x =>
    simp only
    split
    · simp
    · refine Nat.le_trans ?_ h.who
      have hm := (getA_mem hg).1
      clear hg h
      induction A with
      | nil => cases hm
      | cons z M ih =>
        have e : (whoA (z :: M)).length = z.2.1.length + (whoA M).length := by simp [whoA]
        rcases List.mem_cons.1 hm with rfl | hm
        · omega
        · have := ih hm; omega
theorem num_any (x : Int) (w : World) : Calls Try.prog 9 #[.int .i64 x] w fun e w' => e = .returned (.int .i64 x) ∧ w = w' := by
  go_enter Try.func9, Try.ntmps9
  go_wp2
  go_ret
  exact ⟨rfl, rfl⟩
/-- A boxed act. -/
def XC (w : World) (k : Nat) (d a t : Int) (s : Bool) : Prop := w.cell? ⟨k, 0, none⟩ = some (.int .i64 d) ∧ w.cell? ⟨k, 1, none⟩ = some (.int .i64 a) ∧ w.cell? ⟨k, 2, none⟩ = some (.int .i64 t) ∧ w.cell? ⟨k, 3, none⟩ = some (.bool s)
theorem XC.of_block {w w' : World} {k : Nat} {d a t : Int} {s : Bool} (h : XC w k d a t s) (e : w'.heap[k]? = w.heap[k]?) : XC w' k d a t s :=
  ⟨(World.cell?_of_block (a := ⟨k, 0, none⟩) e).trans h.1, (World.cell?_of_block (a := ⟨k, 1, none⟩) e).trans h.2.1, (World.cell?_of_block (a := ⟨k, 2, none⟩) e).trans h.2.2.1, (World.cell?_of_block (a := ⟨k, 3, none⟩) e).trans h.2.2.2⟩
theorem xc_new (w : World) (d a t : Int) (s : Bool) (T : TypeId) : XC (w.alloc (.cells #[.int .i64 d, .int .i64 a, .int .i64 t, .bool s] T)) w.heap.size d a t s := by
  refine ⟨?_, ?_, ?_, ?_⟩
  all_goals simp [go_sem]
theorem pair_start (W w1 : World) (h : StE W w1 W.heap.size 0 []) : Pair W (w1.alloc (.cells #[.slice none 0 0] 29)) W.heap.size w1.heap.size 0 [] [] (fun _ => False) := by
  have hb : Below w1.heap.size w1 (w1.alloc (.cells #[.slice none 0 0] 29)) := bal (Below.refl _ _) _
  have hs := (h.beside hb).sub (S' := fun k => k = w1.heap.size) (fun k e => by subst e; simp)
  refine ⟨w1.heap.size + 1, .slice none 0 0, [], hs.sub (fun k hk => ?_), ⟨heap_alloc_new w1 _, World.ownsRow_nil _ _ _ _, Nat.lt_succ_self _, by simp, (fun x hx => by cases hx), (fun x hx => by cases hx)⟩, rfl, fun k hk => hk.elim, h.bel.size, ⟨by simp, by simp [whoA], by simp, by simp [whoA]⟩⟩
  rcases hk with (rfl | e | ⟨x, hx, _⟩) | hk
  · rfl
  · simp [Value.ownBlock] at e
  · cases hx
  · exact hk.elim
set_option maxRecDepth 100000 in
set_option maxHeartbeats 4000000 in
theorem script_any (q : Option Addr) (n c : Nat) (D : Nat → ActE) (W : World) (hn : n ≤ 120) (hD : ActsAt W q n D) :
    Calls Try.prog 3 #[.slice q n c] W fun e w' => e = .returned (.bool true) ∧ Below W.heap.size W w' := by
  have hn' : ¬ (n : Int) > 120 := by omega
  have HD := Lib.hid hD
  clear hD
  go_enter Try.func3, Try.ntmps3
  go_wp2_with (go_at_call 8; refine (new_S W _ (Below.refl _ _)).mono ?_; rintro e w1 ⟨rfl, h1, -⟩; have H1 := Lib.hid (pair_start W w1 h1); clear h1)
  obtain ⟨b, hb⟩ : ∃ b, b = W.heap.size := ⟨_, rfl⟩
  obtain ⟨rb, hrb⟩ : ∃ b, b = w1.heap.size := ⟨_, rfl⟩
  obtain ⟨w0, hw0⟩ : ∃ z, z = w1.alloc (.cells #[.slice none 0 0] 29) := ⟨_, rfl⟩
  rw [← hb, ← hrb, ← hw0] at H1
  rw [← hw0, ← hb, ← hrb]
  have HB := Lib.hid hb
  clear hb hrb hw0
  go_loopw [5, 6, 7, 8, 9, 10, 11, 12, 13, 14, 15, 16, 17, 18, 19, 20, 21] (fun i _ _ _ _ _ _ _ _ _ _ _ _ _ _ _ _ wr => ∃ (t : Nat) (A : List EA), t ≤ n ∧ i = .int .i64 t ∧ Hid (Pair W wr b rb t A A (fun _ => False))) (fun i _ _ _ _ _ _ _ _ _ _ _ _ _ _ _ _ _ => n - (intOf i).toNat)
  case atStart => exact ⟨0, [], Nat.zero_le _, rfl, H1⟩
  clear H1
  case round =>
    obtain ⟨t, A, ht, rfl, HO⟩ := hrel
    by_cases hlt : t < n
    · have hltI : (t : Int) < n := by omega
      obtain ⟨aB, aO, hq, hcs⟩ := HD.out
      obtain ⟨rfl, hal⟩ := hq (by omega)
      obtain ⟨⟨d0, d1, d2, d3⟩, hok⟩ := hcs t hlt
      have hbl := HO.out.bel
      have c0 := (hbl.cell (p := ⟨aB, aO + t * 4, none⟩) hal).trans d0
      have c1 := (hbl.cell (p := ⟨aB, aO + t * 4 + 1, none⟩) hal).trans d1
      have c2 := (hbl.cell (p := ⟨aB, aO + t * 4 + 2, none⟩) hal).trans d2
      have c3 := (hbl.cell (p := ⟨aB, aO + t * 4 + 3, none⟩) hal).trans d3
      clear hq hcs hbl d0 d1 d2 d3
      obtain ⟨⟨xd, xa, xt, xs⟩, hx⟩ : ∃ x, x = D t := ⟨_, rfl⟩
      rw [← hx] at c0 c1 c2 c3
      simp only [] at c0 c1 c2 c3
      clear hx hok
      have hn3 : t < 1000000 := by omega
      go_upto_block 2 with fail
      obtain ⟨w3, hw3⟩ : ∃ x, x = wr.alloc (.cells #[.int .i64 xd, .int .i64 xa, .int .i64 xt, .bool xs] 31) := ⟨_, rfl⟩
      rw [← hw3]
      have HX3 : Hid (XC w3 wr.heap.size xd xa xt xs) := Lib.hid (by rw [hw3]; exact xc_new _ _ _ _ _ _)
      have HP3 : Hid (Pair W w3 b rb t A A (fun k => k = wr.heap.size)) := Lib.hid ((HO.out.more (w' := w3) (by rw [hw3]; exact bal (Below.refl _ _) _)).sub (fun k hk => by subst hk; exact .inr ⟨Nat.le_refl _, by rw [hw3]; simp⟩))
      have HON := Lib.hid HO.out.once
      have hxB : wr.heap.size < w3.heap.size := by rw [hw3]; simp
      have HXB := Lib.hid hxB
      clear hw3 c0 c1 c2 c3 HO hxB
      generalize wr.heap.size = xB at *
      go_cut [7, 8, 9, 10, 11] from 31 to 172 (fun s7 _ _ _ _ wx => s7 = .bool true ∧ ∃ A' : List EA, Hid (Pair W wx b rb (t + 1) A' A' (fun k => k = xB)) ∧ Hid (XC wx xB xd xa xt xs))
      case first =>
        by_cases h0 : xd = 0
        · subst h0
          obtain ⟨z0, z1, z2, z3⟩ := HX3.out
          go_wp2
          clear z0 z1 z2 z3
          have HPd := Lib.hid (HP3.out.call (Below.refl _ _).drew)
          have HX := Lib.hid (show XC w3.drew xB 0 xa xt xs from HX3.out)
          go_region_held3 (fun w' => w'.cell? ⟨xB, 0, none⟩ = some (.int .i64 0) ∧ w'.cell? ⟨xB, 1, none⟩ = some (.int .i64 xa) ∧ w'.cell? ⟨xB, 2, none⟩ = some (.int .i64 xt) ∧ w'.cell? ⟨xB, 3, none⟩ = some (.bool xs))
            (exact HX.out)
            (first
              | (go_at_call 9; (with_reducible refine (num_any _ _).mono ?_); rintro e w5 ⟨rfl, rfl⟩)
              | (go_at_call 11; (with_reducible refine (HP4.out.addRf HON.out hn3 xa).mono ?_); rintro e w5 ⟨rfl, hp5, hk5⟩; have HP5 := Lib.hid hp5; have HX : Hid (XC _ xB 0 xa xt xs) := Lib.hid (HX.out.of_block (hk5 xB rfl)); clear hp5 hk5)
              | (go_at_call 10; (with_reducible refine (HPd.out.addA hn3 xa).mono ?_); rintro e w4 ⟨rfl, hp4, hk4⟩; have HP4 := Lib.hid hp4; have HX : Hid (XC _ xB 0 xa xt xs) := Lib.hid (HX.out.of_block (hk4 xB rfl)); clear hp4 hk4))
          all_goals
            go_wp2
            go_meet
            case rel => exact ⟨by first | rfl | simp, _, HP5, HX⟩
        · by_cases h1 : xd = 1
          · subst h1
            obtain ⟨z0, z1, z2, z3⟩ := HX3.out
            have HL := Lib.hid (list_len HON.out xa)
            have hxa : ∀ {w' : World}, Hid (XC w' xB 1 xa xt xs) → w'.cell? ⟨xB, 1, none⟩ = some (.int .i64 xa) := fun h => h.out.2.1
            go_upto_region 16 with (go_at_call 12; (with_reducible refine (HP3.out.dropA hn3 xa).mono ?_); rintro e w4 ⟨r4, rfl, hr4, hp4, hk4, hs4⟩; obtain ⟨a4, c4, rfl⟩ := own_len hr4; have HR4 := Lib.hid hr4; have HRO := Lib.hid hr4; have HP4 := Lib.hid hp4; have HX4 := Lib.hid (HX3.out.of_block (hk4 xB rfl)); clear hr4 hp4 hk4 hs4)
            clear z0 z1 z2 z3
            have z1 := hxa HX4
            go_upto_region 17 with (go_at_call 13; (with_reducible refine (HP4.out.dropR' hn3 xa).mono ?_); rintro e w5 ⟨r5, B5, rfl, hr5, hp5, hk5⟩; obtain ⟨a5, c5, rfl⟩ := own_len hr5; have HR5 := Lib.hid hr5; have HP5 := Lib.hid hp5; have HR4 := Lib.hid (row_of_block HR4.out (fun k e => hk5 k (.inr e))); have HX5 := Lib.hid (HX4.out.of_block (hk5 xB (.inl rfl))); clear hr5 hp5 hk5)
            clear z1
            go_upto_region 18 with (first
              | (go_at_call 9; (with_reducible refine (num_any _ _).mono ?_); rintro e w7 ⟨rfl, rfl⟩)
              | (go_at_call 14; (with_reducible refine (same_own _ _ _ _ _ (listA A xa).1 (by have := HL.out; omega) HR4.out HR5.out).mono ?_); rintro e w6 ⟨rfl, hb6⟩; have HB6 := Lib.hid hb6; clear hb6))
            have HP6 := Lib.hid (HP5.out.call HB6.out)
            have HR6 := Lib.hid (row_of_block HR4.out (w' := w6) (fun k e => HB6.out.block k (HR4.out.lt k e).2))
            have HX6 : Hid (XC w6 xB 1 xa xt xs) := Lib.hid (HX5.out.of_block (HB6.out.block xB (HP5.out.xlt (.inl rfl))))
            go_wp2_with (go_at_call 15; (with_reducible refine (over_own _ _ _ _ _ HR6.out (by have := HL.out; omega)).mono ?_); rintro e w7 ⟨⟨u7, rfl⟩, hg7⟩; have HG7 := Lib.hid hg7; clear hg7)
            have hov := HP6.out.over HG7.out (fun k e => Nat.le_trans HP3.out.bel.size (HRO.out.lt k e).1) (fun k hk e => by have h1 := (HRO.out.lt k e).1; have h2 : k = xB := hk; have h3 := HXB.out; omega)
            go_meet
            case rel => exact ⟨by first | rfl | simp, _, Lib.hid (hov.1.tight (Nat.le_succ t)), Lib.hid (HX6.out.of_block (hov.2 xB rfl))⟩
          · by_cases h2 : xd = 2
            · subst h2
              obtain ⟨z0, z1, z2, z3⟩ := HX3.out
              go_wp2
              clear z0 z1 z2 z3
              have HPd := Lib.hid (HP3.out.call (Below.refl _ _).drew)
              have HX := Lib.hid (show XC w3.drew xB 2 xa xt xs from HX3.out)
              go_region_held3 (fun w' => w'.cell? ⟨xB, 0, none⟩ = some (.int .i64 2) ∧ w'.cell? ⟨xB, 1, none⟩ = some (.int .i64 xa) ∧ w'.cell? ⟨xB, 2, none⟩ = some (.int .i64 xt) ∧ w'.cell? ⟨xB, 3, none⟩ = some (.bool xs))
                (exact HX.out)
                (first
                  | (go_at_call 9; (with_reducible refine (num_any _ _).mono ?_); rintro e w5 ⟨rfl, rfl⟩)
                  | (go_at_call 17; (with_reducible refine (HP4.out.waitRf HON.out hn3 xa xt xs).mono ?_); rintro e w5 ⟨rfl, hp5, hk5⟩; have HP5 := Lib.hid hp5; have HX : Hid (XC _ xB 2 xa xt xs) := Lib.hid (HX.out.of_block (hk5 xB rfl)); clear hp5 hk5)
                  | (go_at_call 16; (with_reducible refine (HPd.out.waitA hn3 xa xt xs).mono ?_); rintro e w4 ⟨rfl, hp4, hk4⟩; have HP4 := Lib.hid hp4; have HX : Hid (XC _ xB 2 xa xt xs) := Lib.hid (HX.out.of_block (hk4 xB rfl)); clear hp4 hk4))
              all_goals
                go_wp2
                go_meet
                case rel => exact ⟨by first | rfl | simp, _, HP5, HX⟩
            · by_cases h3 : xd = 3
              · subst h3
                obtain ⟨z0, z1, z2, z3⟩ := HX3.out
                go_wp2
                clear z0 z1 z2 z3
                have HPd := Lib.hid (HP3.out.call (Below.refl _ _).drew)
                have HX := Lib.hid (show XC w3.drew xB 3 xa xt xs from HX3.out)
                go_region_held3 (fun w' => w'.cell? ⟨xB, 0, none⟩ = some (.int .i64 3) ∧ w'.cell? ⟨xB, 1, none⟩ = some (.int .i64 xa) ∧ w'.cell? ⟨xB, 2, none⟩ = some (.int .i64 xt) ∧ w'.cell? ⟨xB, 3, none⟩ = some (.bool xs))
                  (exact HX.out)
                  (first
                    | (go_at_call 9; (with_reducible refine (num_any _ _).mono ?_); rintro e w5 ⟨rfl, rfl⟩)
                    | (go_at_call 19; (with_reducible refine (HP4.out.removeR hn3 xt).mono ?_); rintro e w5 ⟨rfl, hp5, hk5⟩; have HP5 := Lib.hid hp5; have HX : Hid (XC _ xB 3 xa xt xs) := Lib.hid (HX.out.of_block (hk5 xB rfl)); clear hp5 hk5)
                    | (go_at_call 18; (with_reducible refine (HPd.out.removeA hn3 xt).mono ?_); rintro e w4 ⟨rfl, hp4, hk4⟩; have HP4 := Lib.hid hp4; have HX : Hid (XC _ xB 3 xa xt xs) := Lib.hid (HX.out.of_block (hk4 xB rfl)); clear hp4 hk4))
                all_goals
                  go_wp2
                  go_meet
                  case rel => exact ⟨by first | rfl | simp, _, Lib.hid (HP5.out.tight (Nat.le_succ t)), HX⟩
              · obtain ⟨z0, z1, z2, z3⟩ := HX3.out
                go_wp2
                go_meet
                case rel => exact ⟨by first | rfl | simp, _, Lib.hid (HP3.out.tight (Nat.le_succ t)), HX3⟩
      case rest =>
        obtain ⟨rfl, A2, HP, HX⟩ := hcut
        clear HP3 HX3 HON HXB
        have HL : Hid ((listA A2 xa).1.length ≤ 200) := Lib.hid (by have := list_len HP.out.once xa; omega)
        have hn4 : t + 1 < 1000000 := by omega
        obtain ⟨⟨f1, f2, f3⟩, hf⟩ : ∃ z, firstA A2 xa = z := ⟨_, rfl⟩
        obtain ⟨⟨l, s⟩, hl⟩ : ∃ z, listA A2 xa = z := ⟨_, rfl⟩
        have HF := Lib.hid hf
        have HLI := Lib.hid hl
        rw [hl] at HL
        simp only at HL
        clear hf hl
        have xc : ∀ {w' : World}, Hid (XC w' xB xd xa xt xs) → w'.cell? ⟨xB, 1, none⟩ = some (.int .i64 xa) := fun h => h.out.2.1
        have z1 := xc HX
        have hxl := HP.out.xlt (k := xB) rfl
        go_upto_region 24 with (go_at_call 20; (with_reducible refine (HP.out.firstA' hn4 xa).mono ?_); rw [HF.out]; rintro e w4 ⟨rfl, hb4⟩; have HP4 := Lib.hid (HP.out.call hb4); have HX4 := Lib.hid (HX.out.of_block (hb4.block xB hxl)); clear hb4)
        clear z1 hxl
        have z1 := xc HX4
        have hxl := HP4.out.xlt (k := xB) rfl
        go_upto_region 25 with (go_at_call 21; (with_reducible refine (HP4.out.firstR hn4 xa).mono ?_); rw [HF.out]; rintro e w5 ⟨rfl, hb5⟩; have HP5 := Lib.hid (HP4.out.call hb5); have HX5 := Lib.hid (HX4.out.of_block (hb5.block xB hxl)); clear hb5)
        clear z1 hxl
        have z1 := xc HX5
        have hxl := HP5.out.xlt (k := xB) rfl
        go_upto_region 26 with (go_at_call 22; (with_reducible refine (HP5.out.listA' hn4 xa).mono ?_); rw [HLI.out]; rintro e w6 ⟨r6, rfl, hr6, hb6⟩; obtain ⟨a6, c6, rfl⟩ := own_len hr6; have HR6 := Lib.hid hr6; have HB6 := Lib.hid hb6; have HP6 := Lib.hid (HP5.out.call hb6); have HX6 := Lib.hid (HX5.out.of_block (hb6.block xB hxl)); clear hb6 hr6)
        clear z1 hxl
        have z1 := xc HX6
        go_upto_region 27 with (go_at_call 23; (with_reducible refine (HP6.out.listR hn4 xa).mono ?_); rw [HLI.out]; rintro e w7 ⟨r7, B7, rfl, hr7, hb7⟩; obtain ⟨a7, c7, rfl⟩ := own_len hr7; have HR7 := Lib.hid hr7; have HR67 := Lib.hid (row_of_block HR6.out (w' := w7) (fun k e => hb7.block k (HR6.out.lt k e).2)); have HB7 := Lib.hid (HB6.out.trans (hb7.mono HB6.out.size)); clear hb7 hr7)
        clear z1
        cases f2
        all_goals
         cases f3
         all_goals
          cases s
          all_goals
           go_wp2_with (first
            | (go_at_call 14; (with_reducible refine (same_own _ _ _ _ _ l (by have := HL.out; omega) HR67.out HR7.out).mono ?_); rintro e w8 ⟨rfl, hb8⟩; have HR8 := Lib.hid (row_of_block HR67.out (w' := w8) (fun k e => hb8.block k (HR67.out.lt k e).2)); have HB8 := Lib.hid (HB7.out.trans (hb8.mono HB7.out.size)); clear hb8)
            | (go_at_call 15; (with_reducible refine (over_own _ _ _ _ _ HR8.out HL.out).mono ?_); rintro e w9 ⟨⟨u9, rfl⟩, hg9⟩; have HB9 := Lib.hid (HB8.out.trans (grb hg9 (fun k e => (HR8.out.lt k e).1) HB8.out.size)); clear hg9))
           go_roundw
           case rel => first | exact ⟨t + 1, A2, by omega, by go_num, Lib.hid ((HP5.out.call HB9.out).sub (fun k hk => hk.elim))⟩ | ((repeat apply Exists.intro); exact ⟨⟨t + 1, A2, by omega, by go_num, Lib.hid ((HP5.out.call HB9.out).sub (fun k hk => hk.elim))⟩, rfl⟩)
           case measure => simp [intOf]; omega
    · obtain rfl : t = n := by omega
      go_wp2_with (go_at_call 7; refine (awake22 _).mono ?_; rintro e w3 ⟨rfl, hb3⟩)
      go_ret
      exact ⟨rfl, HO.out.bel.trans (hb3.mono HO.out.bel.size)⟩
set_option maxRecDepth 100000 in
theorem walk_endsScript {W : World} (q : Option Addr) (n c : Nat) (hx : n ≤ c ∧ c ≤ maxLen ∧ ∃ D, ActsAt W q n D) :
    Calls Try.prog 3 #[.slice q n c] W fun e w' => e = .returned (.bool true) ∧ Below W.heap.size W w' := by
  obtain ⟨h1, h2, D, hD⟩ := hx
  unfold maxLen at h2
  by_cases hn : n ≤ 120
  · exact script_any q n c D W hn hD
  · have hn' : (n : Int) > 120 := by omega
    clear hD
    go_enter Try.func3, Try.ntmps3
    go_wp2_with (go_at_call 7; refine (awake22 _).mono ?_; rintro e w3 ⟨rfl, hb3⟩)
    go_ret
    exact ⟨rfl, hb3⟩
end Go.Proofs.Ytmbjaemflmbljaa
