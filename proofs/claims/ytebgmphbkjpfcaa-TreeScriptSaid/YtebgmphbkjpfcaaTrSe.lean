/- chapter 17's own answer: Remove. -/
import Derived.Test.YtebgmphbkjpfcaaTrSd
import Derived.Test.YtebgmphbkjpfcaaTrRa
namespace Go.Proofs.Ytebgmphbkjpfcaa
set_option linter.unusedVariables false
set_option linter.unusedSimpArgs false
open Go.ChangeShapes Go.WideShapes Go.ChangeAt Go.RowKit Go.Shelf

/-- Of what was there only block rb is turned. -/
structure OnlyR (rb : Nat) (w w' : World) : Prop where
  os : w'.os = w.os
  tape : w'.tape = w.tape
  output : w'.output = w.output
  size : w.heap.size ≤ w'.heap.size
  block : ∀ k, k < w.heap.size → k ≠ rb → w'.heap[k]? = w.heap[k]?
theorem OnlyR.of_below {rb : Nat} {w w' : World} (h : Below w.heap.size w w') : OnlyR rb w w' := ⟨h.os, h.tape, h.output, h.size, fun k hk _ => h.block k hk⟩
theorem OnlyR.trans {rb : Nat} {a b c : World} (h : OnlyR rb a b) (k : OnlyR rb b c) : OnlyR rb a c :=
  ⟨k.os.trans h.os, k.tape.trans h.tape, k.output.trans h.output, Nat.le_trans h.size k.size, fun j h1 h2 => (k.block j (Nat.lt_of_lt_of_le h1 h.size) h2).trans (h.block j h1 h2)⟩
/-- A new list is stored. -/
theorem RefT.store {w W : World} {rb : Nat} {v u : Value} {l l' : List Nod} (h : RefT w rb v l) (hb : Below w.heap.size w W) (hrow : W.ownsRow w.heap.size 49 3 u l'.length (nodsC l')) (hl : l'.length ≤ 1000) (hd : ∀ x ∈ l', -1000 ≤ x.d ∧ x.d ≤ 1000) :
    RefT (W.setCell ⟨rb, 0, none⟩ u) rb u l' ∧ OnlyR rb w (W.setCell ⟨rb, 0, none⟩ u) := by
  have hrl := (Array.getElem?_eq_some_iff.1 h.blk).1
  have hgr : ∀ g, u.ownBlock = some g → g ≠ rb := fun g hg e => by have := (hrow.lt g hg).1; omega
  refine ⟨⟨Go.heap_setCell_same _ _ _ _ _ _ ((hb.block _ hrl).trans h.blk), ?_, fun e => hgr rb e rfl, hl, hd⟩, hb.os, hb.tape, hb.output, by simp; exact hb.size, fun k hk hn => (Go.heap_setCell_other _ _ _ _ hn).trans (hb.block k hk)⟩
  exact own_block (own_base hrow (Nat.zero_le _)) (fun g hg => Go.heap_setCell_other _ _ _ _ (hgr g hg))
/-- What Remove has gathered of the first i. -/
def remP (l : List Nod) (k i : Nat) : List Nod := ((low l k (belowN l k)).take i).eraseIdx k
theorem low_take_len (l : List Nod) (k c i : Nat) (h : i ≤ l.length) : ((low l k c).take i).length = i := by rw [List.length_take, low_len]; omega
theorem remP_skip {l : List Nod} {k : Nat} (h : k < l.length) : remP l k (k + 1) = remP l k k := by
  unfold remP
  apply List.ext_getElem?
  intro j
  have h1 := low_take_len l k (belowN l k) k (by omega)
  have h2 := low_take_len l k (belowN l k) (k + 1) (by omega)
  rw [del_back, del_back, List.getElem?_take, List.getElem?_take]
  unfold back
  by_cases hh : j < k
  · simp [hh, show j < k + 1 by omega]
  · simp [hh]; omega
theorem remP_step {l : List Nod} {k i : Nat} {z : Nod} (hk : k < l.length) (hne : i ≠ k) (hz : (low l k (belowN l k))[i]? = some z) : remP l k (i + 1) = remP l k i ++ [z] := by
  have hi := (List.getElem?_eq_some_iff.1 hz).1
  rw [low_len] at hi
  unfold remP
  rw [take_at hz]
  have hl := low_take_len l k (belowN l k) i (by omega)
  rcases Nat.lt_or_ge k i with h | h
  · rw [List.eraseIdx_append_of_lt_length (by omega)]
  · rw [List.eraseIdx_of_length_le (by simp; omega), List.eraseIdx_of_length_le (by omega)]
theorem remP_all {l : List Nod} {k : Nat} : remP l k l.length = rem l k := by
  unfold remP rem
  rw [List.take_of_length_le (by rw [low_len]; exact Nat.le_refl _)]
theorem remP_len {l : List Nod} {k i : Nat} (hi : i ≤ l.length) : (remP l k i).length ≤ i := by
  unfold remP
  exact Nat.le_trans (List.length_eraseIdx_le _ _) (by rw [low_take_len l k _ i hi]; exact Nat.le_refl _)
theorem news_at2 (w4 : World) (o : Obj) (cs : List Value) (t : TypeId) : ∀ j u, cs[j]? = some u → ((w4.alloc o).alloc (.cells cs.toArray t)).cell? ((⟨w4.heap.size + 1, 0, none⟩ : Addr).add j) = some u := by
  have := news_at (w4.alloc o) _ cs t rfl
  rwa [World.size_alloc] at this
theorem nodsC_snoc (l : List Nod) (x : Nod) : nodsC (l ++ [x]) = nodsC l ++ nodC x := by simp [nodsC]
theorem rem_bound {l : List Nod} {k : Nat} (h : ∀ x ∈ l, -1000 ≤ x.d ∧ x.d ≤ 1000) (hP : Dep l) : ∀ x ∈ rem l k, -1000 ≤ x.d ∧ x.d ≤ 1000 := by
  intro x hx
  obtain ⟨j, hj⟩ := List.getElem?_of_mem hx
  rw [rem_get, low_get] at hj
  obtain ⟨y, hy, e⟩ := Option.map_eq_some_iff.1 hj
  have h1 := h y (List.mem_of_getElem? hy)
  have h2 := hP.pos _ _ hy
  rw [← e]
  split
  · show -1000 ≤ y.d - 1 ∧ y.d - 1 ≤ 1000
    omega
  · exact h1
set_option maxRecDepth 100000 in
set_option maxHeartbeats 1000000 in
theorem rremove_any (w : World) (rb : Nat) (v : Value) (l : List Nod) (o i : Int) (h : RefT w rb v l) (hP : Dep l) :
    Calls Try.prog 36 #[.pointer (some ⟨rb, 0, none⟩), slV o i] w fun e w' => e = .returned (.int .i64 (removeA l o i).2) ∧ (∃ u, RefT w' rb u (removeA l o i).1) ∧ OnlyR rb w w' := by
  have hal : Below w.heap.size w (w.alloc (slO o i)) := bal (Below.refl _ _) _
  have HA := Lib.hid hal
  have HR := Lib.hid h
  unfold removeA
  cases hk : idx l o i with
  | none =>
    have hat : atI l o i = -1 := by unfold atI; rw [hk]
    have HAT := Lib.hid hat
    clear h hal hk hat
    go_enter Try.func36, Try.ntmps36
    go_wp2_with (go_at_call 18; with_reducible refine (rat_any _ rb v l o i (HR.out.call HA.out)).mono ?_; rw [HAT.out]; rintro e w1 ⟨rfl, hb1⟩)
    go_ret
    have hb := HA.out.trans (hb1.mono HA.out.size)
    exact ⟨rfl, ⟨_, HR.out.call hb⟩, .of_below hb⟩
  | some k =>
    obtain ⟨x, hx, hxs⟩ := idx_some hk
    have hkl := (List.getElem?_eq_some_iff.1 hx).1
    have hat : atI l o i = (k : Int) := by unfold atI; rw [hk]
    have HAT := Lib.hid hat
    have hle := h.le
    have HBD := Lib.hid h.dep
    obtain ⟨i0, hi0, hz0, hz1, hz2⟩ := info_parts infoNd
    have HI0 := Lib.hid hi0
    obtain ⟨g, c, rfl, hg, hgr, hc⟩ := h.getg (by omega)
    have HC := Lib.hid hc
    have HX := Lib.hid hx
    have HG := Lib.hid hg
    have hble := belowN_le hkl
    clear h hal hk hat hx hc hg hi0
    generalize hL : l.length = L at *
    have HL := Lib.hid hL
    clear hL
    have hkx : ¬ (k : Int) < 0 := by omega
    obtain ⟨E, hE⟩ : ∃ E, k + 1 + belowN l k = E := ⟨_, rfl⟩
    have HE := Lib.hid hE
    clear hE
    go_enter Try.func36, Try.ntmps36
    go_wp2_with (first
      | (go_at_call 18; with_reducible refine (rat_any _ rb _ l o i (HR.out.call HA.out)).mono ?_; rw [HAT.out]; rintro e w1 ⟨rfl, hb1⟩; have HB1 := Lib.hid (HA.out.trans (hb1.mono HA.out.size)); clear hb1)
      | (go_at_call 40; with_reducible refine (rend_any _ rb _ l k x (HR.out.call HB1.out) HX.out).mono ?_; rw [HE.out]; rintro e w2 ⟨rfl, hb2⟩; have HB2 := Lib.hid (HB1.out.trans (hb2.mono HB1.out.size)); clear hb2))
    go_loopw [7, 8] (fun u t wr => ∃ (j : Nat), j ≤ L ∧ t = .int .i64 (j : Int) ∧ Hid (wr.ownsRow w.heap.size 49 3 u (remP l k j).length (nodsC (remP l k j)) ∧ Below w.heap.size w wr)) (fun _ t _ => L - (intOf t).toNat)
    case atStart => exact ⟨0, by omega, by first | rfl | go_num, Lib.hid ⟨by simp [remP, nodsC]; exact World.ownsRow_nil _ _ _ _, HB2.out⟩⟩
    case round =>
      obtain ⟨j, hj, rfl, HST⟩ := hrel
      have hblk := (HR.out.call HST.out.2).blk
      obtain ⟨r0, rz⟩ := cell_box hblk
      have hrl := (Array.getElem?_eq_some_iff.1 hblk).1
      by_cases hjL : j < L
      · have hLL := HL.out
        obtain ⟨y, hy⟩ : ∃ y, l[j]? = some y := ⟨l[j]'(by omega), List.getElem?_eq_getElem _⟩
        obtain ⟨y0, y1, y2⟩ := three_cells HG.out (HC.out j y hy) HST.out.2
        have hjL' : (j : Int) < L := by omega
        have hyb := HBD.out y (List.mem_of_getElem? hy)
        have HRL := Lib.hid (remP_len (l := l) (k := k) (i := j) (by omega))
        have HY := Lib.hid hy
        have hcb : (remP l k j).length ≤ 1000 := by have := HRL.out; omega
        clear hLL hy rz hblk
        by_cases hjk : j = k
        · have HSK := Lib.hid (remP_skip (l := l) (k := k) (by have := HL.out; omega))
          have hjk' : ((j : Int) == (k : Int)) = true := by simp [hjk]
          have hgt : decide ((k : Int) < (j : Int)) = false := decide_eq_false (by omega)
          have hgt2 : decide (k < j) = false := decide_eq_false (by omega)
          have HJK := Lib.hid hjk
          clear hjk
          go_wp2
          go_roundw
          case rel =>
            have e := HJK.out
            refine ⟨j + 1, by omega, by go_num, Lib.hid ?_⟩
            have h1 := HST.out.1
            have h2 := HST.out.2
            rw [e] at h1
            rw [e, HSK.out]
            exact ⟨own_block h1 (fun g hg => Below.heap_alloc _ _ _ (h1.lt g hg).2), h2.alloc h2.size _⟩
          case measure => first | (simp [intOf]; done) | (simp [intOf]; omega)
        · have hne : ((j : Int) == (k : Int)) = false := beq_eq_false_iff_ne.2 (by omega)
          by_cases hin : k < j ∧ j < E
          · have hz : (low l k (belowN l k))[j]? = some { y with d := y.d - 1 } := by
              rw [low_get, HY.out]
              show some (if _ then _ else _) = _
              rw [if_pos ⟨hin.1, by have := HE.out; omega⟩]
            have HSTEP := Lib.hid (remP_step (by have := HL.out; omega) hjk hz)
            have hgt : decide ((k : Int) < (j : Int)) = true := decide_eq_true (by omega)
            have hgt2 : decide (k < j) = true := decide_eq_true (by omega)
            have hlt2 : decide ((j : Int) < (E : Int)) = true := decide_eq_true (by omega)
            have hlt3 : decide (j < E) = true := decide_eq_true (by omega)
            have hkj : k < j := hin.1
            have hjE : j < E := hin.2
            clear hz hin hjk
            go_wp2_with (at_builtin; refine wpList_append_own _ rfl _ _ 27 rfl w.heap.size 49 i0 (.agg #[.int .i64 0, .int .i64 0, .int .i64 0]) 3 24 Try.underlying27 HI0.out hz0 hz1 hz2 rfl (by decide) _ _ _ rfl ((HST.out.1.alloc _).alloc _) ⟨wr.heap.size + 1, 0, none⟩ 1 1 (nodC { y with d := y.d - 1 }) rfl rfl (news_at2 wr _ (nodC { y with d := y.d - 1 }) _) (by simp [Value.oneCell']) (by unfold maxLen; omega) (by omega) (by have := HST.out.2.size; simp; omega) ?_; intro u' w3 hown hgrow _; have HOW := Lib.hid hown; have HGR := Lib.hid hgrow; clear hown hgrow)
            go_roundw
            case rel =>
              refine ⟨j + 1, by omega, by go_num, Lib.hid ?_⟩
              rw [HSTEP.out, nodsC_snoc, List.length_append]
              refine ⟨HOW.out, ?_⟩
              exact ((HST.out.2.alloc HST.out.2.size _).alloc (Nat.le_trans HST.out.2.size (by simp)) _).grown HGR.out (by have := HST.out.2.size; simp; omega) (fun j ej => (HST.out.1.lt j ej).1)
            case measure => first | (simp [intOf]; done) | (simp [intOf]; omega)
          · have hz : (low l k (belowN l k))[j]? = some y := by
              rw [low_out (by have := HE.out; omega)]
              exact HY.out
            have HSTEP := Lib.hid (remP_step (by have := HL.out; omega) hjk hz)
            by_cases hkj : k < j
            · have hgt : decide ((k : Int) < (j : Int)) = true := decide_eq_true (by omega)
              have hgt2 : decide (k < j) = true := decide_eq_true (by omega)
              have hlt2 : decide ((j : Int) < (E : Int)) = false := decide_eq_false (by omega)
              have hlt3 : decide (j < E) = false := decide_eq_false (by omega)
              have hjE : ¬ j < E := by omega
              clear hz hin hjk
              go_wp2_with (at_builtin; refine wpList_append_own _ rfl _ _ 27 rfl w.heap.size 49 i0 (.agg #[.int .i64 0, .int .i64 0, .int .i64 0]) 3 24 Try.underlying27 HI0.out hz0 hz1 hz2 rfl (by decide) _ _ _ rfl ((HST.out.1.alloc _).alloc _) ⟨wr.heap.size + 1, 0, none⟩ 1 1 (nodC y) rfl rfl (news_at2 wr _ (nodC y) _) (by simp [Value.oneCell']) (by unfold maxLen; omega) (by omega) (by have := HST.out.2.size; simp; omega) ?_; intro u' w3 hown hgrow _; have HOW := Lib.hid hown; have HGR := Lib.hid hgrow; clear hown hgrow)
              go_roundw
              case rel =>
                refine ⟨j + 1, by omega, by go_num, Lib.hid ?_⟩
                rw [HSTEP.out, nodsC_snoc, List.length_append]
                refine ⟨HOW.out, ?_⟩
                exact ((HST.out.2.alloc HST.out.2.size _).alloc (Nat.le_trans HST.out.2.size (by simp)) _).grown HGR.out (by have := HST.out.2.size; simp; omega) (fun j ej => (HST.out.1.lt j ej).1)
              case measure => first | (simp [intOf]; done) | (simp [intOf]; omega)
            · have hgt : decide ((k : Int) < (j : Int)) = false := decide_eq_false (by omega)
              have hgt2 : decide (k < j) = false := decide_eq_false (by omega)
              clear hz hin hjk
              go_wp2_with (at_builtin; refine wpList_append_own _ rfl _ _ 27 rfl w.heap.size 49 i0 (.agg #[.int .i64 0, .int .i64 0, .int .i64 0]) 3 24 Try.underlying27 HI0.out hz0 hz1 hz2 rfl (by decide) _ _ _ rfl ((HST.out.1.alloc _).alloc _) ⟨wr.heap.size + 1, 0, none⟩ 1 1 (nodC y) rfl rfl (news_at2 wr _ (nodC y) _) (by simp [Value.oneCell']) (by unfold maxLen; omega) (by omega) (by have := HST.out.2.size; simp; omega) ?_; intro u' w3 hown hgrow _; have HOW := Lib.hid hown; have HGR := Lib.hid hgrow; clear hown hgrow)
              go_roundw
              case rel =>
                refine ⟨j + 1, by omega, by go_num, Lib.hid ?_⟩
                rw [HSTEP.out, nodsC_snoc, List.length_append]
                refine ⟨HOW.out, ?_⟩
                exact ((HST.out.2.alloc HST.out.2.size _).alloc (Nat.le_trans HST.out.2.size (by simp)) _).grown HGR.out (by have := HST.out.2.size; simp; omega) (fun j ej => (HST.out.1.lt j ej).1)
              case measure => first | (simp [intOf]; done) | (simp [intOf]; omega)
      · have hjE : j = L := by omega
        have hfull := HST.out.1
        have hHL := HL.out
        rw [hjE, ← hHL, remP_all] at hfull
        have hlen2 : (rem l k).length ≤ 1000 := by have := rem_len (l := l) (k := k) (by omega); omega
        have HFIN := Lib.hid (HR.out.store HST.out.2 hfull hlen2 (rem_bound HBD.out hP))
        have hjL' : ¬ (j : Int) < L := by omega
        obtain ⟨a9, c9, hu⟩ := (nodes_row HST.out.1).form
        clear hfull hHL hblk hjE
        subst hu
        go_wp2
        go_ret
        exact ⟨rfl, ⟨_, HFIN.out.1⟩, HFIN.out.2⟩
end Go.Proofs.Ytebgmphbkjpfcaa
