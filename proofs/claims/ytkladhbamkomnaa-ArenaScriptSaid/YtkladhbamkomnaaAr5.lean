/- package arena: Add and Drop of anything; what every program answers that is one. -/
import Derived.Test.YtkladhbamkomnaaAr4
namespace Go.Proofs.Ytkladhbamkomnaa
set_option linter.unusedVariables false
set_option linter.unusedSimpArgs false
open Go.ChangeShapes Go.WideShapes Go.ChangeAt Go.RowKit Go.Shelf
open TabA

abbrev newO (kd sz fi : Int) : Ob := ⟨0, kd, sz, fi, framesN kd sz, 0, 0, 0, 0⟩
/-- What Add answers, and what it leaves. -/
def addR (F : Nat) (cnt : List Int) (L : List Ob) (kd sz fi : Int) : Int × Int :=
  if framesN kd sz = 0 then (0, 2) else if fi < 0 ∨ F - framesN kd sz < fi then (0, 3) else addA cnt L (newO kd sz fi)
def addC (F : Nat) (cnt : List Int) (L : List Ob) (kd sz fi : Int) : List Int :=
  if (addR F cnt L kd sz fi).2 = 0 then cnt.set fi.toNat ((cnt[fi.toNat]?).getD 0 + 1) else cnt
def addL (F : Nat) (cnt : List Int) (L : List Ob) (kd sz fi : Int) : List Ob :=
  if (addR F cnt L kd sz fi).2 = 0 then insO L { newO kd sz fi with id := (addR F cnt L kd sz fi).1 } else L
theorem OnlyA.of_below {w w' : World} {b ab : Nat} {v : Value} (h : Below w.heap.size w w') : OnlyA w w' b ab v v :=
  ⟨h.os, h.tape, h.output, h.size, fun k hk _ _ _ => h.block k hk, .inl rfl⟩
theorem OnlyA.trans {a c d : World} {b ab : Nat} {v0 v1 v2 : Value} (h : OnlyA a c b ab v0 v1) (k : OnlyA c d b ab v1 v2) : OnlyA a d b ab v0 v2 :=
  ⟨k.os.trans h.os, k.tape.trans h.tape, k.output.trans h.output, Nat.le_trans h.size k.size,
   fun j hj h1 h2 h3 => (k.block j (Nat.lt_of_lt_of_le hj h.size) h1 h2 (fun e => by
     rcases h.foot with q | ⟨g, q, hg⟩
     · rw [q] at e; exact h3 e
     · rw [q] at e; cases e; omega)).trans (h.block j hj h1 h2 h3),
   by
     rcases k.foot with q | ⟨g, q, hg⟩
     · rcases h.foot with r | ⟨g, r, hg⟩
       · exact .inl (q.trans r)
       · exact .inr ⟨g, q.trans r, hg⟩
     · exact .inr ⟨g, q, Nat.le_trans h.size hg⟩⟩
theorem OnlyA.below {w w' : World} {b ab base F n : Nat} {cnt : List Int} {v v' : Value} {L : List Ob} (h : OnlyA w w' b ab v v') (hA : ArAt w b ab base F cnt v L) (h1 : n ≤ b) (h2 : n ≤ ab) : Below n w w' :=
  ⟨h.os, h.tape, h.output, h.size, fun k hk => h.block k (by have := hA.bl; omega) (by omega) (by omega) (fun e => by have := (hA.tab.own e).1; have := hA.tab.ne; omega)⟩
theorem addA_code (cnt : List Int) (L : List Ob) (x : Ob) : (addA cnt L x).2 = 0 → (addA cnt L x).1 = nextA cnt x.fi := by
  unfold addA
  split
  · intro h; cases h
  · split
    · intro h; cases h
    · intro _; rfl
theorem add_any (w : World) (b ab base F : Nat) (cnt : List Int) (v : Value) (L : List Ob) (kd sz fi : Int) (h : ArAt w b ab base F cnt v L) (wf : -9223372036854775808 ≤ fi ∧ fi ≤ 9223372036854775807) (hlen : L.length < 1000000) :
    Calls Try.prog 24 #[.pointer (some ⟨b, 0, none⟩), .int .i64 kd, .int .i64 sz, .int .i64 fi] w fun e w' =>
      e = .returned (.tuple #[.int .i64 (addR F cnt L kd sz fi).1, .int .i64 (addR F cnt L kd sz fi).2]) ∧ ∃ v', ArAt w' b ab base F (addC F cnt L kd sz fi) v' (addL F cnt L kd sz fi) ∧ OnlyA w w' b ab v v' := by
  by_cases h0 : framesN kd sz = 0
  · have e : addR F cnt L kd sz fi = (0, 2) := by unfold addR; rw [if_pos h0]
    unfold addC addL
    rw [e, if_neg (by decide), if_neg (by decide)]
    exact (add_arg w b kd sz fi h0).mono fun e w' ⟨he, hb⟩ => ⟨he, v, h.call hb, OnlyA.of_below hb⟩
  · by_cases hr : fi < 0 ∨ F - framesN kd sz < fi
    · have e : addR F cnt L kd sz fi = (0, 3) := by unfold addR; rw [if_neg h0, if_pos hr]
      unfold addC addL
      rw [e, if_neg (by decide), if_neg (by decide)]
      exact (add_range w b ab base F cnt v L kd sz fi h h0 hr wf).mono fun e w' ⟨he, hb⟩ => ⟨he, v, h.call hb, OnlyA.of_below hb⟩
    · have e : addR F cnt L kd sz fi = addA cnt L (newO kd sz fi) := by unfold addR; rw [if_neg h0, if_neg hr]
      have hr' : ¬ fi < 0 ∧ ¬ F - framesN kd sz < fi := by omega
      unfold addC addL
      rw [e]
      refine (add_go w b ab base F cnt v L kd sz fi h h0 hr' hlen).mono fun e w' ⟨he, hp⟩ => ⟨he, ?_⟩
      rcases hp with ⟨hn, hb⟩ | ⟨hz, v', c, hc, hA, hO⟩
      · rw [if_neg hn, if_neg hn]
        exact ⟨v, h.call hb, OnlyA.of_below hb⟩
      · rw [if_pos hz, if_pos hz, addA_code _ _ _ hz]
        refine ⟨v', ?_, hO⟩
        have hc' : cnt[fi.toNat]? = some c := hc
        rw [hc']
        exact hA
/-- What Drop answers, and what it leaves. -/
def dropR (L : List Ob) (id : Int) : Int := if hasR (rowsO L) id then 0 else 2
def dropL (L : List Ob) (id : Int) : List Ob := if hasR (rowsO L) id then L.take (posR (rowsO L) id) ++ L.drop (posR (rowsO L) id + 1) else L
theorem rows_del (L : List Ob) (id : Int) (h : hasR (rowsO L) id = true) : rowsO (dropL L id) = delR (rowsO L) id := by
  unfold dropL
  rw [if_pos h]
  unfold delR rowsO
  rw [List.map_append, List.map_take, List.map_drop]
theorem dropL_sub {L : List Ob} {id : Int} {x : Ob} (h : x ∈ dropL L id) : x ∈ L := by
  unfold dropL at h
  split at h
  · rcases List.mem_append.1 h with q | q
    · exact List.mem_of_mem_take q
    · exact List.mem_of_mem_drop q
  · exact h
set_option maxRecDepth 100000 in
set_option maxHeartbeats 1000000 in
theorem adrop_any (w : World) (b ab base F : Nat) (cnt : List Int) (v : Value) (L : List Ob) (id : Int) (h : ArAt w b ab base F cnt v L) :
    Calls Try.prog 23 #[.pointer (some ⟨b, 0, none⟩), .int .i64 id] w fun e w' =>
      e = .returned (.int .i64 (dropR L id)) ∧ ∃ v', ArAt w' b ab base F cnt v' (dropL L id) ∧ OnlyA w w' b ab v v' := by
  have H := Lib.hid h
  have hbl := h.bl
  unfold dropR
  cases hh : hasR (rowsO L) id with
  | false =>
    have hd : dropL L id = L := by unfold dropL; rw [hh]; rfl
    have HD := Lib.hid hd
    have HH := Lib.hid hh
    clear h hh hd
    simp only [Bool.false_eq_true, if_false]
    go_enter Try.func23, Try.ntmps23
    go_wp2_with (go_at_call 36; refine (drop_no _ b 1 base v (rowsO L) id H.out.tab HH.out).mono ?_; rintro e w1 ⟨rfl, hb1⟩)
    go_ret
    rw [HD.out]
    exact ⟨rfl, v, H.out.call hb1, OnlyA.of_below hb1⟩
  | true =>
    have hd := rows_del L id hh
    have HD := Lib.hid hd
    have HH := Lib.hid hh
    clear h hh hd
    simp only [if_true]
    go_enter Try.func23, Try.ntmps23
    go_wp2_with (go_at_call 36; refine (drop_yes _ b 1 base v (rowsO L) id H.out.tab HH.out).mono ?_; rintro e w1 ⟨rfl, v', t1, o1⟩; have T1 := Lib.hid t1; have O1 := Lib.hid o1; clear t1 o1)
    go_ret
    have t1 := T1.out
    have o1 := O1.out
    rw [← HD.out] at t1
    have hA := H.out
    have hab : w1.heap[ab]? = w.heap[ab]? := o1.block ab hA.al hA.ne (fun e => by have := (hA.tab.own e).1; have := hA.abl; omega)
    exact ⟨rfl, v', ⟨(o1.cells 0 (by decide)).trans hA.c0, hab.trans hA.ad, hA.fl, hA.f1, t1, hA.abl, hA.ne, hA.cn, fun x hx => hA.good x (dropL_sub hx)⟩, ⟨o1.os, o1.tape, o1.output, o1.size, fun k hk h1 h2 h3 => o1.block k hk h1 h3, o1.foot⟩⟩
def c1 : List Int := addC 8 (zerosA 8) [] 1 8 0
def l1 : List Ob := addL 8 (zerosA 8) [] 1 8 0
def c2 : List Int := addC 8 c1 l1 3 0 2
def l2 : List Ob := addL 8 c1 l1 3 0 2
def c3 : List Int := addC 8 c2 l2 4 0 2
def l3 : List Ob := addL 8 c2 l2 4 0 2
theorem add1 (w : World) (b ab base : Nat) (h : ArAt w b ab base 8 (zerosA 8) (.slice none 0 0) []) : Calls Try.prog 24 #[.pointer (some ⟨b, 0, none⟩), .int .i64 1, .int .i64 8, .int .i64 0] w fun e w' =>
      e = .returned (.tuple #[.int .i64 1, .int .i64 0]) ∧ ∃ v', ArAt w' b ab base 8 c1 v' l1 ∧ OnlyA w w' b ab (.slice none 0 0) v' := by
  have r : addR 8 (zerosA 8) [] 1 8 0 = (1, 0) := by decide
  have := add_any w b ab base 8 (zerosA 8) (.slice none 0 0) [] 1 8 0 h (by decide) (by decide)
  rw [r] at this
  exact this
theorem add2 (w : World) (b ab base : Nat) (v : Value) (h : ArAt w b ab base 8 c1 v l1) : Calls Try.prog 24 #[.pointer (some ⟨b, 0, none⟩), .int .i64 3, .int .i64 0, .int .i64 2] w fun e w' =>
      e = .returned (.tuple #[.int .i64 3, .int .i64 0]) ∧ ∃ v', ArAt w' b ab base 8 c2 v' l2 ∧ OnlyA w w' b ab v v' := by
  have r : addR 8 c1 l1 3 0 2 = (3, 0) := by decide
  have := add_any w b ab base 8 c1 v l1 3 0 2 h (by decide) (by decide)
  rw [r] at this
  exact this
theorem add3 (w : World) (b ab base : Nat) (v : Value) (h : ArAt w b ab base 8 c2 v l2) : Calls Try.prog 24 #[.pointer (some ⟨b, 0, none⟩), .int .i64 4, .int .i64 0, .int .i64 2] w fun e w' =>
      e = .returned (.tuple #[.int .i64 0, .int .i64 16]) ∧ ∃ v', ArAt w' b ab base 8 c3 v' l3 ∧ OnlyA w w' b ab v v' := by
  have r : addR 8 c2 l2 4 0 2 = (0, 16) := by decide
  have := add_any w b ab base 8 c2 v l2 4 0 2 h (by decide) (by decide)
  rw [r] at this
  exact this
theorem next4 (w : World) (b ab base : Nat) (v : Value) (h : ArAt w b ab base 8 c3 v l3) : Calls Try.prog 13 #[.pointer (some ⟨b, 0, none⟩), .int .i64 2] w fun e w' => e = .returned (.int .i64 67) ∧ w' = w := by
  have r : nextA c3 2 = 67 := by decide
  have := next_any w b ab base 8 c3 v l3 2 h
  rw [r] at this
  exact this
theorem new8 (w : World) : Calls Try.prog 9 #[.int .i64 8] w fun e w' => ∃ b, e = .returned (.tuple #[.pointer (some ⟨b, 0, none⟩), .int .i64 0]) ∧ NewA w w' b 8 := new_any w 8 (by decide)
set_option maxRecDepth 100000 in
set_option maxHeartbeats 1000000 in
theorem awake12 (W : World) : Calls Try.prog 8 #[] W fun e w' => e = .returned (.bool true) ∧ Below W.heap.size W w' := by
  go_enter Try.func8, Try.ntmps8
  go_wp2_with (first
    | (go_at_call 13; (with_reducible refine (next4 w4 b ab base v4 HA4.out).mono ?_); rintro e w5 ⟨rfl, rfl⟩)
    | (go_at_call 24; (with_reducible refine (add3 w3 b ab base v3 HA3.out).mono ?_); rintro e w4 ⟨rfl, v4, hA4, hO4⟩; have HA4 := Lib.hid hA4; have HO4 := Lib.hid hO4; clear hA4 hO4)
    | (go_at_call 24; (with_reducible refine (add2 w2 b ab base v2 HA2.out).mono ?_); rintro e w3 ⟨rfl, v3, hA3, hO3⟩; have HA3 := Lib.hid hA3; have HO3 := Lib.hid hO3; clear hA3 hO3)
    | (go_at_call 24; (with_reducible refine (add1 w1 b ab base HA1.out).mono ?_); rintro e w2 ⟨rfl, v2, hA2, hO2⟩; have HA2 := Lib.hid hA2; have HO2 := Lib.hid hO2; clear hA2 hO2)
    | (go_at_call 9; (with_reducible refine (new8 W).mono ?_); rintro e w1 ⟨b, rfl, ab, base, hA1, hab, hb, hB1⟩; have HA1 := Lib.hid hA1; have HB1 := Lib.hid hB1; clear hA1 hB1))
  go_ret
  exact ⟨by simp, HB1.out.trans ((HO2.out.below HA1.out hb hab).trans ((HO3.out.below HA2.out hb hab).trans (HO4.out.below HA3.out hb hab)))⟩
end Go.Proofs.Ytkladhbamkomnaa
