/- TreeNone: of no tree each call says so. -/
import Derived.Test.YtebgmphbkjpfcaaTrG
namespace Go.Proofs.Ytebgmphbkjpfcaa
set_option linter.unusedVariables false
set_option linter.unusedSimpArgs false
open Go.ChangeShapes Go.WideShapes Go.ChangeAt Go.RowKit Go.Shelf

structure SlX where
  o : Int
  i : Int
abbrev SlX.val (x : SlX) : Value := slV x.o x.i
def SlX.Ok (x : SlX) : Prop := InS x.o ∧ InS x.i
theorem open_t31 {W : World} {base : Nat} {v : Value} (hv : Value.okWide Try.prog W .any base 31 v) : ∃ x : SlX, v = x.val ∧ x.Ok := by
  obtain ⟨cs, rfl, hl, hc⟩ := agg_cells (ts := [3, 3]) Try.underlying31 (by kernel_rfl) (by kernel_rfl) hv
  obtain ⟨v0, e0, o0⟩ := hc 0 _ rfl
  obtain ⟨a, rfl, b0⟩ := cell_i64 Try.underlying3 o0
  obtain ⟨v1, e1, o1⟩ := hc 1 _ rfl
  obtain ⟨b, rfl, b1⟩ := cell_i64 Try.underlying3 o1
  match cs, hl with
  | [c0, c1], _ =>
    cases e0
    cases e1
    exact ⟨⟨a, b⟩, rfl, ⟨b0, b1⟩⟩
abbrev zval_t31 : Value := .agg #[.int .i64 0, .int .i64 0]
abbrev zdat_t31 {H : Type} : DataW H := .agg [.lit (.int .i64 0), .lit (.int .i64 0)]
structure Sl2 (W : World) (s : Nat) (o i : Int) : Prop where
  c0 : W.cell? ⟨s, 0, none⟩ = some (.int .i64 o)
  c1 : W.cell? ⟨s, 1, none⟩ = some (.int .i64 i)
  lt : s < W.heap.size
theorem Sl2.call {W W' : World} {s : Nat} {o i : Int} (h : Sl2 W s o i) (hb : Below W.heap.size W W') : Sl2 W' s o i :=
  ⟨(hb.cell (p := ⟨s, 0, none⟩) h.lt).trans h.c0, (hb.cell (p := ⟨s, 1, none⟩) h.lt).trans h.c1, Nat.lt_of_lt_of_le h.lt hb.size⟩
theorem Sl2.fresh (W : World) (o i : Int) : Sl2 (W.alloc (slO o i)) W.heap.size o i := by
  have hb := World.alloc_heap_new W (slO o i)
  refine ⟨?_, ?_, by simp⟩ <;> (unfold World.cell?; simp only [hb]; rfl)
theorem Sl2.fresh2 (W : World) (o i p j : Int) : Sl2 ((W.alloc (slO o i)).alloc (slO p j)) W.heap.size o i ∧ Sl2 ((W.alloc (slO o i)).alloc (slO p j)) (W.heap.size + 1) p j := by
  refine ⟨(Sl2.fresh W o i).call (bal (Below.refl _ _) _), ?_⟩
  have := Sl2.fresh (W.alloc (slO o i)) p j
  rw [World.size_alloc] at this
  exact this
set_option maxRecDepth 100000 in
set_option maxHeartbeats 1000000 in
theorem treeNone_any (o i p j : Int) (W : World) :
    Calls Try.prog 8 #[slV o i, slV p j] W fun e w' => e = .returned (.bool true) ∧ Below W.heap.size W w' := by
  have HB := Lib.hid (Below.refl W.heap.size W)
  go_enter Try.func8, Try.ntmps8
  go_wp2_with (first
    | (go_at_call 13; with_reducible refine (parent_nil o i 0 0 _).mono ?_; rintro e wr ⟨rfl, hb⟩; have HA := Lib.hid ((Sl2.fresh2 W o i p j).1.call hb); have HC := Lib.hid ((Sl2.fresh2 W o i p j).2.call hb); have HB := Lib.hid (show Below W.heap.size W wr from by first | exact HB.out.trans (hb.mono HB.out.size) | exact (HB.out.alloc HB.out.size _).trans (hb.mono (HB.out.alloc HB.out.size _).size) | exact (bal (bal (Below.refl _ _) _) _).trans (hb.mono (bal (bal (Below.refl _ _) _) _).size)); (try clear ac0 ac1 alt cc0 cc1 clt); (try clear rc0 rc1 rlt); obtain ⟨ac0, ac1, alt⟩ := HA.out; obtain ⟨cc0, cc1, clt⟩ := HC.out; clear hb)
    | (go_at_call 30; with_reducible refine (root_nil o i 0 0 _).mono ?_; rintro e wk ⟨rfl, hb⟩; have HA := Lib.hid (show Sl2 wk W.heap.size o i from by first | exact HA.out.call hb | exact (HA.out.call (bal (Below.refl _ _) _)).call hb); have HC := Lib.hid (show Sl2 wk (W.heap.size + 1) p j from by first | exact HC.out.call hb | exact (HC.out.call (bal (Below.refl _ _) _)).call hb); have HR := Lib.hid (show Sl2 wk wr.heap.size 0 0 from by first | exact HR.out.call hb | exact (Sl2.fresh wr 0 0).call hb); have HB := Lib.hid (show Below W.heap.size W wk from by first | exact HB.out.trans (hb.mono HB.out.size) | exact (HB.out.alloc HB.out.size _).trans (hb.mono (HB.out.alloc HB.out.size _).size) | exact (bal (bal (Below.refl _ _) _) _).trans (hb.mono (bal (bal (Below.refl _ _) _) _).size)); (try clear ac0 ac1 alt cc0 cc1 clt); (try clear rc0 rc1 rlt); obtain ⟨ac0, ac1, alt⟩ := HA.out; obtain ⟨cc0, cc1, clt⟩ := HC.out; obtain ⟨rc0, rc1, rlt⟩ := HR.out; clear hb)
    | (go_at_call 31; with_reducible refine (child_nil o i p j _).mono ?_; rintro e wk ⟨rfl, hb⟩; have HA := Lib.hid (show Sl2 wk W.heap.size o i from by first | exact HA.out.call hb | exact (HA.out.call (bal (Below.refl _ _) _)).call hb); have HC := Lib.hid (show Sl2 wk (W.heap.size + 1) p j from by first | exact HC.out.call hb | exact (HC.out.call (bal (Below.refl _ _) _)).call hb); have HR := Lib.hid (show Sl2 wk wr.heap.size 0 0 from by first | exact HR.out.call hb | exact (Sl2.fresh wr 0 0).call hb); have HB := Lib.hid (show Below W.heap.size W wk from by first | exact HB.out.trans (hb.mono HB.out.size) | exact (HB.out.alloc HB.out.size _).trans (hb.mono (HB.out.alloc HB.out.size _).size) | exact (bal (bal (Below.refl _ _) _) _).trans (hb.mono (bal (bal (Below.refl _ _) _) _).size)); (try clear ac0 ac1 alt cc0 cc1 clt); (try clear rc0 rc1 rlt); obtain ⟨ac0, ac1, alt⟩ := HA.out; obtain ⟨cc0, cc1, clt⟩ := HC.out; obtain ⟨rc0, rc1, rlt⟩ := HR.out; clear hb)
    | (go_at_call 26; with_reducible refine (remove_nil o i 0 0 _).mono ?_; rintro e wk ⟨rfl, hb⟩; have HA := Lib.hid (show Sl2 wk W.heap.size o i from by first | exact HA.out.call hb | exact (HA.out.call (bal (Below.refl _ _) _)).call hb); have HC := Lib.hid (show Sl2 wk (W.heap.size + 1) p j from by first | exact HC.out.call hb | exact (HC.out.call (bal (Below.refl _ _) _)).call hb); have HR := Lib.hid (show Sl2 wk wr.heap.size 0 0 from by first | exact HR.out.call hb | exact (Sl2.fresh wr 0 0).call hb); have HB := Lib.hid (show Below W.heap.size W wk from by first | exact HB.out.trans (hb.mono HB.out.size) | exact (HB.out.alloc HB.out.size _).trans (hb.mono (HB.out.alloc HB.out.size _).size) | exact (bal (bal (Below.refl _ _) _) _).trans (hb.mono (bal (bal (Below.refl _ _) _) _).size)); (try clear ac0 ac1 alt cc0 cc1 clt); (try clear rc0 rc1 rlt); obtain ⟨ac0, ac1, alt⟩ := HA.out; obtain ⟨cc0, cc1, clt⟩ := HC.out; obtain ⟨rc0, rc1, rlt⟩ := HR.out; clear hb)
    | (go_at_call 29; with_reducible refine (move_nil o i p j _).mono ?_; rintro e wk ⟨rfl, hb⟩; have HA := Lib.hid (show Sl2 wk W.heap.size o i from by first | exact HA.out.call hb | exact (HA.out.call (bal (Below.refl _ _) _)).call hb); have HC := Lib.hid (show Sl2 wk (W.heap.size + 1) p j from by first | exact HC.out.call hb | exact (HC.out.call (bal (Below.refl _ _) _)).call hb); have HR := Lib.hid (show Sl2 wk wr.heap.size 0 0 from by first | exact HR.out.call hb | exact (Sl2.fresh wr 0 0).call hb); have HB := Lib.hid (show Below W.heap.size W wk from by first | exact HB.out.trans (hb.mono HB.out.size) | exact (HB.out.alloc HB.out.size _).trans (hb.mono (HB.out.alloc HB.out.size _).size) | exact (bal (bal (Below.refl _ _) _) _).trans (hb.mono (bal (bal (Below.refl _ _) _) _).size)); (try clear ac0 ac1 alt cc0 cc1 clt); (try clear rc0 rc1 rlt); obtain ⟨ac0, ac1, alt⟩ := HA.out; obtain ⟨cc0, cc1, clt⟩ := HC.out; obtain ⟨rc0, rc1, rlt⟩ := HR.out; clear hb)
    | (go_at_call 28; with_reducible refine (swap_nil o i p j _).mono ?_; rintro e wk ⟨rfl, hb⟩; have HA := Lib.hid (show Sl2 wk W.heap.size o i from by first | exact HA.out.call hb | exact (HA.out.call (bal (Below.refl _ _) _)).call hb); have HC := Lib.hid (show Sl2 wk (W.heap.size + 1) p j from by first | exact HC.out.call hb | exact (HC.out.call (bal (Below.refl _ _) _)).call hb); have HR := Lib.hid (show Sl2 wk wr.heap.size 0 0 from by first | exact HR.out.call hb | exact (Sl2.fresh wr 0 0).call hb); have HB := Lib.hid (show Below W.heap.size W wk from by first | exact HB.out.trans (hb.mono HB.out.size) | exact (HB.out.alloc HB.out.size _).trans (hb.mono (HB.out.alloc HB.out.size _).size) | exact (bal (bal (Below.refl _ _) _) _).trans (hb.mono (bal (bal (Below.refl _ _) _) _).size)); (try clear ac0 ac1 alt cc0 cc1 clt); (try clear rc0 rc1 rlt); obtain ⟨ac0, ac1, alt⟩ := HA.out; obtain ⟨cc0, cc1, clt⟩ := HC.out; obtain ⟨rc0, rc1, rlt⟩ := HR.out; clear hb)
    | (go_at_call 17; with_reducible refine (has_nil o i 0 0 _).mono ?_; rintro e wk ⟨rfl, hb⟩; have HA := Lib.hid (show Sl2 wk W.heap.size o i from by first | exact HA.out.call hb | exact (HA.out.call (bal (Below.refl _ _) _)).call hb); have HC := Lib.hid (show Sl2 wk (W.heap.size + 1) p j from by first | exact HC.out.call hb | exact (HC.out.call (bal (Below.refl _ _) _)).call hb); have HR := Lib.hid (show Sl2 wk wr.heap.size 0 0 from by first | exact HR.out.call hb | exact (Sl2.fresh wr 0 0).call hb); have HB := Lib.hid (show Below W.heap.size W wk from by first | exact HB.out.trans (hb.mono HB.out.size) | exact (HB.out.alloc HB.out.size _).trans (hb.mono (HB.out.alloc HB.out.size _).size) | exact (bal (bal (Below.refl _ _) _) _).trans (hb.mono (bal (bal (Below.refl _ _) _) _).size)); (try clear ac0 ac1 alt cc0 cc1 clt); (try clear rc0 rc1 rlt); obtain ⟨ac0, ac1, alt⟩ := HA.out; obtain ⟨cc0, cc1, clt⟩ := HC.out; obtain ⟨rc0, rc1, rlt⟩ := HR.out; clear hb)
    | (go_at_call 15; with_reducible refine (below_nil o i 0 0 _).mono ?_; rintro e wk ⟨rfl, hb⟩; have HA := Lib.hid (show Sl2 wk W.heap.size o i from by first | exact HA.out.call hb | exact (HA.out.call (bal (Below.refl _ _) _)).call hb); have HC := Lib.hid (show Sl2 wk (W.heap.size + 1) p j from by first | exact HC.out.call hb | exact (HC.out.call (bal (Below.refl _ _) _)).call hb); have HR := Lib.hid (show Sl2 wk wr.heap.size 0 0 from by first | exact HR.out.call hb | exact (Sl2.fresh wr 0 0).call hb); have HB := Lib.hid (show Below W.heap.size W wk from by first | exact HB.out.trans (hb.mono HB.out.size) | exact (HB.out.alloc HB.out.size _).trans (hb.mono (HB.out.alloc HB.out.size _).size) | exact (bal (bal (Below.refl _ _) _) _).trans (hb.mono (bal (bal (Below.refl _ _) _) _).size)); (try clear ac0 ac1 alt cc0 cc1 clt); (try clear rc0 rc1 rlt); obtain ⟨ac0, ac1, alt⟩ := HA.out; obtain ⟨cc0, cc1, clt⟩ := HC.out; obtain ⟨rc0, rc1, rlt⟩ := HR.out; clear hb)
    | (go_at_call 16; with_reducible refine (all_nil 0 0 0 0 _).mono ?_; rintro e wk ⟨rfl, hb⟩; have HA := Lib.hid (show Sl2 wk W.heap.size o i from by first | exact HA.out.call hb | exact (HA.out.call (bal (Below.refl _ _) _)).call hb); have HC := Lib.hid (show Sl2 wk (W.heap.size + 1) p j from by first | exact HC.out.call hb | exact (HC.out.call (bal (Below.refl _ _) _)).call hb); have HR := Lib.hid (show Sl2 wk wr.heap.size 0 0 from by first | exact HR.out.call hb | exact (Sl2.fresh wr 0 0).call hb); have HB := Lib.hid (show Below W.heap.size W wk from by first | exact HB.out.trans (hb.mono HB.out.size) | exact (HB.out.alloc HB.out.size _).trans (hb.mono (HB.out.alloc HB.out.size _).size) | exact (bal (bal (Below.refl _ _) _) _).trans (hb.mono (bal (bal (Below.refl _ _) _) _).size)); (try clear ac0 ac1 alt cc0 cc1 clt); (try clear rc0 rc1 rlt); obtain ⟨ac0, ac1, alt⟩ := HA.out; obtain ⟨cc0, cc1, clt⟩ := HC.out; obtain ⟨rc0, rc1, rlt⟩ := HR.out; clear hb)
    | (go_at_call 10; refine (awake17 _).mono ?_; rintro e wz ⟨rfl, hbz⟩; have HZ := Lib.hid hbz; clear hbz))
  go_ret
  exact ⟨rfl, bgo HB.out HZ.out⟩
theorem walk_treeNone (a0 : SlX) (w0 : a0.Ok) (a1 : SlX) (w1 : a1.Ok) (W : World) :
    Calls Try.prog 8 #[a0.val, a1.val] W fun e w' => e = .returned (.bool true) ∧ Below W.heap.size W w' :=
  treeNone_any a0.o a0.i a1.o a1.i W
end Go.Proofs.Ytebgmphbkjpfcaa
