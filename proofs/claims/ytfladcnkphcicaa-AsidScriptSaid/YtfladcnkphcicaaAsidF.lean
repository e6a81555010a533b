/- The law AsidSerials. -/
import Derived.Test.YtfladcnkphcicaaAsidE
import Derived.Test.YtfladcnkphcicaaAsidNone
import Derived.Test.YtfladcnkphcicaaActs
namespace Go.Proofs.Ytfladcnkphcicaa
set_option linter.unusedVariables false
set_option linter.unusedSimpArgs false
open Go.ChangeShapes Go.WideShapes Go.ChangeAt Go.RowKit Go.Shelf

theorem i64_of' {n : Int} (h : (Lit.int .i64 n).wf = true) : -9223372036854775808 ≤ n ∧ n ≤ 9223372036854775807 := by
  simp [Lit.wf, IntKind.min, IntKind.max, IntKind.signed, IntKind.bits] at h
  exact ⟨by omega, by omega⟩
/-- An act's cells. -/
def ActCells (w : World) (b o : Nat) (x : ActA) : Prop :=
  w.cell? ⟨b, o, none⟩ = some (.int .i64 x.d) ∧ w.cell? ⟨b, o + 1, none⟩ = some (.int .i64 x.a) ∧ w.cell? ⟨b, o + 2, none⟩ = some (.int .i64 x.b)
def I64 (n : Int) : Prop := -9223372036854775808 ≤ n ∧ n ≤ 9223372036854775807
/-- The acts that a slice holds. -/
def ActsAt (w : World) (p : Option Addr) (n : Nat) (D : Nat → ActA) : Prop :=
  ∃ b off, (0 < n → p = some ⟨b, off, none⟩ ∧ b < w.heap.size) ∧ ∀ k, k < n → ActCells w b (off + k * 3) (D k) ∧ I64 (D k).d ∧ I64 (D k).a ∧ I64 (D k).b
theorem open_s22 {H : Type} {enc : TypeId × Value → H} {W : World} {base : Nat} {v : Value} {d : DataW H} {ps : List MemPlace} (hval : Value.okWide Try.prog W .any base 22 v) (hd : DataW.Trod enc Try.prog W 0 (fun _ => true) true 22 v d ps) :
    ∃ p n c, v = .slice p n c ∧ n ≤ c ∧ c ≤ maxLen ∧ ∃ D, ActsAt W p n D := by
  obtain ⟨p, n, c, rfl, h1, h2, b, off, h3, h4⟩ := open_rows (C := 3) Try.underlying22 (by kernel_rfl) (by kernel_rfl) (by decide) hval hd
  refine ⟨p, n, c, rfl, h1, h2, fun k => ⟨intAt W b (off + (k * 3 + 0)), intAt W b (off + (k * 3 + 1)), intAt W b (off + (k * 3 + 2))⟩, b, off, h3, fun k hk => ?_⟩
  obtain ⟨c0, o0⟩ := h4 k hk 0 (.i .i64) (by kernel_rfl)
  obtain ⟨c1, o1⟩ := h4 k hk 1 (.i .i64) (by kernel_rfl)
  obtain ⟨c2, o2⟩ := h4 k hk 2 (.i .i64) (by kernel_rfl)
  refine ⟨⟨?_, ?_, ?_⟩, i64_of' o0, i64_of' o1, i64_of' o2⟩
  all_goals first | exact c0 | exact c1 | exact c2 | (simp only [Nat.add_assoc]; first | exact c0 | exact c1 | exact c2)
theorem row_below {B : Nat} {w w' : World} {e : TypeId} {size : Nat} {v : Value} {n : Nat} {xs : List Value} (h : w.ownsRow B e size v n xs) (ho : Below w.heap.size w w') : w'.ownsRow B e size v n xs := by
  refine h.kept (row := none) ⟨ho.os, ho.tape, ho.output, ho.size, fun k hk _ => ho.block k hk⟩ ?_
  cases hv : v.ownBlock with
  | none => exact .inl rfl
  | some k => exact .inr (by simp)
/-- What a row's slice is. -/
theorem row_form {B : Nat} {w : World} {e : TypeId} {v : Value} {n : Nat} {xs : List Value} (h : w.ownsRow B e 1 v n xs) : ∃ p c, v = .slice p n c ∧ n ≤ c ∧ c ≤ maxLen ∧ (0 < n → ∃ g, p = some ⟨g, 0, none⟩ ∧ B ≤ g ∧ g < w.heap.size ∧ ∀ j u, xs[j]? = some u → w.cell? ⟨g, j, none⟩ = some u) := by
  have hlt := h.lt
  have hcs := fun g hg => h.cells (g := g) hg
  obtain ⟨hl, h | ⟨g, cap, cur, rfl, hg, hblk, h1, h2, h3, h4⟩⟩ := h
  · obtain ⟨rfl, rfl⟩ := h
    exact ⟨none, 0, rfl, by omega, by unfold maxLen; omega, fun h => absurd h (by omega)⟩
  · refine ⟨_, _, rfl, h1, h2, fun _ => ⟨g, rfl, hg, (hlt g rfl).2, fun j u hj => ?_⟩⟩
    have := hcs g rfl j u hj
    have e : ((⟨g, 0, none⟩ : Addr).add j) = ⟨g, j, none⟩ := by unfold Addr.add; split <;> simp_all
    rwa [e] at this
/-- What DropPool tells and leaves. -/
def dropPo (po : Nat → Int) (pool : Int) : Nat → Int := if (placeF po pool).2 = true then (fun i => if i = (placeF po pool).1.toNat then 0 else po i) else po
def dropNL (po : Nat → Int) (N : Nums) (pool : Int) : Nums × List Int := if (placeF po pool).2 = true then dfold (placeF po pool).1.toNat N (fst4 4) else (N, [])
theorem dropPool_any (w : World) (b : Nat) (po : Nat → Int) (tk : Int) (N : Nums) (pool : Int) (h : AsidAt w b po tk N) :
    Calls Try.prog 9 #[.pointer (some ⟨b, 0, none⟩), .int .i64 pool] w fun e W' => ∃ v, e = .returned (.tuple #[v, .int .i64 (if (placeF po pool).2 = true then 0 else 2)]) ∧ W'.ownsRow w.heap.size 3 1 v (dropNL po N pool).2.length ((dropNL po N pool).2.map (Value.int .i64)) ∧ AsidAt W' b (dropPo po pool) tk (dropNL po N pool).1 ∧ BlkOnly b w W' := by
  have HA := Lib.hid h
  rcases place_in po pool with ⟨pl, hpl, hp⟩ | hp
  · have e1 : dropPo po pool = fun i => if i = pl then 0 else po i := by unfold dropPo; rw [hp]; simp
    have e2 : dropNL po N pool = dfold pl N (fst4 4) := by unfold dropNL; rw [hp]; simp
    rw [e1, e2, hp]
    exact callsIn_wide.1 (drop_in w b pl po tk N pool h hpl hp)
  · have e1 : dropPo po pool = po := by unfold dropPo; rw [hp]; simp
    have e2 : dropNL po N pool = (N, []) := by unfold dropNL; rw [hp]; simp
    rw [e1, e2, hp]
    have HP := Lib.hid hp
    clear hp h e1 e2
    go_enter Try.func9, Try.ntmps9
    go_wp2_with (first
      | (go_at_call 22; refine (place_any _ b po tk N pool (HA.out.call (by repeat (first | exact Below.refl _ _ | refine bal ?_ _)))).mono ?_; rw [HP.out]; rintro e w1 ⟨rfl, rfl⟩))
    refine bodyPost_ret (v := .tuple #[.slice none 0 0, .int .i64 2]) (by simp [results, Try.results9, go_sem]) rfl ⟨_, rfl, World.ownsRow_nil _ _ _ _, HA.out.call (by repeat (first | exact Below.refl _ _ | refine bal ?_ _)), BlkOnly.of_below (by repeat (first | exact Below.refl _ _ | refine bal ?_ _))⟩
theorem ser_drop {N : Nums} {gv : List Int} (h : SerInv N gv) (hN : NumsOk N) (po : Nat → Int) (pool : Int) : SerInv (dropNL po N pool).1 gv ∧ NumsOk (dropNL po N pool).1 := by
  unfold dropNL
  split
  · exact ser_fold h hN _ _
  · exact ⟨h, hN⟩
theorem add_tk {po : Nat → Int} {tk obj : Int} (h0 : 0 ≤ tk) (h8 : tk ≤ 8) : 0 ≤ (addF po tk obj).2.2 ∧ (addF po tk obj).2.2 ≤ 8 := by
  unfold addF
  split
  · exact ⟨h0, h8⟩
  · split
    · exact ⟨h0, h8⟩
    · split
      · exact ⟨h0, h8⟩
      · simp only; omega
theorem BlkOnly.lt {b k : Nat} {w w' : World} (h : BlkOnly b w w') (hk : k < w.heap.size) : k < w'.heap.size := Nat.lt_of_lt_of_le hk h.size
theorem num_len {N : Nums} (h : NumsOk N) {k : Nat} (hk : k < 32) : 0 ≤ (N k).2.2 ∧ (N k).2.2 ≤ 524288 := h k hk
end Go.Proofs.Ytfladcnkphcicaa
