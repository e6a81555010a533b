/- package asid: what its object holds; place; the two iterators. -/
import Derived.Test.YtfladcnkphcicaaLink
import Derived.LoopIn
import Derived.LoopTactic
import Derived.Outline
namespace Go.Proofs.Ytfladcnkphcicaa
set_option linter.unusedVariables false
set_option linter.unusedSimpArgs false
open Go.ChangeShapes Go.WideShapes Go.ChangeAt Go.RowKit Go.Shelf
attribute [local go_sem] Oper.semAt_some
/-- A number: its root, its serial, how often it was given. -/
abbrev Nums := Nat → Int × Int × Int
structure AsidAt (w : World) (b : Nat) (po : Nat → Int) (tk : Int) (N : Nums) : Prop where
  pool : ∀ i, i < 8 → w.cell? ⟨b, i, none⟩ = some (.int .i64 (po i))
  taken : w.cell? ⟨b, 8, none⟩ = some (.int .i64 tk)
  num : ∀ n, n < 32 → w.cell? ⟨b, 9 + n * 3, none⟩ = some (.int .i64 (N n).1) ∧ w.cell? ⟨b, 9 + n * 3 + 1, none⟩ = some (.int .i64 (N n).2.1) ∧ w.cell? ⟨b, 9 + n * 3 + 2, none⟩ = some (.int .i64 (N n).2.2)
  free : ∀ j, w.frozen? ⟨b, j, none⟩ = false
  lt : b < w.heap.size
theorem cell_of_block {W W' : World} {b j : Nat} (h : W'.heap[b]? = W.heap[b]?) : W'.cell? ⟨b, j, none⟩ = W.cell? ⟨b, j, none⟩ := by
  unfold World.cell?
  simp only [h]
theorem frozen_of_block {W W' : World} {b j : Nat} (h : W'.heap[b]? = W.heap[b]?) : W'.frozen? ⟨b, j, none⟩ = W.frozen? ⟨b, j, none⟩ := by
  unfold World.frozen?
  simp only [h]
theorem AsidAt.of_block {W W' : World} {b : Nat} {po : Nat → Int} {tk : Int} {N : Nums} (h : AsidAt W b po tk N) (hs : W.heap.size ≤ W'.heap.size) (e : W'.heap[b]? = W.heap[b]?) : AsidAt W' b po tk N := by
  have q := fun j => cell_of_block (j := j) e
  exact ⟨fun i hi => (q _).trans (h.pool i hi), (q _).trans h.taken, fun n hn => ⟨(q _).trans (h.num n hn).1, (q _).trans (h.num n hn).2.1, (q _).trans (h.num n hn).2.2⟩, fun j => (frozen_of_block e).trans (h.free j), Nat.lt_of_lt_of_le h.lt hs⟩
theorem AsidAt.call {w w' : World} {b : Nat} {po : Nat → Int} {tk : Int} {N : Nums} (h : AsidAt w b po tk N) (k : Below w.heap.size w w') : AsidAt w' b po tk N := h.of_block k.size (k.block b h.lt)
/-- The place of a pool. -/
def placeP (po : Nat → Int) (obj : Int) (p : Nat) : Bool := po p == obj && obj != 0
def placeF (po : Nat → Int) (obj : Int) : Int × Bool := match (List.range 8).find? (placeP po obj) with
  | some p => (p, true)
  | none => (0, false)
theorem find_range {q : Nat → Bool} {n k : Nat} (hk : k < n) (h : q k = true) (hb : ∀ j, j < k → q j = false) : (List.range n).find? q = some k := by
  rw [List.find?_range_eq_some]
  exact ⟨h, by simpa using hk, fun j hj => by simpa using hb j hj⟩
theorem find_range_none {q : Nat → Bool} {n : Nat} (h : ∀ j, j < n → q j = false) : (List.range n).find? q = none := by
  rw [List.find?_eq_none]
  intro x hx
  simpa using h x (List.mem_range.1 hx)
theorem place_yes {po : Nat → Int} {obj : Int} {k : Nat} (hk : k < 8) (h : placeP po obj k = true) (hb : ∀ j, j < k → placeP po obj j = false) : placeF po obj = ((k : Int), true) := by
  unfold placeF
  rw [find_range hk h hb]
theorem place_no {po : Nat → Int} {obj : Int} (h : ∀ j, j < 8 → placeP po obj j = false) : placeF po obj = (0, false) := by
  unfold placeF
  rw [find_range_none h]
theorem pools_at (x0 x1 x2 x3 x4 x5 x6 x7 : Int) (po : Nat → Int) (h : po 0 = x0 ∧ po 1 = x1 ∧ po 2 = x2 ∧ po 3 = x3 ∧ po 4 = x4 ∧ po 5 = x5 ∧ po 6 = x6 ∧ po 7 = x7) (k : Nat) (hk : k < 8) :
    ∀ w, (Instr.index 57 (.agg #[.int .i64 x0, .int .i64 x1, .int .i64 x2, .int .i64 x3, .int .i64 x4, .int .i64 x5, .int .i64 x6, .int .i64 x7]) (.int .i64 k)).run Try.prog w = .ok (.int .i64 (po k)) w := by
  obtain ⟨h0, h1, h2, h3, h4, h5, h6, h7⟩ := h
  obtain rfl | rfl | rfl | rfl | rfl | rfl | rfl | rfl : k = 0 ∨ k = 1 ∨ k = 2 ∨ k = 3 ∨ k = 4 ∨ k = 5 ∨ k = 6 ∨ k = 7 := by omega
  · rw [h0]; exact fun _ => by kernel_rfl
  · rw [h1]; exact fun _ => by kernel_rfl
  · rw [h2]; exact fun _ => by kernel_rfl
  · rw [h3]; exact fun _ => by kernel_rfl
  · rw [h4]; exact fun _ => by kernel_rfl
  · rw [h5]; exact fun _ => by kernel_rfl
  · rw [h6]; exact fun _ => by kernel_rfl
  · rw [h7]; exact fun _ => by kernel_rfl
set_option maxHeartbeats 1000000 in
theorem place_any (w : World) (b : Nat) (po : Nat → Int) (tk : Int) (N : Nums) (obj : Int) (h : AsidAt w b po tk N) :
    Calls Try.prog 22 #[.pointer (some ⟨b, 0, none⟩), .int .i64 obj] w fun e w' => e = .returned (.tuple #[.int .i64 (placeF po obj).1, .bool (placeF po obj).2]) ∧ w = w' := by
  have c0 := h.pool 0 (by decide)
  have c1 := h.pool 1 (by decide)
  have c2 := h.pool 2 (by decide)
  have c3 := h.pool 3 (by decide)
  have c4 := h.pool 4 (by decide)
  have c5 := h.pool 5 (by decide)
  have c6 := h.pool 6 (by decide)
  have c7 := h.pool 7 (by decide)
  have HIX := fun k hk => pools_at (po 0) (po 1) (po 2) (po 3) (po 4) (po 5) (po 6) (po 7) po ⟨rfl, rfl, rfl, rfl, rfl, rfl, rfl, rfl⟩ k hk
  have HI := Lib.hid HIX
  clear h HIX
  go_enter Try.func22, Try.ntmps22
  go_wp2
  go_step3
  go_wp2
  go_step3
  go_wp2
  go_loop [6, 7, 14] (fun f o i => ∃ k : Nat, k ≤ 8 ∧ i = .int .i64 k ∧ f = .int .i64 0 ∧ o = .bool false ∧ Hid (∀ j, j < k → placeP po obj j = false)) (fun _ _ i => 8 - (intOf i).toNat)
  case atStart => exact ⟨0, by omega, rfl, rfl, rfl, Lib.hid fun _ h => absurd h (by omega)⟩
  case round =>
    obtain ⟨k, hk, rfl, rfl, rfl, hno⟩ := hrel
    by_cases hlt : k < 8
    · have hlt' : (k : Int) < 8 := by omega
      have hix := HI.out k hlt
      have no : placeP po obj k = false → Hid (∀ j, j < k + 1 → placeP po obj j = false) := fun hp => Lib.hid fun j hj => (by
        rcases Nat.lt_or_ge j k with g | g
        · exact hno.out j g
        · obtain rfl : j = k := by omega
          exact hp)
      have NO := Lib.hid no
      have hyes : placeP po obj k = true → placeF po obj = ((k : Int), true) := fun hp => place_yes hlt hp hno.out
      have HY := Lib.hid hyes
      clear no hyes
      cases h1 : (po k == obj)
      · go_wp2
        go_round
        case rel => exact ⟨k + 1, by omega, by go_num, rfl, rfl, NO.out (by simp [placeP, h1])⟩
        case measure => simp [intOf]; omega
      · cases h2 : (obj == 0)
        · have hp : placeP po obj k = true := by simp [placeP, h1, bne, h2]
          have hr := HY.out hp
          have HR := Lib.hid hr
          clear hr hp
          go_wp2
          (try rw [Exit.noGoto_ret])
          rw [HR.out]
          go_ret2
          exact ⟨rfl, rfl⟩
        · go_wp2
          go_round
          case rel => exact ⟨k + 1, by omega, by go_num, rfl, rfl, NO.out (by simp [placeP, bne, h2])⟩
          case measure => simp [intOf]; omega
    · obtain rfl : k = 8 := by omega
      have hr := place_no hno.out
      have HR := Lib.hid hr
      clear hr
      go_wp2
      (try rw [Exit.noGoto_ret])
      rw [HR.out]
      go_ret2
      exact ⟨rfl, rfl⟩
end Go.Proofs.Ytfladcnkphcicaa
