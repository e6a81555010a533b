/- package ends, over tables of any number of rows: First, find. -/
import Derived.Test.YtmbjaemflmbljaaEn2
import Derived.Test.YtmbjaemflmbljaaLink
import Derived.Stop.RegionWithIn
import Derived.RangeFuncNested
namespace Go.Proofs.Ytmbjaemflmbljaa
set_option linter.unusedVariables false
set_option linter.unusedSimpArgs false
open Go.ChangeShapes Go.WideShapes Go.ChangeAt Go.RowKit Go.Shelf
open TabE
attribute [local go_sem] Oper.semAt_some

/-- Who waits longest at an endpoint. -/
def firstN (L : List En) (id : Int) : Int × Bool × Bool := match (listN L id).1 with
  | [] => (0, false, false)
  | z :: _ => (z, (listN L id).2, true)
theorem own_cons {w : World} {B : Nat} {v : Value} {z : Int} {l : List Int} (h : w.ownsRow B 3 1 v (z :: l).length ((z :: l).map (Value.int .i64))) : ∃ g c, v = .slice (some ⟨g, 0, none⟩) (z :: l).length c ∧ w.cell? ⟨g, 0, none⟩ = some (.int .i64 z) := by
  rcases own_form h with ⟨_, e0⟩ | ⟨g, c, e, _, _, _, hcs⟩
  · cases e0
  · exact ⟨g, c, e, hcs 0 z rfl⟩
set_option maxRecDepth 100000 in
set_option maxHeartbeats 1000000 in
theorem efirst_any (w : World) (b base : Nat) (tv : Value) (L : List En) (id : Int) (h : EndsAt w b base tv L) (hm : ∀ x ∈ L, x.l.length ≤ 1000000) :
    Calls Try.prog 20 #[.pointer (some ⟨b, 0, none⟩), .int .i64 id] w fun e w' => e = .returned (.tuple #[.int .i64 (firstN L id).1, .bool (firstN L id).2.1, .bool (firstN L id).2.2]) ∧ Below w.heap.size w w' := by
  have HL := Lib.hid (elist_any w b base tv L id h hm)
  clear h hm
  unfold firstN
  generalize listN L id = q at *
  obtain ⟨l, s⟩ := q
  cases l with
  | nil =>
    go_enter Try.func20, Try.ntmps20
    go_wp2_with (go_at_call 22; refine HL.out.mono ?_; rintro e w1 ⟨r, rfl, hr, hb1⟩; have HR := Lib.hid hr; obtain ⟨a, c, rfl⟩ : ∃ a c, r = .slice a 0 c := own_len hr; clear hr)
    exact bodyPost_ret (v := .tuple #[.int .i64 0, .bool false, .bool false]) (by simp [results, Try.results20, go_sem]) rfl ⟨rfl, hb1⟩
  | cons z l =>
    have hz : ¬ ((z :: l).length : Int) = 0 := by rw [List.length_cons]; omega
    have hz2 : ¬ (z :: l).length = 0 := by simp
    have hz3 : (0 : Int) < ((z :: l).length : Int) := by rw [List.length_cons]; omega
    obtain ⟨n, hn⟩ : ∃ n, (z :: l).length = n := ⟨_, rfl⟩
    rw [hn] at hz hz2 hz3
    have HN := Lib.hid hn
    clear hn
    go_enter Try.func20, Try.ntmps20
    go_wp2_with (go_at_call 22; refine HL.out.mono ?_; rintro e w1 ⟨r, rfl, hr, hb1⟩; obtain ⟨gr, cr, rfl, c0⟩ := own_cons hr; clear hr; rw [HN.out])
    exact bodyPost_ret (v := .tuple #[.int .i64 z, .bool s, .bool true]) (by simp [results, Try.results20, go_sem]) rfl ⟨rfl, hb1⟩
/-- The first place of a number. -/
def IdxAt (l : List Int) (t : Int) (j : Nat) : Prop := l[j]? = some t ∧ ∀ (i : Nat) (z : Int), i < j → l[i]? = some z → z ≠ t
set_option maxRecDepth 100000 in
set_option maxHeartbeats 1000000 in
theorem idx_any (w : World) (B : Nat) (v : Value) (l : List Int) (t : Int) (h : w.ownsRow B 3 1 v l.length (l.map (Value.int .i64))) (hm : l.length ≤ 1000000) :
    Calls Try.prog 37 #[v, .int .i64 t] w fun e w' => ((∃ j : Nat, e = .returned (.int .i64 j) ∧ IdxAt l t j) ∨ (e = .returned (.int .i64 (-1)) ∧ t ∉ l)) ∧ w = w' := by
  obtain ⟨n, hn⟩ : ∃ n, l.length = n := ⟨_, rfl⟩
  obtain ⟨a, c, rfl, hcs⟩ : ∃ a c, v = .slice a n c ∧ ∀ j z, l[j]? = some z → ∃ g, a = some ⟨g, 0, none⟩ ∧ w.cell? ⟨g, j, none⟩ = some (.int .i64 z) := by
    rcases own_form h with ⟨e, h0⟩ | ⟨g, c, e, _, _, _, hc⟩
    · exact ⟨none, 0, by rw [e, ← hn, h0]; rfl, fun j z hj => by rw [h0] at hj; simp at hj⟩
    · exact ⟨_, _, by rw [e, hn], fun j z hj => ⟨g, rfl, hc j z hj⟩⟩
  have HC := Lib.hid hcs
  have HN := Lib.hid hn
  rw [hn] at hm
  clear h hcs hn
  go_enter Try.func37, Try.ntmps37
  go_wp2
  go_loopw [8, 5] (fun i x wr => ∃ j : Nat, j ≤ n ∧ i = .int .i64 j ∧ Hid (∀ (i : Nat) (z : Int), i < j → l[i]? = some z → z ≠ t) ∧ w = wr) (fun i _ _ => n - (intOf i).toNat)
  case atStart => exact ⟨0, Nat.zero_le _, rfl, Lib.hid (fun i z h => by omega), rfl⟩
  case round =>
    obtain ⟨j, hj, rfl, HI, rfl⟩ := hrel
    by_cases hlt : j < n
    · have hltI : (j : Int) < n := by omega
      obtain ⟨z, hz⟩ : ∃ z, l[j]? = some z := ⟨l[j]'(by have := HN.out; omega), List.getElem?_eq_getElem _⟩
      obtain ⟨g, rfl, c0⟩ := HC.out j z hz
      have HZ := Lib.hid hz
      clear hz
      by_cases he : t = z
      · have HE := Lib.hid he
        have hd : decide (t = z) = true := decide_eq_true he
        have hd2 : (t == z) = true := by simp [he]
        clear he
        go_wp2
        go_ret
        exact ⟨.inl ⟨j, rfl, by rw [HE.out]; exact HZ.out, HI.out⟩, rfl⟩
      · have HE := Lib.hid he
        have hd : decide (t = z) = false := decide_eq_false he
        have hd2 : (t == z) = false := by simp [he]
        go_wp2
        go_roundw
        case rel => exact ⟨j + 1, by omega, by go_num, Lib.hid (fun i y hi hy => by
          rcases Nat.lt_or_ge i j with q | q
          · exact HI.out i y q hy
          · obtain rfl : i = j := by omega
            rw [HZ.out] at hy
            cases hy
            exact fun e => HE.out e.symm), trivial⟩
        case measure => first | (simp [intOf]; done) | (simp [intOf]; omega)
    · obtain rfl : j = n := by omega
      go_wp2
      go_ret
      exact ⟨.inr ⟨rfl, fun hmem => by
        obtain ⟨i, hi⟩ := List.getElem?_of_mem hmem
        exact HI.out i t (by have := (List.getElem?_eq_some_iff.1 hi).1; have := HN.out; omega) hi rfl⟩, rfl⟩
theorem calls_round {l n : Nat} {P : Program} {f : Nat} {args : Array Value} {w : World} {R : Ending → World → Prop} (h : Calls P f args w R) : CallsIn (Fence.wide.inRound l) n P f args w R := callsIn_wide.2 h
end Go.Proofs.Ytmbjaemflmbljaa
