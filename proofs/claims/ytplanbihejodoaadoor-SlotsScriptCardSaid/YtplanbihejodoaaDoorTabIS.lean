/- A table by whole numbers, of any number of rows: the iterator. -/
import Derived.Test.YtplanbihejodoaaDoorTab7S
import Derived.Test.YtplanbihejodoaaDoorPx
import Derived.LoopIn
import Derived.Stop.RegionWithIn
namespace Go.Proofs.YtplanbihejodoaaDoor
set_option linter.unusedVariables false
set_option linter.unusedSimpArgs false
open Go.ChangeShapes Go.WideShapes Go.ChangeAt Go.RowKit Go.Shelf
attribute [local go_sem] Oper.semAt_some

namespace TabS
/-- What the iterator reads. -/
def Reads (pb b o : Nat) (v : Value) (N : Nat) (keys : Nat → Int) (W : World) : Prop :=
  W.cell? ⟨pb, 0, none⟩ = some (.pointer (some ⟨b, o, none⟩)) ∧ W.cell? ⟨b, o, none⟩ = some v ∧ ∀ g, v.ownBlock = some g → ∀ k, k < N → W.cell? ⟨g, k * 2, none⟩ = some (.int .i64 (keys k))
def encT (v : Value) (keys : Nat → Int) (k : Nat) : Array Value := #[.int .i64 (keys k), .pointer (v.ownBlock.map fun g => ⟨g, k * 2 + 1, none⟩)]
set_option maxRecDepth 100000 in
set_option maxHeartbeats 2000000 in
theorem eachT_px (E : TypeId) (q pb b o N B : Nat) (v : Value) (keys : Nat → Int) (I : Nat → World → Prop) (hv : (v = .slice none 0 0 ∧ N = 0) ∨ ∃ g c, v = .slice (some ⟨g, 0, none⟩) N c) (hN : N ≤ 1000000) (hI : ∀ k W, I k W → Reads pb b o v N keys W) :
    SeqPx E Fence.wide (q + 1) Tryd.prog 52 #[.pointer (some ⟨pb, 0, none⟩)] (encT v keys) I N B := by
  intro l J Jx W hBW hAb hAx hJI hY h0
  have hR0 := hI _ _ (hJI _ _ h0)
  have hbp : W.cell? ⟨pb, 0, none⟩ = some (.pointer (some ⟨b, o, none⟩)) := hR0.1
  have hbb : W.cell? ⟨b, o, none⟩ = some v := hR0.2.1
  have HY := Lib.hid hY
  have HAB := Lib.hid hAb
  have HI := Lib.hid (fun k W h => hI k W (hJI k W h))
  clear hY hAb hAx hI hJI hR0
  rcases hv with ⟨rfl, rfl⟩ | ⟨g, c, rfl⟩
  · have H0 := Lib.hid h0
    clear h0
    refine callsIn_of_wp Tryd.func52 rfl trivial ?_ rfl
    simp only [Tryd.ntmps52, List.size_toArray, List.length_cons, List.length_nil, Nat.reduceAdd, Nat.reduceSub, Array.replicate_succ, Array.replicate_zero, List.push_toArray, List.append_toArray, List.nil_append, List.cons_append]
    gi_wp2
    clear hbp hbb
    gi_loopw [9, 3] (fun i x wr => i = .int .i64 0 ∧ J 0 wr) (fun i _ _ => 0)
    case atStart => exact ⟨rfl, H0.out⟩
    case round =>
      obtain ⟨rfl, hJ⟩ := hrel
      have HJ := Lib.hid hJ
      clear hJ
      gi_wp2
      go_end0
      exact ⟨⟨_, rfl⟩, .inl HJ.out⟩
  · refine callsIn_of_wp Tryd.func52 rfl trivial ?_ rfl
    simp only [Tryd.ntmps52, List.size_toArray, List.length_cons, List.length_nil, Nat.reduceAdd, Nat.reduceSub, Array.replicate_succ, Array.replicate_zero, List.push_toArray, List.append_toArray, List.nil_append, List.cons_append]
    gi_wp2
    clear hbp hbb
    gi_loopw [9, 3] (fun i x wr => ∃ k : Nat, k ≤ N ∧ i = .int .i64 k ∧ J k wr) (fun i _ _ => N - (intOf i).toNat)
    case atStart => exact ⟨0, Nat.zero_le _, rfl, h0⟩
    case round =>
      obtain ⟨k, hk, rfl, hJ⟩ := hrel
      by_cases hlt : k < N
      · obtain ⟨c0, c1, c2'⟩ := HI.out _ _ hJ
        have c2 := c2' g rfl k hlt
        have hltI : (k : Int) < N := by omega
        have hJd : J k wr.drew := HAB.out _ wr wr.drew none hJ ⟨rfl, rfl, rfl, Nat.le_refl _, fun _ _ _ => rfl⟩ (fun r e => by cases e)
        obtain ⟨fn, tmps, assign, body, hy, hR⟩ := HY.out k wr.drew hlt hJd
        unfold encT at hy
        (try dsimp only [Value.ownBlock, Option.map] at hy)
        have HR := Lib.hid (hR.mono (fun e W' h => two_ways (A := fun W' => J (k + 1) W' ∧ HiKept E W.heap.size wr.drew W') (B := fun W' => Jx k W' ∧ HiKept E W.heap.size wr.drew W') h))
        clear hR hJ hJd c2'
        generalize hkk : keys k = kk at *
        clear hkk
        gi_wp2
        gi_region_with (first | (refine HR.out.mono ?_; rintro e W' ⟨t, rfl, ht⟩))
        all_goals
          cases t
          · have hJx := ht.2 rfl
            gi_wp2
            first
              | refine bodyPost_ret (results_none rfl _ _ _) rfl ?_
              | go_end0
            exact ⟨⟨_, rfl⟩, .inr ⟨k, hlt, hJx.1⟩⟩
          · obtain ⟨hJ', hK'⟩ := ht.1 rfl
            gi_wp2
            go_roundw
            case rel => exact ⟨k + 1, by omega, by go_num, hJ'⟩
            case measure => first | (simp [intOf]; done) | (simp [intOf]; omega)
      · obtain rfl : k = N := by omega
        have HJ := Lib.hid hJ
        clear hJ
        gi_wp2
        go_end0
        exact ⟨⟨_, rfl⟩, .inl HJ.out⟩
theorem each_in (n : Nat) (b o : Nat) (w : World) :
    CallsIn Fence.wide n Tryd.prog 45 #[.pointer (some ⟨b, o, none⟩)] w fun e w' => e = .returned (.func (.func 52) #[] #[.pointer (some ⟨w.heap.size, 0, none⟩)]) ∧ w' = w.alloc (.cells #[.pointer (some ⟨b, o, none⟩)] 81) := by
  refine callsIn_of_wp Tryd.func45 rfl trivial ?_ rfl
  simp only [Tryd.ntmps45, List.size_toArray, List.length_cons, List.length_nil, Nat.reduceAdd, Nat.reduceSub, Array.replicate_succ, Array.replicate_zero, List.push_toArray, List.append_toArray, List.nil_append, List.cons_append]
  gi_wp2
  go_ret
  exact ⟨rfl, rfl⟩
end TabS
end Go.Proofs.YtplanbihejodoaaDoor
