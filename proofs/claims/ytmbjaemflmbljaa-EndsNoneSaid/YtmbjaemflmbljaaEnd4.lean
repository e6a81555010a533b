/- The endpoints: the iterator over a table of one row. -/
import Derived.Test.YtmbjaemflmbljaaEnd3
namespace Go.Proofs.Ytmbjaemflmbljaa
set_option linter.unusedVariables false
set_option linter.unusedSimpArgs false
open Go.ChangeShapes Go.WideShapes Go.ChangeAt Go.RowKit Go.Shelf
attribute [local go_sem] Oper.semAt_some

def KpT (b pb g : Nat) (W W' : World) : Prop := W'.heap[b]? = W.heap[b]? ∧ W'.heap[pb]? = W.heap[pb]? ∧ W'.heap[g]? = W.heap[g]? ∧ W.heap.size ≤ W'.heap.size
theorem KpT.trans {b pb g : Nat} {A B C : World} (h : KpT b pb g A B) (k : KpT b pb g B C) : KpT b pb g A C := ⟨k.1.trans h.1, k.2.1.trans h.2.1, k.2.2.1.trans h.2.2.1, Nat.le_trans h.2.2.2 k.2.2.2⟩
abbrev encT (g : Nat) (x : Fin 1) : Array Value := #[.int .i64 6, .pointer (some ⟨g, 1, none⟩)]
theorem two_ways {A B C : World → Prop} {e : Ending} {W : World} (h : (e = .returned (.bool true) ∧ A W ∧ B W) ∨ (e = .returned (.bool false) ∧ C W)) : ∃ t, e = .returned (.bool t) ∧ (t = true → A W ∧ B W) ∧ (t = false → C W) := by
  rcases h with ⟨h1, h2⟩ | ⟨h1, h2⟩
  · exact ⟨true, h1, fun _ => h2, fun e => (by cases e)⟩
  · exact ⟨false, h1, fun e => (by cases e), fun _ => h2⟩
set_option maxRecDepth 100000 in
set_option maxHeartbeats 1000000 in
theorem each1T_seq (q pb b g c : Nat) (w0 : World) (hp : w0.cell? ⟨pb, 0, none⟩ = some (.pointer (some ⟨b, 0, none⟩))) (hb : w0.cell? ⟨b, 0, none⟩ = some (.slice (some ⟨g, 0, none⟩) 1 c)) (hg : w0.cell? ⟨g, 0, none⟩ = some (.int .i64 6)) (lp : pb < w0.heap.size) (lb : b < w0.heap.size) (lg : g < w0.heap.size) :
    SeqStopsK Fence.wide (q + 1) Try.prog 47 #[.pointer (some ⟨pb, 0, none⟩)] (encT g) (KpT b pb g) (fun xs => xs = [0]) (fun pre => True) 1 w0 := by
  intro l J Jx W hB hAb hAx hY h0
  have hK0 : KpT b pb g w0 W := ⟨hB.block b lb, hB.block pb lp, hB.block g lg, hB.size⟩
  have HY := Lib.hid hY
  have HAB := Lib.hid hAb
  have HP := Lib.hid hp
  have HBB := Lib.hid hb
  have HG := Lib.hid hg
  have hbp : W.cell? ⟨pb, 0, none⟩ = some (.pointer (some ⟨b, 0, none⟩)) := (cell_of_block hK0.2.1).trans hp
  have hbb : W.cell? ⟨b, 0, none⟩ = some (.slice (some ⟨g, 0, none⟩) 1 c) := (cell_of_block hK0.1).trans hb
  clear hY hAb hAx hB hp hb hg
  refine callsIn_of_wp Try.func47 rfl trivial ?_ rfl
  simp only [Try.ntmps47, List.size_toArray, List.length_cons, List.length_nil, Nat.reduceAdd, Nat.reduceSub, Array.replicate_succ, Array.replicate_zero, List.push_toArray, List.append_toArray, List.nil_append, List.cons_append]
  gi_wp2
  clear hbp hbb
  gi_loopw [9] (fun i wr => ∃ k : Nat, k ≤ 1 ∧ i = .int .i64 k ∧ (k = 0 → J [] wr) ∧ (k = 1 → J [0] wr) ∧ KpT b pb g w0 wr) (fun i _ => 1 - (intOf i).toNat)
  case atStart => exact ⟨0, by omega, rfl, fun _ => h0, fun e => (by cases e), hK0⟩
  case round =>
    obtain ⟨k, hk, rfl, hJ0, hJ1, hK⟩ := hrel
    have HK := Lib.hid hK
    rcases (by omega : k = 0 ∨ k = 1) with rfl | rfl
    · have c0 : wr.cell? ⟨pb, 0, none⟩ = some (.pointer (some ⟨b, 0, none⟩)) := (cell_of_block hK.2.1).trans HP.out
      have c1 : wr.cell? ⟨b, 0, none⟩ = some (.slice (some ⟨g, 0, none⟩) 1 c) := (cell_of_block hK.1).trans HBB.out
      have c2 : wr.cell? ⟨g, 0, none⟩ = some (.int .i64 6) := (cell_of_block hK.2.2.1).trans HG.out
      have hJd : J [] wr.drew := HAB.out _ wr wr.drew none (hJ0 rfl) ⟨rfl, rfl, rfl, Nat.le_refl _, fun _ _ _ => rfl⟩ (fun r e => by cases e)
      obtain ⟨fn, tmps, assign, body, hy, hR⟩ := HY.out _ (0 : Fin 1) wr.drew hJd (by simp)
      (try dsimp only at hy)
      have HR := Lib.hid hR
      clear hR hJ0 hJ1 hK hJd
      gi_wp2
      gi_region_with (first | (refine (HR.out.mono fun e W' h => two_ways h).mono ?_; rintro e W' ⟨t, rfl, ht⟩))
      all_goals
        cases t
        · have hJx := ht.2 rfl
          gi_wp2
          first
            | refine bodyPost_ret (results_none rfl _ _ _) rfl ?_
            | go_end0
          first
            | exact ⟨⟨_, rfl⟩, .inr ⟨_, trivial, hJx⟩⟩
            | exact ⟨⟨_, rfl⟩, .inr ⟨_, hJx⟩⟩
        · obtain ⟨hJ', hK'⟩ := ht.1 rfl
          gi_wp2
          go_roundw
          case rel => exact ⟨1, by omega, by go_num, fun e => (by cases e), fun _ => hJ', HK.out.trans hK'⟩
          case measure => simp [intOf]
    · have HJ := Lib.hid (hJ1 rfl)
      clear hJ0 hJ1 hK
      gi_wp2
      go_end0
      exact ⟨⟨_, rfl⟩, .inl ⟨_, rfl, HJ.out⟩⟩
theorem eachT_in (n : Nat) (b : Nat) (w : World) :
    CallsIn Fence.wide n Try.prog 44 #[.pointer (some ⟨b, 0, none⟩)] w fun e w' => e = .returned (.func (.func 47) #[] #[.pointer (some ⟨w.heap.size, 0, none⟩)]) ∧ w' = w.alloc (.cells #[.pointer (some ⟨b, 0, none⟩)] 75) := by
  refine callsIn_of_wp Try.func44 rfl trivial ?_ rfl
  simp only [Try.ntmps44, List.size_toArray, List.length_cons, List.length_nil, Nat.reduceAdd, Nat.reduceSub, Array.replicate_succ, Array.replicate_zero, List.push_toArray, List.append_toArray, List.nil_append, List.cons_append]
  gi_wp2
  go_ret
  exact ⟨rfl, rfl⟩
end Go.Proofs.Ytmbjaemflmbljaa
