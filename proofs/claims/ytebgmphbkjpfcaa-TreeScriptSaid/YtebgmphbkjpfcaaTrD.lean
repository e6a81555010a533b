/- package tree: unlink's walk, four ways. -/
import Derived.Test.YtebgmphbkjpfcaaTrC
import Derived.Lib.SmallJoins
namespace Go.Proofs.Ytebgmphbkjpfcaa
set_option linter.unusedVariables false
set_option linter.unusedSimpArgs false
open Go.ChangeShapes Go.WideShapes Go.ChangeAt Go.RowKit Go.MapKept Go.ChangeMaps

theorem unlink_wA (w : World) (b p m : Nat) (o i : Int) (u0 u1 d : Value) (Q : World → Prop) (n0 : b ≠ p) (n1 : p ≠ b) (c0 : w.cell? ⟨b, 0, none⟩ = some u0) (c1 : w.cell? ⟨b, 1, none⟩ = some u1) (c2 : w.cell? ⟨b, 2, none⟩ = some (.map (some m))) (cz : ∀ k, w.frozen? ⟨b, k, none⟩ = false)
    (p0 : w.cell? ⟨p, 0, none⟩ = some (.int .i64 o)) (p1 : w.cell? ⟨p, 1, none⟩ = some (.int .i64 i)) (p2 : w.cell? ⟨p, 2, none⟩ = some d) (p3 : w.cell? ⟨p, 3, none⟩ = some (.pointer none)) (p4 : w.cell? ⟨p, 4, none⟩ = some (.pointer none)) (pz : ∀ k, w.frozen? ⟨p, k, none⟩ = false)
    (hQ : ∀ W, W.heap = ((w.setCell ⟨b, 0, none⟩ (.pointer none)).setCell ⟨b, 1, none⟩ (.pointer none)).heap → W.os = w.os → W.tape = w.tape → W.output = w.output → ∃ W', (Builtin.delete_ #[59, 31] 0 #[.map (some m), slV o i]).run Try.prog W = .ok (.tuple #[]) W' ∧ Q W') :
    Calls Try.prog 41 #[.pointer (some ⟨b, 0, none⟩), .pointer (some ⟨p, 0, none⟩)] w fun e w' => (∃ v, e = .returned v) ∧ Q w' := by
  obtain ⟨W', hr, hQ⟩ := hQ ((w.setCell ⟨b, 0, none⟩ (.pointer none)).setCell ⟨b, 1, none⟩ (.pointer none)).drew rfl rfl rfl rfl
  have HQ := Lib.hid hQ
  clear hQ
  go_enter Try.func41, Try.ntmps41
  go_upto_region 6 with fail
  go_region
  all_goals
    go_wp2
    go_end0
    exact ⟨⟨_, rfl⟩, HQ.out⟩
theorem unlink_wB (w : World) (b p m : Nat) (o i : Int) (r : Nat) (u0 u1 d : Value) (Q : World → Prop) (n0 : b ≠ p) (n1 : p ≠ b) (n2 : r ≠ p) (n3 : p ≠ r) (n4 : r ≠ b) (n5 : b ≠ r) (c0 : w.cell? ⟨b, 0, none⟩ = some u0) (c1 : w.cell? ⟨b, 1, none⟩ = some u1) (c2 : w.cell? ⟨b, 2, none⟩ = some (.map (some m))) (cz : ∀ k, w.frozen? ⟨b, k, none⟩ = false)
    (p0 : w.cell? ⟨p, 0, none⟩ = some (.int .i64 o)) (p1 : w.cell? ⟨p, 1, none⟩ = some (.int .i64 i)) (p2 : w.cell? ⟨p, 2, none⟩ = some d) (p3 : w.cell? ⟨p, 3, none⟩ = some (.pointer none)) (p4 : w.cell? ⟨p, 4, none⟩ = some (.pointer (some ⟨r, 0, none⟩))) (pz : ∀ k, w.frozen? ⟨p, k, none⟩ = false)
    (v3 : Value) (r3 : w.cell? ⟨r, 3, none⟩ = some v3) (rz : ∀ k, w.frozen? ⟨r, k, none⟩ = false)
    (hQ : ∀ W, W.heap = ((w.setCell ⟨b, 0, none⟩ (.pointer (some ⟨r, 0, none⟩))).setCell ⟨r, 3, none⟩ (.pointer none)).heap → W.os = w.os → W.tape = w.tape → W.output = w.output → ∃ W', (Builtin.delete_ #[59, 31] 0 #[.map (some m), slV o i]).run Try.prog W = .ok (.tuple #[]) W' ∧ Q W') :
    Calls Try.prog 41 #[.pointer (some ⟨b, 0, none⟩), .pointer (some ⟨p, 0, none⟩)] w fun e w' => (∃ v, e = .returned v) ∧ Q w' := by
  obtain ⟨W', hr, hQ⟩ := hQ ((w.setCell ⟨b, 0, none⟩ (.pointer (some ⟨r, 0, none⟩))).setCell ⟨r, 3, none⟩ (.pointer none)).drew.drew rfl rfl rfl rfl
  have HQ := Lib.hid hQ
  clear hQ
  go_enter Try.func41, Try.ntmps41
  go_upto_region 5 with fail
  go_region
  all_goals
    go_upto_region 6 with fail
    go_region
    all_goals
      go_wp2
      go_end0
      exact ⟨⟨_, rfl⟩, HQ.out⟩
theorem unlink_wC (w : World) (b p m : Nat) (o i : Int) (s : Nat) (u0 u1 d : Value) (Q : World → Prop) (n0 : b ≠ p) (n1 : p ≠ b) (n2 : s ≠ p) (n3 : p ≠ s) (n4 : s ≠ b) (n5 : b ≠ s) (c0 : w.cell? ⟨b, 0, none⟩ = some u0) (c1 : w.cell? ⟨b, 1, none⟩ = some u1) (c2 : w.cell? ⟨b, 2, none⟩ = some (.map (some m))) (cz : ∀ k, w.frozen? ⟨b, k, none⟩ = false)
    (p0 : w.cell? ⟨p, 0, none⟩ = some (.int .i64 o)) (p1 : w.cell? ⟨p, 1, none⟩ = some (.int .i64 i)) (p2 : w.cell? ⟨p, 2, none⟩ = some d) (p3 : w.cell? ⟨p, 3, none⟩ = some (.pointer (some ⟨s, 0, none⟩))) (p4 : w.cell? ⟨p, 4, none⟩ = some (.pointer none)) (pz : ∀ k, w.frozen? ⟨p, k, none⟩ = false)
    (v4 : Value) (s4 : w.cell? ⟨s, 4, none⟩ = some v4) (sz : ∀ k, w.frozen? ⟨s, k, none⟩ = false)
    (hQ : ∀ W, W.heap = ((w.setCell ⟨s, 4, none⟩ (.pointer none)).setCell ⟨b, 1, none⟩ (.pointer (some ⟨s, 0, none⟩))).heap → W.os = w.os → W.tape = w.tape → W.output = w.output → ∃ W', (Builtin.delete_ #[59, 31] 0 #[.map (some m), slV o i]).run Try.prog W = .ok (.tuple #[]) W' ∧ Q W') :
    Calls Try.prog 41 #[.pointer (some ⟨b, 0, none⟩), .pointer (some ⟨p, 0, none⟩)] w fun e w' => (∃ v, e = .returned v) ∧ Q w' := by
  obtain ⟨W', hr, hQ⟩ := hQ ((w.setCell ⟨s, 4, none⟩ (.pointer none)).setCell ⟨b, 1, none⟩ (.pointer (some ⟨s, 0, none⟩))).drew.drew rfl rfl rfl rfl
  have HQ := Lib.hid hQ
  clear hQ
  go_enter Try.func41, Try.ntmps41
  go_upto_region 2 with fail
  go_region
  all_goals
    go_upto_region 6 with fail
    go_region
    all_goals
      go_wp2
      go_end0
      exact ⟨⟨_, rfl⟩, HQ.out⟩
theorem unlink_wD (w : World) (b p m : Nat) (o i : Int) (s : Nat) (r : Nat) (u0 u1 d : Value) (Q : World → Prop) (n0 : b ≠ p) (n1 : p ≠ b) (n2 : s ≠ p) (n3 : p ≠ s) (n4 : s ≠ b) (n5 : b ≠ s) (n6 : r ≠ p) (n7 : p ≠ r) (n8 : r ≠ b) (n9 : b ≠ r) (n10 : s ≠ r) (n11 : r ≠ s) (c0 : w.cell? ⟨b, 0, none⟩ = some u0) (c1 : w.cell? ⟨b, 1, none⟩ = some u1) (c2 : w.cell? ⟨b, 2, none⟩ = some (.map (some m))) (cz : ∀ k, w.frozen? ⟨b, k, none⟩ = false)
    (p0 : w.cell? ⟨p, 0, none⟩ = some (.int .i64 o)) (p1 : w.cell? ⟨p, 1, none⟩ = some (.int .i64 i)) (p2 : w.cell? ⟨p, 2, none⟩ = some d) (p3 : w.cell? ⟨p, 3, none⟩ = some (.pointer (some ⟨s, 0, none⟩))) (p4 : w.cell? ⟨p, 4, none⟩ = some (.pointer (some ⟨r, 0, none⟩))) (pz : ∀ k, w.frozen? ⟨p, k, none⟩ = false)
    (v4 : Value) (s4 : w.cell? ⟨s, 4, none⟩ = some v4) (sz : ∀ k, w.frozen? ⟨s, k, none⟩ = false)
    (v3 : Value) (r3 : w.cell? ⟨r, 3, none⟩ = some v3) (rz : ∀ k, w.frozen? ⟨r, k, none⟩ = false)
    (hQ : ∀ W, W.heap = ((w.setCell ⟨s, 4, none⟩ (.pointer (some ⟨r, 0, none⟩))).setCell ⟨r, 3, none⟩ (.pointer (some ⟨s, 0, none⟩))).heap → W.os = w.os → W.tape = w.tape → W.output = w.output → ∃ W', (Builtin.delete_ #[59, 31] 0 #[.map (some m), slV o i]).run Try.prog W = .ok (.tuple #[]) W' ∧ Q W') :
    Calls Try.prog 41 #[.pointer (some ⟨b, 0, none⟩), .pointer (some ⟨p, 0, none⟩)] w fun e w' => (∃ v, e = .returned v) ∧ Q w' := by
  obtain ⟨W', hr, hQ⟩ := hQ ((w.setCell ⟨s, 4, none⟩ (.pointer (some ⟨r, 0, none⟩))).setCell ⟨r, 3, none⟩ (.pointer (some ⟨s, 0, none⟩))).drew.drew.drew rfl rfl rfl rfl
  have HQ := Lib.hid hQ
  clear hQ
  go_enter Try.func41, Try.ntmps41
  go_upto_region 2 with fail
  go_region
  all_goals
    go_upto_region 5 with fail
    go_region
    all_goals
      go_upto_region 6 with fail
      go_region
      all_goals
        go_wp2
        go_end0
        exact ⟨⟨_, rfl⟩, HQ.out⟩
end Go.Proofs.Ytebgmphbkjpfcaa
