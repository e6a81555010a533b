/- package tree: insert's walk, four ways. -/
import Derived.Test.YtebgmphbkjpfcaaTr6
import Derived.Deep.RegionLaw
namespace Go.Proofs.Ytebgmphbkjpfcaa
set_option linter.unusedVariables false
set_option linter.unusedSimpArgs false
open Go.ChangeShapes Go.WideShapes Go.ChangeAt Go.RowKit

theorem insert_wA (w : World) (b p m : Nat) (o i : Int) (u1 u3 u4 d : Value) (Q : World → Prop) (n0 : b ≠ p) (n1 : p ≠ b) (c0 : w.cell? ⟨b, 0, none⟩ = some (.pointer none)) (c1 : w.cell? ⟨b, 1, none⟩ = some u1) (c2 : w.cell? ⟨b, 2, none⟩ = some (.map (some m))) (cz : ∀ k, w.frozen? ⟨b, k, none⟩ = false)
    (p0 : w.cell? ⟨p, 0, none⟩ = some (.int .i64 o)) (p1 : w.cell? ⟨p, 1, none⟩ = some (.int .i64 i)) (p2 : w.cell? ⟨p, 2, none⟩ = some d) (p3 : w.cell? ⟨p, 3, none⟩ = some u3) (p4 : w.cell? ⟨p, 4, none⟩ = some u4) (pz : ∀ k, w.frozen? ⟨p, k, none⟩ = false)
    (hQ : ∃ W', (Instr.mapUpdate 59 (.map (some m)) (slV o i) (.pointer (some ⟨p, 0, none⟩))).run Try.prog (insW w p ⟨b, 0, none⟩ ⟨b, 1, none⟩ (.pointer none) (.pointer none)).drew = .ok () W' ∧ Q W') :
    Calls Try.prog 43 #[.pointer (some ⟨b, 0, none⟩), .pointer (some ⟨p, 0, none⟩), .pointer none] w fun e w' => (∃ v, e = .returned v) ∧ Q w' := by
  obtain ⟨W', hr, hQ⟩ := hQ
  unfold insW at hr
  have HQ := Lib.hid hQ
  clear hQ
  go_enter Try.func43, Try.ntmps43
  go_upto_region 7 with fail
  go_region
  all_goals
    go_wp2
    go_end0
    exact ⟨⟨_, rfl⟩, HQ.out⟩
theorem insert_wB (w : World) (b p m : Nat) (o i : Int) (r : Nat) (u1 u3 u4 d : Value) (Q : World → Prop) (n0 : b ≠ p) (n1 : p ≠ b) (n2 : r ≠ p) (n3 : p ≠ r) (n4 : r ≠ b) (n5 : b ≠ r) (c0 : w.cell? ⟨b, 0, none⟩ = some (.pointer (some ⟨r, 0, none⟩))) (c1 : w.cell? ⟨b, 1, none⟩ = some u1) (c2 : w.cell? ⟨b, 2, none⟩ = some (.map (some m))) (cz : ∀ k, w.frozen? ⟨b, k, none⟩ = false)
    (p0 : w.cell? ⟨p, 0, none⟩ = some (.int .i64 o)) (p1 : w.cell? ⟨p, 1, none⟩ = some (.int .i64 i)) (p2 : w.cell? ⟨p, 2, none⟩ = some d) (p3 : w.cell? ⟨p, 3, none⟩ = some u3) (p4 : w.cell? ⟨p, 4, none⟩ = some u4) (pz : ∀ k, w.frozen? ⟨p, k, none⟩ = false)
    (v3 : Value) (r3 : w.cell? ⟨r, 3, none⟩ = some v3) (rz : ∀ k, w.frozen? ⟨r, k, none⟩ = false)
    (hQ : ∃ W', (Instr.mapUpdate 59 (.map (some m)) (slV o i) (.pointer (some ⟨p, 0, none⟩))).run Try.prog (insW w p ⟨b, 0, none⟩ ⟨r, 3, none⟩ (.pointer none) (.pointer (some ⟨r, 0, none⟩))).drew = .ok () W' ∧ Q W') :
    Calls Try.prog 43 #[.pointer (some ⟨b, 0, none⟩), .pointer (some ⟨p, 0, none⟩), .pointer none] w fun e w' => (∃ v, e = .returned v) ∧ Q w' := by
  obtain ⟨W', hr, hQ⟩ := hQ
  unfold insW at hr
  have HQ := Lib.hid hQ
  clear hQ
  go_enter Try.func43, Try.ntmps43
  go_upto_region 7 with fail
  go_region
  all_goals
    go_wp2
    go_end0
    exact ⟨⟨_, rfl⟩, HQ.out⟩
theorem insert_wC (w : World) (b p m : Nat) (o i : Int) (s : Nat) (u0 u1 u3 u4 d : Value) (Q : World → Prop) (n0 : b ≠ p) (n1 : p ≠ b) (n2 : s ≠ p) (n3 : p ≠ s) (n4 : s ≠ b) (n5 : b ≠ s) (c0 : w.cell? ⟨b, 0, none⟩ = some (u0)) (c1 : w.cell? ⟨b, 1, none⟩ = some u1) (c2 : w.cell? ⟨b, 2, none⟩ = some (.map (some m))) (cz : ∀ k, w.frozen? ⟨b, k, none⟩ = false)
    (p0 : w.cell? ⟨p, 0, none⟩ = some (.int .i64 o)) (p1 : w.cell? ⟨p, 1, none⟩ = some (.int .i64 i)) (p2 : w.cell? ⟨p, 2, none⟩ = some d) (p3 : w.cell? ⟨p, 3, none⟩ = some u3) (p4 : w.cell? ⟨p, 4, none⟩ = some u4) (pz : ∀ k, w.frozen? ⟨p, k, none⟩ = false)
    (s4 : w.cell? ⟨s, 4, none⟩ = some (.pointer none)) (sz : ∀ k, w.frozen? ⟨s, k, none⟩ = false)
    (hQ : ∃ W', (Instr.mapUpdate 59 (.map (some m)) (slV o i) (.pointer (some ⟨p, 0, none⟩))).run Try.prog (insW w p ⟨s, 4, none⟩ ⟨b, 1, none⟩ (.pointer (some ⟨s, 0, none⟩)) (.pointer none)).drew = .ok () W' ∧ Q W') :
    Calls Try.prog 43 #[.pointer (some ⟨b, 0, none⟩), .pointer (some ⟨p, 0, none⟩), .pointer (some ⟨s, 0, none⟩)] w fun e w' => (∃ v, e = .returned v) ∧ Q w' := by
  obtain ⟨W', hr, hQ⟩ := hQ
  unfold insW at hr
  have HQ := Lib.hid hQ
  clear hQ
  go_enter Try.func43, Try.ntmps43
  go_upto_region 7 with fail
  go_region
  all_goals
    go_wp2
    go_end0
    exact ⟨⟨_, rfl⟩, HQ.out⟩
theorem insert_wD (w : World) (b p m : Nat) (o i : Int) (s : Nat) (r : Nat) (u0 u1 u3 u4 d : Value) (Q : World → Prop) (n0 : b ≠ p) (n1 : p ≠ b) (n2 : s ≠ p) (n3 : p ≠ s) (n4 : s ≠ b) (n5 : b ≠ s) (n6 : r ≠ p) (n7 : p ≠ r) (n8 : r ≠ b) (n9 : b ≠ r) (n10 : s ≠ r) (n11 : r ≠ s) (c0 : w.cell? ⟨b, 0, none⟩ = some (u0)) (c1 : w.cell? ⟨b, 1, none⟩ = some u1) (c2 : w.cell? ⟨b, 2, none⟩ = some (.map (some m))) (cz : ∀ k, w.frozen? ⟨b, k, none⟩ = false)
    (p0 : w.cell? ⟨p, 0, none⟩ = some (.int .i64 o)) (p1 : w.cell? ⟨p, 1, none⟩ = some (.int .i64 i)) (p2 : w.cell? ⟨p, 2, none⟩ = some d) (p3 : w.cell? ⟨p, 3, none⟩ = some u3) (p4 : w.cell? ⟨p, 4, none⟩ = some u4) (pz : ∀ k, w.frozen? ⟨p, k, none⟩ = false)
    (s4 : w.cell? ⟨s, 4, none⟩ = some (.pointer (some ⟨r, 0, none⟩))) (sz : ∀ k, w.frozen? ⟨s, k, none⟩ = false)
    (v3 : Value) (r3 : w.cell? ⟨r, 3, none⟩ = some v3) (rz : ∀ k, w.frozen? ⟨r, k, none⟩ = false)
    (hQ : ∃ W', (Instr.mapUpdate 59 (.map (some m)) (slV o i) (.pointer (some ⟨p, 0, none⟩))).run Try.prog (insW w p ⟨s, 4, none⟩ ⟨r, 3, none⟩ (.pointer (some ⟨s, 0, none⟩)) (.pointer (some ⟨r, 0, none⟩))).drew = .ok () W' ∧ Q W') :
    Calls Try.prog 43 #[.pointer (some ⟨b, 0, none⟩), .pointer (some ⟨p, 0, none⟩), .pointer (some ⟨s, 0, none⟩)] w fun e w' => (∃ v, e = .returned v) ∧ Q w' := by
  obtain ⟨W', hr, hQ⟩ := hQ
  unfold insW at hr
  have HQ := Lib.hid hQ
  clear hQ
  go_enter Try.func43, Try.ntmps43
  go_upto_region 7 with fail
  go_region
  all_goals
    go_wp2
    go_end0
    exact ⟨⟨_, rfl⟩, HQ.out⟩
end Go.Proofs.Ytebgmphbkjpfcaa
