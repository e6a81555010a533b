/- chapter 35: a text cut, numbers read, by the own answer. -/
import Derived.Test.YthgmanncmekeeaaDoorSe0
namespace Go.Proofs.YthgmanncmekeeaaDoor
set_option linter.unusedVariables false
set_option linter.unusedSimpArgs false
open Go.ChangeShapes Go.WideShapes Go.ChangeAt Go.RowKit Go.Shelf
attribute [-go_sem] binOp_string_add binOp_string_eql binOp_string_neq run_index_string
attribute [local go_sem] Sc.bs_size
namespace Sc
/-- A row of strings, maybe the middle of one. -/
def StrR (w : World) (p : Option Addr) (L : List Bs) : Prop := ∀ k x, L[k]? = some x → ∃ g o, p = some ⟨g, o, none⟩ ∧ g < w.heap.size ∧ w.cell? ⟨g, o + k, none⟩ = some (.string (bs x))
theorem StrR.call {w w' : World} {p : Option Addr} {L : List Bs} (h : StrR w p L) (hb : Below w.heap.size w w') : StrR w' p L := fun k x hk => by
  obtain ⟨g, o, e, hg, hv⟩ := h k x hk
  exact ⟨g, o, e, Nat.lt_of_lt_of_le hg hb.size, (World.cell?_of_block (hb.block g hg)).trans hv⟩
theorem StrR.own {w : World} {B n : Nat} {v : Value} {L : List Bs} (hn : L.length = n) (h : w.ownsRow B 9 1 v n (L.map (fun x => Value.string (bs x)))) : ∃ p cap, v = .slice p n cap ∧ n ≤ cap ∧ StrR w p L := by
  subst hn
  have hlt := h.lt
  have hcs := fun g hg => h.cells (g := g) hg
  rcases h.2 with ⟨rfl, h0⟩ | ⟨g, cap, cur, rfl, _, _, h1, _⟩
  · rw [List.length_eq_zero_iff.1 h0]; exact ⟨none, 0, rfl, Nat.le_refl _, fun k x h => by simp at h⟩
  · refine ⟨_, _, rfl, h1, fun k x hk => ⟨g, 0, rfl, (hlt g rfl).2, ?_⟩⟩
    have := hcs g rfl k (.string (bs x)) (by rw [List.getElem?_map, hk]; rfl)
    rw [addr_add] at this
    rw [Nat.zero_add]
    exact this
theorem StrR.drop {w : World} {p : Option Addr} {L : List Bs} (h : StrR w p L) (m c : Nat) (hm : m ≤ L.length) (hc : L.length ≤ c) : StrR w (if c = m then p else p.map (·.add m)) (L.drop m) := fun k x hk => by
  rw [List.getElem?_drop] at hk
  have hl := (List.getElem?_eq_some_iff.1 hk).1
  obtain ⟨g, o, rfl, hg, hv⟩ := h _ _ hk
  refine ⟨g, o + m, ?_, hg, ?_⟩
  · rw [if_neg (by omega)]; simp [addr_mid]
  · rw [Nat.add_assoc]; exact hv
theorem StrR.take {w : World} {p : Option Addr} {L : List Bs} (h : StrR w p L) (m : Nat) : StrR w p (L.take m) := fun k x hk => by
  have hl := (List.getElem?_eq_some_iff.1 hk).1
  rw [List.length_take] at hl
  rw [List.getElem?_take_of_lt (by omega)] at hk
  exact h _ _ hk
/-- A row of strings cut at both ends. -/
theorem sl_mid (p : Option Addr) (n c a b : Nat) (hab : a ≤ b) (hbc : b ≤ c) (w : World) : (Instr.slice 79 (.slice p n c) (some (.int .i64 a)) (some (.int .i64 b)) none).run Tryd.prog w = .ok (.slice (if c = a then p else p.map (·.add a)) (b - a) (c - a)) w := by
  have hu := Tryd.underlying79
  have hz := Tryd.sizeOf9
  simp [Instr.slice, Instr.sliceBounds, Instr.sliceBound, asIntOf, go_sem, hab, hbc]
theorem sl_low (p : Option Addr) (n c a : Nat) (hab : a ≤ n) (w : World) : (Instr.slice 79 (.slice p n c) (some (.int .i64 a)) none none).run Tryd.prog w = .ok (.slice (if c = a then p else p.map (·.add a)) (n - a) (c - a)) w := by
  have hu := Tryd.underlying79
  have hz := Tryd.sizeOf9
  simp [Instr.slice, Instr.sliceBounds, Instr.sliceBound, asIntOf, go_sem, hab]
theorem sl_high (p : Option Addr) (n c b : Nat) (hbc : b ≤ c) (w : World) : (Instr.slice 79 (.slice p n c) none (some (.int .i64 b)) none).run Tryd.prog w = .ok (.slice p b c) w := by
  have hu := Tryd.underlying79
  have hz := Tryd.sizeOf9
  simp [Instr.slice, Instr.sliceBounds, Instr.sliceBound, asIntOf, go_sem, hbc]
theorem str_slice (s : Bs) (a k : Nat) (hak : a ≤ k) (hk : k ≤ s.length) (w : World) : (Instr.slice 9 (.string (bs s)) (some (.int .i64 a)) (some (.int .i64 k)) none).run Tryd.prog w = .ok (.string (bs ((s.drop a).take (k - a)))) w := by
  rw [run_slice_string_if _ _ _ _ _ _ _ Tryd.underlying9, if_pos ⟨by omega, by rw [bs_size]; omega⟩, if_pos ⟨by omega, by omega⟩]
  congr 2
  apply ByteArray.ext
  simp [bs, List.extract_eq_take_drop]
theorem byte_eq (a b : UInt8) : ((a.toNat : Int) == (b.toNat : Int)) = decide (a = b) := by
  by_cases h : a = b
  · subst h; simp
  · have : a.toNat ≠ b.toNat := fun e => h (UInt8.toNat_inj.1 e)
    simp only [h, decide_false, beq_eq_false_iff_ne, ne_eq]
    omega
set_option maxRecDepth 100000 in
set_option maxHeartbeats 2000000 in
theorem refsplit_any (s : Bs) (c : UInt8) (hs : s.length ≤ 70000) (w : World) : Calls Tryd.prog 30 #[.string (bs s), .int .u8 c.toNat] w fun e w' => ∃ v, e = .returned v ∧ w'.ownsRow w.heap.size 9 1 v (spl c s).length ((spl c s).map (fun x => Value.string (bs x))) ∧ (spl c s).length ≤ s.length + 1 ∧ Below w.heap.size w w' := by
  obtain ⟨i0, hi0, hz0, hz1, hz2⟩ := info_parts infoStr
  have HI0 := Lib.hid hi0
  clear hi0
  obtain ⟨R, hR⟩ : ∃ R, R = spl c s := ⟨_, rfl⟩
  rw [← hR]
  have HR := Lib.hid hR
  clear hR
  obtain ⟨n, hn⟩ : ∃ n, n = s.length := ⟨_, rfl⟩
  rw [← hn] at hs ⊢
  have HN := Lib.hid hn
  obtain ⟨cn, hcn⟩ : ∃ n, n = c.toNat := ⟨_, rfl⟩
  rw [← hcn]
  have HCN := Lib.hid hcn
  have hsz : (bs s).size = n := by rw [bs_size, hn]
  clear hn hcn
  go_enter Tryd.func30, Tryd.ntmps30
  go_wp2
  go_loopw [5, 6, 7] (fun out at_ i wr => ∃ (k a : Nat) (D : List Bs), k ≤ n + 1 ∧ D.length ≤ k ∧ a ≤ n + 1 ∧ i = .int .i64 k ∧ at_ = .int .i64 a ∧ wr.ownsRow w.heap.size 9 1 out D.length (D.map (fun x => Value.string (bs x))) ∧ Hid (k ≤ n → a ≤ k ∧ c ∉ (s.drop a).take (k - a) ∧ R = D ++ spl c (s.drop a)) ∧ Hid (n < k → R = D) ∧ Below w.heap.size w wr) (fun _ _ i _ => n + 1 - (intOf i).toNat)
  case atStart => exact ⟨0, 0, [], by omega, by simp, by omega, rfl, rfl, World.ownsRow_nil _ _ _ _, Lib.hid (fun _ => ⟨by omega, by simp, by rw [HR.out]; simp⟩), Lib.hid (fun h => by omega), Below.refl _ _⟩
  case round =>
    obtain ⟨k, a, D, hk, hD, ha, rfl, rfl, hown, HK, HD, hB⟩ := hrel
    by_cases hle : k ≤ n
    · have q1 : ((k : Int) ≤ (n : Int)) = True := by rw [eq_iff_iff, iff_true]; omega
      obtain ⟨h1, h2, h3⟩ := HK.out hle
      have hsl := str_slice s a k h1 (by have := HN.out; omega)
      obtain ⟨pc, hpc⟩ : ∃ pc, pc = (s.drop a).take (k - a) := ⟨_, rfl⟩
      rw [← hpc] at hsl
      have HPC := Lib.hid hpc
      have H2 := Lib.hid h2
      have H3 := Lib.hid h3
      have hDn : (D ++ [pc]).length = D.length + 1 := by simp
      by_cases hkn : k = n
      · have HX : Hid (R = D ++ [pc]) := Lib.hid (by
          have e : pc = s.drop a := by rw [HPC.out]; exact List.take_of_length_le (by rw [List.length_drop, ← HN.out]; omega)
          rw [e, H3.out, spl_one c _ (by
            have := H2.out
            rw [← HPC.out, e] at this
            exact this)])
        subst hkn
        have q2 : ((k : Int) == (k : Int)) = true := by simp
        have hw : k + 1 < 4000000 := by omega
        clear h1 h2 h3 hpc
        go_wp2_with (at_builtin; refine wpList_append_own _ rfl _ _ 79 rfl w.heap.size 9 i0 (.string ByteArray.empty) 1 16 Tryd.underlying79 HI0.out hz0 hz1 hz2 rfl (by decide) _ _ _ rfl (hown.alloc _) ⟨wr.heap.size, 0, none⟩ 1 1 [.string (bs pc)] rfl rfl (news_atE wr _ _ _ rfl) (by simp [Value.oneCell']) (by unfold maxLen; omega) (by omega) (by have := hB.size; simp; omega) ?_; intro v' w1 hown' hgrow _)
        go_roundw
        case rel =>
          refine ⟨k + 1, k + 1, D ++ [pc], by omega, by rw [hDn]; omega, by omega, by go_num, by go_num, ?_, Lib.hid (fun h => by omega), Lib.hid (fun _ => HX.out), (bal hB _).grown hgrow (by have := hB.size; simp; omega) (fun j ej => (hown.lt j ej).1)⟩
          rw [hDn, List.map_append]
          exact hown'
        case measure => first | (simp [intOf]; done) | (simp [intOf]; omega)
      · have hkl : k < s.length := by have := HN.out; omega
        have q2 : ((k : Int) == (n : Int)) = false := by simp; omega
        have hx : ∀ w, (Instr.index 9 (.string (bs s)) (.int .i64 k)).run Tryd.prog w = .ok (.int .u8 (s[k]'hkl).toNat) w := idx_bs s k hkl
        have hdk : s.drop a = pc ++ s[k] :: s.drop (k + 1) := by
          have e1 : s.drop k = s[k] :: s.drop (k + 1) := List.drop_eq_getElem_cons hkl
          have e2 : (s.drop a).drop (k - a) = s.drop k := by rw [List.drop_drop]; congr 1; omega
          rw [← List.take_append_drop (k - a) (s.drop a), e2, e1, HPC.out]
        by_cases hcx : s[k] = c
        · have HX : Hid (R = D ++ [pc] ++ spl c (s.drop (k + 1))) := Lib.hid (by
            rw [H3.out, hdk, hcx, spl_piece c pc _ (by rw [HPC.out]; exact H2.out)]; simp)
          have q3 : (((s[k]'hkl).toNat : Int) == (cn : Int)) = true := by rw [HCN.out, byte_eq]; simp [hcx]
          obtain ⟨xn, hxn⟩ : ∃ n, n = (s[k]'hkl).toNat := ⟨_, rfl⟩
          rw [← hxn] at q3 hx
          have hw : k + 1 < 4000000 := by omega
          clear h1 h2 h3 hpc hdk hxn hcx
          go_wp2_with (at_builtin; refine wpList_append_own _ rfl _ _ 79 rfl w.heap.size 9 i0 (.string ByteArray.empty) 1 16 Tryd.underlying79 HI0.out hz0 hz1 hz2 rfl (by decide) _ _ _ rfl (hown.alloc _) ⟨wr.heap.size, 0, none⟩ 1 1 [.string (bs pc)] rfl rfl (news_atE wr _ _ _ rfl) (by simp [Value.oneCell']) (by unfold maxLen; omega) (by omega) (by have := hB.size; simp; omega) ?_; intro v' w1 hown' hgrow _)
          go_roundw
          case rel =>
            refine ⟨k + 1, k + 1, D ++ [pc], by omega, by rw [hDn]; omega, by omega, by go_num, by go_num, ?_, Lib.hid (fun h => ⟨by omega, by simp, HX.out⟩), Lib.hid (fun h => by omega), (bal hB _).grown hgrow (by have := hB.size; simp; omega) (fun j ej => (hown.lt j ej).1)⟩
            rw [hDn, List.map_append]
            exact hown'
          case measure => first | (simp [intOf]; done) | (simp [intOf]; omega)
        · have q3 : (((s[k]'hkl).toNat : Int) == (cn : Int)) = false := by rw [HCN.out, byte_eq]; simp [hcx]
          have HX : Hid (c ∉ (s.drop a).take (k + 1 - a)) := Lib.hid (by
            have e : k + 1 - a = pc.length + 1 := by rw [HPC.out, List.length_take, List.length_drop]; omega
            have e2 : (pc ++ s[k] :: s.drop (k + 1)).take (pc.length + 1) = pc ++ [s[k]] := by
              rw [show pc ++ s[k] :: s.drop (k + 1) = (pc ++ [s[k]]) ++ s.drop (k + 1) by simp, List.take_left' (by simp)]
            rw [hdk, e, e2, List.mem_append, List.mem_singleton]
            rintro (h | h)
            · exact H2.out (by rw [← HPC.out]; exact h)
            · exact hcx h.symm)
          have H1 := Lib.hid h1
          obtain ⟨xn, hxn⟩ : ∃ n, n = (s[k]'hkl).toNat := ⟨_, rfl⟩
          rw [← hxn] at q3 hx
          clear h1 h2 h3 hpc hdk hxn hcx
          go_wp2
          go_roundw
          case rel => exact ⟨k + 1, a, D, by omega, by omega, by omega, by go_num, rfl, hown, Lib.hid (fun h => ⟨by have := H1.out; omega, HX.out, H3.out⟩), Lib.hid (fun h => by omega), hB⟩
          case measure => first | (simp [intOf]; done) | (simp [intOf]; omega)
    · have q1 : ((k : Int) ≤ (n : Int)) = False := by rw [eq_iff_iff, iff_false]; omega
      obtain rfl := HD.out (by omega)
      go_wp2
      go_ret
      exact ⟨_, rfl, hown, by omega, hB⟩
end Sc
end Go.Proofs.YthgmanncmekeeaaDoor
