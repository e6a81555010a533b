/- package tree: All. -/
import Derived.Test.YtebgmphbkjpfcaaTrA
import Derived.Deep.AppendLies
import Derived.Deep.RegionLaw
import Derived.OwnWalk
namespace Go.Proofs.Ytebgmphbkjpfcaa
set_option linter.unusedVariables false
set_option linter.unusedSimpArgs false
open Go.ChangeShapes Go.WideShapes Go.ChangeAt Go.RowKit Go.Shelf

theorem op_append_at {P : Program} {o : Oper} {a : Act} {w : World} {K : Act → World → Prop} {Q : Exit → Act → World → Prop}
    (s x : Operand) (t : TypeId) (hop : o.op = Op.call { callee := Callee.builtin Builtin.append, args := #[s, x], argTypes := #[t, t] })
    (base : Nat) (e : TypeId) (i : TypeInfo) (z : Value) (size bytes : Nat) (h1 : P.underlying t = some (.slice e)) (h2 : P.info? e = some i) (h3 : i.zero = some z) (h4 : i.size = size) (h5 : i.bytes = bytes) (h6 : z.cells.size = size) (h7 : 0 < size)
    (v : Value) (k : Nat) (xs : List Value) (hs : a.eval s = v) (hown : w.ownsRow base e size v k xs) (ad : Addr) (m c : Nat) (news : List Value) (hx : a.eval x = .slice (some ad) m c) (hn : news.length = m * size)
    (hc : ∀ j u, news[j]? = some u → w.cell? (ad.add j) = some u) (h1c : ∀ u ∈ news, u.oneCell' = true) (b1 : k + m ≤ maxLen) (b2 : (k + m) * bytes ≤ 140737488355328) (b3 : base ≤ w.heap.size)
    (hK : ∀ v' w', w'.ownsRow base e size v' (k + m) (xs ++ news) → w.grownBy w' v.ownBlock → (v'.ownBlock = v.ownBlock ∨ v'.ownBlock = some w.heap.size) → K (a.put o.dst v') w') :
    o.wp P a w K Q := by
  obtain ⟨v', w', hrun, r1, r2, r3, r4⟩ := run_append_own_at (P := P) (w := w) base t o.type e i z size bytes h1 h2 h3 h4 h5 h6 h7 v k xs hown ad m c news hn hc h1c b1 b2 b3
  unfold Oper.wp
  simp [execOp, hop, resolve, invoke, builtin, hs, hx, hrun, Result.andThen]
  exact hK v' w' r1 r2 r4
theorem step_append_at {P : Program} {ops : Array Oper} {o : Oper} {a : Act} {w : World} {K : Act → World → Prop} {Q : Exit → Act → World → Prop} {E : Prop}
    (hg : o.guard = none) (s x : Operand) (t : TypeId) (hop : o.op = Op.call { callee := Callee.builtin Builtin.append, args := #[s, x], argTypes := #[t, t] })
    (base : Nat) (e : TypeId) (i : TypeInfo) (z : Value) (size bytes : Nat) (h1 : P.underlying t = some (.slice e)) (h2 : P.info? e = some i) (h3 : i.zero = some z) (h4 : i.size = size) (h5 : i.bytes = bytes) (h6 : z.cells.size = size) (h7 : 0 < size)
    (v : Value) (k : Nat) (xs : List Value) (hs : a.eval s = v) (hown : w.ownsRow base e size v k xs) (ad : Addr) (m c : Nat) (news : List Value) (hx : a.eval x = .slice (some ad) m c) (hn : news.length = m * size)
    (hc : ∀ j u, news[j]? = some u → w.cell? (ad.add j) = some u) (h1c : ∀ u ∈ news, u.oneCell' = true) (b1 : k + m ≤ maxLen) (b2 : (k + m) * bytes ≤ 140737488355328) (b3 : base ≤ w.heap.size)
    (hK : ∀ v' w', w'.ownsRow base e size v' (k + m) (xs ++ news) → w.grownBy w' v.ownBlock → (v'.ownBlock = v.ownBlock ∨ v'.ownBlock = some w.heap.size) → K (a.put o.dst v') w') :
    if Region.wanted o (yielded ops a.tmps) = true then Oper.wp P o a w K Q else E := by
  have hw : Region.wanted o (yielded ops a.tmps) = true := by simp [Region.wanted, hg]
  rw [if_pos hw]
  exact op_append_at s x t hop base e i z size bytes h1 h2 h3 h4 h5 h6 h7 v k xs hs hown ad m c news hx hn hc h1c b1 b2 b3 hK
theorem infoNd : (Try.prog.info? 49).map (fun i => (i.zero, i.size, i.bytes)) = some (some (.agg #[.int .i64 0, .int .i64 0, .int .i64 0]), 3, 24) := by kernel_rfl
def lenOf : Value → Nat
  | .slice _ n _ => n
  | _ => 0
theorem row_lenOf {w : World} {base : Nat} {e : TypeId} {s : Nat} {v : Value} {n : Nat} {xs : List Value} (h : w.ownsRow base e s v n xs) : lenOf v = n := by
  rcases h.2 with ⟨rfl, rfl⟩ | ⟨g, cap, cur, rfl, _⟩ <;> rfl
abbrev nodC (x : Nod) : List Value := [.int .i64 x.o, .int .i64 x.i, .int .i64 x.d]
def nodsC (l : List Nod) : List Value := l.flatMap nodC
theorem nodsC_take {l : List Nod} {k : Nat} {x : Nod} (h : l[k]? = some x) : nodsC (l.take (k + 1)) = nodsC (l.take k) ++ nodC x := by
  unfold nodsC
  rw [List.take_add_one, h]
  simp
theorem news_at (wr W : World) (cs : List Value) (t : TypeId) (h : W.heap = (wr.alloc (.cells cs.toArray t)).heap) : ∀ j u, cs[j]? = some u → W.cell? ((⟨wr.heap.size, 0, none⟩ : Addr).add j) = some u := by
  intro j u hj
  have e : ((⟨wr.heap.size, 0, none⟩ : Addr).add j) = ⟨wr.heap.size, j, none⟩ := by unfold Addr.add; split <;> simp_all
  have hb : W.heap[wr.heap.size]? = some (.cells cs.toArray t (0, 0)) := by rw [h]; exact World.alloc_heap_new _ _
  rw [e]
  simp [World.cell?, hb, hj]
set_option maxRecDepth 100000 in
set_option maxHeartbeats 1000000 in
theorem all_any (w : World) (B b m n : Nat) (ps : List Nat) (l : List Nod) (f : Int → Int → Option Nat) (h : TreeAt w B b m n ps l f) (hn : n < 1000000) :
    Calls Try.prog 16 #[.pointer (some ⟨b, 0, none⟩)] w fun e w' => ∃ v, e = .returned v ∧ w'.ownsRow w.heap.size 49 3 v l.length (nodsC l) ∧ Below w.heap.size w w' := by
  obtain ⟨i0, hi, hz0, hz1, hz2⟩ := info_parts infoNd
  have HI := Lib.hid hi
  obtain ⟨c0, c1, c2, cz⟩ := head_cells h.head
  have H := Lib.hid h
  have hle := h.le
  clear h hi
  go_enter Try.func16, Try.ntmps16
  go_wp2
  clear c0 c1 c2 cz
  go_loopw [3, 4] (fun v p wr => ∃ k : Nat, k ≤ l.length ∧ p = ptrV ps[k]? ∧ wr.ownsRow w.heap.size 49 3 v k (nodsC (l.take k)) ∧ Below w.heap.size w wr) (fun v _ _ => l.length - lenOf v)
  case atStart => exact ⟨0, by omega, rfl, World.ownsRow_nil _ _ _ _, Below.refl _ _⟩
  case round =>
    obtain ⟨k, hk, rfl, hown, hB⟩ := hrel
    cases hx : l[k]? with
    | some x =>
      obtain ⟨p, hp⟩ := get_len H.out.len.symm hx
      have hr := (H.out.call hB).row k p x hp hx
      obtain ⟨r0, r1, r2, r3, r4, rz⟩ := place_cells hr
      have hpl : p < wr.heap.size := (H.out.call hB).lt (foot_at hp)
      have hpw : p < w.heap.size := H.out.lt (foot_at hp)
      have HR4 := Lib.hid (place_cells (H.out.row k p x hp hx)).2.2.2.2.1
      have hlt : k < l.length := (List.getElem?_eq_some_iff.1 hx).1
      have HX := Lib.hid (nodsC_take hx)
      rw [hp, ptrV_some]
      have hown2 : (wr.alloc (.cells #[.int .i64 x.o, .int .i64 x.i, .int .i64 x.d] 49)).drew.ownsRow w.heap.size 49 3 u3 k (nodsC (l.take k)) := hown.alloc _
      have hv := row_lenOf hown
      have HV := Lib.hid hv
      have hob : ∀ j, u3.ownBlock = some j → w.heap.size ≤ j := fun j e => (hown.lt j e).1
      have HOB := Lib.hid hob
      have HO2 := Lib.hid hown2
      have HB := Lib.hid hB
      have hsz := hB.size
      clear hr hown hown2 hv hB hob hx hp
      go_upto_region 7 with fail
      go_region_law (refine step_append_at rfl _ _ 27 rfl w.heap.size 49 i0 (.agg #[.int .i64 0, .int .i64 0, .int .i64 0]) 3 24 Try.underlying27 HI.out hz0 hz1 hz2 rfl (by decide) u3 k _ rfl HO2.out ⟨wr.heap.size, 0, none⟩ 1 1 (nodC x) rfl rfl (news_at wr _ (nodC x) _ rfl) (by simp [Value.oneCell']) (by unfold maxLen; omega) (by omega) (by simp; omega) ?_; intro v' w2 ho2 hg2 hat2)
      all_goals
        have hB2 : Below w.heap.size w w2 := ((HB.out.alloc HB.out.size _).drew).grown hg2 (by simp; omega) HOB.out
        have hr4 : w2.cell? ⟨p, 4, none⟩ = some (ptrV ps[k + 1]?) := by
          exact (hB2.cell (p := ⟨p, 4, none⟩) hpw).trans HR4.out
        have HO3 := Lib.hid ho2
        have HB2 := Lib.hid hB2
        clear ho2 hg2 hat2 hB2 r0 r1 r2 r3 r4 rz
        go_wp2
        go_roundw
        case rel => exact ⟨k + 1, by omega, rfl, by rw [HX.out]; exact HO3.out, HB2.out⟩
        case measure => rw [row_lenOf HO3.out, HV.out]; omega
    | none =>
      have hke : k = l.length := by have := List.getElem?_eq_none_iff.1 hx; omega
      have hpn : ps[k]? = none := by rw [List.getElem?_eq_none_iff, H.out.len]; omega
      rw [hpn, ptrV_none]
      subst hke
      rw [List.take_length] at hown
      go_wp2
      exact bodyPost_ret (v := u3) (by simp [results, Try.results16, go_sem]) rfl ⟨u3, rfl, hown, hB⟩
end Go.Proofs.Ytebgmphbkjpfcaa
