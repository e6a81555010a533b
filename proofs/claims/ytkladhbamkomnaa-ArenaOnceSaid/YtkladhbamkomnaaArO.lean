/- chapter 12: no number is given twice. -/
import Derived.Test.YtkladhbamkomnaaArA
namespace Go.Proofs.Ytkladhbamkomnaa
set_option linter.unusedVariables false
set_option linter.unusedSimpArgs false
open Go.ChangeShapes Go.WideShapes Go.ChangeAt Go.RowKit Go.Shelf
open TabA

/-- The state behind so many acts. -/
structure OnS (W wr : World) (b ab base nb : Nat) (cnt : List Int) (v : Value) (L : List Ob) (gv : Value) (G : List Int) : Prop where
  ar : ArAt wr b ab base 16 cnt v L
  row : wr.ownsRow (nb + 1) 3 1 gv G.length (G.map (Value.int .i64))
  na : ∀ (k : Nat) (c : Int), cnt[k]? = some c → wr.cell? ⟨nb, k, none⟩ = some (.int .i64 c)
  nf : ∀ k : Nat, wr.frozen? ⟨nb, k, none⟩ = false
  nl : nb < wr.heap.size
  bl : Below W.heap.size W wr
  h1 : W.heap.size ≤ b ∧ b < nb
  h2 : W.heap.size ≤ ab ∧ ab < nb
  nv : v.ownBlock ≠ some nb
  gn : ∀ k, gv.ownBlock = some k → v.ownBlock ≠ some k
  ok : ∀ g ∈ G, ∃ f c m : Int, g = f + 1 + 64 * c ∧ 0 ≤ f ∧ f < 16 ∧ 0 ≤ c ∧ cnt[f.toNat]? = some m ∧ c < m
theorem OnS.call {W wr w' : World} {b ab base nb : Nat} {cnt : List Int} {v : Value} {L : List Ob} {gv : Value} {G : List Int} (h : OnS W wr b ab base nb cnt v L gv G) (hb : Below wr.heap.size wr w') : OnS W w' b ab base nb cnt v L gv G :=
  ⟨h.ar.call hb, row_of_block h.row (fun g hg => hb.block g (h.row.lt g hg).2), fun k c hk => (hb.cell (p := ⟨nb, k, none⟩) h.nl).trans (h.na k c hk), fun k => (hb.frozen (p := ⟨nb, k, none⟩) h.nl).trans (h.nf k), Nat.lt_of_lt_of_le h.nl hb.size, h.bl.trans (hb.mono h.bl.size), h.h1, h.h2, h.nv, h.gn, h.ok⟩
/-- An act of the arena alone, that leaves the counts. -/
theorem OnS.act {W wr w' : World} {b ab base nb : Nat} {cnt : List Int} {v v' : Value} {L L' : List Ob} {gv : Value} {G : List Int} (h : OnS W wr b ab base nb cnt v L gv G) (hA : ArAt w' b ab base 16 cnt v' L') (hO : OnlyA wr w' b ab v v') : OnS W w' b ab base nb cnt v' L' gv G := by
  have hn : w'.heap[nb]? = wr.heap[nb]? := hO.block nb h.nl (by have := h.h1.2; omega) (by have := h.h2.2; omega) h.nv
  refine ⟨hA, row_of_block h.row (fun g hg => hO.block g (h.row.lt g hg).2 (by have := (h.row.lt g hg).1; have := h.h1.2; omega) (by have := (h.row.lt g hg).1; have := h.h2.2; omega) (h.gn g hg)), fun k c hk => (World.cell?_of_block hn).trans (h.na k c hk), fun k => (World.frozen?_of_block hn).trans (h.nf k), Nat.lt_of_lt_of_le h.nl hO.size, h.bl.trans (hO.below h.ar h.h1.1 h.h2.1), h.h1, h.h2, ?_, fun k hk => ?_, h.ok⟩
  · rcases hO.foot with q | ⟨g, q, hg⟩
    · rw [q]; exact h.nv
    · rw [q]; intro e; cases e; have := h.nl; omega
  · rcases hO.foot with q | ⟨g, q, hg⟩
    · rw [q]; exact h.gn k hk
    · rw [q]; intro e; cases e; have := (h.row.lt k hk).2; omega
theorem add_zero {F : Nat} {cnt : List Int} {L : List Ob} {kd sz fi : Int} (hl : cnt.length = F) (h : (addR F cnt L kd sz fi).2 = 0) : ∃ c, 0 ≤ fi ∧ fi < F ∧ cnt[fi.toNat]? = some c ∧ (addR F cnt L kd sz fi).1 = fi + 1 + 64 * c ∧ fi + 1 + 64 * c ≤ 65535 ∧ addC F cnt L kd sz fi = cnt.set fi.toNat (c + 1) := by
  have hC : addC F cnt L kd sz fi = cnt.set fi.toNat ((cnt[fi.toNat]?).getD 0 + 1) := by unfold addC; rw [if_pos h]
  unfold addR at h ⊢
  split at h
  · cases h
  · rename_i h0
    rw [if_neg h0]
    split at h
    · cases h
    · rename_i h1
      rw [if_neg h1]
      have e := addA_code _ _ _ h
      rw [e]
      have hne : nextA cnt fi ≠ 0 := by
        intro hz
        unfold addA at h
        split at h
        · cases h
        · cases h
      show ∃ c, 0 ≤ fi ∧ fi < F ∧ cnt[fi.toNat]? = some c ∧ nextA cnt fi = fi + 1 + 64 * c ∧ _
      rw [hC]
      unfold nextA at hne ⊢
      split at hne
      · exact absurd rfl hne
      · rename_i hn
        rw [if_neg hn]
        cases hc : cnt[fi.toNat]? with
        | none => rw [hc] at hne; exact absurd rfl hne
        | some c =>
          rw [hc] at hne
          simp only [] at hne ⊢
          split at hne
          · exact absurd rfl hne
          · rename_i hb
            rw [if_neg hb]
            have := (List.getElem?_eq_some_iff.1 hc).1
            exact ⟨c, by omega, by omega, rfl, rfl, by omega, rfl⟩
theorem add_else {F : Nat} {cnt : List Int} {L : List Ob} {kd sz fi : Int} (h : (addR F cnt L kd sz fi).2 ≠ 0) : addC F cnt L kd sz fi = cnt ∧ addL F cnt L kd sz fi = L := by
  unfold addC addL
  rw [if_neg h, if_neg h]
  exact ⟨rfl, rfl⟩
theorem addL_len (F : Nat) (cnt : List Int) (L : List Ob) (kd sz fi : Int) : (addL F cnt L kd sz fi).length ≤ L.length + 1 := by
  unfold addL
  split
  · unfold insO; simp; omega
  · omega
theorem dropL_len (L : List Ob) (id : Int) : (dropL L id).length ≤ L.length := by
  unfold dropL
  split
  · simp; omega
  · omega
theorem new16 (w : World) : Calls Try.prog 9 #[.int .i64 16] w fun e w' => ∃ b, e = .returned (.tuple #[.pointer (some ⟨b, 0, none⟩), .int .i64 0]) ∧ NewA w w' b 16 := new_any w 16 (by decide)
theorem on_first {W w1 : World} {b ab base : Nat} {t : TypeId} (hA : ArAt w1 b ab base 16 (zerosA 16) (.slice none 0 0) []) (hab : W.heap.size ≤ ab) (hb : W.heap.size ≤ b) (hB : Below W.heap.size W w1) (o : Array Value) (ho : o = ((zerosA 16).map (Value.int .i64)).toArray) :
    OnS W (w1.alloc (.cells o t)) b ab base w1.heap.size (zerosA 16) (.slice none 0 0) [] (.slice none 0 0) [] := by
  subst ho
  have hA2 := hA.call (bal (Below.refl _ _) (.cells ((zerosA 16).map (Value.int .i64)).toArray t))
  have hn : (w1.alloc (.cells ((zerosA 16).map (Value.int .i64)).toArray t)).heap[w1.heap.size]? = some (.cells ((zerosA 16).map (Value.int .i64)).toArray t (0, 0)) := heap_alloc_new w1 _
  refine ⟨hA2, World.ownsRow_nil _ _ _ _, fun k c hk => ?_, fun k => froz_row hn, by simp, bal hB _, ⟨hb, hA.bl⟩, ⟨hab, hA.al⟩, (by intro e; cases e), (fun k h => by cases h), (fun g h => by cases h)⟩
  rw [cell_cur (cur := (zerosA 16).map (Value.int .i64)) hn, List.getElem?_map, hk]
  rfl
/-- An object more: its number, and the count. -/
theorem OnS.more {W wr w2 : World} {b ab base nb : Nat} {cnt : List Int} {v v' : Value} {L L' : List Ob} {gv : Value} {G : List Int} {k : Nat} {c : Int} (h : OnS W wr b ab base nb cnt v L gv G) (hc : cnt[k]? = some c) (hk : k < 16) (hA : ArAt w2 b ab base 16 (cnt.set k (c + 1)) v' L') (hO : OnlyA wr w2 b ab v v') :
    OnS W (w2.setCell ⟨nb, k, none⟩ (.int .i64 (c + 1))) b ab base nb (cnt.set k (c + 1)) v' L' gv G ∧ w2.cell? ⟨nb, k, none⟩ = some (.int .i64 c) ∧ w2.frozen? ⟨nb, k, none⟩ = false := by
  have hn : w2.heap[nb]? = wr.heap[nb]? := hO.block nb h.nl (by have := h.h1.2; omega) (by have := h.h2.2; omega) h.nv
  have hcl := (World.cell?_of_block (a := ⟨nb, k, none⟩) hn).trans (h.na k c hc)
  have hfl : ∀ j, w2.frozen? ⟨nb, j, none⟩ = false := fun j => (World.frozen?_of_block (a := ⟨nb, j, none⟩) hn).trans (h.nf j)
  have hs := hO.size
  have ht : ∀ j, j ≠ nb → (w2.setCell ⟨nb, k, none⟩ (.int .i64 (c + 1))).heap[j]? = w2.heap[j]? := fun j hj => Go.heap_setCell_other _ _ _ _ (by simpa using hj)
  have hnl := h.nl
  have n1 := h.h1.2
  have n2 := h.h2.2
  have nv' : v'.ownBlock ≠ some nb := by
    rcases hO.foot with q | ⟨g, q, hg⟩
    · rw [q]; exact h.nv
    · rw [q]; intro e; cases e; omega
  refine ⟨⟨?_, ?_, ?_, ?_, by simpa using (by omega : nb < w2.heap.size), ?_, h.h1, h.h2, nv', ?_, ?_⟩, hcl, hfl k⟩
  · refine ⟨(World.cell?_of_block (ht b (by omega))).trans hA.c0, (ht ab (by omega)).trans hA.ad, hA.fl, hA.f1, hA.tab.of (by simp) (World.cell?_of_block (ht b (by omega))) (World.frozen?_of_block (ht b (by omega))) (fun g hg => ht g (fun e => nv' (by rw [← e]; exact hg))), hA.abl, hA.ne, hA.cn, hA.good⟩
  · refine row_of_block h.row (fun g hg => (ht g (by have := (h.row.lt g hg).1; omega)).trans (hO.block g (h.row.lt g hg).2 (by have := (h.row.lt g hg).1; omega) (by have := (h.row.lt g hg).1; omega) (h.gn g hg)))
  · intro j d hj
    by_cases e : j = k
    · subst e
      rw [List.getElem?_set_self (List.getElem?_eq_some_iff.1 hc).1] at hj
      cases hj
      exact World.cell?_setCell_same' _ _ _ (by rw [hcl]; rfl)
    · rw [List.getElem?_set_ne (fun q => e q.symm)] at hj
      have := (World.cell?_of_block (a := ⟨nb, j, none⟩) hn).trans (h.na j d hj)
      rw [← this]
      apply World.cell?_setCell_other
      intro q
      simp at q
      try exact e q.symm
  · intro j
    have := hfl j
    simp [go_sem, this]
  · exact Below.setCell (h.bl.trans (hO.below h.ar h.h1.1 h.h2.1)) (by show W.heap.size ≤ nb; have := h.h1.1; omega) _
  · intro j hj
    rcases hO.foot with q | ⟨g, q, hg⟩
    · rw [q]; exact h.gn j hj
    · rw [q]; intro e; cases e; have := (h.row.lt j hj).2; omega
  · intro g hg
    obtain ⟨f, d, m, h1, h2, h3, h4, h5, h6⟩ := h.ok g hg
    by_cases e : f.toNat = k
    · rw [e, hc] at h5
      cases h5
      exact ⟨f, d, c + 1, h1, h2, h3, h4, by rw [e, List.getElem?_set_self (List.getElem?_eq_some_iff.1 hc).1], by omega⟩
    · exact ⟨f, d, m, h1, h2, h3, h4, by rw [List.getElem?_set_ne (fun q => e q.symm)]; exact h5, h6⟩
/-- The new number is none of those that were given. -/
theorem OnS.fresh {W wr : World} {b ab base nb : Nat} {cnt : List Int} {v : Value} {L : List Ob} {gv : Value} {G : List Int} (h : OnS W wr b ab base nb cnt v L gv G) {fi c : Int} (h0 : 0 ≤ fi) (h1 : fi < 16) (hc : cnt[fi.toNat]? = some c) : ∀ g ∈ G, g ≠ fi + 1 + 64 * c := by
  intro g hg e
  obtain ⟨f, d, m, q1, q2, q3, q4, q5, q6⟩ := h.ok g hg
  have : f = fi := by omega
  subst this
  rw [hc] at q5
  cases q5
  omega
/-- One more is told as given. -/
theorem OnS.given {W w5 w6 : World} {b ab base nb : Nat} {cnt : List Int} {v : Value} {L : List Ob} {gv gv' : Value} {G : List Int} (h : OnS W w5 b ab base nb cnt v L gv G) (id f d m : Int) (hrow : w6.ownsRow (nb + 1) 3 1 gv' (G.length + 1) (G.map (Value.int .i64) ++ [.int .i64 id])) (hgr : w5.grownBy w6 gv.ownBlock) (hft : gv'.ownBlock = gv.ownBlock ∨ ∃ g, gv'.ownBlock = some g ∧ w5.heap.size ≤ g)
    (hid : id = f + 1 + 64 * d) (h0 : 0 ≤ f) (h1 : f < 16) (h2 : 0 ≤ d) (h3 : cnt[f.toNat]? = some m) (h4 : d < m) : OnS W w6 b ab base nb cnt v L gv' (G ++ [id]) := by
  have e : ∀ j, j < w5.heap.size → gv.ownBlock ≠ some j → w6.heap[j]? = w5.heap[j]? := fun j hj hn => hgr.block j hj (fun q => hn q.symm)
  have gne : ∀ j, j ≤ nb → gv.ownBlock ≠ some j := fun j hj q => by have := (h.row.lt j q).1; omega
  have hbl := h.ar.bl
  have hal := h.ar.al
  have n1 := h.h1.2
  have n2 := h.h2.2
  have hs := hgr.size
  have hnb := e nb h.nl (gne nb (Nat.le_refl _))
  refine ⟨⟨(World.cell?_of_block (e b hbl (gne b (by omega)))).trans h.ar.c0, (e ab hal (gne ab (by omega))).trans h.ar.ad, h.ar.fl, h.ar.f1, h.ar.tab.of hs (World.cell?_of_block (e b hbl (gne b (by omega)))) (World.frozen?_of_block (e b hbl (gne b (by omega)))) (fun g hg => e g (h.ar.tab.own hg).2 (fun q => h.gn g q hg)), h.ar.abl, h.ar.ne, h.ar.cn, h.ar.good⟩, ?_, fun k c hk => (World.cell?_of_block (a := ⟨nb, k, none⟩) hnb).trans (h.na k c hk), fun k => (World.frozen?_of_block (a := ⟨nb, k, none⟩) hnb).trans (h.nf k), Nat.lt_of_lt_of_le h.nl hs, ?_, h.h1, h.h2, h.nv, ?_, ?_⟩
  · simpa using hrow
  · exact h.bl.grown hgr (by have := h.bl.size; omega) (fun k hk => by have := (h.row.lt k hk).1; have := h.h1.1; omega)
  · intro k hk
    rcases hft with q | ⟨g, q, hg⟩
    · rw [q] at hk; exact h.gn k hk
    · rw [q] at hk; cases hk
      intro hv
      have := (h.ar.tab.own hv).2
      omega
  · intro g hg
    rcases List.mem_append.1 hg with q | q
    · exact h.ok g q
    · simp at q
      subst q
      exact ⟨f, d, m, hid, h0, h1, h2, h3, h4⟩
theorem OnS.form {W wr : World} {b ab base nb : Nat} {cnt : List Int} {v : Value} {L : List Ob} {gv : Value} {G : List Int} (h : OnS W wr b ab base nb cnt v L gv G) : ∃ ga gc, gv = .slice ga G.length gc ∧ G.length ≤ gc ∧ ∀ j, j < G.length → ∃ gB, ga = some ⟨gB, 0, none⟩ := by
  rcases h.row.2 with ⟨rfl, h0⟩ | ⟨g, cap, cur, rfl, q1, q2, q3, q4, q5, q6⟩
  · exact ⟨none, 0, by rw [h0], by omega, fun j hj => by omega⟩
  · exact ⟨_, _, rfl, q3, fun j _ => ⟨g, rfl⟩⟩
theorem OnS.gcell {W wr : World} {b ab base nb gB gc : Nat} {cnt : List Int} {v : Value} {L : List Ob} {G : List Int} (h : OnS W wr b ab base nb cnt v L (.slice (some ⟨gB, 0, none⟩) G.length gc) G) {j : Nat} {x : Int} (hj : G[j]? = some x) : wr.cell? ⟨gB, j, none⟩ = some (.int .i64 x) := by
  have := h.row.cells (g := gB) rfl j (.int .i64 x) (by rw [List.getElem?_map, hj]; rfl)
  have ha : ((⟨gB, 0, none⟩ : Addr).add j) = ⟨gB, j, none⟩ := by unfold Addr.add; split <;> simp_all
  rwa [ha] at this
set_option maxRecDepth 100000 in
set_option maxHeartbeats 4000000 in
theorem once_any (q : Option Addr) (n c : Nat) (D : Nat → ActT) (W : World) (hn : n ≤ 100) (hD : ActsAt W q n D) :
    Calls Try.prog 5 #[.slice q n c] W fun e w' => e = .returned (.bool true) ∧ Below W.heap.size W w' := by
  have hn' : ¬ (n : Int) > 100 := by omega
  have HD := Lib.hid hD
  clear hD
  go_enter Try.func5, Try.ntmps5
  go_upto_region 8 with (go_at_call 9; (with_reducible refine (new16 W).mono ?_); rintro e w1 ⟨b, rfl, ab, base, hA1, hab, hb, hB1⟩; have HA1 := Lib.hid hA1; have HB1 := Lib.hid hB1; clear hA1 hB1)
  obtain ⟨w2, hw2⟩ : ∃ x, x = w1.alloc (.cells #[.int .i64 0, .int .i64 0, .int .i64 0, .int .i64 0, .int .i64 0, .int .i64 0, .int .i64 0, .int .i64 0, .int .i64 0, .int .i64 0, .int .i64 0, .int .i64 0, .int .i64 0, .int .i64 0, .int .i64 0, .int .i64 0] 52) := ⟨_, rfl⟩
  rw [← hw2]
  have HS := Lib.hid (show OnS W w2 b ab base w1.heap.size (zerosA 16) (.slice none 0 0) [] (.slice none 0 0) [] by rw [hw2]; exact on_first HA1.out hab hb HB1.out _ rfl)
  obtain ⟨nb, hnb⟩ : ∃ x, x = w1.heap.size := ⟨_, rfl⟩
  rw [← hnb] at HS ⊢
  clear hw2 hnb
  have HAB := Lib.hid (show W.heap.size ≤ b from hb)
  clear hab hb
  go_wp2
  go_loopw [5, 7, 8, 9, 10, 11] (fun g i x id f k wr => ∃ t : Nat, t ≤ n ∧ i = .int .i64 t ∧ ∃ cnt v L G, Hid (OnS W wr b ab base nb cnt v L g G ∧ L.length ≤ t ∧ G.length ≤ t)) (fun _ i _ _ _ _ _ => n - (intOf i).toNat)
  case atStart => exact ⟨0, Nat.zero_le _, rfl, zerosA 16, .slice none 0 0, [], [], Lib.hid ⟨HS.out, by simp, by simp⟩⟩
  case round =>
    obtain ⟨t, ht, rfl, cnt, v, L, G, HO⟩ := hrel
    obtain ⟨ga, gc, rfl, hgc, hga⟩ := HO.out.1.form
    have HGA := Lib.hid hga
    have HGC := Lib.hid hgc
    clear hgc hga
    by_cases hlt : t < n
    · have hltI : (t : Int) < n := by omega
      have hDw := HD.out.below HO.out.1.bl
      obtain ⟨aB, aO, hq, hcs⟩ := HD.out
      obtain ⟨rfl, hal⟩ := hq (by omega)
      obtain ⟨⟨d0, d1, d2, d3, d4⟩, hok⟩ := hcs t hlt
      have hbl := HO.out.1.bl
      have c0 := (hbl.cell (p := ⟨aB, aO + t * 5, none⟩) hal).trans d0
      have c1 := (hbl.cell (p := ⟨aB, aO + t * 5 + 1, none⟩) hal).trans d1
      have c2 := (hbl.cell (p := ⟨aB, aO + t * 5 + 2, none⟩) hal).trans d2
      have c3 := (hbl.cell (p := ⟨aB, aO + t * 5 + 3, none⟩) hal).trans d3
      have c4 := (hbl.cell (p := ⟨aB, aO + t * 5 + 4, none⟩) hal).trans d4
      clear hDw hq hcs hbl d0 d1 d2 d3 d4
      obtain ⟨⟨xd, xa, xb, xp, xq⟩, hx⟩ : ∃ x, x = D t := ⟨_, rfl⟩
      rw [← hx] at c0 c1 c2 c3 c4 hok
      simp only [] at c0 c1 c2 c3 c4
      have hwf : -9223372036854775808 ≤ xp ∧ xp ≤ 9223372036854775807 := hok.2.2.2.1
      have HOK := Lib.hid hwf
      clear hx hok hwf
      go_upto_region 12 with fail
      obtain ⟨w3, hw3⟩ : ∃ x, x = wr.alloc (.cells #[.int .i64 xd, .int .i64 xa, .int .i64 xb, .int .i64 xp, .int .i64 xq] 34) := ⟨_, rfl⟩
      rw [← hw3]
      have x0 : w3.cell? ⟨wr.heap.size, 0, none⟩ = some (.int .i64 xd) := by rw [hw3]; go_simp
      have x1 : w3.cell? ⟨wr.heap.size, 1, none⟩ = some (.int .i64 xa) := by rw [hw3]; go_simp
      have x2 : w3.cell? ⟨wr.heap.size, 2, none⟩ = some (.int .i64 xb) := by rw [hw3]; go_simp
      have x3 : w3.cell? ⟨wr.heap.size, 3, none⟩ = some (.int .i64 xp) := by rw [hw3]; go_simp
      have hz3 : w3.heap.size = wr.heap.size + 1 := by rw [hw3]; simp
      have HO3 : Hid (OnS W w3 b ab base nb cnt v L (.slice ga G.length gc) G) := Lib.hid (HO.out.1.call (by rw [hw3]; exact bal (Below.refl _ _) _))
      have HLL := Lib.hid HO.out.2
      have HWR := Lib.hid HO.out.1
      have HXN := Lib.hid (show v.ownBlock ≠ some wr.heap.size by intro e; have := (HO.out.1.ar.tab.own e).2; omega)
      clear hw3 c0 c1 c2 c3 c4 hal HO
      have HXB := Lib.hid (show b < wr.heap.size ∧ ab < wr.heap.size ∧ nb < wr.heap.size ∧ wr.heap.size < w3.heap.size by have h1 := HWR.out.ar.bl; have h2 := HWR.out.ar.al; have h3 := HWR.out.nl; omega)
      clear HWR
      generalize wr.heap.size = xB at *
      by_cases hd : xd = 0
      · subst hd
        have HZ3 := Lib.hid hz3
        clear hz3
        by_cases hz : (addR 16 cnt L xa xb xp).2 = 0
        · obtain ⟨c, q0, q1, hc, hr1, hcb, hC⟩ := add_zero (F := 16) HO3.out.ar.fl hz
          obtain ⟨k, rfl⟩ : ∃ k : Nat, xp = (k : Int) := ⟨xp.toNat, by omega⟩
          have hk16 : k < 16 := by omega
          rw [show ((k : Int)).toNat = k by omega] at hc hC
          have hcn := HO3.out.ar.cn c (List.mem_of_getElem? hc)
          have hfr := HO3.out.fresh q0 q1 (by rw [show ((k : Int)).toNat = k by omega]; exact hc)
          have hpost : ∀ w4 v4, ArAt w4 b ab base 16 (addC 16 cnt L xa xb k) v4 (addL 16 cnt L xa xb k) → OnlyA w3 w4 b ab v v4 → w4.cell? ⟨xB, 3, none⟩ = some (.int .i64 k) ∧ w4.cell? ⟨nb, k, none⟩ = some (.int .i64 c) ∧ w4.frozen? ⟨nb, k, none⟩ = false ∧ ∀ q, OnS W ((w4.drewN q).setCell ⟨nb, k, none⟩ (.int .i64 (c + 1))) b ab base nb (cnt.set k (c + 1)) v4 (addL 16 cnt L xa xb k) (.slice ga G.length gc) G := by
            intro w4 v4 hA4 hO4
            rw [hC] at hA4
            have hxB := HXB.out
            have := HO3.out.more hc hk16 hA4 hO4
            refine ⟨(World.cell?_of_block (a := ⟨xB, 3, none⟩) (hO4.block xB hxB.2.2.2 (by omega) (by omega) HXN.out)).trans x3, this.2.1, this.2.2, fun q => ?_⟩
            exact (HO3.out.more hc hk16 (hA4.call (below_drewN (Below.refl _ _) q)) (hO4.trans (OnlyA.of_below (below_drewN (Below.refl _ _) q)))).1
          have HPO := Lib.hid hpost
          have HR1 := Lib.hid hr1
          have HR2 := Lib.hid hz
          have HFR := Lib.hid hfr
          have HC := Lib.hid hc
          obtain ⟨hc0, hc1⟩ := hcn
          have hov : IntKind.i64.wrap (c + 1) = c + 1 := IntWalk.i64_in _ (by omega)
          have hom : IntKind.i64.wrap (64 * c) = 64 * c := IntWalk.i64_in _ (by omega)
          have hos : IntKind.i64.wrap ((k : Int) + 1 + 64 * c) = (k : Int) + 1 + 64 * c := IntWalk.i64_in _ (by omega)
          have hok2 : IntKind.i64.wrap ((k : Int) + 1) = (k : Int) + 1 := IntWalk.i64_in _ (by omega)
          have hk15 : ¬ (15 : Int) < k := by omega
          have hk0 : ¬ (k : Int) < 0 := by omega
          have hk16' : (k : Int) < 16 := by omega
          clear hpost hr1 hz hfr hc hC hcb
          go_upto_region 16 with (go_at_call 24; (with_reducible refine (add_any w3 b ab base 16 cnt v L xa xb k HO3.out.ar HOK.out (by have := HLL.out.1; omega)).mono ?_); rw [HR1.out, HR2.out]; rintro e w4 ⟨rfl, v4, hA4, hO4⟩; obtain ⟨y3, yc, yf, hq4⟩ := HPO.out w4 v4 hA4 hO4; have HQ4 := Lib.hid hq4; clear hA4 hO4 hq4)
          go_quiet (fail)
          go_upto_region 20 with fail
          obtain ⟨w5, hw5⟩ : ∃ y, y = (w4.drewN nq).setCell ⟨nb, k, none⟩ (.int .i64 (c + 1)) := ⟨_, rfl⟩
          rw [← hw5]
          have HO5 : Hid (OnS W w5 b ab base nb (cnt.set k (c + 1)) v4 (addL 16 cnt L xa xb k) (.slice ga G.length gc) G) := Lib.hid (by rw [hw5]; exact HQ4.out nq)
          clear hw5 y3 yc yf x0 x1 x2 x3
          obtain ⟨nid, hid⟩ : ∃ y, y = (k : Int) + 1 + 64 * c := ⟨_, rfl⟩
          rw [← hid]
          have HID := Lib.hid hid
          clear hid hos hom hov hok2
          have hGn : G.length ≤ 100 := by have := HLL.out.2; omega
          generalize hgl : G.length = gl at *
          have HGL := Lib.hid hgl
          clear hgl
          go_loopw [11] (fun kk wi => ∃ j : Nat, j ≤ gl ∧ kk = .int .i64 j ∧ wi = w5) (fun kk _ => gl - (intOf kk).toNat)
          case atStart => exact ⟨0, Nat.zero_le _, rfl, rfl⟩
          case round =>
            obtain ⟨j, hj, rfl, rfl⟩ := hrel
            by_cases hjl : j < gl
            · have hjI : (j : Int) < gl := by omega
              obtain ⟨gB, rfl⟩ := HGA.out j hjl
              obtain ⟨x, hx⟩ : ∃ x, G[j]? = some x := ⟨G[j]'(by rw [HGL.out]; exact hjl), List.getElem?_eq_getElem _⟩
              have hOO := HO5.out
              rw [← HGL.out] at hOO
              have hg := hOO.gcell hx
              have hne : ¬ x = nid := by rw [HID.out]; exact HFR.out x (List.mem_of_getElem? hx)
              clear hOO hx
              go_wp2
              go_roundw
              case rel => exact ⟨j + 1, by omega, by go_num, by first | trivial | rfl⟩
              case measure => first | (simp [intOf]; done) | (simp [intOf]; omega)
            · have hjI : ¬ (j : Int) < gl := by omega
              obtain ⟨i0, hi, hz0, hz1, hz2⟩ := info_parts infoInt
              have HI := Lib.hid hi
              clear hi
              have hOO := HO5.out
              rw [← HGL.out] at hOO
              obtain ⟨w6, hw6⟩ : ∃ y, y = wr.alloc (.cells #[.int .i64 nid] 3) := ⟨_, rfl⟩
              have hO6 : OnS W w6 b ab base nb (cnt.set k (c + 1)) v4 (addL 16 cnt L xa xb k) (.slice ga G.length gc) G := hOO.call (by rw [hw6]; exact bal (Below.refl _ _) _)
              have hrw := hO6.row
              rw [HGL.out] at hrw
              have hnw : ∀ j u, [Value.int .i64 nid][j]? = some u → w6.cell? ((⟨wr.heap.size, 0, none⟩ : Addr).add j) = some u := add_cells (fun j u hj => by rw [hw6, cell_cur (cur := [Value.int .i64 nid]) (heap_alloc_new wr _)]; exact hj)
              have h1c : ∀ u ∈ [Value.int .i64 nid], u.oneCell' = true := by intro u hu; simp at hu; subst hu; rfl
              have hbs : nb + 1 ≤ w6.heap.size := by have := hO6.nl; omega
              have HRW := Lib.hid hrw
              have HNW := Lib.hid hnw
              have HO6 := Lib.hid hO6
              have HBS := Lib.hid hbs
              have HW6 := Lib.hid hw6
              clear hrw hnw hO6 hbs hOO hw6
              go_wp2_with (rw [← HW6.out]; at_builtin; refine wpList_append_at rfl _ _ 51 rfl (nb + 1) 3 i0 (.int .i64 0) 1 8 Try.underlying51 HI.out hz0 hz1 hz2 rfl (by decide) (.slice ga gl gc) gl (G.map (Value.int .i64)) rfl HRW.out ⟨wr.heap.size, 0, none⟩ 1 1 [.int .i64 nid] rfl rfl HNW.out h1c (by unfold maxLen; omega) (by omega) HBS.out ?_; intro gv' w7 hown hgr hft; have HOWN := Lib.hid hown; have HGR := Lib.hid hgr; have HFT := Lib.hid hft; clear hown hgr hft)
              go_roundw
              case rel =>
                refine ⟨t + 1, by omega, by go_num, cnt.set k (c + 1), v4, addL 16 cnt L xa xb k, G ++ [nid], Lib.hid ⟨?_, ?_, ?_⟩⟩
                · refine HO6.out.given nid k c (c + 1) (by rw [HGL.out]; exact HOWN.out) (by rw [HGL.out]; exact HGR.out) (by rw [HGL.out]; exact HFT.out.imp id (fun h => ⟨_, h, Nat.le_refl _⟩)) HID.out (by omega) (by omega) hc0 ?_ (by omega)
                  rw [show ((k : Int)).toNat = k by omega, List.getElem?_set_self (List.getElem?_eq_some_iff.1 HC.out).1]
                · have := addL_len 16 cnt L xa xb k; have := HLL.out.1; omega
                · have := HLL.out.2; have := HGL.out; simp; omega
              case measure => first | (simp [intOf]; done) | (simp [intOf]; omega)
        · obtain ⟨e1, e2⟩ := add_else hz
          generalize hr1 : (addR 16 cnt L xa xb xp).1 = r1
          generalize hr2 : (addR 16 cnt L xa xb xp).2 = r2 at hz
          have HR1 := Lib.hid hr1
          have HR2 := Lib.hid hr2
          have HE := Lib.hid (And.intro e1 e2)
          clear hr1 hr2 e1 e2
          go_wp2_with (go_at_call 24; (with_reducible refine (add_any w3 b ab base 16 cnt v L xa xb xp HO3.out.ar HOK.out (by have := HLL.out.1; omega)).mono ?_); rw [HR1.out, HR2.out, HE.out.1, HE.out.2]; rintro e w4 ⟨rfl, v4, hA4, hO4⟩; have HO4 := Lib.hid (HO3.out.act hA4 hO4); clear hA4 hO4)
          go_roundw
          case rel => exact ⟨t + 1, by omega, by go_num, cnt, v4, L, G, Lib.hid ⟨HO4.out, by have := HLL.out.1; omega, by have := HLL.out.2; omega⟩⟩
          case measure => first | (simp [intOf]; done) | (simp [intOf]; omega)
      · have HZ3 := Lib.hid hz3
        clear hz3
        go_wp2_with (go_at_call 23; (with_reducible refine (adrop_any w3 b ab base 16 cnt v L xa HO3.out.ar).mono ?_); rintro e w4 ⟨rfl, v4, hA4, hO4⟩; have HO4 := Lib.hid (HO3.out.act hA4 hO4); clear hA4 hO4)
        go_roundw
        case rel => exact ⟨t + 1, by omega, by go_num, cnt, v4, dropL L xa, G, Lib.hid ⟨HO4.out, by have := dropL_len L xa; have := HLL.out.1; omega, by have := HLL.out.2; omega⟩⟩
        case measure => first | (simp [intOf]; done) | (simp [intOf]; omega)
    · obtain rfl : t = n := by omega
      go_wp2_with (go_at_call 8; refine (awake12 _).mono ?_; rintro e w3 ⟨rfl, hb3⟩)
      go_ret
      exact ⟨rfl, HO.out.1.bl.trans (hb3.mono HO.out.1.bl.size)⟩
theorem walk_arenaOnce {W : World} (q : Option Addr) (n c : Nat) (hx : n ≤ c ∧ c ≤ maxLen ∧ ∃ D, ActsAt W q n D) :
    Calls Try.prog 5 #[.slice q n c] W fun e w' => e = .returned (.bool true) ∧ Below W.heap.size W w' := by
  obtain ⟨h1, h2, D, hD⟩ := hx
  unfold maxLen at h2
  by_cases hn : n ≤ 100
  · exact once_any q n c D W hn hD
  · have hn' : (n : Int) > 100 := by omega
    clear hD
    go_enter Try.func5, Try.ntmps5
    go_wp2_with (go_at_call 8; refine (awake12 _).mono ?_; rintro e w3 ⟨rfl, hb3⟩)
    go_ret
    exact ⟨rfl, hb3⟩
end Go.Proofs.Ytkladhbamkomnaa
