import Derived.Test.YtekllgejmgoajaaDoorPkaf
import Derived.Test.YtekllgejmgoajaaDoorPkan
import Derived.LoopIn
import Derived.Stop.RegionWithIn
import Derived.Deep.Slices
import Derived.OpenShut
import Derived.DataReads
import Derived.Test.YtekllgejmgoajaaDoorRows
import Derived.Lib.LaidTab
import Derived.WalkKit
import Derived.Test.YtekllgejmgoajaaDoorPkaj
namespace Go.Proofs.YtekllgejmgoajaaDoor
set_option linter.unusedVariables false
set_option linter.unusedSimpArgs false
set_option maxRecDepth 100000
set_option maxHeartbeats 8000000
open Lib (hid)
section
open Go.ChangeShapes Go.WideShapes Go.ChangeAt Go.RowKit Go.Shelf
attribute [local go_sem] Oper.semAt_some
namespace TabS
def Reads (pb b o : Nat) (v : Value) (N : Nat) (keys : Nat → Int) (W : World) : Prop :=
 W.cell? ⟨pb, 0, none⟩ = some (.pointer (some ⟨b, o, none⟩)) ∧ W.cell? ⟨b, o, none⟩ = some v ∧ ∀ g, v.ownBlock = some g → ∀ k, k < N → W.cell? ⟨g, k * 2, none⟩ = some (.int .i64 (keys k))
def encT (v : Value) (keys : Nat → Int) (k : Nat) : Array Value := #[.int .i64 (keys k), .pointer (v.ownBlock.map fun g => ⟨g, k * 2 + 1, none⟩)]
theorem eachT_px (E : TypeId) (q pb b o N B : Nat) (v : Value) (keys : Nat → Int) (I : Nat → World → Prop) (hv : (v = .slice none 0 0 ∧ N = 0) ∨ ∃ g c, v = .slice (some ⟨g, 0, none⟩) N c) (hN : N ≤ 1000000) (hI : ∀ k W, I k W → Reads pb b o v N keys W) :
  SeqPx E Fence.wide (q + 1) Tryd.prog 82 #[.pointer (some ⟨pb, 0, none⟩)] (encT v keys) I N B := by
 intro l J Jx W hBW hAb hAx hJI hY h0
 have hR0 := hI _ _ (hJI _ _ h0)
 have hbp : W.cell? ⟨pb, 0, none⟩ = some (.pointer (some ⟨b, o, none⟩)) := hR0.1
 have hbb : W.cell? ⟨b, o, none⟩ = some v := hR0.2.1
 have HY := hid hY
 have HAB := hid hAb
 have HI := hid (fun k W h => hI k W (hJI k W h))
 clear hY hAb hAx hI hJI hR0
 rcases hv with ⟨rfl, rfl⟩ | ⟨g, c, rfl⟩
 ·have H0 := hid h0
  clear h0
  refine callsIn_of_wp Tryd.func82 rfl trivial ?_ rfl
  simp only [Tryd.ntmps82, List.size_toArray, List.length_cons, List.length_nil, Nat.reduceAdd, Nat.reduceSub, Array.replicate_succ, Array.replicate_zero, List.push_toArray, List.append_toArray, List.nil_append, List.cons_append]
  gi_wp2
  clear hbp hbb
  gi_loopw [9, 3] (fun i x wr => i = .int .i64 0 ∧ J 0 wr) (fun i _ _ => 0)
  case atStart => exact ⟨rfl, H0.out⟩
  case round =>
   obtain ⟨rfl, hJ⟩ := hrel
   have HJ := hid hJ
   clear hJ
   gi_wp2
   go_end0
   exact ⟨⟨_, rfl⟩, .inl HJ.out⟩
 ·refine callsIn_of_wp Tryd.func82 rfl trivial ?_ rfl
  simp only [Tryd.ntmps82, List.size_toArray, List.length_cons, List.length_nil, Nat.reduceAdd, Nat.reduceSub, Array.replicate_succ, Array.replicate_zero, List.push_toArray, List.append_toArray, List.nil_append, List.cons_append]
  gi_wp2
  clear hbp hbb
  gi_loopw [9, 3] (fun i x wr => ∃ k : Nat, k ≤ N ∧ i = .int .i64 k ∧ J k wr) (fun i _ _ => N - (intOf i).toNat)
  case atStart => exact ⟨0, Nat.zero_le _, rfl, h0⟩
  case round =>
   obtain ⟨k, hk, rfl, hJ⟩ := hrel
   by_cases hlt : k < N
   ·obtain ⟨c0, c1, c2'⟩ := HI.out _ _ hJ
    have c2 := c2' g rfl k hlt
    have hltI : (k : Int) < N := by omega
    have hJd : J k wr.drew := HAB.out _ wr wr.drew none hJ ⟨rfl, rfl, rfl, Nat.le_refl _, fun _ _ _ => rfl⟩ (fun r e => by cases e)
    obtain ⟨fn, tmps, assign, body, hy, hR⟩ := HY.out k wr.drew hlt hJd
    unfold encT at hy
    (try dsimp only [Value.ownBlock, Option.map] at hy)
    have HR := hid (hR.mono (fun e W' h => two_ways (A := fun W' => J (k + 1) W' ∧ HiKept E W.heap.size wr.drew W') (B := fun W' => Jx k W' ∧ HiKept E W.heap.size wr.drew W') h))
    clear hR hJ hJd c2'
    generalize hkk : keys k = kk at *
    clear hkk
    gi_wp2
    gi_region_with (first | (refine HR.out.mono ?_; rintro e W' ⟨t, rfl, ht⟩))
    all_goals
     cases t
     ·have hJx := ht.2 rfl
      gi_wp2
      first
       | refine bodyPost_ret (results_none rfl _ _ _) rfl ?_
       | go_end0
      exact ⟨⟨_, rfl⟩, .inr ⟨k, hlt, hJx.1⟩⟩
     ·obtain ⟨hJ', hK'⟩ := ht.1 rfl
      gi_wp2
      go_roundw
      case rel => exact ⟨k + 1, by omega, by go_num, hJ'⟩
      case measure => first | (simp [intOf]; done) | (simp [intOf]; omega)
   ·obtain rfl : k = N := by omega
    have HJ := hid hJ
    clear hJ
    gi_wp2
    go_end0
    exact ⟨⟨_, rfl⟩, .inl HJ.out⟩
theorem each_in (n : Nat) (b o : Nat) (w : World) :
  CallsIn Fence.wide n Tryd.prog 75 #[.pointer (some ⟨b, o, none⟩)] w fun e w' => e = .returned (.func (.func 82) #[] #[.pointer (some ⟨w.heap.size, 0, none⟩)]) ∧ w' = w.alloc (.cells #[.pointer (some ⟨b, o, none⟩)] 110) := by
 refine callsIn_of_wp Tryd.func75 rfl trivial ?_ rfl
 simp only [Tryd.ntmps75, List.size_toArray, List.length_cons, List.length_nil, Nat.reduceAdd, Nat.reduceSub, Array.replicate_succ, Array.replicate_zero, List.push_toArray, List.append_toArray, List.nil_append, List.cons_append]
 gi_wp2
 go_ret
 exact ⟨rfl, rfl⟩
end TabS
end
section
open Go.ChangeShapes Go.WideShapes Go.ChangeAt Go.RowKit Go.Deep
inductive FK where
 | i (k : IntKind)
 | b
def FK.ok : FK → Value → Prop
 | .i k, v => ∃ n, v = .int k n ∧ (Lit.int k n).wf = true
 | .b, v => ∃ x, v = .bool x
def kindAt (P : Program) : Nat → TypeId → Nat → Option FK
 | 0, _, _ => none
 | d + 1, t, j => match P.underlying t with
  | some (.int k) => if j = 0 then some (.i k) else none
  | some .bool => if j = 0 then some .b else none
  | some (.struct fs) => fs.toList.findSome? fun f => if f.offset ≤ j && j < f.offset + P.cellsOf f.type then kindAt P d f.type (j - f.offset) else none
  | some (.array n e) => if j / P.cellsOf e < n && 0 < P.cellsOf e then kindAt P d e (j % P.cellsOf e) else none
  | _ => none
section
variable {H : Type} {enc : TypeId × Value → H} {P : Program} {w : World} {base : Nat} {spare : Nat → Bool} {held : Bool}
def intAt (w : World) (b o : Nat) : Int := match w.cell? ⟨b, o, none⟩ with
 | some (.int _ n) => n
 | _ => 0
def boolAt (w : World) (b o : Nat) : Bool := match w.cell? ⟨b, o, none⟩ with
 | some (.bool x) => x
 | _ => false
def KindIs (w : World) (b o : Nat) : FK → Prop
 | .i k => w.cell? ⟨b, o, none⟩ = some (.int k (intAt w b o)) ∧ (Lit.int k (intAt w b o)).wf = true
 | .b => w.cell? ⟨b, o, none⟩ = some (.bool (boolAt w b o))
def RowsAt (P : Program) (w : World) (e : TypeId) (C : Nat) (p : Option Addr) (n : Nat) : Prop :=
 ∃ b off, (0 < n → p = some ⟨b, off, none⟩ ∧ b < w.heap.size) ∧ ∀ i, i < n → ∀ j k, kindAt P 9 e j = some k → KindIs w b (off + (i * C + j)) k
end
end
section
open Go.RowKit
theorem listed_reads {P : Program} {w : World} : ∀ {l : List (String × DataW Unit)} {ps : List MemPlace}, DataW.LaidVars P w l ps → ∀ n d, (n, d) ∈ l →
  ∃ g t cs fuel p, P.globalNamed n = some g ∧ (P.globals[g]?).map (·.type) = some t ∧ w.var? P n = some cs ∧ DataW.trod (fun _ => ()) P w 0 (fun _ => true) false fuel t cs.toList = some (d, p)
 | [], _, _, _, _, hm => by cases hm
 | (_, _) :: _, _, ⟨g, t, cs, fuel, p, _, h1, h2, h3, h4, h5, _⟩, n, d, hm => by
  rcases List.mem_cons.1 hm with e | e
  ·cases e
   exact ⟨g, t, cs, fuel, p, h1, h2, h3, h4⟩
  ·exact listed_reads h5 n d e
theorem size_of_var {P : Program} {w : World} {n : String} {g : Nat} {cs : Array Value} (hg : P.globalNamed n = some g) (h : w.var? P n = some cs) : g < w.heap.size := by
 simp only [World.var?, hg, Option.bind_some] at h
 split at h
 ·rename_i hh; exact (ags hh).1
 ·cases h
def LaidV_laid_math_bits_deBruijn64tab (W : World) : Prop := TabAt W ∧ 0 < W.heap.size
theorem laidV_laid_math_bits_deBruijn64tab {l : List (String × DataW Unit)} {W : World} (hm : ("math/bits.deBruijn64tab", (Rows.laid_math_bits_deBruijn64tab : DataW Unit)) ∈ l) (h : laidMet Tryd.prog l W) : LaidV_laid_math_bits_deBruijn64tab W := by
 obtain ⟨_, hv, _⟩ := h
 obtain ⟨g, t, cs, fuel, p, hg, hty, hvar, hd⟩ := listed_reads hv _ _ hm
 have k1 : Tryd.prog.globalNamed "math/bits.deBruijn64tab" = some 0 := by kernel_rfl
 have k2 : (Tryd.prog.globals[0]?).map (·.type) = some 131 := by kernel_rfl
 obtain rfl := Option.some.inj (k1.symm.trans hg)
 obtain rfl := Option.some.inj (k2.symm.trans hty)
 have e : (Rows.laid_math_bits_deBruijn64tab : DataW Unit) = Lib.tabData .u8 (Lib.deBruijn64tab.map fun n : Nat => (n : Int)) := by kernel_rfl
 rw [e] at hd
 have hcs := Lib.cells_of_tab Tryd.underlying131 Tryd.underlying5 (by kernel_rfl) (by kernel_rfl) hd
 refine ⟨fun j hj => ?_, size_of_var hg hvar⟩
 have := World.var?_cell hg hvar j
 rw [this, ← Array.getElem?_toList, hcs]
 simp [List.getD, hj]
end
end Go.Proofs.YtekllgejmgoajaaDoor
