/- package decode: Decode. -/
import Derived.Test.YtahagcghbeeajaaDcA
namespace Go.Proofs.Ytahagcghbeeajaa
set_option linter.unusedVariables false
set_option linter.unusedSimpArgs false
open Go.ChangeShapes Go.WideShapes Go.ChangeAt Go.RowKit Go.Shelf

def stepD (L : List Frm) (a : Nat → Int) (s : (Nat → Int) × Int) (i : Nat) : (Nat → Int) × Int :=
  if a i < (fmAt L i).2.1 ∨ (fmAt L i).2.2 < a i then (s.1, 3) else (putF (fmAt L i).1 (a i) s.1, s.2)
def stopD (L : List Frm) (a : Nat → Int) (i : Nat) : Bool := decide ((fmAt L i).1 = 0 ∧ a i ≠ 0)
def o0 (op : Int) : Nat → Int := up (fun _ => 0) 0 (wrap64 op)
def runL (op : Int) (L : List Frm) (a : Nat → Int) (pre : List (Fin 6)) : (Nat → Int) × Int := pre.foldl (fun s x => stepD L a s x.1) (o0 op, 0)
def zO : Nat → Int := fun _ => 0
/-- What Decode answers: an order's cells and a code. -/
def decM (n : Nat) (a : Nat → Int) : (Nat → Int) × Int :=
  match formsL n with
  | none => (zO, 2)
  | some L => if n = 1 ∧ framesN (wrap64 (a 1)) (wrap64 (a 2)) = 0 then (zO, 2) else if (fst6 6).any (fun x => stopD L a x.1) = true then (zO, 2) else if (runL n L a (fst6 6)).2 = 0 then ((runL n L a (fst6 6)).1, 0) else (zO, (runL n L a (fst6 6)).2)
abbrev ordV (o : Nat → Int) : Value := .agg (ordA o)
theorem zeroOrd : ∀ w, (zeroValue 29).run Try.prog w = .ok (ordV zO) w := fun _ => by kernel_rfl
theorem ord_new (w : World) (o : Nat → Int) : OrdAt (w.alloc (.cells (ordA o) 29)) w.heap.size o := World.alloc_heap_new w _
theorem OrdAt.call {w w' : World} {q : Nat} {o : Nat → Int} (h : OrdAt w q o) (k : Below w.heap.size w w') : OrdAt w' q o := (k.block q h.lt).trans h
theorem CallAt.cells {w : World} {p : Nat} {op : Int} {a : Nat → Int} (h : CallAt w p op a) : w.cell? ⟨p, 0, none⟩ = some (.int .u64 op) ∧ w.cell? ⟨p, 1, none⟩ = some (.int .u64 (a 0)) ∧ w.cell? ⟨p, 2, none⟩ = some (.int .u64 (a 1)) ∧ w.cell? ⟨p, 3, none⟩ = some (.int .u64 (a 2)) ∧ w.cell? ⟨p, 4, none⟩ = some (.int .u64 (a 3)) ∧ w.cell? ⟨p, 5, none⟩ = some (.int .u64 (a 4)) ∧ w.cell? ⟨p, 6, none⟩ = some (.int .u64 (a 5)) := by
  simp only [row_cell h]
  exact ⟨rfl, rfl, rfl, rfl, rfl, rfl, rfl⟩
theorem OrdAt.there {w : World} {q : Nat} {o : Nat → Int} (h : OrdAt w q o) : w.there q 0 12 := by
  intro i hi
  refine ⟨?_, h.free _⟩
  rw [row_cell h]
  have e : (ordA o).size = 12 := rfl
  rw [Array.getElem?_eq_getElem (by omega)]
  rfl
theorem ord_put {w : World} {q : Nat} {o : Nat → Int} (o' : Nat → Int) (h : OrdAt w q o) : OrdAt (w.setCells q 0 (ordA o').toList) q o' ∧ OneOnly q w (w.setCells q 0 (ordA o').toList) :=
  ⟨((((((((((((((((((((((((h).set (o' := (up o 0 (o' 0))) 0 (.int .i64 (o' 0)) rfl)).set (o' := (up (up o 0 (o' 0)) 1 (o' 1))) 1 (.int .i64 (o' 1)) rfl)).set (o' := (up (up (up o 0 (o' 0)) 1 (o' 1)) 2 (o' 2))) 2 (.int .i64 (o' 2)) rfl)).set (o' := (up (up (up (up o 0 (o' 0)) 1 (o' 1)) 2 (o' 2)) 3 (o' 3))) 3 (.int .i64 (o' 3)) rfl)).set (o' := (up (up (up (up (up o 0 (o' 0)) 1 (o' 1)) 2 (o' 2)) 3 (o' 3)) 4 (o' 4))) 4 (.int .i64 (o' 4)) rfl)).set (o' := (up (up (up (up (up (up o 0 (o' 0)) 1 (o' 1)) 2 (o' 2)) 3 (o' 3)) 4 (o' 4)) 5 (o' 5))) 5 (.int .i64 (o' 5)) rfl)).set (o' := (up (up (up (up (up (up (up o 0 (o' 0)) 1 (o' 1)) 2 (o' 2)) 3 (o' 3)) 4 (o' 4)) 5 (o' 5)) 6 (o' 6))) 6 (.int .i64 (o' 6)) rfl)).set (o' := (up (up (up (up (up (up (up (up o 0 (o' 0)) 1 (o' 1)) 2 (o' 2)) 3 (o' 3)) 4 (o' 4)) 5 (o' 5)) 6 (o' 6)) 7 (o' 7))) 7 (.int .u64 (o' 7)) rfl)).set (o' := (up (up (up (up (up (up (up (up (up o 0 (o' 0)) 1 (o' 1)) 2 (o' 2)) 3 (o' 3)) 4 (o' 4)) 5 (o' 5)) 6 (o' 6)) 7 (o' 7)) 8 (o' 8))) 8 (.int .u64 (o' 8)) rfl)).set (o' := (up (up (up (up (up (up (up (up (up (up o 0 (o' 0)) 1 (o' 1)) 2 (o' 2)) 3 (o' 3)) 4 (o' 4)) 5 (o' 5)) 6 (o' 6)) 7 (o' 7)) 8 (o' 8)) 9 (o' 9))) 9 (.int .u64 (o' 9)) rfl)).set (o' := (up (up (up (up (up (up (up (up (up (up (up o 0 (o' 0)) 1 (o' 1)) 2 (o' 2)) 3 (o' 3)) 4 (o' 4)) 5 (o' 5)) 6 (o' 6)) 7 (o' 7)) 8 (o' 8)) 9 (o' 9)) 10 (o' 10))) 10 (.int .u64 (o' 10)) rfl)).set (o' := (up (up (up (up (up (up (up (up (up (up (up (up o 0 (o' 0)) 1 (o' 1)) 2 (o' 2)) 3 (o' 3)) 4 (o' 4)) 5 (o' 5)) 6 (o' 6)) 7 (o' 7)) 8 (o' 8)) 9 (o' 9)) 10 (o' 10)) 11 (o' 11))) 11 (.int .u64 (o' 11)) rfl), ((((((((((((OneOnly.refl (q := q) (w := w)).set 0 _).set 1 _).set 2 _).set 3 _).set 4 _).set 5 _).set 6 _).set 7 _).set 8 _).set 9 _).set 10 _).set 11 _⟩
theorem OneOnly.below {q B : Nat} {w w' : World} (h : OneOnly q w w') (hB : B ≤ q) (hs : B ≤ w.heap.size) : Below B w w' := ⟨h.os, h.tape, h.output, h.size, fun k hk => h.block k (by omega) (by omega)⟩
set_option maxRecDepth 100000 in
set_option maxHeartbeats 2000000 in
theorem decode_none (n : Nat) (a : Nat → Int) (w : World) (h : formsL n = none) :
    Calls Try.prog 7 #[.agg (callA n a)] w fun e w' => e = .returned (.tuple #[ordV zO, .int .i64 2]) ∧ Below w.heap.size w w' := by
  have HF := fun w => forms_no n n rfl h w
  have HF1 := Lib.hid HF
  clear HF
  have hz := zeroOrd
  have hq := fun w => Go.Lib.run_eql_slice_nil (P := Try.prog) w 46 53 none 0 0 0 0 Try.underlying46
  have hc0 : (callA n a)[0]? = some (.int .u64 n) := rfl
  go_enter Try.func7, Try.ntmps7
  go_wp2
  go_step3
  go_wp2_with (first
    | (go_at_call 14; refine (HF1.out _).mono ?_; rintro e w1 ⟨rfl, hb1⟩; have ho := (ord_new (w.alloc (.cells (callA n a) 25)) zO).call hb1; rw [World.size_alloc] at ho; have HO := Lib.hid ho; have HB := Lib.hid hb1; clear ho hb1)
    | (refine wpList_store_mid rfl 29 _ _ rfl (w.heap.size + 1) 0 (ordA zO) rfl rfl HO.out.there (by kernel_rfl) (by kernel_rfl) ?_))
  have hbb : Below w.heap.size w w1 := bgo (bal (bal (Below.refl _ _) _) _) HB.out
  obtain ⟨ho2, hon⟩ := ord_put zO HO.out
  have hb2 := hbb.trans (hon.below (by omega) hbb.size)
  clear hon
  generalize w1.setCells (w.heap.size + 1) 0 (ordA zO).toList = w2 at *
  obtain ⟨c0, c1, c2, c3, c4, c5, c6, c7, c8, c9, c10, c11⟩ := ho2.cells
  rw [Exit.noGoto_ret]
  refine bodyPost_ret (v := .tuple #[ordV zO, .int .i64 2]) (by simp [results, Try.results7, go_sem, ordA, c0, c1, c2, c3, c4, c5, c6, c7, c8, c9, c10, c11]) rfl ⟨rfl, hb2⟩
end Go.Proofs.Ytahagcghbeeajaa
