/- The writer's add: one instruction behind the others. -/
import Derived.Test.YtafhgilikcablaaVmMach
import Derived.Deep.RegionHeld3
import Derived.Deep.RegionLaw
import Derived.BigRegion
import Derived.BigQuiet
import Derived.Test.YtafhgilikcablaaFormV
import Derived.Test.YtafhgilikcablaaCmF
namespace Go.Proofs.Ytafhgilikcablaa
open Go.RowKit
set_option linter.unusedVariables false
set_option linter.unusedSimpArgs false

/-- the program's registers -/
def RegAt (w : World) (g : Nat) (rs : List Reg) : Prop := w.heap[g]? = some (.cells ⟨regC rs⟩ 148 (0, 0))
/-- the document's values, and truths -/
def ValAt (w : World) (g : Nat) (rs : List Reg) : Prop := w.heap[g]? = some (.cells ⟨valC rs⟩ 38 (0, 0))
def TruAt (w : World) (g : Nat) (rs : List Reg) : Prop := w.heap[g]? = some (.cells ⟨truC rs⟩ 3 (0, 0))
section
variable {w w' : World} {g : Nat} {rs : List Reg}
theorem RegAt.lt (h : RegAt w g rs) : g < w.heap.size := (Array.getElem?_eq_some_iff.1 h).1
theorem ValAt.lt (h : ValAt w g rs) : g < w.heap.size := (Array.getElem?_eq_some_iff.1 h).1
theorem TruAt.lt (h : TruAt w g rs) : g < w.heap.size := (Array.getElem?_eq_some_iff.1 h).1
theorem RegAt.below (h : RegAt w g rs) (hb : Below w.heap.size w w') : RegAt w' g rs := (hb.block g h.lt).trans h
theorem ValAt.below (h : ValAt w g rs) (hb : Below w.heap.size w w') : ValAt w' g rs := (hb.block g h.lt).trans h
theorem TruAt.below (h : TruAt w g rs) (hb : Below w.heap.size w w') : TruAt w' g rs := (hb.block g h.lt).trans h
theorem RegAt.other (h : RegAt w g rs) {b j : Nat} (hne : b ≠ g) (u : Value) : RegAt (w.setCell ⟨b, j, none⟩ u) g rs := (heap_setCell_other w ⟨b, j, none⟩ g u (fun e => hne e.symm)).trans h
theorem ValAt.other (h : ValAt w g rs) {b j : Nat} (hne : b ≠ g) (u : Value) : ValAt (w.setCell ⟨b, j, none⟩ u) g rs := (heap_setCell_other w ⟨b, j, none⟩ g u (fun e => hne e.symm)).trans h
theorem TruAt.other (h : TruAt w g rs) {b j : Nat} (hne : b ≠ g) (u : Value) : TruAt (w.setCell ⟨b, j, none⟩ u) g rs := (heap_setCell_other w ⟨b, j, none⟩ g u (fun e => hne e.symm)).trans h
theorem RegAt.cells (h : RegAt w g rs) {i : Nat} (hi : i < rs.length) : w.cell? ⟨g, i * 4, none⟩ = some (.int .i64 (rs.getD i noR).1.1) ∧ w.cell? ⟨g, i * 4 + 1, none⟩ = some (.int .i64 (rs.getD i noR).1.2.1) ∧ w.cell? ⟨g, i * 4 + 2, none⟩ = some (.string (rs.getD i noR).1.2.2) ∧ w.cell? ⟨g, i * 4 + 3, none⟩ = some (.int .i64 (rs.getD i noR).2) := by
  obtain ⟨h0, h1, h2, h3⟩ := regC_at rs i hi
  refine ⟨?_, ?_, ?_, ?_⟩
  · rw [cell_of_row w g (i * 4) _ _ _ h]; simpa using h0
  · rw [cell_of_row w g (i * 4 + 1) _ _ _ h]; simpa using h1
  · rw [cell_of_row w g (i * 4 + 2) _ _ _ h]; simpa using h2
  · rw [cell_of_row w g (i * 4 + 3) _ _ _ h]; simpa using h3
theorem ValAt.cells (h : ValAt w g rs) {i : Nat} (hi : i < rs.length) : w.cell? ⟨g, i * 3, none⟩ = some (.int .i64 (rs.getD i noR).1.1) ∧ w.cell? ⟨g, i * 3 + 1, none⟩ = some (.int .i64 (rs.getD i noR).1.2.1) ∧ w.cell? ⟨g, i * 3 + 2, none⟩ = some (.string (rs.getD i noR).1.2.2) := by
  obtain ⟨h0, h1, h2⟩ := valC_at rs i hi
  refine ⟨?_, ?_, ?_⟩
  · rw [cell_of_row w g (i * 3) _ _ _ h]; simpa using h0
  · rw [cell_of_row w g (i * 3 + 1) _ _ _ h]; simpa using h1
  · rw [cell_of_row w g (i * 3 + 2) _ _ _ h]; simpa using h2
theorem TruAt.cells (h : TruAt w g rs) {i : Nat} (hi : i < rs.length) : w.cell? ⟨g, i, none⟩ = some (.int .i64 (rs.getD i noR).2) := by
  rw [cell_of_row w g i _ _ _ h]; simpa using truC_at rs i hi
theorem RegAt.frozen (h : RegAt w g rs) (j : Nat) : w.frozen? ⟨g, j, none⟩ = false := frozen_of_row _ _ j _ _ h
theorem ValAt.frozen (h : ValAt w g rs) (j : Nat) : w.frozen? ⟨g, j, none⟩ = false := frozen_of_row _ _ j _ _ h
theorem TruAt.frozen (h : TruAt w g rs) (j : Nat) : w.frozen? ⟨g, j, none⟩ = false := frozen_of_row _ _ j _ _ h
theorem RegAt.truth (h : RegAt w g rs) {i : Nat} (hi : i < rs.length) (t : Int) : RegAt (w.setCell ⟨g, i * 4 + 3, none⟩ (.int .i64 t)) g (rs.set i ((rs.getD i noR).1, t)) := by
  have := Go.heap_setCell_same w g (i * 4 + 3) _ _ (.int .i64 t) h
  unfold RegAt
  rw [this, ← regC_truth rs i t hi]
  simp
theorem RegAt.value (h : RegAt w g rs) {i : Nat} (hi : i < rs.length) (v : Val) : RegAt (((w.setCell ⟨g, i * 4, none⟩ (.int .i64 v.1)).setCell ⟨g, i * 4 + 1, none⟩ (.int .i64 v.2.1)).setCell ⟨g, i * 4 + 2, none⟩ (.string v.2.2)) g (rs.set i (v, (rs.getD i noR).2)) := by
  have := Go.heap_setCell_same _ g (i * 4 + 2) _ _ (.string v.2.2) (Go.heap_setCell_same _ g (i * 4 + 1) _ _ (.int .i64 v.2.1) (Go.heap_setCell_same w g (i * 4) _ _ (.int .i64 v.1) h))
  unfold RegAt
  rw [this, ← regC_value rs i v hi]
  simp
theorem ValAt.value (h : ValAt w g rs) {i : Nat} (hi : i < rs.length) (r : Reg) : ValAt (((w.setCell ⟨g, i * 3, none⟩ (.int .i64 r.1.1)).setCell ⟨g, i * 3 + 1, none⟩ (.int .i64 r.1.2.1)).setCell ⟨g, i * 3 + 2, none⟩ (.string r.1.2.2)) g (rs.set i r) := by
  have := Go.heap_setCell_same _ g (i * 3 + 2) _ _ (.string r.1.2.2) (Go.heap_setCell_same _ g (i * 3 + 1) _ _ (.int .i64 r.1.2.1) (Go.heap_setCell_same w g (i * 3) _ _ (.int .i64 r.1.1) h))
  unfold ValAt
  rw [this, ← valC_value rs i r hi]
  simp
theorem TruAt.truth (h : TruAt w g rs) (i : Nat) (r : Reg) : TruAt (w.setCell ⟨g, i, none⟩ (.int .i64 r.2)) g (rs.set i r) := by
  have := Go.heap_setCell_same w g i _ _ (.int .i64 r.2) h
  unfold TruAt
  rw [this, ← truC_set rs i r]
  simp
end
end Go.Proofs.Ytafhgilikcablaa
namespace Go.Proofs.Ytafhgilikcablaa
open Go.RowKit
set_option linter.unusedVariables false
set_option linter.unusedSimpArgs false

/-- the regions of a code, by number -/
def regOf (n : Nat) : Code → Option Code
  | .region id ops b => if id = n then some (.region id ops b) else none
  | .seq a b => match regOf n a with
    | some c => some c
    | none => regOf n b
  | .block _ c => regOf n c
  | .scope c => regOf n c
  | .loop c => regOf n c
  | .cond _ a b => match regOf n a with
    | some c => some c
    | none => regOf n b
  | _ => none
/-- nothing but one block is another -/
structure Sto (g : Nat) (w w' : World) : Prop where
  os : w'.os = w.os
  tape : w'.tape = w.tape
  output : w'.output = w.output
  size : w.heap.size ≤ w'.heap.size
  block : ∀ i, i < w.heap.size → i ≠ g → w'.heap[i]? = w.heap[i]?
theorem Sto.refl (g : Nat) (w : World) : Sto g w w := ⟨rfl, rfl, rfl, Nat.le_refl _, fun _ _ _ => rfl⟩
theorem Sto.of_below {g : Nat} {w w' : World} (h : Below w.heap.size w w') : Sto g w w' := ⟨h.os, h.tape, h.output, h.size, fun i hi _ => h.block i hi⟩
theorem Sto.trans {g : Nat} {a b c : World} (h : Sto g a b) (k : Sto g b c) : Sto g a c := ⟨k.os.trans h.os, k.tape.trans h.tape, k.output.trans h.output, Nat.le_trans h.size k.size, fun i hi hn => (k.block i (Nat.lt_of_lt_of_le hi h.size) hn).trans (h.block i hi hn)⟩
theorem Sto.set {g : Nat} {a b : World} (h : Sto g a b) (j : Nat) (u : Value) : Sto g a (b.setCell ⟨g, j, none⟩ u) := ⟨h.os, h.tape, h.output, by simpa using h.size, fun i hi hn => (heap_setCell_other b ⟨g, j, none⟩ i u hn).trans (h.block i hi hn)⟩
theorem Sto.drew {g : Nat} {a b : World} (h : Sto g a b) : Sto g a b.drew := ⟨h.os, h.tape, h.output, h.size, h.block⟩
theorem Below.sto {B g : Nat} {w a b : World} (h : Below B w a) (k : Sto g a b) (hg : B ≤ g) (hB : B ≤ a.heap.size) : Below B w b := ⟨k.os.trans h.os, k.tape.trans h.tape, k.output.trans h.output, Nat.le_trans h.size k.size, fun i hi => (k.block i (by omega) (by omega)).trans (h.block i hi)⟩
/-- a result's box -/
def ResAt (w : World) (p : Nat) (v : Val) : Prop := w.heap[p]? = some (.cells #[.int .i64 v.1, .int .i64 v.2.1, .string v.2.2] 38 (0, 0))
/-- the box of an instruction -/
structure InBox (w : World) (b : Nat) (op : ByteArray) (A B C : Nat) (v : Val) : Prop where
  f0 : w.cell? ⟨b, 0, none⟩ = some (.string op)
  f1 : w.cell? ⟨b, 1, none⟩ = some (.int .i64 (A : Int))
  f2 : w.cell? ⟨b, 2, none⟩ = some (.int .i64 (B : Int))
  f3 : w.cell? ⟨b, 3, none⟩ = some (.int .i64 (C : Int))
  f4 : w.cell? ⟨b, 4, none⟩ = some (.int .i64 v.1)
  f5 : w.cell? ⟨b, 5, none⟩ = some (.int .i64 v.2.1)
  f6 : w.cell? ⟨b, 6, none⟩ = some (.string v.2.2)
end Go.Proofs.Ytafhgilikcablaa
namespace Go.Proofs.Ytafhgilikcablaa
open Go.RowKit
set_option linter.unusedVariables false
set_option linter.unusedSimpArgs false
set_option maxRecDepth 100000
/-- a writer that has come so far -/
structure WSt (w : World) (N : Nat) (v : Value) (xs : List Ins) (rg : Int) : Prop where
  rd : w.heap[N]? = some (.cells #[v, .int .i64 rg] 142 (0, 0))
  own : w.ownsRow (N + 1) 138 7 v xs.length (insOf xs)
theorem WSt.low {w : World} {N : Nat} {v : Value} {xs : List Ins} {rg : Int} (h : WSt w N v xs rg) : N < w.heap.size := (Array.getElem?_eq_some_iff.1 h.rd).1
theorem WSt.below {w w' : World} {N : Nat} {v : Value} {xs : List Ins} {rg : Int} (h : WSt w N v xs rg) (hb : Below w.heap.size w w') : WSt w' N v xs rg :=
  ⟨(hb.block _ h.low).trans h.rd, own_below h.own hb⟩
theorem own_setW {w : World} {N : Nat} {e : TypeId} {size : Nat} {v : Value} {n : Nat} {xs : List Value} (h : w.ownsRow (N + 1) e size v n xs) (j : Nat) (x : Value) : (w.setCell ⟨N, j, none⟩ x).ownsRow (N + 1) e size v n xs := by
  refine ⟨h.1, ?_⟩
  rcases h.2 with h0 | ⟨g, cap, cur, a, b, hg, r⟩
  · exact .inl h0
  · refine .inr ⟨g, cap, cur, a, b, ?_, r⟩
    rw [heap_setCell_other _ _ _ _ (by show g ≠ N; omega)]
    exact hg
theorem own_sliceW {w : World} {B n size : Nat} {e : TypeId} {v : Value} {xs : List Value} (h : w.ownsRow B e size v n xs) : ∃ a c, v = .slice a n c := by
  rcases h.2 with ⟨rfl, h0⟩ | ⟨g, cap, cur, rfl, _⟩
  · exact ⟨none, 0, by rw [h0]⟩
  · exact ⟨_, _, rfl⟩
theorem WSt.grown {w w' : World} {N : Nat} {v : Value} {xs : List Ins} {rg : Int} (h : WSt w N v xs rg) (hg : w.grownBy w' v.ownBlock) :
    w'.heap[N]? = some (.cells #[v, .int .i64 rg] 142 (0, 0)) ∧ Below N w w' :=
  ⟨(hg.block N h.low (fun e => by
    rcases h.own.2 with ⟨rfl, _⟩ | ⟨g, cap, cur, rfl, hb, _⟩
    · cases e
    · have : g = N := by simpa [Value.ownBlock] using e.symm
      omega)).trans h.rd, (Below.refl N w).grown hg (Nat.le_of_lt h.low) (fun k hk => by have := (h.own.lt k hk).1; omega)⟩
theorem WSt.code {w : World} {N m : Nat} {v v' : Value} {xs : List Ins} {rg : Int} (h : w.heap[N]? = some (.cells #[v, .int .i64 rg] 142 (0, 0))) (ho : w.ownsRow (N + 1) 138 7 v' m (insOf xs)) (hm : m = xs.length) : WSt (w.setCell ⟨N, 0, none⟩ v') N v' xs rg :=
  ⟨Go.heap_setCell_same w N 0 _ _ _ h, own_setW (hm ▸ ho) _ _⟩
theorem WSt.regs {w : World} {N : Nat} {v : Value} {xs : List Ins} {rg : Int} (h : WSt w N v xs rg) (r : Int) : WSt (w.setCell ⟨N, 1, none⟩ (.int .i64 r)) N v xs r :=
  ⟨Go.heap_setCell_same w N 1 _ _ _ h.rd, own_setW h.own _ _⟩
theorem WSt.drew {w : World} {N : Nat} {v : Value} {xs : List Ins} {rg : Int} (h : WSt w N v xs rg) : WSt w.drew N v xs rg := ⟨h.rd, h.own⟩
theorem WSt.regsY {w : World} {N : Nat} {v : Value} {xs : List Ins} {rg y r : Int} (h : WSt w N v xs rg) (hy : y = r) : WSt (w.setCell ⟨N, 1, none⟩ (.int .i64 y)) N v xs r := hy ▸ h.regs y
/-- what a writer's calls leave: all below the writer is as it was, and all else but its row -/
structure WTo (N : Nat) (v v' : Value) (w w' : World) : Prop where
  below : Below N w w'
  block : ∀ i, i < w.heap.size → i ≠ N → v.ownBlock ≠ some i → w'.heap[i]? = w.heap[i]?
  own : ∀ i, v'.ownBlock = some i → v.ownBlock = some i ∨ w.heap.size ≤ i
theorem WTo.refl (N : Nat) (v : Value) (w : World) : WTo N v v w w := ⟨Below.refl _ _, fun _ _ _ _ => rfl, fun _ h => .inl h⟩
theorem WTo.trans {N : Nat} {v v' v'' : Value} {a b c : World} (h : WTo N v v' a b) (k : WTo N v' v'' b c) : WTo N v v'' a c :=
  ⟨h.below.trans k.below, fun i hi hn hv => (k.block i (Nat.lt_of_lt_of_le hi h.below.size) hn (fun e => (h.own i e).elim hv (fun hge => absurd hi (Nat.not_lt.2 hge)))).trans (h.block i hi hn hv),
   fun i e => (k.own i e).elim (h.own i) (fun hge => .inr (Nat.le_trans h.below.size hge))⟩
theorem WTo.of_below {N : Nat} {v : Value} {w w' : World} (h : Below w.heap.size w w') (hN : N ≤ w.heap.size) : WTo N v v w w' := ⟨h.mono hN, fun i hi _ _ => h.block i hi, fun _ e => .inl e⟩
theorem WTo.setN {N : Nat} {v v' : Value} {a b : World} (h : WTo N v v' a b) (j : Nat) (u : Value) : WTo N v v' a (b.setCell ⟨N, j, none⟩ u) :=
  ⟨h.below.setCell (p := ⟨N, j, none⟩) (Nat.le_refl _) u, fun i hi hn hv => (heap_setCell_other b ⟨N, j, none⟩ i u hn).trans (h.block i hi hn hv), h.own⟩
theorem WTo.drew {N : Nat} {v v' : Value} {a b : World} (h : WTo N v v' a b) : WTo N v v' a b.drew := ⟨h.below.drew, h.block, h.own⟩
theorem WTo.grown {N : Nat} {v : Value} {xs : List Ins} {rg : Int} {w W w' : World} {g n c : Nat} (h : WSt W N v xs rg) (hb : WTo N v v w W) (hg : W.grownBy w' v.ownBlock) (hor : v.ownBlock = some g ∨ g = W.heap.size) : WTo N v (.slice (some ⟨g, 0, none⟩) n c) w w' :=
  ⟨hb.below.trans (h.grown hg).2, fun i hi hn hv => (hg.block i (Nat.lt_of_lt_of_le hi hb.below.size) (fun e => hv e.symm)).trans (hb.block i hi hn hv),
   fun i e => by
    have : g = i := by simpa [Value.ownBlock] using e
    subst this
    exact hor.imp id (fun e => by rw [e]; exact hb.below.size)⟩
theorem WTo.grown1 {N : Nat} {v : Value} {xs : List Ins} {rg : Int} {w w1 W w' : World} {g n c : Nat} (h : WSt W N v xs rg) (h1 : WTo N v v w w1) (hN : N ≤ w1.heap.size) (hb : Below w1.heap.size w1 W) (hg : W.grownBy w' v.ownBlock) (hor : v.ownBlock = some g ∨ g = W.heap.size) : WTo N v (.slice (some ⟨g, 0, none⟩) n c) w w' :=
  WTo.grown h (h1.trans (.of_below hb hN)) hg hor
/-- what a writer's call leaves: more code -/
def WMore (w : World) (N : Nat) (v : Value) (xs : List Ins) (rg : Int) (e : Ending) (w' : World) : Prop :=
  e = .returned (.tuple #[]) ∧ ∃ v', WSt w' N v' xs rg ∧ WTo N v v' w w'
set_option maxHeartbeats 6400000 in
theorem wadd_any (w : World) (N : Nat) (v : Value) (xs : List Ins) (rg : Int) (x : Ins) (h : WSt w N v xs rg) (hn : xs.length < 1000) (ha : 0 ≤ x.a ∧ x.a ≤ 1000) (hr : 0 ≤ rg ∧ rg ≤ 1001) :
    Calls Try.prog 120 #[.pointer (some ⟨N, 0, none⟩), .agg #[.string x.op, .int .i64 x.a, .int .i64 x.b, .int .i64 x.c, .int .i64 x.v.1, .int .i64 x.v.2.1, .string x.v.2.2]] w (WMore w N v (xs ++ [x]) (max rg (x.a + 1))) := by
  obtain ⟨a, c, rfl⟩ := own_sliceW h.own
  have hb1 := bel0 (.cells #[.string x.op, .int .i64 x.a, .int .i64 x.b, .int .i64 x.c, .int .i64 x.v.1, .int .i64 x.v.2.1, .string x.v.2.2] 138) (Below.refl w.heap.size w)
  have H0 := Lib.hid h
  have HNn := Lib.hid hn
  obtain ⟨w1, hw1⟩ : ∃ w1, w1 = w.alloc (.cells #[.string x.op, .int .i64 x.a, .int .i64 x.b, .int .i64 x.c, .int .i64 x.v.1, .int .i64 x.v.2.1, .string x.v.2.2] 138) := ⟨_, rfl⟩
  have hnew : w1.heap[w.heap.size]? = some (.cells #[.string x.op, .int .i64 x.a, .int .i64 x.b, .int .i64 x.c, .int .i64 x.v.1, .int .i64 x.v.2.1, .string x.v.2.2] 138 (0, 0)) := by rw [hw1]; exact Go.heap_alloc_new w _
  rw [← hw1] at hb1
  have HW := Lib.hid hw1
  have H1 := Lib.hid (h.below hb1)
  have HB1 := Lib.hid (show WTo N (.slice a xs.length c) (.slice a xs.length c) w w1 from .of_below hb1 (Nat.le_of_lt h.low))
  have HNew := Lib.hid hnew
  have hlt := H1.out.low
  have hlt2 : w.heap.size < w1.heap.size := (Array.getElem?_eq_some_iff.1 hnew).1
  have hNw : N < w.heap.size := h.low
  have f0 := cell_of_row _ _ 0 _ _ _ H1.out.rd
  have f1 := cell_of_row _ _ 1 _ _ _ H1.out.rd
  have fz : ∀ j, w1.frozen? ⟨N, j, none⟩ = false := fun j => frozen_of_row _ _ j _ _ H1.out.rd
  have c0 := cell_of_row _ _ 0 _ _ _ HNew.out
  have c1 := cell_of_row _ _ 1 _ _ _ HNew.out
  have c2 := cell_of_row _ _ 2 _ _ _ HNew.out
  have c3 := cell_of_row _ _ 3 _ _ _ HNew.out
  have c4 := cell_of_row _ _ 4 _ _ _ HNew.out
  have c5 := cell_of_row _ _ 5 _ _ _ HNew.out
  have c6 := cell_of_row _ _ 6 _ _ _ HNew.out
  simp only [List.getElem?_toArray, List.getElem?_cons_zero, List.getElem?_cons_succ] at f0 f1 c0 c1 c2 c3 c4 c5 c6
  clear h hn hb1 hw1 hnew
  go_enter Try.func120, Try.ntmps120
  go_upto_region 1 with (fail)
  rw [← HW.out]
  have HG := Lib.hid (fun (W w' : World) (hb : Below w1.heap.size w1 W) (hg : W.grownBy w' (Value.slice a xs.length c).ownBlock) => (H1.out.below hb).grown hg)
  have HX := Lib.hid (fun (W w' : World) (hb : Below w1.heap.size w1 W) (hg : W.grownBy w' (Value.slice a xs.length c).ownBlock) => (hg.block w.heap.size (Nat.lt_of_lt_of_le hlt2 hb.size) (fun e => absurd (H0.out.own.lt _ e.symm).2 (Nat.lt_irrefl _))).trans ((hb.block w.heap.size hlt2).trans HNew.out))
  go_region_law ((refine step_insL rfl (.tmp 9) (.tmp 11) rfl (N + 1) (.slice a xs.length c) xs w1.heap.size x rfl rfl xs.length (H1.out.below (by repeat (first | exact Below.refl _ _ | refine bel0 _ ?_ | refine Below.drew ?_))).own (by exact cells7_new _ x _) (by have := HNn.out; omega) (by have := H1.out.low; simp; omega) ?_; intro g c' w' hown hgrow hor; obtain ⟨hrd, hkp⟩ := HG.out _ w' (by repeat (first | exact Below.refl _ _ | refine bel0 _ ?_ | refine Below.drew ?_)) hgrow; have HXb := Lib.hid (HX.out _ w' (by repeat (first | exact Below.refl _ _ | refine bel0 _ ?_ | refine Below.drew ?_)) hgrow); have HR := Lib.hid hrd; have HO := Lib.hid hown; have HKp := Lib.hid (WTo.grown1 (n := xs.length + 1) (c := c') (H1.out.below (by repeat (first | exact Below.refl _ _ | refine bel0 _ ?_ | refine Below.drew ?_))) HB1.out (Nat.le_of_lt H1.out.low) (by repeat (first | exact Below.refl _ _ | refine bel0 _ ?_ | refine Below.drew ?_)) hgrow hor); have d1 := cell_of_row _ _ 0 _ _ _ hrd; have d2 := frozen_of_row _ _ 0 _ _ hrd; have d3 := (Array.getElem?_eq_some_iff.1 hrd).1; clear hown hgrow hor hrd hkp))
  all_goals
    have HE := Lib.hid (WSt.code HR.out HO.out (by simp))
    have HBx := Lib.hid ((heap_setCell_other w' ⟨N, 0, none⟩ w.heap.size (.slice (some ⟨g, 0, none⟩) (xs.length + 1) c') (by show w.heap.size ≠ N; omega)).trans HXb.out)
    have HK2 := Lib.hid (HKp.out.setN 0 (.slice (some ⟨g, 0, none⟩) (xs.length + 1) c'))
    clear c0 c1 c2 c3 c4 c5 c6 f0 f1 fz d1 d2 d3 HG HX
    generalize w'.setCell ⟨N, 0, none⟩ (.slice (some ⟨g, 0, none⟩) (xs.length + 1) c') = w8 at *
    have f1 := cell_of_row _ _ 1 _ _ _ HE.out.rd
    have fz : ∀ j, w8.frozen? ⟨N, j, none⟩ = false := fun j => frozen_of_row _ _ j _ _ HE.out.rd
    have c1 := cell_of_row _ _ 1 _ _ _ HBx.out
    simp only [List.getElem?_toArray, List.getElem?_cons_zero, List.getElem?_cons_succ] at f1 c1
    have hl8 := HE.out.low
    have hwx : wrap64 (x.a + 1) = x.a + 1 := by unfold wrap64; omega
    have hwy : IntKind.i64.wrap (x.a + 1) = x.a + 1 := by rw [IntKind.wrap_i64]; omega
    have HWy := Lib.hid hwy
    go_upto_region 2 with (fail)
    go_region_law (fail)
    all_goals
      go_wp2
    all_goals
      (try simp only [Exit.inBlock, Exit.then])
      refine bodyPost_ret (results_none rfl _ _ _) rfl ?_
      clear HW HNew HR HO HXb HBx
      refine ⟨rfl, .slice (some ⟨g, 0, none⟩) (xs.length + 1) c', ?_, ?_⟩
      · first
          | exact HE.out.regsY (by omega)
          | exact (HE.out.regsY (by omega)).drew
          | exact ((HE.out.regsY (by omega)).drew).drew
      · repeat (first | exact HK2.out.setN 1 _ | refine WTo.drew ?_)
end Go.Proofs.Ytafhgilikcablaa
