/- The document's two rows: what a store leaves. (Written by genvd.py.) -/
import Derived.Test.YtplgkblahmndoaaVmSto
import Derived.Test.YtplgkblahmndoaaQTail
namespace Go.Proofs.Ytplgkblahmndoaa
open Go.RowKit
set_option linter.unusedVariables false
/-- nothing but two blocks is another -/
structure Sto2 (g h : Nat) (w w' : World) : Prop where
  os : w'.os = w.os
  tape : w'.tape = w.tape
  output : w'.output = w.output
  size : w.heap.size ≤ w'.heap.size
  block : ∀ i, i < w.heap.size → i ≠ g → i ≠ h → w'.heap[i]? = w.heap[i]?
theorem Sto2.of_below {g h : Nat} {w w' : World} (k : Below w.heap.size w w') : Sto2 g h w w' := ⟨k.os, k.tape, k.output, k.size, fun i hi _ _ => k.block i hi⟩
theorem Sto2.of_heap {g h : Nat} {a b b' : World} (k : Sto2 g h a b) (e : b'.heap = b.heap) (e1 : b'.os = b.os) (e2 : b'.tape = b.tape) (e3 : b'.output = b.output) : Sto2 g h a b' := ⟨e1.trans k.os, e2.trans k.tape, e3.trans k.output, by rw [e]; exact k.size, fun i hi hn hm => by rw [e]; exact k.block i hi hn hm⟩
theorem Sto2.set1 {g h : Nat} {a b : World} (k : Sto2 g h a b) (j : Nat) (u : Value) : Sto2 g h a (b.setCell ⟨g, j, none⟩ u) := ⟨k.os, k.tape, k.output, by simpa using k.size, fun i hi hn hm => (heap_setCell_other b ⟨g, j, none⟩ i u hn).trans (k.block i hi hn hm)⟩
theorem Sto2.set2 {g h : Nat} {a b : World} (k : Sto2 g h a b) (j : Nat) (u : Value) : Sto2 g h a (b.setCell ⟨h, j, none⟩ u) := ⟨k.os, k.tape, k.output, by simpa using k.size, fun i hi hn hm => (heap_setCell_other b ⟨h, j, none⟩ i u hm).trans (k.block i hi hn hm)⟩
theorem Below.sto2 {B g h : Nat} {w a b : World} (k : Below B w a) (s : Sto2 g h a b) (hg : B ≤ g) (hh : B ≤ h) (hB : B ≤ a.heap.size) : Below B w b := ⟨s.os.trans k.os, s.tape.trans k.tape, s.output.trans k.output, Nat.le_trans k.size s.size, fun i hi => (s.block i (by omega) (by omega) (by omega)).trans (k.block i hi)⟩
section
variable {w w' : World} {g : Nat} {rs : List Reg}
theorem ValAt.same (h : ValAt w g rs) {i : Nat} (hi : i < rs.length) (t : Int) : ValAt w g (rs.set i ((rs.getD i noR).1, t)) := by
  unfold ValAt; rw [valC_truth rs i t hi]; exact h
theorem TruAt.same (h : TruAt w g rs) {i : Nat} (hi : i < rs.length) (v : Val) : TruAt w g (rs.set i (v, (rs.getD i noR).2)) := by
  unfold TruAt; rw [truC_value rs i v hi]; exact h
end
end Go.Proofs.Ytplgkblahmndoaa
