/- What a store into one row leaves; the box of an instruction. -/
import Derived.Test.YtplgkblahmndoaaVmSt
import Derived.Deep.RegionHeld3
import Derived.Deep.RegionLaw
import Derived.BigRegion
import Derived.BigQuiet
namespace Go.Proofs.Ytplgkblahmndoaa
open Go.RowKit
set_option linter.unusedVariables false

/-- the regions of a code, by number -/
def regOf (n : Nat) : Code → Option Code
  | .region id ops b => if id = n then some (.region id ops b) else none
  | .seq a b => match regOf n a with
    | some c => some c
    | none => regOf n b
  | .block _ c => regOf n c
  | .scope c => regOf n c
  | .loop c => regOf n c
  | .cond _ a b => match regOf n a with
    | some c => some c
    | none => regOf n b
  | _ => none
/-- nothing but one block is another -/
structure Sto (g : Nat) (w w' : World) : Prop where
  os : w'.os = w.os
  tape : w'.tape = w.tape
  output : w'.output = w.output
  size : w.heap.size ≤ w'.heap.size
  block : ∀ i, i < w.heap.size → i ≠ g → w'.heap[i]? = w.heap[i]?
theorem Sto.refl (g : Nat) (w : World) : Sto g w w := ⟨rfl, rfl, rfl, Nat.le_refl _, fun _ _ _ => rfl⟩
theorem Sto.of_below {g : Nat} {w w' : World} (h : Below w.heap.size w w') : Sto g w w' := ⟨h.os, h.tape, h.output, h.size, fun i hi _ => h.block i hi⟩
theorem Sto.trans {g : Nat} {a b c : World} (h : Sto g a b) (k : Sto g b c) : Sto g a c := ⟨k.os.trans h.os, k.tape.trans h.tape, k.output.trans h.output, Nat.le_trans h.size k.size, fun i hi hn => (k.block i (Nat.lt_of_lt_of_le hi h.size) hn).trans (h.block i hi hn)⟩
theorem Sto.set {g : Nat} {a b : World} (h : Sto g a b) (j : Nat) (u : Value) : Sto g a (b.setCell ⟨g, j, none⟩ u) := ⟨h.os, h.tape, h.output, by simpa using h.size, fun i hi hn => (heap_setCell_other b ⟨g, j, none⟩ i u hn).trans (h.block i hi hn)⟩
theorem Sto.drew {g : Nat} {a b : World} (h : Sto g a b) : Sto g a b.drew := ⟨h.os, h.tape, h.output, h.size, h.block⟩
theorem Below.sto {B g : Nat} {w a b : World} (h : Below B w a) (k : Sto g a b) (hg : B ≤ g) (hB : B ≤ a.heap.size) : Below B w b := ⟨k.os.trans h.os, k.tape.trans h.tape, k.output.trans h.output, Nat.le_trans h.size k.size, fun i hi => (k.block i (by omega) (by omega)).trans (h.block i hi)⟩
/-- a result's box -/
def ResAt (w : World) (p : Nat) (v : Val) : Prop := w.heap[p]? = some (.cells #[.int .i64 v.1, .int .i64 v.2.1, .string v.2.2] 46 (0, 0))
/-- the box of an instruction -/
structure InBox (w : World) (b : Nat) (op : ByteArray) (A B C : Nat) (v : Val) : Prop where
  f0 : w.cell? ⟨b, 0, none⟩ = some (.string op)
  f1 : w.cell? ⟨b, 1, none⟩ = some (.int .i64 (A : Int))
  f2 : w.cell? ⟨b, 2, none⟩ = some (.int .i64 (B : Int))
  f3 : w.cell? ⟨b, 3, none⟩ = some (.int .i64 (C : Int))
  f4 : w.cell? ⟨b, 4, none⟩ = some (.int .i64 v.1)
  f5 : w.cell? ⟨b, 5, none⟩ = some (.int .i64 v.2.1)
  f6 : w.cell? ⟨b, 6, none⟩ = some (.string v.2.2)
end Go.Proofs.Ytplgkblahmndoaa
