/- Instructions, read as data: seven cells each; what of them is formed. No program. -/
import Derived.Test.YtafhgilikcablaaValPure
import Derived.Test.YtafhgilikcablaaBase
namespace Go.Proofs.Ytafhgilikcablaa
open Go.RowKit
set_option linter.unusedVariables false
set_option linter.unusedSimpArgs false

structure Ins where
  op : ByteArray
  a : Int
  b : Int
  c : Int
  v : Val
def noI : Ins := ⟨⟨#[]⟩, 0, 0, 0, noV⟩
def insX (x : Ins) : List Value := [.string x.op, .int .i64 x.a, .int .i64 x.b, .int .i64 x.c, .int .i64 x.v.1, .int .i64 x.v.2.1, .string x.v.2.2]
theorem insX_length (x : Ins) : (insX x).length = 7 := rfl
def insOf (xs : List Ins) : List Value := xs.flatMap insX
theorem insOf_append (a b : List Ins) : insOf (a ++ b) = insOf a ++ insOf b := by simp [insOf]
theorem insOf_length (xs : List Ins) : (insOf xs).length = xs.length * 7 := by
  induction xs with
  | nil => rfl
  | cons v l ih =>
    have e : insOf (v :: l) = insX v ++ insOf l := by simp [insOf]
    rw [e, List.length_append, ih, insX_length]; simp; omega
theorem insOf_at : ∀ (xs : List Ins) (i j : Nat), i < xs.length → j < 7 → (insOf xs)[i * 7 + j]? = (insX (xs.getD i noI))[j]?
  | [], i, j, h, _ => by simp at h
  | v :: l, 0, j, h, hj => by
    have e : insOf (v :: l) = insX v ++ insOf l := by simp [insOf]
    rw [e, List.getElem?_append_left (by rw [insX_length]; omega)]
    simp
  | v :: l, i + 1, j, h, hj => by
    have ih := insOf_at l i j (by simpa using h) hj
    have e : insOf (v :: l) = insX v ++ insOf l := by simp [insOf]
    rw [e, List.getElem?_append_right (by rw [insX_length]; omega), insX_length, show (i + 1) * 7 + j - 7 = i * 7 + j by omega, ih]
    simp

/-- the seven cells of one, from an address on -/
def Cells7 (w : World) (b o : Nat) (x : Ins) : Prop :=
  w.cell? ⟨b, o, none⟩ = some (.string x.op) ∧ w.cell? ⟨b, o + 1, none⟩ = some (.int .i64 x.a) ∧ w.cell? ⟨b, o + 2, none⟩ = some (.int .i64 x.b) ∧ w.cell? ⟨b, o + 3, none⟩ = some (.int .i64 x.c) ∧
  w.cell? ⟨b, o + 4, none⟩ = some (.int .i64 x.v.1) ∧ w.cell? ⟨b, o + 5, none⟩ = some (.int .i64 x.v.2.1) ∧ w.cell? ⟨b, o + 6, none⟩ = some (.string x.v.2.2)
theorem Cells7.below {w w' : World} {b o B : Nat} {x : Ins} (h : Cells7 w b o x) (hb : Below B w w') (hlt : b < B) : Cells7 w' b o x := by
  obtain ⟨h0, h1, h2, h3, h4, h5, h6⟩ := h
  exact ⟨(hb.cell (p := ⟨b, o, none⟩) hlt).trans h0, (hb.cell (p := ⟨b, o + 1, none⟩) hlt).trans h1, (hb.cell (p := ⟨b, o + 2, none⟩) hlt).trans h2, (hb.cell (p := ⟨b, o + 3, none⟩) hlt).trans h3, (hb.cell (p := ⟨b, o + 4, none⟩) hlt).trans h4, (hb.cell (p := ⟨b, o + 5, none⟩) hlt).trans h5, (hb.cell (p := ⟨b, o + 6, none⟩) hlt).trans h6⟩

/-- a slice of instructions -/
def IsI (w : World) (a : Option Addr) (len : Nat) (xs : List Ins) : Prop :=
  xs.length = len ∧ len ≤ 9223372036854775807 ∧ (len = 0 ∨ ∃ b off, a = some ⟨b, off, none⟩ ∧ b < w.heap.size ∧ ∀ i, i < len → Cells7 w b (off + i * 7) (xs.getD i noI))
theorem IsI.below {w w' : World} {a : Option Addr} {len : Nat} {xs : List Ins} (h : IsI w a len xs) (hb : Below w.heap.size w w') : IsI w' a len xs := by
  obtain ⟨h1, h2, h3⟩ := h
  refine ⟨h1, h2, ?_⟩
  rcases h3 with h3 | ⟨b, off, rfl, hlt, hc⟩
  · exact .inl h3
  · exact .inr ⟨b, off, rfl, Nat.lt_of_lt_of_le hlt hb.size, fun i hi => (hc i hi).below hb hlt⟩

/-- the words of an instruction, and their class: 0 const, 1 col, 2 one more, 3 two more, 4 a jump, 5 another -/
def opLits : List (List UInt8 × Nat) :=
  [([99, 111, 110, 115, 116], 0), ([99, 111, 108], 1), ([110, 101, 103], 2), ([110, 117, 108, 108], 2), ([115, 111, 109, 101], 2), ([110, 111, 116], 2), ([99, 111, 112, 121], 2),
   ([43], 3), ([45], 3), ([42], 3), ([61], 3), ([60, 62], 3), ([60], 3), ([60, 61], 3), ([62], 3), ([62, 61], 3), ([97, 110, 100], 3), ([111, 114], 3), ([102, 97, 108, 115, 101], 4), ([116, 114, 117, 101], 4)]
def opClass (s : ByteArray) : Nat := ((opLits.find? fun p => p.1 == s.toList).map (·.2)).getD 5

def hasB (R r : Int) : Bool := decide (0 ≤ r ∧ r < R)
/-- has it right numbers, and a right value? -/
def fitsB (n R i : Int) (x : Ins) : Bool :=
  match opClass x.op with
  | 0 => hasB R x.a && decide (x.b = 0) && decide (x.c = 0) && formedV x.v
  | 1 => hasB R x.a && decide (0 ≤ x.b) && decide (0 ≤ x.c)
  | 2 => hasB R x.a && hasB R x.b && decide (x.c = 0)
  | 3 => hasB R x.a && hasB R x.b && hasB R x.c
  | 4 => decide (x.a = 0) && hasB R x.b && decide (i < x.c) && decide (x.c ≤ n)
  | _ => false
/-- no value where none may be -/
def bareB (x : Ins) : Bool := decide (opClass x.op = 0) || (decide (x.v.1 = 0) && decide (x.v.2.1 = 0) && decide (x.v.2.2.toList = []))
def okI (n R i : Int) (x : Ins) : Bool := bareB x && fitsB n R i x
/-- is a program formed? -/
def formedP (R : Int) (xs : List Ins) : Bool := decide (1 ≤ xs.length ∧ xs.length ≤ 1000 ∧ 1 ≤ R ∧ R ≤ 1000) && (List.range xs.length).all fun i => okI xs.length R i (xs.getD i noI)
theorem formedP_all {R : Int} {xs : List Ins} (h : 1 ≤ xs.length ∧ xs.length ≤ 1000 ∧ 1 ≤ R ∧ R ≤ 1000) (ha : ∀ j, j < xs.length → okI xs.length R j (xs.getD j noI) = true) : formedP R xs = true := by
  unfold formedP
  rw [decide_eq_true h, Bool.true_and, List.all_eq_true]
  intro j hj
  exact ha j (List.mem_range.1 hj)
theorem formedP_not {R : Int} {xs : List Ins} (h : ¬ (1 ≤ xs.length ∧ xs.length ≤ 1000 ∧ 1 ≤ R ∧ R ≤ 1000)) : formedP R xs = false := by
  unfold formedP
  rw [decide_eq_false h, Bool.false_and]
theorem formedP_bad {R : Int} {xs : List Ins} {j : Nat} (hj : j < xs.length) (h : okI xs.length R j (xs.getD j noI) = false) : formedP R xs = false := by
  unfold formedP
  rw [Bool.and_eq_false_iff]
  right
  rw [List.all_eq_false]
  exact ⟨j, List.mem_range.2 hj, by rw [h]; exact Bool.false_ne_true⟩
end Go.Proofs.Ytafhgilikcablaa
