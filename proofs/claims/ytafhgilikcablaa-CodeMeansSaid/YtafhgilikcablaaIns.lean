/- Instructions, read as data: seven cells each; what of them is formed. No program. -/
import Derived.Below
import Derived.WalkLawsBesides
import Derived.OwnWalk
import Derived.Laws.Rows
import Derived.WalkSpells
import Derived.WalkKit
import Derived.OpenShut
import Derived.ShutString
import Derived.Laws.Bits64
import Derived.Laws.BytesArg
import Derived.Laws.IdiomStrings
import Derived.Lib.AppendStr
import Derived.Lib.Hide
namespace Go.Proofs.Ytafhgilikcablaa

/-- the order of two numbers -/
def ordI (a b : Int) : Int := if a < b then -1 else if b < a then 1 else 0
/-- the order of two texts -/
def ordS (s t : ByteArray) : Int := if Op.bytesLess s.toList t.toList = true then -1 else if s.toList = t.toList then 0 else 1
/-- the order of two values -/
def ordV (ka na : Int) (sa : ByteArray) (kb nb : Int) (sb : ByteArray) : Int :=
  if ordI ka kb = 0 then (if ordI na nb = 0 then ordS sa sb else ordI na nb) else ordI ka kb
/-- is a value formed? -/
def formedB (k n : Int) (s : ByteArray) : Bool := decide ((k = 0 ∧ n = 0 ∧ s.toList = []) ∨ (k = 1 ∧ s.toList = []) ∨ (k = 2 ∧ n = 0 ∧ s.size ≤ 100))

theorem ret_bool {a b : Bool} (h : a = b) : Ending.returned (.bool a) = .returned (.bool b) := by rw [h]
/-- a value: kind, number, text -/
abbrev Val := Int × Int × ByteArray
def noV : Val := (0, 0, ⟨#[]⟩)
/-- a slice of values: what it reads as -/
def IsV (w : World) (a : Option Addr) (len : Nat) (vs : List Val) : Prop :=
  vs.length = len ∧ len ≤ 9223372036854775807 ∧ (len = 0 ∨ ∃ b off, a = some ⟨b, off, none⟩ ∧ b < w.heap.size ∧ ∀ i, i < len →
    w.cell? ⟨b, off + i * 3, none⟩ = some (.int .i64 (vs.getD i noV).1) ∧ w.cell? ⟨b, off + i * 3 + 1, none⟩ = some (.int .i64 (vs.getD i noV).2.1) ∧ w.cell? ⟨b, off + i * 3 + 2, none⟩ = some (.string (vs.getD i noV).2.2))

theorem IsV.below {w w' : World} {a : Option Addr} {len : Nat} {vs : List Val} (h : IsV w a len vs) (hb : RowKit.Below w.heap.size w w') : IsV w' a len vs := by
  obtain ⟨h1, h2, h3⟩ := h
  refine ⟨h1, h2, ?_⟩
  rcases h3 with h3 | ⟨b, off, rfl, hlt, hc⟩
  · exact .inl h3
  · refine .inr ⟨b, off, rfl, Nat.lt_of_lt_of_le hlt hb.size, fun i hi => ?_⟩
    rw [hb.cell (p := ⟨b, off + i * 3, none⟩) hlt, hb.cell (p := ⟨b, off + i * 3 + 1, none⟩) hlt, hb.cell (p := ⟨b, off + i * 3 + 2, none⟩) hlt]
    exact hc i hi

def formedV (v : Val) : Bool := formedB v.1 v.2.1 v.2.2
theorem oI_self (a : Int) : ordI a a = 0 := by unfold ordI; simp
theorem oV_k {ka na kb nb : Int} {sa sb : ByteArray} (h : (ka != kb) = true) : ordI ka kb = ordV ka na sa kb nb sb := by
  have h := bne_iff_ne.1 h
  have : ordI ka kb ≠ 0 := by unfold ordI; split; omega; split <;> omega
  unfold ordV; rw [if_neg this]
theorem oV_n {ka na nb : Int} {sa sb : ByteArray} (h : (na != nb) = true) : ordI na nb = ordV ka na sa ka nb sb := by
  have h := bne_iff_ne.1 h
  have : ordI na nb ≠ 0 := by unfold ordI; split; omega; split <;> omega
  unfold ordV; rw [oI_self, if_pos rfl, if_neg this]
theorem oV_s {ka na : Int} {sa sb : ByteArray} : ordS sa sb = ordV ka na sa ka na sb := by
  unfold ordV; rw [oI_self, oI_self, if_pos rfl, if_pos rfl]
/-- a new row of m values, of which the first ones are written -/
def RowV (w : World) (e : TypeId) (g m : Nat) (vs : List Val) : Prop :=
  ∃ cur : Array Value, w.heap[g]? = some (.cells cur e (0, 0)) ∧ cur.size = m * 3 ∧ ∀ i, i < vs.length → cur[i * 3]? = some (.int .i64 (vs.getD i noV).1) ∧ cur[i * 3 + 1]? = some (.int .i64 (vs.getD i noV).2.1) ∧ cur[i * 3 + 2]? = some (.string (vs.getD i noV).2.2)
theorem RowV.lt {w : World} {e : TypeId} {g m : Nat} {vs : List Val} (h : RowV w e g m vs) : g < w.heap.size := by
  obtain ⟨cur, hg, _⟩ := h
  exact (Array.getElem?_eq_some_iff.1 hg).1
theorem RowV.below {w w' : World} {e : TypeId} {g m : Nat} {vs : List Val} (h : RowV w e g m vs) (hb : RowKit.Below w.heap.size w w') : RowV w' e g m vs := by
  have hlt := h.lt
  obtain ⟨cur, hg, h⟩ := h
  exact ⟨cur, (hb.block g hlt).trans hg, h⟩
theorem RowV.set {w : World} {e : TypeId} {g m j : Nat} {vs : List Val} (h : RowV w e g m vs) (hl : vs.length = j) (hj : j < m) (v : Val) :
    RowV (((w.setCell ⟨g, j * 3, none⟩ (.int .i64 v.1)).setCell ⟨g, j * 3 + 1, none⟩ (.int .i64 v.2.1)).setCell ⟨g, j * 3 + 2, none⟩ (.string v.2.2)) e g m (vs ++ [v]) := by
  obtain ⟨cur, hg, hs, h⟩ := h
  have h1 := heap_setCell_same w g (j * 3) cur e (.int .i64 v.1) hg
  have h2 := heap_setCell_same _ g (j * 3 + 1) _ e (.int .i64 v.2.1) h1
  have h3 := heap_setCell_same _ g (j * 3 + 2) _ e (.string v.2.2) h2
  refine ⟨_, h3, by simp [hs], fun i hi => ?_⟩
  simp only [List.length_append, List.length_cons, List.length_nil] at hi
  by_cases hij : i < vs.length
  · have e1 : (vs ++ [v]).getD i noV = vs.getD i noV := by
      rw [List.getD_eq_getElem?_getD, List.getD_eq_getElem?_getD, List.getElem?_append_left hij]
    obtain ⟨a, b, c⟩ := h i hij
    rw [e1]
    refine ⟨?_, ?_, ?_⟩ <;> (repeat rw [Array.getElem?_setIfInBounds_ne (by omega)]) <;> assumption
  · obtain rfl : i = j := by omega
    have e1 : (vs ++ [v]).getD i noV = v := by
      rw [List.getD_eq_getElem?_getD, List.getElem?_append_right (by omega)]
      simp [hl]
    rw [e1]
    refine ⟨?_, ?_, ?_⟩
    · rw [Array.getElem?_setIfInBounds_ne (by omega), Array.getElem?_setIfInBounds_ne (by omega), Array.getElem?_setIfInBounds_self_of_lt (by omega)]
    · rw [Array.getElem?_setIfInBounds_ne (by omega), Array.getElem?_setIfInBounds_self_of_lt (by simp; omega)]
    · rw [Array.getElem?_setIfInBounds_self_of_lt (by simp; omega)]
theorem noS : (⟨#[]⟩ : ByteArray).toList = [] := by rw [ByteArray.toList_eq]
theorem formed_null : formedV noV = true := decide_eq_true (.inl ⟨rfl, rfl, noS⟩)
/-- the three cells of the k-th value -/
theorem IsV.at {w wr : World} {a : Option Addr} {len : Nat} {vs : List Val} (h : IsV w a len vs) (hb : RowKit.Below w.heap.size w wr) {k : Nat} (hk : k < len) :
    ∃ b off, a = some ⟨b, off, none⟩ ∧ b < w.heap.size ∧ wr.cell? ⟨b, off + k * 3, none⟩ = some (.int .i64 (vs.getD k noV).1) ∧ wr.cell? ⟨b, off + k * 3 + 1, none⟩ = some (.int .i64 (vs.getD k noV).2.1) ∧ wr.cell? ⟨b, off + k * 3 + 2, none⟩ = some (.string (vs.getD k noV).2.2) := by
  obtain ⟨_, _, h⟩ := h
  rcases h with h | ⟨b, off, rfl, hlt, hc⟩
  · omega
  · refine ⟨b, off, rfl, hlt, ?_⟩
    rw [hb.cell (p := ⟨b, off + k * 3, none⟩) hlt, hb.cell (p := ⟨b, off + k * 3 + 1, none⟩) hlt, hb.cell (p := ⟨b, off + k * 3 + 2, none⟩) hlt]
    exact hc k hk

/-- the three cells of a value's box -/
def Box (w : World) (b : Nat) (x : Val) : Prop := w.cell? ⟨b, 0, none⟩ = some (.int .i64 x.1) ∧ w.cell? ⟨b, 1, none⟩ = some (.int .i64 x.2.1) ∧ w.cell? ⟨b, 2, none⟩ = some (.string x.2.2)
theorem Box.grown {w w' : World} {b : Nat} {x : Val} {row : Option Nat} (h : Box w b x) (hg : w.grownBy w' row) (hne : some b ≠ row) : Box w' b x :=
  ⟨hg.cell h.1 hne, hg.cell h.2.1 hne, hg.cell h.2.2 hne⟩
theorem Box.below {w w' : World} {b : Nat} {x : Val} (h : Box w b x) (hb : RowKit.Below w.heap.size w w') : Box w' b x :=
  ⟨cell_later hb h.1, cell_later hb h.2.1, cell_later hb h.2.2⟩
end Go.Proofs.Ytafhgilikcablaa
namespace Go.Proofs.Ytafhgilikcablaa
open Go.RowKit
set_option linter.unusedVariables false
set_option linter.unusedSimpArgs false

theorem bel {w : World} (o : Obj) {w' : World} (h : Below w.heap.size w w') : Below w.heap.size w (w'.alloc o) := h.alloc h.size o
theorem bt {w a b : World} (h : Below w.heap.size w a) (k : Below a.heap.size a b) : Below w.heap.size w b := h.trans (k.mono h.size)
theorem bel0 {w : World} (o : Obj) {w' : World} (h : Below w.heap.size w w') : Below w.heap.size w (w'.alloc o) := h.alloc h.size o

/-- a slice of bytes: what it reads as -/
def IsB (w : World) (a : Option Addr) (len : Nat) (zs : List Int) : Prop :=
  zs.length = len ∧ len ≤ 9223372036854775807 ∧ (len = 0 ∨ ∃ b off, a = some ⟨b, off, none⟩ ∧ ∀ i, i < len → w.cell? ⟨b, off + i, none⟩ = some (.int .u8 (zs.getD i 0))) ∧ ∀ i, 0 ≤ zs.getD i 0 ∧ zs.getD i 0 ≤ 255
theorem IsB.below {w w' : World} {a : Option Addr} {len : Nat} {zs : List Int} (h : IsB w a len zs) (hb : Below w.heap.size w w') (ha : ∀ x, len ≠ 0 → a = some x → x.block < w.heap.size) : IsB w' a len zs := by
  obtain ⟨h1, h2, h3, h4⟩ := h
  refine ⟨h1, h2, ?_, h4⟩
  by_cases h0 : len = 0
  · exact .inl h0
  rcases h3 with h3 | ⟨b, off, rfl, hc⟩
  · exact .inl h3
  · have hlt : b < w.heap.size := ha ⟨b, off, none⟩ h0 rfl
    exact .inr ⟨b, off, rfl, fun i hi => by rw [hb.cell (p := ⟨b, off + i, none⟩) hlt]; exact hc i hi⟩

/-- what the reader of a slice of bytes gives: a row of cells up to the capacity -/
def IsRow (k : IntKind) (w : World) (a : Option Addr) (len cap : Nat) (zs : List Int) : Prop :=
  (a = none ∧ len = 0 ∧ cap = 0 ∧ zs = []) ∨
  ∃ x, a = some x ∧ len ≤ cap ∧ cap ≤ maxLen ∧ zs.length = cap ∧ (∀ i, i < zs.length → w.cell? (x.add i) = some (.int k (zs.getD i 0))) ∧ ∀ n ∈ zs, (Lit.int k n).wf = true

theorem IsRow.low {k : IntKind} {w : World} {a : Option Addr} {len cap : Nat} {zs : List Int} (h : IsRow k w a len cap zs) : ∀ x, len ≠ 0 → a = some x → x.block < w.heap.size := by
  intro y h0 he
  rcases h with ⟨rfl, rfl, rfl, rfl⟩ | ⟨x, rfl, hl, hm, hz, hcell, hwz⟩
  · exact absurd rfl h0
  · obtain rfl := Option.some.inj he
    have hc := hcell 0 (by omega)
    have := World.block_lt_of_cell? w _ hc
    simpa [Addr.add] using this
theorem IsB.cells {w : World} {a : Option Addr} {len : Nat} {zs : List Int} (h : IsB w a len zs) : ∀ ad, a = some ad → ∀ j u, (zs.map (Value.int .u8))[j]? = some u → w.cell? (ad.add j) = some u := by
  intro ad ha j u hu
  obtain ⟨h1, _, h3, _⟩ := h
  rcases h3 with h3 | ⟨b, off, rfl, hc⟩
  · have hz : zs = [] := List.eq_nil_of_length_eq_zero (by omega)
    subst hz; simp at hu
  · obtain rfl := Option.some.inj ha
    have hj : j < zs.length := by
      rcases Nat.lt_or_ge j zs.length with h | h
      · exact h
      · rw [List.getElem?_eq_none (by simpa using h)] at hu; cases hu
    have := hc j (by omega)
    have e : Addr.add ⟨b, off, none⟩ j = ⟨b, off + j, none⟩ := by unfold Addr.add; split; rename_i h; simp [h]; rfl
    rw [e, this]
    rw [List.getElem?_map, List.getElem?_eq_getElem hj] at hu
    simpa [hj] using hu
theorem IsRow.nil {k : IntKind} {w : World} {a : Option Addr} {len cap : Nat} {zs : List Int} (h : IsRow k w a len cap zs) : a = none → len = 0 ∧ cap = 0 := by
  intro e
  rcases h with ⟨_, h1, h2, _⟩ | ⟨x, h, _⟩
  · exact ⟨h1, h2⟩
  · rw [e] at h; cases h

theorem IsRow.le {k : IntKind} {w : World} {a : Option Addr} {len cap : Nat} {zs : List Int} (h : IsRow k w a len cap zs) : len ≤ cap := by
  rcases h with ⟨_, h1, h2, _⟩ | ⟨x, _, h, _⟩
  · omega
  · exact h
theorem own_below {w w' : World} {B : Nat} {e : TypeId} {size : Nat} {v : Value} {n : Nat} {xs : List Value} (h : w.ownsRow B e size v n xs) (hb : Below w.heap.size w w') : w'.ownsRow B e size v n xs := by
  refine ⟨h.1, ?_⟩
  rcases h.2 with h | ⟨g, cap, cur, a, b, hg, r⟩
  · exact .inl h
  · exact .inr ⟨g, cap, cur, a, b, (hb.block g (Array.getElem?_eq_some_iff.1 hg).1).trans hg, r⟩
theorem grown_belowB {w w' : World} {B : Nat} {r0 : Option Nat} (h : w.grownBy w' r0) (hB : B ≤ w.heap.size) (hr : ∀ k, r0 = some k → B ≤ k) : Below B w w' := (Below.refl B w).grown h hB hr
end Go.Proofs.Ytafhgilikcablaa
namespace Go.Proofs.Ytafhgilikcablaa
open Go.RowKit
set_option linter.unusedVariables false
set_option linter.unusedSimpArgs false

structure Ins where
  op : ByteArray
  a : Int
  b : Int
  c : Int
  v : Val
def noI : Ins := ⟨⟨#[]⟩, 0, 0, 0, noV⟩
def insX (x : Ins) : List Value := [.string x.op, .int .i64 x.a, .int .i64 x.b, .int .i64 x.c, .int .i64 x.v.1, .int .i64 x.v.2.1, .string x.v.2.2]
theorem insX_length (x : Ins) : (insX x).length = 7 := rfl
def insOf (xs : List Ins) : List Value := xs.flatMap insX
theorem insOf_append (a b : List Ins) : insOf (a ++ b) = insOf a ++ insOf b := by simp [insOf]
theorem insOf_at : ∀ (xs : List Ins) (i j : Nat), i < xs.length → j < 7 → (insOf xs)[i * 7 + j]? = (insX (xs.getD i noI))[j]?
  | [], i, j, h, _ => by simp at h
  | v :: l, 0, j, h, hj => by
    have e : insOf (v :: l) = insX v ++ insOf l := by simp [insOf]
    rw [e, List.getElem?_append_left (by rw [insX_length]; omega)]
    simp
  | v :: l, i + 1, j, h, hj => by
    have ih := insOf_at l i j (by simpa using h) hj
    have e : insOf (v :: l) = insX v ++ insOf l := by simp [insOf]
    rw [e, List.getElem?_append_right (by rw [insX_length]; omega), insX_length, show (i + 1) * 7 + j - 7 = i * 7 + j by omega, ih]
    simp

/-- the seven cells of one, from an address on -/
def Cells7 (w : World) (b o : Nat) (x : Ins) : Prop :=
  w.cell? ⟨b, o, none⟩ = some (.string x.op) ∧ w.cell? ⟨b, o + 1, none⟩ = some (.int .i64 x.a) ∧ w.cell? ⟨b, o + 2, none⟩ = some (.int .i64 x.b) ∧ w.cell? ⟨b, o + 3, none⟩ = some (.int .i64 x.c) ∧
  w.cell? ⟨b, o + 4, none⟩ = some (.int .i64 x.v.1) ∧ w.cell? ⟨b, o + 5, none⟩ = some (.int .i64 x.v.2.1) ∧ w.cell? ⟨b, o + 6, none⟩ = some (.string x.v.2.2)
theorem Cells7.below {w w' : World} {b o B : Nat} {x : Ins} (h : Cells7 w b o x) (hb : Below B w w') (hlt : b < B) : Cells7 w' b o x := by
  obtain ⟨h0, h1, h2, h3, h4, h5, h6⟩ := h
  exact ⟨(hb.cell (p := ⟨b, o, none⟩) hlt).trans h0, (hb.cell (p := ⟨b, o + 1, none⟩) hlt).trans h1, (hb.cell (p := ⟨b, o + 2, none⟩) hlt).trans h2, (hb.cell (p := ⟨b, o + 3, none⟩) hlt).trans h3, (hb.cell (p := ⟨b, o + 4, none⟩) hlt).trans h4, (hb.cell (p := ⟨b, o + 5, none⟩) hlt).trans h5, (hb.cell (p := ⟨b, o + 6, none⟩) hlt).trans h6⟩

/-- a slice of instructions -/
def IsI (w : World) (a : Option Addr) (len : Nat) (xs : List Ins) : Prop :=
  xs.length = len ∧ len ≤ 9223372036854775807 ∧ (len = 0 ∨ ∃ b off, a = some ⟨b, off, none⟩ ∧ b < w.heap.size ∧ ∀ i, i < len → Cells7 w b (off + i * 7) (xs.getD i noI))
theorem IsI.below {w w' : World} {a : Option Addr} {len : Nat} {xs : List Ins} (h : IsI w a len xs) (hb : Below w.heap.size w w') : IsI w' a len xs := by
  obtain ⟨h1, h2, h3⟩ := h
  refine ⟨h1, h2, ?_⟩
  rcases h3 with h3 | ⟨b, off, rfl, hlt, hc⟩
  · exact .inl h3
  · exact .inr ⟨b, off, rfl, Nat.lt_of_lt_of_le hlt hb.size, fun i hi => (hc i hi).below hb hlt⟩

/-- the words of an instruction, and their class: 0 const, 1 col, 2 one more, 3 two more, 4 a jump, 5 another -/
def opLits : List (List UInt8 × Nat) :=
  [([99, 111, 110, 115, 116], 0), ([99, 111, 108], 1), ([110, 101, 103], 2), ([110, 117, 108, 108], 2), ([115, 111, 109, 101], 2), ([110, 111, 116], 2), ([99, 111, 112, 121], 2),
   ([43], 3), ([45], 3), ([42], 3), ([61], 3), ([60, 62], 3), ([60], 3), ([60, 61], 3), ([62], 3), ([62, 61], 3), ([97, 110, 100], 3), ([111, 114], 3), ([102, 97, 108, 115, 101], 4), ([116, 114, 117, 101], 4)]
def opClass (s : ByteArray) : Nat := ((opLits.find? fun p => p.1 == s.toList).map (·.2)).getD 5

def hasB (R r : Int) : Bool := decide (0 ≤ r ∧ r < R)
/-- has it right numbers, and a right value? -/
def fitsB (n R i : Int) (x : Ins) : Bool :=
  match opClass x.op with
  | 0 => hasB R x.a && decide (x.b = 0) && decide (x.c = 0) && formedV x.v
  | 1 => hasB R x.a && decide (0 ≤ x.b) && decide (0 ≤ x.c)
  | 2 => hasB R x.a && hasB R x.b && decide (x.c = 0)
  | 3 => hasB R x.a && hasB R x.b && hasB R x.c
  | 4 => decide (x.a = 0) && hasB R x.b && decide (i < x.c) && decide (x.c ≤ n)
  | _ => false
/-- no value where none may be -/
def bareB (x : Ins) : Bool := decide (opClass x.op = 0) || (decide (x.v.1 = 0) && decide (x.v.2.1 = 0) && decide (x.v.2.2.toList = []))
def okI (n R i : Int) (x : Ins) : Bool := bareB x && fitsB n R i x
/-- is a program formed? -/
def formedP (R : Int) (xs : List Ins) : Bool := decide (1 ≤ xs.length ∧ xs.length ≤ 1000 ∧ 1 ≤ R ∧ R ≤ 1000) && (List.range xs.length).all fun i => okI xs.length R i (xs.getD i noI)
theorem formedP_all {R : Int} {xs : List Ins} (h : 1 ≤ xs.length ∧ xs.length ≤ 1000 ∧ 1 ≤ R ∧ R ≤ 1000) (ha : ∀ j, j < xs.length → okI xs.length R j (xs.getD j noI) = true) : formedP R xs = true := by
  unfold formedP
  rw [decide_eq_true h, Bool.true_and, List.all_eq_true]
  intro j hj
  exact ha j (List.mem_range.1 hj)
theorem formedP_not {R : Int} {xs : List Ins} (h : ¬ (1 ≤ xs.length ∧ xs.length ≤ 1000 ∧ 1 ≤ R ∧ R ≤ 1000)) : formedP R xs = false := by
  unfold formedP
  rw [decide_eq_false h, Bool.false_and]
theorem formedP_bad {R : Int} {xs : List Ins} {j : Nat} (hj : j < xs.length) (h : okI xs.length R j (xs.getD j noI) = false) : formedP R xs = false := by
  unfold formedP
  rw [Bool.and_eq_false_iff]
  right
  rw [List.all_eq_false]
  exact ⟨j, List.mem_range.2 hj, by rw [h]; exact Bool.false_ne_true⟩
end Go.Proofs.Ytafhgilikcablaa
