/- The lexer's words, by a machine that goes rune by rune, and by the document's way: both the same. Plain mathematics. -/
import Derived.Below
import Derived.WalkKit
import Derived.WalkLawsBesides
import Derived.WalkSpells
import Derived.OpenShut
import Derived.ShutString
import Derived.OwnWalk
import Derived.Laws.Bits64
import Derived.Laws.BytesArg
import Derived.Laws.IdiomStrings
import Derived.Lib.AppendStr
import Derived.Lib.Hide
import Derived.Deep.Matrix
import Derived.Deep.Slices
import Derived.ProofKit
import Derived.Lib.SmallJoins
import Derived.Deep.Fields
import Derived.ChangeSame
import Derived.Deep.Strs
import Derived.Lib.RuneCount
import Derived.Lib.SpaceUEq
import Derived.Lib.TrimUEq
namespace Go.Proofs.YtknhphcfcpjhiaaGreatDoor
open Go.RowKit
set_option linter.unusedVariables false
set_option linter.unusedSimpArgs false

theorem bel {w : World} (o : Obj) {w' : World} (h : Below w.heap.size w w') : Below w.heap.size w (w'.alloc o) := h.alloc h.size o
theorem bt {w a b : World} (h : Below w.heap.size w a) (k : Below a.heap.size a b) : Below w.heap.size w b := h.trans (k.mono h.size)
theorem bel0 {w : World} (o : Obj) {w' : World} (h : Below w.heap.size w w') : Below w.heap.size w (w'.alloc o) := h.alloc h.size o

/-- a slice of bytes: what it reads as -/
def IsB (w : World) (a : Option Addr) (len : Nat) (zs : List Int) : Prop :=
  zs.length = len ∧ len ≤ 9223372036854775807 ∧ (len = 0 ∨ ∃ b off, a = some ⟨b, off, none⟩ ∧ ∀ i, i < len → w.cell? ⟨b, off + i, none⟩ = some (.int .u8 (zs.getD i 0))) ∧ ∀ i, 0 ≤ zs.getD i 0 ∧ zs.getD i 0 ≤ 255
theorem IsB.mem {w : World} {a : Option Addr} {len : Nat} {zs : List Int} (h : IsB w a len zs) : ∀ z ∈ zs, 0 ≤ z ∧ z ≤ 255 := by
  intro z hz
  obtain ⟨i, hi, rfl⟩ := List.getElem_of_mem hz
  have := h.2.2.2 i
  simpa [hi] using this

theorem IsB.below {w w' : World} {a : Option Addr} {len : Nat} {zs : List Int} (h : IsB w a len zs) (hb : Below w.heap.size w w') (ha : ∀ x, len ≠ 0 → a = some x → x.block < w.heap.size) : IsB w' a len zs := by
  obtain ⟨h1, h2, h3, h4⟩ := h
  refine ⟨h1, h2, ?_, h4⟩
  by_cases h0 : len = 0
  · exact .inl h0
  rcases h3 with h3 | ⟨b, off, rfl, hc⟩
  · exact .inl h3
  · have hlt : b < w.heap.size := ha ⟨b, off, none⟩ h0 rfl
    exact .inr ⟨b, off, rfl, fun i hi => by rw [hb.cell (p := ⟨b, off + i, none⟩) hlt]; exact hc i hi⟩

/-- what the reader of a slice of bytes gives: a row of cells up to the capacity -/
def IsRow (k : IntKind) (w : World) (a : Option Addr) (len cap : Nat) (zs : List Int) : Prop :=
  (a = none ∧ len = 0 ∧ cap = 0 ∧ zs = []) ∨
  ∃ x, a = some x ∧ len ≤ cap ∧ cap ≤ maxLen ∧ zs.length = cap ∧ (∀ i, i < zs.length → w.cell? (x.add i) = some (.int k (zs.getD i 0))) ∧ ∀ n ∈ zs, (Lit.int k n).wf = true

theorem IsRow.low {k : IntKind} {w : World} {a : Option Addr} {len cap : Nat} {zs : List Int} (h : IsRow k w a len cap zs) : ∀ x, len ≠ 0 → a = some x → x.block < w.heap.size := by
  intro y h0 he
  rcases h with ⟨rfl, rfl, rfl, rfl⟩ | ⟨x, rfl, hl, hm, hz, hcell, hwz⟩
  · exact absurd rfl h0
  · obtain rfl := Option.some.inj he
    have hc := hcell 0 (by omega)
    have := World.block_lt_of_cell? w _ hc
    simpa [Addr.add] using this
theorem IsB.cells {w : World} {a : Option Addr} {len : Nat} {zs : List Int} (h : IsB w a len zs) : ∀ ad, a = some ad → ∀ j u, (zs.map (Value.int .u8))[j]? = some u → w.cell? (ad.add j) = some u := by
  intro ad ha j u hu
  obtain ⟨h1, _, h3, _⟩ := h
  rcases h3 with h3 | ⟨b, off, rfl, hc⟩
  · have hz : zs = [] := List.eq_nil_of_length_eq_zero (by omega)
    subst hz; simp at hu
  · obtain rfl := Option.some.inj ha
    have hj : j < zs.length := by
      rcases Nat.lt_or_ge j zs.length with h | h
      · exact h
      · rw [List.getElem?_eq_none (by simpa using h)] at hu; cases hu
    have := hc j (by omega)
    have e : Addr.add ⟨b, off, none⟩ j = ⟨b, off + j, none⟩ := by unfold Addr.add; split; rename_i h; simp [h]; rfl
    rw [e, this]
    rw [List.getElem?_map, List.getElem?_eq_getElem hj] at hu
    simpa [hj] using hu
theorem IsRow.nil {k : IntKind} {w : World} {a : Option Addr} {len cap : Nat} {zs : List Int} (h : IsRow k w a len cap zs) : a = none → len = 0 ∧ cap = 0 := by
  intro e
  rcases h with ⟨_, h1, h2, _⟩ | ⟨x, h, _⟩
  · exact ⟨h1, h2⟩
  · rw [e] at h; cases h

/-- a text's bytes -/
def txt (s : ByteArray) : List Int := s.data.toList.map fun b => (b.toNat : Int)
theorem IsRow.le {k : IntKind} {w : World} {a : Option Addr} {len cap : Nat} {zs : List Int} (h : IsRow k w a len cap zs) : len ≤ cap := by
  rcases h with ⟨_, h1, h2, _⟩ | ⟨x, _, h, _⟩
  · omega
  · exact h
theorem own_below {w w' : World} {B : Nat} {e : TypeId} {size : Nat} {v : Value} {n : Nat} {xs : List Value} (h : w.ownsRow B e size v n xs) (hb : Below w.heap.size w w') : w'.ownsRow B e size v n xs := by
  refine ⟨h.1, ?_⟩
  rcases h.2 with h | ⟨g, cap, cur, a, b, hg, r⟩
  · exact .inl h
  · exact .inr ⟨g, cap, cur, a, b, (hb.block g (Array.getElem?_eq_some_iff.1 hg).1).trans hg, r⟩
end Go.Proofs.YtknhphcfcpjhiaaGreatDoor
namespace Go.Proofs.YtknhphcfcpjhiaaGreatDoor
open Go.RowKit
set_option linter.unusedVariables false
set_option linter.unusedSimpArgs false

/-- a slice of slices of bytes -/
def IsBs (w : World) (a : Option Addr) (len : Nat) (ks : List (List Int)) : Prop :=
  ks.length = len ∧ len ≤ 9223372036854775807 ∧ (len = 0 ∨ ∃ b off, a = some ⟨b, off, none⟩ ∧ b < w.heap.size ∧
    ∀ i, i < len → ∃ (ai : Option Addr) (li ci : Nat), w.cell? ⟨b, off + i, none⟩ = some (.slice ai li ci) ∧ IsB w ai li (ks.getD i []) ∧ (ai = none → li = 0 ∧ ci = 0) ∧ (∀ x, li ≠ 0 → ai = some x → x.block < w.heap.size))
theorem IsBs.below {w w' : World} {a : Option Addr} {len : Nat} {ks : List (List Int)} (h : IsBs w a len ks) (hb : Below w.heap.size w w') : IsBs w' a len ks := by
  obtain ⟨h1, h2, h3⟩ := h
  refine ⟨h1, h2, ?_⟩
  rcases h3 with h3 | ⟨b, off, rfl, hlt, hc⟩
  · exact .inl h3
  · refine .inr ⟨b, off, rfl, Nat.lt_of_lt_of_le hlt hb.size, fun i hi => ?_⟩
    obtain ⟨ai, li, ci, c1, c2, c3, c4⟩ := hc i hi
    exact ⟨ai, li, ci, (hb.cell (p := ⟨b, off + i, none⟩) hlt).trans c1, c2.below hb c4, c3, fun x hx hy => Nat.lt_of_lt_of_le (c4 x hx hy) hb.size⟩

end Go.Proofs.YtknhphcfcpjhiaaGreatDoor
namespace Go.Proofs.YtknhphcfcpjhiaaGreatDoor
open Go.ChangeShapes Go.WideShapes Go.Deep Go.RowKit
set_option linter.unusedVariables false
set_option linter.unusedSimpArgs false

section
variable {H : Type} {enc : TypeId × Value → H} {P : Program} {w : World} {base : Nat} {held : Bool}

end
end Go.Proofs.YtknhphcfcpjhiaaGreatDoor
namespace Go.Proofs.YtknhphcfcpjhiaaGreatDoor
open Go.ChangeShapes Go.WideShapes Go.Deep Go.RowKit Go.Joins
set_option linter.unusedVariables false
set_option linter.unusedSimpArgs false
section
variable {H : Type} {enc : TypeId × Value → H} {P : Program} {w : World} {base : Nat} {spare : Nat → Bool} {held : Bool}

end
end Go.Proofs.YtknhphcfcpjhiaaGreatDoor
namespace Go.Proofs.YtknhphcfcpjhiaaGreatDoor
open Go.ChangeShapes Go.WideShapes Go.Deep Go.RowKit
set_option linter.unusedVariables false
set_option linter.unusedSimpArgs false

/-- an expression -/
inductive ET where
  | mk (kind : Int) (op : ByteArray) (vk vn : Int) (vs tab col : ByteArray) (parts : List ET)
instance etInh : Inhabited ET := ⟨.mk 0 ByteArray.empty 0 0 ByteArray.empty ByteArray.empty ByteArray.empty []⟩
def ET.kind : ET → Int | .mk k _ _ _ _ _ _ _ => k
def ET.op : ET → ByteArray | .mk _ o _ _ _ _ _ _ => o
def ET.vk : ET → Int | .mk _ _ k _ _ _ _ _ => k
def ET.vn : ET → Int | .mk _ _ _ n _ _ _ _ => n
def ET.vs : ET → ByteArray | .mk _ _ _ _ s _ _ _ => s
def ET.tab : ET → ByteArray | .mk _ _ _ _ _ t _ _ => t
def ET.col : ET → ByteArray | .mk _ _ _ _ _ _ c _ => c
def ET.parts : ET → List ET | .mk _ _ _ _ _ _ _ p => p
/-- its eight cells -/
def etX (e : ET) (sa : Option Addr) (sc : Nat) : List Value := [.int .i64 e.kind, .string e.op, .int .i64 e.vk, .int .i64 e.vn, .string e.vs, .string e.tab, .string e.col, .slice sa e.parts.length sc]
theorem etX_length (e : ET) (sa : Option Addr) (sc : Nat) : (etX e sa sc).length = 8 := rfl
structure EAt (w : World) (b o : Nat) (e : ET) (sa : Option Addr) (sc : Nat) : Prop where
  c0 : w.cell? ⟨b, o, none⟩ = some (.int .i64 e.kind)
  c1 : w.cell? ⟨b, o + 1, none⟩ = some (.string e.op)
  c2 : w.cell? ⟨b, o + 2, none⟩ = some (.int .i64 e.vk)
  c3 : w.cell? ⟨b, o + 3, none⟩ = some (.int .i64 e.vn)
  c4 : w.cell? ⟨b, o + 4, none⟩ = some (.string e.vs)
  c5 : w.cell? ⟨b, o + 5, none⟩ = some (.string e.tab)
  c6 : w.cell? ⟨b, o + 6, none⟩ = some (.string e.col)
  c7 : w.cell? ⟨b, o + 7, none⟩ = some (.slice sa e.parts.length sc)
/-- its numbers are of their kinds -/
structure ERg (e : ET) (sa : Option Addr) (sc : Nat) : Prop where
  k : (Lit.int .i64 e.kind).wf = true
  a : (Lit.int .i64 e.vk).wf = true
  n : (Lit.int .i64 e.vn).wf = true
  o : e.op.size ≤ maxLen
  s : e.vs.size ≤ maxLen
  t : e.tab.size ≤ maxLen
  c : e.col.size ≤ maxLen
  nil : sa = none → e.parts.length = 0 ∧ sc = 0
  le : e.parts.length ≤ sc
  cap : sc ≤ maxLen
/-- a slice of expressions; its blocks are of Q -/
inductive EL (w : World) (Q : Nat → Prop) : Option Addr → List ET → Prop
  | nil (a : Option Addr) : EL w Q a []
  | row (b off : Nat) (l : List ET) (sa : Nat → Option Addr) (sc : Nat → Nat) (hq : Q b) (hb : b < w.heap.size) (hc : ∀ i (h : i < l.length), EAt w b (off + i * 8) (l[i]) (sa i) (sc i)) (hr : ∀ i (h : i < l.length), ERg (l[i]) (sa i) (sc i)) (hs : ∀ i (h : i < l.length), EL w Q (sa i) (l[i]).parts) : EL w Q (some ⟨b, off, none⟩) l
theorem EAt.below {w w' : World} {b o : Nat} {e : ET} {sa : Option Addr} {sc : Nat} (h : EAt w b o e sa sc) (hlt : b < w.heap.size) (hb : Below w.heap.size w w') : EAt w' b o e sa sc :=
  ⟨(hb.cell (p := ⟨b, o, none⟩) hlt).trans h.c0, (hb.cell (p := ⟨b, o + 1, none⟩) hlt).trans h.c1, (hb.cell (p := ⟨b, o + 2, none⟩) hlt).trans h.c2, (hb.cell (p := ⟨b, o + 3, none⟩) hlt).trans h.c3, (hb.cell (p := ⟨b, o + 4, none⟩) hlt).trans h.c4, (hb.cell (p := ⟨b, o + 5, none⟩) hlt).trans h.c5, (hb.cell (p := ⟨b, o + 6, none⟩) hlt).trans h.c6, (hb.cell (p := ⟨b, o + 7, none⟩) hlt).trans h.c7⟩
theorem EL.keep {w w' : World} {Q : Nat → Prop} {a : Option Addr} {l : List ET} (h : EL w Q a l) (hb : Below w.heap.size w w') : EL w' Q a l := by
  induction h with
  | nil a => exact .nil a
  | row b off l sa sc hq hlt hc hr hs ih => exact .row b off l sa sc hq (Nat.lt_of_lt_of_le hlt hb.size) (fun i h => (hc i h).below hlt hb) hr (fun i h => ih i h)
theorem EAt.far {w w' : World} {b o : Nat} {e : ET} {sa : Option Addr} {sc : Nat} (h : EAt w b o e sa sc) (hb : w'.heap[b]? = w.heap[b]?) : EAt w' b o e sa sc :=
  ⟨(World.cell?_of_block (by exact hb)).trans h.c0, (World.cell?_of_block (by exact hb)).trans h.c1, (World.cell?_of_block (by exact hb)).trans h.c2, (World.cell?_of_block (by exact hb)).trans h.c3, (World.cell?_of_block (by exact hb)).trans h.c4, (World.cell?_of_block (by exact hb)).trans h.c5, (World.cell?_of_block (by exact hb)).trans h.c6, (World.cell?_of_block (by exact hb)).trans h.c7⟩
/-- its blocks were not touched -/
theorem EL.far {w w' : World} {Q : Nat → Prop} {a : Option Addr} {l : List ET} (h : EL w Q a l) (hs : w.heap.size ≤ w'.heap.size) (hb : ∀ b, Q b → b < w.heap.size → w'.heap[b]? = w.heap[b]?) : EL w' Q a l := by
  induction h with
  | nil a => exact .nil a
  | row b off l sa sc hq hlt hc hr _ ih => exact .row b off l sa sc hq (Nat.lt_of_lt_of_le hlt hs) (fun i h => (hc i h).far (hb b hq hlt)) hr (fun i h => ih i h)
theorem EL.mono {w : World} {Q Q' : Nat → Prop} {a : Option Addr} {l : List ET} (h : EL w Q a l) (hq : ∀ b, Q b → b < w.heap.size → Q' b) : EL w Q' a l := by
  induction h with
  | nil a => exact .nil a
  | row b off l sa sc hb hlt hc hr _ ih => exact .row b off l sa sc (hq b hb hlt) hlt hc hr (fun i h => ih i h)
/-- an expression by value -/
def EV (w : World) (Q : Nat → Prop) (v : Value) (e : ET) : Prop := ∃ sa sc, v = .agg (etX e sa sc).toArray ∧ ERg e sa sc ∧ EL w Q sa e.parts
theorem EV.keep {w w' : World} {Q : Nat → Prop} {v : Value} {e : ET} (h : EV w Q v e) (hb : Below w.heap.size w w') : EV w' Q v e := by
  obtain ⟨sa, sc, h1, h2, h3⟩ := h
  exact ⟨sa, sc, h1, h2, h3.keep hb⟩
/-- a part of a slice of them -/
theorem EL.at {w : World} {Q : Nat → Prop} {a : Option Addr} {l : List ET} (h : EL w Q a l) {i : Nat} (hi : i < l.length) : ∃ b off sa sc, a = some ⟨b, off, none⟩ ∧ b < w.heap.size ∧ EAt w b (off + i * 8) (l[i]) sa sc ∧ ERg (l[i]) sa sc ∧ EL w Q sa (l[i]).parts := by
  cases h with
  | nil a => simp at hi
  | row b off l sa sc hq hlt hc hr hs => exact ⟨b, off, sa i, sc i, rfl, hlt, hc i hi, hr i hi, hs i hi⟩

section
variable {H : Type} {enc : TypeId × Value → H} {P : Program} {w : World} {base : Nat} {spare : Nat → Bool} {held : Bool}
end
end Go.Proofs.YtknhphcfcpjhiaaGreatDoor
namespace Go.Proofs.YtknhphcfcpjhiaaGreatDoor
set_option linter.unusedVariables false
set_option linter.unusedSimpArgs false

def letZ (r : Int) : Bool := decide (97 ≤ r ∧ r ≤ 122) || decide (65 ≤ r ∧ r ≤ 90) || decide (945 ≤ r ∧ r ≤ 969) || decide (r = 95)
def digZ (r : Int) : Bool := decide (48 ≤ r ∧ r ≤ 57)
/-- from a place on every rune may stand in a name -/
def okFrom (s : ByteArray) : Nat → Nat → Bool
  | 0, _ => true
  | b + 1, pos => if pos < s.size then (letZ (Utf8.decode s pos).1 || (decide (pos ≠ 0) && digZ (Utf8.decode s pos).1)) && okFrom s b (pos + (Utf8.decode s pos).2) else true
def okAll (s : ByteArray) : Bool := okFrom s s.size 0
theorem okFrom_end (s : ByteArray) (b pos : Nat) (h : ¬ pos < s.size) : okFrom s b pos = true := by
  cases b <;> simp [okFrom, h]
theorem okFrom_bad {s : ByteArray} {b pos : Nat} (h : pos < s.size) (h1 : letZ (Utf8.decode s pos).1 = false) (h2 : pos = 0 ∨ digZ (Utf8.decode s pos).1 = false) (hb : s.size ≤ pos + b) : okFrom s b pos = false := by
  cases b with
  | zero => omega
  | succ b =>
    unfold okFrom
    rw [if_pos h, h1]
    rcases h2 with rfl | h2
    · simp
    · rw [h2]; simp
theorem okFrom_good {s : ByteArray} {b pos : Nat} (h : pos < s.size) (h1 : letZ (Utf8.decode s pos).1 = true ∨ (pos ≠ 0 ∧ digZ (Utf8.decode s pos).1 = true)) : okFrom s (b + 1) pos = okFrom s b (pos + (Utf8.decode s pos).2) := by
  conv => lhs; unfold okFrom
  rw [if_pos h]
  rcases h1 with h1 | ⟨h0, h1⟩
  · rw [h1]; simp
  · rw [h1]; simp [h0]
theorem runes_pos {s : ByteArray} (h : 0 < s.size) : 0 < Lib.runeCount s := by
  unfold Lib.runeCount
  obtain ⟨m, hm⟩ : ∃ m, s.size = m + 1 := ⟨s.size - 1, by omega⟩
  rw [hm]
  unfold Lib.runeCountFrom
  rw [if_pos h]; omega
theorem runes_zero {s : ByteArray} (h : s.size = 0) : Lib.runeCount s = 0 := by
  unfold Lib.runeCount
  rw [h]; rfl

/-- the keywords -/
def kws : List (List UInt8) := [[67, 82, 69, 65, 84, 69],
  [84, 65, 66, 76, 69],
  [73, 78, 68, 69, 88],
  [85, 78, 73, 81, 85, 69],
  [77, 65, 84, 69, 82, 73, 65, 76, 73, 90, 69, 68],
  [86, 73, 69, 87],
  [68, 82, 79, 80],
  [73, 78, 83, 69, 82, 84],
  [73, 78, 84, 79],
  [86, 65, 76, 85, 69, 83],
  [85, 80, 68, 65, 84, 69],
  [83, 69, 84],
  [68, 69, 76, 69, 84, 69],
  [70, 82, 79, 77],
  [83, 69, 76, 69, 67, 84],
  [68, 73, 83, 84, 73, 78, 67, 84],
  [87, 72, 69, 82, 69],
  [71, 82, 79, 85, 80],
  [66, 89],
  [79, 82, 68, 69, 82],
  [65, 83, 67],
  [68, 69, 83, 67],
  [76, 73, 77, 73, 84],
  [74, 79, 73, 78],
  [79, 78],
  [65, 83],
  [65, 78, 68],
  [79, 82],
  [78, 79, 84],
  [73, 83],
  [78, 85, 76, 76],
  [73, 78, 84],
  [84, 69, 88, 84],
  [66, 69, 71, 73, 78],
  [67, 79, 77, 77, 73, 84],
  [82, 79, 76, 76, 66, 65, 67, 75],
  [67, 79, 85, 78, 84],
  [83, 85, 77],
  [77, 73, 78],
  [77, 65, 88]]
def kwB (s : ByteArray) : Bool := kws.contains s.data.toList
/-- a name -/
def nmB (s : ByteArray) : Bool := okAll s && decide (0 < s.size) && decide (Lib.runeCount s ≤ 16) && !kwB s

end Go.Proofs.YtknhphcfcpjhiaaGreatDoor
namespace Go.Proofs.YtknhphcfcpjhiaaGreatDoor
open Go.Lib
set_option linter.unusedVariables false
set_option linter.unusedSimpArgs false

abbrev Bs := List UInt8
theorem dec_low (b : UInt8) (t : Bs) (h : b.toNat < 128) : decodeL (b :: t) = (b.toNat, 1) := by
  rw [decodeL_N]
  simp only [List.getD_cons_zero]
  unfold decodeN
  rw [if_pos (by first | exact h | simpa using h)]
theorem decN_high (n b0 b1 b2 b3 : Nat) (h : 128 ≤ b0) : 128 ≤ (decodeN n b0 b1 b2 b3).1 ∧ 1 ≤ (decodeN n b0 b1 b2 b3).2 := by
  unfold decodeN
  repeat' split
  all_goals (simp only; omega)
/-- a rune that isn't ASCII: none of its bytes is -/
theorem dec_high (b : UInt8) (t : Bs) (h : 128 ≤ b.toNat) : 128 ≤ (decodeL (b :: t)).1 ∧ 1 ≤ (decodeL (b :: t)).2 ∧ (decodeL (b :: t)).2 ≤ (b :: t).length ∧ ∀ x ∈ (b :: t).take (decodeL (b :: t)).2, 128 ≤ x.toNat := by
  have hc := decodeN_conts (b :: t).length ((b :: t).getD 0 0).toNat ((b :: t).getD 1 0).toNat ((b :: t).getD 2 0).toNat ((b :: t).getD 3 0).toNat
  have hh := decN_high (b :: t).length ((b :: t).getD 0 0).toNat ((b :: t).getD 1 0).toNat ((b :: t).getD 2 0).toNat ((b :: t).getD 3 0).toNat (by simpa using h)
  rw [← decodeL_N] at hc hh
  obtain ⟨c2, c3, c4, c5⟩ := hc
  generalize decodeL (b :: t) = d at *
  obtain ⟨r, n⟩ := d
  simp only at *
  have hl : 1 ≤ (b :: t).length := by simp
  refine ⟨hh.1, hh.2, by omega, fun x hx => ?_⟩
  obtain ⟨i, hi, rfl⟩ := List.mem_iff_getElem.1 hx
  have hin : i < n := by
    have := hi
    rw [List.length_take] at this
    omega
  have hil : i < (b :: t).length := by
    have := hi
    rw [List.length_take] at this
    omega
  rw [List.getElem_take]
  have hg : (b :: t)[i] = (b :: t).getD i 0 := by rw [List.getD_eq_getElem?_getD, List.getElem?_eq_getElem hil]; rfl
  rw [hg]
  rcases (show i = 0 ∨ i = 1 ∨ i = 2 ∨ i = 3 by omega) with rfl | rfl | rfl | rfl
  · simpa using h
  · have := (c2 (by omega)).1; omega
  · have := (c3 (by omega)).1; omega
  · have := (c4 (by omega)).1; omega
/-- any rune: at least a byte, and no more than there are -/
theorem dec_wd (l : Bs) (h : l ≠ []) : 1 ≤ (decodeL l).2 ∧ (decodeL l).2 ≤ l.length := by
  cases l with
  | nil => exact absurd rfl h
  | cons b t =>
    by_cases hb : b.toNat < 128
    · rw [dec_low b t hb]; simp
    · have := dec_high b t (by omega)
      exact ⟨this.2.1, this.2.2.1⟩

/-- a word: its kind, its text, its number -/
abbrev Wd := Int × Bs × Int
abbrev eS : Int := 3
abbrev eL : Int := 5
/-- what is answered: an error, or words -/
inductive An (α : Type) where
  | no (e : Int)
  | ok (x : α)
def An.bind {α β : Type} : An α → (α → An β) → An β
  | .no e, _ => .no e
  | .ok x, f => f x
def letL (r : Nat) : Bool := letZ (r : Int)
def digL (r : Nat) : Bool := digZ (r : Int)
def ndL (r : Nat) : Bool := letL r || digL r
def pairL (cur : Bs) (r : Nat) : Bool := (cur == [60] && (r == 61 || r == 62)) || (cur == [62] && r == 61)
/-- does a rune go on with what is open, and what is open then -/
def goes (md : Nat) (cur : Bs) (r : Nat) : Option Nat :=
  match md with
  | 1 => if ndL r then some 1 else none
  | 2 => if digL r then some 2 else none
  | 3 => some (if r = 39 then 4 else 3)
  | 4 => if r = 39 then some 3 else none
  | 5 => if (cur == [45] && r == 45) then some 6 else if pairL cur r then some 5 else none
  | 6 => if r = 10 then none else some 6
  | _ => none
def addM (ws : List Wd) (x : Wd) : An (List Wd) := if ws.length = 600 then .no eL else .ok (ws ++ [x])
/-- what digits are worth -/
def decV (l : Bs) : Nat := l.foldl (fun n b => 10 * n + (b.toNat - 48)) 0
def numOk (cur : Bs) : Bool := decide (decV cur ≤ 9223372036854775807) && !(decide (1 < cur.length) && cur.head? == some 48)
def numM (cur : Bs) (ws : List Wd) : An (List Wd) := if numOk cur then addM ws (2, cur, (decV cur : Int)) else .no eS
/-- two quotes are one -/
def unq : Bs → Bs
  | [] => []
  | [a] => [a]
  | a :: b :: t => if a = 39 ∧ b = 39 then 39 :: unq t else a :: unq (b :: t)
def textM (cur : Bs) (ws : List Wd) : An (List Wd) := if 100 < (unq cur).length then .no eS else addM ws (3, unq cur, 0)
/-- what is open ends -/
def endM (md : Nat) (cur : Bs) (ws : List Wd) : An (List Wd) :=
  match md with
  | 1 => if 16 < runeCountL cur then .no eS else addM ws (1, cur, 0)
  | 2 => numM cur ws
  | 3 => .no eS
  | 4 => textM ((cur.drop 1).dropLast) ws
  | 5 => addM ws (4, cur, 0)
  | _ => .ok ws
def signs : Bs := [40, 41, 44, 46, 59, 42, 43, 45, 61, 60, 62]
def signL (r : Nat) : Bool := signs.any fun b => b.toNat == r
/-- what a rune opens -/
def beginM (r : Nat) : An Nat :=
  if r = 32 ∨ r = 9 ∨ r = 10 then .ok 0 else if letL r then .ok 1 else if digL r then .ok 2 else if r = 39 then .ok 3 else if signL r then .ok 5 else .no eS
/-- where a reader is -/
abbrev Rd := Nat × Bs × List Wd
def stepM (x : Rd) (r : Nat) (c : Bs) : An Rd :=
  if x.1 = 2 ∧ letL r = true then .no eS else
  match goes x.1 x.2.1 r with
  | some md => .ok (md, x.2.1 ++ c, x.2.2)
  | none => (endM x.1 x.2.1 x.2.2).bind fun ws => (beginM r).bind fun md => .ok (md, c, ws)
def runM : Nat → Rd → Bs → An (List Wd)
  | 0, x, _ => endM x.1 x.2.1 x.2.2
  | f + 1, x, l => if l = [] then endM x.1 x.2.1 x.2.2 else (stepM x (decodeL l).1 (l.take (decodeL l).2)).bind fun y => runM f y (l.drop (decodeL l).2)

theorem runM_nil (f : Nat) (x : Rd) : runM f x [] = endM x.1 x.2.1 x.2.2 := by cases f <;> simp [runM]
/-- more fuel than bytes is enough -/
theorem runM_fuel : ∀ (f g : Nat) (x : Rd) (l : Bs), l.length ≤ f → l.length ≤ g → runM f x l = runM g x l
  | 0, g, x, l, hf, hg => by
    obtain rfl : l = [] := List.eq_nil_of_length_eq_zero (by omega)
    rw [runM_nil, runM_nil]
  | f + 1, 0, x, l, hf, hg => by
    obtain rfl : l = [] := List.eq_nil_of_length_eq_zero (by omega)
    rw [runM_nil, runM_nil]
  | f + 1, g + 1, x, l, hf, hg => by
    unfold runM
    by_cases h : l = []
    · rw [if_pos h, if_pos h]
    · rw [if_neg h, if_neg h]
      have hw := dec_wd l h
      cases hs : stepM x (decodeL l).1 (l.take (decodeL l).2) with
      | no e => rfl
      | ok y =>
        simp only [An.bind]
        exact runM_fuel f g y _ (by rw [List.length_drop]; omega) (by rw [List.length_drop]; omega)
/-- the machine, with as much fuel as it wants -/
def run (x : Rd) (l : Bs) : An (List Wd) := runM l.length x l
theorem run_nil (x : Rd) : run x [] = endM x.1 x.2.1 x.2.2 := runM_nil _ _
theorem run_step (x : Rd) (l : Bs) (h : l ≠ []) : run x l = (stepM x (decodeL l).1 (l.take (decodeL l).2)).bind fun y => run y (l.drop (decodeL l).2) := by
  have hw := dec_wd l h
  obtain ⟨m, hm⟩ : ∃ m, l.length = m + 1 := ⟨l.length - 1, by omega⟩
  unfold run
  rw [hm]
  conv => lhs; unfold runM
  rw [if_neg h]
  cases hs : stepM x (decodeL l).1 (l.take (decodeL l).2) with
  | no e => rfl
  | ok y =>
    simp only [An.bind]
    exact runM_fuel m (l.drop (decodeL l).2).length y (l.drop (decodeL l).2) (by rw [List.length_drop]; omega) (Nat.le_refl _)
/-- an ASCII byte -/
theorem run_low (x : Rd) (b : UInt8) (t : Bs) (h : b.toNat < 128) : run x (b :: t) = (stepM x b.toNat [b]).bind fun y => run y t := by
  have e := run_step x (b :: t) (List.cons_ne_nil b t)
  have d := dec_low b t h
  generalize decodeL (b :: t) = z at e d
  subst d
  simpa only [List.take_succ_cons, List.take_zero, List.drop_succ_cons, List.drop_zero] using e
theorem step_blank (cur : Bs) (ws : List Wd) (r : Nat) (c : Bs) : stepM (0, cur, ws) r c = (beginM r).bind fun md => .ok (md, c, ws) := by
  unfold stepM
  rw [if_neg (fun h => absurd (show (0 : Nat) = 2 from h.1) (by decide))]
  simp only [goes, endM, An.bind]
/-- with nothing open it is no matter what was -/
theorem blank_any (cur cur' : Bs) (ws : List Wd) (l : Bs) : run (0, cur, ws) l = run (0, cur', ws) l := by
  by_cases h : l = []
  · subst h; simp only [run_nil, endM]
  · rw [run_step _ l h, run_step _ l h, step_blank, step_blank]
/-- what doesn't go on ends first -/
theorem run_end (x : Rd) (l : Bs) (h : l ≠ []) (h2 : ¬ (x.1 = 2 ∧ letL (decodeL l).1 = true)) (hg : goes x.1 x.2.1 (decodeL l).1 = none) : run x l = (endM x.1 x.2.1 x.2.2).bind fun ws => run (0, [], ws) l := by
  rw [run_step x l h]
  unfold stepM
  rw [if_neg h2, hg]
  simp only
  cases he : endM x.1 x.2.1 x.2.2 with
  | no e => rfl
  | ok ws =>
    simp only [An.bind]
    rw [run_step (0, [], ws) l h, step_blank]
    cases beginM (decodeL l).1 <;> rfl

theorem dig_low {r : Nat} (h : digL r = true) : 48 ≤ r ∧ r ≤ 57 := by
  unfold digL digZ at h
  simp only [decide_eq_true_eq] at h
  omega
theorem dropWhile_take {p : UInt8 → Bool} : ∀ (n : Nat) (l : Bs), (∀ x ∈ l.take n, p x = true) → l.dropWhile p = (l.drop n).dropWhile p
  | 0, l, _ => by simp
  | n + 1, [], _ => by simp
  | n + 1, b :: t, h => by
    rw [List.dropWhile_cons_of_pos (h b (by simp)), List.drop_succ_cons]
    exact dropWhile_take n t (fun x hx => h x (by simp [hx]))
/-- a blank -/
theorem run_blank (cur : Bs) (ws : List Wd) (b : UInt8) (t : Bs) (h : b = 32 ∨ b = 9 ∨ b = 10) : run (0, cur, ws) (b :: t) = run (0, [], ws) t := by
  have hb : b.toNat < 128 := by rcases h with rfl | rfl | rfl <;> decide
  rw [run_low _ _ _ hb]
  have : beginM b.toNat = .ok 0 := by rcases h with rfl | rfl | rfl <;> rfl
  rw [step_blank, this]
  exact blank_any _ _ _ _
/-- a remark -/
theorem run_remark : ∀ (n : Nat) (cur : Bs) (ws : List Wd) (l : Bs), l.length ≤ n → run (6, cur, ws) l = run (0, [], ws) (l.dropWhile (· != 10))
  | n, cur, ws, [], h => by rw [List.dropWhile_nil, run_nil, run_nil]; rfl
  | 0, cur, ws, b :: t, h => by simp at h
  | n + 1, cur, ws, b :: t, h => by
    by_cases hb : b = 10
    · subst hb
      rw [run_end _ _ (by simp) (by simp) (by rw [dec_low 10 t (by decide)]; rfl), List.dropWhile_cons_of_neg (by simp)]
      rfl
    · by_cases hl : b.toNat < 128
      · rw [run_low _ _ _ hl, List.dropWhile_cons_of_pos (by simpa using hb)]
        have hg : goes 6 cur b.toNat = some 6 := by
          unfold goes
          simp only
          rw [if_neg (fun e => hb (UInt8.toNat_inj.1 (by rw [e]; rfl)))]
        unfold stepM
        simp only [hg, Nat.reduceEqDiff, false_and, if_false, An.bind]
        exact run_remark n _ ws t (by simp at h; omega)
      · have hh := dec_high b t (by omega)
        have hg : goes 6 cur (decodeL (b :: t)).1 = some 6 := by
          unfold goes
          simp only
          rw [if_neg (by omega)]
        rw [run_step _ _ (by simp), dropWhile_take (decodeL (b :: t)).2 (b :: t) (fun x hx => by
          have := hh.2.2.2 x hx
          have hx : x ≠ 10 := fun e => by rw [e] at this; simp at this
          simpa using hx)]
        unfold stepM
        simp only [hg, Nat.reduceEqDiff, false_and, if_false, An.bind]
        exact run_remark n _ ws _ (by rw [List.length_drop]; simp at h ⊢; omega)
/-- are all of them digits -/
def allD (l : Bs) : Bool := l.all fun b => digL b.toNat
theorem dig_byte {b : UInt8} {t : Bs} (h : digL (decodeL (b :: t)).1 = true) : b.toNat < 128 := by
  have := dig_low h
  apply Classical.byContradiction
  intro hn
  have := dec_high b t (by omega)
  omega
/-- a text's letters, and what is behind it -/
def quo : Bs → Option (Bs × Bs)
  | [] => none
  | [b] => if b = 39 then some ([], []) else none
  | b :: c :: t => if b ≠ 39 then (quo (c :: t)).map fun x => (b :: x.1, x.2) else if c = 39 then (quo t).map fun x => (39 :: x.1, x.2) else some ([], c :: t)
end Go.Proofs.YtknhphcfcpjhiaaGreatDoor
