/- Cells, read as trees. Over any program with such types. -/
import Derived.Test.YtafhgilikcablaaEt
import Derived.Test.YtafhgilikcablaaAggIn
import Derived.Deep.Slices
import Derived.Deep.Strs
import Derived.Deep.Fields
import Derived.ProofKit
import Derived.OpenShut
namespace Go.Proofs.Ytafhgilikcablaa
open Go.ChangeShapes Go.WideShapes Go.Deep Go.RowKit
set_option linter.unusedVariables false
set_option linter.unusedSimpArgs false

/-- an expression -/
inductive CT where
  | mk (kind : Int) (op : ByteArray) (vk vn : Int) (vs : ByteArray) (src col : Int) (parts : List CT)
instance ctInh : Inhabited CT := ⟨.mk 0 ByteArray.empty 0 0 ByteArray.empty 0 0 []⟩
def CT.kind : CT → Int | .mk k _ _ _ _ _ _ _ => k
def CT.op : CT → ByteArray | .mk _ o _ _ _ _ _ _ => o
def CT.vk : CT → Int | .mk _ _ k _ _ _ _ _ => k
def CT.vn : CT → Int | .mk _ _ _ n _ _ _ _ => n
def CT.vs : CT → ByteArray | .mk _ _ _ _ s _ _ _ => s
def CT.src : CT → Int | .mk _ _ _ _ _ t _ _ => t
def CT.col : CT → Int | .mk _ _ _ _ _ _ c _ => c
def CT.parts : CT → List CT | .mk _ _ _ _ _ _ _ p => p
/-- its eight cells -/
def ctX (e : CT) (sa : Option Addr) (sc : Nat) : List Value := [.int .i64 e.kind, .string e.op, .int .i64 e.vk, .int .i64 e.vn, .string e.vs, .int .i64 e.src, .int .i64 e.col, .slice sa e.parts.length sc]
theorem ctX_length (e : CT) (sa : Option Addr) (sc : Nat) : (ctX e sa sc).length = 8 := rfl
structure CAt (w : World) (b o : Nat) (e : CT) (sa : Option Addr) (sc : Nat) : Prop where
  c0 : w.cell? ⟨b, o, none⟩ = some (.int .i64 e.kind)
  c1 : w.cell? ⟨b, o + 1, none⟩ = some (.string e.op)
  c2 : w.cell? ⟨b, o + 2, none⟩ = some (.int .i64 e.vk)
  c3 : w.cell? ⟨b, o + 3, none⟩ = some (.int .i64 e.vn)
  c4 : w.cell? ⟨b, o + 4, none⟩ = some (.string e.vs)
  c5 : w.cell? ⟨b, o + 5, none⟩ = some (.int .i64 e.src)
  c6 : w.cell? ⟨b, o + 6, none⟩ = some (.int .i64 e.col)
  c7 : w.cell? ⟨b, o + 7, none⟩ = some (.slice sa e.parts.length sc)
/-- its numbers are of their kinds -/
structure CRg (e : CT) (sa : Option Addr) (sc : Nat) : Prop where
  k : (Lit.int .i64 e.kind).wf = true
  a : (Lit.int .i64 e.vk).wf = true
  n : (Lit.int .i64 e.vn).wf = true
  o : e.op.size ≤ maxLen
  s : e.vs.size ≤ maxLen
  t : (Lit.int .i64 e.src).wf = true
  c : (Lit.int .i64 e.col).wf = true
  nil : sa = none → e.parts.length = 0 ∧ sc = 0
  le : e.parts.length ≤ sc
  cap : sc ≤ maxLen
/-- a slice of expressions; its blocks are of Q -/
inductive CL (w : World) (Q : Nat → Prop) : Option Addr → List CT → Prop
  | nil (a : Option Addr) : CL w Q a []
  | row (b off : Nat) (l : List CT) (sa : Nat → Option Addr) (sc : Nat → Nat) (hq : Q b) (hb : b < w.heap.size) (hc : ∀ i (h : i < l.length), CAt w b (off + i * 8) (l[i]) (sa i) (sc i)) (hr : ∀ i (h : i < l.length), CRg (l[i]) (sa i) (sc i)) (hs : ∀ i (h : i < l.length), CL w Q (sa i) (l[i]).parts) : CL w Q (some ⟨b, off, none⟩) l
theorem CAt.below {w w' : World} {b o : Nat} {e : CT} {sa : Option Addr} {sc : Nat} (h : CAt w b o e sa sc) (hlt : b < w.heap.size) (hb : Below w.heap.size w w') : CAt w' b o e sa sc :=
  ⟨(hb.cell (p := ⟨b, o, none⟩) hlt).trans h.c0, (hb.cell (p := ⟨b, o + 1, none⟩) hlt).trans h.c1, (hb.cell (p := ⟨b, o + 2, none⟩) hlt).trans h.c2, (hb.cell (p := ⟨b, o + 3, none⟩) hlt).trans h.c3, (hb.cell (p := ⟨b, o + 4, none⟩) hlt).trans h.c4, (hb.cell (p := ⟨b, o + 5, none⟩) hlt).trans h.c5, (hb.cell (p := ⟨b, o + 6, none⟩) hlt).trans h.c6, (hb.cell (p := ⟨b, o + 7, none⟩) hlt).trans h.c7⟩
theorem CL.keep {w w' : World} {Q : Nat → Prop} {a : Option Addr} {l : List CT} (h : CL w Q a l) (hb : Below w.heap.size w w') : CL w' Q a l := by
  induction h with
  | nil a => exact .nil a
  | row b off l sa sc hq hlt hc hr hs ih => exact .row b off l sa sc hq (Nat.lt_of_lt_of_le hlt hb.size) (fun i h => (hc i h).below hlt hb) hr (fun i h => ih i h)
theorem CAt.far {w w' : World} {b o : Nat} {e : CT} {sa : Option Addr} {sc : Nat} (h : CAt w b o e sa sc) (hb : w'.heap[b]? = w.heap[b]?) : CAt w' b o e sa sc :=
  ⟨(World.cell?_of_block (by exact hb)).trans h.c0, (World.cell?_of_block (by exact hb)).trans h.c1, (World.cell?_of_block (by exact hb)).trans h.c2, (World.cell?_of_block (by exact hb)).trans h.c3, (World.cell?_of_block (by exact hb)).trans h.c4, (World.cell?_of_block (by exact hb)).trans h.c5, (World.cell?_of_block (by exact hb)).trans h.c6, (World.cell?_of_block (by exact hb)).trans h.c7⟩
/-- its blocks were not touched -/
theorem CL.far {w w' : World} {Q : Nat → Prop} {a : Option Addr} {l : List CT} (h : CL w Q a l) (hs : w.heap.size ≤ w'.heap.size) (hb : ∀ b, Q b → b < w.heap.size → w'.heap[b]? = w.heap[b]?) : CL w' Q a l := by
  induction h with
  | nil a => exact .nil a
  | row b off l sa sc hq hlt hc hr _ ih => exact .row b off l sa sc hq (Nat.lt_of_lt_of_le hlt hs) (fun i h => (hc i h).far (hb b hq hlt)) hr (fun i h => ih i h)
theorem CL.mono {w : World} {Q Q' : Nat → Prop} {a : Option Addr} {l : List CT} (h : CL w Q a l) (hq : ∀ b, Q b → b < w.heap.size → Q' b) : CL w Q' a l := by
  induction h with
  | nil a => exact .nil a
  | row b off l sa sc hb hlt hc hr _ ih => exact .row b off l sa sc (hq b hb hlt) hlt hc hr (fun i h => ih i h)
/-- an expression by value -/
def CV (w : World) (Q : Nat → Prop) (v : Value) (e : CT) : Prop := ∃ sa sc, v = .agg (ctX e sa sc).toArray ∧ CRg e sa sc ∧ CL w Q sa e.parts
theorem CV.keep {w w' : World} {Q : Nat → Prop} {v : Value} {e : CT} (h : CV w Q v e) (hb : Below w.heap.size w w') : CV w' Q v e := by
  obtain ⟨sa, sc, h1, h2, h3⟩ := h
  exact ⟨sa, sc, h1, h2, h3.keep hb⟩
/-- a part of a slice of them -/
theorem CL.at {w : World} {Q : Nat → Prop} {a : Option Addr} {l : List CT} (h : CL w Q a l) {i : Nat} (hi : i < l.length) : ∃ b off sa sc, a = some ⟨b, off, none⟩ ∧ b < w.heap.size ∧ CAt w b (off + i * 8) (l[i]) sa sc ∧ CRg (l[i]) sa sc ∧ CL w Q sa (l[i]).parts := by
  cases h with
  | nil a => simp at hi
  | row b off l sa sc hq hlt hc hr hs => exact ⟨b, off, sa i, sc i, rfl, hlt, hc i hi, hr i hi, hs i hi⟩

mutual
def ctSz : CT → Nat
  | .mk _ _ _ _ _ _ _ ps => 1 + clSz ps
def clSz : List CT → Nat
  | [] => 0
  | p :: ps => ctSz p + clSz ps
end
theorem ctSz_is (e : CT) : ctSz e = 1 + clSz e.parts := by cases e; rfl
theorem clSz_mem {p : CT} : ∀ {l : List CT}, p ∈ l → ctSz p ≤ clSz l
  | q :: l, h => by
    show _ ≤ ctSz q + clSz l
    rcases List.mem_cons.1 h with rfl | h
    · omega
    · have := clSz_mem h; omega
theorem ctSz_part {e p : CT} (h : p ∈ e.parts) : ctSz p < ctSz e := by
  rw [ctSz_is e]
  have := clSz_mem h
  omega
theorem clSz_len : ∀ l : List CT, l.length ≤ clSz l
  | [] => Nat.le_refl _
  | p :: l => by show _ + 1 ≤ ctSz p + clSz l; have := clSz_len l; rw [ctSz_is p]; omega
end Go.Proofs.Ytafhgilikcablaa
