/- Contract of the law's Theirs: an expression of the document's, made the package's. -/
import Derived.Test.YtafhgilikcablaaEt
import Derived.Deep.Slices
import Derived.Deep.Strs
import Derived.Deep.Fields
import Derived.ProofKit
import Derived.OpenShut
import Derived.Test.YtafhgilikcablaaEtIn
import Derived.Deep.AppendLies
import Derived.Deep.RegionHeldLaw
import Derived.Deep.RegionHeld3
import Derived.Deep.RegionLawGrows
import Derived.Deep.QuietTactic
import Derived.OwnWalk
namespace Go.Proofs.Ytafhgilikcablaa
open Go.ChangeShapes Go.WideShapes Go.Deep Go.RowKit
set_option linter.unusedVariables false
set_option linter.unusedSimpArgs false

/-- an expression -/
inductive CT where
  | mk (kind : Int) (op : ByteArray) (vk vn : Int) (vs : ByteArray) (src col : Int) (parts : List CT)
instance ctInh : Inhabited CT := ⟨.mk 0 ByteArray.empty 0 0 ByteArray.empty 0 0 []⟩
def CT.kind : CT → Int | .mk k _ _ _ _ _ _ _ => k
def CT.op : CT → ByteArray | .mk _ o _ _ _ _ _ _ => o
def CT.vk : CT → Int | .mk _ _ k _ _ _ _ _ => k
def CT.vn : CT → Int | .mk _ _ _ n _ _ _ _ => n
def CT.vs : CT → ByteArray | .mk _ _ _ _ s _ _ _ => s
def CT.src : CT → Int | .mk _ _ _ _ _ t _ _ => t
def CT.col : CT → Int | .mk _ _ _ _ _ _ c _ => c
def CT.parts : CT → List CT | .mk _ _ _ _ _ _ _ p => p
/-- its eight cells -/
def ctX (e : CT) (sa : Option Addr) (sc : Nat) : List Value := [.int .i64 e.kind, .string e.op, .int .i64 e.vk, .int .i64 e.vn, .string e.vs, .int .i64 e.src, .int .i64 e.col, .slice sa e.parts.length sc]
theorem ctX_length (e : CT) (sa : Option Addr) (sc : Nat) : (ctX e sa sc).length = 8 := rfl
structure CAt (w : World) (b o : Nat) (e : CT) (sa : Option Addr) (sc : Nat) : Prop where
  c0 : w.cell? ⟨b, o, none⟩ = some (.int .i64 e.kind)
  c1 : w.cell? ⟨b, o + 1, none⟩ = some (.string e.op)
  c2 : w.cell? ⟨b, o + 2, none⟩ = some (.int .i64 e.vk)
  c3 : w.cell? ⟨b, o + 3, none⟩ = some (.int .i64 e.vn)
  c4 : w.cell? ⟨b, o + 4, none⟩ = some (.string e.vs)
  c5 : w.cell? ⟨b, o + 5, none⟩ = some (.int .i64 e.src)
  c6 : w.cell? ⟨b, o + 6, none⟩ = some (.int .i64 e.col)
  c7 : w.cell? ⟨b, o + 7, none⟩ = some (.slice sa e.parts.length sc)
/-- its numbers are of their kinds -/
structure CRg (e : CT) (sa : Option Addr) (sc : Nat) : Prop where
  k : (Lit.int .i64 e.kind).wf = true
  a : (Lit.int .i64 e.vk).wf = true
  n : (Lit.int .i64 e.vn).wf = true
  o : e.op.size ≤ maxLen
  s : e.vs.size ≤ maxLen
  t : (Lit.int .i64 e.src).wf = true
  c : (Lit.int .i64 e.col).wf = true
  nil : sa = none → e.parts.length = 0 ∧ sc = 0
  le : e.parts.length ≤ sc
  cap : sc ≤ maxLen
/-- a slice of expressions; its blocks are of Q -/
inductive CL (w : World) (Q : Nat → Prop) : Option Addr → List CT → Prop
  | nil (a : Option Addr) : CL w Q a []
  | row (b off : Nat) (l : List CT) (sa : Nat → Option Addr) (sc : Nat → Nat) (hq : Q b) (hb : b < w.heap.size) (hc : ∀ i (h : i < l.length), CAt w b (off + i * 8) (l[i]) (sa i) (sc i)) (hr : ∀ i (h : i < l.length), CRg (l[i]) (sa i) (sc i)) (hs : ∀ i (h : i < l.length), CL w Q (sa i) (l[i]).parts) : CL w Q (some ⟨b, off, none⟩) l
theorem CAt.below {w w' : World} {b o : Nat} {e : CT} {sa : Option Addr} {sc : Nat} (h : CAt w b o e sa sc) (hlt : b < w.heap.size) (hb : Below w.heap.size w w') : CAt w' b o e sa sc :=
  ⟨(hb.cell (p := ⟨b, o, none⟩) hlt).trans h.c0, (hb.cell (p := ⟨b, o + 1, none⟩) hlt).trans h.c1, (hb.cell (p := ⟨b, o + 2, none⟩) hlt).trans h.c2, (hb.cell (p := ⟨b, o + 3, none⟩) hlt).trans h.c3, (hb.cell (p := ⟨b, o + 4, none⟩) hlt).trans h.c4, (hb.cell (p := ⟨b, o + 5, none⟩) hlt).trans h.c5, (hb.cell (p := ⟨b, o + 6, none⟩) hlt).trans h.c6, (hb.cell (p := ⟨b, o + 7, none⟩) hlt).trans h.c7⟩
theorem CL.keep {w w' : World} {Q : Nat → Prop} {a : Option Addr} {l : List CT} (h : CL w Q a l) (hb : Below w.heap.size w w') : CL w' Q a l := by
  induction h with
  | nil a => exact .nil a
  | row b off l sa sc hq hlt hc hr hs ih => exact .row b off l sa sc hq (Nat.lt_of_lt_of_le hlt hb.size) (fun i h => (hc i h).below hlt hb) hr (fun i h => ih i h)
theorem CAt.far {w w' : World} {b o : Nat} {e : CT} {sa : Option Addr} {sc : Nat} (h : CAt w b o e sa sc) (hb : w'.heap[b]? = w.heap[b]?) : CAt w' b o e sa sc :=
  ⟨(World.cell?_of_block (by exact hb)).trans h.c0, (World.cell?_of_block (by exact hb)).trans h.c1, (World.cell?_of_block (by exact hb)).trans h.c2, (World.cell?_of_block (by exact hb)).trans h.c3, (World.cell?_of_block (by exact hb)).trans h.c4, (World.cell?_of_block (by exact hb)).trans h.c5, (World.cell?_of_block (by exact hb)).trans h.c6, (World.cell?_of_block (by exact hb)).trans h.c7⟩
/-- its blocks were not touched -/
theorem CL.far {w w' : World} {Q : Nat → Prop} {a : Option Addr} {l : List CT} (h : CL w Q a l) (hs : w.heap.size ≤ w'.heap.size) (hb : ∀ b, Q b → b < w.heap.size → w'.heap[b]? = w.heap[b]?) : CL w' Q a l := by
  induction h with
  | nil a => exact .nil a
  | row b off l sa sc hq hlt hc hr _ ih => exact .row b off l sa sc hq (Nat.lt_of_lt_of_le hlt hs) (fun i h => (hc i h).far (hb b hq hlt)) hr (fun i h => ih i h)
theorem CL.mono {w : World} {Q Q' : Nat → Prop} {a : Option Addr} {l : List CT} (h : CL w Q a l) (hq : ∀ b, Q b → b < w.heap.size → Q' b) : CL w Q' a l := by
  induction h with
  | nil a => exact .nil a
  | row b off l sa sc hb hlt hc hr _ ih => exact .row b off l sa sc (hq b hb hlt) hlt hc hr (fun i h => ih i h)
/-- an expression by value -/
def CV (w : World) (Q : Nat → Prop) (v : Value) (e : CT) : Prop := ∃ sa sc, v = .agg (ctX e sa sc).toArray ∧ CRg e sa sc ∧ CL w Q sa e.parts
theorem CV.keep {w w' : World} {Q : Nat → Prop} {v : Value} {e : CT} (h : CV w Q v e) (hb : Below w.heap.size w w') : CV w' Q v e := by
  obtain ⟨sa, sc, h1, h2, h3⟩ := h
  exact ⟨sa, sc, h1, h2, h3.keep hb⟩
/-- a part of a slice of them -/
theorem CL.at {w : World} {Q : Nat → Prop} {a : Option Addr} {l : List CT} (h : CL w Q a l) {i : Nat} (hi : i < l.length) : ∃ b off sa sc, a = some ⟨b, off, none⟩ ∧ b < w.heap.size ∧ CAt w b (off + i * 8) (l[i]) sa sc ∧ CRg (l[i]) sa sc ∧ CL w Q sa (l[i]).parts := by
  cases h with
  | nil a => simp at hi
  | row b off l sa sc hq hlt hc hr hs => exact ⟨b, off, sa i, sc i, rfl, hlt, hc i hi, hr i hi, hs i hi⟩

mutual
def ctSz : CT → Nat
  | .mk _ _ _ _ _ _ _ ps => 1 + clSz ps
def clSz : List CT → Nat
  | [] => 0
  | p :: ps => ctSz p + clSz ps
end
theorem ctSz_is (e : CT) : ctSz e = 1 + clSz e.parts := by cases e; rfl
theorem clSz_mem {p : CT} : ∀ {l : List CT}, p ∈ l → ctSz p ≤ clSz l
  | q :: l, h => by
    show _ ≤ ctSz q + clSz l
    rcases List.mem_cons.1 h with rfl | h
    · omega
    · have := clSz_mem h; omega
theorem ctSz_part {e p : CT} (h : p ∈ e.parts) : ctSz p < ctSz e := by
  rw [ctSz_is e]
  have := clSz_mem h
  omega
theorem clSz_len : ∀ l : List CT, l.length ≤ clSz l
  | [] => Nat.le_refl _
  | p :: l => by show _ + 1 ≤ ctSz p + clSz l; have := clSz_len l; rw [ctSz_is p]; omega
end Go.Proofs.Ytafhgilikcablaa
namespace Go.Proofs.Ytafhgilikcablaa
open Go.RowKit
set_option linter.unusedVariables false
set_option linter.unusedSimpArgs false
set_option maxRecDepth 100000

/-- parts that were made, with where their own parts lie -/
def plOf (pl : List (ET × Option Addr × Nat)) : List Value := pl.flatMap fun q => etX q.1 q.2.1 q.2.2
section
variable {W : World} {ops : Array Oper} {rest : List Oper} {o : Oper} {a : Act} {K : Act → World → Prop} {Q : Exit → Act → World → Prop} {E : Prop}
end
theorem alloc_old (w : World) (o : Obj) {i : Nat} (hi : i < w.heap.size) : (w.alloc o).heap[i]? = w.heap[i]? := (World.grownBy_alloc w o none).block i hi (fun e => by cases e)
/-- an expression's cells, its parts in v -/
def etC (e : ET) (v : Value) : Array Value := #[.int .i64 e.kind, .string e.op, .int .i64 e.vk, .int .i64 e.vn, .string e.vs, .string e.tab, .string e.col, v]
/-- within Theirs -/
structure ThRel (w : World) (e : ET) (sa : Option Addr) (n sc : Nat) (pl : List (ET × Option Addr × Nat)) (v : Value) (wr : World) : Prop where
  below : Below w.heap.size w wr
  size : w.heap.size + 3 ≤ wr.heap.size
  arg : wr.heap[w.heap.size]? = some (.cells (etC e (.slice sa n sc)) 41 (0, 0))
  res : wr.heap[w.heap.size + 1]? = some (.cells #[.int .i64 0, .string ⟨#[]⟩, .int .i64 0, .int .i64 0, .string ⟨#[]⟩, .string ⟨#[]⟩, .string ⟨#[]⟩, .slice none 0 0] 52 (0, 0))
  out : wr.heap[w.heap.size + 1 + 1]? = some (.cells (etC e v) 52 (0, 0))
  row : wr.ownsRow (w.heap.size + 3) 52 8 v pl.length (plOf pl)
  sub : ∀ q ∈ pl, ERg q.1 q.2.1 q.2.2 ∧ EL wr (fun b => w.heap.size + 3 ≤ b ∧ v.ownBlock ≠ some b) q.2.1 q.1.parts
/-- a part more: behind the call, the new part's block, the append and the store -/
theorem ThRel.next {w wr w3 w4 : World} {e : ET} {sa : Option Addr} {n sc g cap : Nat} {pl : List (ET × Option Addr × Nat)} {v : Value} {y : ET × Option Addr × Nat} {o : Obj} (h : ThRel w e sa n sc pl v wr) (hb3 : Below wr.heap.size wr w3) (hrg : ERg y.1 y.2.1 y.2.2) (hel : EL w3 (fun b => wr.heap.size ≤ b) y.2.1 y.1.parts)
    (hown : w4.ownsRow (w.heap.size + 3) 52 8 (.slice (some ⟨g, 0, none⟩) (pl.length + 1) cap) (pl ++ [y]).length (plOf (pl ++ [y]))) (hg : (w3.alloc o).grownBy w4 v.ownBlock) (hat : v.ownBlock = some g ∨ g = (w3.alloc o).heap.size) :
    ThRel w e sa n sc (pl ++ [y]) (.slice (some ⟨g, 0, none⟩) (pl.length + 1) cap) (w4.setCell ⟨w.heap.size + 1 + 1, 7, none⟩ (.slice (some ⟨g, 0, none⟩) (pl.length + 1) cap)) := by
  have ha : (w3.alloc o).heap.size = w3.heap.size + 1 := by simp
  have hao : ∀ i, i < w3.heap.size → (w3.alloc o).heap[i]? = w3.heap[i]? := fun i hi => (World.grownBy_alloc w3 o none).block i hi (fun e => by cases e)
  have hlt : ∀ b, v.ownBlock = some b → w.heap.size + 3 ≤ b := fun b hb => (h.row.lt b hb).1
  have hs3 := hb3.size
  have hsz := h.size
  have hs4 := hg.size
  have hgw : wr.heap.size ≤ w4.heap.size := by omega
  have k1 : ∀ i, i < wr.heap.size → v.ownBlock ≠ some i → w4.heap[i]? = wr.heap[i]? := fun i hi hn => (hg.block i (by omega) (fun e => hn e.symm)).trans ((hao i (by omega)).trans (hb3.block i hi))
  have low : ∀ i, i < w.heap.size + 3 → w4.heap[i]? = wr.heap[i]? := fun i hi => k1 i (by omega) (fun e => by have := hlt i e; omega)
  have st : ∀ i, i ≠ w.heap.size + 1 + 1 → (w4.setCell ⟨w.heap.size + 1 + 1, 7, none⟩ (.slice (some ⟨g, 0, none⟩) (pl.length + 1) cap)).heap[i]? = w4.heap[i]? := fun i hi => heap_setCell_other _ _ _ _ hi
  have hx := Go.heap_setCell_same w4 (w.heap.size + 1 + 1) 7 _ _ (.slice (some ⟨g, 0, none⟩) (pl.length + 1) cap) ((low _ (by omega)).trans h.out)
  have hgb : w.heap.size + 3 ≤ g := by
    rcases hat with hat | hat
    · exact hlt g hat
    · omega
  refine ⟨?_, by simpa using Nat.le_trans hsz hgw, (st _ (by omega)).trans ((low _ (by omega)).trans h.arg), (st _ (by omega)).trans ((low _ (by omega)).trans h.res), hx, ?_, fun q hq => ?_⟩
  · have hb := h.below
    exact ⟨hg.os.trans (hb3.os.trans hb.os), hg.tape.trans (hb3.tape.trans hb.tape), hg.output.trans (hb3.output.trans hb.output), by simpa using Nat.le_trans hb.size hgw, fun i hi => (st i (by omega)).trans ((low i (by omega)).trans (hb.block i hi))⟩
  · refine ⟨hown.1, ?_⟩
    rcases hown.2 with ⟨e, _⟩ | ⟨g', c', cur, e, hb, hg', r⟩
    · cases e
    · exact .inr ⟨g', c', cur, e, hb, (st g' (by omega)).trans hg', r⟩
  · have far : ∀ b, w.heap.size + 3 ≤ b → b < w3.heap.size → v.ownBlock ≠ some b → (w4.setCell ⟨w.heap.size + 1 + 1, 7, none⟩ (.slice (some ⟨g, 0, none⟩) (pl.length + 1) cap)).heap[b]? = w3.heap[b]? := fun b h1 h2 h3 => (st b (by omega)).trans ((hg.block b (by omega) (fun e => h3 e.symm)).trans (hao b h2))
    have hgn : ∀ b, b < w3.heap.size → v.ownBlock ≠ some b → (Value.slice (some ⟨g, 0, none⟩) (pl.length + 1) cap).ownBlock ≠ some b := fun b h2 h3 e => by
      have e : g = b := by simpa [Value.ownBlock] using e
      subst e
      rcases hat with hat | hat
      · exact h3 hat
      · omega
    have hsz4 : w3.heap.size ≤ (w4.setCell ⟨w.heap.size + 1 + 1, 7, none⟩ (.slice (some ⟨g, 0, none⟩) (pl.length + 1) cap)).heap.size := by simp; omega
    rcases List.mem_append.1 hq with hq | hq
    · obtain ⟨q1, q2⟩ := h.sub q hq
      have q3 : EL w3 (fun b => (w.heap.size + 3 ≤ b ∧ v.ownBlock ≠ some b) ∧ b < wr.heap.size) q.2.1 q.1.parts := (q2.mono (Q' := fun b => (w.heap.size + 3 ≤ b ∧ v.ownBlock ≠ some b) ∧ b < wr.heap.size) (fun b hb hlt => ⟨hb, hlt⟩)).keep hb3
      have q4 := q3.far hsz4 (fun b hb hlt => far b hb.1.1 hlt hb.1.2)
      exact ⟨q1, q4.mono (fun b hb _ => ⟨hb.1.1, hgn b (by omega) hb.1.2⟩)⟩
    · obtain rfl := List.mem_singleton.1 hq
      have hnb : ∀ b, wr.heap.size ≤ b → v.ownBlock ≠ some b := fun b hb e => by have := (h.row.lt b e).2; omega
      have q3 := (hel.mono (Q' := fun b => wr.heap.size ≤ b ∧ b < w3.heap.size) (fun b hb hlt => ⟨hb, hlt⟩)).far hsz4 (fun b hb hlt => far b (by omega) hlt (hnb b hb.1))
      exact ⟨hrg, q3.mono (fun b hb _ => ⟨by omega, hgn b hb.2 (hnb b hb.1)⟩)⟩
theorem size3 {a b : Nat} {w3 : World} (h1 : a ≤ b) (h2 : b ≤ w3.heap.size) (o : Obj) : a ≤ (w3.alloc o).heap.size := by simp; omega
theorem low4 {w wr w3 w4 : World} {o : Obj} {v : Value} (hl : ∀ W : World, Below wr.heap.size wr W → ∀ i, i < w.heap.size + 3 → W.heap[i]? = wr.heap[i]?) (hb : Below wr.heap.size wr w3) (hv : ∀ g, v.ownBlock = some g → w.heap.size + 3 ≤ g ∧ g < wr.heap.size) (hs : w.heap.size + 3 ≤ wr.heap.size) (hg : (w3.alloc o).grownBy w4 v.ownBlock) : ∀ i, i < w.heap.size + 3 → w4.heap[i]? = wr.heap[i]? := fun i hi => by
  have h1 := hb.size
  have ha : (w3.alloc o).heap.size = w3.heap.size + 1 := by simp
  exact (hg.block i (by omega) (fun e => by have := (hv i e.symm).1; omega)).trans ((alloc_old w3 o (by omega)).trans (hl w3 hb i hi))
def setLe (w : World) (B : Nat) : Nat → List Value → World
  | _, [] => w
  | k, v :: vs => setLe (w.setCell ⟨B, k, none⟩ v) B (k + 1) vs
theorem setLe_other {B M : Nat} (hM : M ≠ B) : ∀ (vs : List Value) (k : Nat) (w : World), (setLe w B k vs).heap[M]? = w.heap[M]?
  | [], k, w => rfl
  | v :: vs, k, w => (setLe_other hM vs (k + 1) _).trans (heap_setCell_other _ _ _ _ (by exact hM))
theorem setLe_size {B : Nat} : ∀ (vs : List Value) (k : Nat) (w : World), (setLe w B k vs).heap.size = w.heap.size
  | [], k, w => rfl
  | v :: vs, k, w => (setLe_size vs (k + 1) _).trans (by simp)
theorem setLe_below {w0 : World} {K B : Nat} (hK : K ≤ B) : ∀ (vs : List Value) (k : Nat) (w : World), Below K w0 w → Below K w0 (setLe w B k vs)
  | [], k, w, h => h
  | v :: vs, k, w, h => setLe_below hK vs (k + 1) _ (h.setCell (p := ⟨B, k, none⟩) hK v)
end Go.Proofs.Ytafhgilikcablaa
