/- Where node's reader of a node is. -/
import Derived.Test.YtbcjhngpcodaoaaDoorNdGot
namespace Go.Proofs.YtbcjhngpcodaoaaDoor
open Go.RowKit
set_option linter.unusedVariables false

/-- what has been read, and what is ahead -/
structure NSt where
  ks : List (List Int)
  vs : List (List Int)
  is : List Int
  l : List Int
  ok : Bool
theorem Rr.far {w w' : World} {R : Nat} {l : List Int} {ok : Bool} {row : Option Nat} (h : Rr w R l ok) (hg : w.grownBy w' row) (hr : ∀ K, row = some K → R < K) : Rr w' R l ok := by
  obtain ⟨a, L, cap, h1, h2, h3, h4, h5⟩ := h
  have hR := (Array.getElem?_eq_some_iff.1 h1).1
  exact ⟨a, L, cap, (hg.block _ hR (fun e => by have := hr R e.symm; omega)).trans h1, h2.belowB (B := R) ⟨hg.os, hg.tape, hg.output, hg.size, fun i hi => hg.block i (by omega) (fun e => by have := hr i e.symm; omega)⟩ h3, h3, h4, h5⟩
theorem grown_far {w wr w' : World} {R : Nat} {row : Option Nat} (h : w.grownBy wr (some R)) (hg : wr.grownBy w' row) (hr : ∀ K, row = some K → w.heap.size ≤ K) : w.grownBy w' (some R) :=
  ⟨hg.os.trans h.os, hg.tape.trans h.tape, hg.output.trans h.output, Nat.le_trans h.size hg.size, fun i hi hne => (hg.block i (Nat.lt_of_lt_of_le hi h.size) (fun e => by have := hr i e.symm; omega)).trans (h.block i hi hne)⟩
/-- a node that is read: its box, its rows, the reader -/
structure NP (w : World) (R : Nat) (lf : Bool) (v1 v2 v3 : Value) (xs ys : List Value) (s : NSt) (wr : World) : Prop where
  rd : Rr wr R s.l s.ok
  res : wr.heap[w.heap.size]? = some (.cells #[.bool false, .slice none 0 0, .slice none 0 0, .slice none 0 0] 28 (0, 0))
  box : wr.heap[w.heap.size + 1]? = some (.cells #[.bool lf, v1, v2, v3] 28 (0, 0))
  rows : Nr wr (w.heap.size + 2) v1 v2 v3 s.ks s.vs s.is xs ys
  gr : w.grownBy wr (some R)
  lt : R < w.heap.size
theorem NP.size {w wr : World} {R : Nat} {lf : Bool} {v1 v2 v3 : Value} {xs ys : List Value} {s : NSt} (h : NP w R lf v1 v2 v3 xs ys s wr) : w.heap.size + 1 < wr.heap.size := (Array.getElem?_eq_some_iff.1 h.box).1
theorem NP.below {w wr w' : World} {R : Nat} {lf : Bool} {v1 v2 v3 : Value} {xs ys : List Value} {s : NSt} (h : NP w R lf v1 v2 v3 xs ys s wr) (hb : Below wr.heap.size wr w') : NP w R lf v1 v2 v3 xs ys s w' :=
  ⟨h.rd.below hb, (hb.block _ (by have := h.size; omega)).trans h.res, (hb.block _ h.size).trans h.box, h.rows.below hb, grown_two h.gr (grown_of hb), h.lt⟩
/-- behind a call of the reader -/
theorem NP.call {w wr w' : World} {R : Nat} {lf : Bool} {v1 v2 v3 : Value} {xs ys : List Value} {s : NSt} {l : List Int} {ok : Bool} (h : NP w R lf v1 v2 v3 xs ys s wr) (hr : RdPost wr R l ok w') : NP w R lf v1 v2 v3 xs ys ⟨s.ks, s.vs, s.is, l, ok⟩ w' := by
  have hR := h.lt
  obtain ⟨a, L, cap, hb, _⟩ := h.rd
  refine ⟨hr.1, (hr.2.block _ (by have := h.size; omega) (fun e => by cases e; omega)).trans h.res, (hr.2.block _ h.size (fun e => by cases e; omega)).trans h.box, h.rows.grown hr.2 (by omega) hb (by decide), grown_two h.gr hr.2, h.lt⟩
/-- the box behind an append onto one of the rows -/
theorem NP.box' {w wr w' : World} {R : Nat} {lf : Bool} {v1 v2 v3 : Value} {xs ys : List Value} {s : NSt} (h : NP w R lf v1 v2 v3 xs ys s wr) {v : Value} {n : Nat} {e : TypeId} {us : List Value} (hv : wr.ownsRow (w.heap.size + 2) e 1 v n us) (hg : wr.grownBy w' v.ownBlock) :
    w'.heap[w.heap.size + 1]? = some (.cells #[.bool lf, v1, v2, v3] 28 (0, 0)) ∧ w'.heap[w.heap.size]? = some (.cells #[.bool false, .slice none 0 0, .slice none 0 0, .slice none 0 0] 28 (0, 0)) ∧ Rr w' R s.l s.ok ∧ w.grownBy w' (some R) := by
  have hlo := fun K hK => (hv.lt K hK).1
  refine ⟨(hg.block _ h.size (fun e => by have := hlo _ e.symm; omega)).trans h.box, (hg.block _ (by have := h.size; omega) (fun e => by have := hlo _ e.symm; omega)).trans h.res, h.rd.far hg (fun K hK => by have := hlo K hK; have := h.lt; omega), grown_far h.gr hg (fun K hK => by have := hlo K hK; omega)⟩
theorem NP.store {w w' : World} {R : Nat} {lf : Bool} {v1 v2 v3 : Value} {s : NSt} {l : List Int} {ok : Bool} (hb : w'.heap[w.heap.size + 1]? = some (.cells #[.bool lf, v1, v2, v3] 28 (0, 0))) (hs : w'.heap[w.heap.size]? = some (.cells #[.bool false, .slice none 0 0, .slice none 0 0, .slice none 0 0] 28 (0, 0))) (hr : Rr w' R l ok) (hg : w.grownBy w' (some R)) (hR : R < w.heap.size) (j : Nat) (v : Value) :
    (w'.setCell ⟨w.heap.size + 1, j, none⟩ v).heap[w.heap.size]? = some (.cells #[.bool false, .slice none 0 0, .slice none 0 0, .slice none 0 0] 28 (0, 0)) ∧ Rr (w'.setCell ⟨w.heap.size + 1, j, none⟩ v) R l ok ∧ w.grownBy (w'.setCell ⟨w.heap.size + 1, j, none⟩ v) (some R) :=
  ⟨(heap_setCell_other _ _ _ _ (by show w.heap.size ≠ w.heap.size + 1; omega)).trans hs, hr.far (grown_set (R := w.heap.size + 1) j v) (fun K hK => by cases hK; omega), grown_far hg (grown_set (R := w.heap.size + 1) j v) (fun K hK => by cases hK; omega)⟩
theorem NP.key {w wr wm w' : World} {R g cap : Nat} {lf : Bool} {v1 v2 v3 : Value} {xs ys : List Value} {s : NSt} {a : Option Addr} {L c : Nat} {d : List Int} (h : NP w R lf v1 v2 v3 xs ys s wr) (hb : Below wr.heap.size wr wm) (he : El wr a L c d) (hg : wm.grownBy w' v1.ownBlock) (hor : v1.ownBlock = some g ∨ g = wm.heap.size)
    (ho : w'.ownsRow (w.heap.size + 2) 29 1 (.slice (some ⟨g, 0, none⟩) (s.ks.length + 1) cap) (s.ks.length + 1) (xs ++ [.slice a L c])) :
    NP w R lf (.slice (some ⟨g, 0, none⟩) (s.ks.length + 1) cap) v2 v3 (xs ++ [.slice a L c]) ys ⟨s.ks ++ [d], s.vs, s.is, s.l, s.ok⟩ (w'.setCell ⟨w.heap.size + 1, 1, none⟩ (.slice (some ⟨g, 0, none⟩) (s.ks.length + 1) cap)) := by
  have hm := h.below hb
  obtain ⟨b1, b2, b3, b4⟩ := hm.box' hm.rows.o1.1 hg
  obtain ⟨c1, c2, c3⟩ := NP.store (s := s) b1 b2 b3 b4 h.lt 1 (.slice (some ⟨g, 0, none⟩) (s.ks.length + 1) cap)
  exact ⟨c2, c1, Go.heap_setCell_same w' (w.heap.size + 1) 1 _ _ _ b1, (hm.rows.app1 (he.keep (keep8_below hb)) hg hor ho).grown (grown_set 1 _) (Nat.lt_succ_self _) b1 (by decide), c3, h.lt⟩
theorem NP.val {w wr wm w' : World} {R g cap : Nat} {lf : Bool} {v1 v2 v3 : Value} {xs ys : List Value} {s : NSt} {a : Option Addr} {L c : Nat} {d : List Int} (h : NP w R lf v1 v2 v3 xs ys s wr) (hb : Below wr.heap.size wr wm) (he : El wr a L c d) (hg : wm.grownBy w' v2.ownBlock) (hor : v2.ownBlock = some g ∨ g = wm.heap.size)
    (ho : w'.ownsRow (w.heap.size + 2) 29 1 (.slice (some ⟨g, 0, none⟩) (s.vs.length + 1) cap) (s.vs.length + 1) (ys ++ [.slice a L c])) :
    NP w R lf v1 (.slice (some ⟨g, 0, none⟩) (s.vs.length + 1) cap) v3 xs (ys ++ [.slice a L c]) ⟨s.ks, s.vs ++ [d], s.is, s.l, s.ok⟩ (w'.setCell ⟨w.heap.size + 1, 2, none⟩ (.slice (some ⟨g, 0, none⟩) (s.vs.length + 1) cap)) := by
  have hm := h.below hb
  obtain ⟨b1, b2, b3, b4⟩ := hm.box' hm.rows.o2.1 hg
  obtain ⟨c1, c2, c3⟩ := NP.store (s := s) b1 b2 b3 b4 h.lt 2 (.slice (some ⟨g, 0, none⟩) (s.vs.length + 1) cap)
  exact ⟨c2, c1, Go.heap_setCell_same w' (w.heap.size + 1) 2 _ _ _ b1, (hm.rows.app2 (he.keep (keep8_below hb)) hg hor ho).grown (grown_set 2 _) (Nat.lt_succ_self _) b1 (by decide), c3, h.lt⟩
theorem NP.kid {w wr wm w' : World} {R g cap : Nat} {lf : Bool} {v1 v2 v3 : Value} {xs ys : List Value} {s : NSt} {z : Int} (h : NP w R lf v1 v2 v3 xs ys s wr) (hb : Below wr.heap.size wr wm) (hg : wm.grownBy w' v3.ownBlock)
    (ho : w'.ownsRow (w.heap.size + 2) 3 1 (.slice (some ⟨g, 0, none⟩) (s.is.length + 1) cap) (s.is.length + 1) (s.is.map (Value.int .i64) ++ [.int .i64 z])) :
    NP w R lf v1 v2 (.slice (some ⟨g, 0, none⟩) (s.is.length + 1) cap) xs ys ⟨s.ks, s.vs, s.is ++ [z], s.l, s.ok⟩ (w'.setCell ⟨w.heap.size + 1, 3, none⟩ (.slice (some ⟨g, 0, none⟩) (s.is.length + 1) cap)) := by
  have hm := h.below hb
  obtain ⟨b1, b2, b3, b4⟩ := hm.box' hm.rows.o3 hg
  obtain ⟨c1, c2, c3⟩ := NP.store (s := s) b1 b2 b3 b4 h.lt 3 (.slice (some ⟨g, 0, none⟩) (s.is.length + 1) cap)
  exact ⟨c2, c1, Go.heap_setCell_same w' (w.heap.size + 1) 3 _ _ _ b1, (hm.rows.app3 hg ho).grown (grown_set 3 _) (Nat.lt_succ_self _) b1 (by decide), c3, h.lt⟩

/-- a round -/
def stepS (lf : Bool) (s : NSt) : NSt :=
  if lf then ⟨s.ks ++ [(bytS s.l s.ok).1], s.vs ++ [(bytS (bytS s.l s.ok).2.1 (bytS s.l s.ok).2.2).1], s.is, (bytS (bytS s.l s.ok).2.1 (bytS s.l s.ok).2.2).2.1, (bytS (bytS s.l s.ok).2.1 (bytS s.l s.ok).2.2).2.2⟩
  else ⟨s.ks ++ [(bytS s.l s.ok).1], s.vs, s.is ++ [(numS 10000 (bytS s.l s.ok).2.1 (bytS s.l s.ok).2.2).1], (numS 10000 (bytS s.l s.ok).2.1 (bytS s.l s.ok).2.2).2.1, (numS 10000 (bytS s.l s.ok).2.1 (bytS s.l s.ok).2.2).2.2⟩
def loopS (lf : Bool) : Nat → NSt → NSt
  | 0, s => s
  | n + 1, s => if s.ok = true then loopS lf n (stepS lf s) else s
def headS (lf : Bool) (l : List Int) : NSt :=
  if lf then ⟨[], [], [], (numS l.length l true).2.1, (numS l.length l true).2.2⟩
  else ⟨[], [], [(numS 10000 (numS l.length l true).2.1 (numS l.length l true).2.2).1], (numS 10000 (numS l.length l true).2.1 (numS l.length l true).2.2).2.1, (numS 10000 (numS l.length l true).2.1 (numS l.length l true).2.2).2.2⟩
def countS (l : List Int) : Nat := (numS l.length l true).1.toNat
def nodeS (lf : Bool) (l : List Int) : NSt := loopS lf (countS l) (headS lf l)
end Go.Proofs.YtbcjhngpcodaoaaDoor
