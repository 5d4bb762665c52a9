/- Reckon: plain mathematics. (Turned from round 1.) -/
import Derived.Below
import Derived.WalkLawsBesides
import Derived.OwnWalk
import Derived.Laws.Rows
import Derived.WalkSpells
import Derived.RowKit
import Derived.IntWalk
import Derived.WalkKit
import Derived.Outline
import Derived.BigQuiet
import Derived.Deep.QuietTactic
import Derived.StillTailTactics
import Derived.Deep.RegionHeld3
import Derived.LoopTactic
import Derived.Lib.Hide
namespace Go.Proofs.YtafhgilikcablaaGreatDoor

/-- is a value formed? -/
def formedB (k n : Int) (s : ByteArray) : Bool := decide ((k = 0 ∧ n = 0 ∧ s.toList = []) ∨ (k = 1 ∧ s.toList = []) ∨ (k = 2 ∧ n = 0 ∧ s.size ≤ 100))

theorem ret_bool {a b : Bool} (h : a = b) : Ending.returned (.bool a) = .returned (.bool b) := by rw [h]
/-- a value: kind, number, text -/
abbrev Val := Int × Int × ByteArray
def noV : Val := (0, 0, ⟨#[]⟩)
/-- a slice of values: what it reads as -/
def IsV (w : World) (a : Option Addr) (len : Nat) (vs : List Val) : Prop :=
  vs.length = len ∧ len ≤ 9223372036854775807 ∧ (len = 0 ∨ ∃ b off, a = some ⟨b, off, none⟩ ∧ b < w.heap.size ∧ ∀ i, i < len →
    w.cell? ⟨b, off + i * 3, none⟩ = some (.int .i64 (vs.getD i noV).1) ∧ w.cell? ⟨b, off + i * 3 + 1, none⟩ = some (.int .i64 (vs.getD i noV).2.1) ∧ w.cell? ⟨b, off + i * 3 + 2, none⟩ = some (.string (vs.getD i noV).2.2))

theorem IsV.below {w w' : World} {a : Option Addr} {len : Nat} {vs : List Val} (h : IsV w a len vs) (hb : RowKit.Below w.heap.size w w') : IsV w' a len vs := by
  obtain ⟨h1, h2, h3⟩ := h
  refine ⟨h1, h2, ?_⟩
  rcases h3 with h3 | ⟨b, off, rfl, hlt, hc⟩
  · exact .inl h3
  · refine .inr ⟨b, off, rfl, Nat.lt_of_lt_of_le hlt hb.size, fun i hi => ?_⟩
    rw [hb.cell (p := ⟨b, off + i * 3, none⟩) hlt, hb.cell (p := ⟨b, off + i * 3 + 1, none⟩) hlt, hb.cell (p := ⟨b, off + i * 3 + 2, none⟩) hlt]
    exact hc i hi

/-- a new row of m values, of which the first ones are written -/
def RowV (w : World) (e : TypeId) (g m : Nat) (vs : List Val) : Prop :=
  ∃ cur : Array Value, w.heap[g]? = some (.cells cur e (0, 0)) ∧ cur.size = m * 3 ∧ ∀ i, i < vs.length → cur[i * 3]? = some (.int .i64 (vs.getD i noV).1) ∧ cur[i * 3 + 1]? = some (.int .i64 (vs.getD i noV).2.1) ∧ cur[i * 3 + 2]? = some (.string (vs.getD i noV).2.2)
theorem RowV.lt {w : World} {e : TypeId} {g m : Nat} {vs : List Val} (h : RowV w e g m vs) : g < w.heap.size := by
  obtain ⟨cur, hg, _⟩ := h
  exact (Array.getElem?_eq_some_iff.1 hg).1
theorem RowV.below {w w' : World} {e : TypeId} {g m : Nat} {vs : List Val} (h : RowV w e g m vs) (hb : RowKit.Below w.heap.size w w') : RowV w' e g m vs := by
  have hlt := h.lt
  obtain ⟨cur, hg, h⟩ := h
  exact ⟨cur, (hb.block g hlt).trans hg, h⟩
theorem RowV.set {w : World} {e : TypeId} {g m j : Nat} {vs : List Val} (h : RowV w e g m vs) (hl : vs.length = j) (hj : j < m) (v : Val) :
    RowV (((w.setCell ⟨g, j * 3, none⟩ (.int .i64 v.1)).setCell ⟨g, j * 3 + 1, none⟩ (.int .i64 v.2.1)).setCell ⟨g, j * 3 + 2, none⟩ (.string v.2.2)) e g m (vs ++ [v]) := by
  obtain ⟨cur, hg, hs, h⟩ := h
  have h1 := heap_setCell_same w g (j * 3) cur e (.int .i64 v.1) hg
  have h2 := heap_setCell_same _ g (j * 3 + 1) _ e (.int .i64 v.2.1) h1
  have h3 := heap_setCell_same _ g (j * 3 + 2) _ e (.string v.2.2) h2
  refine ⟨_, h3, by simp [hs], fun i hi => ?_⟩
  simp only [List.length_append, List.length_cons, List.length_nil] at hi
  by_cases hij : i < vs.length
  · have e1 : (vs ++ [v]).getD i noV = vs.getD i noV := by
      rw [List.getD_eq_getElem?_getD, List.getD_eq_getElem?_getD, List.getElem?_append_left hij]
    obtain ⟨a, b, c⟩ := h i hij
    rw [e1]
    refine ⟨?_, ?_, ?_⟩ <;> (repeat rw [Array.getElem?_setIfInBounds_ne (by omega)]) <;> assumption
  · obtain rfl : i = j := by omega
    have e1 : (vs ++ [v]).getD i noV = v := by
      rw [List.getD_eq_getElem?_getD, List.getElem?_append_right (by omega)]
      simp [hl]
    rw [e1]
    refine ⟨?_, ?_, ?_⟩
    · rw [Array.getElem?_setIfInBounds_ne (by omega), Array.getElem?_setIfInBounds_ne (by omega), Array.getElem?_setIfInBounds_self_of_lt (by omega)]
    · rw [Array.getElem?_setIfInBounds_ne (by omega), Array.getElem?_setIfInBounds_self_of_lt (by simp; omega)]
    · rw [Array.getElem?_setIfInBounds_self_of_lt (by simp; omega)]
/-- the three cells of the k-th value -/
theorem IsV.at {w wr : World} {a : Option Addr} {len : Nat} {vs : List Val} (h : IsV w a len vs) (hb : RowKit.Below w.heap.size w wr) {k : Nat} (hk : k < len) :
    ∃ b off, a = some ⟨b, off, none⟩ ∧ b < w.heap.size ∧ wr.cell? ⟨b, off + k * 3, none⟩ = some (.int .i64 (vs.getD k noV).1) ∧ wr.cell? ⟨b, off + k * 3 + 1, none⟩ = some (.int .i64 (vs.getD k noV).2.1) ∧ wr.cell? ⟨b, off + k * 3 + 2, none⟩ = some (.string (vs.getD k noV).2.2) := by
  obtain ⟨_, _, h⟩ := h
  rcases h with h | ⟨b, off, rfl, hlt, hc⟩
  · omega
  · refine ⟨b, off, rfl, hlt, ?_⟩
    rw [hb.cell (p := ⟨b, off + k * 3, none⟩) hlt, hb.cell (p := ⟨b, off + k * 3 + 1, none⟩) hlt, hb.cell (p := ⟨b, off + k * 3 + 2, none⟩) hlt]
    exact hc k hk

/-- the three cells of a value's box -/
def Box (w : World) (b : Nat) (x : Val) : Prop := w.cell? ⟨b, 0, none⟩ = some (.int .i64 x.1) ∧ w.cell? ⟨b, 1, none⟩ = some (.int .i64 x.2.1) ∧ w.cell? ⟨b, 2, none⟩ = some (.string x.2.2)
theorem Box.grown {w w' : World} {b : Nat} {x : Val} {row : Option Nat} (h : Box w b x) (hg : w.grownBy w' row) (hne : some b ≠ row) : Box w' b x :=
  ⟨hg.cell h.1 hne, hg.cell h.2.1 hne, hg.cell h.2.2 hne⟩
theorem Box.below {w w' : World} {b : Nat} {x : Val} (h : Box w b x) (hb : RowKit.Below w.heap.size w w') : Box w' b x :=
  ⟨cell_later hb h.1, cell_later hb h.2.1, cell_later hb h.2.2⟩
end Go.Proofs.YtafhgilikcablaaGreatDoor
namespace Go.Proofs.YtafhgilikcablaaGreatDoor
open Go.RowKit Go.IntWalk
set_option linter.unusedVariables false
set_option linter.unusedSimpArgs false
set_option maxRecDepth 100000

def InR (r : Int) : Prop := -9223372036854775808 ≤ r ∧ r ≤ 9223372036854775807
end Go.Proofs.YtafhgilikcablaaGreatDoor
