/- Plain definitions and lemmas on values and rows of values: order, formed. No program. -/
import Derived.Test.YtpinalpigefenaaGreatDoorEtIn
import Derived.Test.YtpinalpigefenaaGreatDoorEtSpA
import Derived.Test.YtpinalpigefenaaGreatDoorEtFd
import Derived.Below
import Derived.WalkLawsBesides
import Derived.OwnWalk
import Derived.Laws.Rows
import Derived.WalkSpells
namespace Go.Proofs.YtpinalpigefenaaGreatDoor
open Go.RowKit
set_option linter.unusedVariables false
set_option linter.unusedSimpArgs false
set_option maxRecDepth 100000
end Go.Proofs.YtpinalpigefenaaGreatDoor
namespace Go.Proofs.YtpinalpigefenaaGreatDoor
open Go.RowKit
set_option linter.unusedVariables false
set_option linter.unusedSimpArgs false
set_option maxRecDepth 100000
end Go.Proofs.YtpinalpigefenaaGreatDoor
namespace Go.Proofs.YtpinalpigefenaaGreatDoor
open Go.RowKit
set_option linter.unusedVariables false
set_option linter.unusedSimpArgs false
set_option maxRecDepth 100000
end Go.Proofs.YtpinalpigefenaaGreatDoor
namespace Go.Proofs.YtpinalpigefenaaGreatDoor
open Go.RowKit
set_option linter.unusedVariables false
set_option linter.unusedSimpArgs false
set_option maxRecDepth 100000
end Go.Proofs.YtpinalpigefenaaGreatDoor
namespace Go.Proofs.YtpinalpigefenaaGreatDoor
open Go.RowKit
set_option linter.unusedVariables false
set_option linter.unusedSimpArgs false
set_option maxRecDepth 100000
end Go.Proofs.YtpinalpigefenaaGreatDoor
namespace Go.Proofs.YtpinalpigefenaaGreatDoor
open Go.RowKit
set_option linter.unusedVariables false
set_option linter.unusedSimpArgs false
set_option maxRecDepth 100000
end Go.Proofs.YtpinalpigefenaaGreatDoor
namespace Go.Proofs.YtpinalpigefenaaGreatDoor
open Go.RowKit
set_option linter.unusedVariables false
set_option linter.unusedSimpArgs false
set_option maxRecDepth 100000
end Go.Proofs.YtpinalpigefenaaGreatDoor
namespace Go.Proofs.YtpinalpigefenaaGreatDoor
open Go.RowKit
set_option linter.unusedVariables false
set_option linter.unusedSimpArgs false
set_option maxRecDepth 100000
def shD (nm : ByteArray → Bool) (fm : Int → Int → ByteArray → Bool) (e : ET) : Bool :=
  if e.kind = 1 then decide (e.parts.length = 0) && decide (e.tab.toList = []) && decide (e.col.toList = []) && decide (e.op.toList = []) && fm e.vk e.vn e.vs && decide (0 ≤ e.vn)
  else if e.kind = 2 then decide (e.parts.length = 0) && decide (e.vk = 0) && decide (e.vn = 0) && decide (e.vs.toList = []) && decide (e.op.toList = []) && nm e.col && (decide (e.tab.toList = []) || nm e.tab)
  else if e.kind = 3 then decide (e.parts.length = 1) && decide (e.tab.toList = []) && decide (e.col.toList = []) && decide (e.vk = 0) && decide (e.vn = 0) && decide (e.vs.toList = []) && inB e.op [⟨#[78, 79, 84]⟩, ⟨#[45]⟩]
  else if e.kind = 4 then decide (e.parts.length = 2) && decide (e.tab.toList = []) && decide (e.col.toList = []) && decide (e.vk = 0) && decide (e.vn = 0) && decide (e.vs.toList = []) && inB e.op [⟨#[79, 82]⟩, ⟨#[65, 78, 68]⟩, ⟨#[61]⟩, ⟨#[60, 62]⟩, ⟨#[60]⟩, ⟨#[60, 61]⟩, ⟨#[62]⟩, ⟨#[62, 61]⟩, ⟨#[43]⟩, ⟨#[45]⟩, ⟨#[42]⟩]
  else if e.kind = 5 then decide (e.parts.length = 1) && decide (e.tab.toList = []) && decide (e.col.toList = []) && decide (e.vk = 0) && decide (e.vn = 0) && decide (e.vs.toList = []) && inB e.op [⟨#[73, 83, 32, 78, 85, 76, 76]⟩, ⟨#[73, 83, 32, 78, 79, 84, 32, 78, 85, 76, 76]⟩]
  else if e.kind = 6 then decide (e.tab.toList = []) && decide (e.col.toList = []) && decide (e.vk = 0) && decide (e.vn = 0) && decide (e.vs.toList = []) && inB e.op [⟨#[67, 79, 85, 78, 84]⟩, ⟨#[83, 85, 77]⟩, ⟨#[77, 73, 78]⟩, ⟨#[77, 65, 88]⟩] && (decide (e.parts.length = 1) || decide (e.parts.length = 0) && decide (e.op.toList = [67, 79, 85, 78, 84]))
  else false
end Go.Proofs.YtpinalpigefenaaGreatDoor
namespace Go.Proofs.YtpinalpigefenaaGreatDoor
open Go.RowKit
set_option linter.unusedVariables false
set_option linter.unusedSimpArgs false
theorem inB_is (s : ByteArray) : ∀ l : List ByteArray, inB s l = l.any (fun x => decide (s.toList = x.toList))
  | [] => rfl
  | x :: l => by
    show (if (x.toList == s.toList) = true then true else inB s l) = _
    rw [inB_is s l, List.any_cons]
    by_cases h : s.toList = x.toList
    · simp [h]
    · have h' : ¬ x.toList = s.toList := fun e => h e.symm
      simp [h, h']
set_option maxHeartbeats 3200000 in
theorem shP_is (nm : ByteArray → Bool) (fm : Int → Int → ByteArray → Bool) (e : ET) : shP nm fm e = shD nm fm e := by
  have t1 : (⟨#[78, 79, 84]⟩ : ByteArray).toList = [78, 79, 84] := by decide +kernel
  have t2 : (⟨#[45]⟩ : ByteArray).toList = [45] := by decide +kernel
  have t3 : (⟨#[79, 82]⟩ : ByteArray).toList = [79, 82] := by decide +kernel
  have t4 : (⟨#[65, 78, 68]⟩ : ByteArray).toList = [65, 78, 68] := by decide +kernel
  have t5 : (⟨#[61]⟩ : ByteArray).toList = [61] := by decide +kernel
  have t6 : (⟨#[60, 62]⟩ : ByteArray).toList = [60, 62] := by decide +kernel
  have t7 : (⟨#[60]⟩ : ByteArray).toList = [60] := by decide +kernel
  have t8 : (⟨#[60, 61]⟩ : ByteArray).toList = [60, 61] := by decide +kernel
  have t9 : (⟨#[62]⟩ : ByteArray).toList = [62] := by decide +kernel
  have ta : (⟨#[62, 61]⟩ : ByteArray).toList = [62, 61] := by decide +kernel
  have tb : (⟨#[43]⟩ : ByteArray).toList = [43] := by decide +kernel
  have tc : (⟨#[42]⟩ : ByteArray).toList = [42] := by decide +kernel
  have td : (⟨#[73, 83, 32, 78, 85, 76, 76]⟩ : ByteArray).toList = [73, 83, 32, 78, 85, 76, 76] := by decide +kernel
  have te : (⟨#[73, 83, 32, 78, 79, 84, 32, 78, 85, 76, 76]⟩ : ByteArray).toList = [73, 83, 32, 78, 79, 84, 32, 78, 85, 76, 76] := by decide +kernel
  have tf : (⟨#[67, 79, 85, 78, 84]⟩ : ByteArray).toList = [67, 79, 85, 78, 84] := by decide +kernel
  have tg : (⟨#[83, 85, 77]⟩ : ByteArray).toList = [83, 85, 77] := by decide +kernel
  have th : (⟨#[77, 73, 78]⟩ : ByteArray).toList = [77, 73, 78] := by decide +kernel
  have ti : (⟨#[77, 65, 88]⟩ : ByteArray).toList = [77, 65, 88] := by decide +kernel
  unfold shP shD
  simp only [inB_is, List.any_cons, List.any_nil, t1, t2, t3, t4, t5, t6, t7, t8, t9, ta, tb, tc, td, te, tf, tg, th, ti]
  have hl : decide (levelB e.op ≠ 0) = (decide (e.op.toList = [79, 82]) || (decide (e.op.toList = [65, 78, 68]) || (decide (e.op.toList = [61]) || (decide (e.op.toList = [60, 62]) || (decide (e.op.toList = [60]) || (decide (e.op.toList = [60, 61]) || (decide (e.op.toList = [62]) || (decide (e.op.toList = [62, 61]) || (decide (e.op.toList = [43]) || (decide (e.op.toList = [45]) || (decide (e.op.toList = [42]) || false))))))))))) := by
    unfold levelB
    simp only [beq_iff_eq]
    repeat' split
    all_goals simp [*]
  have ha : aggrB e.op = (decide (e.op.toList = [67, 79, 85, 78, 84]) || (decide (e.op.toList = [83, 85, 77]) || (decide (e.op.toList = [77, 73, 78]) || (decide (e.op.toList = [77, 65, 88]) || false)))) := by
    unfold aggrB
    simp only [beq_iff_eq]
    repeat' split
    all_goals simp [*]
  rw [hl, ha]
  by_cases hc : e.op.toList = [67, 79, 85, 78, 84]
  all_goals
    repeat' split
    all_goals
      first | rfl | (rw [Bool.eq_iff_iff]; simp only [Bool.and_eq_true, Bool.or_eq_true, decide_eq_true_eq, hc] <;> grind)
end Go.Proofs.YtpinalpigefenaaGreatDoor
namespace Go.Proofs.YtpinalpigefenaaGreatDoor

/-- is a value formed? -/
def formedB (k n : Int) (s : ByteArray) : Bool := decide ((k = 0 ∧ n = 0 ∧ s.toList = []) ∨ (k = 1 ∧ s.toList = []) ∨ (k = 2 ∧ n = 0 ∧ s.size ≤ 100))

theorem ret_bool {a b : Bool} (h : a = b) : Ending.returned (.bool a) = .returned (.bool b) := by rw [h]
/-- a value: kind, number, text -/
abbrev Val := Int × Int × ByteArray
def noV : Val := (0, 0, ⟨#[]⟩)
/-- a slice of values: what it reads as -/
def IsV (w : World) (a : Option Addr) (len : Nat) (vs : List Val) : Prop :=
  vs.length = len ∧ len ≤ 9223372036854775807 ∧ (len = 0 ∨ ∃ b off, a = some ⟨b, off, none⟩ ∧ b < w.heap.size ∧ ∀ i, i < len →
    w.cell? ⟨b, off + i * 3, none⟩ = some (.int .i64 (vs.getD i noV).1) ∧ w.cell? ⟨b, off + i * 3 + 1, none⟩ = some (.int .i64 (vs.getD i noV).2.1) ∧ w.cell? ⟨b, off + i * 3 + 2, none⟩ = some (.string (vs.getD i noV).2.2))

theorem IsV.below {w w' : World} {a : Option Addr} {len : Nat} {vs : List Val} (h : IsV w a len vs) (hb : RowKit.Below w.heap.size w w') : IsV w' a len vs := by
  obtain ⟨h1, h2, h3⟩ := h
  refine ⟨h1, h2, ?_⟩
  rcases h3 with h3 | ⟨b, off, rfl, hlt, hc⟩
  · exact .inl h3
  · refine .inr ⟨b, off, rfl, Nat.lt_of_lt_of_le hlt hb.size, fun i hi => ?_⟩
    rw [hb.cell (p := ⟨b, off + i * 3, none⟩) hlt, hb.cell (p := ⟨b, off + i * 3 + 1, none⟩) hlt, hb.cell (p := ⟨b, off + i * 3 + 2, none⟩) hlt]
    exact hc i hi

/-- a new row of m values, of which the first ones are written -/
def RowV (w : World) (e : TypeId) (g m : Nat) (vs : List Val) : Prop :=
  ∃ cur : Array Value, w.heap[g]? = some (.cells cur e (0, 0)) ∧ cur.size = m * 3 ∧ ∀ i, i < vs.length → cur[i * 3]? = some (.int .i64 (vs.getD i noV).1) ∧ cur[i * 3 + 1]? = some (.int .i64 (vs.getD i noV).2.1) ∧ cur[i * 3 + 2]? = some (.string (vs.getD i noV).2.2)
theorem RowV.lt {w : World} {e : TypeId} {g m : Nat} {vs : List Val} (h : RowV w e g m vs) : g < w.heap.size := by
  obtain ⟨cur, hg, _⟩ := h
  exact (Array.getElem?_eq_some_iff.1 hg).1
theorem RowV.below {w w' : World} {e : TypeId} {g m : Nat} {vs : List Val} (h : RowV w e g m vs) (hb : RowKit.Below w.heap.size w w') : RowV w' e g m vs := by
  have hlt := h.lt
  obtain ⟨cur, hg, h⟩ := h
  exact ⟨cur, (hb.block g hlt).trans hg, h⟩
theorem RowV.set {w : World} {e : TypeId} {g m j : Nat} {vs : List Val} (h : RowV w e g m vs) (hl : vs.length = j) (hj : j < m) (v : Val) :
    RowV (((w.setCell ⟨g, j * 3, none⟩ (.int .i64 v.1)).setCell ⟨g, j * 3 + 1, none⟩ (.int .i64 v.2.1)).setCell ⟨g, j * 3 + 2, none⟩ (.string v.2.2)) e g m (vs ++ [v]) := by
  obtain ⟨cur, hg, hs, h⟩ := h
  have h1 := heap_setCell_same w g (j * 3) cur e (.int .i64 v.1) hg
  have h2 := heap_setCell_same _ g (j * 3 + 1) _ e (.int .i64 v.2.1) h1
  have h3 := heap_setCell_same _ g (j * 3 + 2) _ e (.string v.2.2) h2
  refine ⟨_, h3, by simp [hs], fun i hi => ?_⟩
  simp only [List.length_append, List.length_cons, List.length_nil] at hi
  by_cases hij : i < vs.length
  · have e1 : (vs ++ [v]).getD i noV = vs.getD i noV := by
      rw [List.getD_eq_getElem?_getD, List.getD_eq_getElem?_getD, List.getElem?_append_left hij]
    obtain ⟨a, b, c⟩ := h i hij
    rw [e1]
    refine ⟨?_, ?_, ?_⟩ <;> (repeat rw [Array.getElem?_setIfInBounds_ne (by omega)]) <;> assumption
  · obtain rfl : i = j := by omega
    have e1 : (vs ++ [v]).getD i noV = v := by
      rw [List.getD_eq_getElem?_getD, List.getElem?_append_right (by omega)]
      simp [hl]
    rw [e1]
    refine ⟨?_, ?_, ?_⟩
    · rw [Array.getElem?_setIfInBounds_ne (by omega), Array.getElem?_setIfInBounds_ne (by omega), Array.getElem?_setIfInBounds_self_of_lt (by omega)]
    · rw [Array.getElem?_setIfInBounds_ne (by omega), Array.getElem?_setIfInBounds_self_of_lt (by simp; omega)]
    · rw [Array.getElem?_setIfInBounds_self_of_lt (by simp; omega)]
/-- the three cells of the k-th value -/
theorem IsV.at {w wr : World} {a : Option Addr} {len : Nat} {vs : List Val} (h : IsV w a len vs) (hb : RowKit.Below w.heap.size w wr) {k : Nat} (hk : k < len) :
    ∃ b off, a = some ⟨b, off, none⟩ ∧ b < w.heap.size ∧ wr.cell? ⟨b, off + k * 3, none⟩ = some (.int .i64 (vs.getD k noV).1) ∧ wr.cell? ⟨b, off + k * 3 + 1, none⟩ = some (.int .i64 (vs.getD k noV).2.1) ∧ wr.cell? ⟨b, off + k * 3 + 2, none⟩ = some (.string (vs.getD k noV).2.2) := by
  obtain ⟨_, _, h⟩ := h
  rcases h with h | ⟨b, off, rfl, hlt, hc⟩
  · omega
  · refine ⟨b, off, rfl, hlt, ?_⟩
    rw [hb.cell (p := ⟨b, off + k * 3, none⟩) hlt, hb.cell (p := ⟨b, off + k * 3 + 1, none⟩) hlt, hb.cell (p := ⟨b, off + k * 3 + 2, none⟩) hlt]
    exact hc k hk

/-- the three cells of a value's box -/
def Box (w : World) (b : Nat) (x : Val) : Prop := w.cell? ⟨b, 0, none⟩ = some (.int .i64 x.1) ∧ w.cell? ⟨b, 1, none⟩ = some (.int .i64 x.2.1) ∧ w.cell? ⟨b, 2, none⟩ = some (.string x.2.2)
theorem Box.grown {w w' : World} {b : Nat} {x : Val} {row : Option Nat} (h : Box w b x) (hg : w.grownBy w' row) (hne : some b ≠ row) : Box w' b x :=
  ⟨hg.cell h.1 hne, hg.cell h.2.1 hne, hg.cell h.2.2 hne⟩
theorem Box.below {w w' : World} {b : Nat} {x : Val} (h : Box w b x) (hb : RowKit.Below w.heap.size w w') : Box w' b x :=
  ⟨cell_later hb h.1, cell_later hb h.2.1, cell_later hb h.2.2⟩
end Go.Proofs.YtpinalpigefenaaGreatDoor
