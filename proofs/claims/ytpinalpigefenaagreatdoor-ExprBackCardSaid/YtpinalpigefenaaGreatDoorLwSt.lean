/- The lexer's reader at any text: its state; add. -/
import Derived.Test.YtpinalpigefenaaGreatDoorLxKey
import Derived.Test.YtpinalpigefenaaGreatDoorLwAgain
import Derived.Lib.OthersKept
import Derived.Deep.QuietTactic
import Derived.BigQuiet
import Derived.Deep.DeepCutAuto
import Derived.Laws.Externs
import Derived.Test.YtpinalpigefenaaGreatDoorProg
import Derived.Test.YtpinalpigefenaaGreatDoorAggIn
import Derived.Deep.Upon
import Derived.Deep.AppendSrc
import Derived.Laws.IdiomCopy
import Derived.Deep.AppendLies
import Derived.Deep.RegionLaw
import Derived.BigRegion
namespace Go.Proofs.YtpinalpigefenaaGreatDoor
open Go.RowKit
set_option linter.unusedVariables false
set_option linter.unusedSimpArgs false
set_option maxRecDepth 100000

/-- a reader in block N -/
structure LSt (s : ByteArray) (w : World) (N : Nat) (v : Value) (n : Nat) (xs : List Value) (st start : Int) : Prop where
  rd : w.heap[N]? = some (.cells #[.string s, v, .int .i64 st, .int .i64 start] 177 (0, 0))
  own : w.ownsRow (N + 1) 283 3 v n xs
theorem LSt.low {s : ByteArray} {w : World} {N : Nat} {v : Value} {n : Nat} {xs : List Value} {st start : Int} (h : LSt s w N v n xs st start) : N < w.heap.size := (Array.getElem?_eq_some_iff.1 h.rd).1
theorem LSt.facts {s : ByteArray} {w : World} {N : Nat} {v : Value} {n : Nat} {xs : List Value} {st start : Int} (h : LSt s w N v n xs st start) :
    (w.cell? ⟨N, 0, none⟩ = some (.string s) ∧ w.cell? ⟨N, 1, none⟩ = some v ∧ w.cell? ⟨N, 2, none⟩ = some (.int .i64 st) ∧ w.cell? ⟨N, 3, none⟩ = some (.int .i64 start)) ∧
    (∀ j, w.frozen? ⟨N, j, none⟩ = false) :=
  ⟨⟨cell_of_row _ _ 0 _ _ _ h.rd, cell_of_row _ _ 1 _ _ _ h.rd, cell_of_row _ _ 2 _ _ _ h.rd, cell_of_row _ _ 3 _ _ _ h.rd⟩, fun j => frozen_of_row _ _ j _ _ h.rd⟩
theorem LSt.below {s : ByteArray} {w w' : World} {N : Nat} {v : Value} {n : Nat} {xs : List Value} {st start : Int} (h : LSt s w N v n xs st start) (hb : Below w.heap.size w w') : LSt s w' N v n xs st start :=
  ⟨(hb.block _ h.low).trans h.rd, own_below h.own hb⟩
/-- what every call on a reader keeps: all below it, and each iterator -/
def Kp (N : Nat) (w w' : World) : Prop := Below N w w' ∧ ∀ (k : Nat) (s : ByteArray) (p : Nat), w.heap[k]? = some (Obj.stringIter s p) → w'.heap[k]? = some (Obj.stringIter s p)
theorem Kp.refl (N : Nat) (w : World) : Kp N w w := ⟨Below.refl _ _, fun _ _ _ h => h⟩
theorem Kp.trans {N : Nat} {a b c : World} (h : Kp N a b) (k : Kp N b c) : Kp N a c := ⟨h.1.trans k.1, fun i s p e => k.2 i s p (h.2 i s p e)⟩
theorem Kp.below {N : Nat} {w w' : World} (hN : N ≤ w.heap.size) (hb : Below w.heap.size w w') : Kp N w w' :=
  ⟨hb.mono hN, fun k s p e => (hb.block k (Array.getElem?_eq_some_iff.1 e).1).trans e⟩
theorem Kp.set {N : Nat} {w : World} {cs : Array Value} {T : TypeId} {fz : Nat × Nat} (h : w.heap[N]? = some (.cells cs T fz)) (j : Nat) (x : Value) : Kp N w (w.setCell ⟨N, j, none⟩ x) :=
  ⟨(Below.refl N w).setCell (Nat.le_refl _) _, fun k s p e => by
    rw [heap_setCell_other _ _ _ _ (fun e2 => by
      have e3 : k = N := e2
      rw [e3, h] at e; cases e)]
    exact e⟩
theorem own_setN {w : World} {N : Nat} {e : TypeId} {size : Nat} {v : Value} {n : Nat} {xs : List Value} (h : w.ownsRow (N + 1) e size v n xs) (j : Nat) (x : Value) : (w.setCell ⟨N, j, none⟩ x).ownsRow (N + 1) e size v n xs := by
  refine ⟨h.1, ?_⟩
  rcases h.2 with h0 | ⟨g, cap, cur, a, b, hg, r⟩
  · exact .inl h0
  · refine .inr ⟨g, cap, cur, a, b, ?_, r⟩
    rw [heap_setCell_other _ _ _ _ (by show g ≠ N; omega)]
    exact hg
theorem LSt.state {s : ByteArray} {w : World} {N : Nat} {v : Value} {n : Nat} {xs : List Value} {st start : Int} (h : LSt s w N v n xs st start) (x : Int) : LSt s (w.setCell ⟨N, 2, none⟩ (.int .i64 x)) N v n xs x start :=
  ⟨Go.heap_setCell_same w N 2 _ _ _ h.rd, own_setN h.own _ _⟩
theorem LSt.begin {s : ByteArray} {w : World} {N : Nat} {v : Value} {n : Nat} {xs : List Value} {st start : Int} (h : LSt s w N v n xs st start) (x : Int) : LSt s (w.setCell ⟨N, 3, none⟩ (.int .i64 x)) N v n xs st x :=
  ⟨Go.heap_setCell_same w N 3 _ _ _ h.rd, own_setN h.own _ _⟩

theorem infoW : (Tryz.prog.info? 283).map (fun i => (i.zero, i.size, i.bytes)) = some (some (.agg #[.int .i64 0, .string ⟨#[]⟩, .int .i64 0]), 3, 32) := by kernel_rfl
def wordX (k : Int) (s : ByteArray) (n : Int) : List Value := [.int .i64 k, .string s, .int .i64 n]
section
variable {W : World} {ops : Array Oper} {rest : List Oper} {o : Oper} {a : Act} {K : Act → World → Prop} {Q : Exit → Act → World → Prop} {E : Prop}

theorem wp_word (s x : Operand) (ho : o.op = .call { callee := .builtin .append, args := #[s, x], argTypes := #[98, 98] })
    (B : Nat) (v : Value) (n : Nat) (xs : List Value) (b : Nat) (k : Int) (t : ByteArray) (m : Int) (hs : a.eval s = v) (hx : a.eval x = .slice (some ⟨b, 0, none⟩) 1 1)
    (hown : W.ownsRow B 283 3 v n xs) (hc : W.cell? ⟨b, 0, none⟩ = some (.int .i64 k) ∧ W.cell? ⟨b, 1, none⟩ = some (.string t) ∧ W.cell? ⟨b, 2, none⟩ = some (.int .i64 m)) (hlen : n ≤ 4398046511000) (hbase : B ≤ W.heap.size)
    (h : ∀ g cap w', w'.ownsRow B 283 3 (.slice (some ⟨g, 0, none⟩) (n + 1) cap) (n + 1) (xs ++ wordX k t m) → W.grownBy w' v.ownBlock → (v.ownBlock = some g ∨ g = W.heap.size) → g < w'.heap.size → K (a.put o.dst (.slice (some ⟨g, 0, none⟩) (n + 1) cap)) w') :
    o.wp Tryz.prog a W K Q := by
  obtain ⟨i0, hi, hz0, hz1, hz2⟩ := info_parts infoW
  refine wp_append_lies W s x 98 ho B 283 i0 (.agg #[.int .i64 0, .string ⟨#[]⟩, .int .i64 0]) 3 32 Tryz.underlying98 hi hz0 hz1 hz2 rfl (by decide) v n _ hs hown ⟨b, 0, none⟩ 1 1 (wordX k t m) hx rfl ?_ ?_ (by omega) (by unfold maxLen; omega) (by omega) hbase _ rfl ?_
  · intro j u hu
    match j, hu with
    | 0, hu => simp [wordX] at hu; subst hu; exact hc.1
    | 1, hu => simp [wordX] at hu; subst hu; exact hc.2.1
    | 2, hu => simp [wordX] at hu; subst hu; exact hc.2.2
    | j + 3, hu => simp [wordX] at hu
  · intro u hu; simp [wordX] at hu; rcases hu with rfl | rfl | rfl <;> rfl
  · intro g cap w' h1 h2 h3 h4
    exact h g cap w' h1 h2 h3 h4
theorem step_word (hgd : o.guard = none) (s x : Operand) (ho : o.op = .call { callee := .builtin .append, args := #[s, x], argTypes := #[98, 98] })
    (B : Nat) (v : Value) (n : Nat) (xs : List Value) (b : Nat) (k : Int) (t : ByteArray) (m : Int) (hs : a.eval s = v) (hx : a.eval x = .slice (some ⟨b, 0, none⟩) 1 1)
    (hown : W.ownsRow B 283 3 v n xs) (hc : W.cell? ⟨b, 0, none⟩ = some (.int .i64 k) ∧ W.cell? ⟨b, 1, none⟩ = some (.string t) ∧ W.cell? ⟨b, 2, none⟩ = some (.int .i64 m)) (hlen : n ≤ 4398046511000) (hbase : B ≤ W.heap.size)
    (h : ∀ g cap w', w'.ownsRow B 283 3 (.slice (some ⟨g, 0, none⟩) (n + 1) cap) (n + 1) (xs ++ wordX k t m) → W.grownBy w' v.ownBlock → (v.ownBlock = some g ∨ g = W.heap.size) → g < w'.heap.size → K (a.put o.dst (.slice (some ⟨g, 0, none⟩) (n + 1) cap)) w') :
    if Region.wanted o (yielded ops a.tmps) = true then Oper.wp Tryz.prog o a W K Q else E := by
  have hw : Region.wanted o (yielded ops a.tmps) = true := by simp [Region.wanted, hgd]
  rw [if_pos hw]
  exact wp_word s x ho B v n xs b k t m hs hx hown hc hlen hbase h
end

/-- a word more -/
def LMore (s : ByteArray) (w : World) (N : Nat) (n : Nat) (xs : List Value) (st start : Int) (e : Ending) (w' : World) : Prop :=
  e = .returned (.int .i64 0) ∧ ∃ v', LSt s w' N v' n xs st start ∧ Kp N w w'
theorem own_slice3 {w : World} {B n size : Nat} {e : TypeId} {v : Value} {xs : List Value} (h : w.ownsRow B e size v n xs) : ∃ a c, v = .slice a n c := by
  rcases h.2 with ⟨rfl, h0⟩ | ⟨g, cap, cur, rfl, _⟩
  · exact ⟨none, 0, by rw [h0]⟩
  · exact ⟨_, _, rfl⟩
/-- behind an append the reader's block and the iterators are as they were -/
theorem LSt.grown {s : ByteArray} {w w' : World} {N : Nat} {v : Value} {n : Nat} {xs : List Value} {st start : Int} (h : LSt s w N v n xs st start) (hg : w.grownBy w' v.ownBlock) :
    w'.heap[N]? = some (.cells #[.string s, v, .int .i64 st, .int .i64 start] 177 (0, 0)) ∧ Kp N w w' := by
  refine ⟨(hg.block N h.low (fun e => by
    rcases h.own.2 with ⟨rfl, _⟩ | ⟨g, cap, cur, rfl, hb, _⟩
    · cases e
    · have : g = N := by simpa [Value.ownBlock] using e.symm
      omega)).trans h.rd, (Below.refl N w).grown hg (Nat.le_of_lt h.low) (fun k hk => by have := (h.own.lt k hk).1; omega), fun k s p e => (hg.block k (Array.getElem?_eq_some_iff.1 e).1 (fun e2 => ?_)).trans e⟩
  rcases h.own.2 with ⟨rfl, _⟩ | ⟨g, cap, cur, rfl, hb, hgg, _⟩
  · cases e2
  · simp only [Value.ownBlock, Option.some.injEq] at e2
    subst e2
    rw [e] at hgg; cases hgg
/-- a row of words is stored in the reader -/
theorem LSt.words {s : ByteArray} {w : World} {N : Nat} {v v' : Value} {m : Nat} {xs : List Value} {st start : Int} (h : w.heap[N]? = some (.cells #[.string s, v, .int .i64 st, .int .i64 start] 177 (0, 0))) (ho : w.ownsRow (N + 1) 283 3 v' m xs) :
    LSt s (w.setCell ⟨N, 1, none⟩ v') N v' m xs st start ∧ Kp N w (w.setCell ⟨N, 1, none⟩ v') :=
  ⟨⟨Go.heap_setCell_same w N 1 _ _ _ h, own_setN ho _ _⟩, Kp.set h _ _⟩

set_option maxHeartbeats 6400000 in
theorem ladd_any (s : ByteArray) (w : World) (N : Nat) (v : Value) (n : Nat) (xs : List Value) (st start : Int) (k : Int) (t : ByteArray) (m : Int) (h : LSt s w N v n xs st start) (hn : n < 600) :
    Calls Tryz.prog 173 #[.pointer (some ⟨N, 0, none⟩), .agg #[.int .i64 k, .string t, .int .i64 m]] w (LMore s w N (n + 1) (xs ++ wordX k t m) st start) := by
  obtain ⟨a, c, rfl⟩ := own_slice3 h.own
  have hni : (n : Int) < 600 := by omega
  have hnb : ((n : Int) == 600) = false := by rw [beq_eq_false_iff_ne]; omega
  have hb1 := bel0 (.cells #[.int .i64 k, .string t, .int .i64 m] 283) (Below.refl w.heap.size w)
  obtain ⟨w1, hw1⟩ : ∃ w1, w1 = w.alloc (.cells #[.int .i64 k, .string t, .int .i64 m] 283) := ⟨_, rfl⟩
  have hnew : w1.heap[w.heap.size]? = some (.cells #[.int .i64 k, .string t, .int .i64 m] 283 (0, 0)) := by rw [hw1]; exact Go.heap_alloc_new w _
  rw [← hw1] at hb1
  have HW := Lib.hid hw1
  have H1 := Lib.hid (h.below hb1)
  have HK1 := Lib.hid (Kp.below (Nat.le_of_lt h.low) hb1)
  have HNew := Lib.hid hnew
  have HNn := Lib.hid (show n ≤ 600 by omega)
  have hlt := H1.out.low
  have hlt2 : w.heap.size < w1.heap.size := (Array.getElem?_eq_some_iff.1 hnew).1
  clear h hn hb1 hw1 hnew
  go_enter Tryz.func173, Tryz.ntmps173
  obtain ⟨⟨f0, f1, f2, f3⟩, fz⟩ := H1.out.facts
  have c0 := cell_of_row _ _ 0 _ _ _ HNew.out
  have c1 := cell_of_row _ _ 1 _ _ _ HNew.out
  have c2 := cell_of_row _ _ 2 _ _ _ HNew.out
  simp only [List.getElem?_toArray, List.getElem?_cons_zero, List.getElem?_cons_succ] at c0 c1 c2
  go_upto_region 1 with (fail)
  rw [← HW.out]
  go_upto_region 3 with (fail)
  have HG := Lib.hid (fun (W w' : World) (hb : Below w1.heap.size w1 W) (hg : W.grownBy w' (Value.slice a n c).ownBlock) => (H1.out.below hb).grown hg)
  go_region_law ((refine step_word rfl (.tmp 15) (.tmp 17) rfl (N + 1) (.slice a n c) n xs w1.heap.size k t m rfl rfl (H1.out.below (by repeat (first | exact Below.refl _ _ | refine bel0 _ ?_ | refine Below.drew ?_))).own (by exact ⟨by simp [go_sem], by simp [go_sem], by simp [go_sem]⟩) (by have := HNn.out; omega) (by have := H1.out.low; simp; omega) ?_; intro g c' w' hown hgrow hor hgl; obtain ⟨hrd, hkp⟩ := HG.out _ w' (by repeat (first | exact Below.refl _ _ | refine bel0 _ ?_ | refine Below.drew ?_)) hgrow; have HR := Lib.hid hrd; have HO := Lib.hid hown; have HKp := Lib.hid ((HK1.out.trans (Kp.below (Nat.le_of_lt H1.out.low) (by repeat (first | exact Below.refl _ _ | refine bel0 _ ?_ | refine Below.drew ?_)))).trans hkp); have d1 := cell_of_row _ _ 1 _ _ _ hrd; have d2 := frozen_of_row _ _ 1 _ _ hrd; have d3 := (Array.getElem?_eq_some_iff.1 hrd).1; clear hown hgrow hor hgl hrd hkp))
  all_goals
    have HE := Lib.hid (LSt.words HR.out HO.out)
    go_wp2
    go_ret
    exact ⟨rfl, _, HE.out.1, HKp.out.trans HE.out.2⟩
end Go.Proofs.YtpinalpigefenaaGreatDoor
