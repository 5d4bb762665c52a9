/- The lexer's goesOn, begin: any state, any rune. -/
import Derived.Test.YtknhphcfcpjhiaaGreatDoorLxKey
import Derived.Test.YtknhphcfcpjhiaaGreatDoorLwAgain
import Derived.Lib.OthersKept
import Derived.Deep.QuietTactic
import Derived.BigQuiet
import Derived.Deep.DeepCutAuto
import Derived.Laws.Externs
import Derived.Test.YtknhphcfcpjhiaaGreatDoorProg
import Derived.Test.YtknhphcfcpjhiaaGreatDoorLwPure
import Derived.Deep.Upon
import Derived.Deep.AppendSrc
import Derived.Laws.IdiomCopy
import Derived.Deep.AppendLies
import Derived.Deep.RegionLaw
import Derived.BigRegion
namespace Go.Proofs.YtknhphcfcpjhiaaGreatDoor
open Go.RowKit
set_option linter.unusedVariables false
set_option linter.unusedSimpArgs false
set_option maxRecDepth 100000

/-- a reader in block N -/
structure LSt (s : ByteArray) (w : World) (N : Nat) (v : Value) (n : Nat) (xs : List Value) (st start : Int) : Prop where
  rd : w.heap[N]? = some (.cells #[.string s, v, .int .i64 st, .int .i64 start] 104 (0, 0))
  own : w.ownsRow (N + 1) 157 3 v n xs
theorem LSt.low {s : ByteArray} {w : World} {N : Nat} {v : Value} {n : Nat} {xs : List Value} {st start : Int} (h : LSt s w N v n xs st start) : N < w.heap.size := (Array.getElem?_eq_some_iff.1 h.rd).1
theorem LSt.facts {s : ByteArray} {w : World} {N : Nat} {v : Value} {n : Nat} {xs : List Value} {st start : Int} (h : LSt s w N v n xs st start) :
    (w.cell? ⟨N, 0, none⟩ = some (.string s) ∧ w.cell? ⟨N, 1, none⟩ = some v ∧ w.cell? ⟨N, 2, none⟩ = some (.int .i64 st) ∧ w.cell? ⟨N, 3, none⟩ = some (.int .i64 start)) ∧
    (∀ j, w.frozen? ⟨N, j, none⟩ = false) :=
  ⟨⟨cell_of_row _ _ 0 _ _ _ h.rd, cell_of_row _ _ 1 _ _ _ h.rd, cell_of_row _ _ 2 _ _ _ h.rd, cell_of_row _ _ 3 _ _ _ h.rd⟩, fun j => frozen_of_row _ _ j _ _ h.rd⟩
theorem LSt.below {s : ByteArray} {w w' : World} {N : Nat} {v : Value} {n : Nat} {xs : List Value} {st start : Int} (h : LSt s w N v n xs st start) (hb : Below w.heap.size w w') : LSt s w' N v n xs st start :=
  ⟨(hb.block _ h.low).trans h.rd, own_below h.own hb⟩
/-- what every call on a reader keeps: all below it, and each iterator -/
def Kp (N : Nat) (w w' : World) : Prop := Below N w w' ∧ ∀ (k : Nat) (s : ByteArray) (p : Nat), w.heap[k]? = some (Obj.stringIter s p) → w'.heap[k]? = some (Obj.stringIter s p)
theorem Kp.refl (N : Nat) (w : World) : Kp N w w := ⟨Below.refl _ _, fun _ _ _ h => h⟩
theorem Kp.trans {N : Nat} {a b c : World} (h : Kp N a b) (k : Kp N b c) : Kp N a c := ⟨h.1.trans k.1, fun i s p e => k.2 i s p (h.2 i s p e)⟩
theorem Kp.below {N : Nat} {w w' : World} (hN : N ≤ w.heap.size) (hb : Below w.heap.size w w') : Kp N w w' :=
  ⟨hb.mono hN, fun k s p e => (hb.block k (Array.getElem?_eq_some_iff.1 e).1).trans e⟩
theorem Kp.set {N : Nat} {w : World} {cs : Array Value} {T : TypeId} {fz : Nat × Nat} (h : w.heap[N]? = some (.cells cs T fz)) (j : Nat) (x : Value) : Kp N w (w.setCell ⟨N, j, none⟩ x) :=
  ⟨(Below.refl N w).setCell (Nat.le_refl _) _, fun k s p e => by
    rw [heap_setCell_other _ _ _ _ (fun e2 => by
      have e3 : k = N := e2
      rw [e3, h] at e; cases e)]
    exact e⟩
theorem own_setN {w : World} {N : Nat} {e : TypeId} {size : Nat} {v : Value} {n : Nat} {xs : List Value} (h : w.ownsRow (N + 1) e size v n xs) (j : Nat) (x : Value) : (w.setCell ⟨N, j, none⟩ x).ownsRow (N + 1) e size v n xs := by
  refine ⟨h.1, ?_⟩
  rcases h.2 with h0 | ⟨g, cap, cur, a, b, hg, r⟩
  · exact .inl h0
  · refine .inr ⟨g, cap, cur, a, b, ?_, r⟩
    rw [heap_setCell_other _ _ _ _ (by show g ≠ N; omega)]
    exact hg
theorem LSt.state {s : ByteArray} {w : World} {N : Nat} {v : Value} {n : Nat} {xs : List Value} {st start : Int} (h : LSt s w N v n xs st start) (x : Int) : LSt s (w.setCell ⟨N, 2, none⟩ (.int .i64 x)) N v n xs x start :=
  ⟨Go.heap_setCell_same w N 2 _ _ _ h.rd, own_setN h.own _ _⟩
theorem LSt.begin {s : ByteArray} {w : World} {N : Nat} {v : Value} {n : Nat} {xs : List Value} {st start : Int} (h : LSt s w N v n xs st start) (x : Int) : LSt s (w.setCell ⟨N, 3, none⟩ (.int .i64 x)) N v n xs st x :=
  ⟨Go.heap_setCell_same w N 3 _ _ _ h.rd, own_setN h.own _ _⟩

theorem infoW : (Tryz.prog.info? 157).map (fun i => (i.zero, i.size, i.bytes)) = some (some (.agg #[.int .i64 0, .string ⟨#[]⟩, .int .i64 0]), 3, 32) := by kernel_rfl
def wordX (k : Int) (s : ByteArray) (n : Int) : List Value := [.int .i64 k, .string s, .int .i64 n]
section
variable {W : World} {ops : Array Oper} {rest : List Oper} {o : Oper} {a : Act} {K : Act → World → Prop} {Q : Exit → Act → World → Prop} {E : Prop}

theorem wp_word (s x : Operand) (ho : o.op = .call { callee := .builtin .append, args := #[s, x], argTypes := #[71, 71] })
    (B : Nat) (v : Value) (n : Nat) (xs : List Value) (b : Nat) (k : Int) (t : ByteArray) (m : Int) (hs : a.eval s = v) (hx : a.eval x = .slice (some ⟨b, 0, none⟩) 1 1)
    (hown : W.ownsRow B 157 3 v n xs) (hc : W.cell? ⟨b, 0, none⟩ = some (.int .i64 k) ∧ W.cell? ⟨b, 1, none⟩ = some (.string t) ∧ W.cell? ⟨b, 2, none⟩ = some (.int .i64 m)) (hlen : n ≤ 4398046511000) (hbase : B ≤ W.heap.size)
    (h : ∀ g cap w', w'.ownsRow B 157 3 (.slice (some ⟨g, 0, none⟩) (n + 1) cap) (n + 1) (xs ++ wordX k t m) → W.grownBy w' v.ownBlock → (v.ownBlock = some g ∨ g = W.heap.size) → g < w'.heap.size → K (a.put o.dst (.slice (some ⟨g, 0, none⟩) (n + 1) cap)) w') :
    o.wp Tryz.prog a W K Q := by
  obtain ⟨i0, hi, hz0, hz1, hz2⟩ := info_parts infoW
  refine wp_append_lies W s x 71 ho B 157 i0 (.agg #[.int .i64 0, .string ⟨#[]⟩, .int .i64 0]) 3 32 Tryz.underlying71 hi hz0 hz1 hz2 rfl (by decide) v n _ hs hown ⟨b, 0, none⟩ 1 1 (wordX k t m) hx rfl ?_ ?_ (by omega) (by unfold maxLen; omega) (by omega) hbase _ rfl ?_
  · intro j u hu
    match j, hu with
    | 0, hu => simp [wordX] at hu; subst hu; exact hc.1
    | 1, hu => simp [wordX] at hu; subst hu; exact hc.2.1
    | 2, hu => simp [wordX] at hu; subst hu; exact hc.2.2
    | j + 3, hu => simp [wordX] at hu
  · intro u hu; simp [wordX] at hu; rcases hu with rfl | rfl | rfl <;> rfl
  · intro g cap w' h1 h2 h3 h4
    exact h g cap w' h1 h2 h3 h4
theorem step_word (hgd : o.guard = none) (s x : Operand) (ho : o.op = .call { callee := .builtin .append, args := #[s, x], argTypes := #[71, 71] })
    (B : Nat) (v : Value) (n : Nat) (xs : List Value) (b : Nat) (k : Int) (t : ByteArray) (m : Int) (hs : a.eval s = v) (hx : a.eval x = .slice (some ⟨b, 0, none⟩) 1 1)
    (hown : W.ownsRow B 157 3 v n xs) (hc : W.cell? ⟨b, 0, none⟩ = some (.int .i64 k) ∧ W.cell? ⟨b, 1, none⟩ = some (.string t) ∧ W.cell? ⟨b, 2, none⟩ = some (.int .i64 m)) (hlen : n ≤ 4398046511000) (hbase : B ≤ W.heap.size)
    (h : ∀ g cap w', w'.ownsRow B 157 3 (.slice (some ⟨g, 0, none⟩) (n + 1) cap) (n + 1) (xs ++ wordX k t m) → W.grownBy w' v.ownBlock → (v.ownBlock = some g ∨ g = W.heap.size) → g < w'.heap.size → K (a.put o.dst (.slice (some ⟨g, 0, none⟩) (n + 1) cap)) w') :
    if Region.wanted o (yielded ops a.tmps) = true then Oper.wp Tryz.prog o a W K Q else E := by
  have hw : Region.wanted o (yielded ops a.tmps) = true := by simp [Region.wanted, hgd]
  rw [if_pos hw]
  exact wp_word s x ho B v n xs b k t m hs hx hown hc hlen hbase h
end

/-- a word more -/
def LMore (s : ByteArray) (w : World) (N : Nat) (n : Nat) (xs : List Value) (st start : Int) (e : Ending) (w' : World) : Prop :=
  e = .returned (.int .i64 0) ∧ ∃ v', LSt s w' N v' n xs st start ∧ Kp N w w'
theorem own_slice3 {w : World} {B n size : Nat} {e : TypeId} {v : Value} {xs : List Value} (h : w.ownsRow B e size v n xs) : ∃ a c, v = .slice a n c := by
  rcases h.2 with ⟨rfl, h0⟩ | ⟨g, cap, cur, rfl, _⟩
  · exact ⟨none, 0, by rw [h0]⟩
  · exact ⟨_, _, rfl⟩
/-- behind an append the reader's block and the iterators are as they were -/
theorem LSt.grown {s : ByteArray} {w w' : World} {N : Nat} {v : Value} {n : Nat} {xs : List Value} {st start : Int} (h : LSt s w N v n xs st start) (hg : w.grownBy w' v.ownBlock) :
    w'.heap[N]? = some (.cells #[.string s, v, .int .i64 st, .int .i64 start] 104 (0, 0)) ∧ Kp N w w' := by
  refine ⟨(hg.block N h.low (fun e => by
    rcases h.own.2 with ⟨rfl, _⟩ | ⟨g, cap, cur, rfl, hb, _⟩
    · cases e
    · have : g = N := by simpa [Value.ownBlock] using e.symm
      omega)).trans h.rd, (Below.refl N w).grown hg (Nat.le_of_lt h.low) (fun k hk => by have := (h.own.lt k hk).1; omega), fun k s p e => (hg.block k (Array.getElem?_eq_some_iff.1 e).1 (fun e2 => ?_)).trans e⟩
  rcases h.own.2 with ⟨rfl, _⟩ | ⟨g, cap, cur, rfl, hb, hgg, _⟩
  · cases e2
  · simp only [Value.ownBlock, Option.some.injEq] at e2
    subst e2
    rw [e] at hgg; cases hgg
/-- a row of words is stored in the reader -/
theorem LSt.words {s : ByteArray} {w : World} {N : Nat} {v v' : Value} {m : Nat} {xs : List Value} {st start : Int} (h : w.heap[N]? = some (.cells #[.string s, v, .int .i64 st, .int .i64 start] 104 (0, 0))) (ho : w.ownsRow (N + 1) 157 3 v' m xs) :
    LSt s (w.setCell ⟨N, 1, none⟩ v') N v' m xs st start ∧ Kp N w (w.setCell ⟨N, 1, none⟩ v') :=
  ⟨⟨Go.heap_setCell_same w N 1 _ _ _ h, own_setN ho _ _⟩, Kp.set h _ _⟩

set_option maxHeartbeats 6400000 in
theorem ladd_any (s : ByteArray) (w : World) (N : Nat) (v : Value) (n : Nat) (xs : List Value) (st start : Int) (k : Int) (t : ByteArray) (m : Int) (h : LSt s w N v n xs st start) (hn : n < 600) :
    Calls Tryz.prog 98 #[.pointer (some ⟨N, 0, none⟩), .agg #[.int .i64 k, .string t, .int .i64 m]] w (LMore s w N (n + 1) (xs ++ wordX k t m) st start) := by
  obtain ⟨a, c, rfl⟩ := own_slice3 h.own
  have hni : (n : Int) < 600 := by omega
  have hnb : ((n : Int) == 600) = false := by rw [beq_eq_false_iff_ne]; omega
  have hb1 := bel0 (.cells #[.int .i64 k, .string t, .int .i64 m] 157) (Below.refl w.heap.size w)
  obtain ⟨w1, hw1⟩ : ∃ w1, w1 = w.alloc (.cells #[.int .i64 k, .string t, .int .i64 m] 157) := ⟨_, rfl⟩
  have hnew : w1.heap[w.heap.size]? = some (.cells #[.int .i64 k, .string t, .int .i64 m] 157 (0, 0)) := by rw [hw1]; exact Go.heap_alloc_new w _
  rw [← hw1] at hb1
  have HW := Lib.hid hw1
  have H1 := Lib.hid (h.below hb1)
  have HK1 := Lib.hid (Kp.below (Nat.le_of_lt h.low) hb1)
  have HNew := Lib.hid hnew
  have HNn := Lib.hid (show n ≤ 600 by omega)
  have hlt := H1.out.low
  have hlt2 : w.heap.size < w1.heap.size := (Array.getElem?_eq_some_iff.1 hnew).1
  clear h hn hb1 hw1 hnew
  go_enter Tryz.func98, Tryz.ntmps98
  obtain ⟨⟨f0, f1, f2, f3⟩, fz⟩ := H1.out.facts
  have c0 := cell_of_row _ _ 0 _ _ _ HNew.out
  have c1 := cell_of_row _ _ 1 _ _ _ HNew.out
  have c2 := cell_of_row _ _ 2 _ _ _ HNew.out
  simp only [List.getElem?_toArray, List.getElem?_cons_zero, List.getElem?_cons_succ] at c0 c1 c2
  go_upto_region 1 with (fail)
  rw [← HW.out]
  go_upto_region 3 with (fail)
  have HG := Lib.hid (fun (W w' : World) (hb : Below w1.heap.size w1 W) (hg : W.grownBy w' (Value.slice a n c).ownBlock) => (H1.out.below hb).grown hg)
  go_region_law ((refine step_word rfl (.tmp 15) (.tmp 17) rfl (N + 1) (.slice a n c) n xs w1.heap.size k t m rfl rfl (H1.out.below (by repeat (first | exact Below.refl _ _ | refine bel0 _ ?_ | refine Below.drew ?_))).own (by exact ⟨by simp [go_sem], by simp [go_sem], by simp [go_sem]⟩) (by have := HNn.out; omega) (by have := H1.out.low; simp; omega) ?_; intro g c' w' hown hgrow hor hgl; obtain ⟨hrd, hkp⟩ := HG.out _ w' (by repeat (first | exact Below.refl _ _ | refine bel0 _ ?_ | refine Below.drew ?_)) hgrow; have HR := Lib.hid hrd; have HO := Lib.hid hown; have HKp := Lib.hid ((HK1.out.trans (Kp.below (Nat.le_of_lt H1.out.low) (by repeat (first | exact Below.refl _ _ | refine bel0 _ ?_ | refine Below.drew ?_)))).trans hkp); have d1 := cell_of_row _ _ 1 _ _ _ hrd; have d2 := frozen_of_row _ _ 1 _ _ hrd; have d3 := (Array.getElem?_eq_some_iff.1 hrd).1; clear hown hgrow hor hgl hrd hkp))
  all_goals
    have HE := Lib.hid (LSt.words HR.out HO.out)
    go_wp2
    go_ret
    exact ⟨rfl, _, HE.out.1, HKp.out.trans HE.out.2⟩
end Go.Proofs.YtknhphcfcpjhiaaGreatDoor
namespace Go.Proofs.YtknhphcfcpjhiaaGreatDoor
open Go.RowKit
set_option linter.unusedVariables false
set_option linter.unusedSimpArgs false
set_option maxRecDepth 100000

theorem natInt (c k : Nat) : ((c : Int) == (k : Int)) = (c == k) := by
  rw [Bool.eq_iff_iff]
  simp only [beq_iff_eq]
  omega
theorem pair_any (s : ByteArray) (c : Nat) (w : World) : Calls Tryz.prog 140 #[.string s, .int .i32 (c : Int)] w fun e w' => e = .returned (.bool (pairL s.data.toList c)) ∧ w' = w := by
  obtain ⟨b1, h1⟩ : ∃ b, (s.toList == [60]) = b := ⟨_, rfl⟩
  obtain ⟨b2, h2⟩ : ∃ b, (s.toList == [62]) = b := ⟨_, rfl⟩
  obtain ⟨b3, h3⟩ : ∃ b, ((c : Int) == 61) = b := ⟨_, rfl⟩
  obtain ⟨b4, h4⟩ : ∃ b, ((c : Int) == 62) = b := ⟨_, rfl⟩
  have HP := Lib.hid (show pairL s.data.toList c = ((b1 && (b3 || b4)) || (b2 && b3)) by
    unfold pairL
    rw [← h1, ← h2, ← h3, ← h4, ByteArray.toList_eq, show ((c : Int) == 61) = (c == 61) from natInt c 61, show ((c : Int) == 62) = (c == 62) from natInt c 62])
  rw [HP.out]
  clear HP
  cases b1 <;> cases b2 <;> cases b3 <;> cases b4 <;> (
    go_enter Tryz.func140, Tryz.ntmps140
    go_wp2
    go_ret
    exact ⟨rfl, rfl⟩)
/-- what a reader has open -/
def curOf (s : ByteArray) (start pos : Nat) : Bs := (s.data.toList.take pos).drop start
theorem curOf_extract (s : ByteArray) (start pos : Nat) : (s.extract start pos).data.toList = curOf s start pos := by
  unfold curOf
  rw [Lib.extract_data, List.drop_take]
/-- what goesOn answers and leaves -/
def GoesP (s : ByteArray) (w : World) (N : Nat) (v : Value) (n : Nat) (xs : List Value) (md start : Nat) (o : Option Nat) (e : Ending) (w' : World) : Prop :=
  e = .returned (.bool o.isSome) ∧ LSt s w' N v n xs ((o.getD md : Nat) : Int) start ∧ Kp N w w'
theorem GoesP.stay {s : ByteArray} {w w' : World} {N : Nat} {v : Value} {n : Nat} {xs : List Value} {md start : Nat} {o : Option Nat} (h : LSt s w N v n xs md start) (ho : o.getD md = md) (hb : Below w.heap.size w w') {b : Bool} (hbo : o.isSome = b) : GoesP s w N v n xs md start o (.returned (.bool b)) w' :=
  ⟨by rw [hbo], by rw [ho]; exact h.below hb, Kp.below (Nat.le_of_lt h.low) hb⟩
theorem run_slice_text (s : ByteArray) (a b : Nat) (h1 : a ≤ b) (h2 : b ≤ s.size) (W : World) : (Instr.slice 9 (.string s) (some (.int .i64 (a : Int))) (some (.int .i64 (b : Int))) none).run Tryz.prog W = .ok (.string (s.extract a b)) W := by
  have := run_slice_string (P := Tryz.prog) W 9 s .i64 .i64 (a : Int) (b : Int) Tryz.underlying9 (by omega) (by omega) (by omega)
  simpa using this
theorem LSt.drew {s : ByteArray} {w : World} {N : Nat} {v : Value} {n : Nat} {xs : List Value} {st start : Int} (h : LSt s w N v n xs st start) (k : Nat) : LSt s (w.drewN k) N v n xs st start := ⟨h.rd, h.own⟩
theorem drewB (w : World) (k : Nat) : Below w.heap.size w (w.drewN k) := ⟨rfl, rfl, rfl, Nat.le_refl _, fun _ _ => rfl⟩
theorem LSt.stateN {s : ByteArray} {w : World} {N : Nat} {v : Value} {n : Nat} {xs : List Value} {st start : Int} (h : LSt s w N v n xs st start) (x : Int) : LSt s (w.setCell ⟨N, 2, none⟩ (.int .i64 x)) N v n xs x start ∧ Kp N w (w.setCell ⟨N, 2, none⟩ (.int .i64 x)) := ⟨h.state x, Kp.set h.rd _ _⟩
set_option maxHeartbeats 6400000 in
theorem goes_any (s : ByteArray) (w : World) (N : Nat) (v : Value) (n : Nat) (xs : List Value) (md start pos c : Nat) (h : LSt s w N v n xs md start) (hmd : md ≤ 6) (h1 : start ≤ pos) (h2 : pos ≤ s.size) :
    Calls Tryz.prog 95 #[.pointer (some ⟨N, 0, none⟩), .int .i64 (pos : Int), .int .i32 (c : Int)] w (GoesP s w N v n xs md start (goes md (curOf s start pos) c)) := by
  have HH := Lib.hid h
  have HB0 := Lib.hid (Below.refl w.heap.size w)
  rcases (show md = 0 ∨ md = 1 ∨ md = 2 ∨ md = 3 ∨ md = 4 ∨ md = 5 ∨ md = 6 by omega) with rfl | rfl | rfl | rfl | rfl | rfl | rfl
  · obtain ⟨⟨f0, f1, f2, f3⟩, fz⟩ := h.facts
    have f2 : w.cell? ⟨N, 2, none⟩ = some (.int .i64 0) := f2
    clear h
    go_enter Tryz.func95, Tryz.ntmps95
    go_wp2
    go_ret
    exact GoesP.stay HH.out rfl HB0.out rfl
  · obtain ⟨⟨f0, f1, f2, f3⟩, fz⟩ := h.facts
    have f2 : w.cell? ⟨N, 2, none⟩ = some (.int .i64 1) := f2
    have hg : ∀ b1 b2, letZ (c : Int) = b1 → digZ (c : Int) = b2 → goes 1 (curOf s start pos) c = if (b1 || b2) = true then some 1 else none := fun b1 b2 e1 e2 => by
      subst e1 e2; rfl
    have HGG := Lib.hid hg
    clear h hg
    go_enter Tryz.func95, Tryz.ntmps95
    go_wp2_with fail
    refine (letter_any _ _).mono ?_
    rintro e w1 ⟨rfl, hw⟩
    subst hw
    cases hl : letZ (c : Int) with
    | true =>
      have HG := Lib.hid (HGG.out true (digZ (c : Int)) hl rfl)
      clear hl
      go_wp2
      go_ret
      rw [HG.out]
      exact GoesP.stay HH.out rfl HB0.out rfl
    | false =>
      have HG := Lib.hid (fun b2 e => HGG.out false b2 hl e)
      clear hl
      go_wp2_with fail
      refine (digit_any _ _).mono ?_
      rintro e w1 ⟨rfl, hw⟩
      subst hw
      cases hd : digZ (c : Int) with
      | true =>
        have HG := Lib.hid (HG.out true hd)
        clear hd
        go_wp2
        go_ret
        rw [HG.out]
        exact GoesP.stay HH.out rfl HB0.out rfl
      | false =>
        have HG := Lib.hid (HG.out false hd)
        clear hd
        go_wp2
        go_ret
        rw [HG.out]
        exact GoesP.stay HH.out rfl HB0.out rfl
  · obtain ⟨⟨f0, f1, f2, f3⟩, fz⟩ := h.facts
    have f2 : w.cell? ⟨N, 2, none⟩ = some (.int .i64 2) := f2
    have hg : ∀ b2, digZ (c : Int) = b2 → goes 2 (curOf s start pos) c = if b2 = true then some 2 else none := fun b2 e2 => by
      subst e2; rfl
    have HGG := Lib.hid hg
    clear h hg
    go_enter Tryz.func95, Tryz.ntmps95
    go_wp2_with fail
    refine (digit_any _ _).mono ?_
    rintro e w1 ⟨rfl, hw⟩
    subst hw
    cases hd : digZ (c : Int) with
    | true =>
      have HG := Lib.hid (HGG.out true hd)
      clear hd
      go_wp2
      go_ret
      rw [HG.out]
      exact GoesP.stay HH.out rfl HB0.out rfl
    | false =>
      have HG := Lib.hid (HGG.out false hd)
      clear hd
      go_wp2
      go_ret
      rw [HG.out]
      exact GoesP.stay HH.out rfl HB0.out rfl
  · obtain ⟨⟨f0, f1, f2, f3⟩, fz⟩ := h.facts
    have f2 : w.cell? ⟨N, 2, none⟩ = some (.int .i64 3) := f2
    by_cases hc : c = 39
    · subst hc
      have HS := Lib.hid (h.stateN 4)
      clear h
      go_enter Tryz.func95, Tryz.ntmps95
      go_wp2
      go_ret
      exact ⟨rfl, HS.out⟩
    · have hcb : ((c : Int) == 39) = false := beq_eq_false_iff_ne.2 (by omega)
      have HG := Lib.hid (show goes 3 (curOf s start pos) c = some 3 by unfold goes; simp only; rw [if_neg hc])
      clear h hc
      go_enter Tryz.func95, Tryz.ntmps95
      go_wp2
      go_ret
      rw [HG.out]
      exact GoesP.stay HH.out rfl HB0.out rfl
  · obtain ⟨⟨f0, f1, f2, f3⟩, fz⟩ := h.facts
    have f2 : w.cell? ⟨N, 2, none⟩ = some (.int .i64 4) := f2
    by_cases hc : c = 39
    · subst hc
      have HS := Lib.hid (h.stateN 3)
      clear h
      go_enter Tryz.func95, Tryz.ntmps95
      go_wp2
      go_ret
      exact ⟨rfl, HS.out⟩
    · have hcb : ((c : Int) == 39) = false := beq_eq_false_iff_ne.2 (by omega)
      have HG := Lib.hid (show goes 4 (curOf s start pos) c = none by unfold goes; simp only; rw [if_neg hc])
      clear h hc
      go_enter Tryz.func95, Tryz.ntmps95
      go_wp2
      go_ret
      rw [HG.out]
      exact GoesP.stay HH.out rfl HB0.out rfl
  · have f0 := fun k => (h.drew k).facts.1.1
    have f2 := fun k => (h.drew k).facts.1.2.2.1
    have f3 := fun k => (h.drew k).facts.1.2.2.2
    obtain ⟨⟨g0, _, g2, g3⟩, fz⟩ := h.facts
    have hsl := run_slice_text s start pos h1 h2
    obtain ⟨S, hS⟩ : ∃ S, S = s.extract start pos := ⟨_, rfl⟩
    have HSe := Lib.hid (show S.data.toList = curOf s start pos by rw [hS]; exact curOf_extract s start pos)
    rw [← hS] at hsl
    clear hS
    by_cases hd1 : S.data.toList = [45] ∧ c = 45
    · obtain ⟨hd1, rfl⟩ := hd1
      have hb : (S.toList == [45]) = true := by rw [ByteArray.toList_eq, hd1]; rfl
      have HG := Lib.hid (show goes 5 (curOf s start pos) 45 = some 6 by rw [← HSe.out, hd1]; rfl)
      clear h hd1
      go_enter Tryz.func95, Tryz.ntmps95
      go_upto_region 15 with (fail)
      go_quiet (fail)
      have H1 := Lib.hid ((HH.out.drew nq).stateN 6)
      have hdw := (HH.out.drew nq).facts
      obtain ⟨⟨k0, _, k2, k3⟩, kz⟩ := hdw
      clear f0 f2 f3 g0 g2 g3 fz hsl hb
      go_wp2
      go_ret
      rw [HG.out]
      exact ⟨rfl, H1.out.1, (Kp.below (Nat.le_of_lt HH.out.low) (drewB w nq)).trans H1.out.2⟩
    · have HG := Lib.hid (show goes 5 (curOf s start pos) c = if pairL S.data.toList c = true then some 5 else none by
        unfold goes
        simp only
        rw [← HSe.out, if_neg (fun e => hd1 (by simpa using e))])
      have hb : (S.toList == [45]) = false ∨ ((S.toList == [45]) = true ∧ ((c : Int) == 45) = false) := by
        rw [ByteArray.toList_eq]
        by_cases h0 : S.data.toList = [45]
        · right
          exact ⟨by rw [h0]; rfl, beq_eq_false_iff_ne.2 (fun e => hd1 ⟨h0, by omega⟩)⟩
        · left
          exact beq_eq_false_iff_ne.2 h0
      clear h hd1
      obtain ⟨pb, hpb⟩ : ∃ pb, pairL S.data.toList c = pb := ⟨_, rfl⟩
      have HPb := Lib.hid hpb
      rw [hpb] at HG
      clear hpb
      rcases hb with hb | ⟨hb, hb2⟩
      all_goals
        go_enter Tryz.func95, Tryz.ntmps95
        go_upto_region 15 with (fail)
        go_quiet (fail)
        obtain ⟨w1, hw1⟩ : ∃ w1, w1 = w.drewN nq := ⟨_, rfl⟩
        rw [← hw1]
        have HB1 := Lib.hid (show Below w.heap.size w w1 by rw [hw1]; exact drewB w nq)
        have H1 := Lib.hid (show LSt s w1 N v n xs 5 start by rw [hw1]; exact HH.out.drew nq)
        clear hw1 f0 f2 f3 g0 g2 g3 fz
        have f0 := fun k => (H1.out.drew k).facts.1.1
        have f2 := fun k => (H1.out.drew k).facts.1.2.2.1
        have f3 := fun k => (H1.out.drew k).facts.1.2.2.2
        obtain ⟨⟨g0, _, g2, g3⟩, fz⟩ := H1.out.facts
        go_upto_region 18 with (fail)
        go_quiet ((go_at_call 140; exact Calls.quiet_of_same (pair_any S c _)))
        rw [HPb.out]
        go_wp2
        go_ret
        rw [HG.out]
        cases pb
        · rw [if_neg (by simp)]
          exact GoesP.stay (o := none) (md := 5) HH.out rfl (show Below w.heap.size w (w1.drewN _) from ⟨HB1.out.os, HB1.out.tape, HB1.out.output, HB1.out.size, HB1.out.block⟩) rfl
        · rw [if_pos rfl]
          exact GoesP.stay (o := some 5) (md := 5) HH.out rfl (show Below w.heap.size w (w1.drewN _) from ⟨HB1.out.os, HB1.out.tape, HB1.out.output, HB1.out.size, HB1.out.block⟩) rfl
  · obtain ⟨⟨f0, f1, f2, f3⟩, fz⟩ := h.facts
    have f2 : w.cell? ⟨N, 2, none⟩ = some (.int .i64 6) := f2
    by_cases hc : c = 10
    · subst hc
      clear h
      go_enter Tryz.func95, Tryz.ntmps95
      go_wp2
      go_ret
      exact GoesP.stay HH.out rfl HB0.out rfl
    · have hcb : ((c : Int) != 10) = true := bne_iff_ne.2 (by omega)
      have HG := Lib.hid (show goes 6 (curOf s start pos) c = some 6 by unfold goes; simp only; rw [if_neg hc])
      clear h hc
      go_enter Tryz.func95, Tryz.ntmps95
      go_wp2
      go_ret
      rw [HG.out]
      exact GoesP.stay HH.out rfl HB0.out rfl
end Go.Proofs.YtknhphcfcpjhiaaGreatDoor
