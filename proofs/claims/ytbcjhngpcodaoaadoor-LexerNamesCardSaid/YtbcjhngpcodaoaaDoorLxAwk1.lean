/- The lexer at the document's first text: what a reader is; pair, ContainsRune, goesOn, begin. -/
import Derived.Test.YtbcjhngpcodaoaaDoorLxName
import Derived.Lib.OthersKept
import Derived.Deep.QuietTactic
import Derived.BigQuiet
import Derived.Deep.DeepCutAuto
import Derived.Laws.Externs
namespace Go.Proofs.YtbcjhngpcodaoaaDoor
open Go.RowKit
set_option linter.unusedVariables false
set_option maxRecDepth 100000

def tx : ByteArray := ⟨#[97, 60, 61, 49]⟩
/-- a reader in block N -/
structure St (w : World) (N : Nat) (v : Value) (n : Nat) (xs : List Value) (st start : Int) : Prop where
  rd : w.heap[N]? = some (.cells #[.string ⟨#[97, 60, 61, 49]⟩, v, .int .i64 st, .int .i64 start] 78 (0, 0))
  own : w.ownsRow (N + 1) 60 3 v n xs
theorem St.low {w : World} {N : Nat} {v : Value} {n : Nat} {xs : List Value} {st start : Int} (h : St w N v n xs st start) : N < w.heap.size := (Array.getElem?_eq_some_iff.1 h.rd).1
theorem St.facts {w : World} {N : Nat} {v : Value} {n : Nat} {xs : List Value} {st start : Int} (h : St w N v n xs st start) :
    (w.cell? ⟨N, 0, none⟩ = some (.string ⟨#[97, 60, 61, 49]⟩) ∧ w.cell? ⟨N, 1, none⟩ = some v ∧ w.cell? ⟨N, 2, none⟩ = some (.int .i64 st) ∧ w.cell? ⟨N, 3, none⟩ = some (.int .i64 start)) ∧
    (∀ j, w.frozen? ⟨N, j, none⟩ = false) :=
  ⟨⟨cell_of_row _ _ 0 _ _ _ h.rd, cell_of_row _ _ 1 _ _ _ h.rd, cell_of_row _ _ 2 _ _ _ h.rd, cell_of_row _ _ 3 _ _ _ h.rd⟩, fun j => frozen_of_row _ _ j _ _ h.rd⟩
theorem St.below {w w' : World} {N : Nat} {v : Value} {n : Nat} {xs : List Value} {st start : Int} (h : St w N v n xs st start) (hb : Below w.heap.size w w') : St w' N v n xs st start :=
  ⟨(hb.block _ h.low).trans h.rd, own_below h.own hb⟩
/-- what every call on a reader keeps: all below it, and each iterator -/
def Kp (N : Nat) (w w' : World) : Prop := Below N w w' ∧ ∀ (k : Nat) (s : ByteArray) (p : Nat), w.heap[k]? = some (Obj.stringIter s p) → w'.heap[k]? = some (Obj.stringIter s p)
theorem Kp.refl (N : Nat) (w : World) : Kp N w w := ⟨Below.refl _ _, fun _ _ _ h => h⟩
theorem Kp.trans {N : Nat} {a b c : World} (h : Kp N a b) (k : Kp N b c) : Kp N a c := ⟨h.1.trans k.1, fun i s p e => k.2 i s p (h.2 i s p e)⟩
theorem Kp.below {N : Nat} {w w' : World} (hN : N ≤ w.heap.size) (hb : Below w.heap.size w w') : Kp N w w' :=
  ⟨hb.mono hN, fun k s p e => (hb.block k (Array.getElem?_eq_some_iff.1 e).1).trans e⟩
theorem Kp.set {N : Nat} {w : World} {cs : Array Value} {T : TypeId} {fz : Nat × Nat} (h : w.heap[N]? = some (.cells cs T fz)) (j : Nat) (x : Value) : Kp N w (w.setCell ⟨N, j, none⟩ x) :=
  ⟨(Below.refl N w).setCell (Nat.le_refl _) _, fun k s p e => by
    rw [heap_setCell_other _ _ _ _ (fun e2 => by
      have e3 : k = N := e2
      rw [e3, h] at e; cases e)]
    exact e⟩
theorem own_setN {w : World} {N : Nat} {e : TypeId} {size : Nat} {v : Value} {n : Nat} {xs : List Value} (h : w.ownsRow (N + 1) e size v n xs) (j : Nat) (x : Value) : (w.setCell ⟨N, j, none⟩ x).ownsRow (N + 1) e size v n xs := by
  refine ⟨h.1, ?_⟩
  rcases h.2 with h0 | ⟨g, cap, cur, a, b, hg, r⟩
  · exact .inl h0
  · refine .inr ⟨g, cap, cur, a, b, ?_, r⟩
    rw [heap_setCell_other _ _ _ _ (by show g ≠ N; omega)]
    exact hg
theorem St.state {w : World} {N : Nat} {v : Value} {n : Nat} {xs : List Value} {st start : Int} (h : St w N v n xs st start) (x : Int) : St (w.setCell ⟨N, 2, none⟩ (.int .i64 x)) N v n xs x start :=
  ⟨Go.heap_setCell_same w N 2 _ _ _ h.rd, own_setN h.own _ _⟩
theorem St.begin {w : World} {N : Nat} {v : Value} {n : Nat} {xs : List Value} {st start : Int} (h : St w N v n xs st start) (x : Int) : St (w.setCell ⟨N, 3, none⟩ (.int .i64 x)) N v n xs st x :=
  ⟨Go.heap_setCell_same w N 3 _ _ _ h.rd, own_setN h.own _ _⟩

set_option maxHeartbeats 800000 in
theorem pair_yes (w : World) : Calls Tryd.prog 66 #[.string ⟨#[60]⟩, .int .i32 61] w fun e w' => e = .returned (.bool true) ∧ w' = w := by
  go_enter Tryd.func66, Tryd.ntmps66
  go_wp2
  go_ret
  exact ⟨rfl, rfl⟩
set_option maxHeartbeats 800000 in
theorem pair_no (w : World) : Calls Tryd.prog 66 #[.string ⟨#[60, 61]⟩, .int .i32 49] w fun e w' => e = .returned (.bool false) ∧ w' = w := by
  go_enter Tryd.func66, Tryd.ntmps66
  go_wp2
  go_ret
  exact ⟨rfl, rfl⟩

set_option maxHeartbeats 800000 in
theorem goes_blank (w : World) (N : Nat) (v : Value) (n : Nat) (xs : List Value) (start at1 c : Int) (h : St w N v n xs 0 start) : Calls Tryd.prog 59 #[.pointer (some ⟨N, 0, none⟩), .int .i64 at1, .int .i32 c] w fun e w' => e = .returned (.bool false) ∧ w' = w := by
  obtain ⟨⟨f0, f1, f2, f3⟩, fz⟩ := h.facts
  clear h
  go_enter Tryd.func59, Tryd.ntmps59
  go_wp2
  go_ret
  exact ⟨rfl, rfl⟩
set_option maxHeartbeats 800000 in
theorem goes_name (w : World) (N : Nat) (v : Value) (n : Nat) (xs : List Value) (start at1 : Int) (h : St w N v n xs 1 start) : Calls Tryd.prog 59 #[.pointer (some ⟨N, 0, none⟩), .int .i64 at1, .int .i32 60] w fun e w' => e = .returned (.bool false) ∧ w' = w := by
  obtain ⟨⟨f0, f1, f2, f3⟩, fz⟩ := h.facts
  have hl : letZ 60 = false := by decide
  have hd : digZ 60 = false := by decide
  clear h
  go_enter Tryd.func59, Tryd.ntmps59
  go_wp2_with fail
  refine (letter_any _ _).mono ?_
  rintro e w1 ⟨rfl, hw⟩
  subst hw
  rw [hl]
  go_wp2_with fail
  refine (digit_any _ _).mono ?_
  rintro e w1 ⟨rfl, hw⟩
  subst hw
  rw [hd]
  go_wp2
  go_ret
  exact ⟨rfl, rfl⟩

theorem cut12 (W : World) : (Instr.slice 9 (.string ⟨#[97, 60, 61, 49]⟩) (some (.int .i64 1)) (some (.int .i64 2)) none).run Tryd.prog W = .ok (.string ⟨#[60]⟩) W :=
  run_slice_string W 9 ⟨#[97, 60, 61, 49]⟩ .i64 .i64 1 2 Tryd.underlying9 (by omega) (by omega) (by decide)
theorem cut13 (W : World) : (Instr.slice 9 (.string ⟨#[97, 60, 61, 49]⟩) (some (.int .i64 1)) (some (.int .i64 3)) none).run Tryd.prog W = .ok (.string ⟨#[60, 61]⟩) W :=
  run_slice_string W 9 ⟨#[97, 60, 61, 49]⟩ .i64 .i64 1 3 Tryd.underlying9 (by omega) (by omega) (by decide)
theorem cut00 (W : World) : (Instr.slice 9 (.string ⟨#[97, 60, 61, 49]⟩) (some (.int .i64 0)) (some (.int .i64 0)) none).run Tryd.prog W = .ok (.string ⟨#[]⟩) W :=
  run_slice_string W 9 ⟨#[97, 60, 61, 49]⟩ .i64 .i64 0 0 Tryd.underlying9 (by omega) (by omega) (by decide)
theorem cut01 (W : World) : (Instr.slice 9 (.string ⟨#[97, 60, 61, 49]⟩) (some (.int .i64 0)) (some (.int .i64 1)) none).run Tryd.prog W = .ok (.string ⟨#[97]⟩) W :=
  run_slice_string W 9 ⟨#[97, 60, 61, 49]⟩ .i64 .i64 0 1 Tryd.underlying9 (by omega) (by omega) (by decide)
theorem cut34 (W : World) : (Instr.slice 9 (.string ⟨#[97, 60, 61, 49]⟩) (some (.int .i64 3)) (some (.int .i64 4)) none).run Tryd.prog W = .ok (.string ⟨#[49]⟩) W :=
  run_slice_string W 9 ⟨#[97, 60, 61, 49]⟩ .i64 .i64 3 4 Tryd.underlying9 (by omega) (by omega) (by decide)
theorem lt_no : ((ByteArray.mk #[60]).toList == [45]) = false := by decide +kernel
theorem le_no : ((ByteArray.mk #[60, 61]).toList == [45]) = false := by decide +kernel

theorem St.drew {w : World} {N : Nat} {v : Value} {n : Nat} {xs : List Value} {st start : Int} (h : St w N v n xs st start) (k : Nat) : St (w.drewN k) N v n xs st start := ⟨h.rd, h.own⟩

set_option maxHeartbeats 1600000 in
theorem goes_sign1 (w : World) (N : Nat) (v : Value) (n : Nat) (xs : List Value) (h : St w N v n xs 5 1) : Calls Tryd.prog 59 #[.pointer (some ⟨N, 0, none⟩), .int .i64 2, .int .i32 61] w fun e w' => e = .returned (.bool true) ∧ Below w.heap.size w w' := by
  have f0 := fun k => (h.drew k).facts.1.1
  have f2 := fun k => (h.drew k).facts.1.2.2.1
  have f3 := fun k => (h.drew k).facts.1.2.2.2
  obtain ⟨⟨g0, _, g2, g3⟩, fz⟩ := h.facts
  have hc := cut12
  have hq := lt_no
  have HH := Lib.hid h
  clear h
  go_enter Tryd.func59, Tryd.ntmps59
  go_upto_region 15 with (fail)
  go_quiet (fail)
  obtain ⟨w1, hw1⟩ : ∃ w1, w1 = w.drewN nq := ⟨_, rfl⟩
  rw [← hw1]
  have HB1 := Lib.hid (show Below w.heap.size w w1 by rw [hw1]; exact (⟨rfl, rfl, rfl, Nat.le_refl _, fun _ _ => rfl⟩ : Below w.heap.size w (w.drewN nq)))
  have H1 := Lib.hid (show St w1 N v n xs 5 1 by rw [hw1]; exact HH.out.drew _)
  clear hw1 f0 f2 f3 g0 g2 g3 fz
  have f0 := fun k => (H1.out.drew k).facts.1.1
  have f2 := fun k => (H1.out.drew k).facts.1.2.2.1
  have f3 := fun k => (H1.out.drew k).facts.1.2.2.2
  obtain ⟨⟨g0, _, g2, g3⟩, fz⟩ := H1.out.facts
  go_upto_region 18 with (fail)
  go_quiet ((go_at_call 66; exact Calls.quiet_of_same (pair_yes _)))
  go_wp2
  go_ret
  exact ⟨rfl, ⟨HB1.out.os, HB1.out.tape, HB1.out.output, HB1.out.size, HB1.out.block⟩⟩
set_option maxHeartbeats 1600000 in
theorem goes_sign2 (w : World) (N : Nat) (v : Value) (n : Nat) (xs : List Value) (h : St w N v n xs 5 1) : Calls Tryd.prog 59 #[.pointer (some ⟨N, 0, none⟩), .int .i64 3, .int .i32 49] w fun e w' => e = .returned (.bool false) ∧ Below w.heap.size w w' := by
  have f0 := fun k => (h.drew k).facts.1.1
  have f2 := fun k => (h.drew k).facts.1.2.2.1
  have f3 := fun k => (h.drew k).facts.1.2.2.2
  obtain ⟨⟨g0, _, g2, g3⟩, fz⟩ := h.facts
  have hc := cut13
  have hq := le_no
  have HH := Lib.hid h
  clear h
  go_enter Tryd.func59, Tryd.ntmps59
  go_upto_region 15 with (fail)
  go_quiet (fail)
  obtain ⟨w1, hw1⟩ : ∃ w1, w1 = w.drewN nq := ⟨_, rfl⟩
  rw [← hw1]
  have HB1 := Lib.hid (show Below w.heap.size w w1 by rw [hw1]; exact (⟨rfl, rfl, rfl, Nat.le_refl _, fun _ _ => rfl⟩ : Below w.heap.size w (w.drewN nq)))
  have H1 := Lib.hid (show St w1 N v n xs 5 1 by rw [hw1]; exact HH.out.drew _)
  clear hw1 f0 f2 f3 g0 g2 g3 fz
  have f0 := fun k => (H1.out.drew k).facts.1.1
  have f2 := fun k => (H1.out.drew k).facts.1.2.2.1
  have f3 := fun k => (H1.out.drew k).facts.1.2.2.2
  obtain ⟨⟨g0, _, g2, g3⟩, fz⟩ := H1.out.facts
  go_upto_region 18 with (fail)
  go_quiet ((go_at_call 66; exact Calls.quiet_of_same (pair_no _)))
  go_wp2
  go_ret
  exact ⟨rfl, ⟨HB1.out.os, HB1.out.tape, HB1.out.output, HB1.out.size, HB1.out.block⟩⟩

theorem ext_lt (W : World) : (callFunc 100 #[.string ⟨#[40, 41, 44, 46, 59, 42, 43, 45, 61, 60, 62]⟩, .int .u8 60]).run Tryd.prog W = .ok (.value (.int .i64 9)) W := by
  rw [run_callFunc_extern (e := Extern.BytealgIndexByte.indexByte) Tryd.func100 (by kernel_rfl) (by kernel_rfl) (by kernel_rfl) (by kernel_rfl), run_indexByte_string]
  have : firstIdx ⟨#[40, 41, 44, 46, 59, 42, 43, 45, 61, 60, 62]⟩ (Int.toNat 60).toUInt8 = 9 := by decide +kernel
  rw [this]
  rfl
set_option maxHeartbeats 1600000 in
theorem indexbyte_lt (w : World) : Calls Tryd.prog 74 #[.string ⟨#[40, 41, 44, 46, 59, 42, 43, 45, 61, 60, 62]⟩, .int .u8 60] w fun e w' => e = .returned (.int .i64 9) ∧ w' = w := by
  have hx := ext_lt
  go_enter Tryd.func74, Tryd.ntmps74
  go_wp2
  go_ret
  exact ⟨rfl, rfl⟩
set_option maxHeartbeats 1600000 in
theorem containsrune_lt (w : World) : Calls Tryd.prog 67 #[.string ⟨#[40, 41, 44, 46, 59, 42, 43, 45, 61, 60, 62]⟩, .int .i32 60] w fun e w' => e = .returned (.bool true) ∧ w' = w := by
  have hi : Calls Tryd.prog 70 #[.string ⟨#[40, 41, 44, 46, 59, 42, 43, 45, 61, 60, 62]⟩, .int .i32 60] w fun e w' => e = .returned (.int .i64 9) ∧ w' = w := by
    go_enter Tryd.func70, Tryd.ntmps70
    go_wp2_with fail
    refine (indexbyte_lt _).mono ?_
    rintro e w1 ⟨rfl, hw⟩
    subst hw
    go_wp2
    go_ret
    exact ⟨rfl, rfl⟩
  go_enter Tryd.func67, Tryd.ntmps67
  go_wp2_with fail
  refine hi.mono ?_
  rintro e w1 ⟨rfl, hw⟩
  subst hw
  go_wp2
  go_ret
  exact ⟨rfl, rfl⟩

/-- what a call on a reader leaves -/
def Went (w : World) (N : Nat) (v : Value) (n : Nat) (xs : List Value) (st start : Int) (e : Ending) (w' : World) : Prop :=
  e = .returned (.int .i64 0) ∧ St w' N v n xs st start ∧ Kp N w w'

set_option maxHeartbeats 1600000 in
theorem begin_a (w : World) (N : Nat) (v : Value) (n : Nat) (xs : List Value) (h : St w N v n xs 0 0) : Calls Tryd.prog 60 #[.pointer (some ⟨N, 0, none⟩), .int .i64 0, .int .i32 97] w (Went w N v n xs 1 0) := by
  obtain ⟨⟨f0, f1, f2, f3⟩, fz⟩ := h.facts
  have hl : letZ 97 = true := by decide
  have HH := Lib.hid h
  clear h
  go_enter Tryd.func60, Tryd.ntmps60
  go_wp2_with fail
  refine (letter_any _ _).mono ?_
  rintro e w1 ⟨rfl, hw⟩
  subst hw
  rw [hl]
  go_wp2
  go_ret
  exact ⟨rfl, (HH.out.begin 0).state 1, (Kp.set HH.out.rd _ _).trans (Kp.set (HH.out.begin 0).rd _ _)⟩
set_option maxHeartbeats 1600000 in
theorem begin_lt (w : World) (N : Nat) (v : Value) (n : Nat) (xs : List Value) (start : Int) (h : St w N v n xs 0 start) : Calls Tryd.prog 60 #[.pointer (some ⟨N, 0, none⟩), .int .i64 1, .int .i32 60] w (Went w N v n xs 5 1) := by
  obtain ⟨⟨f0, f1, f2, f3⟩, fz⟩ := h.facts
  have hl : letZ 60 = false := by decide
  have hd : digZ 60 = false := by decide
  have HH := Lib.hid h
  clear h
  go_enter Tryd.func60, Tryd.ntmps60
  go_wp2_with fail
  refine (letter_any _ _).mono ?_
  rintro e w1 ⟨rfl, hw⟩
  subst hw
  rw [hl]
  go_wp2_with fail
  refine (digit_any _ _).mono ?_
  rintro e w1 ⟨rfl, hw⟩
  subst hw
  rw [hd]
  go_wp2_with fail
  refine (containsrune_lt _).mono ?_
  rintro e w1 ⟨rfl, hw⟩
  subst hw
  go_wp2
  go_ret
  exact ⟨rfl, (HH.out.begin 1).state 5, (Kp.set HH.out.rd _ _).trans (Kp.set (HH.out.begin 1).rd _ _)⟩
set_option maxHeartbeats 1600000 in
theorem begin_1 (w : World) (N : Nat) (v : Value) (n : Nat) (xs : List Value) (start : Int) (h : St w N v n xs 0 start) : Calls Tryd.prog 60 #[.pointer (some ⟨N, 0, none⟩), .int .i64 3, .int .i32 49] w (Went w N v n xs 2 3) := by
  obtain ⟨⟨f0, f1, f2, f3⟩, fz⟩ := h.facts
  have hl : letZ 49 = false := by decide
  have hd : digZ 49 = true := by decide
  have HH := Lib.hid h
  clear h
  go_enter Tryd.func60, Tryd.ntmps60
  go_wp2_with fail
  refine (letter_any _ _).mono ?_
  rintro e w1 ⟨rfl, hw⟩
  subst hw
  rw [hl]
  go_wp2_with fail
  refine (digit_any _ _).mono ?_
  rintro e w1 ⟨rfl, hw⟩
  subst hw
  rw [hd]
  go_wp2
  go_ret
  exact ⟨rfl, (HH.out.begin 3).state 2, (Kp.set HH.out.rd _ _).trans (Kp.set (HH.out.begin 3).rd _ _)⟩
end Go.Proofs.YtbcjhngpcodaoaaDoor
