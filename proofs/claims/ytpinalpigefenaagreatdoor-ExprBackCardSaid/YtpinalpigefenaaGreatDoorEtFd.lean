/- How expressions are sound, over whatever a single one's shape is: the document's sound, the program's formed. -/
import Derived.Test.YtpinalpigefenaaGreatDoorEtIn
namespace Go.Proofs.YtpinalpigefenaaGreatDoor
open Go.RowKit
set_option linter.unusedVariables false
set_option linter.unusedSimpArgs false
set_option maxRecDepth 100000

def sndB (sh : ET → Bool) : Nat → ET → Bool
  | 0, _ => false
  | d + 1, e => sh e && e.parts.all (sndB sh d)
theorem sndB_congr {s t : ET → Bool} (h : ∀ e, s e = t e) : ∀ d e, sndB s d e = sndB t d e := fun d e => by rw [show s = t from funext h]
theorem all_stop {l : List ET} {f : ET → Bool} {k : Nat} (h : k < l.length) (hf : f (l[k]) = false) : l.all f = false := by
  rw [Bool.eq_false_iff]
  intro ha
  rw [List.all_eq_true.1 ha _ (List.getElem_mem h)] at hf
  cases hf
theorem all_take {l : List ET} {f : ET → Bool} {k : Nat} (h : k < l.length) (ha : (l.take k).all f = true) (hf : f (l[k]) = true) : (l.take (k + 1)).all f = true := by
  rw [List.take_succ_eq_append_getElem h, List.all_append, ha]
  simp [hf]
set_option maxHeartbeats 3200000 in
theorem eformed_any (sh : ET → Bool) (hsh : ∀ (w : World) (Q : Nat → Prop) (v : Value) (e : ET), EV w Q v e → Calls Tryz.prog 164 #[v] w fun e' w' => e' = .returned (.bool (sh e)) ∧ Below w.heap.size w w') :
    ∀ (d : Nat), d ≤ 8 → ∀ (w : World) (Q : Nat → Prop) (v : Value) (e : ET), EV w Q v e → Calls Tryz.prog 84 #[v, .int .i64 (d : Int)] w fun e' w' => e' = .returned (.bool (sndB sh d e)) ∧ Below w.heap.size w w' := by
  intro d
  induction d with
  | zero =>
    intro _ w Q v e hv
    obtain ⟨sa, sc, rfl, hrg, hel⟩ := hv
    have HB := Lib.hid (show Below w.heap.size w (w.alloc (.cells (etX e sa sc).toArray 34)) from bel0 _ (Below.refl _ _))
    clear hrg hel
    go_enter Tryz.func84, Tryz.ntmps84
    go_wp2
    go_ret
    exact ⟨rfl, HB.out⟩
  | succ d ih =>
    intro hd w Q v e hv
    obtain ⟨sa, sc, rfl, hrg, hel⟩ := hv
    have HR := Lib.hid hrg
    have HE := Lib.hid hel
    have HIH := Lib.hid (ih (by omega))
    have HSH := Lib.hid hsh
    have hlen : e.parts.length ≤ 9223372036854775807 := by have := hrg.le; have := hrg.cap; unfold maxLen at this; omega
    obtain ⟨n, hn⟩ : ∃ n, n = e.parts.length := ⟨_, rfl⟩
    have HNl := Lib.hid hn
    have e0 : (etX e sa sc).toArray = #[.int .i64 e.kind, .string e.op, .int .i64 e.vk, .int .i64 e.vn, .string e.vs, .string e.tab, .string e.col, .slice sa n sc] := by rw [hn]; rfl
    rw [e0]
    rw [← hn] at hlen
    have HB0 := Lib.hid (show Below w.heap.size w (w.alloc (.cells #[.int .i64 e.kind, .string e.op, .int .i64 e.vk, .int .i64 e.vn, .string e.vs, .string e.tab, .string e.col, .slice sa n sc] 34)) from bel0 _ (Below.refl _ _))
    have hb : (w.alloc (.cells #[.int .i64 e.kind, .string e.op, .int .i64 e.vk, .int .i64 e.vn, .string e.vs, .string e.tab, .string e.col, .slice sa n sc] 34)).heap[w.heap.size]? = some (.cells #[.int .i64 e.kind, .string e.op, .int .i64 e.vk, .int .i64 e.vn, .string e.vs, .string e.tab, .string e.col, .slice sa n sc] 34 (0, 0)) := Go.heap_alloc_new w _
    have HBx := Lib.hid hb
    have HW1 := Lib.hid (show (w.alloc (.cells #[.int .i64 e.kind, .string e.op, .int .i64 e.vk, .int .i64 e.vn, .string e.vs, .string e.tab, .string e.col, .slice sa n sc] 34)).heap.size = w.heap.size + 1 by simp)
    have HV := Lib.hid (show ∀ W, Below w.heap.size w W → EV W Q (.agg #[.int .i64 e.kind, .string e.op, .int .i64 e.vk, .int .i64 e.vn, .string e.vs, .string e.tab, .string e.col, .slice sa n sc]) e from fun W hW => ⟨sa, sc, by rw [e0], HR.out, HE.out.keep hW⟩)
    clear hrg hel ih hsh hn e0 hb
    go_enter Tryz.func84, Tryz.ntmps84
    go_upto_region 1 with (fail)
    generalize (w.alloc (.cells #[.int .i64 e.kind, .string e.op, .int .i64 e.vk, .int .i64 e.vn, .string e.vs, .string e.tab, .string e.col, .slice sa n sc] 34)) = w1 at *
    have c0 : w1.cell? ⟨w.heap.size, 0, none⟩ = some (.int .i64 e.kind) := cell_of_row w1 w.heap.size 0 _ _ _ HBx.out
    have c1 : w1.cell? ⟨w.heap.size, 1, none⟩ = some (.string e.op) := cell_of_row w1 w.heap.size 1 _ _ _ HBx.out
    have c2 : w1.cell? ⟨w.heap.size, 2, none⟩ = some (.int .i64 e.vk) := cell_of_row w1 w.heap.size 2 _ _ _ HBx.out
    have c3 : w1.cell? ⟨w.heap.size, 3, none⟩ = some (.int .i64 e.vn) := cell_of_row w1 w.heap.size 3 _ _ _ HBx.out
    have c4 : w1.cell? ⟨w.heap.size, 4, none⟩ = some (.string e.vs) := cell_of_row w1 w.heap.size 4 _ _ _ HBx.out
    have c5 : w1.cell? ⟨w.heap.size, 5, none⟩ = some (.string e.tab) := cell_of_row w1 w.heap.size 5 _ _ _ HBx.out
    have c6 : w1.cell? ⟨w.heap.size, 6, none⟩ = some (.string e.col) := cell_of_row w1 w.heap.size 6 _ _ _ HBx.out
    have c7 : w1.cell? ⟨w.heap.size, 7, none⟩ = some (.slice sa n sc) := cell_of_row w1 w.heap.size 7 _ _ _ HBx.out
    have hd1 : ¬ (((d + 1 : Nat) : Int) < 1) := by omega
    have hd0 : ((d + 1 : Nat) : Int) ≠ 0 := by omega
    have hd2 : ((d + 1 : Nat) : Int) = (d : Int) + 1 := by omega
    rw [hd2] at hd1 hd0 ⊢
    go_wp2_with fail
    refine (HSH.out _ Q _ e (HV.out _ HB0.out)).mono ?_
    rintro e' w2 ⟨rfl, hb2⟩
    have HB2 := Lib.hid (show Below w1.heap.size w1 w2 from ⟨hb2.os, hb2.tape, hb2.output, hb2.size, hb2.block⟩)
    clear hb2 c0 c1 c2 c3 c4 c5 c6
    have c7' : w2.cell? ⟨w.heap.size, 7, none⟩ = some (.slice sa n sc) := (HB2.out.cell (p := ⟨w.heap.size, 7, none⟩) (by rw [HW1.out]; show w.heap.size < _; omega)).trans c7
    clear c7
    have hwd : wrap64 ((d : Int) + 1 - 1) = (d : Int) := by unfold wrap64; omega
    cases hs : sh e with
    | false =>
      have HEq := Lib.hid (show sndB sh (d + 1) e = false by show (sh e && _) = false; rw [hs]; rfl)
      have HB := Lib.hid (bt HB0.out HB2.out)
      go_wp2
      go_ret
      rw [HEq.out]
      exact ⟨rfl, HB.out⟩
    | true =>
    have HEq := Lib.hid (show sndB sh (d + 1) e = e.parts.all (sndB sh d) by show (sh e && _) = _; rw [hs]; rfl)
    go_wp2_with fail
    go_loopw [17] (fun i wr => ∃ (k : Nat), k ≤ n ∧ i = .int .i64 (k : Int) ∧ Hid ((e.parts.take k).all (sndB sh d) = true ∧ Below w1.heap.size w1 wr)) (fun i _ => n - (intOf i).toNat)
    case atStart => exact ⟨0, by omega, rfl, Lib.hid ⟨rfl, HB2.out⟩⟩
    case round =>
      obtain ⟨k, hk, rfl, HL⟩ := hrel
      have hk0 : (0 : Int) ≤ (k : Int) := by omega
      by_cases hlt : k < n
      · have hki : (k : Int) < (n : Int) := by omega
        have hkp : k < e.parts.length := by rw [← HNl.out]; exact hlt
        obtain ⟨b, off, pa, pc, hsa, hbl, hat, hprg, hpl⟩ := HE.out.at (i := k) hkp
        subst hsa
        have HBw := Lib.hid (bt HB0.out (show Below w1.heap.size w1 wr from HL.out.2))
        have hat2 := hat.below hbl HBw.out
        have hbw : b < wr.heap.size := Nat.lt_of_lt_of_le hbl HBw.out.size
        have g7 := (HL.out.2.cell (p := ⟨w.heap.size, 7, none⟩) (by rw [HW1.out]; show w.heap.size < _; omega)).trans (cell_of_row w1 w.heap.size 7 _ _ _ HBx.out)
        simp only [List.getElem?_toArray, List.getElem?_cons_zero, List.getElem?_cons_succ] at g7
        have q0 := hat2.c0
        have q1 := hat2.c1
        have q2 := hat2.c2
        have q3 := hat2.c3
        have q4 := hat2.c4
        have q5 := hat2.c5
        have q6 := hat2.c6
        have q7 := hat2.c7
        obtain ⟨p, hp⟩ : ∃ p, p = e.parts[k] := ⟨_, rfl⟩
        have HSt := Lib.hid (show sndB sh d p = false → e.parts.all (sndB sh d) = false from fun h => all_stop hkp (by rw [← hp]; exact h))
        have HTk := Lib.hid (show sndB sh d p = true → (e.parts.take (k + 1)).all (sndB sh d) = true from fun h => all_take hkp HL.out.1 (by rw [← hp]; exact h))
        rw [← hp] at q0 q1 q2 q3 q4 q5 q6 q7 hprg hpl
        have HEv := Lib.hid (show ∀ W, Below w.heap.size w W → EV W Q (.agg (etX p pa pc).toArray) p from fun W hW => ⟨pa, pc, rfl, hprg, hpl.keep hW⟩)
        have HLt := Lib.hid hlt
        clear hat hat2 hprg hpl hp hkp hlt hk hbl c7'
        go_wp2_with fail
        have HBa := Lib.hid (show Below wr.heap.size wr (wr.alloc (.cells #[.int .i64 p.kind, .string p.op, .int .i64 p.vk, .int .i64 p.vn, .string p.vs, .string p.tab, .string p.col, .slice pa p.parts.length pc] 34)) from bel0 _ (Below.refl _ _))
        refine (HIH.out _ Q _ p (HEv.out _ (bt HBw.out HBa.out))).mono ?_
        rintro e' w3 ⟨rfl, hb3'⟩
        have hb3 := bt HBa.out hb3'
        clear hb3' 
        have HB3 := Lib.hid (bt (show Below w1.heap.size w1 wr from HL.out.2) hb3)
        clear hb3 q0 q1 q2 q3 q4 q5 q6 q7 g7 hwd
        cases hr : sndB sh d p with
        | false =>
          have HB := Lib.hid (bt HB0.out HB3.out)
          have HF := Lib.hid (HEq.out.trans (HSt.out hr))
          go_wp2
          go_ret
          rw [HF.out]
          exact ⟨rfl, HB.out⟩
        | true =>
          have HN1 := Lib.hid (HTk.out hr)
          go_wp2
          go_roundw
          case rel => first | exact ⟨k + 1, HLt.out, by go_num, Lib.hid ⟨HN1.out, HB3.out⟩⟩ | exact ⟨_, _, _, _, _, _, _, _, _, _, _, _, ⟨k + 1, HLt.out, by go_num, Lib.hid ⟨HN1.out, HB3.out⟩⟩, rfl⟩ | (refine ⟨_, _, _, _, _, _, _, _, _, _, _, _, ?_, rfl⟩; exact ⟨k + 1, HLt.out, by go_num, Lib.hid ⟨HN1.out, HB3.out⟩⟩)
          case measure => have := HLt.out; simp [intOf]; omega
      · have hkk : ¬ ((k : Int) < (n : Int)) := by omega
        have HF := Lib.hid (show sndB sh (d + 1) e = true by
          rw [HEq.out]
          have h1 := HL.out.1
          rw [List.take_of_length_le (by rw [← HNl.out]; omega)] at h1
          exact h1)
        have HB := Lib.hid (bt HB0.out (show Below w1.heap.size w1 wr from HL.out.2))
        go_wp2
        go_ret
        rw [HF.out]
        exact ⟨rfl, HB.out⟩
end Go.Proofs.YtpinalpigefenaaGreatDoor
