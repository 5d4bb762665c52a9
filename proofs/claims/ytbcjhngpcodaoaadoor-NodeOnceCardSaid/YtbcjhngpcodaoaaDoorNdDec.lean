/- Contract of node's Decode. -/
import Derived.Test.YtbcjhngpcodaoaaDoorNdDecP
import Derived.Test.YtbcjhngpcodaoaaDoorNdFormM
import Derived.Test.YtbcjhngpcodaoaaDoorNdNode
namespace Go.Proofs.YtbcjhngpcodaoaaDoor
open Go.RowKit
set_option linter.unusedVariables false
set_option maxRecDepth 100000

/-- what Decode answers -/
def DecPost (w : World) (d : NAns) (e : Ending) (w' : World) : Prop :=
  ∃ ka kl kc va vl vc ia il ic, e = .returned (.tuple #[.agg #[.bool d.lf, .slice ka kl kc, .slice va vl vc, .slice ia il ic], .int .i64 d.er]) ∧ Nd w' ka kl va vl ia il d.ks d.vs d.is ∧ Below w.heap.size w w'
theorem dec_none {w w' : World} (h : Below w.heap.size w w') : DecPost w noNode (.returned (.tuple #[.agg #[.bool false, .slice none 0 0, .slice none 0 0, .slice none 0 0], .int .i64 2])) w' :=
  ⟨_, _, _, _, _, _, _, _, _, rfl, ⟨⟨rfl, by omega, .inl rfl⟩, ⟨rfl, by omega, .inl rfl⟩, ⟨rfl, by omega, .inl rfl, fun i hi => absurd hi (Nat.not_lt_zero _)⟩⟩, h⟩

theorem Nr.nd2 {w : World} {B : Nat} {ka va ia : Option Addr} {kl kc vl vc il ic : Nat} {ks vs : List (List Int)} {is : List Int} {xs ys : List Value} (h : Nr w B (.slice ka kl kc) (.slice va vl vc) (.slice ia il ic) ks vs is xs ys) (hb : ∀ x ∈ is, 0 ≤ x ∧ x ≤ 10000) : Nd w ka kl va vl ia il ks vs is := by
  obtain ⟨_, _, _, _, _, _, _, _, _, e1, e2, e3, h1⟩ := h.nd hb
  cases e1; cases e2; cases e3
  exact h1
/-- four cells of a box are set -/
theorem set4_below {w W : World} (h : Below w.heap.size w W) (x0 x1 x2 x3 : Value) : Below w.heap.size w ((((W.setCell ⟨w.heap.size, 0, none⟩ x0).setCell ⟨w.heap.size, 1, none⟩ x1).setCell ⟨w.heap.size, 2, none⟩ x2).setCell ⟨w.heap.size, 3, none⟩ x3) :=
  (((h.setCell (Nat.le_refl _) _).setCell (Nat.le_refl _) _).setCell (Nat.le_refl _) _).setCell (Nat.le_refl _) _
theorem set4_grown {w W : World} (x0 x1 x2 x3 : Value) : W.grownBy ((((W.setCell ⟨w.heap.size, 0, none⟩ x0).setCell ⟨w.heap.size, 1, none⟩ x1).setCell ⟨w.heap.size, 2, none⟩ x2).setCell ⟨w.heap.size, 3, none⟩ x3) (some w.heap.size) :=
  grown_two (grown_two (grown_two (grown_set 0 x0) (grown_set 1 x1)) (grown_set 2 x2)) (grown_set 3 x3)

set_option maxHeartbeats 6400000 in
theorem decode_any (w : World) (a : Option Addr) (L c : Nat) (l : List Int) (hI : IsB w a L l) (hn : a = none → L = 0 ∧ c = 0) (hle : L ≤ c) (hl : l.length ≤ 1000000) :
    Calls Tryd.prog 14 #[.slice a L c] w (DecPost w (decA l)) := by
  obtain ⟨d, hd⟩ : ∃ d, d = decA l := ⟨_, rfl⟩
  rw [← hd]
  have HD := Lib.hid hd
  have HMem := Lib.hid (show ∀ z ∈ l.drop 1, 0 ≤ z ∧ z ≤ 255 from fun z hz => hI.mem z (List.mem_of_mem_drop hz))
  obtain ⟨W1, hW1⟩ : ∃ W1, W1 = w.alloc (.cells #[.bool false, .slice none 0 0, .slice none 0 0, .slice none 0 0] 28) := ⟨_, rfl⟩
  have hnew : W1.heap[w.heap.size]? = some (.cells #[.bool false, .slice none 0 0, .slice none 0 0, .slice none 0 0] 28 (0, 0)) := by rw [hW1]; exact Go.heap_alloc_new w _
  have hb0 : Below w.heap.size w W1 := by rw [hW1]; exact bel0 _ (Below.refl _ _)
  have HB0 := Lib.hid hb0
  have hs1 : W1.heap.size = w.heap.size + 1 := by rw [hW1]; simp
  have HLo := Lib.hid hI.low
  have HI := Lib.hid (hI.below hb0 hI.low)
  have HNew := Lib.hid hnew
  have HW := Lib.hid hW1
  have HLl := Lib.hid hI.1
  have HN := Lib.hid hn
  have HLe := Lib.hid hle
  have HL6 := Lib.hid hl
  have hLm := hI.2.1
  have s0 := cell_of_row _ _ 0 _ _ _ hnew
  have s1 := cell_of_row _ _ 1 _ _ _ hnew
  have s2 := cell_of_row _ _ 2 _ _ _ hnew
  have s3 := cell_of_row _ _ 3 _ _ _ hnew
  simp only [List.getElem?_toArray, List.getElem?_cons_zero, List.getElem?_cons_succ] at s0 s1 s2 s3
  have z0 := fun j => frozen_of_row _ _ j _ _ hnew
  clear hd hI hn hle hl hb0 hnew
  go_enter Tryd.func14, Tryd.ntmps14
  go_upto_region 1 with (fail)
  clear hW1
  rw [← HW.out]
  have HZ := Lib.hid (show Below w.heap.size w ((((W1.setCell ⟨w.heap.size, 0, none⟩ (.bool false)).setCell ⟨w.heap.size, 1, none⟩ (.slice none 0 0)).setCell ⟨w.heap.size, 2, none⟩ (.slice none 0 0)).setCell ⟨w.heap.size, 3, none⟩ (.slice none 0 0)) from (((HB0.out.setCell (Nat.le_refl _) _).setCell (Nat.le_refl _) _).setCell (Nat.le_refl _) _).setCell (Nat.le_refl _) _)
  by_cases h0 : L = 0
  · have HX := Lib.hid (show decA l = noNode by
      have : l = [] := List.eq_nil_of_length_eq_zero (by rw [HLl.out]; exact h0)
      unfold decA; rw [if_pos this])
    subst h0
    go_wp2
    refine bodyPost_ret (v := .tuple #[.agg #[.bool false, .slice none 0 0, .slice none 0 0, .slice none 0 0], .int .i64 2]) (by simp [results, Tryd.results14, go_sem, s0, s1, s2, s3]) rfl (by rw [HD.out, HX.out]; exact dec_none HZ.out)
  · obtain ⟨b, off, rfl, hc⟩ : ∃ b off, a = some ⟨b, off, none⟩ ∧ W1.cell? ⟨b, off, none⟩ = some (.int .u8 (l.getD 0 0)) := by
      rcases HI.out.2.2.1 with h | ⟨b, off, rfl, hc⟩
      · omega
      · exact ⟨b, off, rfl, hc 0 (by omega)⟩
    have h0i : ¬ (L : Int) = 0 := by omega
    have h0p : (0 : Int) < (L : Int) := by omega
    have hne : l ≠ [] := fun e => by rw [e] at HLl; have := HLl.out; simp at this; omega
    have HNe := Lib.hid hne
    have hL1 : 1 ≤ L := by omega
    clear hne
    by_cases h1 : l.getD 0 0 = 1
    · have HX := Lib.hid (show decA l = ofS true (nodeS true (l.drop 1)) by unfold decA; rw [if_neg HNe.out, if_pos h1])
      rw [h1] at hc
      clear h1 h0
      have hsl : ∀ W, (Instr.slice 29 (.slice (some ⟨b, off, none⟩) L c) (some (.int .i64 1)) none none).run Tryd.prog W = .ok (.slice (offA (some ⟨b, off, none⟩) c 1) (L - 1) (c - 1)) W := fun W => slice_l (some ⟨b, off, none⟩) L c 1 hL1 .i64 W
      obtain ⟨W2, hW2⟩ : ∃ W2, W2 = W1.alloc (.cells #[.slice (offA (some ⟨b, off, none⟩) c 1) (L - 1) (c - 1), .bool true] 51) := ⟨_, rfl⟩
      have hnew2 : W2.heap[w.heap.size + 1]? = some (.cells #[.slice (offA (some ⟨b, off, none⟩) c 1) (L - 1) (c - 1), .bool true] 51 (0, 0)) := by rw [hW2, ← hs1]; exact Go.heap_alloc_new W1 _
      have hb2 : Below (w.heap.size + 1) W1 W2 := by rw [hW2, ← hs1]; exact bel0 _ (Below.refl _ _)
      have HR := Lib.hid (show Rr W2 (w.heap.size + 1) (l.drop 1) true from ⟨_, _, _, hnew2, (isB_off HI.out hL1 HLe.out).belowB hb2 (offA_lowB (B := w.heap.size + 1) (fun x hx hy => by have := HLo.out x hx hy; omega)), offA_lowB (fun x hx hy => by have := HLo.out x hx hy; omega), offA_nil HN.out, by have := HLe.out; omega⟩)
      have HDl := Lib.hid (show (l.drop 1).length ≤ 1000000 by rw [List.length_drop]; have := HL6.out; omega)
      have hcw2 : W2.cell? ⟨b, off, none⟩ = some (.int .u8 1) := (hb2.cell (p := ⟨b, off, none⟩) (by have := World.block_lt_of_cell? W1 _ hc; simp at this ⊢; omega)).trans hc
      have HW2 := Lib.hid hW2
      have HB2 := Lib.hid hb2
      generalize offA (some ⟨b, off, none⟩) c 1 = ap at *
      generalize L - 1 = Lp at *
      generalize c - 1 = cp at *
      clear hb2 hnew2
      go_upto_region 4 with (fail)
      clear hW2
      rw [← HW2.out]
      go_wp2_with fail
      refine (node_leaf W2 (w.heap.size + 1) (l.drop 1) HR.out HDl.out).mono ?_
      rintro e w3 ⟨v1, v2, v3, xs, ys, rfl, hr, hp1, hp2⟩
      have hbd := nodeS_bd (lf := true) HMem.out
      generalize nodeS true (l.drop 1) = s at *
      obtain ⟨ks, vs, is, sl, ok⟩ := s
      obtain ⟨ka, kl, kc, va, vl, vc, ia, il, ic, rfl, rfl, rfl, hnd⟩ := hr.nd hbd.1.i
      have HIs := Lib.hid hbd.1.i
      have HFM := Lib.hid (show FewM kl vl ks vs from ⟨by have := hbd.2.1; have := HDl.out; have := hnd.keys.1; simp at *; omega, by have := hbd.2.2; have := HDl.out; have := hnd.vals.1; simp at *; omega, fun i hi => Nat.le_trans (getD_all (d := []) hbd.1.k (i := i) (by show i < ks.length; rw [hnd.keys.1]; exact hi)) (by omega), fun i hi => Nat.le_trans (getD_all (d := []) hbd.1.v (i := i) (by show i < vs.length; rw [hnd.vals.1]; exact hi)) (by omega)⟩)
      obtain ⟨ra, rL, rc, hbox, hrI, hrlo, hrn, hrle⟩ := hp1
      have hr3 := (hp2.block w.heap.size (by have := HB2.out.size; omega) (fun e => by have := Option.some.inj e; omega)).trans ((HB2.out.block w.heap.size (by omega)).trans HNew.out)
      have hb3 : Below w.heap.size w w3 := (HB0.out.trans (HB2.out.mono (by omega))).trans ((grown_R hp2 (by have := HB2.out.size; omega)).mono (by omega))
      have hs3 : w.heap.size + 1 < w3.heap.size := (Array.getElem?_eq_some_iff.1 hbox).1
      obtain ⟨W4, hW4⟩ : ∃ W4, W4 = w3.alloc (.cells #[.bool true, .slice ka kl kc, .slice va vl vc, .slice ia il ic] 28) := ⟨_, rfl⟩
      have hnew4 : W4.heap[w3.heap.size]? = some (.cells #[.bool true, .slice ka kl kc, .slice va vl vc, .slice ia il ic] 28 (0, 0)) := by rw [hW4]; exact Go.heap_alloc_new w3 _
      have hb4 : Below w3.heap.size w3 W4 := by rw [hW4]; exact bel0 _ (Below.refl _ _)
      have hs4 : W4.heap.size = w3.heap.size + 1 := by rw [hW4]; simp
      have HW4 := Lib.hid hW4
      have HNr4 := Lib.hid (hr.below hb4)
      have HRI := Lib.hid (hrI.below hb4 (fun x hx hy => by have := hrlo x hx hy; omega))
      have HRn := Lib.hid hrn
      have HRle := Lib.hid hrle
      have HB4 := Lib.hid (bt hb3 (hb4.mono (by omega)))
      have hr4 := (hb4.block w.heap.size (by omega)).trans hr3
      have hbox4 := (hb4.block (w.heap.size + 1) hs3).trans hbox
      have HNew4 := Lib.hid hnew4
      have HR4 := Lib.hid hr4
      have HBs := Lib.hid (show w.heap.size < w3.heap.size ∧ w.heap.size + 2 ≤ W2.heap.size + 2 ∧ w.heap.size + 1 < w3.heap.size by have := HB2.out.size; omega)
      have r0 := cell_of_row _ _ 0 _ _ _ hbox4
      have r1 := cell_of_row _ _ 1 _ _ _ hbox4
      clear hr hp2 hbd hnd hbox hrI hrlo hrn hrle hr3 hb3 hb4 s0 s1 s2 s3 z0
      have s0 := cell_of_row _ _ 0 _ _ _ hr4
      have s1 := cell_of_row _ _ 1 _ _ _ hr4
      have s2 := cell_of_row _ _ 2 _ _ _ hr4
      have s3 := cell_of_row _ _ 3 _ _ _ hr4
      have q0 := cell_of_row _ _ 0 _ _ _ hnew4
      have q1 := cell_of_row _ _ 1 _ _ _ hnew4
      have q2 := cell_of_row _ _ 2 _ _ _ hnew4
      have q3 := cell_of_row _ _ 3 _ _ _ hnew4
      simp only [List.getElem?_toArray, List.getElem?_cons_zero, List.getElem?_cons_succ] at r0 r1 s0 s1 s2 s3 q0 q1 q2 q3
      have z0 := fun j => frozen_of_row _ _ j _ _ hr4
      go_upto_region 5 with (fail)
      clear hW4
      rw [← HW4.out]
      clear hr4 hbox4 hnew4
      cases ok with
      | false =>
        have HX2 := Lib.hid (show decA l = noNode by rw [HX.out]; unfold ofS; simp)
        have HZ4 := Lib.hid (set4_below HB4.out (.bool false) (.slice none 0 0) (.slice none 0 0) (.slice none 0 0))
        go_wp2
        refine bodyPost_ret (v := .tuple #[.agg #[.bool false, .slice none 0 0, .slice none 0 0, .slice none 0 0], .int .i64 2]) (by simp [results, Tryd.results14, go_sem, s0, s1, s2, s3]) rfl (by rw [HD.out, HX2.out]; exact dec_none HZ4.out)
      | true =>
        go_wp2_with fail
        refine (trim_any W4 ra rL rc sl HRI.out HRn.out HRle.out).mono ?_
        rintro e w5 ⟨hb5, a2, L2, c2, rfl, hd5⟩
        have HD5 := Lib.hid hd5
        have HB5 := Lib.hid (bt HB4.out (hb5.mono (by have := HBs.out; omega)))
        have HNr5 := Lib.hid (HNr4.out.below hb5)
        have hr5 := (hb5.block w.heap.size (by have := HBs.out; omega)).trans HR4.out
        have hnew5 := (hb5.block w3.heap.size (by omega)).trans HNew4.out
        have hs5 := hb5.size
        have HR5 := Lib.hid hr5
        have HNew5 := Lib.hid hnew5
        clear hb5 hd5 s0 s1 s2 s3 z0 q0 q1 q2 q3 r0 r1
        have s0 := cell_of_row _ _ 0 _ _ _ hr5
        have s1 := cell_of_row _ _ 1 _ _ _ hr5
        have s2 := cell_of_row _ _ 2 _ _ _ hr5
        have s3 := cell_of_row _ _ 3 _ _ _ hr5
        have q0 := cell_of_row _ _ 0 _ _ _ hnew5
        have q1 := cell_of_row _ _ 1 _ _ _ hnew5
        have q2 := cell_of_row _ _ 2 _ _ _ hnew5
        have q3 := cell_of_row _ _ 3 _ _ _ hnew5
        simp only [List.getElem?_toArray, List.getElem?_cons_zero, List.getElem?_cons_succ] at s0 s1 s2 s3 q0 q1 q2 q3
        have z0 := fun j => frozen_of_row _ _ j _ _ hr5
        clear hr5 hnew5
        by_cases hL2 : 0 < L2
        · have hL2i : (0 : Int) < (L2 : Int) := by omega
          have HX2 := Lib.hid (show decA l = noNode by
            rw [HX.out]; unfold ofS
            have : zl sl = false := by have := HD5.out; rw [decide_eq_true hL2] at this; simpa using this
            simp [this])
          have HZ5 := Lib.hid (set4_below HB5.out (.bool false) (.slice none 0 0) (.slice none 0 0) (.slice none 0 0))
          clear hL2
          go_wp2
          refine bodyPost_ret (v := .tuple #[.agg #[.bool false, .slice none 0 0, .slice none 0 0, .slice none 0 0], .int .i64 2]) (by simp [results, Tryd.results14, go_sem, s0, s1, s2, s3]) rfl (by rw [HD.out, HX2.out]; exact dec_none HZ5.out)
        · obtain rfl : L2 = 0 := by omega
          have HZl := Lib.hid (show zl sl = true by have := HD5.out; simpa using this)
          clear hL2
          go_wp2_with fail
          refine (formedM_any true ka va ia kl kc vl vc il ic ks vs is w5 (HNr5.out.nd2 HIs.out) HFM.out).mono ?_
          rintro e w6 ⟨rfl, hb6⟩
          have HB6 := Lib.hid (bt HB5.out (hb6.mono (by have := HBs.out; omega)))
          have HNr6 := Lib.hid (HNr5.out.below hb6)
          have hr6 := (hb6.block w.heap.size (by have := HBs.out; omega)).trans HR5.out
          have hnew6 := (hb6.block w3.heap.size (by omega)).trans HNew5.out
          have hs6 := hb6.size
          have HR6 := Lib.hid hr6
          clear hb6 s0 s1 s2 s3 z0 q0 q1 q2 q3
          have s0 := cell_of_row _ _ 0 _ _ _ hr6
          have s1 := cell_of_row _ _ 1 _ _ _ hr6
          have s2 := cell_of_row _ _ 2 _ _ _ hr6
          have s3 := cell_of_row _ _ 3 _ _ _ hr6
          have q0 := cell_of_row _ _ 0 _ _ _ hnew6
          have q1 := cell_of_row _ _ 1 _ _ _ hnew6
          have q2 := cell_of_row _ _ 2 _ _ _ hnew6
          have q3 := cell_of_row _ _ 3 _ _ _ hnew6
          simp only [List.getElem?_toArray, List.getElem?_cons_zero, List.getElem?_cons_succ] at s0 s1 s2 s3 q0 q1 q2 q3
          have z0 := fun j => frozen_of_row _ _ j _ _ hr6
          clear hr6 hnew6
          cases hf : nFormB true ks vs is with
          | false =>
            have HX2 := Lib.hid (show decA l = noNode by rw [HX.out]; unfold ofS; simp [hf])
            have HZ6 := Lib.hid (set4_below HB6.out (.bool false) (.slice none 0 0) (.slice none 0 0) (.slice none 0 0))
            clear hf
            go_wp2
            refine bodyPost_ret (v := .tuple #[.agg #[.bool false, .slice none 0 0, .slice none 0 0, .slice none 0 0], .int .i64 2]) (by simp [results, Tryd.results14, go_sem, s0, s1, s2, s3]) rfl (by rw [HD.out, HX2.out]; exact dec_none HZ6.out)
          | true =>
            have HX2 := Lib.hid (show decA l = ⟨true, ks, vs, is, 0⟩ by rw [HX.out]; unfold ofS; simp [hf, HZl.out])
            have HZ6 := Lib.hid (set4_below HB6.out (.bool true) (.slice ka kl kc) (.slice va vl vc) (.slice ia il ic))
            have HNr7 := Lib.hid (HNr6.out.grown (set4_grown (w := w) (.bool true) (.slice ka kl kc) (.slice va vl vc) (.slice ia il ic)) (by have := HBs.out; omega) HR6.out (by decide))
            clear hf
            go_wp2
            refine bodyPost_ret (v := .tuple #[.agg #[.bool true, .slice ka kl kc, .slice va vl vc, .slice ia il ic], .int .i64 0]) (by simp [results, Tryd.results14, go_sem, s0, s1, s2, s3]) rfl (by rw [HD.out, HX2.out]; exact ⟨_, _, _, _, _, _, _, _, _, rfl, HNr7.out.nd2 HIs.out, HZ6.out⟩)
    · by_cases h2 : l.getD 0 0 = 2
      · have HX := Lib.hid (show decA l = ofS false (nodeS false (l.drop 1)) by unfold decA; rw [if_neg HNe.out, if_neg h1, if_pos h2])
        rw [h2] at hc
        clear h1 h2 h0
        have hsl : ∀ W, (Instr.slice 29 (.slice (some ⟨b, off, none⟩) L c) (some (.int .i64 1)) none none).run Tryd.prog W = .ok (.slice (offA (some ⟨b, off, none⟩) c 1) (L - 1) (c - 1)) W := fun W => slice_l (some ⟨b, off, none⟩) L c 1 hL1 .i64 W
        obtain ⟨W2, hW2⟩ : ∃ W2, W2 = W1.alloc (.cells #[.slice (offA (some ⟨b, off, none⟩) c 1) (L - 1) (c - 1), .bool true] 51) := ⟨_, rfl⟩
        have hnew2 : W2.heap[w.heap.size + 1]? = some (.cells #[.slice (offA (some ⟨b, off, none⟩) c 1) (L - 1) (c - 1), .bool true] 51 (0, 0)) := by rw [hW2, ← hs1]; exact Go.heap_alloc_new W1 _
        have hb2 : Below (w.heap.size + 1) W1 W2 := by rw [hW2, ← hs1]; exact bel0 _ (Below.refl _ _)
        have HR := Lib.hid (show Rr W2 (w.heap.size + 1) (l.drop 1) true from ⟨_, _, _, hnew2, (isB_off HI.out hL1 HLe.out).belowB hb2 (offA_lowB (B := w.heap.size + 1) (fun x hx hy => by have := HLo.out x hx hy; omega)), offA_lowB (fun x hx hy => by have := HLo.out x hx hy; omega), offA_nil HN.out, by have := HLe.out; omega⟩)
        have HDl := Lib.hid (show (l.drop 1).length ≤ 1000000 by rw [List.length_drop]; have := HL6.out; omega)
        have hcw2 : W2.cell? ⟨b, off, none⟩ = some (.int .u8 2) := (hb2.cell (p := ⟨b, off, none⟩) (by have := World.block_lt_of_cell? W1 _ hc; simp at this ⊢; omega)).trans hc
        have HW2 := Lib.hid hW2
        have HB2 := Lib.hid hb2
        generalize offA (some ⟨b, off, none⟩) c 1 = ap at *
        generalize L - 1 = Lp at *
        generalize c - 1 = cp at *
        clear hb2 hnew2
        go_upto_region 4 with (fail)
        clear hW2
        rw [← HW2.out]
        go_wp2_with fail
        refine (node_inner W2 (w.heap.size + 1) (l.drop 1) HR.out HDl.out).mono ?_
        rintro e w3 ⟨v1, v2, v3, xs, ys, rfl, hr, hp1, hp2⟩
        have hbd := nodeS_bd (lf := false) HMem.out
        generalize nodeS false (l.drop 1) = s at *
        obtain ⟨ks, vs, is, sl, ok⟩ := s
        obtain ⟨ka, kl, kc, va, vl, vc, ia, il, ic, rfl, rfl, rfl, hnd⟩ := hr.nd hbd.1.i
        have HIs := Lib.hid hbd.1.i
        have HFM := Lib.hid (show FewM kl vl ks vs from ⟨by have := hbd.2.1; have := HDl.out; have := hnd.keys.1; simp at *; omega, by have := hbd.2.2; have := HDl.out; have := hnd.vals.1; simp at *; omega, fun i hi => Nat.le_trans (getD_all (d := []) hbd.1.k (i := i) (by show i < ks.length; rw [hnd.keys.1]; exact hi)) (by omega), fun i hi => Nat.le_trans (getD_all (d := []) hbd.1.v (i := i) (by show i < vs.length; rw [hnd.vals.1]; exact hi)) (by omega)⟩)
        obtain ⟨ra, rL, rc, hbox, hrI, hrlo, hrn, hrle⟩ := hp1
        have hr3 := (hp2.block w.heap.size (by have := HB2.out.size; omega) (fun e => by have := Option.some.inj e; omega)).trans ((HB2.out.block w.heap.size (by omega)).trans HNew.out)
        have hb3 : Below w.heap.size w w3 := (HB0.out.trans (HB2.out.mono (by omega))).trans ((grown_R hp2 (by have := HB2.out.size; omega)).mono (by omega))
        have hs3 : w.heap.size + 1 < w3.heap.size := (Array.getElem?_eq_some_iff.1 hbox).1
        obtain ⟨W4, hW4⟩ : ∃ W4, W4 = w3.alloc (.cells #[.bool false, .slice ka kl kc, .slice va vl vc, .slice ia il ic] 28) := ⟨_, rfl⟩
        have hnew4 : W4.heap[w3.heap.size]? = some (.cells #[.bool false, .slice ka kl kc, .slice va vl vc, .slice ia il ic] 28 (0, 0)) := by rw [hW4]; exact Go.heap_alloc_new w3 _
        have hb4 : Below w3.heap.size w3 W4 := by rw [hW4]; exact bel0 _ (Below.refl _ _)
        have hs4 : W4.heap.size = w3.heap.size + 1 := by rw [hW4]; simp
        have HW4 := Lib.hid hW4
        have HNr4 := Lib.hid (hr.below hb4)
        have HRI := Lib.hid (hrI.below hb4 (fun x hx hy => by have := hrlo x hx hy; omega))
        have HRn := Lib.hid hrn
        have HRle := Lib.hid hrle
        have HB4 := Lib.hid (bt hb3 (hb4.mono (by omega)))
        have hr4 := (hb4.block w.heap.size (by omega)).trans hr3
        have hbox4 := (hb4.block (w.heap.size + 1) hs3).trans hbox
        have HNew4 := Lib.hid hnew4
        have HR4 := Lib.hid hr4
        have HBs := Lib.hid (show w.heap.size < w3.heap.size ∧ w.heap.size + 2 ≤ W2.heap.size + 2 ∧ w.heap.size + 1 < w3.heap.size by have := HB2.out.size; omega)
        have r0 := cell_of_row _ _ 0 _ _ _ hbox4
        have r1 := cell_of_row _ _ 1 _ _ _ hbox4
        clear hr hp2 hbd hnd hbox hrI hrlo hrn hrle hr3 hb3 hb4 s0 s1 s2 s3 z0
        have s0 := cell_of_row _ _ 0 _ _ _ hr4
        have s1 := cell_of_row _ _ 1 _ _ _ hr4
        have s2 := cell_of_row _ _ 2 _ _ _ hr4
        have s3 := cell_of_row _ _ 3 _ _ _ hr4
        have q0 := cell_of_row _ _ 0 _ _ _ hnew4
        have q1 := cell_of_row _ _ 1 _ _ _ hnew4
        have q2 := cell_of_row _ _ 2 _ _ _ hnew4
        have q3 := cell_of_row _ _ 3 _ _ _ hnew4
        simp only [List.getElem?_toArray, List.getElem?_cons_zero, List.getElem?_cons_succ] at r0 r1 s0 s1 s2 s3 q0 q1 q2 q3
        have z0 := fun j => frozen_of_row _ _ j _ _ hr4
        go_upto_region 5 with (fail)
        clear hW4
        rw [← HW4.out]
        clear hr4 hbox4 hnew4
        cases ok with
        | false =>
          have HX2 := Lib.hid (show decA l = noNode by rw [HX.out]; unfold ofS; simp)
          have HZ4 := Lib.hid (set4_below HB4.out (.bool false) (.slice none 0 0) (.slice none 0 0) (.slice none 0 0))
          go_wp2
          refine bodyPost_ret (v := .tuple #[.agg #[.bool false, .slice none 0 0, .slice none 0 0, .slice none 0 0], .int .i64 2]) (by simp [results, Tryd.results14, go_sem, s0, s1, s2, s3]) rfl (by rw [HD.out, HX2.out]; exact dec_none HZ4.out)
        | true =>
          go_wp2_with fail
          refine (trim_any W4 ra rL rc sl HRI.out HRn.out HRle.out).mono ?_
          rintro e w5 ⟨hb5, a2, L2, c2, rfl, hd5⟩
          have HD5 := Lib.hid hd5
          have HB5 := Lib.hid (bt HB4.out (hb5.mono (by have := HBs.out; omega)))
          have HNr5 := Lib.hid (HNr4.out.below hb5)
          have hr5 := (hb5.block w.heap.size (by have := HBs.out; omega)).trans HR4.out
          have hnew5 := (hb5.block w3.heap.size (by omega)).trans HNew4.out
          have hs5 := hb5.size
          have HR5 := Lib.hid hr5
          have HNew5 := Lib.hid hnew5
          clear hb5 hd5 s0 s1 s2 s3 z0 q0 q1 q2 q3 r0 r1
          have s0 := cell_of_row _ _ 0 _ _ _ hr5
          have s1 := cell_of_row _ _ 1 _ _ _ hr5
          have s2 := cell_of_row _ _ 2 _ _ _ hr5
          have s3 := cell_of_row _ _ 3 _ _ _ hr5
          have q0 := cell_of_row _ _ 0 _ _ _ hnew5
          have q1 := cell_of_row _ _ 1 _ _ _ hnew5
          have q2 := cell_of_row _ _ 2 _ _ _ hnew5
          have q3 := cell_of_row _ _ 3 _ _ _ hnew5
          simp only [List.getElem?_toArray, List.getElem?_cons_zero, List.getElem?_cons_succ] at s0 s1 s2 s3 q0 q1 q2 q3
          have z0 := fun j => frozen_of_row _ _ j _ _ hr5
          clear hr5 hnew5
          by_cases hL2 : 0 < L2
          · have hL2i : (0 : Int) < (L2 : Int) := by omega
            have HX2 := Lib.hid (show decA l = noNode by
              rw [HX.out]; unfold ofS
              have : zl sl = false := by have := HD5.out; rw [decide_eq_true hL2] at this; simpa using this
              simp [this])
            have HZ5 := Lib.hid (set4_below HB5.out (.bool false) (.slice none 0 0) (.slice none 0 0) (.slice none 0 0))
            clear hL2
            go_wp2
            refine bodyPost_ret (v := .tuple #[.agg #[.bool false, .slice none 0 0, .slice none 0 0, .slice none 0 0], .int .i64 2]) (by simp [results, Tryd.results14, go_sem, s0, s1, s2, s3]) rfl (by rw [HD.out, HX2.out]; exact dec_none HZ5.out)
          · obtain rfl : L2 = 0 := by omega
            have HZl := Lib.hid (show zl sl = true by have := HD5.out; simpa using this)
            clear hL2
            go_wp2_with fail
            refine (formedM_any false ka va ia kl kc vl vc il ic ks vs is w5 (HNr5.out.nd2 HIs.out) HFM.out).mono ?_
            rintro e w6 ⟨rfl, hb6⟩
            have HB6 := Lib.hid (bt HB5.out (hb6.mono (by have := HBs.out; omega)))
            have HNr6 := Lib.hid (HNr5.out.below hb6)
            have hr6 := (hb6.block w.heap.size (by have := HBs.out; omega)).trans HR5.out
            have hnew6 := (hb6.block w3.heap.size (by omega)).trans HNew5.out
            have hs6 := hb6.size
            have HR6 := Lib.hid hr6
            clear hb6 s0 s1 s2 s3 z0 q0 q1 q2 q3
            have s0 := cell_of_row _ _ 0 _ _ _ hr6
            have s1 := cell_of_row _ _ 1 _ _ _ hr6
            have s2 := cell_of_row _ _ 2 _ _ _ hr6
            have s3 := cell_of_row _ _ 3 _ _ _ hr6
            have q0 := cell_of_row _ _ 0 _ _ _ hnew6
            have q1 := cell_of_row _ _ 1 _ _ _ hnew6
            have q2 := cell_of_row _ _ 2 _ _ _ hnew6
            have q3 := cell_of_row _ _ 3 _ _ _ hnew6
            simp only [List.getElem?_toArray, List.getElem?_cons_zero, List.getElem?_cons_succ] at s0 s1 s2 s3 q0 q1 q2 q3
            have z0 := fun j => frozen_of_row _ _ j _ _ hr6
            clear hr6 hnew6
            cases hf : nFormB false ks vs is with
            | false =>
              have HX2 := Lib.hid (show decA l = noNode by rw [HX.out]; unfold ofS; simp [hf])
              have HZ6 := Lib.hid (set4_below HB6.out (.bool false) (.slice none 0 0) (.slice none 0 0) (.slice none 0 0))
              clear hf
              go_wp2
              refine bodyPost_ret (v := .tuple #[.agg #[.bool false, .slice none 0 0, .slice none 0 0, .slice none 0 0], .int .i64 2]) (by simp [results, Tryd.results14, go_sem, s0, s1, s2, s3]) rfl (by rw [HD.out, HX2.out]; exact dec_none HZ6.out)
            | true =>
              have HX2 := Lib.hid (show decA l = ⟨false, ks, vs, is, 0⟩ by rw [HX.out]; unfold ofS; simp [hf, HZl.out])
              have HZ6 := Lib.hid (set4_below HB6.out (.bool false) (.slice ka kl kc) (.slice va vl vc) (.slice ia il ic))
              have HNr7 := Lib.hid (HNr6.out.grown (set4_grown (w := w) (.bool false) (.slice ka kl kc) (.slice va vl vc) (.slice ia il ic)) (by have := HBs.out; omega) HR6.out (by decide))
              clear hf
              go_wp2
              refine bodyPost_ret (v := .tuple #[.agg #[.bool false, .slice ka kl kc, .slice va vl vc, .slice ia il ic], .int .i64 0]) (by simp [results, Tryd.results14, go_sem, s0, s1, s2, s3]) rfl (by rw [HD.out, HX2.out]; exact ⟨_, _, _, _, _, _, _, _, _, rfl, HNr7.out.nd2 HIs.out, HZ6.out⟩)
      · have HX := Lib.hid (show decA l = noNode by unfold decA; rw [if_neg HNe.out, if_neg h1, if_neg h2])
        generalize l.getD 0 0 = z at *
        have h0b : ((L : Int) == 0) = false := by rw [beq_eq_false_iff_ne]; omega
        have h1b : (z != 1) = true := bne_iff_ne.2 h1
        have h2b : (z != 2) = true := bne_iff_ne.2 h2
        clear h0
        go_wp2
        refine bodyPost_ret (v := .tuple #[.agg #[.bool false, .slice none 0 0, .slice none 0 0, .slice none 0 0], .int .i64 2]) (by simp [results, Tryd.results14, go_sem, s0, s1, s2, s3]) rfl (by rw [HD.out, HX.out]; exact dec_none HZ.out)
end Go.Proofs.YtbcjhngpcodaoaaDoor
