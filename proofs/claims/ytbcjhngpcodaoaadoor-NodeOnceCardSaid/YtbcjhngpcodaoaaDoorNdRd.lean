/- Contracts of node's reader: a number, and bytes. -/
import Derived.Test.YtbcjhngpcodaoaaDoorNdREnc
import Derived.Test.YtbcjhngpcodaoaaDoorTakW
import Derived.Test.YtbcjhngpcodaoaaDoorSigPure
namespace Go.Proofs.YtbcjhngpcodaoaaDoor
open Go.RowKit
set_option linter.unusedVariables false
set_option maxRecDepth 100000

/-- a reader in block R: the bytes ahead of it, and whether all was right -/
def Rr (w : World) (R : Nat) (l : List Int) (ok : Bool) : Prop :=
  ∃ (a : Option Addr) (L cap : Nat), w.heap[R]? = some (.cells #[.slice a L cap, .bool ok] 51 (0, 0)) ∧ IsB w a L l ∧ (∀ x, L ≠ 0 → a = some x → x.block < R) ∧ (a = none → L = 0 ∧ cap = 0) ∧ L ≤ cap
theorem Rr.below {w w' : World} {R : Nat} {l : List Int} {ok : Bool} (h : Rr w R l ok) (hb : Below w.heap.size w w') : Rr w' R l ok := by
  obtain ⟨a, L, cap, h1, h2, h3, h4, h5⟩ := h
  have hR := (Array.getElem?_eq_some_iff.1 h1).1
  exact ⟨a, L, cap, (hb.block _ hR).trans h1, h2.below hb (fun x hx hy => Nat.lt_trans (h3 x hx hy) hR), h3, h4, h5⟩
theorem Rr.low {w : World} {R : Nat} {l : List Int} {ok : Bool} (h : Rr w R l ok) : R < w.heap.size := by
  obtain ⟨a, L, cap, h1, _⟩ := h
  exact (Array.getElem?_eq_some_iff.1 h1).1
/-- one behind the other -/
theorem grown_two {a b c : World} {R : Nat} (h : a.grownBy b (some R)) (k : b.grownBy c (some R)) : a.grownBy c (some R) :=
  ⟨k.os.trans h.os, k.tape.trans h.tape, k.output.trans h.output, Nat.le_trans h.size k.size, fun i hi hne => (k.block i (Nat.lt_of_lt_of_le hi h.size) hne).trans (h.block i hi hne)⟩
theorem grown_of {a b : World} {R : Nat} (h : Below a.heap.size a b) : a.grownBy b (some R) := ⟨h.os, h.tape, h.output, h.size, fun i hi _ => h.block i hi⟩
theorem grown_set {a : World} {R : Nat} (j : Nat) (x : Value) : a.grownBy (a.setCell ⟨R, j, none⟩ x) (some R) :=
  ⟨rfl, rfl, rfl, by simp, fun i hi hne => heap_setCell_other _ _ _ _ (fun e => hne (by rw [show i = R from e]))⟩
theorem grown_R {a b : World} {R : Nat} (h : a.grownBy b (some R)) (hR : R ≤ a.heap.size) : Below R a b :=
  ⟨h.os, h.tape, h.output, h.size, fun i hi => h.block i (by omega) (fun e => by cases e; omega)⟩

/-- a number that bytes begin with, at most so great -/
def numS (most : Int) (l : List Int) (ok : Bool) : Int × List Int × Bool :=
  if ok = true ∧ (takeR l).2.2 = 0 ∧ (takeR l).1 ≤ most then ((takeR l).1, l.drop (takeR l).2.1.toNat, true) else (0, l, false)
theorem numS_bad {most : Int} {l : List Int} {ok : Bool} (h : ¬ (ok = true ∧ (takeR l).2.2 = 0 ∧ (takeR l).1 ≤ most)) : numS most l ok = (0, l, false) := if_neg h
theorem numS_good {most : Int} {l : List Int} {ok : Bool} (h : ok = true ∧ (takeR l).2.2 = 0 ∧ (takeR l).1 ≤ most) : numS most l ok = ((takeR l).1, l.drop (takeR l).2.1.toNat, true) := if_pos h
/-- what a reader's call leaves -/
def RdPost (w : World) (R : Nat) (l : List Int) (ok : Bool) (w' : World) : Prop := Rr w' R l ok ∧ w.grownBy w' (some R)

set_option maxHeartbeats 3200000 in
theorem number_rd (w : World) (R : Nat) (l : List Int) (ok : Bool) (most : Int) (h : Rr w R l ok) (h0 : 0 ≤ most) (h1 : most ≤ 1000000) :
    Calls Tryd.prog 41 #[.pointer (some ⟨R, 0, none⟩), .int .i64 most] w fun e w' => e = .returned (.int .i64 (numS most l ok).1) ∧ RdPost w R (numS most l ok).2.1 (numS most l ok).2.2 w' := by
  obtain ⟨a, L, cap, hbox, hI, hlo, hni, hle⟩ := h
  have hmem := hI.mem
  have HI := Lib.hid hI
  have HBox := Lib.hid hbox
  have HLo := Lib.hid hlo
  have HNi := Lib.hid hni
  have HLe := Lib.hid hle
  have hR := (Array.getElem?_eq_some_iff.1 hbox).1
  have HR := Lib.hid hR
  have hLm := hI.2.1
  have hwm : IntKind.u64.wrap most = most := by rw [IntKind.wrap_u64]; omega
  have q0 := cell_of_row _ _ 0 _ _ _ hbox
  have q1 := cell_of_row _ _ 1 _ _ _ hbox
  simp only [List.getElem?_toArray, List.getElem?_cons_zero, List.getElem?_cons_succ] at q0 q1
  have y0 := frozen_of_row _ _ 0 _ _ hbox
  have y1 := frozen_of_row _ _ 1 _ _ hbox
  have hbd := takeR_bd hmem
  obtain ⟨r, hr⟩ : ∃ r, r = numS most l ok := ⟨_, rfl⟩
  rw [← hr]
  have HRr := Lib.hid hr
  have HBad := Lib.hid (show ¬ (ok = true ∧ (takeR l).2.2 = 0 ∧ (takeR l).1 ≤ most) → RdPost w R (numS most l ok).2.1 (numS most l ok).2.2 (w.setCell ⟨R, 1, none⟩ (.bool false)) ∧ (numS most l ok).1 = 0 from fun hn => by
    rw [numS_bad hn]
    refine ⟨⟨⟨a, L, cap, Go.heap_setCell_same w R 1 _ _ _ hbox, ?_, hlo, hni, hle⟩, grown_set 1 _⟩, rfl⟩
    exact hI.belowB ((Below.refl R w).setCell (Nat.le_refl _) _) hlo)
  clear hr hbox hI hlo hni hle hmem
  go_enter Tryd.func41, Tryd.ntmps41
  go_wp2_with fail
  refine (take_any a L cap l _ HI.out).mono ?_
  rintro e w1 ⟨rfl, hw⟩
  subst hw
  unfold endT
  have HRt := Lib.hid (show ∀ t, takeR l = t → t.2.2 = (takeR l).2.2 ∧ t.1 = (takeR l).1 ∧ t.2.1 = (takeR l).2.1 from fun t ht => by rw [ht]; exact ⟨rfl, rfl, rfl⟩)
  cases ok with
  | false =>
    have HX := Lib.hid (HBad.out (by intro h; cases h.1))
    clear hbd
    generalize (takeR l).2.2 = t3 at *
    generalize (takeR l).2.1 = t2 at *
    generalize (takeR l).1 = t1 at *
    go_wp2
    go_ret
    exact ⟨by rw [HRr.out, HX.out.2]; rfl, by rw [HRr.out]; exact HX.out.1⟩
  | true =>
    rcases hbd with ⟨b1, b2, b3, b4, b5, b6⟩ | hb
    · by_cases hm : (takeR l).1 ≤ most
      · have HG := Lib.hid (numS_good (ok := true) ⟨rfl, b1, hm⟩)
        obtain ⟨u, hu⟩ : ∃ u : Nat, (takeR l).2.1 = (u : Int) := ⟨(takeR l).2.1.toNat, by omega⟩
        have huL : u ≤ L := by rw [hu, HI.out.1] at b6; omega
        have hsl : ∀ W, (Instr.slice 29 (.slice a L cap) (some (.int .i64 (u : Int))) none none).run Tryd.prog W = .ok (.slice (offA a cap u) (L - u) (cap - u)) W := fun W => slice_l a L cap u huL .i64 W
        have HN := Lib.hid (show RdPost w R (l.drop u) true (w.setCell ⟨R, 0, none⟩ (.slice (offA a cap u) (L - u) (cap - u))) from by
          refine ⟨⟨offA a cap u, L - u, cap - u, Go.heap_setCell_same w R 0 _ _ _ HBox.out, ?_, offA_lowB HLo.out, offA_nil HNi.out, by have := HLe.out; omega⟩, grown_set 0 _⟩
          exact (isB_off HI.out huL HLe.out).belowB ((Below.refl R w).setCell (Nat.le_refl _) _) (offA_lowB HLo.out))
        have hE : (numS most l true) = ((takeR l).1, l.drop u, true) := by rw [HG.out, hu]; rfl
        have HE := Lib.hid hE
        have hwn : IntKind.i64.wrap (takeR l).1 = (takeR l).1 := by rw [IntKind.wrap_i64]; omega
        have hcm : ¬ most < (takeR l).1 := by omega
        rw [b1, hu]
        clear hE hu b1 b4 b5 b6 huL
        generalize (takeR l).1 = t1 at *
        generalize offA a cap u = ap at *
        generalize L - u = Lp at *
        generalize cap - u = cp at *
        go_wp2
        go_ret
        exact ⟨by rw [HRr.out, HE.out]; rfl, by rw [HRr.out, HE.out]; exact HN.out⟩
      · have HX := Lib.hid (HBad.out (by intro h; exact hm h.2.2))
        have hcm : most < (takeR l).1 := by omega
        rw [b1]
        clear b1 b4 b5 b6 hm
        generalize (takeR l).2.1 = t2 at *
        generalize (takeR l).1 = t1 at *
        go_wp2
        go_ret
        exact ⟨by rw [HRr.out, HX.out.2]; rfl, by rw [HRr.out]; exact HX.out.1⟩
    · have HX := Lib.hid (HBad.out (by intro h; have := h.2.1; rw [hb] at this; cases this))
      rw [hb]
      clear hb
      go_wp2
      go_ret
      exact ⟨by rw [HRr.out, HX.out.2]; rfl, by rw [HRr.out]; exact HX.out.1⟩

/-- bytes with their number ahead -/
def bytS (l : List Int) (ok : Bool) : List Int × List Int × Bool :=
  if ((numS 160 l ok).2.1.length : Int) < (numS 160 l ok).1 then ([], (numS 160 l ok).2.1, false)
  else ((numS 160 l ok).2.1.take (numS 160 l ok).1.toNat, (numS 160 l ok).2.1.drop (numS 160 l ok).1.toNat, (numS 160 l ok).2.2)
theorem numS_bd {most : Int} {l : List Int} {ok : Bool} (hm : 0 ≤ most) (hl : ∀ z ∈ l, 0 ≤ z ∧ z ≤ 255) : 0 ≤ (numS most l ok).1 ∧ (numS most l ok).1 ≤ most := by
  unfold numS
  split
  · rename_i h
    have := takeR_bd hl
    rcases this with ⟨_, h1, _⟩ | h2
    · exact ⟨h1, h.2.2⟩
    · rw [h2] at h; exact absurd h.2.1 (by decide)
  · exact ⟨Int.le_refl 0, hm⟩
/-- what bytes leaves -/
def ElPost (w : World) (R : Nat) (d l : List Int) (ok : Bool) (e : Ending) (w' : World) : Prop :=
  ∃ v, e = .returned v ∧ w'.ownsRow w.heap.size 5 1 v d.length (d.map (Value.int .u8)) ∧ (∀ z ∈ d, 0 ≤ z ∧ z ≤ 255) ∧ RdPost w R l ok w'
theorem own_set_far {w : World} {B : Nat} {e : TypeId} {size : Nat} {v : Value} {n : Nat} {xs : List Value} (h : w.ownsRow B e size v n xs) {R : Nat} (hR : R < B) (j : Nat) (x : Value) : (w.setCell ⟨R, j, none⟩ x).ownsRow B e size v n xs := by
  refine ⟨h.1, ?_⟩
  rcases h.2 with h0 | ⟨g, cap, cur, a, b, hg, r⟩
  · exact .inl h0
  · refine .inr ⟨g, cap, cur, a, b, ?_, r⟩
    rw [heap_setCell_other _ _ _ _ (by show g ≠ R; omega)]
    exact hg

set_option maxHeartbeats 3200000 in
theorem bytes_rd (w : World) (R : Nat) (l : List Int) (ok : Bool) (h : Rr w R l ok) :
    Calls Tryd.prog 42 #[.pointer (some ⟨R, 0, none⟩)] w (ElPost w R (bytS l ok).1 (bytS l ok).2.1 (bytS l ok).2.2) := by
  obtain ⟨r, hr⟩ : ∃ r, r = bytS l ok := ⟨_, rfl⟩
  rw [← hr]
  have HRr := Lib.hid hr
  have HH := Lib.hid h
  have HMem := Lib.hid (show ∀ z ∈ l, 0 ≤ z ∧ z ≤ 255 by obtain ⟨a, L, cap, _, hI, _⟩ := h; exact hI.mem)
  have HRl := Lib.hid h.low
  clear hr h
  go_enter Tryd.func42, Tryd.ntmps42
  go_wp2_with fail
  refine (number_rd _ R l ok 160 HH.out (by omega) (by omega)).mono ?_
  rintro e w1 ⟨rfl, hp1, hg1⟩
  have hbd := numS_bd (most := 160) (ok := ok) (by omega) HMem.out
  have HB := Lib.hid (show bytS l ok = if ((numS 160 l ok).2.1.length : Int) < (numS 160 l ok).1 then ([], (numS 160 l ok).2.1, false) else ((numS 160 l ok).2.1.take (numS 160 l ok).1.toNat, (numS 160 l ok).2.1.drop (numS 160 l ok).1.toNat, (numS 160 l ok).2.2) from rfl)
  have HG1 := Lib.hid hg1
  clear hg1
  generalize (numS 160 l ok).1 = n at *
  generalize (numS 160 l ok).2.1 = l1 at *
  generalize (numS 160 l ok).2.2 = ok1 at *
  obtain ⟨a, L, cap, hbox, hI, hlo, hni, hle⟩ := hp1
  have HI := Lib.hid hI
  have HBox := Lib.hid hbox
  have HLo := Lib.hid hlo
  have HNi := Lib.hid hni
  have HLe := Lib.hid hle
  have hLm := hI.2.1
  have q0 := cell_of_row _ _ 0 _ _ _ hbox
  have q1 := cell_of_row _ _ 1 _ _ _ hbox
  simp only [List.getElem?_toArray, List.getElem?_cons_zero, List.getElem?_cons_succ] at q0 q1
  have y0 := frozen_of_row _ _ 0 _ _ hbox
  have y1 := frozen_of_row _ _ 1 _ _ hbox
  have HLl := Lib.hid hI.1
  clear hbox hI hlo hni hle
  by_cases hn : (L : Int) < n
  · have HX := Lib.hid (show bytS l ok = ([], l1, false) by rw [HB.out, if_pos (by rw [HLl.out]; exact hn)])
    have HN := Lib.hid (show RdPost w R l1 false (w1.setCell ⟨R, 1, none⟩ (.bool false)) from
      ⟨⟨a, L, cap, Go.heap_setCell_same w1 R 1 _ _ _ HBox.out, HI.out.belowB ((Below.refl R w1).setCell (Nat.le_refl _) _) HLo.out, HLo.out, HNi.out, HLe.out⟩, grown_two HG1.out (grown_set 1 _)⟩)
    go_wp2
    go_ret
    exact ⟨.slice none 0 0, rfl, by rw [HRr.out, HX.out]; exact World.ownsRow_nil _ _ _ _, by rw [HRr.out, HX.out]; simp, by rw [HRr.out, HX.out]; exact HN.out⟩
  · obtain ⟨m, rfl⟩ := Int.eq_ofNat_of_zero_le hbd.1
    have hmL : m ≤ L := by omega
    have hX : bytS l ok = (l1.take m, l1.drop m, ok1) := by rw [HB.out, if_neg (by rw [HLl.out]; exact hn)]; rfl
    have HX := Lib.hid hX
    have hn' : (m : Int) ≤ (L : Int) := by omega
    have hh : ∀ W, (Instr.slice 29 (.slice a L cap) none (some (.int .i64 (m : Int))) none).run Tryd.prog W = .ok (.slice a m cap) W := fun W => slice_h a L cap m (by have := HLe.out; omega) .i64 W
    have hsl : ∀ W, (Instr.slice 29 (.slice a L cap) (some (.int .i64 (m : Int))) none none).run Tryd.prog W = .ok (.slice (offA a cap m) (L - m) (cap - m)) W := fun W => slice_l a L cap m hmL .i64 W
    have HT := Lib.hid (isB_take HI.out hmL)
    have HTl := Lib.hid (show (l1.take m).length = m by rw [List.length_take, HLl.out]; omega)
    have hm160 : m ≤ 160 := by omega
    have HM := Lib.hid (show m ≤ 160 ∧ m ≤ L from ⟨hm160, hmL⟩)
    have HTn := Lib.hid (show a = none → m = 0 ∧ cap = 0 from fun e => by have := HNi.out e; omega)
    clear hX hn hm160 hmL hbd
    go_wp2_with (at_builtin; refine wpList_slice rfl (.const (.slice none 0 0)) (.tmp 22) rfl w1.heap.size (.slice none 0 0) [] a m cap (l1.take m) rfl rfl (World.ownsRow_nil _ _ _ _) HT.out HTn.out (by have := HM.out; simp; omega) (Nat.le_refl _) ?_)
    intro v w2 ho hg
    have hb2 : Below w1.heap.size w1 w2 := grown_belowB hg (Nat.le_refl _) (fun k hk => by cases hk)
    have HO := Lib.hid (show w2.ownsRow w1.heap.size 5 1 v (l1.take m).length ((l1.take m).map (Value.int .u8)) by simpa using ho)
    have HBx2 := Lib.hid ((hb2.block R (Array.getElem?_eq_some_iff.1 HBox.out).1).trans HBox.out)
    have HB2 := Lib.hid hb2
    clear ho hg hb2 q0 q1 y0 y1
    have q0 := cell_of_row _ _ 0 _ _ _ HBx2.out
    simp only [List.getElem?_toArray, List.getElem?_cons_zero, List.getElem?_cons_succ] at q0
    have y0 := frozen_of_row _ _ 0 _ _ HBx2.out
    have HN := Lib.hid (show RdPost w R (l1.drop m) ok1 (w2.setCell ⟨R, 0, none⟩ (.slice (offA a cap m) (L - m) (cap - m))) ∧ (w2.setCell ⟨R, 0, none⟩ (.slice (offA a cap m) (L - m) (cap - m))).ownsRow w.heap.size 5 1 v (l1.take m).length ((l1.take m).map (Value.int .u8)) from by
      refine ⟨⟨⟨offA a cap m, L - m, cap - m, Go.heap_setCell_same w2 R 0 _ _ _ HBx2.out, ?_, offA_lowB HLo.out, offA_nil HNi.out, by have := HLe.out; omega⟩, grown_two HG1.out (grown_two (grown_of HB2.out) (grown_set 0 _))⟩, own_set_far (ownsRow_base HO.out HG1.out.size) HRl.out 0 _⟩
      have hRw1 : R ≤ w1.heap.size := Nat.le_of_lt (Array.getElem?_eq_some_iff.1 HBox.out).1
      exact (isB_off HI.out HM.out.2 HLe.out).belowB ((HB2.out.mono hRw1).setCell (Nat.le_refl _) _) (offA_lowB HLo.out))
    generalize offA a cap m = ap at *
    generalize L - m = Lp at *
    generalize cap - m = cp at *
    go_wp2
    go_ret
    exact ⟨v, rfl, by rw [HRr.out, HX.out]; exact HN.out.2, by rw [HRr.out, HX.out]; exact HT.out.mem, by rw [HRr.out, HX.out]; exact HN.out.1⟩
end Go.Proofs.YtbcjhngpcodaoaaDoor
