/- Contracts of node's Size and Encode. -/
import Derived.Test.YtbcjhngpcodaoaaDoorNdWrite
namespace Go.Proofs.YtbcjhngpcodaoaaDoor
open Go.RowKit
set_option linter.unusedVariables false
set_option maxRecDepth 100000

/-- a node's bytes and its error -/
def encA (lf : Bool) (ks vs : List (List Int)) (is : List Int) : List Int × Int :=
  if nFormB lf ks vs is = false then ([], 1) else if 508 < (nodeB lf ks vs is).length then ([], 14) else (nodeB lf ks vs is, 0)
def sizeA (lf : Bool) (ks vs : List (List Int)) (is : List Int) : Int := if nFormB lf ks vs is = false then 0 else ((nodeB lf ks vs is).length : Int)
/-- what Encode answers -/
def EncAns (w : World) (lf : Bool) (ks vs : List (List Int)) (is : List Int) (e : Ending) (w' : World) : Prop :=
  ∃ v, e = .returned (.tuple #[v, .int .i64 (encA lf ks vs is).2]) ∧ OwnB w v (encA lf ks vs is).1 w'
theorem nodeB_len {lf : Bool} {ks vs : List (List Int)} {is : List Int} (h : nFormB lf ks vs is = true) (hk : ks.length ≤ 300) : (nodeB lf ks vs is).length ≤ 700000 := by
  unfold nodeB
  rw [List.length_append]
  have h1 := headB_len lf ks.length is
  have h2 := entsB_len is (lf := lf) (ks := ks) (vs := vs) (k := ks.length) (formed_short h)
  omega

set_option maxHeartbeats 3200000 in
theorem encode_any (lf : Bool) (ka va ia : Option Addr) (kl kc vl vc il ic : Nat) (ks vs : List (List Int)) (is : List Int) (w : World) (hN : Nd w ka kl va vl ia il ks vs is) (hF : FewN kl vl ks vs) :
    Calls Tryd.prog 8 #[.agg #[.bool lf, .slice ka kl kc, .slice va vl vc, .slice ia il ic]] w (EncAns w lf ks vs is) := by
  obtain ⟨W0, hW0⟩ : ∃ W0, W0 = w.alloc (.cells #[.bool lf, .slice ka kl kc, .slice va vl vc, .slice ia il ic] 28) := ⟨_, rfl⟩
  have hnew : W0.heap[w.heap.size]? = some (.cells #[.bool lf, .slice ka kl kc, .slice va vl vc, .slice ia il ic] 28 (0, 0)) := by rw [hW0]; exact Go.heap_alloc_new w _
  have hb0 : Below w.heap.size w W0 := by rw [hW0]; exact bel0 _ (Below.refl _ _)
  have HB0 := Lib.hid hb0
  have HN := Lib.hid (hN.below hb0)
  have HNew := Lib.hid hnew
  have HFw := Lib.hid hF
  have HW := Lib.hid hW0
  have HL := Lib.hid (show ks.length ≤ 300 by rw [hN.keys.1]; exact hF.1)
  clear hN hb0 hF hnew
  obtain ⟨q0, q1, q2, q3⟩ := box_four w (.bool lf) (.slice ka kl kc) (.slice va vl vc) (.slice ia il ic) 28
  rw [← hW0] at q0 q1 q2 q3
  go_enter Tryd.func8, Tryd.ntmps8
  go_upto_region 1 with (fail)
  clear hW0
  rw [← HW.out]
  go_wp2_with fail
  refine (formed_any lf ka va ia kl kc vl vc il ic ks vs is _ HN.out HFw.out).mono ?_
  rintro e w1 ⟨rfl, hb1⟩
  have HB1 := Lib.hid (bt HB0.out hb1)
  have HN1 := Lib.hid (HN.out.below hb1)
  have hnew1 := (hb1.block _ (Array.getElem?_eq_some_iff.1 HNew.out).1).trans HNew.out
  clear hb1 q0 q1 q2 q3
  have q0 := cell_of_row _ _ 0 _ _ _ hnew1
  have q1 := cell_of_row _ _ 1 _ _ _ hnew1
  have q2 := cell_of_row _ _ 2 _ _ _ hnew1
  have q3 := cell_of_row _ _ 3 _ _ _ hnew1
  simp only [List.getElem?_toArray, List.getElem?_cons_zero, List.getElem?_cons_succ] at q0 q1 q2 q3
  clear hnew1
  cases hf : nFormB lf ks vs is with
  | false =>
    have HX := Lib.hid (show encA lf ks vs is = ([], 1) by unfold encA; rw [if_pos hf])
    clear hf
    go_wp2
    go_ret2
    exact ⟨.slice none 0 0, by rw [HX.out]; rfl, by rw [HX.out]; exact ⟨World.ownsRow_nil _ _ _ _, by simp, HB1.out⟩⟩
  | true =>
    have HFm := Lib.hid hf
    have HLn := Lib.hid (nodeB_len hf HL.out)
    clear hf
    go_wp2_with fail
    refine (write_any lf ka va ia kl kc vl vc il ic ks vs is w1 HN1.out HFw.out HFm.out).mono ?_
    rintro e w2 ⟨⟨v, rfl, ho, hb⟩, hr⟩
    have HO := Lib.hid (show OwnB w v (nodeB lf ks vs is) w2 from ⟨ownsRow_base ho HB1.out.size, hr, bt HB1.out hb⟩)
    obtain ⟨a, L, cap, rfl, hL, hI, _, _, _, _⟩ := own_any HO.out.1 HO.out.2.1
    have HLe := Lib.hid hL
    have hLi : (L : Int) ≤ 700000 := by have := HLn.out; omega
    clear ho hb hr hL hI q0 q1 q2 q3
    by_cases hg : 508 < (L : Int)
    · have HX := Lib.hid (show encA lf ks vs is = ([], 14) by unfold encA; rw [if_neg (by rw [HFm.out]; decide), if_pos (by have := HLe.out; omega)])
      go_wp2
      go_ret2
      exact ⟨.slice none 0 0, by rw [HX.out]; rfl, by rw [HX.out]; exact ⟨World.ownsRow_nil _ _ _ _, by simp, HO.out.2.2⟩⟩
    · have hg' : (L : Int) ≤ 508 := by omega
      have HX := Lib.hid (show encA lf ks vs is = (nodeB lf ks vs is, 0) by unfold encA; rw [if_neg (by rw [HFm.out]; decide), if_neg (by have := HLe.out; omega)])
      clear hg
      go_wp2
      go_ret2
      exact ⟨.slice a L cap, by rw [HX.out]; rfl, by rw [HX.out]; exact HO.out⟩

set_option maxHeartbeats 3200000 in
theorem size_any (lf : Bool) (ka va ia : Option Addr) (kl kc vl vc il ic : Nat) (ks vs : List (List Int)) (is : List Int) (w : World) (hN : Nd w ka kl va vl ia il ks vs is) (hF : FewN kl vl ks vs) :
    Calls Tryd.prog 12 #[.agg #[.bool lf, .slice ka kl kc, .slice va vl vc, .slice ia il ic]] w fun e w' => e = .returned (.int .i64 (sizeA lf ks vs is)) ∧ Below w.heap.size w w' := by
  obtain ⟨W0, hW0⟩ : ∃ W0, W0 = w.alloc (.cells #[.bool lf, .slice ka kl kc, .slice va vl vc, .slice ia il ic] 28) := ⟨_, rfl⟩
  have hnew : W0.heap[w.heap.size]? = some (.cells #[.bool lf, .slice ka kl kc, .slice va vl vc, .slice ia il ic] 28 (0, 0)) := by rw [hW0]; exact Go.heap_alloc_new w _
  have hb0 : Below w.heap.size w W0 := by rw [hW0]; exact bel0 _ (Below.refl _ _)
  have HB0 := Lib.hid hb0
  have HN := Lib.hid (hN.below hb0)
  have HNew := Lib.hid hnew
  have HFw := Lib.hid hF
  have HW := Lib.hid hW0
  clear hN hb0 hF hnew
  obtain ⟨q0, q1, q2, q3⟩ := box_four w (.bool lf) (.slice ka kl kc) (.slice va vl vc) (.slice ia il ic) 28
  rw [← hW0] at q0 q1 q2 q3
  obtain ⟨sz, hsz⟩ : ∃ sz, sz = sizeA lf ks vs is := ⟨_, rfl⟩
  rw [← hsz]
  have HSz := Lib.hid hsz
  clear hsz
  go_enter Tryd.func12, Tryd.ntmps12
  go_upto_region 1 with (fail)
  clear hW0
  rw [← HW.out]
  go_wp2_with fail
  refine (formed_any lf ka va ia kl kc vl vc il ic ks vs is _ HN.out HFw.out).mono ?_
  rintro e w1 ⟨rfl, hb1⟩
  have HB1 := Lib.hid (bt HB0.out hb1)
  have HN1 := Lib.hid (HN.out.below hb1)
  have hnew1 := (hb1.block _ (Array.getElem?_eq_some_iff.1 HNew.out).1).trans HNew.out
  clear hb1 q0 q1 q2 q3
  have q0 := cell_of_row _ _ 0 _ _ _ hnew1
  have q1 := cell_of_row _ _ 1 _ _ _ hnew1
  have q2 := cell_of_row _ _ 2 _ _ _ hnew1
  have q3 := cell_of_row _ _ 3 _ _ _ hnew1
  simp only [List.getElem?_toArray, List.getElem?_cons_zero, List.getElem?_cons_succ] at q0 q1 q2 q3
  clear hnew1
  cases hf : nFormB lf ks vs is with
  | false =>
    have HX := Lib.hid (show sizeA lf ks vs is = 0 by unfold sizeA; rw [if_pos hf])
    clear hf
    go_wp2
    go_ret
    exact ⟨by rw [HSz.out, HX.out]; rfl, HB1.out⟩
  | true =>
    have HFm := Lib.hid hf
    have HX := Lib.hid (show sizeA lf ks vs is = ((nodeB lf ks vs is).length : Int) by unfold sizeA; rw [if_neg (by rw [hf]; decide)])
    clear hf
    go_wp2_with fail
    refine (write_any lf ka va ia kl kc vl vc il ic ks vs is w1 HN1.out HFw.out HFm.out).mono ?_
    rintro e w2 ⟨⟨v, rfl, ho, hb⟩, hr⟩
    have HB2 := Lib.hid (bt HB1.out hb)
    obtain ⟨a, L, cap, rfl, hL, hI, _, _, _, _⟩ := own_any ho hr
    have HLe := Lib.hid hL
    clear ho hb hr hL hI
    go_wp2
    go_ret
    exact ⟨by rw [HSz.out, HX.out, ← HLe.out]; rfl, HB2.out⟩
end Go.Proofs.YtbcjhngpcodaoaaDoor
