/- Contract of the document's Read: every slice of bytes. -/
import Derived.Test.YtbcjhngpcodaoaaJR23
import Derived.Test.YtbcjhngpcodaoaaJRd
import Derived.Test.YtbcjhngpcodaoaaJRr
import Derived.Test.YtbcjhngpcodaoaaJGot2
import Derived.BigRegion
import Derived.Deep.RegionLaw
import Derived.Deep.DeepCutAuto
import Derived.Deep.CutBlock
import Derived.Outline
namespace Go.Proofs.Ytbcjhngpcodaoaa
open Go.RowKit
set_option linter.unusedVariables false
set_option maxRecDepth 100000

set_option maxHeartbeats 40000000 in
theorem rread_any (a : Option Addr) (len cap : Nat) (z : List Int) (w : World) (h : IsB w a len z) (hlow : ∀ x, len ≠ 0 → a = some x → x.block < w.heap.size) (hn : a = none → len = 0 ∧ cap = 0) (hlc : len ≤ cap) (hsm : len ≤ 9223372036854770000) :
    Calls Try.prog 14 #[.slice a len cap] w (ReadPost w z) := by
  have hm := h.2.1
  have hbd := fun k => bK_bd h.mem k
  have HI := Lib.hid h
  have HL := Lib.hid h.1
  have HLow := Lib.hid hlow
  have HN := Lib.hid hn
  have HC := Lib.hid hlc
  have HBd := Lib.hid hbd
  clear h hlow hn hlc hbd
  have HS0 := Lib.hid (show HInv w z 0 ((w.alloc (.cells #[.int .u64 0, .int .i64 0, .slice none 0 0, .slice none 0 0] 35)).alloc (.cells #[.int .u64 0, .int .i64 0, .slice none 0 0, .slice none 0 0] 35)) from by
    have h2 := two_boxes w (.cells #[.int .u64 0, .int .i64 0, .slice none 0 0, .slice none 0 0] 35) (.cells #[.int .u64 0, .int .i64 0, .slice none 0 0, .slice none 0 0] 35)
    exact ⟨h2.1, h2.2, bel0 _ (bel0 _ (Below.refl _ _))⟩)
  go_enter Try.func14, Try.ntmps14
  go_upto_block 0 with (fail)
  go_cut [5] (fun m wx => m = .int .i64 (many (bK z 2)) ∧ HInv w z 2 wx)
  case first =>
    go_wp2_with fail
    go_loopw [5, 16] (fun m i wr => ∃ k : Nat, k ≤ 2 ∧ i = .int .i64 (k : Int) ∧ m = .int .i64 (many (bK z k)) ∧ Hid (HInv w z k wr)) (fun _ i _ => 2 - (intOf i).toNat)
    case atStart => exact ⟨0, by omega, rfl, rfl, HS0⟩
    case round =>
      obtain ⟨k, hk, rfl, rfl, HR⟩ := hrel
      clear HS0
      by_cases hlt : k < 2
      · obtain ⟨A, hA⟩ : ∃ A : Nat, A = 64 * k := ⟨_, rfl⟩
        have hki : (k : Int) < 2 := by omega
        have hAc : 64 * (k : Int) = (A : Int) := by omega
        have hA0 : (0 : Int) ≤ (A : Int) := by omega
        have hA1 : (A : Int) ≤ 64 := by omega
        have HA := Lib.hid hA
        have HK := Lib.hid hlt
        clear hA hlt hk
        by_cases hlen : A + 64 ≤ len
        · have hAl : (A : Int) + 64 ≤ (len : Int) := by omega
          have hsl : ∀ W, (Instr.slice 26 (.slice a len cap) (some (.int .i64 (A : Int))) none none).run Try.prog W = .ok (.slice (offA a cap A) (len - A) (cap - A)) W := fun W => slice_l a len cap A (by omega) .i64 W
          have HP := Lib.hid (show IsB wr (offA a cap A) (len - A) (z.drop A) from isB_off (HI.out.below HR.out.bel HLow.out) (by omega) HC.out)
          have HPl := Lib.hid (show ∀ x, len - A ≠ 0 → offA a cap A = some x → x.block < wr.heap.size from fun x hx hy => Nat.lt_of_lt_of_le (offA_low (k := A) HLow.out x hx hy) HR.out.bel.size)
          have HPn := Lib.hid (show offA a cap A = none → len - A = 0 ∧ cap - A = 0 from fun hx => offA_nil (k := A) HN.out hx)
          have HPc := Lib.hid (show len - A ≤ cap - A ∧ 64 ≤ len - A from ⟨by have := HC.out; omega, by omega⟩)
          have HLen := Lib.hid (show 64 * (k + 1) ≤ z.length by rw [HL.out]; have := HA.out; omega)
          have HY := Lib.hid (show (z.drop A).take 64 = hAt z k by rw [HA.out]; rfl)
          have hr := hR_bd (hAt_range HI.out.mem k) (by rw [hAt_len HLen.out]; exact Nat.le_refl _)
          clear hlen
          generalize offA a cap A = ap at *
          generalize cap - A = cp at *
          generalize len - A = lp at *
          have q0 := frozen_of_row _ _ 0 _ _ HR.out.found
          have q1 := frozen_of_row _ _ 1 _ _ HR.out.found
          have f := fun j => cell_of_row _ _ j _ _ _ HR.out.found
          have Hf := Lib.hid f
          clear f q0 q1
          go_wp2_with fail
          refine (rhead_any ap lp cp (z.drop A) _ HP.out HPl.out HPn.out HPc.out.1 HPc.out.2).mono ?_
          rintro e w1 ⟨rfl, hb1⟩
          rw [HY.out]
          have HR1 := Lib.hid (HR.out.later hb1)
          clear hb1
          have x0 := cell_of_row _ _ 0 _ _ _ HR1.out.found
          have x1 := cell_of_row _ _ 1 _ _ _ HR1.out.found
          have x2 := cell_of_row _ _ 2 _ _ _ HR1.out.found
          have x3 := cell_of_row _ _ 3 _ _ _ HR1.out.found
          simp only [foundX, List.getElem?_toArray, List.getElem?_cons_zero, List.getElem?_cons_succ] at x0 x1 x2 x3
          have y0 := frozen_of_row _ _ 0 _ _ HR1.out.found
          have y1 := frozen_of_row _ _ 1 _ _ HR1.out.found
          have y2 := frozen_of_row _ _ 2 _ _ HR1.out.found
          have y3 := frozen_of_row _ _ 3 _ _ HR1.out.found
          by_cases hok : hOk (hAt z k) = true
          · by_cases hmy : many (bK z k) < hR (hAt z k)
            · have HE := Lib.hid (bK_some HLen.out hok (by
                unfold many at hmy
                by_cases hb : (bK z k).1 = true
                · rw [if_pos hb] at hmy; exact .inr hmy
                · exact .inl (by simpa using hb)))
              rw [hok]
              clear hok
              go_wp2
              go_roundw
              case rel => exact ⟨k + 1, by have := HK.out; omega, by go_num, by rw [HE.out]; rfl, Lib.hid (HR1.out.set HE.out)⟩
              case measure => have := HK.out; simp [intOf]; omega
            · have HE := Lib.hid (bK_not (z := z) (k := k) (by
                by_cases hb : (bK z k).1 = true
                · exact hb
                · unfold many at hmy; rw [if_neg hb] at hmy; omega) (by
                unfold many at hmy
                by_cases hb : (bK z k).1 = true
                · rw [if_pos hb] at hmy; omega
                · rw [if_neg hb] at hmy; omega))
              rw [hok]
              have hmy' : hR (hAt z k) ≤ many (bK z k) := by omega
              clear hok hmy
              go_wp2
              go_roundw
              case rel => exact ⟨k + 1, by have := HK.out; omega, by go_num, by rw [HE.out], Lib.hid (HR1.out.same HE.out)⟩
              case measure => have := HK.out; simp [intOf]; omega
          · have hok' : hOk (hAt z k) = false := by simpa using hok
            have HE := Lib.hid (bK_bad (z := z) (k := k) hok')
            rw [hok']
            clear hok hok'
            go_wp2
            go_roundw
            case rel => exact ⟨k + 1, by have := HK.out; omega, by go_num, by rw [HE.out], Lib.hid (HR1.out.same HE.out)⟩
            case measure => have := HK.out; simp [intOf]; omega
        · have hAl : (len : Int) < (A : Int) + 64 := by omega
          have HE := Lib.hid (show bK z 2 = bK z k from by
            have h1 : k = 0 ∨ k = 1 := by have := HK.out; omega
            have := HA.out
            have := HL.out
            rcases h1 with rfl | rfl
            · rw [bK_less (k := 1) (by omega), bK_less (k := 0) (by omega)]
            · rw [bK_less (k := 1) (by omega)])
          clear hlen
          go_wp2
          go_meet
          exact ⟨by rw [HE.out], HR.out.same HE.out⟩
      · obtain rfl : k = 2 := by omega
        go_wp2
        go_meet
        exact ⟨rfl, HR.out⟩
  case rest =>
    obtain ⟨rfl, hr⟩ := hcut
    have HR0 := Lib.hid hr
    clear hr HS0
    by_cases hv : (bK z 2).1 = false
    · have HE := Lib.hid (allR_none hv)
      rw [show many (bK z 2) = -1 by unfold many; rw [hv]; rfl]
      have u0 := cell_of_row _ _ 0 _ _ _ HR0.out.box
      have u1 := cell_of_row _ _ 1 _ _ _ HR0.out.box
      have u2 := cell_of_row _ _ 2 _ _ _ HR0.out.box
      have u3 := cell_of_row _ _ 3 _ _ _ HR0.out.box
      simp only [foundX, List.getElem?_toArray, List.getElem?_cons_zero, List.getElem?_cons_succ] at u0 u1 u2 u3
      have y0 := frozen_of_row _ _ 0 _ _ HR0.out.box
      have y1 := frozen_of_row _ _ 1 _ _ HR0.out.box
      have y2 := frozen_of_row _ _ 2 _ _ HR0.out.box
      have y3 := frozen_of_row _ _ 3 _ _ HR0.out.box
      clear hv
      go_wp2
      refine bodyPost_ret (v := .tuple #[found0, .bool false]) (by simp [results, Try.results14, go_sem, found0, u0, u1, u2, u3]) rfl ⟨⟨found0, by rw [HE.out], found_none _ _ HE.out⟩, ?_⟩
      repeat (first | exact HR0.out.bel | (refine Below.setCell ?_ (by simp) _))
    · have hv' : (bK z 2).1 = true := by simpa using hv
      have HV := Lib.hid hv'
      have HB2 := Lib.hid (HBd.out 2)
      have hr0 := (HBd.out 2).2.2.1
      have hr1 := (HBd.out 2).2.2.2
      rw [show many (bK z 2) = (bK z 2).2.2.2 by unfold many; rw [hv']; rfl]
      have HS0 := Lib.hid (show RInvR w z 0 (.slice none 0 0) (.slice none 0 0) [] wc from ⟨HR0.out.box, HR0.out.found, Got.nil _ _, HR0.out.bel⟩)
      clear hv hv'
      go_wp2
      go_loopw [50] (fun i wr => ∃ (k : Nat) (v1 v2 : Value) (xs : List Value), (k : Int) ≤ (bK z 2).2.2.2 ∧ i = .int .i64 (k : Int) ∧ Hid (∀ j, j < k → goodR (bK z 2).2.1 z j = true) ∧ Hid (RInvR w z k v1 v2 xs wr)) (fun i _ => ((bK z 2).2.2.2 - intOf i).toNat)
      case atStart => exact ⟨0, _, _, _, hr0, rfl, Lib.hid (fun j hj => absurd hj (Nat.not_lt_zero _)), HS0⟩
      case round =>
        obtain ⟨k, v1, v2, xs, hk, rfl, HG, HR⟩ := hrel
        clear HS0 HR0
        obtain ⟨a1, n1, c1, rfl⟩ := own_slice HR.out.got.own1
        obtain ⟨a2, n2, c2, rfl⟩ := own_slice HR.out.got.own2
        have u0 := cell_of_row _ _ 0 _ _ _ HR.out.box
        have u1 := cell_of_row _ _ 1 _ _ _ HR.out.box
        have u2 := cell_of_row _ _ 2 _ _ _ HR.out.box
        have u3 := cell_of_row _ _ 3 _ _ _ HR.out.box
        simp only [foundX, List.getElem?_toArray, List.getElem?_cons_zero, List.getElem?_cons_succ] at u0 u1 u2 u3
        have y0 := frozen_of_row _ _ 0 _ _ HR.out.box
        have y1 := frozen_of_row _ _ 1 _ _ HR.out.box
        have y2 := frozen_of_row _ _ 2 _ _ HR.out.box
        have y3 := frozen_of_row _ _ 3 _ _ HR.out.box
        by_cases hlt : (k : Int) < (bK z 2).2.2.2
        · have hk0 : (0 : Int) ≤ (k : Int) := by omega
          have hk1 : (k : Int) ≤ 10000 := by omega
          obtain ⟨A, hA⟩ : ∃ A : Nat, A = 128 + 576 * k := ⟨_, rfl⟩
          have hAc : 128 + 576 * (k : Int) = (A : Int) := by omega
          have hA0 : (0 : Int) ≤ (A : Int) := by omega
          have hA1 : (A : Int) ≤ 6000000 := by omega
          have HA := Lib.hid hA
          clear hA
          by_cases hlen : A + 576 ≤ len
          · have hAl : (A : Int) + 576 ≤ (len : Int) := by omega
            have hw4 : IntKind.i64.wrap ((A : Int) + 4) = (A : Int) + 4 := by rw [IntKind.wrap_i64]; omega
            have hw5 : IntKind.i64.wrap ((A : Int) + 516) = (A : Int) + 516 := by rw [IntKind.wrap_i64]; omega
            have hw6 : IntKind.i64.wrap ((A : Int) + 576) = (A : Int) + 576 := by rw [IntKind.wrap_i64]; omega
            have hc := HC.out
            have hs1 : ∀ W, (Instr.slice 26 (.slice a len cap) (some (.int .i64 (A : Int))) none none).run Try.prog W = .ok (.slice (offA a cap A) (len - A) (cap - A)) W := fun W => slice_l a len cap A (by omega) .i64 W
            have hs2 : ∀ W, (Instr.slice 26 (.slice a len cap) (some (.int .i64 ((A : Int) + 4))) (some (.int .i64 ((A : Int) + 516))) none).run Try.prog W = .ok (.slice (offA a cap (A + 4)) 512 (cap - (A + 4))) W := fun W => by
              have := slice_lh a len cap (A + 4) (A + 516) (by omega) (by omega) .i64 .i64 W
              rw [show A + 516 - (A + 4) = 512 by omega] at this
              simpa using this
            have hs3 : ∀ W, (Instr.slice 26 (.slice a len cap) (some (.int .i64 (A : Int))) (some (.int .i64 ((A : Int) + 576))) none).run Try.prog W = .ok (.slice (offA a cap A) 576 (cap - A)) W := fun W => by
              have := slice_lh a len cap A (A + 576) (by omega) (by omega) .i64 .i64 W
              rw [show A + 576 - A = 576 by omega] at this
              simpa using this
            have HIw := HI.out.below HR.out.bel HLow.out
            have HP := Lib.hid (show IsB wr (offA a cap A) (len - A) (z.drop A) from isB_off HIw (by omega) hc)
            have HLp := Lib.hid (show 4 ≤ len - A by omega)
            have HPy := Lib.hid (show IsB wr (offA a cap A) 576 (rAt z k) from by
              have := isB_part (k := A) (n := 576) HIw hlen hc
              rw [HA.out] at this ⊢
              exact this)
            have HPyl := Lib.hid (show ∀ x, 576 ≠ 0 → offA a cap A = some x → x.block < wr.heap.size from fun x _ hx => Nat.lt_of_lt_of_le (offA_low (k := A) HLow.out x (by omega) hx) HR.out.bel.size)
            have HPyn := Lib.hid (show offA a cap A = none → 576 = 0 ∧ cap - A = 0 from fun hx => by have := offA_nil (k := A) HN.out hx; omega)
            have HP4 := Lib.hid (show IsB wr (offA a cap (A + 4)) 512 (rD (rAt z k)) from by
              have := isB_part (k := A + 4) (n := 512) HIw (by omega) hc
              rw [show (z.drop (A + 4)).take 512 = rD (rAt z k) by rw [HA.out]; exact rD_drop z k] at this
              exact this)
            have HP4w := Lib.hid (show IsB w (offA a cap (A + 4)) 512 (rD (rAt z k)) from by
              have := isB_part (k := A + 4) (n := 512) HI.out (by omega) hc
              rw [show (z.drop (A + 4)).take 512 = rD (rAt z k) by rw [HA.out]; exact rD_drop z k] at this
              exact this)
            have HP4wl := Lib.hid (show ∀ x, (512 : Nat) ≠ 0 → offA a cap (A + 4) = some x → x.block < w.heap.size from fun x _ hx => offA_low (k := A + 4) HLow.out x (by omega) hx)
            have HP4l := Lib.hid (show ∀ x, (512 : Nat) ≠ 0 → offA a cap (A + 4) = some x → x.block < wr.heap.size from fun x _ hx => Nat.lt_of_lt_of_le (offA_low (k := A + 4) HLow.out x (by omega) hx) HR.out.bel.size)
            have HP4n := Lib.hid (show offA a cap (A + 4) = none → (512 : Nat) = 0 ∧ cap - (A + 4) = 0 from fun hx => by have := offA_nil (k := A + 4) HN.out hx; omega)
            have HLen := Lib.hid (show 128 + 576 * (k + 1) ≤ z.length by rw [HL.out]; have := HA.out; omega)
            have HYl := Lib.hid (rAt_len HLen.out)
            have HYr := Lib.hid (rAt_range HI.out.mem k)
            have HDl := Lib.hid (rD_len HYl.out)
            have HDr := Lib.hid (rD_range HYr.out)
            have bN := rN_bd HYr.out (by rw [HYl.out]; omega)
            have cv := i64_small bN
            have HBn := Lib.hid bN
            have HRN := Lib.hid (show numN ((z.drop A).take 4) = rN (rAt z k) by rw [HA.out]; exact rN_drop z k)
            have HKk := Lib.hid (show (k : Int) < (bK z 2).2.2.2 ∧ (k : Int) ≤ 10000 from ⟨hlt, hk1⟩)
            have HGd := Lib.hid (goodR_in (s := (bK z 2).2.1) HLen.out)
            clear hlen hk hc HIw bN
            generalize offA a cap A = ap at *
            generalize offA a cap (A + 4) = ap4 at *
            generalize cap - A = cp at *
            generalize cap - (A + 4) = cp4 at *
            generalize len - A = lp at *
            go_wp2_with fail
            refine (of_any ap lp cp (z.drop A) _ HP.out HLp.out).mono ?_
            rintro e w0 ⟨rfl, nd0, hw0⟩
            have hb0 : Below wr.heap.size wr w0 := by rw [hw0]; exact drewB
            have HR1 := Lib.hid (HR.out.later hb0)
            have HB1 := Lib.hid hb0
            have HP4' := Lib.hid (HP4.out.below hb0 HP4l.out)
            have HP4l' := Lib.hid (fun x (h : (512 : Nat) ≠ 0) hx => Nat.lt_of_lt_of_le (HP4l.out x h hx) hb0.size)
            rw [HRN.out]
            clear hw0 hb0 hs1 u0 u1 u2 u3 y0 y1 y2 y3
            generalize hy : rAt z k = y at *
            have Hy := Lib.hid hy
            clear hy
            have q0 : w0.cell? ⟨w.heap.size + 1, 0, none⟩ = some (.int .u64 (bK z 2).2.1) := cell_of_row _ _ 0 _ _ _ HR1.out.found
            by_cases hin : rN y ≤ 10000
            · have HIn := Lib.hid hin
              clear hin
              go_upto_region 20 with (fail)
              go_region_law (first
                | (go_simp; go_at_call 67; refine (rrecord_good (bK z 2).2.1 (rN y) ap4 cp4 (rD y) _ HB2.out.1.1 HB2.out.1.2 ⟨HBn.out.1, HIn.out⟩ (by exact HP4'.out) (by exact HP4l'.out) HP4n.out).mono ?_; rintro e w8 ⟨v8, rfl, hown8, hb8⟩; have hb9 : Below w0.heap.size w0 w8 := ⟨hb8.os, hb8.tape, hb8.output, hb8.size, hb8.block⟩; have HB8 := Lib.hid hb9; rw [recK_length (bK z 2).2.1 (rN y) HDl.out] at hown8; obtain ⟨gr, cr, rfl⟩ := own_addr hown8 (by omega); have HIr := Lib.hid (own_isB hown8 (recK_length _ (rN y) HDl.out) (recK_range _ (rN y) HDr.out)); clear hown8 hb8 hb9))
              have HR8 := Lib.hid (HR1.out.later HB8.out)
              have HPy8 := Lib.hid (HPy.out.below (bt HB1.out HB8.out) HPyl.out)
              have t1 := fun n => str_any (cb := cr) (w := w8.drewN n) HIr.out (by intro h; cases h)
              have t2 := fun n => str_any (cb := cp) (w := w8.drewN n) HPy8.out HPyn.out
              have he := eq_str (recK (bK z 2).2.1 (rN y) (rD y)) y (recK_range _ (rN y) HDr.out) HYr.out
              by_cases hq : recK (bK z 2).2.1 (rN y) (rD y) = y
              · have HO := Lib.hid (show rOk (bK z 2).2.1 y = true by rw [rOk_eq HIn.out, decide_eq_true hq])
                rw [decide_eq_true hq] at he
                clear hq
                generalize strOfNums (recK (bK z 2).2.1 (rN y) (rD y)) = X1 at *
                generalize strOfNums y = X2 at *
                have HS2 := Lib.hid hs2
                have HW4 := Lib.hid hw4
                have HW5 := Lib.hid hw5
                clear hs2 hw4 hw5 q0 cv
                go_upto_region 21 with (fail)
                go_quiet (fail)
                obtain ⟨w9, hw9⟩ : ∃ w9, w9 = w8.drewN nq := ⟨_, rfl⟩
                rw [← hw9]
                have hb9 : Below w8.heap.size w8 w9 := by rw [hw9]; exact drewB
                have HR9 := Lib.hid (HR8.out.later hb9)
                clear hw9 hb9 t1 t2 he hs3 hw6
                go_upto_region 23 with (fail)
                have hs2 := HS2.out
                have hw4 := HW4.out
                have hw5 := HW5.out
                have f2 : w9.cell? ⟨w.heap.size + 1, 2, none⟩ = some (.slice a1 n1 c1) := cell_of_row _ _ 2 _ _ _ HR9.out.found
                have f3 : w9.cell? ⟨w.heap.size + 1, 3, none⟩ = some (.slice a2 n2 c2) := cell_of_row _ _ 3 _ _ _ HR9.out.found
                have y2 := frozen_of_row _ _ 2 _ _ HR9.out.found
                have y3 := frozen_of_row _ _ 3 _ _ HR9.out.found
                have hF9 := HR9.out.size
                have hF9' : w.heap.size + 1 < w9.heap.size + 1 := by omega
                have hF9'' : w.heap.size + 1 < w9.heap.size + 1 + 1 := by omega
                clear f2 f3 y2 y3 hF9 hF9' hF9'' hs2 hw4 hw5
                refine wp_mono (reg23_any a a1 a2 ap4 len cap n1 c1 n2 c2 cp4 A k z y xs w w9 _ _ _ _ _ _ _ _ _ _ _ _ _ _ _ _ _ _ _ _ _ _ _ _ _ _ _ _ _ _ _ _ _ _ _ _ _ _ _ _ _ _ _ _ _ _ _ _ _ _ _ _ _ _ _ _ _ _ _ _ _ _ _ _ _ _ _ _ _ _ _ _ _ _ _ _ _ _ _ _ _ _ _ _ _ _ _ _ _ _ _ _ _ _ _ _ _ _ _ _ _ _ _ _ _ _ _ _ _ _ _ HR9.out HKk.out.2 ⟨hA0, hA1⟩ HS2.out HP4w.out HP4wl.out HP4n.out HDl.out HDr.out Hy.out) ?_
                rintro e a' w' ⟨rfl, ⟨u94, u95, u96, u97, u98, u99, u100, u101, u102, u103, u104, u105, u106, u107, u108, u109, u110, u111, u112, rfl⟩, v1', v2', xs', hN9⟩
                have HN9 := Lib.hid hN9
                clear hN9
                go_wp2
                go_roundw
                case rel => exact ⟨k + 1, _, _, _, by have := HKk.out.1; omega, by go_num, Lib.hid (fun j hj => by
                  rcases Nat.lt_succ_iff_lt_or_eq.1 hj with h | rfl
                  · exact HG.out j h
                  · rw [HGd.out]; exact HO.out), HN9⟩
                case measure => have := HKk.out.1; simp [intOf]; omega
              · have HO := Lib.hid (show rOk (bK z 2).2.1 y = false by rw [rOk_eq HIn.out, decide_eq_false hq])
                have HE := Lib.hid (allR_no (z := z) k HKk.out.1 (by rw [HGd.out]; exact HO.out))
                rw [decide_eq_false hq] at he
                clear hq
                generalize strOfNums (recK (bK z 2).2.1 (rN y) (rD y)) = X1 at *
                generalize strOfNums y = X2 at *
                clear hs2 hw4 hw5 q0 cv
                go_upto_region 21 with (fail)
                go_quiet (fail)
                have hw8 : ∃ w9, w9 = w8.drewN nq := ⟨_, rfl⟩
                obtain ⟨w9, hw9⟩ := hw8
                rw [← hw9]
                have hb9 : Below w8.heap.size w8 w9 := by rw [hw9]; exact drewB
                have HR9 := Lib.hid (HR8.out.later hb9)
                clear hw9 hb9 t1 t2 he hs3
                have u0 := cell_of_row _ _ 0 _ _ _ HR9.out.box
                have u1 := cell_of_row _ _ 1 _ _ _ HR9.out.box
                have u2 := cell_of_row _ _ 2 _ _ _ HR9.out.box
                have u3 := cell_of_row _ _ 3 _ _ _ HR9.out.box
                simp only [foundX, List.getElem?_toArray, List.getElem?_cons_zero, List.getElem?_cons_succ] at u0 u1 u2 u3
                have y0 := frozen_of_row _ _ 0 _ _ HR9.out.box
                have y1 := frozen_of_row _ _ 1 _ _ HR9.out.box
                have y2 := frozen_of_row _ _ 2 _ _ HR9.out.box
                have y3 := frozen_of_row _ _ 3 _ _ HR9.out.box
                go_wp2
                refine bodyPost_ret (v := .tuple #[found0, .bool false]) (by simp [results, Try.results14, go_sem, found0, u0, u1, u2, u3]) rfl ⟨⟨found0, by rw [HE.out], found_none _ _ HE.out⟩, ?_⟩
                repeat (first | exact HR9.out.bel | (refine Below.setCell ?_ (by simp) _))
            · have HO := Lib.hid (rOk_out (s := (bK z 2).2.1) hin)
              have HE := Lib.hid (allR_no (z := z) k HKk.out.1 (by rw [HGd.out]; exact HO.out))
              have HIn := Lib.hid (show 10000 < rN y by omega)
              clear hin
              go_upto_region 20 with (fail)
              go_cut [14, 15] from 67 to 79 (fun r e wx => r = .slice none 0 0 ∧ e = .int .i64 1 ∧ Below w0.heap.size w0 wx)
              case first =>
                go_region_law (first
                  | (go_simp; go_at_call 67; refine (rrecord_bad (bK z 2).2.1 (rN y) ap4 512 cp4 _ (fun h => by have := HIn.out; have := h.1.2; omega)).mono ?_; rintro e w8 ⟨rfl, hb8⟩; have hb9 : Below w0.heap.size w0 w8 := ⟨hb8.os, hb8.tape, hb8.output, hb8.size, hb8.block⟩; have HB8 := Lib.hid hb9; clear hb8 hb9))
                go_wp2_with fail
                go_meet
                exact ⟨rfl, rfl, HB8.out⟩
              case rest =>
                obtain ⟨rfl, rfl, hb8⟩ := hcut
                have HB8 := Lib.hid hb8
                clear hb8
                clear hs2 hs3 hw4 hw5 hw6 q0 cv
                go_upto_region 21 with (fail)
                go_quiet (fail)
                have hw8 : ∃ w9, w9 = wc.drewN nq := ⟨_, rfl⟩
                obtain ⟨w9, hw9⟩ := hw8
                rw [← hw9]
                have hb9 : Below wc.heap.size wc w9 := by rw [hw9]; exact drewB
                have HR9 := Lib.hid (HR1.out.later (bt HB8.out hb9))
                clear hw9 hb9
                have u0 := cell_of_row _ _ 0 _ _ _ HR9.out.box
                have u1 := cell_of_row _ _ 1 _ _ _ HR9.out.box
                have u2 := cell_of_row _ _ 2 _ _ _ HR9.out.box
                have u3 := cell_of_row _ _ 3 _ _ _ HR9.out.box
                simp only [foundX, List.getElem?_toArray, List.getElem?_cons_zero, List.getElem?_cons_succ] at u0 u1 u2 u3
                have y0 := frozen_of_row _ _ 0 _ _ HR9.out.box
                have y1 := frozen_of_row _ _ 1 _ _ HR9.out.box
                have y2 := frozen_of_row _ _ 2 _ _ HR9.out.box
                have y3 := frozen_of_row _ _ 3 _ _ HR9.out.box
                go_wp2
                refine bodyPost_ret (v := .tuple #[found0, .bool false]) (by simp [results, Try.results14, go_sem, found0, u0, u1, u2, u3]) rfl ⟨⟨found0, by rw [HE.out], found_none _ _ HE.out⟩, ?_⟩
                repeat (first | exact HR9.out.bel | (refine Below.setCell ?_ (by simp) _))
          · have hAl : (len : Int) < (A : Int) + 576 := by omega
            have HE := Lib.hid (allR_no (z := z) k hlt (goodR_out (by rw [HL.out]; have := HA.out; omega)))
            clear hlen
            go_wp2
            refine bodyPost_ret (v := .tuple #[found0, .bool false]) (by simp [results, Try.results14, go_sem, found0, u0, u1, u2, u3]) rfl ⟨⟨found0, by rw [HE.out], found_none _ _ HE.out⟩, ?_⟩
            repeat (first | exact HR.out.bel | (refine Below.setCell ?_ (by simp) _))
        · have HE := Lib.hid (allR_yes HV.out k (by omega) HG.out)
          have HK := Lib.hid (show (bK z 2).2.2.2.toNat = k by omega)
          have t0 := cell_of_row _ _ 0 _ _ _ HR.out.found
          have t1 := cell_of_row _ _ 1 _ _ _ HR.out.found
          have t2 := cell_of_row _ _ 2 _ _ _ HR.out.found
          have t3 := cell_of_row _ _ 3 _ _ _ HR.out.found
          simp only [foundX, List.getElem?_toArray, List.getElem?_cons_zero, List.getElem?_cons_succ] at t0 t1 t2 t3
          go_wp2
          refine bodyPost_ret (v := .tuple #[.agg (foundX (bK z 2).2.1 (bK z 2).2.2.1 (.slice a1 n1 c1) (.slice a2 n2 c2)), .bool true]) (by simp [results, Try.results14, go_sem, foundX, t0, t1, t2, t3, u0, u1, u2, u3]) rfl ⟨⟨.agg (foundX (bK z 2).2.1 (bK z 2).2.2.1 (.slice a1 n1 c1) (.slice a2 n2 c2)), by rw [HE.out], ?_⟩, ?_⟩
          · unfold tS tP tN tD
            rw [HE.out, HK.out]
            simp only [if_true]
            refine Got.found (F := w.heap.size + 1) (xs := xs) ?_ (by omega)
            have hle : w.heap.size ≤ w.heap.size + 1 := by omega
            exact (((HR.out.got.setK hle 0 _).setK hle 1 _).setK hle 2 _).setK hle 3 _
          · repeat (first | exact HR.out.bel | (refine Below.setCell ?_ (by simp) _))
end Go.Proofs.Ytbcjhngpcodaoaa
