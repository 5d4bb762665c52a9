/- Contract of journal's readRecord: every five hundred and seventy-six bytes. -/
import Derived.Test.YtbcjhngpcodaoaaJRh
import Derived.Test.YtbcjhngpcodaoaaApp2
import Derived.Test.YtbcjhngpcodaoaaApp1
namespace Go.Proofs.Ytbcjhngpcodaoaa
open Go.RowKit
set_option linter.unusedVariables false
set_option maxRecDepth 100000

/-- what readRecord answers -/
def RecPost (w : World) (s : Int) (y : List Int) (e : Ending) (w' : World) : Prop :=
  ((rOk s y = true ∧ ∃ g c, e = .returned (.tuple #[.int .i64 (rN y), .slice (some ⟨g, 0, none⟩) 512 c, .bool true]) ∧ IsB w' (some ⟨g, 0, none⟩) 512 (rD y) ∧ w.heap.size ≤ g ∧ g < w'.heap.size) ∨
   (rOk s y = false ∧ e = .returned (.tuple #[.int .i64 0, .slice none 0 0, .bool false]))) ∧ Below w.heap.size w w'
theorem rOk_out {s : Int} {y : List Int} (h : ¬ rN y ≤ 10000) : rOk s y = false := by unfold rOk; rw [decide_eq_false h]; rfl
theorem rOk_eq {s : Int} {y : List Int} (h : rN y ≤ 10000) : rOk s y = decide (recK s (rN y) (rD y) = y) := by unfold rOk; rw [decide_eq_true h]; rfl
/-- the first region's end -/
def RecMid (w : World) (y : List Int) (d : Value) (wx : World) : Prop :=
  ∃ g c, d = .slice (some ⟨g, 0, none⟩) 512 c ∧ wx.ownsRow w.heap.size 5 1 d 512 ((rD y).map (Value.int .u8)) ∧ Below w.heap.size w wx

set_option maxHeartbeats 3200000 in
theorem readRecord_any (s : Int) (a : Option Addr) (cap : Nat) (y : List Int) (w : World) (s0 : 0 ≤ s) (s1 : s ≤ 18446744073709551615) (h : IsB w a 576 y) (hlow : ∀ x, 576 ≠ 0 → a = some x → x.block < w.heap.size) (hn : a = none → 576 = 0 ∧ cap = 0) (hc : 576 ≤ cap) :
    Calls Try.prog 69 #[.int .u64 s, .slice a 576 cap] w (RecPost w s y) := by
  have hy := h.mem
  have bN := rN_bd hy (by rw [h.1]; omega)
  have HDl := Lib.hid (rD_len h.1)
  have HDr := Lib.hid (rD_range hy)
  have HN := Lib.hid bN
  have HI := Lib.hid h
  have HLow := Lib.hid hlow
  have HNn := Lib.hid hn
  have hs1 : ∀ W, (Instr.slice 26 (.slice a 576 cap) none (some (.int .i64 4)) none).run Try.prog W = .ok (.slice a 4 cap) W := fun W => slice_h a 576 cap 4 (by omega) .i64 W
  have hs2 : ∀ W, (Instr.slice 26 (.slice a 576 cap) (some (.int .i64 4)) (some (.int .i64 516)) none).run Try.prog W = .ok (.slice (offA a cap 4) 512 (cap - 4)) W := fun W => slice_lh a 576 cap 4 516 (by omega) (by omega) .i64 .i64 W
  have cv := i64_small bN
  have HI1 := Lib.hid (show IsB w a 4 (y.take 4) from isB_take h (by omega))
  have HI2 := Lib.hid (show IsB w (offA a cap 4) 512 (rD y) from isB_part (k := 4) (n := 512) h (by omega) hc)
  have HN2 := Lib.hid (show offA a cap 4 = none → 512 = 0 ∧ cap - 4 = 0 from fun hx => by have := offA_nil (k := 4) hn hx; omega)
  have HL1 := Lib.hid (show ∀ x, 4 ≠ 0 → a = some x → x.block < w.heap.size from fun x _ hx => hlow x (by omega) hx)
  have HEq := Lib.hid (fun h => rOk_eq (s := s) (y := y) h)
  have HOut := Lib.hid (fun h => rOk_out (s := s) (y := y) h)
  have HrN : Hid (numN (y.take 4) = rN y) := Lib.hid rfl
  clear h hy bN hlow hn
  generalize offA a cap 4 = a1 at *
  generalize cap - 4 = k1 at *
  go_enter Try.func69, Try.ntmps69
  go_upto_region 1 with (fail)
  go_cut [7, 8] from 11 to 17 (fun n d wx => n = .int .i64 (rN y) ∧ RecMid w y d wx)
  case first =>
    go_region_law (first
      | (refine step_slice rfl (.const (.slice none 0 0)) (.tmp 16) rfl w.heap.size (.slice none 0 0) [] a1 512 k1 (rD y) rfl rfl (World.ownsRow_nil _ _ _ _) (by first | exact HI2.out | exact (HI2.out : IsB w a1 512 (rD y))) HN2.out (by simp) (Nat.le_refl _) ?_; intro v8 w8 hown8 hgrow8; rw [List.nil_append] at hown8; rw [HDl.out] at hown8; obtain ⟨g8, c8, rfl⟩ := own_addr hown8 (by omega); have hb8 := grown_belowB hgrow8 (B := w.heap.size) (Nat.le_refl _) (fun k hk => by cases hk); have HO8 := Lib.hid hown8; have HB8 := Lib.hid (show Below w.heap.size w w8 from ⟨hb8.os, hb8.tape, hb8.output, hb8.size, hb8.block⟩); have HI18 := Lib.hid (HI1.out.below HB8.out HL1.out); clear hown8 hgrow8 hb8)
      | (go_simp; go_at_call 125; refine (number_any a 4 cap (y.take 4) _ (by first | exact HI18.out | exact HI1.out) (by omega)).mono ?_; rintro e w9 ⟨rfl, hw⟩; subst hw; rw [HrN.out]))
    all_goals
      go_wp2_with fail
      go_meet
      exact ⟨rfl, g8, c8, rfl, HO8.out, HB8.out⟩
  case rest =>
    obtain ⟨rfl, g, c, rfl, hown, hb⟩ := hcut
    have HId := Lib.hid (own_isB hown HDl.out HDr.out)
    have HGl := Lib.hid (show w.heap.size ≤ g ∧ g < wc.heap.size from ⟨own_lo hown, own_low hown⟩)
    have HIy := Lib.hid (HI.out.below hb HLow.out)
    have HB := Lib.hid hb
    clear hown hb
    by_cases hin : rN y ≤ 10000
    · have HE := Lib.hid (HEq.out hin)
      have HIn := Lib.hid hin
      clear hin
      go_wp2_with fail
      refine (record_good s (rN y) _ c (rD y) _ s0 s1 ⟨HN.out.1, HIn.out⟩ HId.out (fun x _ hx => by cases hx; exact HGl.out.2) (fun hx => by cases hx)).mono ?_
      rintro e w1 ⟨v, rfl, hown, hb1⟩
      rw [recK_length s (rN y) HDl.out] at hown
      obtain ⟨g2, c2, rfl⟩ := own_addr hown (by omega)
      have HIr := Lib.hid (own_isB hown (recK_length s (rN y) HDl.out) (recK_range s (rN y) HDr.out))
      have HIy1 := Lib.hid (HIy.out.below hb1 (fun x hx hy => Nat.lt_of_lt_of_le (HLow.out x hx hy) HB.out.size))
      have HId1 := Lib.hid (HId.out.below hb1 (fun x _ hx => by cases hx; exact HGl.out.2))
      have HG1 := Lib.hid (show w.heap.size ≤ g ∧ g < w1.heap.size from ⟨HGl.out.1, Nat.lt_of_lt_of_le HGl.out.2 hb1.size⟩)
      have HB1 := Lib.hid (bt HB.out hb1)
      clear hown hb1
      by_cases hq : recK s (rN y) (rD y) = y
      · have HQ := Lib.hid hq
        have HEO := Lib.hid (show rOk s y = true by rw [HE.out, decide_eq_true hq])
        clear hq
        go_wp2_with fail
        refine (equal_any _ _ 576 c2 576 cap _ y _ HIr.out (by intro h; cases h) HIy1.out HNn.out).mono ?_
        rintro e w2 ⟨rfl, hw⟩
        subst hw
        rw [decide_eq_true HQ.out]
        go_wp2
        exact bodyPost_ret (v := .tuple #[.int .i64 (rN y), .slice (some ⟨g, 0, none⟩) 512 c, .bool true]) (by simp [results, Try.results69, go_sem]) rfl ⟨.inl ⟨HEO.out, g, c, rfl, HId1.out, HG1.out⟩, HB1.out⟩
      · have HQ := Lib.hid hq
        have HEO := Lib.hid (show rOk s y = false by rw [HE.out, decide_eq_false hq])
        clear hq
        go_wp2_with fail
        refine (equal_any _ _ 576 c2 576 cap _ y _ HIr.out (by intro h; cases h) HIy1.out HNn.out).mono ?_
        rintro e w2 ⟨rfl, hw⟩
        subst hw
        rw [decide_eq_false HQ.out]
        go_wp2
        exact bodyPost_ret (v := .tuple #[.int .i64 0, .slice none 0 0, .bool false]) (by simp [results, Try.results69, go_sem]) rfl ⟨.inr ⟨HEO.out, rfl⟩, HB1.out⟩
    · have HEO := Lib.hid (HOut.out hin)
      have HIn := Lib.hid hin
      clear hin
      go_wp2_with fail
      refine (record_bad s (rN y) _ 512 c _ (by have := HN.out; omega) (by omega) (fun h => by have := HIn.out; have := h.1.2; omega)).mono ?_
      rintro e w1 ⟨rfl, hb1⟩
      have HB1 := Lib.hid (bt HB.out hb1)
      clear hb1
      go_wp2
      exact bodyPost_ret (v := .tuple #[.int .i64 0, .slice none 0 0, .bool false]) (by simp [results, Try.results69, go_sem]) rfl ⟨.inr ⟨HEO.out, rfl⟩, HB1.out⟩
end Go.Proofs.Ytbcjhngpcodaoaa
