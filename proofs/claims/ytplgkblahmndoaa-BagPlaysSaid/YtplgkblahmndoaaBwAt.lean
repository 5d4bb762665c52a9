/- The document's bag: where a row stands, how often it is there. -/
import Derived.Test.YtplgkblahmndoaaBwPlus
import Derived.Test.YtplgkblahmndoaaFormW
import Derived.Deep.DeepCutAuto
namespace Go.Proofs.Ytplgkblahmndoaa
open Go.RowKit
set_option linter.unusedVariables false
set_option maxRecDepth 100000

def AtPost (w : World) (L : List Ent) (key : List Int) (e : Ending) (w' : World) : Prop := e = .returned (.tuple #[.int .i64 (posB L key : Nat), .bool (hitB L key)]) ∧ Below w.heap.size w w'
set_option maxHeartbeats 3200000 in
theorem dat_any (w : World) (E : Nat) (S : List EntD) (ra : Option Addr) (rl rc : Nat) (rv : List Val) (h : DocB w E S) (hv : IsV w ra rl rv) (hr : ∀ v ∈ rv, okV v) :
    Calls Try.prog 56 #[.pointer (some ⟨E, 0, none⟩), .slice ra rl rc] w (AtPost w (S.map entOf) (keyVs rv)) := by
  obtain ⟨a, l, c, hb, hI, hlc, hn⟩ := h.bx
  have hm := hI.2.1
  have HI := Lib.hid hI
  have HV := Lib.hid hv
  have HR := Lib.hid hr
  have HE := Lib.hid h.lt
  have HC := Lib.hid hb
  have HL := Lib.hid (show (S.map entOf).length = l by rw [List.length_map]; exact hI.1)
  have HO := Lib.hid (show ∀ i, i < l → ∀ v ∈ (S.getD i noE).rv, okV v from fun i hi => (h.ok.okr (entOf (S.getD i noE)) (List.mem_map_of_mem (getD_mem (by have := hI.1; omega)))).1)
  have HG := Lib.hid (show ∀ i, i < l → (S.map entOf)[i]? = some (entOf (S.getD i noE)) from fun i hi => map_get (by have := hI.1; omega))
  obtain ⟨L, hL⟩ : ∃ L, L = S.map entOf := ⟨_, rfl⟩
  rw [← hL] at HL HG ⊢
  obtain ⟨key, hkey⟩ : ∃ key, key = keyVs rv := ⟨_, rfl⟩
  have HKey := Lib.hid hkey
  rw [← hkey]
  have HN := Lib.hid hn
  clear h hb hI hv hr hL hkey hn hlc
  go_enter Try.func56, Try.ntmps56
  go_wp2
  go_loopw [6] (fun i wr => ∃ k : Nat, k ≤ l ∧ i = .int .i64 (k : Int) ∧ Hid (Below w.heap.size w wr ∧ posB L key = k + posB (L.drop k) key)) (fun i _ => l - (intOf i).toNat)
  case atStart => exact ⟨0, by omega, rfl, Lib.hid ⟨Below.refl _ _, by simp⟩⟩
  case round =>
    obtain ⟨k, hk, rfl, HK⟩ := hrel
    have hk0 : (0 : Int) ≤ (k : Int) := by omega
    have h0 : wr.cell? ⟨E, 0, none⟩ = some (.slice a l c) := cell_of_row wr E 0 _ _ _ ((HK.out.1.block E HE.out).trans HC.out)
    by_cases hlt : k < l
    · have hki : (k : Int) < (l : Int) := by omega
      have hI2 := HI.out.below HK.out.1
      rcases hI2.2.2 with z | ⟨b, off, rfl, hbl, hc⟩
      · omega
      have hx := hc k hlt
      dsimp only at hx
      have HX := Lib.hid hx
      have c0 := hx.c0
      have HGk := Lib.hid (HG.out k hlt)
      have HOk := Lib.hid (HO.out k hlt)
      generalize S.getD k noE = X at *
      obtain ⟨q, hq⟩ : ∃ q, q = rowsF X.rv rv := ⟨_, rfl⟩
      have HQ := Lib.hid hq
      clear hx hc hI2 hq
      by_cases hl : q < 0
      · have HLt := Lib.hid ((rows_lt HOk.out HR.out).1 (by rw [← HQ.out]; exact hl))
        go_wp2_with fail
        refine (rrows_any X.ra X.rl X.rc X.rv ra rl rc rv _ HX.out.row (HV.out.below HK.out.1)).mono ?_
        rintro e w2 ⟨rfl, hb2⟩
        have HB2 := Lib.hid (bt HK.out.1 hb2)
        clear hb2
        rw [← HQ.out]
        go_wp2
        go_roundw
        case rel => exact ⟨k + 1, by omega, by go_num, Lib.hid ⟨HB2.out, posB_step HK.out.2 HGk.out (by rw [HKey.out]; exact HLt.out)⟩⟩
        case measure => simp [intOf]; omega
      · have hl2 : 0 ≤ q := by omega
        have HP := Lib.hid (posB_stop HK.out.2 HGk.out (by rw [HKey.out]; exact fun h => hl (by rw [HQ.out]; exact (rows_lt HOk.out HR.out).2 h)))
        clear hl
        go_wp2_with fail
        refine (rrows_any X.ra X.rl X.rc X.rv ra rl rc rv _ HX.out.row (HV.out.below HK.out.1)).mono ?_
        rintro e w2 ⟨rfl, hb2⟩
        have HB2 := Lib.hid (bt HK.out.1 hb2)
        have h02 : w2.cell? ⟨E, 0, none⟩ = some (.slice (some ⟨b, off, none⟩) l c) := cell_of_row w2 E 0 _ _ _ ((HB2.out.block E HE.out).trans HC.out)
        have hx2 := HX.out.below hb2
        have c02 := hx2.c0
        have HX2 := Lib.hid hx2
        clear hb2 hx2
        rw [← HQ.out]
        go_wp2_with fail
        refine (rrows_any X.ra X.rl X.rc X.rv ra rl rc rv _ HX2.out.row (HV.out.below HB2.out)).mono ?_
        rintro e w3 ⟨rfl, hb3⟩
        have HB3 := Lib.hid (bt HB2.out hb3)
        have HH := Lib.hid (show hitB L key = decide (q = 0) by
          rw [hitB_is (by rw [HP.out]; exact HGk.out), HKey.out]
          by_cases h : q = 0
          · rw [decide_eq_true h]
            exact decide_eq_true ((rows_eq0 HOk.out HR.out).1 (by rw [← HQ.out]; exact h))
          · rw [decide_eq_false h]
            exact decide_eq_false (fun h2 => h (by rw [HQ.out]; exact (rows_eq0 HOk.out HR.out).2 h2)))
        clear hb3
        rw [← HQ.out]
        by_cases hz : q = 0
        · subst hz
          go_wp2
          go_ret2
          exact ⟨by rw [HP.out, HH.out]; simp, HB3.out⟩
        · have hzb : (q == 0) = false := beq_eq_false_iff_ne.2 hz
          go_wp2
          go_ret2
          exact ⟨by rw [HP.out, HH.out]; simp [hz], HB3.out⟩
    · obtain rfl : k = l := by omega
      have HP := Lib.hid (posB_end HK.out.2 (by rw [HL.out]; exact Nat.le_refl _))
      have HH := Lib.hid (show hitB L key = false from hitB_end (by rw [HP.out, HL.out]; exact Nat.le_refl _))
      go_wp2
      go_ret2
      exact ⟨by rw [HP.out, HH.out]; rfl, HK.out.1⟩
def CntPost (w : World) (L : List Ent) (key : List Int) (e : Ending) (w' : World) : Prop := e = .returned (.int .i64 (cntB L key)) ∧ Below w.heap.size w w'
set_option maxHeartbeats 3200000 in
theorem dcount_any (w : World) (E : Nat) (S : List EntD) (ra : Option Addr) (rl rc : Nat) (rv : List Val) (h : DocB w E S) (hv : IsV w ra rl rv) (hr : ∀ v ∈ rv, okV v) :
    Calls Try.prog 14 #[.pointer (some ⟨E, 0, none⟩), .slice ra rl rc] w (CntPost w (S.map entOf) (keyVs rv)) := by
  have HD := Lib.hid h
  have HV := Lib.hid hv
  have HR := Lib.hid hr
  clear h hv hr
  go_enter Try.func14, Try.ntmps14
  go_wp2_with fail
  refine (dat_any w E S ra rl rc rv HD.out HV.out HR.out).mono ?_
  rintro e w1 ⟨rfl, hb1⟩
  have HB1 := Lib.hid hb1
  clear hb1
  cases hh : hitB (S.map entOf) (keyVs rv) with
  | false =>
    have HC := Lib.hid (cnt_none hh)
    clear hh
    go_wp2
    go_ret
    exact ⟨by rw [HC.out]; rfl, HB1.out⟩
  | true =>
    obtain ⟨a, l, c, hb, hI, hlc, hn⟩ := (HD.out.below HB1.out).bx
    have hlt := hitB_lt hh
    have HG := Lib.hid (cntB_is (map_get (by rw [List.length_map] at hlt; exact hlt)) hh)
    rw [List.length_map, hI.1] at hlt
    obtain ⟨k, hk⟩ : ∃ k, k = posB (S.map entOf) (keyVs rv) := ⟨_, rfl⟩
    rw [← hk] at hlt HG ⊢
    have hk0 : (0 : Int) ≤ (k : Int) := by omega
    have hki : (k : Int) < (l : Int) := by omega
    rcases hI.2.2 with z | ⟨b, off, rfl, hbl, hc⟩
    · omega
    have hm := hI.2.1
    have hx := hc k hlt
    dsimp only at hx
    have c1 := hx.c1
    have h0 : w1.cell? ⟨E, 0, none⟩ = some (.slice (some ⟨b, off, none⟩) l c) := cell_of_row w1 E 0 _ _ _ hb
    generalize S.getD k noE = X at *
    clear hx hc hI hb hh hk hn
    go_wp2
    go_ret
    exact ⟨by rw [HG.out]; rfl, HB1.out⟩
end Go.Proofs.Ytplgkblahmndoaa
