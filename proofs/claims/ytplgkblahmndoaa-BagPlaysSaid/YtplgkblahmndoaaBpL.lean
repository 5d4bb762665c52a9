/- BagPlays: the law's walk. -/
import Derived.Test.YtplgkblahmndoaaBpRow
import Derived.Test.YtplgkblahmndoaaBpRows
import Derived.Deep.CutBlock
namespace Go.Proofs.Ytplgkblahmndoaa
open Go.RowKit
set_option linter.unusedVariables false
set_option maxRecDepth 100000

/-- how often a row is there: one that isn't formed never -/
def cntR (L : List Ent) (rv : List Val) : Int := if allF rv = true then cntB L (keyVs rv) else 0
def CntP (w : World) (n : Int) (e : Ending) (w' : World) : Prop := e = .returned (.int .i64 n) ∧ Below w.heap.size w w'
set_option maxHeartbeats 3200000 in
theorem pcount_any (w : World) (D B n : Nat) (mo : Option Nat) (Dm : DataW Unit) (t : Lit → Option SlN) (L : List Ent) (ra : Option Addr) (rl rc : Nat) (rv : List Val) (h : BagR w D B n mo Dm t L) (hs : ∀ e ∈ L, in64 e.2)
    (hv : IsV w ra rl rv) (hr : ∀ v ∈ rv, -9223372036854775808 ≤ v.2.1 ∧ v.2.1 ≤ 9223372036854775807) (hl : rl ≤ 50) :
    Calls Try.prog 13 #[.pointer (some ⟨D, 0, none⟩), .slice ra rl rc] w (CntP w (cntR L rv)) := by
  have H := Lib.hid h
  have HV := Lib.hid hv
  have HS := Lib.hid hs
  have HR := Lib.hid hr
  clear h hv hs hr
  cases hf : allF rv with
  | false =>
    have HF := Lib.hid (show cntR L rv = 0 by unfold cntR; rw [hf]; rfl)
    have HF2 := Lib.hid hf
    clear hf
    go_enter Try.func13, Try.ntmps13
    go_wp2_with fail
    refine (key_bad ra rl rc rv _ HV.out HF2.out).mono ?_
    rintro e w1 ⟨rfl, hb1⟩
    have HB1 := Lib.hid hb1
    clear hb1
    go_wp2
    go_ret
    rw [HF.out]
    exact ⟨rfl, HB1.out⟩
  | true =>
    have HF := Lib.hid (show cntR L rv = cntB L (keyVs rv) by unfold cntR; rw [hf]; rfl)
    have HF2 := Lib.hid hf
    clear hf
    go_enter Try.func13, Try.ntmps13
    go_wp2_with fail
    refine (key_good ra rl rc rv _ HV.out (allF_ok HF2.out HR.out) (by omega)).mono ?_
    rintro e w1 ⟨v, rfl, hown, hb1⟩
    obtain ⟨ka, kL, kc, rfl, eL, iK, lK, nK, eC, eB⟩ := own_any hown (keyVs_range _)
    have HB1 := Lib.hid hb1
    have hst1 := H.out.below hb1
    have h0 : w1.cell? ⟨D, 0, none⟩ = some (.map mo) := cell_of_row w1 D 0 _ _ _ hst1.box
    have hSz : (strOfNums (keyVs rv)).size ≤ maxLen := by
      rw [numBytes_size]
      have h1 := keyVs_len (l := rv) (allF_ok HF2.out HR.out)
      have h2 := HV.out.1
      unfold maxLen
      omega
    have hcv : ∀ n, (convert 81 9 (.slice ka kL kc)).run Try.prog (w1.drewN n) = .ok (.string (strOfNums (keyVs rv))) (w1.drewN n) := fun n => str_any (by exact iK) nK
    obtain ⟨q, hq⟩ : ∃ q, q = cntB L (keyVs rv) := ⟨_, rfl⟩
    obtain ⟨a1, l1, c1, hlk⟩ := hst1.looks hSz
    rw [← hq] at hlk
    have HQ := Lib.hid hq
    have hfd : ∀ W, (Instr.field 114 (.agg #[.slice a1 l1 c1, .int .i64 q]) 1).run Try.prog W = .ok (.int .i64 q) W := fun W => rfl
    obtain ⟨S, hSe⟩ : ∃ S, S = strOfNums (keyVs rv) := ⟨_, rfl⟩
    rw [← hSe] at hcv hlk
    clear hown iK lK nK eL eC eB hq hst1 hSz hb1 hSe
    go_upto_region 4 with (fail)
    go_quiet (fail)
    go_wp2
    go_ret
    rw [HF.out, ← HQ.out]
    exact ⟨rfl, ⟨HB1.out.os, HB1.out.tape, HB1.out.output, HB1.out.size, HB1.out.block⟩⟩

set_option maxHeartbeats 3200000 in
theorem dat_bad (w : World) (E : Nat) (S : List EntD) (ra : Option Addr) (rl rc : Nat) (rv : List Val) (h : DocB w E S) (hv : IsV w ra rl rv) (hf : allF rv = false) :
    Calls Try.prog 56 #[.pointer (some ⟨E, 0, none⟩), .slice ra rl rc] w fun e w' => ∃ k : Int, e = .returned (.tuple #[.int .i64 k, .bool false]) ∧ Below w.heap.size w w' := by
  obtain ⟨a, l, c, hb, hI, hlc, hn⟩ := h.bx
  have hm := hI.2.1
  have HI := Lib.hid hI
  have HV := Lib.hid hv
  have HE := Lib.hid h.lt
  have HC := Lib.hid hb
  have HNe := Lib.hid (show ∀ i, i < l → rowsF (S.getD i noE).rv rv ≠ 0 from fun i hi h0 => by
    have e := rowsF_zero h0
    have hk := (h.ok.okr (entOf (S.getD i noE)) (List.mem_map_of_mem (getD_mem (by have := hI.1; omega)))).1
    rw [← e] at hf
    have : allF (S.getD i noE).rv = true := by
      unfold allF
      rw [List.all_eq_true]
      exact fun v hv => (hk v hv).1
    rw [this] at hf
    cases hf)
  clear h hb hI hv hn hlc hf
  go_enter Try.func56, Try.ntmps56
  go_wp2
  go_loopw [6] (fun i wr => ∃ k : Nat, k ≤ l ∧ i = .int .i64 (k : Int) ∧ Hid (Below w.heap.size w wr)) (fun i _ => l - (intOf i).toNat)
  case atStart => exact ⟨0, by omega, rfl, Lib.hid (Below.refl _ _)⟩
  case round =>
    obtain ⟨k, hk, rfl, HK⟩ := hrel
    have hk0 : (0 : Int) ≤ (k : Int) := by omega
    have h0 : wr.cell? ⟨E, 0, none⟩ = some (.slice a l c) := cell_of_row wr E 0 _ _ _ ((HK.out.block E HE.out).trans HC.out)
    by_cases hlt : k < l
    · have hki : (k : Int) < (l : Int) := by omega
      have hI2 := HI.out.below HK.out
      rcases hI2.2.2 with z | ⟨b, off, rfl, hbl, hc⟩
      · omega
      have hx := hc k hlt
      dsimp only at hx
      have HX := Lib.hid hx
      have c0 := hx.c0
      have hne := HNe.out k hlt
      generalize S.getD k noE = X at *
      obtain ⟨q, hq⟩ : ∃ q, q = rowsF X.rv rv := ⟨_, rfl⟩
      have HQ := Lib.hid hq
      rw [← hq] at hne
      clear hx hc hI2 hq
      by_cases hl : q < 0
      · go_wp2_with fail
        refine (rrows_any X.ra X.rl X.rc X.rv ra rl rc rv _ HX.out.row (HV.out.below HK.out)).mono ?_
        rintro e w2 ⟨rfl, hb2⟩
        have HB2 := Lib.hid (bt HK.out hb2)
        clear hb2
        rw [← HQ.out]
        go_wp2
        go_roundw
        case rel => exact ⟨k + 1, by omega, by go_num, HB2⟩
        case measure => simp [intOf]; omega
      · have hl2 : 0 ≤ q := by omega
        clear hl
        go_wp2_with fail
        refine (rrows_any X.ra X.rl X.rc X.rv ra rl rc rv _ HX.out.row (HV.out.below HK.out)).mono ?_
        rintro e w2 ⟨rfl, hb2⟩
        have HB2 := Lib.hid (bt HK.out hb2)
        have h02 : w2.cell? ⟨E, 0, none⟩ = some (.slice (some ⟨b, off, none⟩) l c) := cell_of_row w2 E 0 _ _ _ ((HB2.out.block E HE.out).trans HC.out)
        have hx2 := HX.out.below hb2
        have c02 := hx2.c0
        have HX2 := Lib.hid hx2
        clear hb2 hx2
        rw [← HQ.out]
        go_wp2_with fail
        refine (rrows_any X.ra X.rl X.rc X.rv ra rl rc rv _ HX2.out.row (HV.out.below HB2.out)).mono ?_
        rintro e w3 ⟨rfl, hb3⟩
        have HB3 := Lib.hid (bt HB2.out hb3)
        clear hb3
        rw [← HQ.out]
        have hzb : (q == 0) = false := beq_eq_false_iff_ne.2 hne
        go_wp2
        go_ret2
        exact ⟨_, rfl, HB3.out⟩
    · obtain rfl : k = l := by omega
      go_wp2
      go_ret2
      exact ⟨_, rfl, HK.out⟩
set_option maxHeartbeats 3200000 in
/-- the document's Count of any row -/
theorem dcount_full (w : World) (E : Nat) (S : List EntD) (ra : Option Addr) (rl rc : Nat) (rv : List Val) (h : DocB w E S) (hv : IsV w ra rl rv) (hr : ∀ v ∈ rv, -9223372036854775808 ≤ v.2.1 ∧ v.2.1 ≤ 9223372036854775807) :
    Calls Try.prog 14 #[.pointer (some ⟨E, 0, none⟩), .slice ra rl rc] w (CntP w (cntR (S.map entOf) rv)) := by
  cases hf : allF rv with
  | true =>
    have e : cntR (S.map entOf) rv = cntB (S.map entOf) (keyVs rv) := by unfold cntR; rw [hf]; rfl
    rw [e]
    exact dcount_any w E S ra rl rc rv h hv (allF_ok hf hr)
  | false =>
    have HF := Lib.hid (show cntR (S.map entOf) rv = 0 by unfold cntR; rw [hf]; rfl)
    have HA := Lib.hid (dat_bad w E S ra rl rc rv h hv hf)
    clear h hv hr hf
    go_enter Try.func14, Try.ntmps14
    go_wp2_with fail
    refine HA.out.mono ?_
    rintro e w1 ⟨k, rfl, hb1⟩
    have HB1 := Lib.hid hb1
    clear hb1
    go_wp2
    go_ret
    rw [HF.out]
    exact ⟨rfl, HB1.out⟩
end Go.Proofs.Ytplgkblahmndoaa
namespace Go.Proofs.Ytplgkblahmndoaa
open Go.RowKit
set_option linter.unusedVariables false
set_option maxRecDepth 100000

theorem rows_at {w : World} {B k : Nat} {v : Value} {R : List (List Val)} (h : RowsAt w B v R) (hk : k < R.length) :
    ∃ (g c : Nat) (x : SlN), v = .slice (some ⟨g, 0, none⟩) R.length c ∧ g < w.heap.size ∧ w.cell? ⟨g, k, none⟩ = some (.slice (adA x.1) x.2.1 x.2.2.1) ∧ RowAt w B x (R.getD k []) := by
  obtain ⟨X, hX, hown, hat⟩ := h
  obtain ⟨g, c, rfl, hB, hg⟩ := hown.form (by omega)
  refine ⟨g, c, X.getD k noX, rfl, hg, ?_, (hat k hk).1⟩
  rw [hown.cellAt k (by omega), List.getElem?_map, List.getD_eq_getElem?_getD, List.getElem?_eq_getElem (by omega)]
  rfl
theorem rows_slice {w : World} {B : Nat} {v : Value} {R : List (List Val)} (h : RowsAt w B v R) : ∃ a c, v = .slice a R.length c := by
  obtain ⟨X, hX, hown, hat⟩ := h
  exact own_slice3 hown
theorem rows_ok {L : List Ent} (h : OkL L) : ∀ r ∈ (rowsB L).1, (∀ v ∈ r, okV v) ∧ r.length ≤ 50 := by
  intro r hr
  unfold rowsB at hr
  split at hr
  · cases hr
  · split at hr
    · cases hr
    · unfold repB at hr
      obtain ⟨e, he, hre⟩ := List.mem_flatMap.1 hr
      rw [List.eq_of_mem_replicate hre]
      exact h.okr e he
theorem rows_few {L : List Ent} : (rowsB L).1.length ≤ 100000 := by
  unfold rowsB
  split
  · simp
  · split
    · simp
    · rename_i h1 h2
      have := repB_len (L := L) (negB_no (by simpa using h1))
      show (repB L).length ≤ 100000
      omega
set_option maxHeartbeats 12800000 in
theorem bagPlays_walk (la : Option Addr) (ln lc : Nat) (f : Nat → EntD) (ra : Option Addr) (rl rc : Nat) (rv : List Val) (z : Bool) (w : World) (hL : IsEs w la ln f) (hv : IsV w ra rl rv) (hr : ∀ v ∈ rv, -9223372036854775808 ≤ v.2.1 ∧ v.2.1 ≤ 9223372036854775807) :
    Calls Try.prog 3 #[.slice la ln lc, .slice ra rl rc, .bool z] w fun e w' => e = .returned (.bool true) ∧ Below w.heap.size w w' := by
  have hm := hL.1
  have hrl : (rl : Int) ≤ 9223372036854775807 := by have := hv.2.1; omega
  have HL := Lib.hid hL
  have HV := Lib.hid hv
  have HR := Lib.hid hr
  clear hL hv hr
  go_enter Try.func3, Try.ntmps3
  go_wp2_with fail
  refine (bawake_any _).mono ?_
  rintro e w1 ⟨rfl, hb1⟩
  have HB1 := Lib.hid hb1
  clear hb1
  go_wp2_with fail
  refine (bfew_any la ln lc f _ (HL.out.below HB1.out)).mono ?_
  rintro e w2 ⟨rfl, hw⟩
  subst hw
  have HAwk := Lib.hid (fun (W : World) => bawake_any W)
  cases hfew : fewE f ln with
  | false =>
    clear hfew
    go_wp2_with fail
    refine (HAwk.out _).mono ?_
    rintro e w3 ⟨rfl, hb2⟩
    have HB2 := Lib.hid (bt HB1.out hb2)
    clear hb2
    go_wp2
    go_ret
    exact ⟨rfl, HB2.out⟩
  | true =>
    have HFw := Lib.hid (fewE_iff.1 hfew)
    clear hfew
    by_cases h50 : 50 < rl
    · have h50i : (50 : Int) < (rl : Int) := by omega
      clear h50
      go_wp2_with fail
      refine (HAwk.out _).mono ?_
      rintro e w3 ⟨rfl, hb2⟩
      have HB2 := Lib.hid (bt HB1.out hb2)
      clear hb2
      go_wp2
      go_ret
      exact ⟨rfl, HB2.out⟩
    · have h50i : decide ((50 : Int) < (rl : Int)) = false := decide_eq_false (by omega)
      have h50j : (rl : Int) ≤ 50 := by omega
      have h50n : rl ≤ 50 := by omega
      clear h50
      go_wp2_with fail
      refine (made_any la ln lc f z _ (HL.out.below HB1.out) HFw.out).mono ?_
      rintro e wp ⟨D, E, B, rfl, hp⟩
      have hbp : Below w.heap.size w wp := bt HB1.out (by obtain ⟨_, _, _, _, _, _, _, _, _, _, h7⟩ := hp; exact h7)
      have HBp := Lib.hid hbp
      have HOk := Lib.hid hp.ok
      obtain ⟨mo, Dm, t, S, hB, hd, hS, hSl, _, _, _⟩ := hp
      obtain ⟨L, hLe⟩ : ∃ L, L = mkL f ln := ⟨_, rfl⟩
      rw [← hLe] at hB hS HOk
      have hln : ln ≤ 200 := by
        rcases Nat.eq_zero_or_pos ln with h | h
        · omega
        · have := (HFw.out (ln - 1) (by omega)).1
          omega
      have hLl : L.length ≤ 200 := by rw [← hS, List.length_map]; omega
      have HBag := Lib.hid hB
      have HDoc := Lib.hid hd
      have HS := Lib.hid hS
      clear hB hd hLe hbp
      go_wp2_with fail
      refine (lsame_yes wp D E B ln mo Dm t L S HBag.out HDoc.out HS.out (by omega)).mono ?_
      rintro e w4 ⟨rfl, hb4⟩
      have HB4 := Lib.hid hb4
      clear hb4
      go_wp2_with fail
      refine (pcount_any w4 D B ln mo Dm t L ra rl rc rv (HBag.out.below HB4.out) HOk.out.num (HV.out.below (bt HBp.out HB4.out)) HR.out h50n).mono ?_
      rintro e w5 ⟨rfl, hb5⟩
      have HB5 := Lib.hid (bt HB4.out hb5)
      clear hb5
      go_wp2_with fail
      refine (dcount_full w5 E S ra rl rc rv (HDoc.out.below HB5.out) (HV.out.below (bt HBp.out HB5.out)) HR.out).mono ?_
      rintro e w6 ⟨rfl, hb6⟩
      have HB6 := Lib.hid (bt HB5.out hb6)
      clear hb6
      rw [HS.out]
      go_wp2_with fail
      refine (prows_any w6 D B ln mo Dm t L (HBag.out.below HB6.out) HOk.out (by omega) (by omega)).mono ?_
      rintro e w7 ⟨vx, rfl, hx, hb7⟩
      have HB7 := Lib.hid (bt HB6.out hb7)
      have HX7 := Lib.hid hx
      clear hb7 hx
      go_wp2_with fail
      refine (drows_any w7 E S (HDoc.out.below HB7.out) (by omega)).mono ?_
      rintro e w8 ⟨vy, rfl, hy, hb8⟩
      rw [HS.out] at hy
      have HB8 := Lib.hid (bt HB7.out hb8)
      have HX := Lib.hid (HX7.out.below hb8)
      have HY := Lib.hid hy
      obtain ⟨ax, cx, rfl⟩ := rows_slice HX.out
      obtain ⟨ay, cy, rfl⟩ := rows_slice HY.out
      have HRk := Lib.hid (rows_ok HOk.out)
      have hfewR := rows_few (L := L)
      rw [HS.out]
      generalize (rowsB L).2 = ce at *
      generalize (rowsB L).1 = R at *
      obtain ⟨rn, hrn⟩ : ∃ rn, rn = R.length := ⟨_, rfl⟩
      have HRn := Lib.hid hrn
      have hrn2 : (rn : Int) ≤ 100000 := by omega
      rw [← hrn]
      clear hy hb8 HX7 hfewR hrn
      go_wp2_with fail
      go_loopw [74] (fun i wr => ∃ k : Nat, k ≤ rn ∧ i = .int .i64 (k : Int) ∧ Hid (Below w8.heap.size w8 wr)) (fun i _ => rn - (intOf i).toNat)
      case atStart => exact ⟨0, by omega, rfl, Lib.hid (Below.refl _ _)⟩
      case round =>
        obtain ⟨w9, rfl⟩ : ∃ x, x = wr := ⟨_, rfl⟩
        obtain ⟨k, hk, rfl, HB9⟩ := hrel
        have hk0 : (0 : Int) ≤ (k : Int) := by omega
        by_cases hlt : k < rn
        · have hki : (k : Int) < (rn : Int) := by omega
          have hkR : k < R.length := by have := HRn.out; omega
          obtain ⟨g, c1, x, he1, hg, gx, hrx⟩ := rows_at HX.out hkR
          obtain ⟨h, c2, y, he2, hh, hy, hry⟩ := rows_at HY.out hkR
          cases he1
          cases he2
          have hlx : x.2.1 = (R.getD k []).length := hrx.1.1.symm
          have hly : y.2.1 = (R.getD k []).length := hry.1.1.symm
          have hrk := HRk.out (R.getD k []) (by rw [List.getD_eq_getElem?_getD, List.getElem?_eq_getElem hkR]; exact List.getElem_mem hkR)
          have HRx := Lib.hid hrx
          have HRy := Lib.hid hry
          have HOkr := Lib.hid hrk.1
          generalize R.getD k [] = r at *
          obtain ⟨m, hmr⟩ : ∃ m, m = r.length := ⟨_, rfl⟩
          rw [← hmr] at hlx hly
          rw [hlx] at gx
          rw [hly] at hy
          have hm50 : m ≤ 50 := by rw [hmr]; exact hrk.2
          obtain ⟨q, hq⟩ : ∃ q, q = cntR L r := ⟨_, rfl⟩
          have HKc := Lib.hid (fun (W : World) (hW : Below w8.heap.size w8 W) => (show W.cell? ⟨g, k, none⟩ = some (.slice (adA x.1) m x.2.2.1) ∧ W.cell? ⟨h, k, none⟩ = some (.slice (adA y.1) m y.2.2.1) from ⟨(hW.cell (p := ⟨g, k, none⟩) hg).trans gx, (hW.cell (p := ⟨h, k, none⟩) hh).trans hy⟩))
          have HA1 := Lib.hid (fun (W : World) (hW : Below w8.heap.size w8 W) => (show Calls Try.prog 13 #[.pointer (some ⟨D, 0, none⟩), .slice (adA x.1) m x.2.2.1] W (CntP W q) from by
            have h1 := (HRx.out.below hW).1
            rw [hlx] at h1
            rw [hq]
            exact pcount_any W D B ln mo Dm t L _ m _ r (HBag.out.below (bt HB8.out hW)) HOk.out.num h1 (fun v hv => (HOkr.out v hv).2) hm50))
          have HA2 := Lib.hid (fun (W : World) (hW : Below w8.heap.size w8 W) => (show Calls Try.prog 14 #[.pointer (some ⟨E, 0, none⟩), .slice (adA y.1) m y.2.2.1] W (CntP W q) from by
            have h1 := (HRy.out.below hW).1
            rw [hly] at h1
            have := dcount_full W E S _ m y.2.2.1 r (HDoc.out.below (bt HB8.out hW)) h1 (fun v hv => (HOkr.out v hv).2)
            rw [HS.out] at this
            rw [hq]
            exact this))
          obtain ⟨s0, t0⟩ := HKc.out w9 HB9.out
          have hm0 : (0 : Int) ≤ (m : Int) := by omega
          have hmi : (m : Int) ≤ 50 := by omega
          have hneq : ((m : Int) != (m : Int)) = false := by simp
          clear hrx hry hrk gx hy hlx hly hmr hq
          go_upto_region 13 with (fail)
          refine wp_region_noPanic ?_
          go_region_held3 (fun W => W.cell? ⟨g, k, none⟩ = some (.slice (adA x.1) m x.2.2.1) ∧ W.cell? ⟨h, k, none⟩ = some (.slice (adA y.1) m y.2.2.1))
            (first | exact ⟨s0, t0⟩ | exact hS2 | exact hS1)
            ((first
              | (go_at_call 13; refine (HA1.out _ (by first | exact HBd.out | exact HB9.out.trans ⟨rfl, rfl, rfl, Nat.le_refl _, fun _ _ => rfl⟩)).mono ?_; rintro e' w10 ⟨rfl, hp10⟩; have HBp9 := Lib.hid (show Below w8.heap.size w8 w10 from by first | exact bt HBd.out hp10 | exact bt HB9.out ⟨hp10.os, hp10.tape, hp10.output, hp10.size, hp10.block⟩); have hS1 := HKc.out w10 HBp9.out; clear hp10)
              | (go_at_call 14; refine (HA2.out _ (by first | exact HBp9.out | exact HB9.out.trans ⟨rfl, rfl, rfl, Nat.le_refl _, fun _ _ => rfl⟩)).mono ?_; rintro e' w11 ⟨rfl, hp11⟩; have HBd := Lib.hid (show Below w8.heap.size w8 w11 from by first | exact bt HBp9.out hp11 | exact bt HB9.out ⟨hp11.os, hp11.tape, hp11.output, hp11.size, hp11.block⟩); have hS2 := HKc.out w11 HBd.out; clear hp11)))
          all_goals
            refine NoPanic.normal ?_
            clear s0 t0
            go_wp2
            go_roundw
            case rel => first | exact ⟨k + 1, by omega, by go_num, HBd⟩ | exact ⟨k + 1, by omega, by go_num, HBp9⟩
            case measure => simp [intOf]; omega
        · obtain rfl : k = rn := by omega
          clear hlt
          go_wp2
          go_ret
          exact ⟨rfl, bt HBp.out (bt HB8.out HB9.out)⟩
end Go.Proofs.Ytplgkblahmndoaa
