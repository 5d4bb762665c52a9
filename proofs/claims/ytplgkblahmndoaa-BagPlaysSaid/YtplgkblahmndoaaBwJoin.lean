/- The document's bag: Join. -/
import Derived.Test.YtplgkblahmndoaaBwCopy
namespace Go.Proofs.Ytplgkblahmndoaa
open Go.RowKit
set_option linter.unusedVariables false
set_option maxRecDepth 100000

theorem addB_round {L M : List Ent} {s : Int} {k : Nat} {e : Ent} (hL : OkL L) (hM : OkL M) (he : M[k]? = some e) (hf : FitL L (M.take k) s) {x : Int} (hx : x = s * e.2) :
    addB (joinT L M s k) e.1 x = if in64 (cntB L (kE e) + s * e.2) then (joinT L M s (k + 1), 0) else (joinT L M s k, 13) := by
  have hr := hM.okr e (List.mem_of_getElem? he)
  have ha : allF e.1 = true := List.all_eq_true.2 (fun v hv => (hr.1 v hv).1)
  have hc : cntB (joinT L M s k) (keyVs e.1) = cntB L (kE e) := joinT_at hL hM he hf
  unfold addB
  rw [if_pos ha, hc, hx, joinT_succ he]
theorem joinC_yes {L M : List Ent} {s : Int} (hs : s = 1 ∨ s = -1) (h : FitL L M s) : joinC L M s = (joinT L M s M.length, 0) := by
  unfold joinC; rw [if_pos hs, if_pos h]
theorem joinC_no {L M : List Ent} {s : Int} (hs : s = 1 ∨ s = -1) {e : Ent} (he : e ∈ M) (h : ¬ in64 (cntB L (kE e) + s * e.2)) : joinC L M s = (L, 13) := by
  unfold joinC; rw [if_pos hs, if_neg (fun hf => h (hf e he))]
theorem joinC_arg {L M : List Ent} {s : Int} (hs : ¬ (s = 1 ∨ s = -1)) : joinC L M s = (L, 1) := by
  unfold joinC; rw [if_neg hs]
def DJoin (w : World) (E : Nat) (S T : List EntD) (s : Int) (e : Ending) (w' : World) : Prop :=
  e = .returned (.int .i64 (joinC (S.map entOf) (T.map entOf) s).2) ∧ ∃ S', S'.map entOf = (joinC (S.map entOf) (T.map entOf) s).1 ∧ S'.length ≤ S.length + 2 * T.length ∧ DocB w' E S' ∧ Only (fun i => i = E) w w'
/-- a bag takes another one's list -/
theorem DocB.take {w : World} {E W l c : Nat} {a : Option Addr} {S Sx : List EntD} (h : DocB w E Sx) (k : DocB w W S) (hW : w.heap[W]? = some (.cells #[.slice a l c] 108 (0, 0))) : DocB (w.setCell ⟨E, 0, none⟩ (.slice a l c)) E S ∧ Only (fun i => i = E) w (w.setCell ⟨E, 0, none⟩ (.slice a l c)) := by
  obtain ⟨a', l', c', hb, _⟩ := h.bx
  obtain ⟨a2, l2, c2, hb2, hI, hlc, hn⟩ := k.bx
  rw [hW] at hb2
  have e : Value.slice a l c = .slice a2 l2 c2 := by simpa using hb2
  have ho : Only (fun i => i = E) w (w.setCell ⟨E, 0, none⟩ (.slice a l c)) := Only.set (S := fun i => i = E) (Only.refl _ _) rfl _
  refine ⟨⟨⟨a, l, c, Go.heap_setCell_same w E 0 _ _ _ hb, ?_, ?_, ?_⟩, k.ok⟩, ho⟩
  all_goals cases e
  · exact hI.sole ho h.sole
  · exact hlc
  · exact hn
/-- where a Join is in its list -/
def JoinAt (w w2 : World) (E : Nat) (S T : List EntD) (s : Int) (k : Nat) (wr : World) : Prop :=
  ∃ Sk, Sk.map entOf = joinT (S.map entOf) (T.map entOf) s k ∧ Sk.length ≤ S.length + 2 * k ∧ DocB wr E Sk ∧ Only (fun i => i = E) w2 wr ∧ FitL (S.map entOf) ((T.map entOf).take k) s
theorem only_copies {w w1 w2 : World} {E : Nat} (h : Below w.heap.size w w1) (h2 : Below w1.heap.size w1 w2) : Only (fun i => i = E) w w2 := (only_below (bt h h2)).mono (fun _ => False.elim)
theorem join_fail {w w2 w3 : World} {E : Nat} {S T : List EntD} {s : Int} {e : Ending} (hj : joinC (S.map entOf) (T.map entOf) s = (S.map entOf, 13)) (hd : DocB w3 E S) (h1 : Only (fun i => i = E) w w2) (h2 : Only (fun i => i = E) w2 w3) (he : e = .returned (.int .i64 13) := by rfl) : DJoin w E S T s e w3 := by
  subst he
  exact ⟨by rw [hj], S, by rw [hj], by omega, hd, h1.trans h2⟩
theorem join_done {w w2 w3 : World} {E : Nat} {S T Sk : List EntD} {s : Int} {e : Ending} (hj : joinC (S.map entOf) (T.map entOf) s = (joinT (S.map entOf) (T.map entOf) s (T.map entOf).length, 0)) (hk : Sk.map entOf = joinT (S.map entOf) (T.map entOf) s (T.map entOf).length) (hl : Sk.length ≤ S.length + 2 * T.length) (hd : DocB w3 E Sk) (h1 : Only (fun i => i = E) w w2) (h2 : Only (fun i => i = E) w2 w3) (he : e = .returned (.int .i64 0) := by rfl) : DJoin w E S T s e w3 := by
  subst he
  exact ⟨by rw [hj], Sk, by rw [hj]; exact hk, hl, hd, h1.trans h2⟩
theorem EsAt.sole' {w wr : World} {E b o : Nat} {S : List EntD} {x : EntD} (h : EsAt w b o x) (ho : Only (fun i => i = E) w wr) (hd : DocB w E S) : EsAt wr b o x := by
  have e := ho.block b (World.block_lt_of_cell? w _ h.c0) (fun hS => two_cells h.c0 h.c1 (hd.sole b hS))
  exact ⟨(World.cell?_of_block e).trans h.c0, (World.cell?_of_block e).trans h.c1, h.row.sole ho hd.sole, h.rg, h.nil, h.num⟩
theorem hI_of {w2 wr : World} {E l : Nat} {a : Option Addr} {S T : List EntD} (h : IsS w2 a l T) (ho : Only (fun i => i = E) w2 wr) (hd : DocB w2 E S) : IsS wr a l T := h.sole ho hd.sole
set_option maxHeartbeats 6400000 in
theorem djoin_one (w : World) (E F : Nat) (S T : List EntD) (h : DocB w E S) (h' : DocB w F T) (hne : E ≠ F) (hs : S.length ≤ 2000) (ht : T.length ≤ 2000) :
    Calls Try.prog 21 #[.pointer (some ⟨E, 0, none⟩), .pointer (some ⟨F, 0, none⟩), .int .i64 1] w (DJoin w E S T 1) := by
  have HD := Lib.hid h
  have HD' := Lib.hid h'
  clear h h' hne
  go_enter Try.func21, Try.ntmps21
  go_wp2_with fail
  refine (dcopy_any w E S HD.out (by omega)).mono ?_
  rintro e w1 ⟨W, rfl, hW, hdw, hb1⟩
  have HB1 := Lib.hid hb1
  have HW := Lib.hid hdw
  have HWl := Lib.hid hW
  clear hb1 hdw hW
  go_wp2_with fail
  refine (dcopy_any w1 F T (HD'.out.below HB1.out) (by omega)).mono ?_
  rintro e w2 ⟨V, rfl, hV, hdv, hb2⟩
  obtain ⟨a, l, c, hbx, hI, hlc, hn⟩ := hdv.bx
  have v0 : w2.cell? ⟨V, 0, none⟩ = some (.slice a l c) := cell_of_row w2 V 0 _ _ _ hbx
  have HB2 := Lib.hid hb2
  have HI := Lib.hid hI
  have hl : T.length = l := hI.1
  have hm := hI.2.1
  have HEW := Lib.hid (show E ≠ W by have := HD.out.lt; have := HWl.out; omega)
  have HD2 := Lib.hid ((HD.out.below HB1.out).below hb2)
  have HW2 := Lib.hid (HW.out.below hb2)
  have HOk := Lib.hid (And.intro HD.out.ok HD'.out.ok)
  have HG := Lib.hid (show ∀ i, i < l → (T.map entOf)[i]? = some (entOf (T.getD i noE)) from fun i hi => map_get (by omega))
  obtain ⟨aw, lw, cw, hbw, _, _, _⟩ := HW2.out.bx
  have HBw := Lib.hid hbw
  clear hb2 hdv hbx hI hn hlc hV hbw
  go_wp2
  go_loopw [28] (fun i wr => ∃ k : Nat, k ≤ l ∧ i = .int .i64 (k : Int) ∧ Hid (JoinAt w w2 E S T 1 k wr)) (fun i _ => l - (intOf i).toNat)
  case atStart => exact ⟨0, by omega, rfl, Lib.hid ⟨S, rfl, by omega, HD2.out, Only.refl _ _, by simp [FitL]⟩⟩
  case round =>
    obtain ⟨k, hk, rfl, HK⟩ := hrel
    have hk0 : (0 : Int) ≤ (k : Int) := by omega
    by_cases hlt : k < l
    · have hki : (k : Int) < (l : Int) := by omega
      obtain ⟨Sk, hSk, hlk, hdk, hok, hfk⟩ := HK.out
      have HIr := hI_of HI.out hok HD2.out
      rcases HIr.2.2 with z | ⟨b, off, rfl, hbl, hc⟩
      · omega
      have hx := hc k hlt
      dsimp only at hx
      have c0 := hx.c0
      have c1 := hx.c1
      have HGk := Lib.hid (HG.out k hlt)
      generalize T.getD k noE = X at *
      have HX := Lib.hid hx
      have HRd := Lib.hid (addB_round (L := S.map entOf) (M := T.map entOf) (s := 1) HOk.out.1 HOk.out.2 HGk.out hfk (x := 1 * X.n) rfl)
      rw [← hSk] at HRd
      have HSk := Lib.hid hSk
      have HDk := Lib.hid hdk
      have HOn := Lib.hid hok
      have HFk := Lib.hid hfk
      have HIn := Lib.hid (show in64 X.n from hx.num)
      have HLr := Lib.hid (show X.rl ≤ 50 by
        have h1 := (HOk.out.2.okr _ (List.mem_of_getElem? HGk.out)).2
        have h2 := hx.row.1
        simp only [entOf] at h1
        omega)
      clear hx hc HIr hSk hdk hok hfk
      have hw : IntKind.i64.wrap X.n = X.n := by rw [IntKind.wrap_i64]; have := HIn.out; unfold in64 at this; omega
      have hw2 : IntKind.i64.wrap (X.n * 1) = X.n := by rw [Int.mul_one]; exact hw
      have HXn := HIn
      have HCalls := fun y (hy : addB (Sk.map entOf) X.rv X.n = y) => (show Calls Try.prog 53 #[.pointer (some ⟨E, 0, none⟩), .slice X.ra X.rl X.rc, .int .i64 X.n] wr (DAdd wr E Sk y) from hy ▸ dadd_any wr E Sk X.ra X.rl X.rc X.rv X.n HDk.out HX.out.row HX.out.rg HX.out.nil HXn.out HLr.out (by omega))
      have HRe := Lib.hid (show addB (Sk.map entOf) X.rv X.n = if in64 (cntB (S.map entOf) (kE (entOf X)) + 1 * (entOf X).2) then (joinT (S.map entOf) (T.map entOf) 1 (k + 1), 0) else (Sk.map entOf, 13) from (congrArg (addB (Sk.map entOf) X.rv) (show X.n = 1 * X.n by omega)).trans HRd.out)
      clear HRd
      by_cases hin : in64 (cntB (S.map entOf) (kE (entOf X)) + 1 * (entOf X).2)
      · have HCa := Lib.hid (HCalls _ (HRe.out.trans (if_pos hin)))
        have HIi := Lib.hid hin
        clear HCalls hin HRe
        go_wp2_with fail
        refine HCa.out.mono ?_
        rintro e w3 ⟨rfl, S', hS', hl', hd', ho'⟩
        have HN := Lib.hid (show JoinAt w w2 E S T 1 (k + 1) w3 from ⟨S', hS', by omega, hd', HOn.out.trans ho', FitL.succ HGk.out HFk.out HIi.out⟩)
        clear hS' hd' ho'
        go_wp2
        go_roundw
        case rel => exact ⟨k + 1, by omega, by go_num, HN⟩
        case measure => simp [intOf]; omega
      · have HCa := Lib.hid (HCalls _ (HRe.out.trans (if_neg hin)))
        have HJ := Lib.hid (joinC_no (L := S.map entOf) (M := T.map entOf) (s := 1) (by omega) (List.mem_of_getElem? HGk.out) hin)
        clear HCalls hin HRe
        go_wp2_with fail
        refine HCa.out.mono ?_
        rintro e w3 ⟨rfl, S', hS', hl', hd', ho'⟩
        have ho3 := HOn.out.trans ho'
        obtain ⟨a5, l5, c5, hb5, _⟩ := hd'.bx
        have e0 : w3.cell? ⟨E, 0, none⟩ = some (.slice a5 l5 c5) := cell_of_row w3 E 0 _ _ _ hb5
        have z0 : w3.frozen? ⟨E, 0, none⟩ = false := frozen_of_row w3 E 0 _ _ hb5
        have hW3 := (ho3.block W HW2.out.lt (fun e => HEW.out e.symm)).trans HBw.out
        have q0 : w3.cell? ⟨W, 0, none⟩ = some (.slice aw lw cw) := cell_of_row w3 W 0 _ _ _ hW3
        have HT := Lib.hid (DocB.take hd' (HW2.out.other ho3 HD2.out.sole (fun e => HEW.out e.symm)) hW3)
        have HO3 := Lib.hid ho3
        clear hS' hd' ho' hb5 hW3 ho3
        go_wp2
        go_ret
        exact join_fail HJ.out HT.out.1 (only_copies HB1.out HB2.out) (HO3.out.trans HT.out.2)
    · obtain rfl : k = l := by omega
      obtain ⟨Sk, hSk, hlk, hdk, hok, hfk⟩ := HK.out
      have HJ := Lib.hid (joinC_yes (L := S.map entOf) (M := T.map entOf) (s := 1) (by omega) (FitL.all (by rw [List.length_map, hl]; exact hfk)))
      have HSk := Lib.hid hSk
      have HDk := Lib.hid hdk
      have HOn := Lib.hid hok
      clear hSk hdk hok hfk
      go_wp2
      go_ret
      exact join_done HJ.out (by rw [HSk.out, List.length_map, hl]) (by omega) HDk.out (only_copies HB1.out HB2.out) HOn.out
set_option maxHeartbeats 6400000 in
theorem djoin_neg (w : World) (E F : Nat) (S T : List EntD) (h : DocB w E S) (h' : DocB w F T) (hne : E ≠ F) (hs : S.length ≤ 2000) (ht : T.length ≤ 2000) :
    Calls Try.prog 21 #[.pointer (some ⟨E, 0, none⟩), .pointer (some ⟨F, 0, none⟩), .int .i64 (-1)] w (DJoin w E S T (-1)) := by
  have HD := Lib.hid h
  have HD' := Lib.hid h'
  clear h h' hne
  go_enter Try.func21, Try.ntmps21
  go_wp2_with fail
  refine (dcopy_any w E S HD.out (by omega)).mono ?_
  rintro e w1 ⟨W, rfl, hW, hdw, hb1⟩
  have HB1 := Lib.hid hb1
  have HW := Lib.hid hdw
  have HWl := Lib.hid hW
  clear hb1 hdw hW
  go_wp2_with fail
  refine (dcopy_any w1 F T (HD'.out.below HB1.out) (by omega)).mono ?_
  rintro e w2 ⟨V, rfl, hV, hdv, hb2⟩
  obtain ⟨a, l, c, hbx, hI, hlc, hn⟩ := hdv.bx
  have v0 : w2.cell? ⟨V, 0, none⟩ = some (.slice a l c) := cell_of_row w2 V 0 _ _ _ hbx
  have HB2 := Lib.hid hb2
  have HI := Lib.hid hI
  have hl : T.length = l := hI.1
  have hm := hI.2.1
  have HEW := Lib.hid (show E ≠ W by have := HD.out.lt; have := HWl.out; omega)
  have HD2 := Lib.hid ((HD.out.below HB1.out).below hb2)
  have HW2 := Lib.hid (HW.out.below hb2)
  have HOk := Lib.hid (And.intro HD.out.ok HD'.out.ok)
  have HG := Lib.hid (show ∀ i, i < l → (T.map entOf)[i]? = some (entOf (T.getD i noE)) from fun i hi => map_get (by omega))
  obtain ⟨aw, lw, cw, hbw, _, _, _⟩ := HW2.out.bx
  have HBw := Lib.hid hbw
  clear hb2 hdv hbx hI hn hlc hV hbw
  go_wp2
  go_loopw [28] (fun i wr => ∃ k : Nat, k ≤ l ∧ i = .int .i64 (k : Int) ∧ Hid (JoinAt w w2 E S T (-1) k wr)) (fun i _ => l - (intOf i).toNat)
  case atStart => exact ⟨0, by omega, rfl, Lib.hid ⟨S, rfl, by omega, HD2.out, Only.refl _ _, by simp [FitL]⟩⟩
  case round =>
    obtain ⟨k, hk, rfl, HK⟩ := hrel
    have hk0 : (0 : Int) ≤ (k : Int) := by omega
    by_cases hlt : k < l
    · have hki : (k : Int) < (l : Int) := by omega
      obtain ⟨Sk, hSk, hlk, hdk, hok, hfk⟩ := HK.out
      have HIr := hI_of HI.out hok HD2.out
      rcases HIr.2.2 with z | ⟨b, off, rfl, hbl, hc⟩
      · omega
      have hx := hc k hlt
      dsimp only at hx
      have c0 := hx.c0
      have c1 := hx.c1
      have HGk := Lib.hid (HG.out k hlt)
      generalize T.getD k noE = X at *
      have HX := Lib.hid hx
      have HRd := Lib.hid (addB_round (L := S.map entOf) (M := T.map entOf) (s := -1) HOk.out.1 HOk.out.2 HGk.out hfk (x := -1 * X.n) rfl)
      rw [← hSk] at HRd
      have HSk := Lib.hid hSk
      have HDk := Lib.hid hdk
      have HOn := Lib.hid hok
      have HFk := Lib.hid hfk
      have HIn := Lib.hid (show in64 X.n from hx.num)
      have HLr := Lib.hid (show X.rl ≤ 50 by
        have h1 := (HOk.out.2.okr _ (List.mem_of_getElem? HGk.out)).2
        have h2 := hx.row.1
        simp only [entOf] at h1
        omega)
      clear hx hc HIr hSk hdk hok hfk
      have HC := Lib.hid (joinT_at (L := S.map entOf) (M := T.map entOf) (s := -1) HOk.out.1 HOk.out.2 HGk.out HFk.out)
      rw [← HSk.out] at HC
      have HCi := Lib.hid (cnt_in HOk.out.1.sort HOk.out.1.num (kE (entOf X)))
      obtain ⟨q, hq⟩ : ∃ q, q = cntB (S.map entOf) (kE (entOf X)) := ⟨_, rfl⟩
      have HQ := Lib.hid hq
      have HRv := Lib.hid (HOk.out.2.okr _ (List.mem_of_getElem? HGk.out))
      rw [← hq] at HC HCi
      clear hq
      by_cases hmin : X.n = -9223372036854775808
      · have HMin := Lib.hid hmin
        rw [hmin] at c1
        clear hmin HRd
        have HA := fun x => (show addB (Sk.map entOf) X.rv x = if in64 (q + x) then (putB (Sk.map entOf) X.rv (q + x), 0) else (Sk.map entOf, 13) by
          unfold addB
          rw [if_pos (show allF X.rv = true from List.all_eq_true.2 (fun v hv => (HRv.out.1 v hv).1)), show cntB (Sk.map entOf) (keyVs X.rv) = q from HC.out])
        have HCalls := fun x (hx : in64 x) y (hy : addB (Sk.map entOf) X.rv x = y) => (show Calls Try.prog 53 #[.pointer (some ⟨E, 0, none⟩), .slice X.ra X.rl X.rc, .int .i64 x] wr (DAdd wr E Sk y) from hy ▸ dadd_any wr E Sk X.ra X.rl X.rc X.rv x HDk.out HX.out.row HX.out.rg HX.out.nil hx HLr.out (by omega))
        by_cases hq1 : 0 < q
        · have HCa := Lib.hid (HCalls 9223372036854775807 (by unfold in64; omega) _ ((HA _).trans (if_neg (by unfold in64; omega))))
          have HJ := Lib.hid (joinC_no (L := S.map entOf) (M := T.map entOf) (s := -1) (by omega) (List.mem_of_getElem? HGk.out) (show ¬ in64 (cntB (S.map entOf) (kE (entOf X)) + -1 * X.n) by rw [← HQ.out, HMin.out]; unfold in64; omega))
          have hq2 : 0 ≤ q := by omega
          clear HCalls HA hq1
          go_wp2_with fail
          refine HCa.out.mono ?_
          rintro e w3 ⟨rfl, S', hS', hl', hd', ho'⟩
          have hxe := HX.out.sole' ho' HDk.out
          have d0 := hxe.c0
          have HXe := Lib.hid hxe
          have HS' := Lib.hid hS'
          have HD3 := Lib.hid hd'
          have HO' := Lib.hid ho'
          clear hS' hd' ho' hxe
          go_wp2_with fail
          refine (dcount_any w3 E S' X.ra X.rl X.rc X.rv HD3.out HXe.out.row HRv.out.1).mono ?_
          rintro e w4 ⟨rfl, hb4⟩
          rw [show cntB (S'.map entOf) (keyVs X.rv) = q by rw [HS'.out]; exact HC.out]
          have HB4 := Lib.hid hb4
          clear hb4
          have ho3 := (HOn.out.trans HO'.out).trans ((only_below HB4.out).mono (fun _ => False.elim))
          obtain ⟨a5, l5, c5, hb5, _⟩ := (HD3.out.below HB4.out).bx
          have e0 : w4.cell? ⟨E, 0, none⟩ = some (.slice a5 l5 c5) := cell_of_row w4 E 0 _ _ _ hb5
          have z0 : w4.frozen? ⟨E, 0, none⟩ = false := frozen_of_row w4 E 0 _ _ hb5
          have hW3 := (ho3.block W HW2.out.lt (fun e => HEW.out e.symm)).trans HBw.out
          have q0 : w4.cell? ⟨W, 0, none⟩ = some (.slice aw lw cw) := cell_of_row w4 W 0 _ _ _ hW3
          have HT := Lib.hid (DocB.take (HD3.out.below HB4.out) (HW2.out.other ho3 HD2.out.sole (fun e => HEW.out e.symm)) hW3)
          have HO3 := Lib.hid ho3
          clear hb5 hW3 ho3
          go_wp2
          go_ret
          exact join_fail HJ.out HT.out.1 (only_copies HB1.out HB2.out) (HO3.out.trans HT.out.2)
        · have HCa := Lib.hid (HCalls 9223372036854775807 (by unfold in64; omega) _ ((HA _).trans (if_pos (by have := HCi.out; unfold in64 at *; omega))))
          have HA2 := fun (S' : List EntD) (hS' : S'.map entOf = putB (Sk.map entOf) X.rv (q + 9223372036854775807)) => (show addB (S'.map entOf) X.rv 1 = if in64 (q + 9223372036854775807 + 1) then (putB (S'.map entOf) X.rv (q + 9223372036854775807 + 1), 0) else (S'.map entOf, 13) by
            unfold addB
            rw [if_pos (show allF X.rv = true from List.all_eq_true.2 (fun v hv => (HRv.out.1 v hv).1)), show cntB (S'.map entOf) (keyVs X.rv) = q + 9223372036854775807 by rw [hS', cnt_put HDk.out.ok.sort HDk.out.ok.nz, if_pos rfl]])
          clear HCalls HA
          by_cases hq0 : q = 0
          · have HJ := Lib.hid (joinC_no (L := S.map entOf) (M := T.map entOf) (s := -1) (by omega) (List.mem_of_getElem? HGk.out) (show ¬ in64 (cntB (S.map entOf) (kE (entOf X)) + -1 * X.n) by rw [← HQ.out, HMin.out]; unfold in64; omega))
            have HC2 := Lib.hid (fun (w3 : World) (S' : List EntD) (hd : DocB w3 E S') (hxe : EsAt w3 b (off + k * 2) X) (hl' : S'.length ≤ Sk.length + 1) (hS' : S'.map entOf = putB (Sk.map entOf) X.rv (q + 9223372036854775807)) => show Calls Try.prog 53 #[.pointer (some ⟨E, 0, none⟩), .slice X.ra X.rl X.rc, .int .i64 1] w3 (DAdd w3 E S' (S'.map entOf, 13)) from ((HA2 S' hS').trans (if_neg (by unfold in64; omega))) ▸ dadd_any w3 E S' X.ra X.rl X.rc X.rv 1 hd hxe.row hxe.rg hxe.nil (by unfold in64; omega) HLr.out (by omega))
            clear HA2 hq1
            go_wp2_with fail
            refine HCa.out.mono ?_
            rintro e w3 ⟨rfl, S', hS', hl', hd', ho'⟩
            have hxe := HX.out.sole' ho' HDk.out
            have d0 := hxe.c0
            have HXe := Lib.hid hxe
            have HS' := Lib.hid hS'
            have HD3 := Lib.hid hd'
            have HO' := Lib.hid ho'
            clear hS' hd' ho' hxe
            go_wp2_with fail
            refine (HC2.out w3 S' HD3.out HXe.out hl' HS'.out).mono ?_
            rintro e w5 ⟨rfl, S5, hS5, hl5, hd5, ho5⟩
            have hxe := HXe.out.sole' ho5 HD3.out
            have d5 := hxe.c0
            have HX5 := Lib.hid hxe
            have HS5 := Lib.hid (show S5.map entOf = S'.map entOf from hS5)
            have HD5 := Lib.hid hd5
            have HO5 := Lib.hid ho5
            clear hS5 hd5 ho5 hxe
            go_wp2_with fail
            refine (dcount_any w5 E S5 X.ra X.rl X.rc X.rv HD5.out HX5.out.row HRv.out.1).mono ?_
            rintro e w4 ⟨rfl, hb4⟩
            rw [show cntB (S5.map entOf) (keyVs X.rv) = 9223372036854775807 by rw [HS5.out, HS'.out, cnt_put HDk.out.ok.sort HDk.out.ok.nz, if_pos rfl, hq0]; omega]
            have HB4 := Lib.hid hb4
            clear hb4
            have ho3 := ((HOn.out.trans HO'.out).trans HO5.out).trans ((only_below HB4.out).mono (fun _ => False.elim))
            obtain ⟨a5, l5, c5, hb5, _⟩ := (HD5.out.below HB4.out).bx
            have e0 : w4.cell? ⟨E, 0, none⟩ = some (.slice a5 l5 c5) := cell_of_row w4 E 0 _ _ _ hb5
            have z0 : w4.frozen? ⟨E, 0, none⟩ = false := frozen_of_row w4 E 0 _ _ hb5
            have hW3 := (ho3.block W HW2.out.lt (fun e => HEW.out e.symm)).trans HBw.out
            have q0 : w4.cell? ⟨W, 0, none⟩ = some (.slice aw lw cw) := cell_of_row w4 W 0 _ _ _ hW3
            have HT := Lib.hid (DocB.take (HD5.out.below HB4.out) (HW2.out.other ho3 HD2.out.sole (fun e => HEW.out e.symm)) hW3)
            have HO3 := Lib.hid ho3
            clear hb5 hW3 ho3
            go_wp2
            go_ret
            exact join_fail HJ.out HT.out.1 (only_copies HB1.out HB2.out) (HO3.out.trans HT.out.2)
          · have HC2 := Lib.hid (fun (w3 : World) (S' : List EntD) (hd : DocB w3 E S') (hxe : EsAt w3 b (off + k * 2) X) (hl' : S'.length ≤ Sk.length + 1) (hS' : S'.map entOf = putB (Sk.map entOf) X.rv (q + 9223372036854775807)) => show Calls Try.prog 53 #[.pointer (some ⟨E, 0, none⟩), .slice X.ra X.rl X.rc, .int .i64 1] w3 (DAdd w3 E S' (putB (S'.map entOf) X.rv (q + 9223372036854775807 + 1), 0)) from ((HA2 S' hS').trans (if_pos (by have := HCi.out; unfold in64 at *; omega))) ▸ dadd_any w3 E S' X.ra X.rl X.rc X.rv 1 hd hxe.row hxe.rg hxe.nil (by unfold in64; omega) HLr.out (by omega))
            have HIi := Lib.hid (show in64 (cntB (S.map entOf) (kE (entOf X)) + -1 * (entOf X).2) by
              have e : (entOf X).2 = X.n := rfl
              rw [← HQ.out, e, HMin.out]
              have := HCi.out
              unfold in64 at *
              omega)
            clear HA2
            go_wp2_with fail
            refine HCa.out.mono ?_
            rintro e w3 ⟨rfl, S', hS', hl', hd', ho'⟩
            have hxe := HX.out.sole' ho' HDk.out
            have d0 := hxe.c0
            have HXe := Lib.hid hxe
            have HS' := Lib.hid hS'
            have HD3 := Lib.hid hd'
            have HO' := Lib.hid ho'
            clear hS' hd' ho' hxe
            go_wp2_with fail
            refine (HC2.out w3 S' HD3.out HXe.out hl' HS'.out).mono ?_
            rintro e w5 ⟨rfl, S5, hS5, hl5, hd5, ho5⟩
            have HN := Lib.hid (show JoinAt w w2 E S T (-1) (k + 1) w5 from ⟨S5, by
              have e : (entOf X).2 = X.n := rfl
              have h1 := HCi.out
              unfold in64 at h1
              rw [hS5, joinT_succ HGk.out, ← HSk.out, ← HQ.out, HS'.out, e, HMin.out, show q + -1 * -9223372036854775808 = q + 9223372036854775807 + 1 by omega]
              exact put_put HDk.out.ok HRv.out (by unfold in64; omega) (by unfold in64; omega), by omega, hd5, (HOn.out.trans HO'.out).trans ho5, FitL.succ HGk.out HFk.out HIi.out⟩)
            clear hS5 hd5 ho5 hq0 hq1
            go_wp2
            go_roundw
            case rel => exact ⟨k + 1, by omega, by go_num, HN⟩
            case measure => simp [intOf]; omega
      · have HXn := Lib.hid (show in64 (-X.n) by have := HIn.out; unfold in64 at *; omega)
        have hw : IntKind.i64.wrap (-X.n) = -X.n := by rw [IntKind.wrap_i64]; have := HXn.out; unfold in64 at this; omega
        have hw2 : IntKind.i64.wrap (X.n * -1) = -X.n := by rw [show X.n * -1 = -X.n by omega]; exact hw
        have hmb : (X.n == -9223372036854775808) = false := beq_eq_false_iff_ne.2 hmin
        clear hmin
        have HCalls := fun y (hy : addB (Sk.map entOf) X.rv (-X.n) = y) => (show Calls Try.prog 53 #[.pointer (some ⟨E, 0, none⟩), .slice X.ra X.rl X.rc, .int .i64 (-X.n)] wr (DAdd wr E Sk y) from hy ▸ dadd_any wr E Sk X.ra X.rl X.rc X.rv (-X.n) HDk.out HX.out.row HX.out.rg HX.out.nil HXn.out HLr.out (by omega))
        have HRe := Lib.hid (show addB (Sk.map entOf) X.rv (-X.n) = if in64 (cntB (S.map entOf) (kE (entOf X)) + -1 * (entOf X).2) then (joinT (S.map entOf) (T.map entOf) (-1) (k + 1), 0) else (Sk.map entOf, 13) from (congrArg (addB (Sk.map entOf) X.rv) (show -X.n = -1 * X.n by omega)).trans HRd.out)
        clear HRd
        by_cases hin : in64 (cntB (S.map entOf) (kE (entOf X)) + -1 * (entOf X).2)
        · have HCa := Lib.hid (HCalls _ (HRe.out.trans (if_pos hin)))
          have HIi := Lib.hid hin
          clear HCalls hin HRe
          go_wp2_with fail
          refine HCa.out.mono ?_
          rintro e w3 ⟨rfl, S', hS', hl', hd', ho'⟩
          have HN := Lib.hid (show JoinAt w w2 E S T (-1) (k + 1) w3 from ⟨S', hS', by omega, hd', HOn.out.trans ho', FitL.succ HGk.out HFk.out HIi.out⟩)
          clear hS' hd' ho'
          go_wp2
          go_roundw
          case rel => exact ⟨k + 1, by omega, by go_num, HN⟩
          case measure => simp [intOf]; omega
        · have HCa := Lib.hid (HCalls _ (HRe.out.trans (if_neg hin)))
          have HJ := Lib.hid (joinC_no (L := S.map entOf) (M := T.map entOf) (s := -1) (by omega) (List.mem_of_getElem? HGk.out) hin)
          clear HCalls hin HRe
          go_wp2_with fail
          refine HCa.out.mono ?_
          rintro e w3 ⟨rfl, S', hS', hl', hd', ho'⟩
          have ho3 := HOn.out.trans ho'
          obtain ⟨a5, l5, c5, hb5, _⟩ := hd'.bx
          have e0 : w3.cell? ⟨E, 0, none⟩ = some (.slice a5 l5 c5) := cell_of_row w3 E 0 _ _ _ hb5
          have z0 : w3.frozen? ⟨E, 0, none⟩ = false := frozen_of_row w3 E 0 _ _ hb5
          have hW3 := (ho3.block W HW2.out.lt (fun e => HEW.out e.symm)).trans HBw.out
          have q0 : w3.cell? ⟨W, 0, none⟩ = some (.slice aw lw cw) := cell_of_row w3 W 0 _ _ _ hW3
          have HT := Lib.hid (DocB.take hd' (HW2.out.other ho3 HD2.out.sole (fun e => HEW.out e.symm)) hW3)
          have HO3 := Lib.hid ho3
          clear hS' hd' ho' hb5 hW3 ho3
          go_wp2
          go_ret
          exact join_fail HJ.out HT.out.1 (only_copies HB1.out HB2.out) (HO3.out.trans HT.out.2)
    · obtain rfl : k = l := by omega
      obtain ⟨Sk, hSk, hlk, hdk, hok, hfk⟩ := HK.out
      have HJ := Lib.hid (joinC_yes (L := S.map entOf) (M := T.map entOf) (s := -1) (by omega) (FitL.all (by rw [List.length_map, hl]; exact hfk)))
      have HSk := Lib.hid hSk
      have HDk := Lib.hid hdk
      have HOn := Lib.hid hok
      clear hSk hdk hok hfk
      go_wp2
      go_ret
      exact join_done HJ.out (by rw [HSk.out, List.length_map, hl]) (by omega) HDk.out (only_copies HB1.out HB2.out) HOn.out
set_option maxHeartbeats 1600000 in
theorem djoin_any (w : World) (E F : Nat) (S T : List EntD) (s : Int) (h : DocB w E S) (h' : DocB w F T) (hne : E ≠ F) (hs : S.length ≤ 2000) (ht : T.length ≤ 2000) :
    Calls Try.prog 21 #[.pointer (some ⟨E, 0, none⟩), .pointer (some ⟨F, 0, none⟩), .int .i64 s] w (DJoin w E S T s) := by
  by_cases h1 : s = 1
  · subst h1; exact djoin_one w E F S T h h' hne hs ht
  by_cases h2 : s = -1
  · subst h2; exact djoin_neg w E F S T h h' hne hs ht
  have e1 : (s != 1) = true := bne_iff_ne.2 h1
  have e2 : (s != -1) = true := bne_iff_ne.2 h2
  have HJ := Lib.hid (joinC_arg (L := S.map entOf) (M := T.map entOf) (s := s) (by omega))
  have HD := Lib.hid h
  clear h h' hne h1 h2
  go_enter Try.func21, Try.ntmps21
  go_wp2
  go_ret
  exact ⟨by rw [HJ.out]; rfl, S, by rw [HJ.out], by omega, HD.out, Only.refl _ _⟩
end Go.Proofs.Ytplgkblahmndoaa
