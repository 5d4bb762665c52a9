/- The lexer's numbers and texts: any. -/
import Derived.Test.YtpinalpigefenaaGreatDoorLwBegin
import Derived.Test.YtpinalpigefenaaGreatDoorLwLib
import Derived.Lib.SplitLaws
namespace Go.Proofs.YtpinalpigefenaaGreatDoor
open Go.RowKit Go.Lib
set_option linter.unusedVariables false
set_option linter.unusedSimpArgs false
set_option maxRecDepth 100000

/-- the library's variables that the lexer reads -/
def VOk (w : World) : Prop := (∃ m : Int, w.cell? ⟨gMax, 0, none⟩ = some (.int .i64 m)) ∧ ∃ ev, w.cell? ⟨gErr, 0, none⟩ = some ev ∧ (ev = .nilIface ∨ ∃ te pe, ev = .iface te pe)
theorem VOk.below {w w' : World} {N : Nat} (h : VOk w) (hb : Below N w w') (h1 : gMax < N ∧ gErr < N) : VOk w' := by
  obtain ⟨⟨m, hm⟩, ev, he, hev⟩ := h
  exact ⟨⟨m, (hb.cell (p := ⟨gMax, 0, none⟩) h1.1).trans hm⟩, ev, (hb.cell (p := ⟨gErr, 0, none⟩) h1.2).trans he, hev⟩
theorem parseM : ∀ (l : Bs) (acc : Nat), allD l = true → acc ≤ 18446744073709551615 → parseUintM 18446744073709551615 acc l = if acc * 10 ^ l.length + decV l ≤ 18446744073709551615 then .ok (acc * 10 ^ l.length + decV l) else .range
  | [], acc, _, h => by
    have e : acc * 10 ^ ([] : Bs).length + decV [] = acc := by simp [decV]
    rw [e, if_pos h]
    rfl
  | c :: r, acc, h, ha => by
    unfold allD at h
    rw [List.all_cons, Bool.and_eq_true] at h
    have hd := allD_byte h.1
    have hpw : 1 ≤ 10 ^ r.length := Nat.one_le_pow _ _ (by decide)
    have e : acc * 10 ^ (c :: r).length + decV (c :: r) = (acc * 10 + (c.toNat - 48)) * 10 ^ r.length + decV r := by
      rw [decV_cons, List.length_cons, Nat.pow_succ, Nat.add_mul, Nat.mul_comm (10 ^ r.length) 10, ← Nat.mul_assoc, Nat.add_assoc]
    rw [e]
    unfold parseUintM
    rw [if_pos hd]
    have hge : acc * 10 + (c.toNat - 48) ≤ (acc * 10 + (c.toNat - 48)) * 10 ^ r.length := Nat.le_mul_of_pos_right _ (by omega)
    by_cases h1 : 1844674407370955162 ≤ acc
    · rw [if_pos h1, if_neg (by omega)]
    · rw [if_neg h1]
      by_cases h2 : 18446744073709551615 < acc * 10 + (c.toNat - 48)
      · rw [if_pos h2, if_neg (by omega)]
      · rw [if_neg h2, parseM r _ h.2 (by omega)]
theorem parse_digits {l : Bs} (h : allD l = true) (hne : l ≠ []) : parseIntB 64 l = if decV l ≤ 9223372036854775807 then .ok (decV l : Int) else .range := by
  cases l with
  | nil => exact absurd rfl hne
  | cons c r =>
    have h0 := h
    unfold allD at h0
    rw [List.all_cons, Bool.and_eq_true] at h0
    have hd := allD_byte h0.1
    unfold parseIntB
    simp only
    rw [if_neg (show ¬ (c.toNat = 43 ∨ c.toNat = 45) by omega)]
    unfold parseUintB
    rw [if_neg (List.cons_ne_nil c r), show (2 : Nat) ^ 64 - 1 = 18446744073709551615 from rfl, parseM (c :: r) 0 h (by omega), Nat.zero_mul, Nat.zero_add]
    have hneg : ¬ c.toNat = 45 := by omega
    by_cases h1 : decV (c :: r) ≤ 18446744073709551615
    · rw [if_pos h1]
      simp only [hneg, not_false_eq_true, true_and, false_and, if_false, show (2 : Nat) ^ (64 - 1) = 9223372036854775808 from rfl]
      by_cases h2 : decV (c :: r) ≤ 9223372036854775807
      · rw [if_neg (by omega), if_pos h2]
      · rw [if_pos (by omega), if_neg h2]
    · rw [if_neg h1]
      simp only
      rw [if_neg (by omega)]
/-- all words' cells -/
def wsX (ws : List Wd) : List Value := ws.flatMap fun x => wordX x.1 ⟨x.2.1.toArray⟩ x.2.2
theorem wsX_snoc (ws : List Wd) (k : Int) (t : ByteArray) (n : Int) : wsX ws ++ wordX k t n = wsX (ws ++ [(k, t.data.toList, n)]) := by
  unfold wsX
  rw [List.flatMap_append]
  simp
/-- a reader that has these words -/
def RSt (s : ByteArray) (w : World) (N : Nat) (ws : List Wd) (md start : Int) : Prop := ∃ v, LSt s w N v ws.length (wsX ws) md start
/-- what a call that may add a word answers -/
def AddP (s : ByteArray) (w : World) (N : Nat) (start : Int) (o : An (List Wd)) (e : Ending) (w' : World) : Prop :=
  match o with
  | .ok ws => e = .returned (.int .i64 0) ∧ RSt s w' N ws 0 start ∧ Kp N w w'
  | .no x => e = .returned (.int .i64 x) ∧ Kp N w w'
theorem AddP.later {s : ByteArray} {w w1 w' : World} {N : Nat} {start : Int} {o : An (List Wd)} {e : Ending} (h : AddP s w1 N start o e w') (hk : Kp N w w1) : AddP s w N start o e w' := by
  cases o with
  | ok ws => exact ⟨h.1, h.2.1, hk.trans h.2.2⟩
  | no x => exact ⟨h.1, hk.trans h.2⟩
theorem AddP.code {s : ByteArray} {w w' : World} {N : Nat} {start : Int} {o : An (List Wd)} {e : Ending} (h : AddP s w N start o e w') : ∃ c : Int, e = .returned (.int .i64 c) := by
  cases o with
  | ok ws => exact ⟨0, h.1⟩
  | no x => exact ⟨x, h.1⟩
theorem bytesW_below (w : World) (T : TypeId) (t : ByteArray) : Below w.heap.size w (Lib.bytesWorld w T t) :=
  ⟨rfl, rfl, rfl, by have := Lib.bytesWorld_size w T t; omega, fun k hk => Lib.bytesWorld_at_old w T t k hk⟩
set_option maxHeartbeats 3200000 in
theorem add_full (s : ByteArray) (w : World) (N : Nat) (ws : List Wd) (start : Int) (k : Int) (t : ByteArray) (m : Int) (h : RSt s w N ws 0 start) (hl : ws.length ≤ 600) :
    Calls Tryz.prog 173 #[.pointer (some ⟨N, 0, none⟩), .agg #[.int .i64 k, .string t, .int .i64 m]] w (AddP s w N start (addM ws (k, t.data.toList, m))) := by
  obtain ⟨v, h⟩ := h
  by_cases h6 : ws.length = 600
  · have HA := Lib.hid (show addM ws (k, t.data.toList, m) = .no eL by unfold addM; rw [if_pos h6])
    obtain ⟨a, c, rfl⟩ := own_slice3 h.own
    have h1 := h.below (bel0 (.cells #[.int .i64 k, .string t, .int .i64 m] 283) (Below.refl w.heap.size w))
    have HK := Lib.hid (Kp.below (N := N) (Nat.le_of_lt h.low) (bel0 (.cells #[.int .i64 k, .string t, .int .i64 m] 283) (Below.refl w.heap.size w)))
    obtain ⟨⟨f0, f1, f2, f3⟩, fz⟩ := h1.facts
    rw [h6] at f1
    clear h h1 h6
    go_enter Tryz.func173, Tryz.ntmps173
    go_wp2
    go_ret
    rw [HA.out]
    exact ⟨rfl, HK.out⟩
  · have e : addM ws (k, t.data.toList, m) = .ok (ws ++ [(k, t.data.toList, m)]) := by unfold addM; rw [if_neg h6]
    rw [e]
    refine (ladd_any s w N v ws.length (wsX ws) 0 start k t m h (by omega)).mono ?_
    rintro e w' ⟨rfl, v', h', hk⟩
    exact ⟨rfl, ⟨v', by rw [← wsX_snoc, List.length_append]; exact h'⟩, hk⟩
set_option maxHeartbeats 3200000 in
theorem addnum_any (s : ByteArray) (w : World) (N : Nat) (ws : List Wd) (start : Int) (T : ByteArray) (h : RSt s w N ws 0 start) (hl : ws.length ≤ 600) (hD : allD T.data.toList = true) (hne : T.data.toList ≠ []) (hT : T.size ≤ 4000) (hv : VOk w) :
    Calls Tryz.prog 174 #[.pointer (some ⟨N, 0, none⟩), .string T] w (AddP s w N start (numM T.data.toList ws)) := by
  have HH := Lib.hid h
  have hp := parse_digits hD hne
  have hsz : 0 < T.size := by
    have := List.length_pos_iff.2 hne
    rwa [Array.length_toList] at this
  have hi0 : ∀ W, (Instr.index 9 (.string T) (.int .i64 0)).run Tryz.prog W = .ok (.int .u8 ((T[0]'hsz).toNat : Int)) W := fun W => by
    rw [run_index_string (P := Tryz.prog) W 9 T .i64 0 Tryz.underlying9, dif_pos (by omega)]
    rfl
  have hh : T.data.toList.head? = some (T[0]'hsz) := by
    rw [List.head?_eq_getElem?, Array.getElem?_toList, Array.getElem?_eq_getElem (by exact hsz)]
    rfl
  obtain ⟨b0, hb0⟩ : ∃ b0, b0 = T[0]'hsz := ⟨_, rfl⟩
  rw [← hb0] at hi0 hh
  have hlen : T.data.toList.length = T.size := by rw [Array.length_toList]; rfl
  obtain ⟨y, hy⟩ : ∃ y : Nat, y = b0.toNat := ⟨_, rfl⟩
  rw [← hy] at hi0
  by_cases hr : decV T.data.toList ≤ 9223372036854775807
  · rw [if_pos hr] at hp
    have HP := Lib.hid (fun W => Tryz.strconv_ParseInt_10_at64_ok T (by omega) _ hp W)
    obtain ⟨V, hV⟩ : ∃ V : Int, V = (decV T.data.toList : Int) := ⟨_, rfl⟩
    rw [← hV] at HP
    have HNm := Lib.hid (show numM T.data.toList ws = if (decide (1 < T.size) && decide (y = 48)) = true then .no eS else addM ws (2, T.data.toList, V) by
      unfold numM numOk
      rw [decide_eq_true hr, hh, hlen, hV]
      by_cases h48 : b0 = 48
      · have : (some b0 == some (48 : UInt8)) = true := by rw [h48]; rfl
        rw [this, decide_eq_true (show y = 48 by rw [hy, h48]; rfl)]
        by_cases h1 : 1 < T.size
        · rw [decide_eq_true h1]; rfl
        · rw [decide_eq_false h1]; rfl
      · have : (some b0 == some (48 : UInt8)) = false := by rw [beq_eq_false_iff_ne]; exact fun e => h48 (Option.some.inj e)
        rw [this, decide_eq_false (show ¬ y = 48 by rw [hy]; exact fun e => h48 (UInt8.toNat_inj.1 (by simpa using e)))]
        cases decide (1 < T.size) <;> rfl)
    have HAd := Lib.hid (fun (W : World) (hS : RSt s W N ws 0 start) => add_full s W N ws start 2 T V hS hl)
    have hsz2 : T.size ≤ 9223372036854775807 := by omega
    clear h hp hr hD hne hV hh hb0 hy hv
    by_cases h1 : 1 < T.size
    · by_cases h48 : y = 48
      · have e1 : ((y : Int) == 48) = true := by rw [beq_iff_eq]; omega
        have h1i : (1 : Int) < (T.size : Int) := by omega
        have HG := Lib.hid (show numM T.data.toList ws = .no eS by rw [HNm.out, decide_eq_true h1, decide_eq_true h48]; rfl)
        clear h1 h48 HNm
        go_enter Tryz.func174, Tryz.ntmps174
        go_wp2_with fail
        refine (HP.out _).mono ?_
        rintro e w1 ⟨rfl, hw⟩
        have HB1 := Lib.hid (show Below w.heap.size w w1 by
          rcases hw with rfl | ⟨t, rfl⟩
          · exact Below.refl _ _
          · exact bytesW_below w _ t)
        clear hw
        go_wp2
        go_ret
        rw [HG.out]
        exact ⟨rfl, Kp.below (by obtain ⟨v, h⟩ := HH.out; exact Nat.le_of_lt h.low) HB1.out⟩
      · have e1 : ((y : Int) == 48) = false := beq_eq_false_iff_ne.2 (by omega)
        have h1i : (1 : Int) < (T.size : Int) := by omega
        have HG := Lib.hid (show numM T.data.toList ws = addM ws (2, T.data.toList, V) by rw [HNm.out, decide_eq_true h1, decide_eq_false h48]; rfl)
        clear h1 h48 HNm
        go_enter Tryz.func174, Tryz.ntmps174
        go_wp2_with fail
        refine (HP.out _).mono ?_
        rintro e w1 ⟨rfl, hw⟩
        have HB1 := Lib.hid (show Below w.heap.size w w1 by
          rcases hw with rfl | ⟨t, rfl⟩
          · exact Below.refl _ _
          · exact bytesW_below w _ t)
        clear hw
        go_wp2_with fail
        refine (HAd.out _ (by obtain ⟨v, h⟩ := HH.out; exact ⟨v, h.below HB1.out⟩)).mono ?_
        rintro e w2 hp
        have HE := Lib.hid (show AddP s w N start (addM ws (2, T.data.toList, V)) e w2 from hp.later (Kp.below (by obtain ⟨v, h⟩ := HH.out; exact Nat.le_of_lt h.low) HB1.out))
        obtain ⟨c, rfl⟩ := hp.code
        clear hp
        go_wp2
        go_ret
        rw [HG.out]
        exact HE.out
    · have h1i : (T.size : Int) ≤ 1 := by omega
      have HG := Lib.hid (show numM T.data.toList ws = addM ws (2, T.data.toList, V) by rw [HNm.out, decide_eq_false h1]; rfl)
      clear h1 HNm
      go_enter Tryz.func174, Tryz.ntmps174
      go_wp2_with fail
      refine (HP.out _).mono ?_
      rintro e w1 ⟨rfl, hw⟩
      have HB1 := Lib.hid (show Below w.heap.size w w1 by
        rcases hw with rfl | ⟨t, rfl⟩
        · exact Below.refl _ _
        · exact bytesW_below w _ t)
      clear hw
      go_wp2_with fail
      refine (HAd.out _ (by obtain ⟨v, h⟩ := HH.out; exact ⟨v, h.below HB1.out⟩)).mono ?_
      rintro e w2 hp
      have HE := Lib.hid (show AddP s w N start (addM ws (2, T.data.toList, V)) e w2 from hp.later (Kp.below (by obtain ⟨v, h⟩ := HH.out; exact Nat.le_of_lt h.low) HB1.out))
      obtain ⟨c, rfl⟩ := hp.code
      clear hp
      go_wp2
      go_ret
      rw [HG.out]
      exact HE.out
  · rw [if_neg hr] at hp
    obtain ⟨_, ev, hev, hev2⟩ := hv
    have HP := Lib.hid (Tryz.strconv_ParseInt_10_at64_range T (by omega) hp ev w hev hev2)
    have HG := Lib.hid (show numM T.data.toList ws = .no eS by
      unfold numM numOk
      rw [decide_eq_false hr]
      rfl)
    obtain ⟨V, hV⟩ : ∃ V : Int, V = intSat 64 T.data.toList := ⟨_, rfl⟩
    rw [← hV] at HP
    clear h hp hr hD hne hV hh hb0 hy hev hev2 hi0
    go_enter Tryz.func174, Tryz.ntmps174
    go_wp2_with fail
    refine HP.out.mono ?_
    rintro e w1 ⟨M, rfl, _, _, hb⟩
    have HB1 := Lib.hid hb
    clear hb
    go_wp2
    go_ret
    rw [HG.out]
    exact ⟨rfl, Kp.below (by obtain ⟨v, h⟩ := HH.out; exact Nat.le_of_lt h.low) HB1.out⟩
set_option maxHeartbeats 3200000 in
theorem addtext_any (s : ByteArray) (w : World) (N : Nat) (ws : List Wd) (start : Int) (T : ByteArray) (h : RSt s w N ws 0 start) (hl : ws.length ≤ 600) (hT : T.size ≤ 4000) (hv : VOk w) :
    Calls Tryz.prog 175 #[.pointer (some ⟨N, 0, none⟩), .string T] w (AddP s w N start (textM T.data.toList ws)) := by
  have HH := Lib.hid h
  obtain ⟨⟨m, hm⟩, _⟩ := hv
  have hc := countB_le ⟨#[39, 39]⟩ (by decide) T.size T (Nat.le_refl _)
  have HR := Lib.hid (Tryz.strings_ReplaceAll T ⟨#[39, 39]⟩ ⟨#[39]⟩ m w (by omega) hm (by decide) (by
    have e : (⟨#[39]⟩ : ByteArray).size = 1 := rfl
    rw [e]
    omega))
  have hrep : replaceAll T.data.toList (⟨#[39, 39]⟩ : ByteArray).data.toList (⟨#[39]⟩ : ByteArray).data.toList = unq T.data.toList := repAll _
  rw [hrep] at HR
  have hul := unq_len _ T.data.toList (Nat.le_refl _)
  have hlen : T.data.toList.length = T.size := by rw [Array.length_toList]; rfl
  obtain ⟨U, hU⟩ : ∃ U : ByteArray, U = ⟨(unq T.data.toList).toArray⟩ := ⟨_, rfl⟩
  have hUl : U.data.toList = unq T.data.toList := by rw [hU]
  have hUs : U.size = (unq T.data.toList).length := by rw [hU]; simp [ByteArray.size]
  rw [← hU] at HR
  have hU4 : U.size ≤ 4000 := by omega
  have HAd := Lib.hid (fun (W : World) (hS : RSt s W N ws 0 start) => add_full s W N ws start 3 U 0 hS hl)
  have HTx := Lib.hid (show textM T.data.toList ws = if 100 < U.size then .no eS else addM ws (3, U.data.toList, 0) by unfold textM; rw [hUs, hUl])
  have HLo := Lib.hid (show N ≤ w.heap.size by obtain ⟨v, h⟩ := h; exact Nat.le_of_lt h.low)
  clear h hm hc hrep hul hlen hU hUl hUs
  by_cases h1 : 100 < U.size
  · have h1i : (100 : Int) < (U.size : Int) := by omega
    have HG := Lib.hid (HTx.out.trans (if_pos h1))
    clear h1
    go_enter Tryz.func175, Tryz.ntmps175
    go_wp2_with fail
    refine HR.out.mono ?_
    rintro e w1 ⟨rfl, hb⟩
    have HB1 := Lib.hid hb
    clear hb
    go_wp2
    go_ret
    rw [HG.out]
    exact ⟨rfl, Kp.below HLo.out HB1.out⟩
  · have h1i : (U.size : Int) ≤ 100 := by omega
    have HG := Lib.hid (HTx.out.trans (if_neg h1))
    clear h1
    go_enter Tryz.func175, Tryz.ntmps175
    go_wp2_with fail
    refine HR.out.mono ?_
    rintro e w1 ⟨rfl, hb⟩
    have HB1 := Lib.hid hb
    clear hb
    go_wp2_with fail
    refine (HAd.out _ (by obtain ⟨v, h⟩ := HH.out; exact ⟨v, h.below HB1.out⟩)).mono ?_
    rintro e w2 hp
    have HE := Lib.hid (hp.later (Kp.below HLo.out HB1.out))
    obtain ⟨c, rfl⟩ := hp.code
    clear hp
    go_wp2
    go_ret
    rw [HG.out]
    exact HE.out
end Go.Proofs.YtpinalpigefenaaGreatDoor
