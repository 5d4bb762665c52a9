/- KeysAfter: the law's walk. -/
import Derived.Test.YthgpdnbmilcgcabAft
import Derived.Test.YthgpdnbmilcgcabAftPure
import Derived.Deep.RegionHeld3
import Derived.Deep.DeepCutAuto
namespace Go.Proofs.Ythgpdnbmilcgcab
open Go.RowKit
set_option linter.unusedVariables false

theorem strip_255 (zs : List Int) (e : Nat) (he : e ≤ zs.length) (hr : ∀ i, e ≤ i → i < zs.length → zs.getD i 0 = 255) : zs = zs.take e ++ List.replicate (zs.length - e) 255 := by
  have : zs.drop e = List.replicate (zs.length - e) 255 := by
    apply List.ext_getElem (by simp)
    intro i h1 h2
    rw [List.length_drop] at h1
    have := hr (e + i) (by omega) (by omega)
    rw [List.getD_eq_getElem?_getD, List.getElem?_eq_getElem (by omega)] at this
    simp
    exact this
  rw [← this, List.take_append_drop]
/-- the shape of a key and what is behind it -/
theorem after_shape (zs : List Int) (h : afterF zs ≠ []) : ∃ (p : List Int) (x : Int) (m : Nat), zs = p ++ x :: List.replicate m 255 ∧ afterF zs = p ++ [x + 1] ∧ x ≠ 255 ∧ x ∈ zs := by
  unfold afterF at h ⊢
  cases e : stripE zs zs.length with
  | zero => rw [e] at h; exact absurd rfl h
  | succ k =>
    have hle := stripE_le zs zs.length
    have hk : k < zs.length := by omega
    have h1 := strip_255 zs (k + 1) (by omega) (fun i h1 h2 => stripE_all zs zs.length i (by omega) h2)
    refine ⟨zs.take k, zs.getD k 0, zs.length - (k + 1), ?_, rfl, stripE_at zs _ k e, ?_⟩
    · rw [List.getD_eq_getElem?_getD, List.getElem?_eq_getElem hk]
      refine h1.trans ?_
      rw [List.take_succ_eq_append_getElem hk, List.append_assoc]
      rfl
    · rw [List.getD_eq_getElem?_getD, List.getElem?_eq_getElem hk]; exact List.getElem_mem _
theorem after_range (zs : List Int) (h : ∀ z ∈ zs, 0 ≤ z ∧ z ≤ 255) : ∀ z ∈ afterF zs, 0 ≤ z ∧ z ≤ 255 := by
  by_cases h0 : afterF zs = []
  · rw [h0]; intro z hz; cases hz
  · obtain ⟨p, x, m, h1, h2, h3, h4⟩ := after_shape zs h0
    rw [h2]
    intro z hz
    rcases List.mem_append.1 hz with hz | hz
    · exact h z (by rw [h1]; simp [hz])
    · simp at hz; have := h x h4; omega
theorem after_len (zs : List Int) : (afterF zs).length ≤ zs.length := by
  by_cases h0 : afterF zs = []
  · rw [h0]; simp
  · obtain ⟨p, x, m, h1, h2, _⟩ := after_shape zs h0
    rw [h2]
    conv => rhs; rw [h1]
    simp
theorem after_above (zs tail : List Int) (h : afterF zs ≠ []) : lessI (afterF zs) (zs ++ tail) = false ∧ afterF zs ≠ zs ++ tail := by
  obtain ⟨p, x, m, h1, h2, _⟩ := after_shape zs h
  have e : zs ++ tail = p ++ x :: (List.replicate m 255 ++ tail) := by
    refine (congrArg (· ++ tail) h1).trans ?_
    simp
  rw [e, h2]
  exact ⟨above _ _ _, above_ne _ _ _⟩
theorem after_between (zs o : List Int) (h : afterF zs ≠ []) (ho : ∀ z ∈ o, 0 ≤ z ∧ z ≤ 255) (hb : ¬ (zs.length ≤ o.length ∧ o.take zs.length = zs)) (hl : lessI o zs = false) : lessI o (afterF zs) = false := by
  obtain ⟨p, x, m, h1, h2, _⟩ := after_shape zs h
  cases e : lessI o (afterF zs) with
  | false => rfl
  | true =>
    exfalso
    rw [h2] at e
    rw [h1] at hl
    have := between p x m o (fun z hz => (ho z hz).2) hl e
    rw [← h1] at this
    exact hb ⟨this.2, this.1⟩

theorem below_drewN {B : Nat} {a w : World} (h : Below B a w) (n : Nat) : Below B a (w.drewN n) := ⟨h.os, h.tape, h.output, h.size, h.block⟩
theorem lastS {A B : Prop} (h : A ∧ B) : B := h.2

set_option maxHeartbeats 1600000 in
theorem keysAfter_walk (k : Option Addr) (lk ck : Nat) (zk : List Int) (t : Option Addr) (lt ct : Nat) (zt : List Int) (o : Option Addr) (lo co : Nat) (zo : List Int) (w : World)
    (HK : Hid (IsB w k lk zk ∧ (∀ x, lk ≠ 0 → k = some x → x.block < w.heap.size) ∧ (k = none → lk = 0 ∧ ck = 0) ∧ lk ≤ 140737488351232 ∧ lk ≤ ck))
    (HT : Hid (IsB w t lt zt ∧ (∀ x, lt ≠ 0 → t = some x → x.block < w.heap.size) ∧ (t = none → lt = 0 ∧ ct = 0) ∧ lt ≤ 140737488351232))
    (HO : Hid (IsB w o lo zo ∧ (∀ x, lo ≠ 0 → o = some x → x.block < w.heap.size) ∧ (o = none → lo = 0 ∧ co = 0) ∧ lo ≤ co)) :
    Calls Try.prog 6 #[.slice k lk ck, .slice t lt ct, .slice o lo co] w fun e w' => e = .returned (.bool true) ∧ Below w.heap.size w w' := by
  go_enter Try.func6, Try.ntmps6
  go_wp2_with fail
  refine (kawake_any _).mono ?_
  rintro e w1 ⟨rfl, hb1⟩
  have HB1 := Lib.hid hb1
  clear hb1
  go_wp2_with fail
  refine (after_any k lk ck zk _ (HK.out.1.below HB1.out HK.out.2.1) (fun x hx hy => Nat.lt_of_lt_of_le (HK.out.2.1 x hx hy) HB1.out.size) HK.out.2.2.2.2 HK.out.2.2.2.1).mono ?_
  rintro e w2 ⟨v2, rfl, hown2, hb2⟩
  have hranA := after_range zk HK.out.1.mem
  obtain ⟨aa, La, ca, rfl, hLa, iA, lA, nA, cA, _⟩ := own_any hown2 hranA
  have HB2 := Lib.hid (bt HB1.out hb2)
  have HIA := Lib.hid (show ∀ W, Below w2.heap.size w2 W → (convert 24 9 (.slice aa La ca)).run Try.prog W = .ok (.string (strOfNums (afterF zk))) W from fun W hW => str_any (iA.below hW lA) nA)
  have HIK := Lib.hid (show ∀ W, Below w2.heap.size w2 W → (convert 24 9 (.slice k lk ck)).run Try.prog W = .ok (.string (strOfNums zk)) W from fun W hW => str_any (HK.out.1.below (bt HB2.out hW) HK.out.2.1) HK.out.2.2.1)
  have HIT := Lib.hid (show ∀ W, Below w2.heap.size w2 W → (convert 24 9 (.slice t lt ct)).run Try.prog W = .ok (.string (strOfNums zt)) W from fun W hW => str_any (HT.out.1.below (bt HB2.out hW) HT.out.2.1) HT.out.2.2.1)
  have HIO := Lib.hid (show ∀ W, Below w2.heap.size w2 W → (convert 24 9 (.slice o lo co)).run Try.prog W = .ok (.string (strOfNums zo)) W from fun W hW => str_any (HO.out.1.below (bt HB2.out hW) HO.out.2.1) HO.out.2.2.1)
  have HLA := Lib.hid hLa
  clear hown2 hb2 iA lA nA cA hLa
  go_upto_region 4 with (fail)
  go_cut [18] (fun b wx => b = .bool false ∧ Below w2.heap.size w2 wx)
  case first =>
    have e2 := HIA.out _ (Below.refl _ w2).drew
    have B2 : Below w2.heap.size w2 w2.drew := (Below.refl _ w2).drew
    refine wp_region_noPanic ?_
    go_region_held (fun w' => (convert 24 9 (.slice aa La ca)).run Try.prog w' = .ok (.string (strOfNums (afterF zk))) w' ∧ Below w2.heap.size w2 w')
      (first | exact ⟨e2, B2⟩ | exact ⟨by assumption, by assumption⟩)
      (first
        | (go_at_call 17; refine (rafter_any k lk ck zk _ (HK.out.1.below (bt HB2.out (lastS (by assumption))) HK.out.2.1) (fun x hx hy => Nat.lt_of_lt_of_le (HK.out.2.1 x hx hy) (bt HB2.out (lastS (by assumption))).size) HK.out.2.2.1 HK.out.2.2.2.1).mono ?_; rintro e w8 ⟨v8, rfl, hown8, hb8⟩; obtain ⟨a8, L8, c8, rfl, hL8, i8, l8, n8, cc8, _⟩ := own_any hown8 hranA; have hs8 := str_any i8 n8; have B8 := bt (lastS (by assumption)) hb8; have e8 := HIA.out w8 B8; clear hown8 hb8 hL8 i8 l8 n8 cc8))
    all_goals refine NoPanic.normal ?_
    all_goals (go_wp2_with fail; go_meet)
    all_goals exact ⟨by simp, by assumption⟩
  case rest =>
    obtain ⟨rfl, hbc⟩ := hcut
    have HBC := Lib.hid hbc
    clear hbc
    have hranA' := Lib.hid hranA
    clear hranA
    have hmA := HLA.out
    by_cases h0 : La = 0
    · subst h0
      go_wp2
      go_ret
      exact ⟨rfl, bt HB2.out HBC.out⟩
    have e0 : ((La : Int) == 0) = false := by rw [beq_eq_false_iff_ne]; omega
    have hne : afterF zk ≠ [] := fun h => h0 (by rw [HLA.out, h]; rfl)
    obtain ⟨g1, g2⟩ := after_above zk zt hne
    have HBT := Lib.hid (after_between zk zo hne HO.out.1.mem)
    have hkt : ∀ z ∈ zk ++ zt, 0 ≤ z ∧ z ≤ 255 := fun z hz => by
      rcases List.mem_append.1 hz with h | h
      · exact HK.out.1.mem z h
      · exact HT.out.1.mem z h
    have hA1 : Op.bytesLess (strOfNums (afterF zk)).toList (strOfNums zk ++ strOfNums zt).toList = false := by
      rw [← strOfNums_append, less_str _ _ hranA'.out hkt]; exact g1
    have hA2 : ((strOfNums (afterF zk)).toList == (strOfNums zk ++ strOfNums zt).toList) = false := by
      rw [← strOfNums_append, eq_str _ _ hranA'.out hkt]; exact decide_eq_false g2
    have hO1 : Op.bytesLess (strOfNums zo).toList (strOfNums zk).toList = lessI zo zk := less_str _ _ HO.out.1.mem HK.out.1.mem
    have hO2 : Op.bytesLess (strOfNums zo).toList (strOfNums (afterF zk)).toList = lessI zo (afterF zk) := less_str _ _ HO.out.1.mem hranA'.out
    have hsz : (strOfNums zk).size + (strOfNums zt).size ≤ 9223372036854775807 := by
      rw [numBytes_size, numBytes_size, HK.out.1.1, HT.out.1.1]; have := HK.out.2.2.2.1; have := HT.out.2.2.2; omega
    clear g1 g2 hkt hne hmA
    go_upto_region 8 with (fail)
    go_cut [8] (fun b wx => b = .bool (decide (lk ≤ lo ∧ zo.take lk = zk)) ∧ Below w2.heap.size w2 wx)
    case first =>
      by_cases hge : lk ≤ lo
      · have hge' : (lk : Int) ≤ (lo : Int) := by omega
        have hlc := HO.out.2.2.2
        have hs1 : ∀ W, (Instr.slice 24 (.slice o lo co) none (some (.int .i64 (lk : Int))) none).run Try.prog W = .ok (.slice o lk co) W := fun W => slice_h _ lo co lk (by omega) .i64 W
        have hI1 := isB_take (k := lk) (HO.out.1.below (bt HB2.out HBC.out) HO.out.2.1) hge
        have c1 : ∀ n, (convert 24 9 (.slice o lk co)).run Try.prog (wc.drewN n) = .ok (.string (strOfNums (zo.take lk))) (wc.drewN n) := fun n => str_any (isB_take (k := lk) (HO.out.1.below (bt HB2.out (below_drewN HBC.out n)) HO.out.2.1) hge) (fun h => by have := HO.out.2.2.1 h; omega)
        have c2 := fun n => HIK.out (wc.drewN n) (below_drewN HBC.out n)
        obtain ⟨q, hQ'⟩ : ∃ q, q = decide (lk ≤ lo ∧ zo.take lk = zk) := ⟨_, rfl⟩
        have hQ := Lib.hid hQ'.symm
        have hq : ((strOfNums (zo.take lk)).toList == (strOfNums zk).toList) = q := by
          rw [eq_str _ _ hI1.mem HK.out.1.mem, hQ']
          simp [hge]
        clear hQ'
        clear hA1 hA2 hO1 hO2 hI1 hge hlc
        go_quiet (fail)
        go_wp2_with fail
        go_meet
        exact ⟨by rw [hQ.out], below_drewN HBC.out _⟩
      · have hge' : (lo : Int) < (lk : Int) := by omega
        have hge2 : decide ((lk : Int) ≤ (lo : Int)) = false := by simp; omega
        have hge3 : decide (lk ≤ lo) = false := by simp; omega
        clear hA1 hA2 hO1 hO2
        go_quiet (fail)
        go_wp2_with fail
        go_meet
        exact ⟨by simp [hge], below_drewN HBC.out _⟩
    case rest =>
      obtain ⟨rfl, hbd⟩ := hcut
      have d1 := HIA.out _ hbd
      have d2 := HIK.out _ hbd
      have d3 := HIT.out _ hbd
      have d4 := HIO.out _ hbd
      have HBD := Lib.hid (bt HB2.out hbd)
      have hq2 : decide (lk ≤ lo ∧ zo.take lk = zk) = false → lessI zo zk = false → lessI zo (afterF zk) = false := fun h h2 => HBT.out (by rw [HK.out.1.1, HO.out.1.1]; exact of_decide_eq_false h) h2
      have HQ := Lib.hid hq2
      clear hbd hq2
      generalize decide (lk ≤ lo ∧ zo.take lk = zk) = q at HQ ⊢
      generalize strOfNums (afterF zk) = SA at *
      generalize strOfNums zk = SK at *
      generalize strOfNums zt = ST at *
      generalize strOfNums zo = SO at *
      cases q with
      | true =>
        clear hO1 hO2
        go_wp2
        go_ret
        exact ⟨rfl, HBD.out⟩
      | false =>
        cases hl : lessI zo zk with
        | true =>
          rw [hl] at hO1
          clear hO2 hl
          go_wp2
          go_ret
          exact ⟨rfl, HBD.out⟩
        | false =>
          rw [HQ.out rfl hl] at hO2
          rw [hl] at hO1
          clear hl
          go_wp2
          go_ret
          exact ⟨rfl, HBD.out⟩
end Go.Proofs.Ythgpdnbmilcgcab
