/- BagJoins: the law's walk. -/
import Derived.Test.YtplgkblahmndoaaBsSame
namespace Go.Proofs.Ytplgkblahmndoaa
open Go.RowKit Go.WideMaps Go.Maps Go.Sort
set_option linter.unusedVariables false
set_option maxRecDepth 100000

theorem mkL_len (f : Nat → EntD) : ∀ k, (mkL f k).length ≤ k
  | 0 => Nat.le_refl _
  | k + 1 => by
    have ih := mkL_len f k
    show (addB (mkL f k) (f k).rv (f k).n).1.length ≤ _
    unfold addB
    split
    · split
      · simp only
        unfold putB
        simp only [List.length_append, List.length_take, List.length_drop]
        have := posB_le (mkL f k) (keyVs (f k).rv)
        split <;> simp <;> omega
      · simp only; omega
    · simp only; omega
/-- two bags, and the document's, that share nothing -/
structure Far2 (w : World) (D E B D' E' B' n m : Nat) (mo me : Option Nat) (Dm De : DataW Unit) (t t2 : Lit → Option SlN) (S T : List EntD) (L M : List Ent) : Prop where
  b1 : BagR w D B n mo Dm t L
  b2 : BagR w D' B' m me De t2 M
  d1 : DocB w E S
  d2 : DocB w E' T
  e1 : S.map entOf = L
  e2 : T.map entOf = M
  nD : D ≠ D'
  nE : E ≠ E'
  ap : ∀ K, mo = some K → me ≠ some K
theorem Far2.o1 {w : World} {D E B D' E' B' n m : Nat} {mo me : Option Nat} {Dm De : DataW Unit} {t t2 : Lit → Option SlN} {S T : List EntD} {L M : List Ent} (h : Far2 w D E B D' E' B' n m mo me Dm De t t2 S T L M) : OkL L := by rw [← h.e1]; exact h.d1.ok
theorem Far2.o2 {w : World} {D E B D' E' B' n m : Nat} {mo me : Option Nat} {Dm De : DataW Unit} {t t2 : Lit → Option SlN} {S T : List EntD} {L M : List Ent} (h : Far2 w D E B D' E' B' n m mo me Dm De t t2 S T L M) : OkL M := by rw [← h.e2]; exact h.d2.ok
theorem Far2.below {w w' : World} {D E B D' E' B' n m : Nat} {mo me : Option Nat} {Dm De : DataW Unit} {t t2 : Lit → Option SlN} {S T : List EntD} {L M : List Ent} (h : Far2 w D E B D' E' B' n m mo me Dm De t t2 S T L M) (hb : Below w.heap.size w w') : Far2 w' D E B D' E' B' n m mo me Dm De t t2 S T L M :=
  ⟨h.b1.below hb, h.b2.below hb, h.d1.below hb, h.d2.below hb, h.e1, h.e2, h.nD, h.nE, h.ap⟩
theorem far2_of {W0 wp wq : World} {D E B D' E' B' n m : Nat} {L M : List Ent} (h : Pair W0 wp D E B n L) (k : Pair wp wq D' E' B' m M) (hb : Below wp.heap.size wp wq) : ∃ mo Dm t S me De t2 T, Far2 wq D E B D' E' B' n m mo me Dm De t t2 S T L M := by
  obtain ⟨mo, Dm, t, S, h1, h2, h3, h4, h5, h6, h7⟩ := h
  obtain ⟨me, De, t2, T, k1, k2, k3, k4, k5, k6, k7⟩ := k
  have hDl := (Array.getElem?_eq_some_iff.1 h1.box).1
  refine ⟨mo, Dm, t, S, me, De, t2, T, h1.below hb, k1, h2.below hb, k2, h3, k3, by omega, by have := h2.lt; omega, fun K hK hK2 => ?_⟩
  rcases h1.mp with ⟨e0, _⟩ | ⟨K', e0, _, ho⟩
  · rw [hK] at e0; cases e0
  · rw [hK] at e0; cases e0
    rcases k1.mp with ⟨e1, _⟩ | ⟨K2, e1, hB, _⟩
    · rw [hK2] at e1; cases e1
    · rw [hK2] at e1; cases e1
      have := ho.lt
      have := k1.lt
      omega
theorem Far2.joined {w w' w2 : World} {D E B D' E' B' n m : Nat} {mo me : Option Nat} {Dm De : DataW Unit} {t t2 : Lit → Option SlN} {S T S' : List EntD} {L M : List Ent} {s : Int} (h : Far2 w D E B D' E' B' n m mo me Dm De t t2 S T L M)
    {mo' : Option Nat} {Dm' : DataW Unit} {t' : Lit → Option SlN} {n' : Nat} (k1 : BagR w' D B n' mo' Dm' t' (joinC L M s).1) (k2 : Only (bagS D mo) w w') (k3 : mo' = mo ∨ ∃ K, mo' = some K ∧ w.heap.size ≤ K)
    (j1 : S'.map entOf = (joinC L M s).1) (j2 : DocB w2 E S') (j3 : Only (fun i => i = E) w' w2) : Far2 w2 D E B D' E' B' n' m mo' me Dm' De t' t2 S' T (joinC L M s).1 M := by
  have hfr := join_far h.b1 h.b2 h.nD h.ap
  have b2' := h.b2.other k2 h.b1.soles hfr.1 hfr.2
  have d1' := h.d1.other k2 h.b1.soles (h.d1.not_bag h.b1).1
  have d2' := h.d2.other k2 h.b1.soles (h.d2.not_bag h.b1).1
  have nb1 := d1'.not_bag k1
  have nb2 := d1'.not_bag b2'
  refine ⟨k1.other j3 d1'.sole (fun e => nb1.2.1 e.symm) nb1.2.2, b2'.other j3 d1'.sole (fun e => nb2.2.1 e.symm) nb2.2.2, j2, d2'.other j3 d1'.sole (fun e => h.nE e.symm), j1, h.e2, h.nD, h.nE, fun K hK hK2 => ?_⟩
  rcases k3 with rfl | ⟨K', rfl, hle⟩
  · exact h.ap K hK hK2
  · have := Option.some.inj hK
    rcases h.b2.mp with ⟨e1, _⟩ | ⟨K2, e1, hB, ho⟩
    · rw [hK2] at e1; cases e1
    · rw [hK2] at e1; cases e1
      have := ho.lt
      omega
theorem joinC_ok {L M : List Ent} {s : Int} (h : (joinC L M s).2 = 0) : (s = 1 ∨ s = -1) ∧ FitL L M s ∧ (joinC L M s).1 = joinT L M s M.length := by
  unfold joinC at h ⊢
  split at h
  · rename_i hs
    rw [if_pos hs]
    split at h
    · rename_i hf
      rw [if_pos hf]
      exact ⟨hs, hf, rfl⟩
    · cases h
  · cases h
set_option maxHeartbeats 6400000 in
theorem bagJoins_walk (la : Option Addr) (ln lc : Nat) (f : Nat → EntD) (ma : Option Addr) (mn mc : Nat) (g : Nat → EntD) (s : Int) (w : World) (hL : IsEs w la ln f) (hM : IsEs w ma mn g) (hs : in64 s) :
    Calls Try.prog 4 #[.slice la ln lc, .slice ma mn mc, .int .i64 s] w fun e w' => e = .returned (.bool true) ∧ Below w.heap.size w w' := by
  have hm := hL.1
  have hm2 := hM.1
  have HL := Lib.hid hL
  have HM := Lib.hid hM
  have HS := Lib.hid hs
  clear hL hM hs
  go_enter Try.func4, Try.ntmps4
  go_wp2_with fail
  refine (bawake_any _).mono ?_
  rintro e w1 ⟨rfl, hb1⟩
  have HB1 := Lib.hid hb1
  clear hb1
  go_wp2_with fail
  refine (bfew_any la ln lc f _ (HL.out.below HB1.out)).mono ?_
  rintro e w2 ⟨rfl, hw⟩
  subst hw
  have HAwk := Lib.hid (fun (W : World) => bawake_any W)
  cases hfew : fewE f ln with
  | false =>
    clear hfew
    go_wp2_with fail
    refine (HAwk.out _).mono ?_
    rintro e w3 ⟨rfl, hb2⟩
    have HB2 := Lib.hid (bt HB1.out hb2)
    clear hb2
    go_wp2
    go_ret
    exact ⟨rfl, HB2.out⟩
  | true =>
    have HFw := Lib.hid (fewE_iff.1 hfew)
    clear hfew
    go_wp2_with fail
    refine (bfew_any ma mn mc g _ (HM.out.below HB1.out)).mono ?_
    rintro e w3 ⟨rfl, hw⟩
    subst hw
    cases hfew : fewE g mn with
    | false =>
      clear hfew
      go_wp2_with fail
      refine (HAwk.out _).mono ?_
      rintro e w3 ⟨rfl, hb2⟩
      have HB2 := Lib.hid (bt HB1.out hb2)
      clear hb2
      go_wp2
      go_ret
      exact ⟨rfl, HB2.out⟩
    | true =>
      have HFw2 := Lib.hid (fewE_iff.1 hfew)
      clear hfew
      go_wp2_with fail
      refine (made_any la ln lc f false _ (HL.out.below HB1.out) HFw.out).mono ?_
      rintro e wp ⟨D, E, B, rfl, hp⟩
      have HP := Lib.hid hp
      have HBp := Lib.hid (show Below w.heap.size w wp from bt HB1.out (by obtain ⟨_, _, _, _, _, _, _, _, _, _, h7⟩ := hp; exact h7))
      clear hp
      go_wp2_with fail
      refine (made_any ma mn mc g true _ (HM.out.below HBp.out) HFw2.out).mono ?_
      rintro e wq ⟨D', E', B', rfl, hp⟩
      have HQ := Lib.hid hp
      have hbq : Below wp.heap.size wp wq := by obtain ⟨_, _, _, _, _, _, _, _, _, _, h7⟩ := hp; exact h7
      have HBq := Lib.hid (show Below w.heap.size w wq from bt HBp.out hbq)
      have HDE := Lib.hid (show w.heap.size ≤ D ∧ w.heap.size ≤ E from by
        obtain ⟨_, _, _, _, _, _, _, _, h5, h6, _⟩ := HP.out
        have := HB1.out.size
        omega)
      have hfar : ∃ mo Dm t S me De t2 T, Far2 wq D E B D' E' B' ln mn mo me Dm De t t2 S T (mkL f ln) (mkL g mn) := far2_of HP.out hp hbq
      obtain ⟨mo, Dm, t, S, me, De, t2, T, hF⟩ := hfar
      have HF := Lib.hid hF
      have hln : ln ≤ 200 := by
        by_cases h0 : ln = 0
        · omega
        · have := (HFw.out (ln - 1) (by omega)).1; omega
      have hmn : mn ≤ 200 := by
        by_cases h0 : mn = 0
        · omega
        · have := (HFw2.out (mn - 1) (by omega)).1; omega
      have HLl := Lib.hid (show (mkL f ln).length ≤ 200 from Nat.le_trans (mkL_len f ln) hln)
      have HMl := Lib.hid (show (mkL g mn).length ≤ 200 from Nat.le_trans (mkL_len g mn) hmn)
      generalize mkL f ln = L at *
      generalize mkL g mn = M at *
      clear hp hbq hF HFw HFw2 HL HM HP HQ
      go_wp2_with fail
      refine (bsame_full wq D D' B B' ln mn mo me Dm De t t2 L M HF.out.b1 HF.out.b2 HF.out.o1 HF.out.o2).mono ?_
      rintro e w4 ⟨rfl, hb4⟩
      have HF4 := Lib.hid (HF.out.below hb4)
      have HB4 := Lib.hid (bt HBq.out hb4)
      obtain ⟨bb, hbb⟩ : ∃ bb, bb = decide (L = M) := ⟨_, rfl⟩
      have HBb := Lib.hid hbb
      rw [← hbb]
      clear hb4 hbb HF
      go_wp2_with fail
      refine (dsame_any w4 E E' S T HF4.out.d1 HF4.out.d2).mono ?_
      rintro e w5 ⟨rfl, hb5⟩
      have HF5 := Lib.hid (HF4.out.below hb5)
      have HB5 := Lib.hid (bt HB4.out hb5)
      rw [show decide (S.map entOf = T.map entOf) = bb by rw [HBb.out, HF5.out.e1, HF5.out.e2]]
      have hbn : (bb != bb) = false := by simp
      clear hb5 HF4
      go_wp2_with fail
      refine (dcopy_any w5 E S HF5.out.d1 (by have := HF5.out.e1; have := congrArg List.length this; rw [List.length_map] at this; have := HLl.out; omega)).mono ?_
      rintro e w6 ⟨F, rfl, hF, hdF, hb6⟩
      have HF6 := Lib.hid (HF5.out.below hb6)
      have HB6 := Lib.hid (bt HB5.out hb6)
      have HDF := Lib.hid hdF
      have HOk := Lib.hid HF5.out.o1
      have HSL := Lib.hid HF5.out.e1
      have HFE := Lib.hid (show F ≠ E ∧ F ≠ E' by have := HF5.out.d1.lt; have := HF5.out.d2.lt; omega)
      clear hF hdF hb6 HF5 hbn
      go_wp2_with fail
      refine (bjoin_any w6 D D' B B' ln mn mo me Dm De t t2 L M s HF6.out.b1 HF6.out.b2 HF6.out.o1 HF6.out.o2 HF6.out.nD HF6.out.ap (by have := HLl.out; omega) (by have := HMl.out; omega) (by omega)).mono ?_
      rintro e w7 ⟨rfl, mo', Dm', t', n', hn', k1, k2, k3⟩
      have HK1 := Lib.hid k1
      have HK2 := Lib.hid k2
      have HK3 := Lib.hid k3
      have d1' := HF6.out.d1.other k2 HF6.out.b1.soles (HF6.out.d1.not_bag HF6.out.b1).1
      have d2' := HF6.out.d2.other k2 HF6.out.b1.soles (HF6.out.d2.not_bag HF6.out.b1).1
      have dF' := HDF.out.other k2 HF6.out.b1.soles (HDF.out.not_bag HF6.out.b1).1
      have HD1 := Lib.hid d1'
      have HD2 := Lib.hid d2'
      have HDF7 := Lib.hid dF'
      have HSl := Lib.hid (show S.length ≤ 200 by have := congrArg List.length HF6.out.e1; rw [List.length_map] at this; have := HLl.out; omega)
      have HTl := Lib.hid (show T.length ≤ 200 by have := congrArg List.length HF6.out.e2; rw [List.length_map] at this; have := HMl.out; omega)
      have HN := Lib.hid (show n' ≤ 400 by have := HMl.out; omega)
      have HB7 := Lib.hid (show Below w.heap.size w w7 from HB6.out.trans (HF6.out.b1.lift k2 HDE.out.1 (Nat.le_trans HDE.out.1 (Nat.le_of_lt HF6.out.b1.lt)) HB6.out.size))
      clear k1 k2 k3 d1' d2' dF' hn' HB6
      obtain ⟨c, hc⟩ : ∃ c, c = (joinC L M s).2 := ⟨_, rfl⟩
      have HC := Lib.hid hc
      rw [← hc]
      clear hc
      go_wp2_with fail
      refine (djoin_any w7 E E' S T s HD1.out HD2.out HF6.out.nE (by have := HSl.out; omega) (by have := HTl.out; omega)).mono ?_
      rintro e w8 ⟨rfl, S', j1, jl, j2, j3⟩
      rw [HF6.out.e1, HF6.out.e2] at j1 ⊢
      have HF8 := Lib.hid (HF6.out.joined HK1.out HK2.out HK3.out j1 j2 j3)
      have HDF8 := Lib.hid (HDF7.out.other j3 HD1.out.sole HFE.out.1)
      have HB8 := Lib.hid (show Below w.heap.size w w8 from HB7.out.trans ⟨j3.os, j3.tape, j3.output, j3.size, fun i hi => j3.block i (Nat.lt_of_lt_of_le hi HB7.out.size) (fun e => by have := HDE.out.2; omega)⟩)
      have HS' := Lib.hid (show S'.length ≤ 600 by have := HSl.out; have := HTl.out; omega)
      rw [← HC.out]
      have hcn : (c != c) = false := by simp
      clear j1 j2 j3 jl HF6 HK1 HK2 HK3 HD1 HD2 HDF7 HB7 HDF
      obtain ⟨L8, hL8⟩ : ∃ L8, L8 = (joinC L M s).1 := ⟨_, rfl⟩
      have HL8 := Lib.hid hL8
      rw [← hL8] at HF8
      have HL8l := Lib.hid (show L8.length ≤ 600 by have := congrArg List.length HF8.out.e1; rw [List.length_map] at this; have := HS'.out; omega)
      clear hL8
      go_wp2_with fail
      refine (lsame_yes w8 D E B n' mo' Dm' t' L8 S' HF8.out.b1 HF8.out.d1 HF8.out.e1 (by have := HL8l.out; omega)).mono ?_
      rintro e w9 ⟨rfl, hb9⟩
      have HF9 := Lib.hid (HF8.out.below hb9)
      have HDF9 := Lib.hid (HDF8.out.below hb9)
      have HB9 := Lib.hid (bt HB8.out hb9)
      clear hb9 HF8 HDF8 HB8
      go_wp2_with fail
      refine (lsame_yes w9 D' E' B' mn me De t2 M T HF9.out.b2 HF9.out.d2 HF9.out.e2 (by have := HMl.out; omega)).mono ?_
      rintro e wx ⟨rfl, hbx⟩
      have HFx := Lib.hid (HF9.out.below hbx)
      have HDFx := Lib.hid (HDF9.out.below hbx)
      have HBx := Lib.hid (bt HB9.out hbx)
      clear hbx HF9 HDF9 HB9 hcn
      by_cases hc0 : c = 0
      · subst hc0
        have HJ := Lib.hid (joinC_ok HC.out.symm)
        have hneg : IntKind.i64.wrap (-s) = -s := by
          rw [IntKind.wrap_i64]
          rcases HJ.out.1 with h | h <;> (rw [h]; omega)
        go_wp2_with fail
        first
          | refine (bjoin_any wx D D' B B' n' mn mo' me Dm' De t' t2 L8 M (-s) HFx.out.b1 HFx.out.b2 HFx.out.o1 HFx.out.o2 HFx.out.nD HFx.out.ap (by have := HL8l.out; omega) (by have := HMl.out; omega) (by have := HN.out; omega)).mono ?_
          | (rw [hneg]; refine (bjoin_any wx D D' B B' n' mn mo' me Dm' De t' t2 L8 M (-s) HFx.out.b1 HFx.out.b2 HFx.out.o1 HFx.out.o2 HFx.out.nD HFx.out.ap (by have := HL8l.out; omega) (by have := HMl.out; omega) (by have := HN.out; omega)).mono ?_)
        rintro e wy ⟨rfl, my, Dy, ty, ny, hny, k1, k2, k3⟩
        have HKy := Lib.hid k1
        have HDy := Lib.hid (HDFx.out.other k2 HFx.out.b1.soles (HDFx.out.not_bag HFx.out.b1).1)
        have HBy := Lib.hid (show Below w.heap.size w wy from HBx.out.trans (HFx.out.b1.lift k2 HDE.out.1 (Nat.le_trans HDE.out.1 (Nat.le_of_lt HFx.out.b1.lt)) HBx.out.size))
        have HOL := Lib.hid HFx.out.o2
        obtain ⟨c2, hc2⟩ : ∃ c2, c2 = (joinC L8 M (-s)).2 := ⟨_, rfl⟩
        have HC2 := Lib.hid hc2
        rw [← hc2]
        clear k1 k2 k3 hc2 hneg
        by_cases hc20 : c2 = 0
        · subst hc20
          have hJ2 := joinC_ok HC2.out.symm
          have HLe := Lib.hid (show (joinC L8 M (-s)).1 = L by
            have hO1 : OkL L := HOk.out
            have e8 : L8 = joinT L M s M.length := by rw [HL8.out]; exact HJ.out.2.2
            rw [hJ2.2.2, e8]
            have hg := hJ2.2.1
            rw [e8] at hg
            exact join_back hO1 HOL.out HJ.out.2.1 hg)
          rw [HLe.out] at HKy
          clear hJ2
          go_wp2_with fail
          refine (lsame_yes wy D F B ny my Dy ty L S HKy.out HDy.out HSL.out (by have := HLl.out; omega)).mono ?_
          rintro e wz ⟨rfl, hbz⟩
          have HBz := Lib.hid (bt HBy.out hbz)
          clear hbz
          go_wp2
          go_ret
          exact ⟨rfl, HBz.out⟩
        · have hc2n : (c2 != 0) = true := bne_iff_ne.2 hc20
          clear hc20
          go_wp2
          go_ret
          exact ⟨by first | rfl | simp, HBy.out⟩
      · have hcn2 : (c != 0) = true := bne_iff_ne.2 hc0
        clear hc0
        go_wp2
        go_ret
        exact ⟨rfl, HBx.out⟩
end Go.Proofs.Ytplgkblahmndoaa
