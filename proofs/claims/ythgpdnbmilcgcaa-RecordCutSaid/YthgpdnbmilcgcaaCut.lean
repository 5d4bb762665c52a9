/- RecordCut: the law's walk. -/
import Derived.Test.YthgpdnbmilcgcaaOnce
namespace Go.Proofs.Ythgpdnbmilcgcaa
open Go.RowKit
set_option linter.unusedVariables false

theorem takeR_encR (vs : List Val) (hl : vs.length ≤ 1000000) (more : List Int) : (takeR (encR vs ++ more)).1 ≤ 1000000 := by
  unfold encR
  rw [List.append_assoc, enc_take _ (by omega) (by omega)]
  show (vs.length : Int) ≤ 1000000
  omega

set_option maxHeartbeats 1600000 in
theorem recordCut_walk (a : Option Addr) (len cap : Nat) (vs : List Val) (at_ : Int) (a0 : 0 ≤ at_) (a1 : at_ ≤ 18446744073709551615) (d : Option Addr) (ld cd : Nat) (zd : List Int) (w : World) (hv : IsV w a len vs)
    (hr : ∀ v ∈ vs, -9223372036854775808 ≤ v.2.1 ∧ v.2.1 ≤ 9223372036854775807)
    (HD : Hid (IsB w d ld zd ∧ (∀ x, ld ≠ 0 → d = some x → x.block < w.heap.size) ∧ (d = none → ld = 0 ∧ cd = 0) ∧ ld ≤ 140737488351232)) :
    Calls Try.prog 8 #[.slice a len cap, .int .u64 at_, .slice d ld cd] w fun e w' => e = .returned (.bool true) ∧ Below w.heap.size w w' := by
  have HV := Lib.hid hv
  have hm := hv.2.1
  have hl := hv.1
  clear hv
  by_cases hbig : 1000 < len
  · have hbig' : (1000 : Int) < (len : Int) := by omega
    clear hl hbig
    go_enter Try.func8, Try.ntmps8
    go_wp2_with fail
    refine (rawake_any _).mono ?_
    rintro e w1 ⟨rfl, hb1⟩
    have HB1 := Lib.hid hb1
    clear hb1
    go_wp2_with fail
    refine (rawake_any _).mono ?_
    rintro e w2 ⟨rfl, hb2⟩
    have HB2 := Lib.hid (bt HB1.out hb2)
    clear hb2
    go_wp2
    go_ret
    exact ⟨rfl, HB2.out⟩
  have hbig' : (len : Int) ≤ 1000 := by omega
  by_cases hf : allF vs = true
  · have HOK := Lib.hid (okV_all hf hr)
    have HVL := Lib.hid (show vs.length ≤ 1000000 by omega)
    clear hl hr hf
    go_enter Try.func8, Try.ntmps8
    go_wp2_with fail
    refine (rawake_any _).mono ?_
    rintro e w1 ⟨rfl, hb1⟩
    have HB1 := Lib.hid hb1
    clear hb1
    go_wp2_with fail
    refine (encode_good a len cap vs _ (HV.out.below HB1.out) HOK.out (by omega)).mono ?_
    rintro e w2 (⟨_, rfl, hb2⟩ | ⟨hle, v, rfl, hown, hb2⟩)
    · have HB2 := Lib.hid (bt HB1.out hb2)
      clear hb2
      go_wp2
      go_ret
      exact ⟨rfl, HB2.out⟩
    · have hpos := encR_pos vs
      obtain ⟨g, c1, rfl⟩ := own_addr hown (by omega)
      have HB2 := Lib.hid (bt HB1.out hb2)
      have HCut := Lib.hid (decR_cut vs HOK.out (by omega))
      have HMore := Lib.hid (decR_more vs HOK.out HVL.out)
      have HAll := Lib.hid (decR_enc vs HOK.out HVL.out)
      have HTk := Lib.hid (takeR_encR vs HVL.out)
      have hran := encR_range vs
      generalize encR vs = zs at hle hpos hown hran HCut HMore HAll HTk ⊢
      generalize hn : zs.length = n at hle hpos hown HCut ⊢
      have HN := Lib.hid hn
      have HO := Lib.hid hown
      have HRan := Lib.hid hran
      clear hown hb2 hran hn
      have hnu : IntKind.u64.wrap (n : Int) = (n : Int) := by rw [IntKind.wrap_u64]; omega
      have hn0 : (0 : Int) < (n : Int) := by omega
      have e0 : ((n : Int) == 0) = false := by rw [beq_eq_false_iff_ne]; omega
      obtain ⟨p, hp⟩ : ∃ p : Nat, at_ % (n : Int) = (p : Int) := by
        have h := Int.emod_nonneg at_ (show (n : Int) ≠ 0 by omega)
        obtain ⟨p, hp⟩ := Int.eq_ofNat_of_zero_le h
        exact ⟨p, hp⟩
      have hpn : p < n := by have := Int.emod_lt_of_pos at_ hn0; omega
      have hp1 : (p : Int) < (n : Int) := by omega
      have hp0 : (0 : Int) ≤ (p : Int) := by omega
      have hpt : at_.tmod (n : Int) = (p : Int) := by rw [Int.tmod_eq_emod_of_nonneg a0, hp]
      have hcap := (cap_le HO.out).1
      have hs1 : ∀ W, (Instr.slice 22 (.slice (some ⟨g, 0, none⟩) n c1) none (some (.int .u64 (p : Int))) none).run Try.prog W = .ok (.slice (some ⟨g, 0, none⟩) p c1) W := fun W => slice_h _ n c1 p (by omega) .u64 W
      have HP := Lib.hid (HCut.out p hpn)
      have HI := Lib.hid (own_isB HO.out HN.out HRan.out)
      go_wp2_with fail
      refine (decode_any (some ⟨g, 0, none⟩) p c1 (zs.take p) w2 (isB_take HI.out (by omega)) (fun x _ hx => by cases hx; exact own_low HO.out) (fun h => by cases h) (by omega) (.inr (by omega))).mono ?_
      rintro e w4 ⟨hb4, hh⟩
      rw [HP.out] at hh
      rcases hh with ⟨_, _, _, hh, _⟩ | ⟨_, rfl⟩
      · cases hh
      have HB4 := Lib.hid (bt HB2.out hb4)
      have HI4 := Lib.hid (HI.out.below hb4 (fun x _ hx => by cases hx; exact own_low HO.out))
      have hg4 : g < w4.heap.size := Nat.lt_of_lt_of_le (own_low HO.out) hb4.size
      have HG4 := Lib.hid hg4
      clear hb4 hs1 hpt hp1 hp0 hp hpn HP hg4
      go_wp2_with (at_builtin; refine wpList_slice rfl (.tmp 47) (.tmp 48) rfl w4.heap.size (.slice (some ⟨w4.heap.size, 0, none⟩) 0 0) [] (some ⟨g, 0, none⟩) n c1 zs rfl rfl ?c1 ?c2 ?c3 ?c4 ?c5 ?_)
      case c1 => exact World.ownsRow_made w4 #[] 0 (Nat.le_refl _) (Nat.zero_le _) rfl
      case c2 => exact HI4.out.below (bel0 _ (Below.refl _ _)) (fun x _ hx => by cases hx; exact HG4.out)
      case c3 => intro h; cases h
      case c4 => simp; omega
      case c5 => simp
      intro v5 w5 hown5 hgrow5
      have HB5 := Lib.hid ((bel0 (.cells #[] 5) HB4.out).grown hgrow5 (by have := HB4.out.size; simp; omega) (fun k hk => by cases hk; exact HB4.out.size))
      have HB4s := Lib.hid (show w4.heap.size ≤ w5.heap.size by have := hgrow5.size; simp at this; omega)
      have HO5 := Lib.hid hown5
      clear hown5 hgrow5
      have HD5 := Lib.hid (HD.out.1.below HB5.out HD.out.2.1)
      go_wp2_with (at_builtin; refine wpList_slice rfl (.tmp 49) (.tmp 50) rfl w4.heap.size v5 zs d ld cd zd rfl rfl ?d1 ?d2 ?d3 ?d4 ?d5 ?_)
      case d1 => exact HO5.out
      case d2 => exact HD5.out
      case d3 => exact HD.out.2.2.1
      case d4 => have := HD.out.2.2.2; have := HN.out; omega
      case d5 => exact HB4s.out
      intro v6 w6 hown6 hgrow6
      have HB6 := Lib.hid (HB5.out.grown hgrow6 HB5.out.size (fun k hk => Nat.le_trans HB4.out.size (HO5.out.lt k hk).1))
      have hzd : ∀ z ∈ zs ++ zd, 0 ≤ z ∧ z ≤ 255 := fun z hz => by
        rcases List.mem_append.1 hz with h | h
        · exact HRan.out z h
        · exact HD.out.1.mem z h
      have hown6' : w6.ownsRow w4.heap.size 5 1 v6 (zs ++ zd).length ((zs ++ zd).map (Value.int .u8)) := by rw [List.length_append, List.map_append]; exact hown6
      obtain ⟨a6, L6, c6, rfl, hL6, i6, l6, n6, lc6, _⟩ := own_any hown6' hzd
      have HI6 := Lib.hid i6
      have HL6 := Lib.hid l6
      have HN6 := Lib.hid n6
      have HC6 := Lib.hid lc6
      clear hL6 hown6 hown6' hgrow6 hzd i6 l6 n6 lc6
      by_cases h0 : ld = 0
      · have hz : zd = [] := List.eq_nil_of_length_eq_zero (by rw [HD.out.1.1]; exact h0)
        subst h0 hz
        go_wp2_with fail
        refine (decode_any a6 L6 c6 (zs ++ []) w6 HI6.out HL6.out HN6.out HC6.out (.inl (HTk.out []))).mono ?_
        rintro e w7 ⟨hb7, hh⟩
        rw [List.append_nil, HAll.out] at hh
        rcases hh with ⟨vs7, g7, n7, _, rfl, _⟩ | ⟨h7, _⟩
        · have HB7 := Lib.hid (bt HB6.out hb7)
          clear hb7
          go_wp2
          go_ret
          exact ⟨rfl, HB7.out⟩
        · cases h7
      · have hz : zd ≠ [] := fun h => h0 (by rw [← HD.out.1.1, h]; rfl)
        have HM := Lib.hid (HMore.out zd hz)
        have hl0 : (0 : Int) < (ld : Int) := by omega
        have hl0n : 0 < ld := by omega
        clear hz h0
        go_wp2_with fail
        refine (decode_any a6 L6 c6 (zs ++ zd) w6 HI6.out HL6.out HN6.out HC6.out (.inl (HTk.out zd))).mono ?_
        rintro e w7 ⟨hb7, hh⟩
        rw [HM.out] at hh
        rcases hh with ⟨_, _, _, h7, _⟩ | ⟨_, rfl⟩
        · cases h7
        · have HB7 := Lib.hid (bt HB6.out hb7)
          clear hb7
          go_wp2
          go_ret
          exact ⟨rfl, HB7.out⟩
  · have HF := Lib.hid (show allF vs = false by simpa using hf)
    clear hl hf hr
    go_enter Try.func8, Try.ntmps8
    go_wp2_with fail
    refine (rawake_any _).mono ?_
    rintro e w1 ⟨rfl, hb1⟩
    have HB1 := Lib.hid hb1
    clear hb1
    go_wp2_with fail
    refine (encode_bad a len cap vs _ (HV.out.below HB1.out) HF.out).mono ?_
    rintro e w2 ⟨rfl, hb2⟩
    have HB2 := Lib.hid (bt HB1.out hb2)
    clear hb2
    go_wp2
    go_ret
    exact ⟨rfl, HB2.out⟩
end Go.Proofs.Ythgpdnbmilcgcaa
