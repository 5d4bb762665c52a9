/- NodeOnce: the law's walk. -/
import Derived.Test.YtbcjhngpcodaoaaDoorNdEL
import Derived.Test.YtbcjhngpcodaoaaDoorNdSound
namespace Go.Proofs.YtbcjhngpcodaoaaDoor
open Go.RowKit
set_option linter.unusedVariables false
set_option maxRecDepth 100000

theorem bits_xor_u8_nat (a b : Nat) (ha : a < 256) (hb : b < 256) : bits .xor .u8 (a : Int) (b : Int) = ((a ^^^ b : Nat) : Int) := by
  have hx : a ^^^ b < 2 ^ 8 := Nat.xor_lt_two_pow (by omega) (by omega)
  have h1 : (BitVec.ofInt 8 (a : Int)).toNat = a := by
    rw [BitVec.ofInt_natCast, BitVec.toNat_ofNat]; exact Nat.mod_eq_of_lt (by omega)
  have h2 : (BitVec.ofInt 8 (b : Int)).toNat = b := by
    rw [BitVec.ofInt_natCast, BitVec.toNat_ofNat]; exact Nat.mod_eq_of_lt (by omega)
  show IntKind.u8.wrap ((BitVec.ofInt 8 (a : Int) ^^^ BitVec.ofInt 8 (b : Int)).toNat : Int) = _
  rw [BitVec.toNat_xor, h1, h2, wrap_u8]
  omega
theorem xor_u8_bd (x y : Int) (h0 : 0 ≤ x ∧ x ≤ 255) (h1 : 0 ≤ y ∧ y ≤ 255) : 0 ≤ bits .xor .u8 x y ∧ bits .xor .u8 x y ≤ 255 := by
  obtain ⟨a, rfl⟩ := Int.eq_ofNat_of_zero_le h0.1
  obtain ⟨b, rfl⟩ := Int.eq_ofNat_of_zero_le h1.1
  rw [bits_xor_u8_nat a b (by omega) (by omega)]
  have : a ^^^ b < 2 ^ 8 := Nat.xor_lt_two_pow (by omega) (by omega)
  omega

/-- what was decoded without an error: it is encoded as what was there, noughts aside -/
theorem once_of {ys : List Int} {d : NAns} (hd : d = decA ys) (hb : ∀ z ∈ ys, 0 ≤ z ∧ z ≤ 255) (hl : ys.length ≤ 508) (h : d.er = 0) :
    encA d.lf d.ks d.vs d.is = (nodeB d.lf d.ks d.vs d.is, 0) ∧ (nodeB d.lf d.ks d.vs d.is).length ≤ ys.length ∧ ys.take (nodeB d.lf d.ks d.vs d.is).length = nodeB d.lf d.ks d.vs d.is ∧ (∀ k, (nodeB d.lf d.ks d.vs d.is).length ≤ k → ys.getD k 0 = 0) ∧ FewN d.ks.length d.vs.length d.ks d.vs := by
  subst hd
  obtain ⟨rest, h1, h2, h3⟩ := decA_sound hb h
  obtain ⟨b1, b2⟩ := decA_bd hb
  generalize decA ys = d at *
  have hlen : (nodeB d.lf d.ks d.vs d.is).length ≤ ys.length := by
    have := congrArg List.length h1
    rw [List.length_append] at this
    omega
  have h2k := (nodeB_two d.lf d.ks d.vs d.is).1
  refine ⟨?_, hlen, ?_, fun k hk => ?_, by omega, ?_, fun i hi => ?_, fun i hi => ?_⟩
  · unfold encA
    rw [if_neg (by rw [h3]; decide), if_neg (by omega)]
  · conv => lhs; rw [h1]
    exact List.take_left' rfl
  · rw [h1, List.getD_eq_getElem?_getD, List.getElem?_append_right hk, ← List.getD_eq_getElem?_getD]
    exact zl_get h2 _
  · have : d.vs.length ≤ d.ks.length := by
      cases hlf : d.lf with
      | true => rw [hlf] at h3; have := (formed_cells h3).2; omega
      | false => rw [hlf] at h3; have := (formed_kids h3).2.2.1; omega
    omega
  · have := getD_all (d := []) b1 hi; omega
  · have := getD_all (d := []) b2 hi; omega

set_option maxHeartbeats 6400000 in
theorem nodeOnce_walk (lf : Bool) (ka va ia : Option Addr) (kl kc vl vc il ic : Nat) (ks vs : List (List Int)) (is : List Int) (at_ by_ : Int) (w : World) (hN : Nd w ka kl va vl ia il ks vs is) (a0 : 0 ≤ at_) (a1 : at_ ≤ 18446744073709551615) (hby : 0 ≤ by_ ∧ by_ ≤ 255) :
    Calls Tryd.prog 4 #[.agg #[.bool lf, .slice ka kl kc, .slice va vl vc, .slice ia il ic], .int .u64 at_, .int .u8 by_] w fun e w' => e = .returned (.bool true) ∧ Below w.heap.size w w' := by
  obtain ⟨W0, hW0⟩ : ∃ W0, W0 = w.alloc (.cells #[.bool lf, .slice ka kl kc, .slice va vl vc, .slice ia il ic] 25) := ⟨_, rfl⟩
  have n0 : W0.heap[w.heap.size]? = some (.cells #[.bool lf, .slice ka kl kc, .slice va vl vc, .slice ia il ic] 25 (0, 0)) := by rw [hW0]; exact Go.heap_alloc_new w _
  have hs0 : W0.heap.size = w.heap.size + 1 := by rw [hW0]; simp
  have hb0 : Below w.heap.size w W0 := by rw [hW0]; exact bel0 _ (Below.refl _ _)
  have Q := Lib.hid (show ∀ W, Below W0.heap.size W0 W → W.cell? ⟨w.heap.size, 0, none⟩ = some (.bool lf) ∧ W.cell? ⟨w.heap.size, 1, none⟩ = some (.slice ka kl kc) ∧ W.cell? ⟨w.heap.size, 2, none⟩ = some (.slice va vl vc) ∧ W.cell? ⟨w.heap.size, 3, none⟩ = some (.slice ia il ic) from fun W hW =>
    have h := (hW.block _ (by omega)).trans n0
    ⟨cell_of_row _ _ 0 _ _ _ h, cell_of_row _ _ 1 _ _ _ h, cell_of_row _ _ 2 _ _ _ h, cell_of_row _ _ 3 _ _ _ h⟩)
  have HN := Lib.hid (fun (W : World) (hW : Below W0.heap.size W0 W) => (show Nd W ka kl va vl ia il ks vs is from (hN.below hb0).below hW))
  have HB0 := Lib.hid hb0
  have HW := Lib.hid hW0
  clear n0 hs0 hb0 hW0 hN
  go_enter Tryd.func4, Tryd.ntmps4
  go_wp2_with fail
  rw [← HW.out]
  refine (nawake_any _).mono ?_
  rintro e w1 ⟨rfl, hb1⟩
  obtain ⟨q0, q1, q2, q3⟩ := Q.out w1 hb1
  have HB1 := Lib.hid hb1
  clear hb1
  go_wp2_with fail
  refine (fewn_any lf ka va ia kl kc vl vc il ic ks vs is _ (HN.out w1 HB1.out)).mono ?_
  rintro e w2 ⟨b, rfl, hfew, hb2⟩
  have HB2 := Lib.hid (bt HB1.out hb2)
  clear hb2 q0 q1 q2 q3
  cases b with
  | false =>
    clear hfew
    go_wp2_with fail
    refine (nawake_any _).mono ?_
    rintro e w3 ⟨rfl, hb3⟩
    have HB3' := Lib.hid (bt HB0.out (bt HB2.out hb3))
    clear hb3
    go_wp2
    go_ret
    exact ⟨rfl, HB3'.out⟩
  | true =>
    have HF := Lib.hid (hfew rfl)
    clear hfew
    obtain ⟨q0, q1, q2, q3⟩ := Q.out w2 HB2.out
    go_wp2_with fail
    refine (encode_any lf ka va ia kl kc vl vc il ic ks vs is w2 (HN.out w2 HB2.out) HF.out).mono ?_
    rintro e w3 ⟨v, rfl, ho, hr, hb3⟩
    have HB3 := Lib.hid (bt HB0.out (bt HB2.out hb3))
    clear q0 q1 q2 q3
    rcases encA_three lf ks vs is with ⟨he, hnil⟩ | ⟨_, heq, hl8⟩
    · obtain ⟨a, L, cap, rfl, hL, _⟩ := own_any ho hr
      obtain ⟨er, her⟩ : ∃ er, er = (encA lf ks vs is).2 := ⟨_, rfl⟩
      rw [← her] at he ⊢
      have heb : (er != 0) = true := bne_iff_ne.2 he
      clear her ho hr hb3 hnil
      go_wp2
      go_ret
      exact ⟨rfl, HB3.out⟩
    · rw [heq] at ho hr
      rw [heq]
      have hpos := (nodeB_two lf ks vs is).2
      obtain ⟨g, c1, rfl⟩ := own_addr ho (by show (nodeB lf ks vs is).length ≠ 0; omega)
      have HG := Lib.hid (Nat.le_trans (Nat.le_trans HB0.out.size HB2.out.size) (own_lo ho))
      clear heq
      dsimp only at ho hr
      dsimp only
      generalize nodeB lf ks vs is = zs at hpos ho hr hl8 ⊢
      generalize hn : zs.length = n at hpos ho hl8 ⊢
      have HNl := Lib.hid hn
      have HO := Lib.hid ho
      have HRan := Lib.hid hr
      have HN8 := Lib.hid hl8
      clear ho hb3 hr hn
      have hnu : IntKind.u64.wrap (n : Int) = (n : Int) := by rw [IntKind.wrap_u64]; omega
      have hn0 : (0 : Int) < (n : Int) := by omega
      have e0 : ((n : Int) == 0) = false := by rw [beq_eq_false_iff_ne]; omega
      obtain ⟨p, hp⟩ : ∃ p : Nat, at_ % (n : Int) = (p : Int) := by
        have h := Int.emod_nonneg at_ (show (n : Int) ≠ 0 by omega)
        obtain ⟨p, hp⟩ := Int.eq_ofNat_of_zero_le h
        exact ⟨p, hp⟩
      have hpn : p < n := by have := Int.emod_lt_of_pos at_ hn0; omega
      have hp1 : (p : Int) < (n : Int) := by omega
      have hp0 : (0 : Int) ≤ (p : Int) := by omega
      have hpt : at_.tmod (n : Int) = (p : Int) := by rw [Int.tmod_eq_emod_of_nonneg a0, hp]
      have hcell := own_cell HO.out HNl.out p hpn
      have hfz := own_frozen HO.out p
      have hzp := HRan.out (zs.getD p 0) (by rw [List.getD_eq_getElem?_getD, List.getElem?_eq_getElem (by rw [HNl.out]; exact hpn)]; exact List.getElem_mem _)
      generalize zs.getD p 0 = zp at hcell hzp
      have HX := Lib.hid (xor_u8_bd zp by_ hzp hby)
      go_wp2_with fail
      obtain ⟨y, hy⟩ : ∃ y, y = bits .xor .u8 zp by_ := ⟨_, rfl⟩
      rw [← hy] at HX ⊢
      have HO3 := Lib.hid (own_set HO.out p hpn y)
      have HB3 := Lib.hid (HB3.out.setCell (p := ⟨g, p, none⟩) HG.out (.int .u8 y))
      have HRan3 := Lib.hid (set_range HRan.out p y HX.out)
      have HN3 := Lib.hid (show (zs.set p y).length = n by rw [List.length_set]; exact HNl.out)
      generalize w3.setCell ⟨g, p, none⟩ (.int .u8 y) = w4 at HO3 HB3 ⊢
      generalize zs.set p y = ys at HO3 HRan3 HN3
      clear hcell hfz hzp HX hy hp hpt hp1 hp0 hpn HO HRan HNl
      have HI := Lib.hid (own_isB HO3.out HN3.out HRan3.out)
      have HGl := Lib.hid (own_low HO3.out)
      have HCl := Lib.hid (cap_le HO3.out).1
      obtain ⟨d, hd⟩ : ∃ d, d = decA ys := ⟨_, rfl⟩
      have her2 : d.er = 0 ∨ d.er = 2 := by rw [hd]; exact decA_er ys
      have HD := Lib.hid (once_of hd HRan3.out (by rw [HN3.out]; exact HN8.out))
      have hdec := decode_any w4 (some ⟨g, 0, none⟩) n c1 ys HI.out (fun h => by cases h) HCl.out (by rw [HN3.out]; have := HN8.out; omega)
      rw [← hd] at hdec
      clear hd
      refine hdec.mono ?_
      clear hdec
      rintro e w5 ⟨yka, ykl, ykc, yva, yvl, yvc, yia, yil, yic, rfl, hnd, hb5⟩
      obtain ⟨lf2, ks2, vs2, is2, er2⟩ := d
      dsimp only at her2 HD hnd ⊢
      rcases her2 with rfl | rfl
      · obtain ⟨k1, k2, k3, k4, k5⟩ := HD.out rfl
        have hkl := hnd.keys.1
        have hvl := hnd.vals.1
        rw [hkl, hvl] at k5
        have HF5 := Lib.hid k5
        have HE5 := Lib.hid k1
        have HK5 := Lib.hid (show (nodeB lf2 ks2 vs2 is2).length ≤ n ∧ ys.take (nodeB lf2 ks2 vs2 is2).length = nodeB lf2 ks2 vs2 is2 ∧ ∀ k, (nodeB lf2 ks2 vs2 is2).length ≤ k → ys.getD k 0 = 0 from ⟨by rw [← HN3.out]; exact k2, k3, k4⟩)
        obtain ⟨W6, hW6⟩ : ∃ W6, W6 = w5.alloc (.cells #[.bool lf2, .slice yka ykl ykc, .slice yva yvl yvc, .slice yia yil yic] 28) := ⟨_, rfl⟩
        have n6 : W6.heap[w5.heap.size]? = some (.cells #[.bool lf2, .slice yka ykl ykc, .slice yva yvl yvc, .slice yia yil yic] 28 (0, 0)) := by rw [hW6]; exact Go.heap_alloc_new w5 _
        have hb6 : Below w5.heap.size w5 W6 := by rw [hW6]; exact bel0 _ (Below.refl _ _)
        have HNy := Lib.hid (hnd.below hb6)
        have HB46 := Lib.hid (bt hb5 hb6)
        have y0 := cell_of_row _ _ 0 _ _ _ n6
        have y1 := cell_of_row _ _ 1 _ _ _ n6
        have y2 := cell_of_row _ _ 2 _ _ _ n6
        have y3 := cell_of_row _ _ 3 _ _ _ n6
        simp only [List.getElem?_toArray, List.getElem?_cons_zero, List.getElem?_cons_succ] at y0 y1 y2 y3
        have HW6 := Lib.hid hW6
        clear hnd hb5 n6 hb6 k1 k2 k3 k4 k5 hkl hvl
        go_upto_region 10 with (fail)
        clear hW6
        rw [← HW6.out]
        go_wp2_with fail
        refine (encode_any lf2 yka yva yia ykl ykc yvl yvc yil yic ks2 vs2 is2 W6 HNy.out HF5.out).mono ?_
        rintro e w7 ⟨v, rfl, ho, hr, hb7⟩
        rw [HE5.out] at ho hr
        rw [HE5.out]
        dsimp only at ho hr ⊢
        generalize nodeB lf2 ks2 vs2 is2 = zs2 at *
        obtain ⟨a5, m, c5, rfl, hm, hI5, _, hn5, hle5, _⟩ := own_any ho hr
        subst hm
        have HB7 := Lib.hid (bt HB3.out (bt HB46.out hb7))
        have HI7 := Lib.hid (HI.out.below (bt HB46.out hb7) (fun x _ hx => by cases hx; exact HGl.out))
        have t1 : ∀ q, (convert 29 9 (.slice a5 zs2.length c5)).run Tryd.prog (w7.drewN q) = .ok (.string (strOfNums zs2)) (w7.drewN q) := fun q => str_any (w := w7.drewN q) (show IsB (w7.drewN q) a5 _ _ from hI5) hn5
        have t2 : ∀ q, (convert 29 9 (.slice (some ⟨g, 0, none⟩) zs2.length c1)).run Tryd.prog (w7.drewN q) = .ok (.string (strOfNums zs2)) (w7.drewN q) := fun q => by
          have := isB_take HI7.out HK5.out.1
          rw [HK5.out.2.1] at this
          exact str_any (w := w7.drewN q) (show IsB (w7.drewN q) (some ⟨g, 0, none⟩) _ _ from this) (fun h => by cases h)
        have hsl : ∀ W, (Instr.slice 29 (.slice (some ⟨g, 0, none⟩) n c1) none (some (.int .i64 (zs2.length : Int))) none).run Tryd.prog W = .ok (.slice (some ⟨g, 0, none⟩) zs2.length c1) W := fun W => slice_h _ _ _ _ (by have := HK5.out.1; have := HCl.out; omega) _ _
        have hmn : (zs2.length : Int) ≤ (n : Int) := by have := HK5.out.1; omega
        have hmd : decide (n < zs2.length) = false := decide_eq_false (by omega)
        have HM := Lib.hid (show zs2.length ≤ n ∧ ∀ k, zs2.length ≤ k → ys.getD k 0 = 0 from ⟨HK5.out.1, HK5.out.2.2⟩)
        clear ho hr hb7 hI5 hn5 hle5 y0 y1 y2 y3 hpos hnu hn0 e0 hl8 HK5 HE5 HF5 HD
        generalize strOfNums zs2 = S at *
        generalize zs2.length = m at *
        go_upto_region 11 with (fail)
        go_quiet (fail)
        go_wp2
        go_loopw [13] (fun i wr => ∃ k : Nat, m ≤ k ∧ k ≤ n ∧ i = .int .i64 (k : Int) ∧ Hid (IsB wr (some ⟨g, 0, none⟩) n ys ∧ Below w.heap.size w wr)) (fun i _ => n - (intOf i).toNat)
        case atStart => exact ⟨m, Nat.le_refl _, HM.out.1, rfl, Lib.hid ⟨HI7.out, ndDrew HB7.out _⟩⟩
        case round =>
          obtain ⟨k, hmk, hkn, rfl, HR⟩ := hrel
          by_cases hlt : k < n
          · have hck : wr.cell? ⟨g, k, none⟩ = some (.int .u8 0) := by
              rcases HR.out.1.2.2.1 with h | ⟨b, off, he, hc⟩
              · omega
              · cases he
                have := hc k hlt
                rw [HM.out.2 k hmk, Nat.zero_add] at this
                exact this
            have hki : (k : Int) < (n : Int) := by omega
            have hk0 : (0 : Int) ≤ (k : Int) := by omega
            have hnb : (n : Int) ≤ 508 := by have := HN8.out; omega
            have hnb' : n ≤ 508 := HN8.out
            have HLt := Lib.hid hlt
            have HMk := Lib.hid hmk
            clear hlt hkn hmk
            go_wp2
            go_roundw
            case rel => exact ⟨k + 1, by have := HMk.out; omega, HLt.out, by go_num, HR⟩
            case measure => have := HLt.out; simp [intOf]; omega
          · have hkk : (n : Int) ≤ (k : Int) := by omega
            go_wp2
            go_ret
            exact ⟨rfl, HR.out.2⟩
      · have HB5 := Lib.hid (bt HB3.out hb5)
        clear hnd hb5 HD
        go_wp2
        go_ret
        exact ⟨rfl, bt HB5.out (by repeat (first | exact Below.refl _ _ | refine bel0 _ ?_))⟩
end Go.Proofs.YtbcjhngpcodaoaaDoor
