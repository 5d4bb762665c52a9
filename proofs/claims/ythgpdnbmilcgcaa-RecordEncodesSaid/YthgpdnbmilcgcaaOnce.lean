/- RecordOnce: the law's walk. -/
import Derived.Test.YthgpdnbmilcgcaaEncW
import Derived.Test.YthgpdnbmilcgcaaDec2
namespace Go.Proofs.Ythgpdnbmilcgcaa
open Go.RowKit
set_option linter.unusedVariables false

theorem isV_one (w : World) (v : Val) : IsV (w.alloc (.cells #[.int .i64 v.1, .int .i64 v.2.1, .string v.2.2] 49)) (some ⟨w.heap.size, 0, none⟩) 1 [v] := by
  refine ⟨rfl, by omega, .inr ⟨w.heap.size, 0, rfl, by simp, fun i hi => ?_⟩⟩
  obtain rfl : i = 0 := by omega
  simp [go_sem]
theorem okV_no : okV noV := ⟨formed_null, by simp [noV], by simp [noV]⟩
theorem encR_no : encR [noV] = [1, 0] := by decide +kernel
theorem own_str {w : World} {B g n cap : Nat} {zs : List Int} (h : w.ownsRow B 5 1 (.slice (some ⟨g, 0, none⟩) n cap) n (zs.map (Value.int .u8))) (hz : zs.length = n) (hb : ∀ z ∈ zs, 0 ≤ z ∧ z ≤ 255) (h0 : n ≠ 0) :
    (convert 22 9 (.slice (some ⟨g, 0, none⟩) n cap)).run Try.prog w = .ok (.string (strOfNums zs)) w := str_of (own_isB h hz hb) h0

set_option maxHeartbeats 800000 in
theorem rawake_any (w : World) : Calls Try.prog 18 #[] w fun e w' => e = .returned (.bool true) ∧ Below w.heap.size w w' := by
  have b0 := bel0 (.cells #[.int .i64 0, .int .i64 0, .string ⟨#[]⟩] 49) (Below.refl w.heap.size w)
  go_enter Try.func18, Try.ntmps18
  go_wp2_with fail
  refine (encode_good (some ⟨w.heap.size, 0, none⟩) 1 1 [noV] _ (isV_one w noV) (fun v hv => by simp at hv; subst hv; exact okV_no) (by omega)).mono ?_
  rintro e w1 (⟨h, _⟩ | ⟨_, v, rfl, hown, hb⟩)
  · rw [encR_no] at h; simp at h
  · rw [encR_no] at hown
    obtain ⟨g, cap, rfl⟩ := own_addr (n := 2) hown (by decide)
    have hs := own_str (zs := [1, 0]) (n := 2) hown rfl (by intro z hz; simp at hz; omega) (by decide)
    rw [show strOfNums [1, 0] = ⟨#[1, 0]⟩ by decide +kernel] at hs
    have HB := Lib.hid (bt b0 hb)
    clear hown hb
    go_wp2
    go_ret
    exact ⟨rfl, HB.out⟩

theorem bits_xor_u8_nat (a b : Nat) (ha : a < 256) (hb : b < 256) : bits .xor .u8 (a : Int) (b : Int) = ((a ^^^ b : Nat) : Int) := by
  have hx : a ^^^ b < 2 ^ 8 := Nat.xor_lt_two_pow (by omega) (by omega)
  have h1 : (BitVec.ofInt 8 (a : Int)).toNat = a := by
    rw [BitVec.ofInt_natCast, BitVec.toNat_ofNat]; exact Nat.mod_eq_of_lt (by omega)
  have h2 : (BitVec.ofInt 8 (b : Int)).toNat = b := by
    rw [BitVec.ofInt_natCast, BitVec.toNat_ofNat]; exact Nat.mod_eq_of_lt (by omega)
  show IntKind.u8.wrap ((BitVec.ofInt 8 (a : Int) ^^^ BitVec.ofInt 8 (b : Int)).toNat : Int) = _
  rw [BitVec.toNat_xor, h1, h2, wrap_u8]
  omega
theorem xor_u8_bd (x y : Int) (h0 : 0 ≤ x ∧ x ≤ 255) (h1 : 0 ≤ y ∧ y ≤ 255) : 0 ≤ bits .xor .u8 x y ∧ bits .xor .u8 x y ≤ 255 := by
  obtain ⟨a, rfl⟩ := Int.eq_ofNat_of_zero_le h0.1
  obtain ⟨b, rfl⟩ := Int.eq_ofNat_of_zero_le h1.1
  rw [bits_xor_u8_nat a b (by omega) (by omega)]
  have : a ^^^ b < 2 ^ 8 := Nat.xor_lt_two_pow (by omega) (by omega)
  omega

theorem okV_all {vs : List Val} (ha : allF vs = true) (hr : ∀ v ∈ vs, -9223372036854775808 ≤ v.2.1 ∧ v.2.1 ≤ 9223372036854775807) : ∀ v ∈ vs, okV v := by
  intro v hv
  unfold allF at ha
  rw [List.all_eq_true] at ha
  exact ⟨ha v hv, hr v hv⟩
theorem encR_pos (vs : List Val) : 1 ≤ (encR vs).length := by
  have := (groups_bd (vs.length : Int)).1
  unfold encR; rw [List.length_append, enc_length]; omega

set_option maxHeartbeats 1600000 in
theorem recordOnce_walk (a : Option Addr) (len cap : Nat) (vs : List Val) (at_ by_ : Int) (a0 : 0 ≤ at_) (a1 : at_ ≤ 18446744073709551615) (b0 : 0 ≤ by_) (b1 : by_ ≤ 255) (w : World) (hv : IsV w a len vs)
    (hr : ∀ v ∈ vs, -9223372036854775808 ≤ v.2.1 ∧ v.2.1 ≤ 9223372036854775807) :
    Calls Try.prog 7 #[.slice a len cap, .int .u64 at_, .int .u8 by_] w fun e w' => e = .returned (.bool true) ∧ Below w.heap.size w w' := by
  have HV := Lib.hid hv
  have hm := hv.2.1
  have hl := hv.1
  clear hv
  by_cases hbig : 1000 < len
  · have hbig' : (1000 : Int) < (len : Int) := by omega
    clear hl hbig
    go_enter Try.func7, Try.ntmps7
    go_wp2_with fail
    refine (rawake_any _).mono ?_
    rintro e w1 ⟨rfl, hb1⟩
    have HB1 := Lib.hid hb1
    clear hb1
    go_wp2_with fail
    refine (rawake_any _).mono ?_
    rintro e w2 ⟨rfl, hb2⟩
    have HB2 := Lib.hid (bt HB1.out hb2)
    clear hb2
    go_wp2
    go_ret
    exact ⟨rfl, HB2.out⟩
  have hbig' : (len : Int) ≤ 1000 := by omega
  by_cases hf : allF vs = true
  · have HOK := Lib.hid (okV_all hf hr)
    clear hl hr hf
    go_enter Try.func7, Try.ntmps7
    go_wp2_with fail
    refine (rawake_any _).mono ?_
    rintro e w1 ⟨rfl, hb1⟩
    have HB1 := Lib.hid hb1
    clear hb1
    go_wp2_with fail
    refine (encode_good a len cap vs _ (HV.out.below HB1.out) HOK.out (by omega)).mono ?_
    rintro e w2 (⟨_, rfl, hb2⟩ | ⟨hle, v, rfl, hown, hb2⟩)
    · have HB2 := Lib.hid (bt HB1.out hb2)
      clear hb2
      go_wp2
      go_ret
      exact ⟨rfl, HB2.out⟩
    · have hpos := encR_pos vs
      obtain ⟨g, c1, rfl⟩ := own_addr hown (by omega)
      have HB2 := Lib.hid (bt HB1.out hb2)
      have HG := Lib.hid (Nat.le_trans HB1.out.size (own_lo hown))
      have hran := encR_range vs
      generalize encR vs = zs at hle hpos hown hran ⊢
      generalize hn : zs.length = n at hle hpos hown ⊢
      have HN := Lib.hid hn
      have HO := Lib.hid hown
      have HRan := Lib.hid hran
      clear hown hb2 hran hn
      have hnu : IntKind.u64.wrap (n : Int) = (n : Int) := by rw [IntKind.wrap_u64]; omega
      have hn0 : (0 : Int) < (n : Int) := by omega
      have e0 : ((n : Int) == 0) = false := by rw [beq_eq_false_iff_ne]; omega
      obtain ⟨p, hp⟩ : ∃ p : Nat, at_ % (n : Int) = (p : Int) := by
        have h := Int.emod_nonneg at_ (show (n : Int) ≠ 0 by omega)
        obtain ⟨p, hp⟩ := Int.eq_ofNat_of_zero_le h
        exact ⟨p, hp⟩
      have hpn : p < n := by have := Int.emod_lt_of_pos at_ hn0; omega
      have hp1 : (p : Int) < (n : Int) := by omega
      have hp0 : (0 : Int) ≤ (p : Int) := by omega
      have hpt : at_.tmod (n : Int) = (p : Int) := by rw [Int.tmod_eq_emod_of_nonneg a0, hp]
      have hcell := own_cell HO.out HN.out p hpn
      have hfz := own_frozen HO.out p
      have hzp := HRan.out (zs.getD p 0) (by rw [List.getD_eq_getElem?_getD, List.getElem?_eq_getElem (by rw [HN.out]; exact hpn)]; exact List.getElem_mem _)
      generalize zs.getD p 0 = zp at hcell hzp
      have HX := Lib.hid (xor_u8_bd zp by_ hzp ⟨b0, b1⟩)
      go_wp2_with fail
      obtain ⟨y, hy⟩ : ∃ y, y = bits .xor .u8 zp by_ := ⟨_, rfl⟩
      rw [← hy] at HX ⊢
      have HO3 := Lib.hid (own_set HO.out p hpn y)
      have HB3 := Lib.hid (HB2.out.setCell (p := ⟨g, p, none⟩) HG.out (.int .u8 y))
      have HRan3 := Lib.hid (set_range HRan.out p y HX.out)
      have HN3 := Lib.hid (show (zs.set p y).length = n by rw [List.length_set]; exact HN.out)
      generalize w2.setCell ⟨g, p, none⟩ (.int .u8 y) = w3 at HO3 HB3 ⊢
      generalize zs.set p y = ys at HO3 HRan3 HN3
      clear hcell hfz hzp HX hy hp hpt hp1 hp0 hpn HO HRan HN HB2 HB1 HV HOK
      have HI := Lib.hid (own_isB HO3.out HN3.out HRan3.out)
      refine (decode_any (some ⟨g, 0, none⟩) n c1 ys w3 HI.out (fun x _ hx => by cases hx; exact own_low HO3.out) (fun h => by cases h) (cap_le HO3.out).1 (.inr (by omega))).mono ?_
      rintro e w4 ⟨hb4, hh⟩
      have HB4 := Lib.hid (bt HB3.out hb4)
      have HI4 := Lib.hid (HI.out.below hb4 (fun x _ hx => by cases hx; exact own_low HO3.out))
      have hg4 : g < w4.heap.size := Nat.lt_of_lt_of_le (own_low HO3.out) hb4.size
      clear hb4
      rcases hh with ⟨vs2, g2, n2, hd, rfl, hrow, hl2, hn2, hg2⟩ | ⟨hd, rfl⟩
      · obtain ⟨hok2, he2⟩ := decR_canon HRan3.out hd
        have HOK2 := Lib.hid hok2
        have HE2 := Lib.hid he2
        have HV2 := Lib.hid (hrow.isV hl2 (by omega))
        clear hd hok2 he2 hrow hl2
        go_wp2_with fail
        refine (encode_good (some ⟨g2, 0, none⟩) n2 n2 vs2 _ HV2.out HOK2.out hn2).mono ?_
        rintro e w5 (⟨hbad, _⟩ | ⟨_, v, rfl, hown5, hb5⟩)
        · exfalso
          rw [← HE2.out] at hbad
          have := HN3.out
          omega
        · rw [← HE2.out, HN3.out] at hown5
          obtain ⟨g5, c5, rfl⟩ := own_addr hown5 (by omega)
          have hs5 := own_str hown5 HN3.out HRan3.out (by omega)
          have hs6 := str_of (cap := c1) (HI4.out.below hb5 (fun x _ hx => by cases hx; exact hg4)) (by omega)
          have HB5 := Lib.hid (bt HB4.out hb5)
          clear hown5 hb5
          go_wp2
          go_ret
          exact ⟨rfl, HB5.out⟩
      · clear hd
        go_wp2
        go_ret
        exact ⟨rfl, HB4.out⟩
  · have HF := Lib.hid (show allF vs = false by simpa using hf)
    clear hl hf hr
    go_enter Try.func7, Try.ntmps7
    go_wp2_with fail
    refine (rawake_any _).mono ?_
    rintro e w1 ⟨rfl, hb1⟩
    have HB1 := Lib.hid hb1
    clear hb1
    go_wp2_with fail
    refine (encode_bad a len cap vs _ (HV.out.below HB1.out) HF.out).mono ?_
    rintro e w2 ⟨rfl, hb2⟩
    have HB2 := Lib.hid (bt HB1.out hb2)
    clear hb2
    go_wp2
    go_ret
    exact ⟨rfl, HB2.out⟩
end Go.Proofs.Ythgpdnbmilcgcaa
