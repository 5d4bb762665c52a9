/- Contract of record's Decode: every slice of bytes whose count is no greater than a million. -/
import Derived.Test.YthgpdnbmilcgcaaDecW
import Derived.Deep.RegionHeld3
import Derived.OwnWalk
namespace Go.Proofs.Ythgpdnbmilcgcaa
open Go.RowKit
set_option linter.unusedVariables false
theorem infoVal : (Try.prog.info? 49).map (fun i => (i.zero, i.size, i.bytes)) = some (some (.agg #[.int .i64 0, .int .i64 0, .string ⟨#[]⟩]), 3, 32) := by kernel_rfl

def DecPost (w : World) (zs : List Int) (e : Ending) (w' : World) : Prop :=
  Below w.heap.size w w' ∧
  ((∃ vs g n, decR zs = some vs ∧ e = .returned (.tuple #[.slice (some ⟨g, 0, none⟩) n n, .int .i64 0]) ∧ RowV w' 49 g n vs ∧ vs.length = n ∧ n ≤ 1000000 ∧ w.heap.size ≤ g) ∨
   (decR zs = none ∧ e = .returned (.tuple #[.slice none 0 0, .int .i64 2])))

def glue (vs : List Val) (o : Option (List Val × List Int)) : Option (List Val × List Int) := o.map fun p => (vs ++ p.1, p.2)
theorem glue_step {vs : List Val} {n : Nat} {l : List Int} {v : Val} {u : Nat} (h : takeV l = some (v, u)) : glue vs (takeVs (n + 1) l) = glue (vs ++ [v]) (takeVs n (l.drop u)) := by
  unfold glue
  simp only [takeVs, h]
  cases takeVs n (l.drop u) with
  | none => rfl
  | some p => simp
theorem glue_none {vs : List Val} {n : Nat} {l : List Int} (h : takeV l = none) : glue vs (takeVs (n + 1) l) = none := by
  unfold glue
  simp only [takeVs, h]
  rfl

theorem dec_e {zs : List Int} (h : takeR zs = (0, 0, 2)) : decR zs = none := by unfold decR decS; rw [h]; rfl
theorem dec_big {zs : List Int} {m k : Nat} (h : takeR zs = ((m : Int), (k : Int), 0)) (hm : (zs.drop k).length < m) : decR zs = none := by
  unfold decR decS
  rw [h, if_pos rfl]
  dsimp only
  rw [Int.toNat_natCast, if_neg (by omega)]
theorem dec_fits {zs : List Int} {m k : Nat} (h : takeR zs = ((m : Int), (k : Int), 0)) (hm : m ≤ (zs.drop k).length) : decS zs = glue [] (takeVs m (zs.drop k)) := by
  unfold decS
  rw [h, if_pos rfl]
  dsimp only
  rw [Int.toNat_natCast, if_pos (by omega), Int.toNat_natCast]
  unfold glue
  cases takeVs m (zs.drop k) <;> simp
theorem dec_none {zs : List Int} (h : decS zs = none) : decR zs = none := by unfold decR; rw [h]
theorem dec_more {zs : List Int} {vs : List Val} {r : List Int} (h : decS zs = some (vs, r)) (hr : r.length ≠ 0) : decR zs = none := by
  unfold decR; rw [h]
  cases r with
  | nil => simp at hr
  | cons z r => rfl
theorem dec_some {zs : List Int} {vs : List Val} {r : List Int} (h : decS zs = some (vs, r)) (hr : r.length = 0) : decR zs = some vs := by
  unfold decR; rw [h]
  rw [List.eq_nil_of_length_eq_zero hr]

/-- what holds at the head of a round -/
def DecInv (w : World) (S : Option (List Val × List Int)) (g m j : Nat) (a : Option Addr) (l c : Nat) (wr : World) : Prop :=
  ∃ (vs : List Val) (zs : List Int), vs.length = j ∧ RowV wr 49 g m vs ∧ Below w.heap.size w wr ∧ IsB wr a l zs ∧ (∀ x, l ≠ 0 → a = some x → x.block < w.heap.size) ∧ (a = none → l = 0 ∧ c = 0) ∧ l ≤ c ∧ S = glue vs (takeVs (m - j) zs)

set_option maxHeartbeats 1600000 in
theorem decode_any (a : Option Addr) (len cap : Nat) (zs : List Int) (w : World) (h : IsB w a len zs) (ha : ∀ x, len ≠ 0 → a = some x → x.block < w.heap.size) (hn : a = none → len = 0 ∧ cap = 0) (hc : len ≤ cap) (hbig : (takeR zs).1 ≤ 1000000 ∨ len ≤ 1000000) :
    Calls Try.prog 21 #[.slice a len cap] w (DecPost w zs) := by
  have hm := h.2.1
  have hl := h.1
  have H := Lib.hid h
  have HA := Lib.hid ha
  have HN := Lib.hid hn
  have hbd := h.mem
  clear h ha hn
  rcases takeR_nat hbd with ⟨m, k, ht, hm1, hk0, hk1, hk2⟩ | ht
  · rw [hl] at hk2
    rw [ht] at hbig
    dsimp only at hbig
    have HT := Lib.hid ht
    obtain ⟨l2, hl2⟩ : ∃ l2, l2 = len - k := ⟨_, rfl⟩
    obtain ⟨c2, hc2⟩ : ∃ c2, c2 = cap - k := ⟨_, rfl⟩
    have hs2 : ∀ W, (Instr.slice 22 (.slice a len cap) (some (.int .i64 (k : Int))) none none).run Try.prog W = .ok (.slice (offA a cap k) l2 c2) W := fun W => by
      have := slice_l a len cap k hk2 .i64 W
      rwa [← hl2, ← hc2] at this
    have hdl : (zs.drop k).length = l2 := by rw [List.length_drop, hl]; omega
    have hlu : IntKind.u64.wrap (l2 : Int) = (l2 : Int) := by rw [IntKind.wrap_u64]; omega
    by_cases hov : l2 < m
    · have HR := Lib.hid (dec_big ht (by omega))
      have hov' : (l2 : Int) < (m : Int) := by omega
      clear ht hl hl2 hc2 hdl hov hbig hk0
      go_enter Try.func21, Try.ntmps21
      go_wp2_with fail
      refine (take_any _ _ _ _ _ H.out).mono ?_
      rintro e w' ⟨rfl, rfl⟩
      rw [HT.out]
      unfold endT
      go_wp2
      go_ret2
      exact ⟨Below.refl _ _, .inr ⟨HR.out, rfl⟩⟩
    · have hov' : (m : Int) ≤ (l2 : Int) := by omega
      have hmm : m ≤ 1000000 := by omega
      have HD := Lib.hid (dec_fits ht (by omega))
      have HB2 := Lib.hid (isB_off (k := k) H.out hk2 hc)
      have HA2 := Lib.hid (offA_low (cap := cap) (k := k) HA.out)
      have HN2 := Lib.hid (offA_nil (k := k) HN.out)
      rw [← hl2] at HB2 HA2 HN2
      rw [← hc2] at HN2
      have hlc : l2 ≤ c2 := by omega
      generalize offA a cap k = a2 at hs2 HB2 HA2 HN2
      obtain ⟨i0, hi, hz0, hz1, hz2⟩ := info_parts infoVal
      clear ht hl hl2 hc2 hdl hov hbig hk0
      go_enter Try.func21, Try.ntmps21
      go_wp2_with fail
      refine (take_any _ _ _ _ _ H.out).mono ?_
      rintro e w' ⟨rfl, rfl⟩
      rw [HT.out]
      unfold endT
      go_wp2_with (at_make; refine wpList_make_full _ rfl _ _ 38 rfl w.heap.size 49 i0 (.agg #[.int .i64 0, .int .i64 0, .string ⟨#[]⟩]) 3 Try.underlying38 hi hz0 hz1 _ _ _ _ m rfl rfl rfl rfl ?b2 ?b3 (Nat.le_refl _) ?_)
      case b2 => rw [hz2]; omega
      case b3 => unfold maxLen; omega
      intro w1 hown1 hgrow1
      have hb1 : Below w.heap.size w w1 := (Below.refl _ w).grown hgrow1 (Nat.le_refl _) (fun k hk => by cases hk)
      have HR1 := Lib.hid (RowV.made hown1 rfl)
      have HI := Lib.hid (HB2.out.below hb1 HA2.out)
      have HB1 := Lib.hid hb1
      clear hown1 hgrow1 hb1
      go_wp2_with fail
      go_loopw [0, 33] (fun b i wr => ∃ (j : Nat) (a' : Option Addr) (l' c' : Nat), j ≤ m ∧ i = .int .i64 j ∧ b = .slice a' l' c' ∧ Hid (DecInv w (decS zs) w.heap.size m j a' l' c' wr)) (fun _ i _ => m - (intOf i).toNat)
      case atStart =>
        refine ⟨0, a2, l2, c2, by omega, rfl, rfl, Lib.hid ⟨[], zs.drop k, rfl, HR1.out, HB1.out, HI.out, HA2.out, HN2.out, hlc, ?_⟩⟩
        rw [HD.out]; rfl
      case round =>
        obtain ⟨j, a', l', c', hj, rfl, rfl, HV⟩ := hrel
        by_cases hlt : j < m
        · have hj' : (j : Int) < (m : Int) := by omega
          have hj0 : (0 : Int) ≤ (j : Int) := by omega
          rename_i wr _
          obtain ⟨vs, zj, hvj, hrow, hbel, hisb, hlow, hnil, hlcj, hS⟩ := HV.out
          have HS := Lib.hid hS
          have HVJ := Lib.hid hvj
          have HRow := Lib.hid hrow
          have HBel := Lib.hid hbel
          have HIsb := Lib.hid hisb
          have HLow := Lib.hid hlow
          have HNil := Lib.hid hnil
          clear HV hS hvj hrow hbel hisb hlow hnil
          go_wp2_with fail
          refine (takeValue_any _ _ _ zj _ HIsb.out (fun x hx hy => Nat.lt_of_lt_of_le (HLow.out x hx hy) HBel.out.size) HNil.out hlcj).mono ?_
          rintro e w2 ⟨hb2, hh⟩
          have HB2' := Lib.hid hb2
          clear hb2
          rcases hh with ⟨v, u, hr, rfl⟩ | ⟨hr, v, u, rfl⟩
          · obtain ⟨_, _, hu1, _⟩ := takeV_canon HIsb.out.mem hr
            have hu2 : u ≤ l' := by have := HIsb.out.1; omega
            have hs4 : ∀ W, (Instr.slice 22 (.slice a' l' c') (some (.int .i64 (u : Int))) none none).run Try.prog W = .ok (.slice (offA a' c' u) (l' - u) (c' - u)) W := fun W => slice_l a' l' c' u hu2 .i64 W
            obtain ⟨u0, u1, u2, q0, q1, q2, qf⟩ := (HRow.out.below HB2'.out).there hlt
            have qf0 := qf (j * 3)
            have qf1 := qf (j * 3 + 1)
            have qf2 := qf (j * 3 + 2)
            have hg2 : w.heap.size < w2.heap.size := Nat.lt_of_lt_of_le HRow.out.lt HB2'.out.size
            have hmj : m - j = (m - (j + 1)) + 1 := by omega
            have HE := Lib.hid (show decS zs = glue (vs ++ [v]) (takeVs (m - (j + 1)) (zj.drop u)) from by rw [HS.out, hmj]; exact glue_step hr)
            have HU := Lib.hid hu1
            clear hr hu1 qf hmj
            go_wp2_with fail
            go_region_held3 (fun w' => w'.cell? ⟨w2.heap.size, 0, none⟩ = some (.int .i64 v.1) ∧ w'.cell? ⟨w2.heap.size, 1, none⟩ = some (.int .i64 v.2.1) ∧ w'.cell? ⟨w2.heap.size, 2, none⟩ = some (.string v.2.2))
              (first | exact ⟨by simp [go_sem], by simp [go_sem], by simp [go_sem]⟩ | skip) (fail)
            go_wp2
            go_roundw
            case rel =>
              have hb3 : Below w.heap.size wr _ := (((HB2'.out.mono HBel.out.size).setCell (p := ⟨w.heap.size, j * 3, none⟩) (Nat.le_refl _) (.int .i64 v.1)).setCell (p := ⟨w.heap.size, j * 3 + 1, none⟩) (Nat.le_refl _) (.int .i64 v.2.1)).setCell (p := ⟨w.heap.size, j * 3 + 2, none⟩) (Nat.le_refl _) (.string v.2.2)
              have hbx := (hb3.alloc (by simp; omega) (.cells #[.int .i64 v.1, .int .i64 v.2.1, .string v.2.2] 49)).drew
              refine ⟨j + 1, offA a' c' u, l' - u, c' - u, by omega, by go_num, rfl, Lib.hid ⟨vs ++ [v], zj.drop u, by simp [HVJ.out], ?_, HBel.out.trans hbx, (isB_off (HIsb.out) hu2 hlcj).belowB hbx ?_, ?_, offA_nil HNil.out, by omega, HE.out⟩⟩
              · exact ((HRow.out.below HB2'.out).set HVJ.out hlt v).below ((Below.refl _ _).alloc (Nat.le_refl _) _).drew
              · exact offA_lowB HLow.out
              · exact offA_lowB HLow.out
            case measure => simp [intOf]; omega
          · have HE := Lib.hid (dec_none (HS.out.trans (by rw [show m - j = (m - j - 1) + 1 by omega]; exact glue_none hr)))
            clear hr
            go_wp2
            go_ret2
            refine ⟨?_, .inr ⟨HE.out, rfl⟩⟩
            exact (HBel.out.trans (HB2'.out.mono HBel.out.size)).alloc (Nat.le_trans HBel.out.size HB2'.out.size) _
        · obtain rfl : j = m := by omega
          obtain ⟨vs, zj, hvj, hrow, hbel, hisb, hlow, hnil, hlcj, hS⟩ := HV.out
          have hS' : decS zs = some (vs, zj) := by rw [hS, Nat.sub_self]; simp [glue, takeVs]
          have hzj := hisb.1
          have hlj := hisb.2.1
          by_cases h0 : l' = 0
          · subst h0
            have HE := Lib.hid (dec_some hS' hzj)
            have HVJ := Lib.hid hvj
            have HRow := Lib.hid hrow
            have HBel := Lib.hid hbel
            clear HV hvj hrow hbel hisb hlow hnil hS hS' hzj
            go_wp2
            go_ret2
            exact ⟨HBel.out, .inl ⟨vs, w.heap.size, j, HE.out, rfl, HRow.out, HVJ.out, hmm, Nat.le_refl _⟩⟩
          · have HE := Lib.hid (dec_more hS' (by omega))
            have HBel := Lib.hid hbel
            have hl0 : (0 : Int) < (l' : Int) := by omega
            clear HV hvj hrow hbel hisb hlow hnil hS hS' hzj
            go_wp2
            go_ret2
            exact ⟨HBel.out, .inr ⟨HE.out, rfl⟩⟩
  · have HR := Lib.hid (dec_e ht)
    have HT := Lib.hid ht
    clear ht hl hbig
    go_enter Try.func21, Try.ntmps21
    go_wp2_with fail
    refine (take_any _ _ _ _ _ H.out).mono ?_
    rintro e w' ⟨rfl, rfl⟩
    rw [HT.out]
    unfold endT
    go_wp2
    go_ret2
    exact ⟨Below.refl _ _, .inr ⟨HR.out, rfl⟩⟩
end Go.Proofs.Ythgpdnbmilcgcaa
