/- DiskKeeps: the law's walk. -/
import Derived.Test.YtbcjhngpcodaoaaDkKw
namespace Go.Proofs.Ytbcjhngpcodaoaa
open Go.RowKit Go.Maps
set_option linter.unusedVariables false
set_option maxRecDepth 100000

set_option maxHeartbeats 1600000 in
theorem dunsynced_none (D : Nat) (w : World) (d2 : w.cell? ⟨D, 2, none⟩ = some (.map none)) (d5 : w.cell? ⟨D, 5, none⟩ = some (.map none)) : Calls Try.prog 26 #[.pointer (some ⟨D, 0, none⟩)] w fun e w' => e = .returned (.int .i64 0) ∧ ∃ n, w' = w.drewN n := by
  have d2n : ∀ n, (w.drewN n).cell? ⟨D, 2, none⟩ = some (.map none) := fun n => d2
  have d5n : ∀ n, (w.drewN n).cell? ⟨D, 5, none⟩ = some (.map none) := fun n => d5
  have l0 : ∀ n ty, (Builtin.len_ #[146] ty #[.map none]).run Try.prog (w.drewN n) = .ok (.int .i64 0) (w.drewN n) := fun n ty => Maps.len_nil Try.underlying146 ty
  go_enter Try.func26, Try.ntmps26
  go_wp2_with fail
  go_quiet (fail)
  go_wp2
  go_ret
  exact ⟨rfl, _, rfl⟩
/-- within the loop: the disk was never synced -/
def OneIn (w : World) (D B : Nat) (n : Nat) (wr : World) : Prop := ∃ x, OneD wr D B x ∧ x.few n ∧ Below w.heap.size w wr

theorem x_run (w : World) : (convert 26 26 (.slice (some ⟨w.heap.size, 0, none⟩) 1 1)).run Try.prog (w.alloc (.cells #[.int .u8 120] 5)) = .ok (.slice (some ⟨w.heap.size, 0, none⟩) 1 1) (w.alloc (.cells #[.int .u8 120] 5 (1, 2))) :=
  Lib.run_convert_bytes_const (P := Try.prog) w 26 5 #[.int .u8 120] 1 1 Try.underlying26 Try.underlying5

/-- what a crash leaves of what was synced -/
theorem kept_bytes {kz z0 xs : List Int} (hx : ∀ x ∈ xs, ∃ s : Nat, s ≤ 100000 ∧ x = (s : Int) ∧ sk s ∈ ([] ++ secs z0.length 1)) : z0.length ≤ (leftOf kz z0 (wrB z0 [120] z0.length) 0 xs).length ∧ (leftOf kz z0 (wrB z0 [120] z0.length) 0 xs).take (z0.length - z0.length % 64) = z0.take (z0.length - z0.length % 64) := by
  have hwl : (wrB z0 [120] z0.length).length = z0.length + 1 := by
    rw [wrB_length (Nat.le_refl _)]
    exact Nat.max_eq_right (by simp)
  obtain ⟨l1, _, l3, l4⟩ := foldC_len kz z0 (wrB z0 [120] z0.length) 0 xs
  have l4 := l4 (by omega)
  have hll : (leftOf kz z0 (wrB z0 [120] z0.length) 0 xs).length = (foldC kz z0 (wrB z0 [120] z0.length) 0 xs).2.1 := by
    unfold leftOf
    rw [List.length_take]
    omega
  refine ⟨by omega, ?_⟩
  obtain ⟨n, hn⟩ : ∃ n, n = z0.length - z0.length % 64 := ⟨_, rfl⟩
  rw [← hn]
  apply ext_getD (by rw [List.length_take, List.length_take]; omega)
  intro i hi
  rw [List.length_take] at hi
  have hin : i < n := by omega
  have hiz : i < z0.length := by omega
  have e1 : ((leftOf kz z0 (wrB z0 [120] z0.length) 0 xs).take n).getD i 0 = (foldC kz z0 (wrB z0 [120] z0.length) 0 xs).1.getD i 0 := by
    unfold leftOf
    simp only [List.getD_eq_getElem?_getD, List.getElem?_take]
    rw [if_pos hin, if_pos (by omega)]
  have e2 : (z0.take n).getD i 0 = z0.getD i 0 := by
    simp only [List.getD_eq_getElem?_getD, List.getElem?_take]
    rw [if_pos hin]
  have e3 : (wrB z0 [120] z0.length).getD i 0 = z0.getD i 0 := by
    unfold wrB
    simp only [List.getD_eq_getElem?_getD]
    rw [List.take_of_length_le (Nat.le_refl _), List.append_assoc, List.getElem?_append_left hiz]
  rw [e1, e2, ← e3]
  refine foldC_far kz z0 _ 0 i (by omega) xs (fun x hxm => ?_)
  obtain ⟨s, _, rfl, hs⟩ := hx x hxm
  rw [List.nil_append, secs_nS] at hs
  obtain ⟨s', hs', e⟩ := List.mem_map.1 hs
  have hss : s' = s := by
    simp only [sk, Lit.int.injEq, true_and] at e
    omega
  subst hss
  have h2 := List.mem_range'_1.1 hs'
  unfold nS at h2
  rw [if_neg (by omega)] at h2
  left
  rw [Int.toNat_natCast]
  omega
theorem kept_all (kz z : List Int) (t : Nat) : leftOf kz z z t [] = z := by
  unfold leftOf
  rw [foldC_nil]
  exact List.take_of_length_le (Nat.le_refl _)

theorem keep_below {w a b : World} {D : Nat} (h : Below w.heap.size w a) (hD : w.heap.size ≤ D) (o : Only (fun i => i = D) a b) : Below w.heap.size w b :=
  ⟨o.os.trans h.os, o.tape.trans h.tape, o.output.trans h.output, Nat.le_trans h.size o.size, fun i hi => (o.block i (Nat.lt_of_lt_of_le hi h.size) (by omega)).trans (h.block i hi)⟩
theorem isB_only {S : Nat → Prop} {w w' : World} {a : Option Addr} {len : Nat} {zs : List Int} (h : IsB w a len zs) (k : Only S w w') (hlo : ∀ x, len ≠ 0 → a = some x → x.block < w.heap.size) (hS : ∀ x, len ≠ 0 → a = some x → ¬ S x.block) : IsB w' a len zs := by
  obtain ⟨h1, h2, h3, h4⟩ := h
  refine ⟨h1, h2, ?_, h4⟩
  by_cases h0 : len = 0
  · exact .inl h0
  · rcases h3 with h3 | ⟨b, off, rfl, hc⟩
    · exact .inl h3
    · refine .inr ⟨b, off, rfl, fun i hi => ?_⟩
      rw [World.cell?_of_block (w' := w') (w := w) (k.block b (hlo _ h0 rfl) (hS _ h0 rfl))]
      exact hc i hi
set_option maxHeartbeats 6400000 in
theorem diskKeeps_walk (la : Option Addr) (ln lc : Nat) (f : Nat → OpD) (ka : Option Addr) (kl kc : Nat) (kz : List Int) (w : World) (hL : IsOps w la ln f) (hK : IsK w ka kl kz) (hkl : kl ≤ 140737488351232) :
    Calls Try.prog 6 #[.slice la ln lc, .slice ka kl kc] w fun e w' => e = .returned (.bool true) ∧ Below w.heap.size w w' := by
  have hm := hL.1
  have HL := Lib.hid hL
  have HK := Lib.hid hK
  clear hL hK
  go_enter Try.func6, Try.ntmps6
  go_wp2_with fail
  refine (dawake_any _).mono ?_
  rintro e w1 ⟨rfl, hb1⟩
  have HB1 := Lib.hid hb1
  clear hb1
  go_wp2_with fail
  refine (dfew_any la ln lc f _ (HL.out.below HB1.out)).mono ?_
  rintro e w2 ⟨rfl, hw⟩
  subst hw
  cases hfew : fewB f ln with
  | false =>
    clear hfew
    go_wp2_with fail
    refine (dawake_any _).mono ?_
    rintro e w2 ⟨rfl, hb2⟩
    have HB2 := Lib.hid (bt HB1.out hb2)
    clear hb2
    go_wp2
    go_ret
    exact ⟨rfl, HB2.out⟩
  | true =>
    have HFw := Lib.hid (fewB_bulk hfew)
    clear hfew
    by_cases h5 : 200 < (kl : Int)
    · go_wp2_with fail
      refine (dawake_any _).mono ?_
      rintro e w2 ⟨rfl, hb2⟩
      have HB2 := Lib.hid (bt HB1.out hb2)
      clear hb2
      go_wp2
      go_ret
      exact ⟨rfl, HB2.out⟩
    · have h5' : (kl : Int) ≤ 200 := by omega
      clear h5
      go_wp2_with fail
      refine (dnewB _).mono ?_
      rintro e wb ⟨rfl, hb⟩
      obtain ⟨D, hD⟩ : ∃ D, D = w2.heap.size := ⟨_, rfl⟩
      have HOne := Lib.hid (show OneD wb D (w2.heap.size + 1) ⟨[], [], [], []⟩ by rw [hD, hb]; exact one_new w2)
      have HD := Lib.hid (show w.heap.size ≤ D by have := HB1.out.size; omega)
      have HBb := Lib.hid (show Below w.heap.size w wb by rw [hb]; exact bt HB1.out (bel0 _ (Below.refl _ _)))
      generalize w2.heap.size + 1 = B at *
      rw [← hD]
      clear hb hD
      go_wp2_with fail
      go_loopw [32] (fun i wr => ∃ k : Nat, k ≤ ln ∧ i = .int .i64 (k : Int) ∧ Hid (OneIn w D B (bulk f k) wr)) (fun i _ => ln - (intOf i).toNat)
      case atStart => exact ⟨0, by omega, rfl, Lib.hid ⟨_, HOne.out, ⟨by simp, by simp, by simp, by simp⟩, HBb.out⟩⟩
      case round =>
        obtain ⟨k, hk, rfl, HR⟩ := hrel
        have hk0 : (0 : Int) ≤ (k : Int) := by omega
        by_cases hlt : k < ln
        · have hki : (k : Int) < (ln : Int) := by omega
          rcases HL.out.2 with h0 | ⟨lb, lo, rfl, hlb, hops⟩
          · omega
          obtain ⟨x, hpx, hfx, hbx⟩ := HR.out
          have HX := Lib.hid hpx
          have HBx := Lib.hid hbx
          have ho := (hops k hlt).below hbx
          have HO := Lib.hid (hops k hlt)
          have HKf := Lib.hid hfx
          have hbu := HFw.out.2 (k + 1) hlt
          have hbl2 : (f k).bl ≤ 20000 := by simp only [bulk] at hbu; omega
          have HU := Lib.hid (show bulk f k ≤ 20000 ∧ (f k).bl ≤ 20000 from ⟨HFw.out.2 k hk, hbl2⟩)
          have HKlt := Lib.hid hlt
          have HLn := Lib.hid (show ((f k).bz.take (f k).bl).length = (f k).bl from ho.bs.isB.1)
          have q0 := ho.c0
          have q1 := ho.c1
          have q2 := ho.c2
          have q3 := ho.c3
          have q4 := ho.c4
          have q5 := ho.c5
          generalize hy : f k = y at *
          have HY := Lib.hid hy
          clear hy hpx hbx ho hfx hbu hbl2 hops hlt hk hlb
          have HBa := Lib.hid (show Below wr.heap.size wr (wr.alloc (.cells #[.int .i64 y.kind, .int .i64 y.file, .int .i64 y.pos, .int .i64 y.num, .slice y.ba y.bl y.bc, .slice y.ka y.kl y.kc] 55)) from bel0 _ (Below.refl _ _))
          by_cases h1 : y.kind = 1
          · have h1b : (y.kind == 1) = true := beq_iff_eq.2 h1
            clear h1
            go_wp2_with fail
            refine (owrite_one _ D B w.heap.size x y.file y.pos y.ba y.bl y.bc (y.bz.take y.bl) (by exact HX.out.below HBa.out) (HKf.out.mono (by have := HU.out; omega)) HD.out (by have := HBx.out.size; simp; omega) (by exact (HO.out.bs.below (bt HBx.out HBa.out)).isB) HO.out.bs.nilB HO.out.bs.leB.1 (by have := HU.out; omega) HO.out.bs.low).mono ?_
            rintro e w7 ⟨rfl, hp7, hb7⟩
            have HR2 := Lib.hid (show OneIn w D B (bulk f (k + 1)) w7 from ⟨wrD x y.file y.pos (y.bz.take y.bl), hp7, by
              have h := wrD_few (f := y.file) (p := y.pos) (b := y.bz.take y.bl) HKf.out
              rw [HLn.out] at h
              exact h.mono (by simp only [bulk, HY.out]; exact Nat.le_refl _), (bt HBx.out HBa.out).trans hb7⟩)
            clear hp7 hb7 q0 q1 q2 q3 q4 q5
            go_wp2
            go_roundw
            case rel => exact ⟨k + 1, HKlt.out, by go_num, HR2⟩
            case measure => have := HKlt.out; simp [intOf]; omega
          · have h1b : (y.kind == 1) = false := beq_eq_false_iff_ne.2 h1
            clear h1
            have HR2 := Lib.hid (show OneIn w D B (bulk f (k + 1)) (wr.alloc (.cells #[.int .i64 y.kind, .int .i64 y.file, .int .i64 y.pos, .int .i64 y.num, .slice y.ba y.bl y.bc, .slice y.ka y.kl y.kc] 55)) from ⟨x, HX.out.below HBa.out, HKf.out.mono (by simp [bulk]), bt HBx.out HBa.out⟩)
            go_wp2
            go_roundw
            case rel => exact ⟨k + 1, HKlt.out, by go_num, HR2⟩
            case measure => have := HKlt.out; simp [intOf]; omega
        · have hkk : (ln : Int) ≤ (k : Int) := by omega
          have HR2 := Lib.hid (show OneIn w D B 20000 wr from by
            obtain ⟨x, a1, a2, a3⟩ := HR.out
            exact ⟨x, a1, a2.mono (HFw.out.2 k hk), a3⟩)
          clear HL HFw HR HOne HBb HB1 hm hlt hk0 hk
          obtain ⟨x, hone, hfx, hbx⟩ := HR2.out
          obtain ⟨v0, m0, v1, m1, hdf⟩ := hone
          obtain ⟨zl0, zl1, ll0, ll1⟩ := hfx
          have HDF := Lib.hid hdf
          have HBx := Lib.hid hbx
          have HZl := Lib.hid (And.intro zl0 zl1)
          have HKl := Lib.hid (show kl ≤ 200 by omega)
          clear hbx hdf zl0 zl1 ll0 ll1 HR2 hkl
          go_wp2_with fail
          refine (dsync0 _ D B v0 m0 v1 _ m1 x.z0 x.L0 x.z1 [] x.L1 (by exact HDF.out) (by have := HZl.out; omega)).mono ?_
          rintro e w3 ⟨rfl, ⟨s0, h3⟩, o3⟩
          have HDF3 := Lib.hid h3
          have HB3 := Lib.hid (keep_below HBx.out HD.out o3)
          clear h3 o3
          go_wp2_with fail
          refine (dsync1 _ D B v0 s0 _ v1 m1 x.z0 x.z0 [] x.z1 x.L1 (by exact HDF3.out) (by have := HZl.out; omega)).mono ?_
          rintro e w4 ⟨rfl, ⟨s1, h4⟩, o4⟩
          have HDF4 := Lib.hid h4
          have HB4 := Lib.hid (keep_below HB3.out HD.out o4)
          clear h4 o4
          go_wp2_with fail
          refine (dunsynced_none D _ (by exact cell_of_row w4 D 2 _ _ _ HDF4.out.d.box) (by exact cell_of_row w4 D 5 _ _ _ HDF4.out.d.box)).mono ?_
          rintro e w5 ⟨rfl, n5, hw5⟩
          have h5 : DF w5 D B v0 s0 (.map none) v1 s1 (.map none) x.z0 x.z0 [] x.z1 x.z1 [] := by rw [hw5]; exact HDF4.out.only (S := fun _ => False) ⟨rfl, rfl, rfl, Nat.le_refl _, fun _ _ _ => rfl⟩ (fun _ => id)
          have HDF5 := Lib.hid h5
          have HB5 := Lib.hid (show Below w.heap.size w w5 by rw [hw5]; exact ⟨HB4.out.os, HB4.out.tape, HB4.out.output, HB4.out.size, HB4.out.block⟩)
          clear hw5
          obtain ⟨a0, c0, hv0⟩ := size_of h5.d.f0
          obtain ⟨a1, c1, hv1⟩ := size_of h5.d.f1
          subst hv0 hv1
          have d0 : w5.cell? ⟨D, 0, none⟩ = some (.slice a0 x.z0.length c0) := cell_of_row w5 D 0 _ _ _ h5.d.box
          have d9 : w5.cell? ⟨D, 9, none⟩ = some (.bool false) := cell_of_row w5 D 9 _ _ _ h5.d.box
          have hzb : (x.z0.length : Int) ≤ 30000 := by have := HZl.out; omega
          have hzb1 : (x.z1.length : Int) ≤ 30000 := by have := HZl.out; omega
          have HT0 := Lib.hid (show x.z0.take x.z0.length = x.z0 from List.take_of_length_le (Nat.le_refl _))
          have HT1 := Lib.hid (show x.z1.take x.z1.length = x.z1 from List.take_of_length_le (Nat.le_refl _))
          have HD0 := Lib.hid d0
          have HD9 := Lib.hid d9
          clear h5 d0 d9
          go_wp2_with fail
          refine (size0 D _ _ _ _ (by exact HD0.out)).mono ?_
          rintro e w6 ⟨rfl, hw⟩
          subst hw
          go_wp2_with fail
          refine (dread_n _ D 0 a0 c0 x.z0.length x.z0 (.inl ⟨rfl, by exact HD0.out⟩) (by exact HD9.out) (by exact HDF5.out.d.f0.own) HDF5.out.d.f0.rg (by have := HZl.out; omega) (Nat.le_refl _)).mono ?_
          rintro e w7 ⟨g1, l1, q1, rfl, hi1, hn1, hlo1, hnew1, hlq1, hb7⟩
          have HNew1 := Lib.hid hnew1
          have HLq1 := Lib.hid hlq1
          rw [HT0.out] at hi1
          obtain rfl : l1 = x.z0.length := hi1.1.symm
          have HI1 := Lib.hid hi1
          have HN1 := Lib.hid hn1
          have HL1 := Lib.hid hlo1
          have HDF7 := Lib.hid (HDF5.out.below hb7)
          have HB7 := Lib.hid (bt HB5.out hb7)
          have HS67 := Lib.hid hb7.size
          clear hi1 hn1 hlo1 hb7 hnew1 hlq1
          go_wp2_with fail
          refine (size1 D _ _ _ _ (by exact cell_of_row w7 D 3 _ _ _ HDF7.out.d.box)).mono ?_
          rintro e w8 ⟨rfl, hw⟩
          subst hw
          go_wp2_with fail
          refine (dread_n _ D 1 a1 c1 x.z1.length x.z1 (.inr ⟨rfl, by exact cell_of_row w8 D 3 _ _ _ HDF7.out.d.box⟩) (by exact cell_of_row w8 D 9 _ _ _ HDF7.out.d.box) (by exact HDF7.out.d.f1.own) HDF7.out.d.f1.rg (by have := HZl.out; omega) (Nat.le_refl _)).mono ?_
          rintro e w9 ⟨g2, l2, q2, rfl, hi2, hn2, hlo2, hnew2, hlq2, hb9⟩
          have hs78 : w6.heap.size ≤ w8.heap.size := HS67.out
          have HNew := Lib.hid (show (∀ a, g1 = some a → w6.heap.size ≤ a.block) ∧ (∀ a, g2 = some a → w6.heap.size ≤ a.block) from ⟨HNew1.out, fun a ha => Nat.le_trans hs78 (hnew2 a ha)⟩)
          rw [HT1.out] at hi2
          obtain rfl : l2 = x.z1.length := hi2.1.symm
          have hcv := x_run w9
          have HbA := Lib.hid (show Below w9.heap.size w9 (w9.alloc (.cells #[.int .u8 120] 5 (1, 2))) from bel0 _ (Below.refl _ _))
          have HI1 := Lib.hid ((HI1.out.below hb9 HL1.out).below HbA.out (fun a h1 h2 => Nat.lt_of_lt_of_le (HL1.out a h1 h2) hb9.size))
          have HI2 := Lib.hid (hi2.below HbA.out hlo2)
          have HN2 := Lib.hid hn2
          have HLo := Lib.hid (And.intro (fun a (h1 : x.z0.length ≠ 0) h2 => Nat.lt_of_lt_of_le (Nat.lt_of_lt_of_le (HL1.out a h1 h2) hb9.size) HbA.out.size) (fun a (h1 : x.z1.length ≠ 0) h2 => Nat.lt_of_lt_of_le (hlo2 a h1 h2) HbA.out.size))
          have HDFA := Lib.hid ((HDF7.out.below hb9).below HbA.out)
          have HBA := Lib.hid (bt (bt HB7.out hb9) HbA.out)
          have HSz6 := Lib.hid (show w6.heap.size ≤ w9.heap.size from Nat.le_trans hs78 hb9.size)
          have HIx := Lib.hid (isB_one (w9.alloc (.cells #[.int .u8 120] 5 (1, 2))) w9.heap.size 1 120 (by omega) ((World.cell?_alloc_mark w9 _ _ _ 0).trans rfl))
          have HFar := Lib.hid (show ¬ ofFile D (.slice a0 x.z0.length c0) (.map none) w9.heap.size from fun hS => by
            have h9 := HDF7.out.below hb9
            rcases hS with e | e | e
            · have := (Array.getElem?_eq_some_iff.1 h9.d.box).1; omega
            · obtain ⟨_, cur, hc⟩ := own_at h9.d.f0.own e
              have := (Array.getElem?_eq_some_iff.1 hc).1; omega
            · cases e)
          clear hi2 hn2 hlo2 hb9 hnew2 hlq2 hs78
          generalize w9.alloc (.cells #[.int .u8 120] 5 (1, 2)) = wA at *
          go_wp2_with fail
          refine (dwrite0_any _ D B _ s0 (.map none) _ s1 (.map none) 1073741824 x.z0 [] x.z1 [] x.z0.length (some ⟨w9.heap.size, 0, none⟩) 1 1 [120] (by exact HDFA.out.d) (Nat.le_refl _) (by have := HZl.out; omega) (by have := HZl.out; omega) (by simp) (by omega) (by omega) (by exact HIx.out) (fun h => by cases h) (Nat.le_refl _) (by omega) (fun a _ h => by cases h; exact HFar.out)).mono ?_
          rintro e wB ⟨rfl, hp⟩
          obtain ⟨v0', m0', hdf2, hon2, hv2, hm2⟩ := HDFA.out.wrote0 ((show SecK [] from fun k hk => by cases hk).app (secs_secK (by have := HZl.out; omega))) hp
          have HDFB := Lib.hid hdf2
          have HBB := Lib.hid (only_below0 HDFA.out.d.f0 HBA.out HD.out HDFA.out.d.lt hon2)
          have hnot : ∀ g : Option Addr, (∀ a, g = some a → w6.heap.size ≤ a.block) → ∀ a, g = some a → ¬ ofFile D (.slice a0 x.z0.length c0) (.map none) a.block := fun g hg a ha hS => by
            have h1 := hg a ha
            have h5 := HDF5.out
            rcases hS with e | e | e
            · have := (Array.getElem?_eq_some_iff.1 h5.d.box).1; omega
            · obtain ⟨_, cur, hc⟩ := own_at h5.d.f0.own e
              have := (Array.getElem?_eq_some_iff.1 hc).1; omega
            · cases e
          have HIB := Lib.hid (show IsB wB g1 x.z0.length x.z0 ∧ IsB wB g2 x.z1.length x.z1 from ⟨isB_only HI1.out hon2 HLo.out.1 (fun a _ => hnot g1 HNew.out.1 a), isB_only HI2.out hon2 HLo.out.2 (fun a _ => hnot g2 HNew.out.2 a)⟩)
          have HLB := Lib.hid (And.intro (fun a (h1 : x.z0.length ≠ 0) h2 => Nat.lt_of_lt_of_le (HLo.out.1 a h1 h2) hon2.size) (fun a (h1 : x.z1.length ≠ 0) h2 => Nat.lt_of_lt_of_le (HLo.out.2 a h1 h2) hon2.size))
          have HNot := Lib.hid (show (∀ a, x.z0.length ≠ 0 → g1 = some a → ¬ ofTwo D v0' m0' (.slice a1 x.z1.length c1) (.map none) a.block) ∧ (∀ a, x.z1.length ≠ 0 → g2 = some a → ¬ ofTwo D v0' m0' (.slice a1 x.z1.length c1) (.map none) a.block) from by
            have key : ∀ (g : Option Addr) (n : Nat), (∀ a, g = some a → w6.heap.size ≤ a.block) → (∀ a, n ≠ 0 → g = some a → a.block < wA.heap.size) → ∀ a, n ≠ 0 → g = some a → ¬ ofTwo D v0' m0' (.slice a1 x.z1.length c1) (.map none) a.block := fun g n hg hl a hn ha hS => by
              have h1 := hg a ha
              have h2 := hl a hn ha
              have h5 := HDF5.out
              rcases hS with hS | hS
              · rcases hS with e | e | e
                · have := (Array.getElem?_eq_some_iff.1 h5.d.box).1; omega
                · rcases hv2 with hv2 | ⟨K, hK, hle⟩
                  · rw [hv2] at e
                    obtain ⟨_, cur, hc⟩ := own_at h5.d.f0.own e
                    have := (Array.getElem?_eq_some_iff.1 hc).1; omega
                  · rw [hK] at e
                    have := Option.some.inj e
                    omega
                · rcases hm2 with hm2 | ⟨K, hK, hle⟩
                  · rw [hm2] at e; cases e
                  · rw [hK] at e
                    have : K = a.block := by cases e; rfl
                    omega
              · rcases hS with e | e | e
                · have := (Array.getElem?_eq_some_iff.1 h5.d.box).1; omega
                · obtain ⟨_, cur, hc⟩ := own_at h5.d.f1.own e
                  have := (Array.getElem?_eq_some_iff.1 hc).1; omega
                · cases e
            exact ⟨key g1 _ HNew.out.1 HLo.out.1, key g2 _ HNew.out.2 HLo.out.2⟩)
          clear hp hdf2 hon2 hv2 hm2 hnot hcv
          have HWl := Lib.hid (show (wrB x.z0 [120] x.z0.length).length = x.z0.length + 1 by
            rw [wrB_length (Nat.le_refl _)]
            exact Nat.max_eq_right (by simp))
          go_wp2_with fail
          refine (dcrash_any w _ D B v0' s0 m0' _ s1 (.map none) (wrB x.z0 [120] x.z0.length) x.z0 ([] ++ secs x.z0.length 1) x.z1 x.z1 [] ka kl kc kz (by exact HDFB.out) HK.out (by exact HBB.out) HD.out (by have := HWl.out; omega) (Nat.le_refl _) (by have := HWl.out; have := HZl.out; omega) (by have := HZl.out; omega) (by have := secs_length x.z0.length 1; simp; omega) (by simp) HKl.out).mono ?_
          rintro e wC ⟨rfl, tk, ⟨v0c, s0c, v1c, s1c, xs, xs1, hx0, hx1, hdfc⟩, hbc, hoc⟩
          have hx1 : xs1 = [] := by
            rcases hx1 with ⟨_, h⟩ | ⟨⟨M, h⟩, _⟩
            · exact h
            · cases h
          subst hx1
          rw [kept_all] at hdfc
          obtain ⟨hkl0, hkt⟩ := kept_bytes (kz := kz) (SrtOf.secs HDFB.out.d.f0 HDFB.out.k0 hx0)
          have hkb : (leftOf kz x.z0 (wrB x.z0 [120] x.z0.length) 0 xs).length ≤ x.z0.length + 1 := by
            unfold leftOf
            have h1 := (foldC_len kz x.z0 (wrB x.z0 [120] x.z0.length) 0 xs).1
            have h2 := HWl.out
            rw [List.length_take]
            omega
          generalize hcz : leftOf kz x.z0 (wrB x.z0 [120] x.z0.length) 0 xs = cz at *
          have HDFC := Lib.hid hdfc
          have HLC := Lib.hid (And.intro (fun a (h1 : x.z0.length ≠ 0) h2 => Nat.lt_of_lt_of_le (HLB.out.1 a h1 h2) hoc.size) (fun a (h1 : x.z1.length ≠ 0) h2 => Nat.lt_of_lt_of_le (HLB.out.2 a h1 h2) hoc.size))
          have HBC := Lib.hid hbc
          have HKt := Lib.hid (And.intro hkl0 (And.intro hkt hkb))
          have HIC := Lib.hid (show IsB wC g1 x.z0.length x.z0 ∧ IsB wC g2 x.z1.length x.z1 from ⟨isB_only HIB.out.1 hoc HLB.out.1 HNot.out.1, isB_only HIB.out.2 hoc HLB.out.2 HNot.out.2⟩)
          clear hcz hdfc hbc hoc hkl0 hkt hkb hx0
          obtain ⟨b0, q0, hv0⟩ := size_of HDFC.out.d.f0
          obtain ⟨b1, q1c, hv1⟩ := size_of HDFC.out.d.f1
          subst hv0 hv1
          have HZ := Lib.hid (show (x.z0.length : Int) - (x.z0.length : Int) % 64 = ((x.z0.length - x.z0.length % 64 : Nat) : Int) by omega)
          go_wp2_with fail
          rw [HZ.out]
          refine (dread_n wC D 0 b0 q0 (x.z0.length - x.z0.length % 64) cz (.inl ⟨rfl, by exact cell_of_row wC D 0 _ _ _ HDFC.out.d.box⟩) (by exact cell_of_row wC D 9 _ _ _ HDFC.out.d.box) (by exact HDFC.out.d.f0.own) HDFC.out.d.f0.rg (by have := HKt.out.2.2; have := HZl.out; omega) (by have := HKt.out.1; omega)).mono ?_
          rintro e w10 ⟨g3, l3, q3, rfl, hi3, hn3, hlo3, _, hlq3, hb10⟩
          rw [HKt.out.2.1] at hi3
          have HI3 := Lib.hid hi3
          have HN3 := Lib.hid hn3
          have HLo3 := Lib.hid hlo3
          have HB10 := Lib.hid (bt HBC.out hb10)
          have HIC2 := Lib.hid (show IsB w10 g1 x.z0.length x.z0 ∧ IsB w10 g2 x.z1.length x.z1 from ⟨HIC.out.1.below hb10 HLC.out.1, HIC.out.2.below hb10 HLC.out.2⟩)
          have HLD := Lib.hid (And.intro (fun a (h1 : x.z0.length ≠ 0) h2 => Nat.lt_of_lt_of_le (HLC.out.1 a h1 h2) hb10.size) (fun a (h1 : x.z1.length ≠ 0) h2 => Nat.lt_of_lt_of_le (HLC.out.2 a h1 h2) hb10.size))
          have HDF10 := Lib.hid (HDFC.out.below hb10)
          clear hi3 hn3 hlo3 hlq3 hb10
          go_wp2_with fail
          refine (size1 D _ _ _ _ (by exact cell_of_row w10 D 3 _ _ _ HDF10.out.d.box)).mono ?_
          rintro e w11 ⟨rfl, hw⟩
          subst hw
          go_wp2_with fail
          refine (dread_n _ D 1 b1 q1c x.z1.length x.z1 (.inr ⟨rfl, by exact cell_of_row w11 D 3 _ _ _ HDF10.out.d.box⟩) (by exact cell_of_row w11 D 9 _ _ _ HDF10.out.d.box) (by exact HDF10.out.d.f1.own) HDF10.out.d.f1.rg (by have := HZl.out; omega) (Nat.le_refl _)).mono ?_
          rintro e w12 ⟨g4, l4, q4, rfl, hi4, hn4, hlo4, _, hlq4, hb12⟩
          rw [HT1.out] at hi4
          have hi3 := HI3.out.below hb12 HLo3.out
          have hi1 := HIC2.out.1.below hb12 HLD.out.1
          have hi2 := HIC2.out.2.below hb12 HLD.out.2
          have d0 : w12.cell? ⟨D, 0, none⟩ = some (.slice b0 cz.length q0) := cell_of_row w12 D 0 _ _ _ (HDF10.out.below hb12).d.box
          have HB12 := Lib.hid (show ∀ n, Below w.heap.size w (w12.drewN n) from fun n => below_drewN (bt HB10.out hb12) n)
          obtain ⟨N, hN⟩ : ∃ N, N = x.z0.length - x.z0.length % 64 := ⟨_, rfl⟩
          have hZ := HZ.out
          rw [← hN] at hi3 hZ
          have hN1 : N ≤ x.z0.length := by omega
          have s3 : ∀ n, (convert 26 9 (.slice g3 l3 q3)).run Try.prog (w12.drewN n) = .ok (.string (strOfNums (x.z0.take N))) (w12.drewN n) := fun n => str_any hi3 HN3.out
          have s4 : ∀ n, (convert 26 9 (.slice g4 l4 q4)).run Try.prog (w12.drewN n) = .ok (.string (strOfNums x.z1)) (w12.drewN n) := fun n => str_any hi4 hn4
          have s2 : ∀ n, (convert 26 9 (.slice g2 x.z1.length q2)).run Try.prog (w12.drewN n) = .ok (.string (strOfNums x.z1)) (w12.drewN n) := fun n => str_any hi2 HN2.out
          have s1 : ∀ n, (convert 26 9 (.slice g1 N q1)).run Try.prog (w12.drewN n) = .ok (.string (strOfNums (x.z0.take N))) (w12.drewN n) := fun n => str_any (isB_take hi1 hN1) (fun h => ⟨by have := (HN1.out h).1; omega, (HN1.out h).2⟩)
          have hlq : x.z0.length ≤ q1 := HLq1.out
          have c1 : ∀ W, (Instr.slice 26 (.slice g1 x.z0.length q1) none (some (.int .i64 (N : Int))) none).run Try.prog W = .ok (.slice g1 N q1) W := fun W => slice_h g1 x.z0.length q1 N (by omega) .i64 W
          have t1 : ((strOfNums (x.z0.take N)).toList == (strOfNums (x.z0.take N)).toList) = true := beq_self_eq_true _
          have t2 : ((strOfNums x.z1).toList == (strOfNums x.z1).toList) = true := beq_self_eq_true _
          have hge : (x.z0.length : Int) ≤ (cz.length : Int) := by have := HKt.out.1; omega
          have k0 := fun n => Calls.quiet_of_same (size0 D b0 cz.length q0 (w12.drewN n) d0)
          have e3 : IntKind.i64.wrap ((x.z0.length : Int) - (x.z0.length : Int) % 64) = (N : Int) := by rw [IntKind.wrap_i64]; omega
          have e4 : (x.z0.length : Int) - (x.z0.length : Int) % 64 = (N : Int) := by omega
          clear hi3 hi4 hi1 hi2 hn4 hlo4 hlq4 hb12 hN HIC2 HLD HDF10 HLo3 HI3 HN3 HN1 HN2 HIC HLC HKt HBC HDFC HB10 HLB HIB HNot HBB HDFB HWl HFar HIx HSz6 HBA HDFA HLo HI1 HI2 HNew HbA HS67 HDF7 HB7 HLq1 HNew1 HL1 hZ
          have hg2 : decide ((x.z0.length : Int) ≤ (cz.length : Int)) = true := decide_eq_true hge
          have e1 : Int.tmod (x.z0.length : Int) 64 = (x.z0.length : Int) % 64 := Int.tmod_eq_emod_of_nonneg (by omega)
          have e2 : IntKind.i64.wrap ((x.z0.length : Int) % 64) = (x.z0.length : Int) % 64 := by rw [IntKind.wrap_i64]; omega
          go_wp2_with fail
          go_quiet ((go_at_call 25; exact k0 _))
          go_wp2
          go_ret
          exact ⟨rfl, HB12.out _⟩
end Go.Proofs.Ytbcjhngpcodaoaa
