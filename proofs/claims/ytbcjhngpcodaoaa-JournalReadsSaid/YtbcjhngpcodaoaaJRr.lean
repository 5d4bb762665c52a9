/- Contract of the document's head: every slice of sixty-four bytes or more. -/
import Derived.Test.YtbcjhngpcodaoaaJRh
namespace Go.Proofs.Ytbcjhngpcodaoaa
open Go.RowKit
set_option linter.unusedVariables false
set_option maxRecDepth 100000

theorem or64 (n c : Int) (h0 : 0 ≤ n) (h1 : n ≤ 4294967295) (c0 : 0 ≤ c) (c1 : c ≤ 4294967295) : bits .or .u64 (n * 4294967296) c = n * 4294967296 + c := by
  obtain ⟨m, rfl⟩ := Int.eq_ofNat_of_zero_le h0
  obtain ⟨d, rfl⟩ := Int.eq_ofNat_of_zero_le c0
  rw [show (m : Int) * 4294967296 = ((2 ^ 32 * m : Nat) : Int) by omega, bits_or_u64_nj _ _ (by omega) (by omega), ← Nat.two_pow_add_eq_or_of_lt (by omega)]
  omega
/-- four bytes from place k, seen in the first sixty-four -/
theorem part_take (z : List Int) (k n : Nat) (h : k + n ≤ 64) : ((z.take 64).drop k).take n = (z.drop k).take n := by
  rw [List.drop_take, List.take_take]
  congr 1
  omega
/-- what the document's head answers -/
def RRPost (w : World) (z : List Int) (e : Ending) (w' : World) : Prop :=
  e = .returned (.tuple #[.int .u64 (hS z), .int .i64 (hP z), .int .i64 (hR z), .bool (hOk z)]) ∧ Below w.heap.size w w'

set_option maxHeartbeats 3200000 in
theorem rhead_any (a : Option Addr) (len cap : Nat) (z : List Int) (w : World) (h : IsB w a len z) (hlow : ∀ x, len ≠ 0 → a = some x → x.block < w.heap.size) (hn : a = none → len = 0 ∧ cap = 0) (hlc : len ≤ cap) (h64 : 64 ≤ len) :
    Calls Try.prog 70 #[.slice a len cap] w (RRPost w (z.take 64)) := by
  have hl := h.1
  have hz0 : ∀ x ∈ z, 0 ≤ x ∧ x ≤ 255 := h.mem
  have hy : ∀ x ∈ z.take 64, 0 ≤ x ∧ x ≤ 255 := fun x hx => hz0 x (List.mem_of_mem_take hx)
  have hyl : 64 ≤ (z.take 64).length := by simp; omega
  have bS := hS_bd hy hyl
  have bP := hP_bd hy hyl
  have bR := hR_bd hy hyl
  have HS := Lib.hid bS
  have HP := Lib.hid bP
  have HR := Lib.hid bR
  have e8 := numN_eight hyl
  rw [part_take z 8 4 (by omega), part_take z 12 4 (by omega)] at e8
  have eP : hP (z.take 64) = numN ((z.drop 16).take 4) := by unfold hP; rw [part_take z 16 4 (by omega)]
  have eR : hR (z.take 64) = numN ((z.drop 20).take 4) := by unfold hR; rw [part_take z 20 4 (by omega)]
  have n1 : 0 ≤ numN ((z.drop 8).take 4) ∧ numN ((z.drop 8).take 4) ≤ 4294967295 := by
    have := numN_bd (getD_part z hz0 8 4) 4 (by rw [part_len z 8 4 (by omega)]; exact Nat.le_refl _)
    rw [List.take_of_length_le (by rw [part_len z 8 4 (by omega)]; exact Nat.le_refl _)] at this
    exact ⟨this.1, by have := this.2; omega⟩
  have n2 : 0 ≤ numN ((z.drop 12).take 4) ∧ numN ((z.drop 12).take 4) ≤ 4294967295 := by
    have := numN_bd (getD_part z hz0 12 4) 4 (by rw [part_len z 12 4 (by omega)]; exact Nat.le_refl _)
    rw [List.take_of_length_le (by rw [part_len z 12 4 (by omega)]; exact Nat.le_refl _)] at this
    exact ⟨this.1, by have := this.2; omega⟩
  have HI := Lib.hid h
  have HLow := Lib.hid hlow
  have HN := Lib.hid hn
  have hs : ∀ k : Nat, k ≤ 20 → ∀ W, (Instr.slice 26 (.slice a len cap) (some (.int .i64 (k : Int))) none none).run Try.prog W = .ok (.slice (offA a cap k) (len - k) (cap - k)) W := fun k hk W => slice_l a len cap k (by omega) .i64 W
  have hs1 : ∀ W, (Instr.slice 26 (.slice a len cap) (some (.int .i64 8)) none none).run Try.prog W = .ok (.slice (offA a cap 8) (len - 8) (cap - 8)) W := hs 8 (by omega)
  have hs2 : ∀ W, (Instr.slice 26 (.slice a len cap) (some (.int .i64 12)) none none).run Try.prog W = .ok (.slice (offA a cap 12) (len - 12) (cap - 12)) W := hs 12 (by omega)
  have hs3 : ∀ W, (Instr.slice 26 (.slice a len cap) (some (.int .i64 16)) none none).run Try.prog W = .ok (.slice (offA a cap 16) (len - 16) (cap - 16)) W := hs 16 (by omega)
  have hs4 : ∀ W, (Instr.slice 26 (.slice a len cap) (some (.int .i64 20)) none none).run Try.prog W = .ok (.slice (offA a cap 20) (len - 20) (cap - 20)) W := hs 20 (by omega)
  have hs5 : ∀ W, (Instr.slice 26 (.slice a len cap) none (some (.int .i64 64)) none).run Try.prog W = .ok (.slice a 64 cap) W := fun W => slice_h a len cap 64 (by omega) .i64 W
  have C1 := Lib.hid (fun n => of_any (offA a cap 8) (len - 8) (cap - 8) _ (w.drewN n) (isB_off HI.out (by omega) hlc) (by omega))
  have C2 := Lib.hid (fun n => of_any (offA a cap 12) (len - 12) (cap - 12) _ (w.drewN n) (isB_off HI.out (by omega) hlc) (by omega))
  have C3 := Lib.hid (fun n => of_any (offA a cap 16) (len - 16) (cap - 16) _ (w.drewN n) (isB_off HI.out (by omega) hlc) (by omega))
  have C4 := Lib.hid (fun n => of_any (offA a cap 20) (len - 20) (cap - 20) _ (w.drewN n) (isB_off HI.out (by omega) hlc) (by omega))
  rw [← eP] at C3
  rw [← eR] at C4
  have cv1 : IntKind.u64.wrap (numN ((z.drop 8).take 4)) = numN ((z.drop 8).take 4) := by rw [IntKind.wrap_u64]; omega
  have cv2 : IntKind.u64.wrap (numN ((z.drop 12).take 4)) = numN ((z.drop 12).take 4) := by rw [IntKind.wrap_u64]; omega
  have sh1 : IntKind.u64.wrap (numN ((z.drop 8).take 4) * 4294967296) = numN ((z.drop 8).take 4) * 4294967296 := by rw [IntKind.wrap_u64]; omega
  have or1 := or64 _ _ n1.1 n1.2 n2.1 n2.2
  rw [← e8] at or1
  have cv3 := i64_small bP
  have cv4 := i64_small bR
  have HEq := Lib.hid (fun h => hOk_eq (z := z.take 64) h)
  have HOut := Lib.hid (fun h => hOk_out (z := z.take 64) h)
  have HY := Lib.hid (isB_take h h64)
  have HYr := Lib.hid hy
  have HYL := Lib.hid (show ∀ x, 64 ≠ 0 → a = some x → x.block < w.heap.size from fun x _ hx => hlow x (by omega) hx)
  have HYN := Lib.hid (show a = none → 64 = 0 ∧ cap = 0 from fun hx => by have := hn hx; omega)
  clear h hz0 hy hyl bS bP bR hlow hn hl e8 eP eR hs n1 n2 HI HLow
  generalize z.take 64 = y at *
  generalize numN ((z.drop 8).take 4) = m1 at *
  generalize numN ((z.drop 12).take 4) = m2 at *
  generalize hgS : hS y = s at *
  have HGS := Lib.hid hgS
  clear hgS
  generalize hgP : hP y = p at *
  have HGP := Lib.hid hgP
  clear hgP
  generalize hgR : hR y = r at *
  have HGR := Lib.hid hgR
  clear hgR
  generalize offA a cap 8 = a1 at *
  generalize offA a cap 12 = a2 at *
  generalize offA a cap 16 = a3 at *
  generalize offA a cap 20 = a4 at *
  go_enter Try.func70, Try.ntmps70
  go_upto_region 1 with (fail)
  go_quiet (((with_reducible go_at_call 71); first | (with_reducible exact Calls.quiet_of (C1.out _)) | (with_reducible exact Calls.quiet_of (C2.out _)) | (with_reducible exact Calls.quiet_of (C3.out _)) | (with_reducible exact Calls.quiet_of (C4.out _))))
  by_cases hin : p ≤ 10000 ∧ r ≤ 10000
  · have HE := Lib.hid (HEq.out hin)
    have HIn := Lib.hid hin
    clear hin
    go_wp2_with fail
    refine (rhead_good s p r _ HS.out.1 HS.out.2 ⟨HP.out.1, HIn.out.1⟩ ⟨HR.out.1, HIn.out.2⟩).mono ?_
    rintro e w1 ⟨v, rfl, hown, hb1⟩
    rw [headK_length] at hown
    obtain ⟨g, c, rfl⟩ := own_addr hown (by omega)
    have hb1' : Below w.heap.size w w1 := bt drewB hb1
    have HIs := Lib.hid (own_isB hown (headK_length _ _ _) (headK_range _ _ _))
    have HIb := Lib.hid (HY.out.below hb1' HYL.out)
    have HB1 := Lib.hid hb1'
    have t1 := fun n => str_any (cb := c) (w := w1.drewN n) HIs.out (by intro h; cases h)
    have t2 := fun n => str_any (cb := cap) (w := w1.drewN n) HIb.out HYN.out
    have he := eq_str (headK s p r) y (headK_range _ _ _) HYr.out
    rw [← HE.out] at he
    clear hb1 hb1' hown
    generalize strOfNums (headK s p r) = X1 at *
    generalize strOfNums y = X2 at *
    go_wp2_with fail
    go_quiet (fail)
    go_wp2
    exact bodyPost_ret (v := .tuple #[.int .u64 s, .int .i64 p, .int .i64 r, .bool (hOk y)]) (by simp [results, Try.results70, go_sem]) rfl ⟨by rw [HGS.out, HGP.out, HGR.out], bt HB1.out drewB⟩
  · have HEO := Lib.hid (HOut.out hin)
    have HIn := Lib.hid hin
    clear hin
    go_wp2_with fail
    refine (rhead_bad s p r _ (fun h => HIn.out ⟨h.1.2, h.2.2⟩)).mono ?_
    rintro e w1 ⟨rfl, hb1⟩
    have HB1 := Lib.hid (show Below w.heap.size w w1 from bt drewB hb1)
    clear hb1
    go_wp2_with fail
    go_quiet (fail)
    go_wp2
    exact bodyPost_ret (v := .tuple #[.int .u64 s, .int .i64 p, .int .i64 r, .bool (hOk y)]) (by rw [HEO.out]; simp [results, Try.results70, go_sem]) rfl ⟨by rw [HGS.out, HGP.out, HGR.out], bt HB1.out drewB⟩
end Go.Proofs.Ytbcjhngpcodaoaa
