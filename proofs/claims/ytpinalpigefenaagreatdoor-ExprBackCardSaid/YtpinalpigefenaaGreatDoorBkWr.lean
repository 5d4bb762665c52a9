/- expr.write: its arms. -/
import Derived.Test.YtpinalpigefenaaGreatDoorBkSt
set_option linter.unusedVariables false
set_option linter.unusedSimpArgs false
set_option maxRecDepth 100000
namespace Go.Proofs.YtpinalpigefenaaGreatDoor
open Go.RowKit
theorem bapp2 (a b : ByteArray) : (a ++ b).data.toList = a.data.toList ++ b.data.toList := by rw [ByteArray.data_append, Array.toList_append]
/-- a literal's token -/
def litT (k n : Int) (s : ByteArray) : Tok := if k = 1 then some (2, dgt n, n) else if k = 2 then some (3, s.data.toList, 0) else some (1, [78, 85, 76, 76], 0)
theorem tokb (a : ByteArray) (l : Bs) (h : a.data.toList = l) : a = ⟨l.toArray⟩ := by subst h; rfl
set_option maxHeartbeats 3200000 in
theorem litx_any (k n : Int) (s : ByteArray) (w : World) (hf : (k = 0 ∧ n = 0 ∧ s = ⟨#[]⟩) ∨ (k = 1 ∧ 0 ≤ n ∧ s = ⟨#[]⟩) ∨ (k = 2 ∧ n = 0 ∧ s.size ≤ 100)) (hn : n ≤ 9223372036854775807) (B : Nat) (hv : VB B w) (hB : B ≤ w.heap.size) :
    Calls Tryz.prog 86 #[.agg #[.int .i64 k, .int .i64 n, .string s]] w fun e w' => e = .returned (.string ⟨(tokT (litT k n s)).toArray⟩) ∧ Below w.heap.size w w' := by
  have HB := Lib.hid (bel0 (.cells #[.int .i64 k, .int .i64 n, .string s] 23) (Below.refl w.heap.size w))
  have HX := Lib.hid (Go.heap_alloc_new w (.cells #[.int .i64 k, .int .i64 n, .string s] 23 (0, 0)))
  have HV := Lib.hid (hv.below (HB.out.mono hB))
  clear hv
  go_enter Tryz.func86, Tryz.ntmps86
  go_upto_region 1 with (fail)
  generalize w.alloc (.cells #[.int .i64 k, .int .i64 n, .string s] 23) = w1 at *
  have c0 : w1.cell? ⟨w.heap.size, 0, none⟩ = some (.int .i64 k) := cell_of_row _ _ 0 _ _ _ HX.out
  have c1 : w1.cell? ⟨w.heap.size, 1, none⟩ = some (.int .i64 n) := cell_of_row _ _ 1 _ _ _ HX.out
  have c2 : w1.cell? ⟨w.heap.size, 2, none⟩ = some (.string s) := cell_of_row _ _ 2 _ _ _ HX.out
  have cN := (Array.getElem?_eq_some_iff.1 HX.out).1
  rcases hf with ⟨rfl, rfl, rfl⟩ | ⟨rfl, h0, rfl⟩ | ⟨rfl, rfl, h0⟩
  · go_wp2
    go_ret
    exact ⟨rfl, HB.out⟩
  · have HF := Lib.hid ((Tryz.strconv_FormatInt_10 n (by omega) hn w1 HV.out.p).mono (R' := fun e w' => e = .returned (.string ⟨(tokT (litT 1 n ⟨#[]⟩)).toArray⟩) ∧ Below w1.heap.size w1 w') (by
      rintro e w' ⟨rfl, k, os, rfl⟩
      refine ⟨?_, ⟨rfl, rfl, rfl, by show w1.heap.size ≤ (w1.heap ++ os).size; rw [Array.size_append]; omega, fun j hj => by show (w1.heap ++ os)[j]? = w1.heap[j]?; exact Array.getElem?_append_left hj⟩⟩
      have : Lib.itoa n = tokT (litT 1 n ⟨#[]⟩) := by
        unfold Lib.itoa
        rw [if_neg (by omega)]
        rfl
      rw [this]))
    go_wp2_with fail
    refine HF.out.mono ?_
    rintro e w2 ⟨rfl, hb⟩
    have HB2 := Lib.hid (bt HB.out hb)
    clear hb
    go_wp2
    go_ret
    exact ⟨rfl, HB2.out⟩
  · obtain ⟨⟨m, hm⟩, -⟩ := HV.out.v
    have hc := Lib.countB_le ⟨#[39]⟩ (by decide) s.size s (Nat.le_refl _)
    have HR := Lib.hid (Tryz.strings_ReplaceAll s ⟨#[39]⟩ ⟨#[39, 39]⟩ m w1 (by omega) hm (by decide) (by
      have e : (⟨#[39, 39]⟩ : ByteArray).size = 2 := rfl
      rw [e]
      omega))
    have hrep : Lib.replaceAll s.data.toList (⟨#[39]⟩ : ByteArray).data.toList (⟨#[39, 39]⟩ : ByteArray).data.toList = dbl s.data.toList := rep_dbl _
    rw [hrep] at HR
    have hdl := dbl_most s.data.toList
    have hsl : s.data.toList.length = s.size := by rw [Array.length_toList]; rfl
    obtain ⟨U, hU⟩ : ∃ U : ByteArray, U = ⟨(dbl s.data.toList).toArray⟩ := ⟨_, rfl⟩
    have hUs : U.size = (dbl s.data.toList).length := by rw [hU]; simp [ByteArray.size]
    rw [← hU] at HR
    have HFin := Lib.hid (show (⟨#[39]⟩ ++ U ++ ⟨#[39]⟩ : ByteArray) = ⟨(tokT (litT 2 0 s)).toArray⟩ from tokb _ _ (by rw [bapp2, bapp2, hU]; rfl))
    have hU2 : U.size ≤ 200 := by omega
    have h1 : ¬ (9223372036854775807 < 1 + U.size) := by omega
    have h2 : ¬ (9223372036854775807 < 1 + U.size + 1) := by omega
    have h3 : ¬ (9223372036854775807 < (⟨#[39]⟩ : ByteArray).size + U.size) := by rw [show (⟨#[39]⟩ : ByteArray).size = 1 from rfl]; omega
    clear hm hc hrep hdl hsl hU hUs
    go_wp2_with fail
    refine HR.out.mono ?_
    rintro e w2 ⟨rfl, hb⟩
    have HB2 := Lib.hid (bt HB.out hb)
    clear hb
    go_wp2
    go_ret
    rw [← HFin.out]
    exact ⟨rfl, HB2.out⟩
/-- how strong an expression is -/
theorem binlev_any (t : ByteArray) (W : World) : Calls Tryz.prog 168 #[.string t] W fun e w' => e = .returned (.int .i64 (levB t.data.toList)) ∧ w' = W := by
  have h := binaryLevel_any t.data.toList W
  rwa [show bs t.data.toList = t from bs_back t] at h
set_option maxHeartbeats 3200000 in
theorem elevel_any (e : ET) (w : World) (sa : Option Addr) (sc : Nat) :
    Calls Tryz.prog 88 #[.agg #[.int .i64 e.kind, .string e.op, .int .i64 e.vk, .int .i64 e.vn, .string e.vs, .string e.tab, .string e.col, .slice sa e.parts.length sc]] w fun e' w' => e' = .returned (.int .i64 (lvlE e)) ∧ Below w.heap.size w w' := by
  obtain ⟨k, hk⟩ : ∃ k, k = e.kind := ⟨_, rfl⟩
  obtain ⟨op, hop⟩ : ∃ op, op = e.op := ⟨_, rfl⟩
  have HL := Lib.hid (show lvlE e = (if k = 3 then (if op.toList = [78, 79, 84] then 3 else 7) else if k = 4 then levB op.data.toList else if k = 5 then 4 else 8) by
    unfold lvlE
    rw [hk, hop]
    split
    · by_cases h : e.op = bs [78, 79, 84]
      · rw [if_pos h, if_pos (by rw [h, bs_list])]
      · rw [if_neg h, if_neg (fun h2 => h (by rw [ByteArray.toList_eq] at h2; rw [← bs_back e.op, h2]))]
    · rfl)
  rw [← hk, ← hop]
  have HB := Lib.hid (bel0 (.cells #[.int .i64 k, .string op, .int .i64 e.vk, .int .i64 e.vn, .string e.vs, .string e.tab, .string e.col, .slice sa e.parts.length sc] 34) (Below.refl w.heap.size w))
  have HX := Lib.hid (Go.heap_alloc_new w (.cells #[.int .i64 k, .string op, .int .i64 e.vk, .int .i64 e.vn, .string e.vs, .string e.tab, .string e.col, .slice sa e.parts.length sc] 34 (0, 0)))
  have HBL := Lib.hid (binlev_any op)
  clear hk hop
  go_enter Tryz.func88, Tryz.ntmps88
  go_upto_region 1 with (fail)
  generalize w.alloc (.cells #[.int .i64 k, .string op, .int .i64 e.vk, .int .i64 e.vn, .string e.vs, .string e.tab, .string e.col, .slice sa e.parts.length sc] 34) = w1 at *
  obtain ⟨c0, c1, -, -, -, -, -, -, -, cN⟩ := row8 HX.out
  by_cases k3 : k = 3
  · subst k3
    by_cases ho : op.toList = [78, 79, 84]
    · have ht : (op.toList == [78, 79, 84]) = true := by simp [ho]
      go_wp2
      go_ret
      rw [HL.out]
      exact ⟨by simp [ho], HB.out⟩
    · have ht : (op.toList == [78, 79, 84]) = false := by simp [ho]
      go_wp2
      go_ret
      rw [HL.out]
      exact ⟨by simp [ho], HB.out⟩
  by_cases k4 : k = 4
  · subst k4
    go_wp2_with fail
    refine (HBL.out w1).mono ?_
    rintro e' w2 ⟨rfl, rfl⟩
    go_wp2
    go_ret
    rw [HL.out]
    exact ⟨by simp, HB.out⟩
  by_cases k5 : k = 5
  · subst k5
    go_wp2
    go_ret
    rw [HL.out]
    exact ⟨by simp, HB.out⟩
  · go_wp2
    go_ret
    rw [HL.out]
    exact ⟨by simp [k3, k4, k5], HB.out⟩
theorem leftLev_any (l : Int) (w : World) : Calls Tryz.prog 90 #[.int .i64 l] w fun e w' => e = .returned (.int .i64 (leftL l)) ∧ w' = w := by
  go_enter Tryz.func90, Tryz.ntmps90
  by_cases h : l = 4
  · subst h
    go_wp2
    go_ret
    exact ⟨rfl, rfl⟩
  · have HL := Lib.hid (show leftL l = l by unfold leftL; rw [if_neg h])
    go_wp2
    go_ret
    rw [HL.out]
    exact ⟨rfl, rfl⟩
end Go.Proofs.YtpinalpigefenaaGreatDoor
set_option linter.unusedVariables false
set_option linter.unusedSimpArgs false
set_option maxRecDepth 100000
namespace Go.Proofs.YtpinalpigefenaaGreatDoor
open Go.RowKit
/-- write of an expression -/
def WrOk (n : Nat) (e : ET) : Prop := ∀ (B b : Nat) (l : Bs) (w : World) (v : Value), VB B w → EB B w v e → Bd B b l w → l.length + (prT n e).length ≤ 1000000 →
  Calls Tryz.prog 38 #[.pointer (some ⟨b, 0, none⟩), v] w (WrP B b (l ++ prT n e) w)
/-- writePart -/
def paT (n : Nat) (e : ET) (least : Int) : Bs := textK (parK (decide (least ≤ lvlE e)) (pK n e))
def PaOk (n : Nat) (e : ET) : Prop := ∀ (least : Int) (B b : Nat) (l : Bs) (w : World) (v : Value), VB B w → EB B w v e → Bd B b l w → l.length + (paT n e least).length ≤ 1000000 →
  Calls Tryz.prog 89 #[.pointer (some ⟨b, 0, none⟩), v, .int .i64 least] w (WrP B b (l ++ paT n e least) w)
set_option maxHeartbeats 3200000 in
theorem part_any {n : Nat} {e : ET} (hW : WrOk n e) : PaOk n e := by
  intro least B b l w v hv he hd hl
  obtain ⟨sa, sc, rfl, hrg, hel⟩ := he
  have HE := Lib.hid (show ∀ W, Below B w W → EB B W (.agg #[.int .i64 e.kind, .string e.op, .int .i64 e.vk, .int .i64 e.vn, .string e.vs, .string e.tab, .string e.col, .slice sa e.parts.length sc]) e from fun W hW => ⟨sa, sc, rfl, hrg, hel.lowB hW⟩)
  have e0 : (etX e sa sc).toArray = #[.int .i64 e.kind, .string e.op, .int .i64 e.vk, .int .i64 e.vn, .string e.vs, .string e.tab, .string e.col, .slice sa e.parts.length sc] := rfl
  rw [e0]
  have HB := Lib.hid (bel0 (.cells #[.int .i64 e.kind, .string e.op, .int .i64 e.vk, .int .i64 e.vn, .string e.vs, .string e.tab, .string e.col, .slice sa e.parts.length sc] 34) (Below.refl w.heap.size w))
  have HX := Lib.hid (Go.heap_alloc_new w (.cells #[.int .i64 e.kind, .string e.op, .int .i64 e.vk, .int .i64 e.vn, .string e.vs, .string e.tab, .string e.col, .slice sa e.parts.length sc] 34 (0, 0)))
  have HD := Lib.hid hd
  have HBb := Lib.hid hd.2
  have HV := Lib.hid hv
  have HLv := Lib.hid (fun W => elevel_any e W sa sc)
  have HLn := Lib.hid hl
  have HW := Lib.hid hW
  obtain ⟨le, hle⟩ : ∃ le, le = lvlE e := ⟨_, rfl⟩
  rw [← hle] at HLv
  have HPa := Lib.hid (show paT n e least = if least ≤ le then prT n e else 40 :: (prT n e ++ [41]) by
    rw [hle]
    unfold paT parK prT
    by_cases h : least ≤ lvlE e
    · rw [decide_eq_true h, if_pos rfl, if_pos h]
    · rw [decide_eq_false h, if_neg (by simp), if_neg h, textK_cons, textK_app]
      rfl)
  clear hrg hel e0 hd hv hl hW hle
  go_enter Tryz.func89, Tryz.ntmps89
  go_upto_region 1 with (fail)
  generalize w.alloc (.cells #[.int .i64 e.kind, .string e.op, .int .i64 e.vk, .int .i64 e.vn, .string e.vs, .string e.tab, .string e.col, .slice sa e.parts.length sc] 34) = w1 at *
  have HC := Lib.hid (show ∀ W : World, Below w1.heap.size w1 W → W.heap[w.heap.size]? = some (.cells #[.int .i64 e.kind, .string e.op, .int .i64 e.vk, .int .i64 e.vn, .string e.vs, .string e.tab, .string e.col, .slice sa e.parts.length sc] 34 (0, 0)) from fun W h => (h.block _ (Array.getElem?_eq_some_iff.1 HX.out).1).trans HX.out)
  obtain ⟨c0, c1, c2, c3, c4, c5, c6, c7, -, cN⟩ := row8 HX.out
  go_wp2_with fail
  refine (HLv.out w1).mono ?_
  rintro e' w2 ⟨rfl, hb2⟩
  have HB2 := Lib.hid (show Below w1.heap.size w1 w2 from hb2)
  have HBw2 := Lib.hid (bt HB.out hb2)
  have HD2 := Lib.hid (HD.out.below HBw2.out)
  have HBB2 := Lib.hid (show Below B w w2 from HBw2.out.mono HBb.out)
  clear hb2 c0 c1 c2 c3 c4 c5 c6 c7 cN
  obtain ⟨c0, c1, c2, c3, c4, c5, c6, c7, -, cN⟩ := row8 (HC.out w2 HB2.out)
  by_cases h : least ≤ le
  · have hd1 : decide (le ≥ least) = true := decide_eq_true h
    have hd2 : decide (least ≤ le) = true := decide_eq_true h
    have HQ := Lib.hid (show paT n e least = prT n e by rw [HPa.out, if_pos h])
    have HCa := Lib.hid (HW.out B b l w2 _ (HV.out.below HBB2.out) (HE.out w2 HBB2.out) HD2.out (by have := HLn.out; rw [HQ.out] at this; exact this))
    go_wp2_with fail
    refine HCa.out.mono ?_
    rintro e' w3 ⟨rfl, hd3, hb3, hk3⟩
    have HD3 := Lib.hid hd3
    have HB3 := Lib.hid (HBB2.out.trans hb3)
    have HK3 := Lib.hid ((Kep.of_below (b := b) HBw2.out).trans hk3)
    clear hd3 hb3 hk3
    go_wp2
    refine bodyPost_ret (results_none rfl _ _ _) rfl ?_
    rw [HQ.out]
    exact ⟨rfl, HD3.out, HB3.out, HK3.out⟩
  · have hd1 : decide (le ≥ least) = false := decide_eq_false h
    have hd2 : decide (least ≤ le) = false := decide_eq_false h
    have HQ := Lib.hid (show paT n e least = 40 :: (prT n e ++ [41]) by rw [HPa.out, if_neg h])
    have HLn2 := Lib.hid (show l.length + (prT n e).length + 2 ≤ 1000000 by
      have := HLn.out
      rw [HQ.out] at this
      simp only [List.length_cons, List.length_append, List.length_nil] at this
      omega)
    have HS1 := Lib.hid (wstr_any B b l ⟨#[40]⟩ w2 HD2.out (by have := HLn2.out; show _ + 1 ≤ _; omega))
    have HNb := Lib.hid (show w.heap.size ≠ b by have := HD.out.lt; omega)
    have HK2 := Lib.hid (Kep.of_below (b := b) HBw2.out)
    go_wp2_with fail
    refine HS1.out.mono ?_
    rintro e' w3 ⟨rfl, hd3, hb3, hk3⟩
    have HD3 := Lib.hid hd3
    have HBB3 := Lib.hid (HBB2.out.trans hb3)
    have HK3 := Lib.hid (HK2.out.trans hk3)
    have HC3 := Lib.hid (box_kept hk3 (HC.out w2 HB2.out) HNb.out)
    clear hd3 hb3 hk3 c0 c1 c2 c3 c4 c5 c6 c7 cN
    obtain ⟨c0, c1, c2, c3, c4, c5, c6, c7, -, cN⟩ := row8 HC3.out
    have HCa := Lib.hid (HW.out B b (l ++ [40]) w3 _ (HV.out.below HBB3.out) (HE.out w3 HBB3.out) HD3.out (by have := HLn2.out; simp only [List.length_append, List.length_cons, List.length_nil]; omega))
    go_wp2_with fail
    refine HCa.out.mono ?_
    rintro e' w4 ⟨rfl, hd4, hb4, hk4⟩
    have HD4 := Lib.hid hd4
    have HBB4 := Lib.hid (HBB3.out.trans hb4)
    have HK4 := Lib.hid (HK3.out.trans hk4)
    have HS2 := Lib.hid (wstr_any B b (l ++ [40] ++ prT n e) ⟨#[41]⟩ w4 HD4.out (by have := HLn2.out; simp only [List.length_append, List.length_cons, List.length_nil]; show _ + 1 ≤ _; omega))
    clear hd4 hb4 hk4 c0 c1 c2 c3 c4 c5 c6 c7 cN
    go_wp2_with fail
    refine HS2.out.mono ?_
    rintro e' w5 ⟨rfl, hd5, hb5, hk5⟩
    have HD5 := Lib.hid hd5
    have HBB5 := Lib.hid (HBB4.out.trans hb5)
    have HK5 := Lib.hid (HK4.out.trans hk5)
    clear hd5 hb5 hk5
    go_wp2
    refine bodyPost_ret (results_none rfl _ _ _) rfl ?_
    rw [HQ.out]
    exact ⟨rfl, HD5.out.eq (by simp), HBB5.out, HK5.out⟩
end Go.Proofs.YtpinalpigefenaaGreatDoor
