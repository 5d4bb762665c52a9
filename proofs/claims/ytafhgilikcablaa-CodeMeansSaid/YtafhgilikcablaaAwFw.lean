/- What is found fits its kind; the law's Few of tables. (Cut out of XAwL.) -/
import Derived.Test.YtafhgilikcablaaCmC
import Derived.Test.YtafhgilikcablaaCmI
import Derived.Test.YtafhgilikcablaaVmMach
import Derived.Test.YtafhgilikcablaaAwDA
import Derived.Test.YtafhgilikcablaaAwD
import Derived.Test.YtafhgilikcablaaSvR1
import Derived.Test.YtafhgilikcablaaSvVa
namespace Go.Proofs.Ytafhgilikcablaa
open Go.RowKit
set_option linter.unusedVariables false
set_option linter.unusedSimpArgs false
set_option maxRecDepth 100000
theorem scV_dp {tabs : List TB} {srcs : List Int} {e : ET} (h0 : (scV tabs srcs e).2.2 = 0) : dpC 20 (scV tabs srcs e).1 := by
  cases ho : srcs.any (outB tabs) with
  | true => rw [scV_out ho] at h0; exact absurd h0 (by decide)
  | false =>
    cases hf : fmdB e with
    | false => rw [scV_bad hf] at h0; exact absurd h0 (by decide)
    | true =>
      rw [scV_ok ho hf] at h0 ⊢
      exact dpC_mono (resV_dp _ _ 8 e hf h0) (by omega)
def insK : Ins := ⟨oConst, 0, 0, 0, noV⟩
theorem formed_insK : formedP 1 [insK] = true := by
  refine formedP_all (by simp) (fun j hj => ?_)
  obtain rfl : j = 0 := by simpa using hj
  exact ok_const (N := 1) (Rg := 1) (i := 0) (a := 0) (by decide) formed_null
set_option maxHeartbeats 1600000 in
theorem awake17_any (w : World) : Calls Try.prog 32 #[] w fun e w' => e = .returned (.bool true) ∧ Below w.heap.size w w' := by
  have HI := Lib.hid (show IsI (w.alloc (.cells #[.string ⟨#[99, 111, 110, 115, 116]⟩, .int .i64 0, .int .i64 0, .int .i64 0, .int .i64 0, .int .i64 0, .string ⟨#[]⟩] 138)) (some ⟨w.heap.size, 0, none⟩) 1 [insK] from ⟨rfl, by omega, .inr ⟨w.heap.size, 0, rfl, by simp, fun i hi => by
    obtain rfl : i = 0 := by omega
    exact cells7_new w insK _⟩⟩)
  go_enter Try.func32, Try.ntmps32
  go_wp2_with fail
  refine (cform_any (some ⟨w.heap.size, 0, none⟩) 1 1 1 [insK] _ HI.out).mono ?_
  rintro e w1 ⟨rfl, hb1⟩
  rw [formed_insK]
  have HB := Lib.hid (bt (bel0 (.cells #[.string ⟨#[99, 111, 110, 115, 116]⟩, .int .i64 0, .int .i64 0, .int .i64 0, .int .i64 0, .int .i64 0, .string ⟨#[]⟩] 138) (Below.refl w.heap.size w)) hb1)
  clear hb1
  go_wp2
  go_ret
  exact ⟨rfl, HB.out⟩
/-- a worth and a run's answer are alike -/
def AlikeP (kd : Int) (y z : Val × Int × Int) : Prop := (y.2.2 = 1 ∧ z.2.2 = 7) ∨ (y.2.2 = z.2.2 ∧ y.2.2 ≠ 0) ∨ (y.2.2 = 0 ∧ z.2.2 = 0 ∧ kd = 3 ∧ y.2.1 = z.2.1) ∨ (y.2.2 = 0 ∧ z.2.2 = 0 ∧ kd ≠ 3 ∧ y.1 = z.1)
theorem alike_cm (R : List (List Val)) {c : CT} {k : Int} (h : Wk c k) (hs : ctSz c ≤ 300) : AlikeP k (askV R c) (runP R (regsF 0 (cmpC c 0 0)) (cmpC c 0 0)) := by
  rcases runP_cm R h hs with ⟨h0, h1, h2, h3⟩ | ⟨h0, e, he, hu, hr⟩
  · by_cases hk : k = 3
    · exact .inr (.inr (.inl ⟨h0, h1, hk, (h3 hk).symm⟩))
    · exact .inr (.inr (.inr ⟨h0, h1, hk, (h2 hk).symm⟩))
  · rw [hr]
    unfold unfE at hu
    split at hu
    · next h7 => exact .inl ⟨hu.symm, h7⟩
    · exact .inr (.inl ⟨hu.symm, h0⟩)
set_option maxHeartbeats 3200000 in
theorem alike_yes {kd : Int} {y z : Val × Int × Int} (h : AlikeP kd y z) (w : World) :
    Calls Try.prog 38 #[.int .i64 kd, .agg #[.int .i64 y.1.1, .int .i64 y.1.2.1, .string y.1.2.2], .int .i64 y.2.1, .int .i64 y.2.2, .agg #[.int .i64 z.1.1, .int .i64 z.1.2.1, .string z.1.2.2], .int .i64 z.2.1, .int .i64 z.2.2] w fun e w' => e = .returned (.bool true) ∧ Below w.heap.size w w' := by
  obtain ⟨v, t, e⟩ := y
  obtain ⟨v', t', e'⟩ := z
  dsimp only [AlikeP] at h
  have HB := Lib.hid (bel0 (.cells #[.int .i64 v'.1, .int .i64 v'.2.1, .string v'.2.2] 38) (bel0 (.cells #[.int .i64 v.1, .int .i64 v.2.1, .string v.2.2] 38) (Below.refl w.heap.size w)))
  have HBX := Lib.hid (boxes2 w (.cells #[.int .i64 v.1, .int .i64 v.2.1, .string v.2.2] 38 (0, 0)) (.cells #[.int .i64 v'.1, .int .i64 v'.2.1, .string v'.2.2] 38 (0, 0)))
  have HH := Lib.hid h
  clear h
  go_enter Try.func38, Try.ntmps38
  go_upto_region 1 with (fail)
  generalize ((w.alloc (.cells #[.int .i64 v.1, .int .i64 v.2.1, .string v.2.2] 38)).alloc (.cells #[.int .i64 v'.1, .int .i64 v'.2.1, .string v'.2.2] 38)) = w1 at *
  obtain ⟨⟨h0, h1⟩, hz⟩ := HBX.out
  obtain ⟨a0, a1, a2, -, -, -, a6⟩ := v3 h0
  obtain ⟨b0, b1, b2, -, -, -, b6⟩ := v3 h1
  clear h0 h1 hz
  rcases HH.out with ⟨rfl, rfl⟩ | ⟨rfl, hne⟩ | ⟨rfl, rfl, rfl, rfl⟩ | ⟨rfl, rfl, hk, rfl⟩
  · go_wp2
    go_ret
    exact ⟨rfl, HB.out⟩
  · have n0 : (e != 0) = true := by simp [hne]
    by_cases h1 : e = 1
    · subst h1
      go_wp2
      go_ret
      exact ⟨rfl, HB.out⟩
    · go_wp2
      go_ret
      exact ⟨rfl, HB.out⟩
  · go_wp2
    go_ret
    exact ⟨rfl, HB.out⟩
  · have k1 : (kd == 3) = false := by simp [hk]
    have k2 : (kd != 3) = true := by simp [hk]
    go_wp2
    go_ret
    exact ⟨by simp [k2], HB.out⟩
end Go.Proofs.Ytafhgilikcablaa
namespace Go.Proofs.Ytafhgilikcablaa
open Go.RowKit
set_option linter.unusedVariables false
set_option linter.unusedSimpArgs false
set_option maxRecDepth 100000
theorem scV_wk {tabs : List TB} {srcs : List Int} {e : ET} (hK : KindsOk tabs) (hr : RgE e) (h0 : (scV tabs srcs e).2.2 = 0) : Wk (scV tabs srcs e).1 (scV tabs srcs e).2.1 := by
  cases ho : srcs.any (outB tabs) with
  | true => rw [scV_out ho] at h0; exact absurd h0 (by decide)
  | false =>
    cases hf : fmdB e with
    | false => rw [scV_bad hf] at h0; exact absurd h0 (by decide)
    | true =>
      rw [scV_ok ho hf] at h0 ⊢
      refine resV_wk (FnOf tabs srcs) hK ?_ ?_ nmB (etSz e) e 8 (Nat.le_refl _) hr hf h0
      · intro s hs
        obtain ⟨x, hx, rfl⟩ := List.mem_map.1 hs
        have := out_ok (List.any_eq_false.1 ho x hx |> fun h => by simpa using h)
        show x.toNat < tabs.length
        omega
      · show (srcs.map (nmOf tabs)).length = (srcs.map Int.toNat).length
        simp
def FewA (tabs : List TB) (e : Ending) : Prop := ∃ b : Bool, e = .returned (.bool b) ∧ (b = true → KindsOk tabs)
set_option maxHeartbeats 3200000 in
theorem few2_any (w : World) (ta : Option Addr) (tn tc : Nat) (tabs : List TB) (ht : TabsAt w ta tabs) (htn : tn = tabs.length) (hle : tn ≤ 9223372036854775807) :
    Calls Try.prog 15 #[.slice ta tn tc] w fun e w' => FewA tabs e ∧ w' = w := by
  have HT := Lib.hid ht
  have HN := Lib.hid htn
  clear ht htn
  go_enter Try.func15, Try.ntmps15
  go_wp2
  go_loop [7] (fun i => ∃ k : Nat, k ≤ tn ∧ i = .int .i64 (k : Int) ∧ Hid (∀ t ∈ tabs.take k, ∀ c ∈ t.cols, 0 ≤ c.kind ∧ c.kind ≤ 2)) (fun i => tn - (intOf i).toNat)
  case atStart => exact ⟨0, by omega, rfl, Lib.hid (fun t h => by cases h)⟩
  case round =>
    obtain ⟨k, hk, rfl, HL⟩ := hrel
    have hk0 : (0 : Int) ≤ (k : Int) := by omega
    by_cases hlt : k < tn
    · have hki : (k : Int) < (tn : Int) := by omega
      have hkt : k < tabs.length := by rw [← HN.out]; exact hlt
      obtain ⟨b, off, ca, cc, rfl, hb, hat⟩ := HT.out.at hkt
      have HCo := Lib.hid hat.cols
      have hcl : (tabs[k]).cols.length ≤ 9223372036854775807 := hat.le
      have q2 := hat.c2
      obtain ⟨cs, hcs⟩ : ∃ cs, cs = (tabs[k]).cols := ⟨_, rfl⟩
      rw [← hcs] at q2 hcl HCo
      have HTk := Lib.hid (show (∀ c ∈ cs, 0 ≤ c.kind ∧ c.kind ≤ 2) → ∀ t ∈ tabs.take (k + 1), ∀ c ∈ t.cols, 0 ≤ c.kind ∧ c.kind ≤ 2 from fun h t ht => by
        rw [List.take_succ_eq_append_getElem hkt] at ht
        rcases List.mem_append.1 ht with ht | ht
        · exact HL.out t ht
        · rw [List.mem_singleton.1 ht, ← hcs]; exact h)
      obtain ⟨n, hn⟩ : ∃ n, n = cs.length := ⟨_, rfl⟩
      have HNc := Lib.hid hn
      rw [← hn] at q2 hcl
      clear hat hcs hkt hn
      have HLt := Lib.hid hlt
      by_cases h50 : (50 : Int) ≤ (k : Int)
      · go_wp2
        go_ret
        exact ⟨⟨false, rfl, fun h => by cases h⟩, rfl⟩
      · by_cases h30 : (30 : Int) < (n : Int)
        · go_wp2
          go_ret
          exact ⟨⟨false, rfl, fun h => by cases h⟩, rfl⟩
        · go_wp2_with fail
          go_loop [27] (fun i => ∃ j : Nat, j ≤ n ∧ i = .int .i64 (j : Int) ∧ Hid (∀ c ∈ cs.take j, 0 ≤ c.kind ∧ c.kind ≤ 2)) (fun i => n - (intOf i).toNat)
          case atStart => exact ⟨0, by omega, rfl, Lib.hid (fun c h => by cases h)⟩
          case round =>
            obtain ⟨j, hj, rfl, HJl⟩ := hrel
            have hj0 : (0 : Int) ≤ (j : Int) := by omega
            by_cases hjl : j < n
            · have hji : (j : Int) < (n : Int) := by omega
              have hjc : j < cs.length := by rw [← HNc.out]; exact hjl
              obtain ⟨cb, co, rfl, hcb, hcat⟩ := HCo.out.at hjc
              have p1 := hcat.c1
              have HJt := Lib.hid (show (0 ≤ (cs[j]).kind ∧ (cs[j]).kind ≤ 2) → ∀ c ∈ cs.take (j + 1), 0 ≤ c.kind ∧ c.kind ≤ 2 from fun h c hc => by
                rw [List.take_succ_eq_append_getElem hjc] at hc
                rcases List.mem_append.1 hc with hc | hc
                · exact HJl.out c hc
                · rw [List.mem_singleton.1 hc]; exact h)
              obtain ⟨kd, hkd⟩ : ∃ kd, kd = (cs[j]).kind := ⟨_, rfl⟩
              rw [← hkd] at p1 HJt
              have HJ := Lib.hid hjl
              clear hcat hkd hjc hjl hj
              by_cases h0 : kd < 0
              · go_wp2
                go_ret
                exact ⟨⟨false, rfl, fun h => by cases h⟩, rfl⟩
              · by_cases h2 : (2 : Int) < kd
                · go_wp2
                  go_ret
                  exact ⟨⟨false, rfl, fun h => by cases h⟩, rfl⟩
                · have HK := Lib.hid (HJt.out ⟨by omega, by omega⟩)
                  go_wp2
                  refine ⟨⟨j + 1, HJ.out, by go_num, HK⟩, by have := HJ.out; simp [intOf]; omega⟩
            · have hjj : ¬ ((j : Int) < (n : Int)) := by omega
              have HK := Lib.hid (HTk.out (by
                have h1 := HJl.out
                rw [List.take_of_length_le (by rw [← HNc.out]; omega)] at h1
                exact h1))
              go_wp2
              refine ⟨⟨k + 1, HLt.out, by go_num, HK⟩, by have := HLt.out; simp [intOf]; omega⟩
    · have hkk : ¬ ((k : Int) < (tn : Int)) := by omega
      have HK := Lib.hid (show KindsOk tabs by
        have h1 := HL.out
        rw [List.take_of_length_le (by rw [← HN.out]; omega)] at h1
        exact h1)
      go_wp2
      go_ret
      exact ⟨⟨true, rfl, fun _ => HK.out⟩, rfl⟩
end Go.Proofs.Ytafhgilikcablaa
