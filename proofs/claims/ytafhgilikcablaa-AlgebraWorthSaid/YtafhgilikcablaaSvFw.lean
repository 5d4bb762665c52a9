/- ScopeValues: Few of any tables, and what a program that does nothing answers wrongly. -/
import Derived.Test.YtafhgilikcablaaSvSq
import Derived.Test.YtafhgilikcablaaSvVa
namespace Go.Proofs.Ytafhgilikcablaa
open Go.RowKit
set_option linter.unusedVariables false
set_option linter.unusedSimpArgs false
set_option maxRecDepth 100000
def AnsB (e : Ending) : Prop := ∃ b : Bool, e = .returned (.bool b)
set_option maxHeartbeats 3200000 in
theorem few_any (w : World) (ta : Option Addr) (tn tc : Nat) (tabs : List TB) (ht : TabsAt w ta tabs) (htn : tn = tabs.length) (hle : tn ≤ 9223372036854775807) :
    Calls Try.prog 15 #[.slice ta tn tc] w fun e w' => AnsB e ∧ w' = w := by
  have HT := Lib.hid ht
  have HN := Lib.hid htn
  clear ht htn
  go_enter Try.func15, Try.ntmps15
  go_wp2
  go_loop [7] (fun i => ∃ k : Nat, k ≤ tn ∧ i = .int .i64 (k : Int)) (fun i => tn - (intOf i).toNat)
  case atStart => exact ⟨0, by omega, rfl⟩
  case round =>
    obtain ⟨k, hk, rfl⟩ := hrel
    have hk0 : (0 : Int) ≤ (k : Int) := by omega
    by_cases hlt : k < tn
    · have hki : (k : Int) < (tn : Int) := by omega
      have hkt : k < tabs.length := by rw [← HN.out]; exact hlt
      obtain ⟨b, off, ca, cc, rfl, hb, hat⟩ := HT.out.at hkt
      have HCo := Lib.hid hat.cols
      have hcl : (tabs[k]).cols.length ≤ 9223372036854775807 := hat.le
      have q2 := hat.c2
      obtain ⟨cs, hcs⟩ : ∃ cs, cs = (tabs[k]).cols := ⟨_, rfl⟩
      rw [← hcs] at q2 hcl HCo
      obtain ⟨n, hn⟩ : ∃ n, n = cs.length := ⟨_, rfl⟩
      have HNc := Lib.hid hn
      rw [← hn] at q2 hcl
      clear hat hcs hkt hn
      have HLt := Lib.hid hlt
      by_cases h50 : (50 : Int) ≤ (k : Int)
      · go_wp2
        go_ret
        exact ⟨⟨_, rfl⟩, rfl⟩
      · by_cases h30 : (30 : Int) < (n : Int)
        · go_wp2
          go_ret
          exact ⟨⟨_, rfl⟩, rfl⟩
        · go_wp2_with fail
          go_loop [27] (fun i => ∃ j : Nat, j ≤ n ∧ i = .int .i64 (j : Int)) (fun i => n - (intOf i).toNat)
          case atStart => exact ⟨0, by omega, rfl⟩
          case round =>
            obtain ⟨j, hj, rfl⟩ := hrel
            have hj0 : (0 : Int) ≤ (j : Int) := by omega
            by_cases hjl : j < n
            · have hji : (j : Int) < (n : Int) := by omega
              have hjc : j < cs.length := by rw [← HNc.out]; exact hjl
              obtain ⟨cb, co, rfl, hcb, hcat⟩ := HCo.out.at hjc
              have p1 := hcat.c1
              obtain ⟨kd, hkd⟩ : ∃ kd, kd = (cs[j]).kind := ⟨_, rfl⟩
              rw [← hkd] at p1
              have HJ := Lib.hid hjl
              clear hcat hkd hjc hjl hj
              by_cases h0 : kd < 0
              · go_wp2
                go_ret
                exact ⟨⟨_, rfl⟩, rfl⟩
              · by_cases h2 : (2 : Int) < kd
                · go_wp2
                  go_ret
                  exact ⟨⟨_, rfl⟩, rfl⟩
                · go_wp2
                  refine ⟨⟨j + 1, HJ.out, by go_num⟩, by have := HJ.out; simp [intOf]; omega⟩
            · have hjj : ¬ ((j : Int) < (n : Int)) := by omega
              go_wp2
              refine ⟨⟨k + 1, HLt.out, by go_num⟩, by have := HLt.out; simp [intOf]; omega⟩
    · have hkk : ¬ ((k : Int) < (tn : Int)) := by omega
      go_wp2
      go_ret
      exact ⟨⟨_, rfl⟩, rfl⟩
theorem tabs_t (w : World) (b : Nat) (h : w.heap[b]? = some (.cells #[.string ⟨#[116]⟩, .bool false, .slice none 0 0] 109 (0, 0))) : TabsAt w (some ⟨b, 0, none⟩) [⟨⟨#[116]⟩, false, []⟩] := by
  refine .inr ⟨b, 0, rfl, (Array.getElem?_eq_some_iff.1 h).1, fun i hi => ?_⟩
  have hi0 : i = 0 := by simpa using hi
  subst hi0
  exact ⟨none, 0, cell_of_row w _ 0 _ _ _ h, cell_of_row w _ 1 _ _ _ h, cell_of_row w _ 2 _ _ _ h, .inl rfl, Nat.zero_le _⟩
theorem cv_1 (w : World) : CV w (fun _ => True) (.agg #[.int .i64 1, .string ⟨#[]⟩, .int .i64 0, .int .i64 0, .string ⟨#[]⟩, .int .i64 0, .int .i64 0, .slice none 0 0]) (.mk 1 ⟨#[]⟩ 0 0 ⟨#[]⟩ 0 0 []) :=
  ⟨none, 0, rfl, ⟨by decide, by decide, by decide, by decide, by decide, by decide, by decide, fun _ => ⟨rfl, rfl⟩, Nat.le_refl _, by decide⟩, .nil _⟩
set_option maxHeartbeats 3200000 in
theorem awake15 (w : World) : Calls Try.prog 14 #[] w fun e w' => e = .returned (.bool true) ∧ Below w.heap.size w w' := by
  have HF := Lib.hid (fun (w1 : World) (b : Nat) (h : w1.heap[b]? = some (.cells #[.string ⟨#[116]⟩, .bool false, .slice none 0 0] 109 (0, 0))) => find_any w1 (some ⟨b, 0, none⟩) [⟨⟨#[116]⟩, false, []⟩] 1 1 rfl ⟨#[116]⟩ (tabs_t w1 b h) (by decide))
  have hp : posI (tbP ⟨#[116]⟩) [⟨⟨#[116]⟩, false, []⟩] = 0 := by decide +kernel
  have HP := Lib.hid hp
  have HS := Lib.hid (show ∀ w1 : World, Calls Try.prog 24 #[.agg #[.int .i64 1, .string ⟨#[]⟩, .int .i64 0, .int .i64 0, .string ⟨#[]⟩, .int .i64 0, .int .i64 0, .slice none 0 0], .agg #[.int .i64 1, .string ⟨#[]⟩, .int .i64 0, .int .i64 0, .string ⟨#[]⟩, .int .i64 0, .int .i64 0, .slice none 0 0]] w1 fun e w' => e = .returned (.bool true) ∧ Below w1.heap.size w1 w' from fun w1 => by
    have h := same_any 1 (.mk 1 ⟨#[]⟩ 0 0 ⟨#[]⟩ 0 0 []) (by decide) (.mk 1 ⟨#[]⟩ 0 0 ⟨#[]⟩ 0 0 []) w1 _ _ _ _ (cv_1 w1) (cv_1 w1)
    rw [sameT_refl 1 _ (by decide)] at h
    exact h)
  have HB := Lib.hid (bel0 (.cells #[.string ⟨#[116]⟩, .bool false, .slice none 0 0] 109) (Below.refl w.heap.size w))
  have HX := Lib.hid (Go.heap_alloc_new w (.cells #[.string ⟨#[116]⟩, .bool false, .slice none 0 0] 109 (0, 0)))
  clear hp
  go_enter Try.func14, Try.ntmps14
  go_wp2_with fail
  refine (HF.out _ w.heap.size HX.out).mono ?_
  rintro e w2 ⟨rfl, hb2⟩
  rw [HP.out]
  have HB2 := Lib.hid (bt HB.out hb2)
  clear hb2
  go_wp2_with fail
  refine (HS.out _).mono ?_
  rintro e w3 ⟨rfl, hb3⟩
  have HB3 := Lib.hid (bt HB2.out hb3)
  clear hb3
  go_wp2_with fail
  go_ret
  exact ⟨rfl, HB3.out⟩
end Go.Proofs.Ytafhgilikcablaa
