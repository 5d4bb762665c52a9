/- Contracts of node's Find and the document's Find: every node, every key. -/
import Derived.Test.YtmackldddhfmjaaCmp
import Derived.Deep.RegionHeld3
namespace Go.Proofs.Ytmackldddhfmjaa
open Go.RowKit
set_option linter.unusedVariables false
set_option maxRecDepth 100000

/-- a slice of slices of bytes -/
def IsBs (w : World) (a : Option Addr) (len : Nat) (ks : List (List Int)) : Prop :=
  ks.length = len ∧ len ≤ 9223372036854775807 ∧ (len = 0 ∨ ∃ b off, a = some ⟨b, off, none⟩ ∧ b < w.heap.size ∧
    ∀ i, i < len → ∃ (ai : Option Addr) (li ci : Nat), w.cell? ⟨b, off + i, none⟩ = some (.slice ai li ci) ∧ IsB w ai li (ks.getD i []) ∧ (ai = none → li = 0 ∧ ci = 0) ∧ (∀ x, li ≠ 0 → ai = some x → x.block < w.heap.size))
theorem IsBs.below {w w' : World} {a : Option Addr} {len : Nat} {ks : List (List Int)} (h : IsBs w a len ks) (hb : Below w.heap.size w w') : IsBs w' a len ks := by
  obtain ⟨h1, h2, h3⟩ := h
  refine ⟨h1, h2, ?_⟩
  rcases h3 with h3 | ⟨b, off, rfl, hlt, hc⟩
  · exact .inl h3
  · refine .inr ⟨b, off, rfl, Nat.lt_of_lt_of_le hlt hb.size, fun i hi => ?_⟩
    obtain ⟨ai, li, ci, c1, c2, c3, c4⟩ := hc i hi
    exact ⟨ai, li, ci, (hb.cell (p := ⟨b, off + i, none⟩) hlt).trans c1, c2.below hb c4, c3, fun x hx hy => Nat.lt_of_lt_of_le (c4 x hx hy) hb.size⟩

/-- how many of the keys are below that one -/
def belowK (ks : List (List Int)) (key : List Int) : Nat := ks.countP fun k => lessI k key
/-- is the next one it? -/
def hitK (ks : List (List Int)) (key : List Int) : Bool := decide (belowK ks key < ks.length) && decide (ks.getD (belowK ks key) [] = key)
theorem belowK_take {ks : List (List Int)} {i : Nat} (h : i < ks.length) (key : List Int) : belowK (ks.take (i + 1)) key = belowK (ks.take i) key + (if lessI (ks.getD i []) key = true then 1 else 0) := by
  unfold belowK
  rw [List.take_succ_eq_append_getElem h, List.countP_append, List.getD_eq_getElem?_getD, List.getElem?_eq_getElem h]
  simp [List.countP_cons]
theorem belowK_le (ks : List (List Int)) (key : List Int) : belowK ks key ≤ ks.length := List.countP_le_length

set_option maxHeartbeats 1600000 in
theorem find_any (lf : Bool) (ka : Option Addr) (kl kc : Nat) (va ia : Option Addr) (vl vc il ic : Nat) (ks : List (List Int)) (a : Option Addr) (len cap : Nat) (key : List Int) (w : World)
    (hK : IsBs w ka kl ks) (hI : IsB w a len key) (hn : a = none → len = 0 ∧ cap = 0) (ha : ∀ x, len ≠ 0 → a = some x → x.block < w.heap.size) :
    Calls Try.prog 14 #[.agg #[.bool lf, .slice ka kl kc, .slice va vl vc, .slice ia il ic], .slice a len cap] w fun e w' => e = .returned (.tuple #[.int .i64 (belowK ks key : Int), .bool (hitK ks key)]) ∧ Below w.heap.size w w' := by
  have HK := Lib.hid hK
  have HI := Lib.hid hI
  have HN := Lib.hid hn
  have HA := Lib.hid ha
  have hkl := hK.2.1
  have HL := Lib.hid hK.1
  clear hK hI hn ha
  go_enter Try.func14, Try.ntmps14
  go_wp2
  obtain ⟨W0, hW0⟩ : ∃ W0, W0 = w.alloc (.cells #[.bool lf, .slice ka kl kc, .slice va vl vc, .slice ia il ic] 31) := ⟨_, rfl⟩
  have q1 : W0.cell? ⟨w.heap.size, 1, none⟩ = some (.slice ka kl kc) := by rw [hW0]; simp [go_sem]
  have hb0 : Below w.heap.size w W0 := by rw [hW0]; exact bel0 _ (Below.refl _ _)
  have HB0 := Lib.hid hb0
  have HK0 := Lib.hid (HK.out.below hb0)
  have HI0 := Lib.hid (HI.out.below hb0 HA.out)
  rw [← hW0]
  clear hW0 hb0
  go_loop [6, 12] (fun n i => ∃ (k : Nat), k ≤ kl ∧ i = .int .i64 (k : Int) ∧ n = .int .i64 (belowK (ks.take k) key : Int)) (fun _ i => kl - (intOf i).toNat)
  case atStart => exact ⟨0, by omega, rfl, rfl⟩
  case round =>
    obtain ⟨k, hk, rfl, rfl⟩ := hrel
    by_cases hlt : k < kl
    · obtain ⟨_, _, hc⟩ := HK0.out
      rcases hc with hc | ⟨b, off, rfl, _, hc⟩
      · omega
      obtain ⟨ai, li, ci, c1, c2, c3, c4⟩ := hc k hlt
      have HC2 := Lib.hid c2
      have HC3 := Lib.hid c3
      have HE := Lib.hid (belowK_take (by rw [HL.out]; exact hlt) key)
      have hle := belowK_le (ks.take k) key
      have hle2 : belowK (ks.take k) key ≤ k := by rw [List.length_take] at hle; omega
      have hki : (k : Int) < (kl : Int) := by omega
      have hk0 : (0 : Int) ≤ (k : Int) := by omega
      clear hc c2 c3 c4 hle
      generalize belowK (ks.take k) key = m at *
      go_wp2_with fail
      refine (compare_any ai a li ci len cap (ks.getD k []) key _ HC2.out HC3.out HI0.out HN.out).mono ?_
      rintro e w1 ⟨⟨r, rfl, hr⟩, hw1⟩
      subst hw1
      by_cases hr0 : r < 0
      · have HE2 := Lib.hid (show belowK (ks.take (k + 1)) key = m + 1 by rw [HE.out, ← hr, decide_eq_true hr0]; rfl)
        clear hr HE
        go_wp2
        go_round
        case rel => exact ⟨k + 1, by omega, by go_num, by rw [HE2.out]; go_num⟩
        case measure => simp [intOf]; omega
      · have HE2 := Lib.hid (show belowK (ks.take (k + 1)) key = m by rw [HE.out, ← hr, decide_eq_false hr0]; rfl)
        clear hr HE
        have hr1 : 0 ≤ r := by omega
        go_wp2
        go_round
        case rel => exact ⟨k + 1, by omega, by go_num, by rw [HE2.out]⟩
        case measure => simp [intOf]; omega
    · have ht : ks.take k = ks := List.take_of_length_le (by rw [HL.out]; omega)
      rw [ht]
      have hle := belowK_le ks key
      have hle2 : belowK ks key ≤ kl := by rw [HL.out] at hle; exact hle
      have hkk : (kl : Int) ≤ (k : Int) := by omega
      clear ht hle
      by_cases hm : belowK ks key < kl
      · obtain ⟨_, _, hc⟩ := HK0.out
        rcases hc with hc | ⟨b, off, rfl, _, hc⟩
        · omega
        obtain ⟨ai, li, ci, c1, c2, c3, c4⟩ := hc _ hm
        have HC2 := Lib.hid c2
        have HC3 := Lib.hid c3
        have HH := Lib.hid (show decide (ks.getD (belowK ks key) [] = key) = hitK ks key by
          unfold hitK; rw [show decide (belowK ks key < ks.length) = true from decide_eq_true (by rw [HL.out]; exact hm)]; rfl)
        have hki : ((belowK ks key : Nat) : Int) < (kl : Int) := by omega
        have hk0 : (0 : Int) ≤ ((belowK ks key : Nat) : Int) := by omega
        clear hc c2 c3 c4
        generalize ks.getD (belowK ks key) [] = kk at *
        generalize hq : hitK ks key = hh at *
        generalize hp : belowK ks key = m at *
        have HP := Lib.hid hp
        have HQ := Lib.hid hq
        clear hp hq
        go_wp2_with fail
        refine (equal_any ai a li ci len cap kk key _ HC2.out HC3.out HI0.out HN.out).mono ?_
        rintro e w1 ⟨rfl, hw1⟩
        subst hw1
        rw [HH.out]
        go_wp2
        go_ret2
        exact ⟨by rw [HP.out, HQ.out]; rfl, HB0.out⟩
      · have HH := Lib.hid (show hitK ks key = false by
          unfold hitK; rw [show decide (belowK ks key < ks.length) = false from decide_eq_false (by rw [HL.out]; exact hm)]; rfl)
        have hki : (kl : Int) ≤ ((belowK ks key : Nat) : Int) := by omega
        generalize hp : belowK ks key = m at *
        have HP := Lib.hid hp
        clear hp
        go_wp2
        go_ret2
        exact ⟨by rw [HP.out, HH.out]; rfl, HB0.out⟩
end Go.Proofs.Ytmackldddhfmjaa
