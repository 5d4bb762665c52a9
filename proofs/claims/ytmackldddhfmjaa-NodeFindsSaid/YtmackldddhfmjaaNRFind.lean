/- Contract of the document's Find: every node, every key. -/
import Derived.Test.YtmackldddhfmjaaNFew
namespace Go.Proofs.Ytmackldddhfmjaa
open Go.RowKit
set_option linter.unusedVariables false
set_option maxRecDepth 100000

set_option maxHeartbeats 1600000 in
theorem rfind_any (lf : Bool) (ka : Option Addr) (kl kc : Nat) (va ia : Option Addr) (vl vc il ic : Nat) (ks : List (List Int)) (a : Option Addr) (len cap : Nat) (key : List Int) (w : World)
    (hK : IsBs w ka kl ks) (hI : IsB w a len key) (hn : a = none → len = 0 ∧ cap = 0) (ha : ∀ x, len ≠ 0 → a = some x → x.block < w.heap.size) :
    Calls Try.prog 15 #[.agg #[.bool lf, .slice ka kl kc, .slice va vl vc, .slice ia il ic], .slice a len cap] w fun e w' => e = .returned (.tuple #[.int .i64 (belowK ks key : Int), .bool (hitK ks key)]) ∧ Below w.heap.size w w' := by
  have hkl := hK.2.1
  have HL := Lib.hid hK.1
  obtain ⟨W0, hW0⟩ : ∃ W0, W0 = w.alloc (.cells #[.bool lf, .slice ka kl kc, .slice va vl vc, .slice ia il ic] 25) := ⟨_, rfl⟩
  have q1 : W0.cell? ⟨w.heap.size, 1, none⟩ = some (.slice ka kl kc) := by rw [hW0]; simp [go_sem]
  have hb0 : Below w.heap.size w W0 := by rw [hW0]; exact bel0 _ (Below.refl _ _)
  have hs0 : W0.heap.size = w.heap.size + 1 := by rw [hW0]; simp
  have Q1 := Lib.hid (show ∀ W, Below W0.heap.size W0 W → W.cell? ⟨w.heap.size, 1, none⟩ = some (.slice ka kl kc) from fun W hW => (hW.cell (p := ⟨w.heap.size, 1, none⟩) (by show w.heap.size < _; omega)).trans q1)
  have HB0 := Lib.hid hb0
  have HK0 := Lib.hid (hK.below hb0)
  have HI0 := Lib.hid (show ∀ W, Below W0.heap.size W0 W → (convert 26 9 (.slice a len cap)).run Try.prog W = .ok (.string (strOfNums key)) W from fun W hW => str_any ((hI.below hb0 ha).below hW (fun x hx hy => Nat.lt_of_lt_of_le (ha x hx hy) hb0.size)) hn)
  have HR := Lib.hid hI.mem
  clear hK hI hn ha
  go_enter Try.func15, Try.ntmps15
  go_wp2
  rw [← hW0]
  clear hW0 hb0
  go_loopw [6, 11] (fun n i wr => ∃ (k : Nat), k ≤ kl ∧ i = .int .i64 (k : Int) ∧ n = .int .i64 (belowK (ks.take k) key : Int) ∧ Below W0.heap.size W0 wr) (fun _ i _ => kl - (intOf i).toNat)
  case atStart => exact ⟨0, by omega, rfl, rfl, Below.refl _ _⟩
  case round =>
    obtain ⟨k, hk, rfl, rfl, hb⟩ := hrel
    have HB := Lib.hid hb
    clear hb
    by_cases hlt : k < kl
    · obtain ⟨_, _, hc⟩ := HK0.out
      rcases hc with hc | ⟨b, off, rfl, hbl, hc⟩
      · omega
      obtain ⟨ai, li, ci, c1, c2, c3, c4⟩ := hc k hlt
      have hle := belowK_le (ks.take k) key
      have hle2 : belowK (ks.take k) key ≤ k := by rw [List.length_take] at hle; omega
      have hki : (k : Int) < (kl : Int) := by omega
      have hk0 : (0 : Int) ≤ (k : Int) := by omega
      have p1 : ∀ n, (wr.drewN n).cell? ⟨w.heap.size, 1, none⟩ = some (.slice (some ⟨b, off, none⟩) kl kc) := fun n => Q1.out _ (below_drewN HB.out n)
      have p2 : ∀ n, (wr.drewN n).cell? ⟨b, off + k, none⟩ = some (.slice ai li ci) := fun n => ((below_drewN HB.out n).cell (p := ⟨b, off + k, none⟩) hbl).trans c1
      have p3 : ∀ n, (convert 26 9 (.slice ai li ci)).run Try.prog (wr.drewN n) = .ok (.string (strOfNums (ks.getD k []))) (wr.drewN n) := fun n => str_any (c2.below (below_drewN HB.out n) c4) c3
      have p4 : ∀ n, (convert 26 9 (.slice a len cap)).run Try.prog (wr.drewN n) = .ok (.string (strOfNums key)) (wr.drewN n) := fun n => HI0.out _ (below_drewN HB.out n)
      have hl := less_str (ks.getD k []) key c2.mem HR.out
      have HE := Lib.hid (belowK_take (by rw [HL.out]; exact hlt) key)
      clear hc c1 c2 c3 c4 hle
      generalize belowK (ks.take k) key = m at *
      generalize strOfNums (ks.getD k []) = S at *
      generalize strOfNums key = T at *
      cases hq : lessI (ks.getD k []) key with
      | true =>
        have HE2 := Lib.hid (show belowK (ks.take (k + 1)) key = m + 1 by rw [HE.out, hq]; rfl)
        rw [hq] at hl
        clear hq HE
        go_wp2
        go_quiet (fail)
        go_wp2
        go_roundw
        case rel => exact ⟨k + 1, by omega, by go_num, by rw [HE2.out]; go_num, below_drewN HB.out _⟩
        case measure => simp [intOf]; omega
      | false =>
        have HE2 := Lib.hid (show belowK (ks.take (k + 1)) key = m by rw [HE.out, hq]; rfl)
        rw [hq] at hl
        clear hq HE
        go_wp2
        go_quiet (fail)
        go_wp2
        go_roundw
        case rel => exact ⟨k + 1, by omega, by go_num, by rw [HE2.out], below_drewN HB.out _⟩
        case measure => simp [intOf]; omega
    · have ht : ks.take k = ks := List.take_of_length_le (by rw [HL.out]; omega)
      rw [ht]
      have hle := belowK_le ks key
      have hle2 : belowK ks key ≤ kl := by rw [HL.out] at hle; exact hle
      have hkk : (kl : Int) ≤ (k : Int) := by omega
      clear ht hle
      have p1 : ∀ n, (wr.drewN n).cell? ⟨w.heap.size, 1, none⟩ = some (.slice ka kl kc) := fun n => Q1.out _ (below_drewN HB.out n)
      have HBB := Lib.hid (show ∀ n, Below w.heap.size w (wr.drewN n) from fun n => bt HB0.out (below_drewN HB.out n))
      by_cases hm : belowK ks key < kl
      · obtain ⟨_, _, hc⟩ := HK0.out
        rcases hc with hc | ⟨b, off, rfl, hbl, hc⟩
        · omega
        obtain ⟨ai, li, ci, c1, c2, c3, c4⟩ := hc _ hm
        have hki : ((belowK ks key : Nat) : Int) < (kl : Int) := by omega
        have hk0 : (0 : Int) ≤ ((belowK ks key : Nat) : Int) := by omega
        have hdd : decide (((belowK ks key : Nat) : Int) < (kl : Int)) = true := decide_eq_true hki
        have p2 : ∀ n, (wr.drewN n).cell? ⟨b, off + belowK ks key, none⟩ = some (.slice ai li ci) := fun n => ((below_drewN HB.out n).cell (p := ⟨b, off + belowK ks key, none⟩) hbl).trans c1
        have p3 : ∀ n, (convert 26 9 (.slice ai li ci)).run Try.prog (wr.drewN n) = .ok (.string (strOfNums (ks.getD (belowK ks key) []))) (wr.drewN n) := fun n => str_any (c2.below (below_drewN HB.out n) c4) c3
        have p4 : ∀ n, (convert 26 9 (.slice a len cap)).run Try.prog (wr.drewN n) = .ok (.string (strOfNums key)) (wr.drewN n) := fun n => HI0.out _ (below_drewN HB.out n)
        have he := eq_str (ks.getD (belowK ks key) []) key c2.mem HR.out
        rw [show decide (ks.getD (belowK ks key) [] = key) = hitK ks key by
          unfold hitK; rw [show decide (belowK ks key < ks.length) = true from decide_eq_true (by rw [HL.out]; exact hm)]; rfl] at he
        clear hc c1 c2 c3 c4
        generalize strOfNums (ks.getD (belowK ks key) []) = S at *
        generalize strOfNums key = T at *
        generalize hq : hitK ks key = hh at *
        generalize hp : belowK ks key = m at *
        have HP := Lib.hid hp
        have HQ := Lib.hid hq
        clear hp hq
        go_wp2
        go_quiet (fail)
        go_wp2
        go_ret2
        exact ⟨by rw [HP.out, HQ.out]; rfl, HBB.out _⟩
      · have HH := Lib.hid (show hitK ks key = false by
          unfold hitK; rw [show decide (belowK ks key < ks.length) = false from decide_eq_false (by rw [HL.out]; exact hm)]; rfl)
        have hki : (kl : Int) ≤ ((belowK ks key : Nat) : Int) := by omega
        have hdd : decide (((belowK ks key : Nat) : Int) < (kl : Int)) = false := decide_eq_false (by omega)
        generalize hp : belowK ks key = m at *
        have HP := Lib.hid hp
        clear hp
        go_wp2
        go_quiet (fail)
        go_wp2
        go_ret2
        exact ⟨by rw [HP.out, HH.out]; rfl, HBB.out _⟩
end Go.Proofs.Ytmackldddhfmjaa
