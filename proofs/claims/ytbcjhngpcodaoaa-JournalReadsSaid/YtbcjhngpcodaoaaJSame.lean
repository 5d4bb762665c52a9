/- Contracts of Ints, Lists and same: what was found alike. -/
import Derived.Test.YtbcjhngpcodaoaaJGot
import Derived.Deep.QuietTactic
import Derived.BigQuiet
namespace Go.Proofs.Ytbcjhngpcodaoaa
open Go.RowKit
set_option linter.unusedVariables false
set_option maxRecDepth 100000

theorem drB {w : World} {n : Nat} : Below w.heap.size w (w.drewN n) := ⟨rfl, rfl, rfl, Nat.le_refl _, fun _ _ => rfl⟩
/-- a row of the call's own, cell by cell -/
def Cells1 (w : World) (a : Option Addr) (len : Nat) (xs : List Value) : Prop := len ≤ 9223372036854775807 ∧ xs.length = len ∧ (len = 0 ∨ ∃ b, a = some ⟨b, 0, none⟩ ∧ ∀ i, i < len → w.cell? ⟨b, i, none⟩ = some (xs.getD i undef))
theorem own_cells1 {w : World} {B n : Nat} {e : TypeId} {v : Value} {xs : List Value} (h : w.ownsRow B e 1 v n xs) : ∃ a c, v = .slice a n c ∧ Cells1 w a n xs := by
  have hl := h.1
  rcases h.2 with ⟨rfl, rfl⟩ | ⟨g, cap, cur, rfl, hB, hg, h1, h2, h3, h4⟩
  · exact ⟨none, 0, rfl, by omega, by simpa using hl, .inl rfl⟩
  · unfold maxLen at h2
    refine ⟨_, cap, rfl, by omega, by simpa using hl, .inr ⟨g, rfl, fun i hi => ?_⟩⟩
    rw [h.cellAt i (by omega), List.getD_eq_getElem?_getD, List.getElem?_eq_getElem (by omega)]
    rfl
theorem Cells1.drewN {w : World} {a : Option Addr} {len : Nat} {xs : List Value} (h : Cells1 w a len xs) (n : Nat) : Cells1 (w.drewN n) a len xs := h

set_option maxHeartbeats 1600000 in
theorem ints_same (ns : List Int) (a b : Option Addr) (len ca cb : Nat) (w : World) (h1 : Cells1 w a len (ns.map (Value.int .i64))) (h2 : Cells1 w b len (ns.map (Value.int .i64))) :
    Calls Try.prog 72 #[.slice a len ca, .slice b len cb] w fun e w' => e = .returned (.bool true) ∧ ∃ n, w' = w.drewN n := by
  have hm := h1.1
  have H1 := Lib.hid h1
  have H2 := Lib.hid h2
  clear h1 h2
  go_enter Try.func72, Try.ntmps72
  go_wp2
  go_loopw [13] (fun i wr => ∃ k : Nat, k ≤ len ∧ i = .int .i64 (k : Int) ∧ Hid (∃ n, wr = w.drewN n)) (fun i _ => len - (intOf i).toNat)
  case atStart => exact ⟨0, by omega, rfl, Lib.hid ⟨0, rfl⟩⟩
  case round =>
    obtain ⟨k, hk, rfl, HW⟩ := hrel
    by_cases hlt : k < len
    · have hki : (k : Int) < (len : Int) := by omega
      have hk0 : (0 : Int) ≤ (k : Int) := by omega
      obtain ⟨nw, hw⟩ := HW.out
      rcases H1.out.2.2 with h0 | ⟨b1, rfl, c1⟩
      · omega
      rcases H2.out.2.2 with h0 | ⟨b2, rfl, c2⟩
      · omega
      have e : ∀ i, i < len → (ns.map (Value.int .i64)).getD i undef = .int .i64 (ns.getD i 0) := fun i hi => by
        have hl := H1.out.2.1
        rw [List.length_map] at hl
        rw [List.getD_eq_getElem?_getD, List.getElem?_map, List.getElem?_eq_getElem (by omega), List.getD_eq_getElem?_getD, List.getElem?_eq_getElem (by omega)]
        rfl
      have d1 := c1 k hlt
      have d2 := c2 k hlt
      rw [e k hlt] at d1 d2
      have HWW := Lib.hid hw
      have D1 := fun n => (show ((w.drewN nw).drewN n).cell? ⟨b1, k, none⟩ = some (.int .i64 (ns.getD k 0)) from d1)
      have D2 := fun n => (show ((w.drewN nw).drewN n).cell? ⟨b2, k, none⟩ = some (.int .i64 (ns.getD k 0)) from d2)
      rw [← hw] at D1 D2
      have E1 := D1 0
      have E2 := D2 0
      clear c1 c2 e d1 d2 hw hk
      generalize ns.getD k 0 = x at *
      have F1 : wr.cell? ⟨b1, k, none⟩ = some (.int .i64 x) := E1
      have F2 : wr.cell? ⟨b2, k, none⟩ = some (.int .i64 x) := E2
      clear E1 E2 D1 D2
      have HLt := Lib.hid hlt
      clear hlt
      go_wp2
      go_quiet (fail)
      go_wp2
      go_roundw
      case rel => exact ⟨k + 1, HLt.out, by go_num, Lib.hid ⟨nw + nq, by rw [HWW.out, World.drewN_drewN]⟩⟩
      case measure => have := HLt.out; simp [intOf]; omega
    · obtain rfl : k = len := by omega
      go_wp2
      go_ret
      exact ⟨rfl, HW.out⟩

set_option maxHeartbeats 1600000 in
theorem lists_same (ds : List (List Int)) (xs ys : List Value) (B B' : Nat) (a b : Option Addr) (len ca cb : Nat) (w : World) (h1 : Cells1 w a len xs) (h2 : Cells1 w b len ys) (g1 : DataRow w B xs ds) (g2 : DataRow w B' ys ds) :
    Calls Try.prog 73 #[.slice a len ca, .slice b len cb] w fun e w' => e = .returned (.bool true) ∧ ∃ n, w' = w.drewN n := by
  have hm := h1.1
  have H1 := Lib.hid h1
  have H2 := Lib.hid h2
  have G1 := Lib.hid g1
  have G2 := Lib.hid g2
  clear h1 h2 g1 g2
  go_enter Try.func73, Try.ntmps73
  go_wp2
  go_loopw [13] (fun i wr => ∃ k : Nat, k ≤ len ∧ i = .int .i64 (k : Int) ∧ Hid (∃ n, wr = w.drewN n)) (fun i _ => len - (intOf i).toNat)
  case atStart => exact ⟨0, by omega, rfl, Lib.hid ⟨0, rfl⟩⟩
  case round =>
    obtain ⟨k, hk, rfl, HW⟩ := hrel
    by_cases hlt : k < len
    · have hki : (k : Int) < (len : Int) := by omega
      have hk0 : (0 : Int) ≤ (k : Int) := by omega
      obtain ⟨nw, hw⟩ := HW.out
      rcases H1.out.2.2 with h0 | ⟨b1, rfl, c1⟩
      · omega
      rcases H2.out.2.2 with h0 | ⟨b2, rfl, c2⟩
      · omega
      have hl1 := H1.out.2.1
      have hl2 := H2.out.2.1
      have hd1 := G1.out.1
      obtain ⟨p1, q1, r1, s1, _, _⟩ := G1.out.2 k (by omega)
      obtain ⟨p2, q2, r2, s2, _, _⟩ := G2.out.2 k (by omega)
      have d1 := c1 k hlt
      have d2 := c2 k hlt
      rw [List.getD_eq_getElem?_getD, r1] at d1
      rw [List.getD_eq_getElem?_getD, r2] at d2
      have F1 : wr.cell? ⟨b1, k, none⟩ = some (.slice (some ⟨p1, 0, none⟩) 512 q1) := by rw [hw]; exact d1
      have F2 : wr.cell? ⟨b2, k, none⟩ = some (.slice (some ⟨p2, 0, none⟩) 512 q2) := by rw [hw]; exact d2
      have T1 : ∀ n, (convert 26 9 (.slice (some ⟨p1, 0, none⟩) 512 q1)).run Try.prog (wr.drewN n) = .ok (.string (strOfNums (ds.getD k []))) (wr.drewN n) := fun n => by
        rw [hw]
        exact str_any (w := (w.drewN nw).drewN n) s1 (fun h => by cases h)
      have T2 : ∀ n, (convert 26 9 (.slice (some ⟨p2, 0, none⟩) 512 q2)).run Try.prog (wr.drewN n) = .ok (.string (strOfNums (ds.getD k []))) (wr.drewN n) := fun n => by
        rw [hw]
        exact str_any (w := (w.drewN nw).drewN n) s2 (fun h => by cases h)
      have HWW := Lib.hid hw
      have HLt := Lib.hid hlt
      clear c1 c2 d1 d2 hw hk hl1 hl2 hd1 r1 r2 s1 s2 hlt
      generalize strOfNums (ds.getD k []) = X at *
      go_wp2
      go_quiet (fail)
      go_wp2
      go_roundw
      case rel => exact ⟨k + 1, HLt.out, by go_num, Lib.hid ⟨nw + nq, by rw [HWW.out, World.drewN_drewN]⟩⟩
      case measure => have := HLt.out; simp [intOf]; omega
    · obtain rfl : k = len := by omega
      go_wp2
      go_ret
      exact ⟨rfl, HW.out⟩

set_option maxHeartbeats 3200000 in
theorem same_any (B B' : Nat) (f f' : Value) (s p : Int) (ns : List Int) (ds : List (List Int)) (w : World) (h1 : FoundIs w B f s p ns ds) (h2 : FoundIs w B' f' s p ns ds) :
    Calls Try.prog 15 #[f, f'] w fun e w' => e = .returned (.bool true) ∧ Below w.heap.size w w' := by
  obtain ⟨v1, v2, xs, rfl, o1, o2, g1⟩ := h1
  obtain ⟨u1, u2, ys, rfl, q1, q2, g2⟩ := h2
  obtain ⟨a1, k1, rfl, c1⟩ := own_cells1 o1
  obtain ⟨a2, k2, rfl, c2⟩ := own_cells1 o2
  obtain ⟨b1, m1, rfl, d1⟩ := own_cells1 q1
  obtain ⟨b2, m2, rfl, d2⟩ := own_cells1 q2
  have HB : Hid (Below w.heap.size w ((w.alloc (.cells #[.int .u64 s, .int .i64 p, .slice a1 ns.length k1, .slice a2 ds.length k2] 32)).alloc (.cells #[.int .u64 s, .int .i64 p, .slice b1 ns.length m1, .slice b2 ds.length m2] 35))) := Lib.hid (bel0 _ (bel0 _ (Below.refl _ _)))
  have keep : ∀ W (a : Option Addr) n xs, Below w.heap.size w W → Cells1 w a n xs → Cells1 W a n xs := fun W a n xs hb h => by
    refine ⟨h.1, h.2.1, ?_⟩
    rcases h.2.2 with h0 | ⟨b, rfl, hc⟩
    · exact .inl h0
    · by_cases h0 : n = 0
      · exact .inl h0
      · have hlt := World.block_lt_of_cell? w _ (hc 0 (by omega))
        exact .inr ⟨b, rfl, fun i hi => (hb.cell (p := ⟨b, i, none⟩) hlt).trans (hc i hi)⟩
  have HC1 := Lib.hid (fun W hb => keep W _ _ _ hb c1)
  have HC2 := Lib.hid (fun W hb => keep W _ _ _ hb c2)
  have HD1 := Lib.hid (fun W hb => keep W _ _ _ hb d1)
  have HD2 := Lib.hid (fun W hb => keep W _ _ _ hb d2)
  have G1 := Lib.hid g1
  have G2 := Lib.hid g2
  clear keep c1 c2 d1 d2 g1 g2 o1 o2 q1 q2
  generalize hn : ns.length = ln at *
  generalize hd : ds.length = ld at *
  clear hn hd
  go_enter Try.func15, Try.ntmps15
  go_wp2_with fail
  refine (ints_same ns a1 b1 ln k1 m1 _ (HC1.out _ HB.out) (HD1.out _ HB.out)).mono ?_
  rintro e w1 ⟨rfl, n1, hw1⟩
  subst hw1
  go_wp2_with fail
  refine (lists_same ds xs ys B B' a2 b2 ld k2 m2 _ (HC2.out _ (bt HB.out drB)) (HD2.out _ (bt HB.out drB)) (G1.out.below (bt HB.out drB)) (G2.out.below (bt HB.out drB))).mono ?_
  rintro e w2 ⟨rfl, n2, hw2⟩
  subst hw2
  go_wp2
  go_ret
  exact ⟨rfl, bt HB.out drB⟩
end Go.Proofs.Ytbcjhngpcodaoaa
