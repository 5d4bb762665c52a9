/- CatalogNil: layer 20's awake, Few, the law's walk. -/
import Derived.Test.YtbcjhngpcodaoaaCat6
namespace Go.Proofs.Ytbcjhngpcodaoaa
open Go.RowKit
set_option linter.unusedVariables false
set_option maxRecDepth 100000

set_option maxHeartbeats 800000 in
theorem cnew (w : World) : Calls Try.prog 95 #[] w fun e w' => e = .returned (.pointer (some ⟨w.heap.size, 0, none⟩)) ∧ w' = w.alloc (.cells #[.slice none 0 0] 181) := by
  go_enter Try.func95, Try.ntmps95
  go_wp2
  go_ret
  exact ⟨rfl, rfl⟩

set_option maxHeartbeats 1600000 in
theorem cawake_any (w : World) : Calls Try.prog 42 #[] w fun e w' => e = .returned (.bool true) ∧ Below w.heap.size w w' := by
  go_enter Try.func42, Try.ntmps42
  go_wp2_with fail
  refine (cnew _).mono ?_
  rintro e w1 ⟨rfl, hw⟩
  have HN := Lib.hid (show NoCat w1 w.heap.size by rw [hw]; exact Go.heap_alloc_new w _)
  have HB := Lib.hid (show Below w.heap.size w w1 by rw [hw]; exact bel0 _ (Below.refl _ _))
  clear hw
  have HN2 := Lib.hid (HN.out.below (bel0 (.cells #[.string ⟨#[97]⟩, .int .i64 1, .bool false, .bool false] 176) (Below.refl _ _)))
  have HB2 := Lib.hid (bt HB.out (bel0 (.cells #[.string ⟨#[97]⟩, .int .i64 1, .bool false, .bool false] 176) (Below.refl _ _)))
  have HA2 := Lib.hid (show ColA (w1.alloc (.cells #[.string ⟨#[97]⟩, .int .i64 1, .bool false, .bool false] 176)) w1.heap.size from by
    have h := Go.heap_alloc_new w1 (.cells #[.string ⟨#[97]⟩, .int .i64 1, .bool false, .bool false] 176)
    exact ⟨cell_of_row _ _ 0 _ _ _ h, cell_of_row _ _ 1 _ _ _ h, cell_of_row _ _ 2 _ _ _ h, cell_of_row _ _ 3 _ _ _ h⟩)
  go_wp2_with fail
  refine (add_t w.heap.size w.heap.size w1.heap.size _ (Nat.le_refl _) HN2.out HA2.out (by simp)).mono ?_
  rintro e w3 ⟨rfl, ho, hb⟩
  have HO := Lib.hid ho
  have HB3 := Lib.hid (HB2.out.trans hb)
  clear ho hb
  go_wp2_with fail
  refine (all_one w.heap.size _ HO.out).mono ?_
  rintro e w4 ⟨⟨a, c, rfl⟩, hb⟩
  have HB4 := Lib.hid (HB3.out.trans (hb.mono HB3.out.size))
  clear hb
  go_wp2
  go_ret
  exact ⟨rfl, HB4.out⟩

def FewPost (w : World) (e : Ending) (w' : World) : Prop := (∃ b, e = .returned (.bool b)) ∧ Below w.heap.size w w'
set_option maxHeartbeats 3200000 in
theorem cfew_any (k r : Int) (n m x : ByteArray) (u : Bool) (a3 a4 a7 : Option Addr) (l3 k3 l4 k4 l7 k7 : Nat) (w : World) (h3 : l3 ≤ 9223372036854775807) (h4 : l4 ≤ 9223372036854775807) (h7 : l7 ≤ 9223372036854775807) :
    Calls Try.prog 43 #[.agg #[.int .i64 k, .string n, .string m, .slice a3 l3 k3, .slice a4 l4 k4, .bool u, .string x, .slice a7 l7 k7, .int .i64 r]] w (FewPost w) := by
  have HB := Lib.hid (bel0 (.cells #[Value.int .i64 k, .string n, .string m, .slice a3 l3 k3, .slice a4 l4 k4, .bool u, .string x, .slice a7 l7 k7, .int .i64 r] 86) (Below.refl w.heap.size w))
  by_cases c3 : (l3 : Int) ≤ 50
  · by_cases c4 : (l4 : Int) ≤ 50
    · by_cases c7 : (l7 : Int) ≤ 50
      · by_cases cx : (x.size : Int) ≤ 3000
        · go_enter Try.func43, Try.ntmps43
          go_wp2
          go_ret
          exact ⟨⟨_, rfl⟩, HB.out⟩
        · go_enter Try.func43, Try.ntmps43
          go_wp2
          go_ret
          exact ⟨⟨_, rfl⟩, HB.out⟩
      · go_enter Try.func43, Try.ntmps43
        go_wp2
        go_ret
        exact ⟨⟨_, rfl⟩, HB.out⟩
    · go_enter Try.func43, Try.ntmps43
      go_wp2
      go_ret
      exact ⟨⟨_, rfl⟩, HB.out⟩
  · go_enter Try.func43, Try.ntmps43
    go_wp2
    go_ret
    exact ⟨⟨_, rfl⟩, HB.out⟩

set_option maxHeartbeats 800000 in
theorem cadd_nil (k r : Int) (n m x : ByteArray) (u : Bool) (a3 a4 a7 : Option Addr) (l3 k3 l4 k4 l7 k7 : Nat) (w : World) :
    Calls Try.prog 46 #[.pointer none, .agg #[.int .i64 k, .string n, .string m, .slice a3 l3 k3, .slice a4 l4 k4, .bool u, .string x, .slice a7 l7 k7, .int .i64 r]] w fun e w' => e = .returned (.int .i64 1) ∧ Below w.heap.size w w' := by
  have HB := Lib.hid (bel0 (.cells #[Value.int .i64 k, .string n, .string m, .slice a3 l3 k3, .slice a4 l4 k4, .bool u, .string x, .slice a7 l7 k7, .int .i64 r] 89) (Below.refl w.heap.size w))
  go_enter Try.func46, Try.ntmps46
  go_wp2
  go_ret
  exact ⟨rfl, HB.out⟩

set_option maxHeartbeats 3200000 in
theorem catalogNil_walk (k r : Int) (n m x : ByteArray) (u : Bool) (a3 a4 a7 : Option Addr) (l3 k3 l4 k4 l7 k7 : Nat) (kd : Int) (nm : ByteArray) (w : World) (h3 : l3 ≤ 9223372036854775807) (h4 : l4 ≤ 9223372036854775807) (h7 : l7 ≤ 9223372036854775807) :
    Calls Try.prog 9 #[.agg #[.int .i64 k, .string n, .string m, .slice a3 l3 k3, .slice a4 l4 k4, .bool u, .string x, .slice a7 l7 k7, .int .i64 r], .int .i64 kd, .string nm] w fun e w' => e = .returned (.bool true) ∧ Below w.heap.size w w' := by
  obtain ⟨W0, hW0⟩ : ∃ W0, W0 = w.alloc (.cells #[Value.int .i64 k, .string n, .string m, .slice a3 l3 k3, .slice a4 l4 k4, .bool u, .string x, .slice a7 l7 k7, .int .i64 r] 86) := ⟨_, rfl⟩
  have hblk : W0.heap[w.heap.size]? = some (.cells #[Value.int .i64 k, .string n, .string m, .slice a3 l3 k3, .slice a4 l4 k4, .bool u, .string x, .slice a7 l7 k7, .int .i64 r] 86 (0, 0)) := by rw [hW0]; exact Go.heap_alloc_new w _
  have HQ := Lib.hid (show ∀ W, Below W0.heap.size W0 W → W.heap[w.heap.size]? = some (.cells #[Value.int .i64 k, .string n, .string m, .slice a3 l3 k3, .slice a4 l4 k4, .bool u, .string x, .slice a7 l7 k7, .int .i64 r] 86 (0, 0)) from fun W hW => (hW.block _ (Array.getElem?_eq_some_iff.1 hblk).1).trans hblk)
  have HB0 := Lib.hid (show Below w.heap.size w W0 by rw [hW0]; exact bel0 _ (Below.refl _ _))
  have HW := Lib.hid hW0
  have H3 := Lib.hid h3
  have H4 := Lib.hid h4
  have H7 := Lib.hid h7
  clear hW0 hblk h3 h4 h7
  go_enter Try.func9, Try.ntmps9
  go_wp2_with fail
  rw [← HW.out]
  refine (cawake_any _).mono ?_
  rintro e w1 ⟨rfl, hb1⟩
  have hq := HQ.out w1 hb1
  have HK1 := Lib.hid hb1
  have q0 := cell_of_row _ _ 0 _ _ _ hq
  have q1 := cell_of_row _ _ 1 _ _ _ hq
  have q2 := cell_of_row _ _ 2 _ _ _ hq
  have q3 := cell_of_row _ _ 3 _ _ _ hq
  have q4 := cell_of_row _ _ 4 _ _ _ hq
  have q5 := cell_of_row _ _ 5 _ _ _ hq
  have q6 := cell_of_row _ _ 6 _ _ _ hq
  have q7 := cell_of_row _ _ 7 _ _ _ hq
  have q8 := cell_of_row _ _ 8 _ _ _ hq
  simp only [List.getElem?_toArray, List.getElem?_cons_zero, List.getElem?_cons_succ] at q0 q1 q2 q3 q4 q5 q6 q7 q8
  clear hb1 hq
  go_wp2_with fail
  refine (cfew_any k r n m x u a3 a4 a7 l3 k3 l4 k4 l7 k7 _ H3.out H4.out H7.out).mono ?_
  rintro e w2 ⟨⟨b, rfl⟩, hb2⟩
  have HK2 := Lib.hid (bt HK1.out hb2)
  clear hb2 q0 q1 q2 q3 q4 q5 q6 q7 q8
  cases b with
  | false =>
    go_wp2_with fail
    refine (cawake_any _).mono ?_
    rintro e w3 ⟨rfl, hb3⟩
    have HB3 := Lib.hid (bt HB0.out (bt HK2.out hb3))
    clear hb3
    go_wp2
    go_ret
    exact ⟨rfl, HB3.out⟩
  | true =>
    go_wp2_with fail
    refine (find_nil nm _).mono ?_
    rintro e w3 ⟨rfl, hb3⟩
    rw [show obj0 = .agg #[.int .i64 0, .string ⟨#[]⟩, .string ⟨#[]⟩, .slice none 0 0, .slice none 0 0, .bool false, .string ⟨#[]⟩, .slice none 0 0, .int .i64 0] from rfl]
    have HK3 := Lib.hid (bt HK2.out (bt hb3 (bel0 (.cells #[.int .i64 0, .string ⟨#[]⟩, .string ⟨#[]⟩, .slice none 0 0, .slice none 0 0, .bool false, .string ⟨#[]⟩, .slice none 0 0, .int .i64 0] 89) (Below.refl _ _))))
    clear hb3
    go_wp2_with fail
    refine (drop_nil kd nm _).mono ?_
    rintro e w4 ⟨rfl, hb4⟩
    have hk4 := bt HK3.out hb4
    have hq := HQ.out w4 hk4
    have HK4 := Lib.hid hk4
    have q0 := cell_of_row _ _ 0 _ _ _ hq
    have q1 := cell_of_row _ _ 1 _ _ _ hq
    have q2 := cell_of_row _ _ 2 _ _ _ hq
    have q3 := cell_of_row _ _ 3 _ _ _ hq
    have q4 := cell_of_row _ _ 4 _ _ _ hq
    have q5 := cell_of_row _ _ 5 _ _ _ hq
    have q6 := cell_of_row _ _ 6 _ _ _ hq
    have q7 := cell_of_row _ _ 7 _ _ _ hq
    have q8 := cell_of_row _ _ 8 _ _ _ hq
    simp only [List.getElem?_toArray, List.getElem?_cons_zero, List.getElem?_cons_succ] at q0 q1 q2 q3 q4 q5 q6 q7 q8
    clear hk4 hb4 hq
    go_wp2_with fail
    refine (cadd_nil k r n m x u a3 a4 a7 l3 k3 l4 k4 l7 k7 _).mono ?_
    rintro e w5 ⟨rfl, hb5⟩
    have HK5 := Lib.hid (bt HK4.out hb5)
    clear hb5 q0 q1 q2 q3 q4 q5 q6 q7 q8
    go_wp2_with fail
    refine (all_nil _).mono ?_
    rintro e w6 ⟨rfl, hw⟩
    subst hw
    go_wp2_with fail
    refine (tables_nil _).mono ?_
    rintro e w7 ⟨rfl, hw⟩
    subst hw
    go_wp2_with fail
    refine (indexes_nil nm _).mono ?_
    rintro e w8 ⟨rfl, hb8⟩
    have HK8 := Lib.hid (bt HK5.out hb8)
    clear hb8
    go_wp2_with fail
    refine (views_nil nm _).mono ?_
    rintro e w9 ⟨rfl, hb9⟩
    have HK9 := Lib.hid (bt HB0.out (bt HK8.out hb9))
    clear hb9
    go_wp2
    go_ret
    exact ⟨rfl, HK9.out⟩
end Go.Proofs.Ytbcjhngpcodaoaa
