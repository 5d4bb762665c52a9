/- The lexer at the document's first text: step, Words; awake. -/
import Derived.Test.YtbcjhngpcodaoaaDoorLxEnd
namespace Go.Proofs.YtbcjhngpcodaoaaDoor
open Go.RowKit Go.Lib
set_option linter.unusedVariables false
set_option maxRecDepth 100000

theorem Went.more {w : World} {N : Nat} {v : Value} {n : Nat} {xs : List Value} {st start : Int} {e : Ending} {w' : World} (h : Went w N v n xs st start e w') : More w N n xs st start e w' := ⟨h.1, v, h.2⟩
set_option maxHeartbeats 1600000 in
theorem step_a (w : World) (N : Nat) (v : Value) (n : Nat) (xs : List Value) (h : St w N v n xs 0 0) : Calls Tryd.prog 50 #[.pointer (some ⟨N, 0, none⟩), .int .i64 0, .int .i32 97] w (More w N n xs 1 0) := by
  obtain ⟨⟨g0, _, g2, g3⟩, fz⟩ := h.facts
  have HH := Lib.hid h
  clear h
  go_enter Tryd.func50, Tryd.ntmps50
  go_wp2_with fail
  refine (goes_blank _ N v n xs 0 0 97 HH.out).mono ?_
  rintro e w1 ⟨rfl, hw⟩
  subst hw
  go_wp2_with fail
  refine (end_blank _ N v n xs HH.out).mono ?_
  rintro e w1 ⟨rfl, hs, hk⟩
  have H1 := Lib.hid (show _ ∧ _ from ⟨hs, hk⟩)
  clear hs hk
  go_wp2_with fail
  refine (begin_a w1 N v n xs H1.out.1).mono ?_
  rintro e w2 ⟨rfl, hs, hk⟩
  have H2 := Lib.hid (show _ ∧ _ from ⟨hs, H1.out.2.trans hk⟩)
  clear hs hk
  go_wp2
  go_ret
  exact ⟨rfl, v, H2.out⟩
set_option maxHeartbeats 1600000 in
theorem step_lt (w : World) (N : Nat) (v : Value) (n : Nat) (xs : List Value) (h : St w N v n xs 1 0) (hn : n < 600) : Calls Tryd.prog 50 #[.pointer (some ⟨N, 0, none⟩), .int .i64 1, .int .i32 60] w (More w N (n + 1) (xs ++ wordX 1 ⟨#[97]⟩ 0) 5 1) := by
  obtain ⟨⟨g0, _, g2, g3⟩, fz⟩ := h.facts
  have HH := Lib.hid h
  have HN := Lib.hid hn
  clear h hn
  go_enter Tryd.func50, Tryd.ntmps50
  go_wp2_with fail
  refine (goes_name _ N v n xs 0 1 HH.out).mono ?_
  rintro e w1 ⟨rfl, hw⟩
  subst hw
  go_wp2_with fail
  refine (end_name _ N v n xs HH.out HN.out).mono ?_
  rintro e w1 ⟨rfl, v1, hs, hk⟩
  have H1 := Lib.hid (show _ ∧ _ from ⟨hs, hk⟩)
  clear hs hk
  go_wp2_with fail
  refine (begin_lt w1 N v1 _ _ 0 H1.out.1).mono ?_
  rintro e w2 ⟨rfl, hs, hk⟩
  have H2 := Lib.hid (show _ ∧ _ from ⟨hs, H1.out.2.trans hk⟩)
  clear hs hk
  go_wp2
  go_ret
  exact ⟨rfl, v1, H2.out⟩
set_option maxHeartbeats 1600000 in
theorem step_eq (w : World) (N : Nat) (v : Value) (n : Nat) (xs : List Value) (h : St w N v n xs 5 1) : Calls Tryd.prog 50 #[.pointer (some ⟨N, 0, none⟩), .int .i64 2, .int .i32 61] w (More w N n xs 5 1) := by
  obtain ⟨⟨g0, _, g2, g3⟩, fz⟩ := h.facts
  have HH := Lib.hid h
  clear h
  go_enter Tryd.func50, Tryd.ntmps50
  go_wp2_with fail
  refine (goes_sign1 _ N v n xs HH.out).mono ?_
  rintro e w1 ⟨rfl, hb⟩
  have H2 := Lib.hid (show St w1 N v n xs 5 1 ∧ Kp N w w1 from ⟨HH.out.below hb, Kp.below (Nat.le_of_lt HH.out.low) hb⟩)
  clear hb
  go_wp2
  go_ret
  exact ⟨rfl, v, H2.out⟩
set_option maxHeartbeats 1600000 in
theorem step_1 (w : World) (N : Nat) (v : Value) (n : Nat) (xs : List Value) (h : St w N v n xs 5 1) (hn : n < 600) : Calls Tryd.prog 50 #[.pointer (some ⟨N, 0, none⟩), .int .i64 3, .int .i32 49] w (More w N (n + 1) (xs ++ wordX 4 ⟨#[60, 61]⟩ 0) 2 3) := by
  obtain ⟨⟨g0, _, g2, g3⟩, fz⟩ := h.facts
  have HH := Lib.hid h
  have HN := Lib.hid hn
  clear h hn
  go_enter Tryd.func50, Tryd.ntmps50
  go_wp2_with fail
  refine (goes_sign2 _ N v n xs HH.out).mono ?_
  rintro e w0 ⟨rfl, hb⟩
  have H0 := Lib.hid (show St w0 N v n xs 5 1 ∧ Kp N w w0 from ⟨HH.out.below hb, Kp.below (Nat.le_of_lt HH.out.low) hb⟩)
  clear hb
  go_wp2_with fail
  refine (end_sign _ N v n xs H0.out.1 HN.out).mono ?_
  rintro e w1 ⟨rfl, v1, hs, hk⟩
  have H1 := Lib.hid (show _ ∧ _ from ⟨hs, H0.out.2.trans hk⟩)
  clear hs hk
  go_wp2_with fail
  refine (begin_1 w1 N v1 _ _ 1 H1.out.1).mono ?_
  rintro e w2 ⟨rfl, hs, hk⟩
  have H2 := Lib.hid (show _ ∧ _ from ⟨hs, H1.out.2.trans hk⟩)
  clear hs hk
  go_wp2
  go_ret
  exact ⟨rfl, v1, H2.out⟩

theorem St.iter {w : World} {N : Nat} {v : Value} {n : Nat} {xs : List Value} {st start : Int} (h : St w N v n xs st start) {k : Nat} {s : ByteArray} {p : Nat} (hk : w.heap[k]? = some (Obj.stringIter s p)) (p' : Nat) : St (w.iterAt k s p') N v n xs st start := by
  refine ⟨?_, h.own.1, ?_⟩
  · rw [Lib.iterAt_other _ _ _ _ _ (fun e => by have := h.rd; rw [e, hk] at this; cases this)]
    exact h.rd
  · rcases h.own.2 with h0 | ⟨g, cap, cur, hv, hb, hg, rest⟩
    · exact .inl h0
    · refine .inr ⟨g, cap, cur, hv, hb, ?_, rest⟩
      rw [Lib.iterAt_other _ _ _ _ _ (fun e => by subst e; rw [hk] at hg; cases hg)]
      exact hg
theorem below_iter {B : Nat} {a w : World} (h : Below B a w) {k : Nat} (hk : B ≤ k) (s : ByteArray) (p : Nat) : Below B a (w.iterAt k s p) :=
  ⟨h.os, h.tape, h.output, by show _ ≤ (w.heap.setIfInBounds k _).size; rw [Array.size_setIfInBounds]; exact h.size, fun i hi => by
    show (w.heap.setIfInBounds k _)[i]? = _
    rw [Array.getElem?_setIfInBounds_ne (by omega)]
    exact h.block i hi⟩
/-- where a reader is behind so many runes -/
def wat : Nat → Nat × List Value × Int × Int
  | 0 => (0, [], 0, 0)
  | 1 => (0, [], 1, 0)
  | 2 => (1, wordX 1 ⟨#[97]⟩ 0, 5, 1)
  | 3 => (1, wordX 1 ⟨#[97]⟩ 0, 5, 1)
  | _ => (2, wordX 1 ⟨#[97]⟩ 0 ++ wordX 4 ⟨#[60, 61]⟩ 0, 2, 3)
theorem two_new (w : World) (a b : Obj) : ((w.alloc a).alloc b).heap[w.heap.size]? = some a ∧ ((w.alloc a).alloc b).heap[w.heap.size + 1]? = some b := by
  have e : (w.alloc a).heap.size = w.heap.size + 1 := by simp
  have h1 : (w.alloc a).heap[w.heap.size]? = some a := by
    show (w.heap.push a)[w.heap.size]? = _
    exact Array.getElem?_push_size
  refine ⟨(Below.heap_alloc (w.alloc a) b w.heap.size (by omega)).trans h1, ?_⟩
  show ((w.alloc a).heap.push b)[w.heap.size + 1]? = _
  rw [← e]
  exact Array.getElem?_push_size
structure WI (w : World) (pos : Nat) (wr : World) : Prop where
  st : ∃ v, St wr w.heap.size v (wat pos).1 (wat pos).2.1 (wat pos).2.2.1 (wat pos).2.2.2
  it : wr.heap[w.heap.size + 1]? = some (Obj.stringIter ⟨#[97, 60, 61, 49]⟩ pos)
  bel : Below w.heap.size w wr
/-- the next rune is taken -/
theorem WI.next {w wr : World} {pos : Nat} (h : WI w pos wr) (q : Nat) :
    (∃ v, St (wr.iterAt (w.heap.size + 1) ⟨#[97, 60, 61, 49]⟩ q) w.heap.size v (wat pos).1 (wat pos).2.1 (wat pos).2.2.1 (wat pos).2.2.2) ∧
    (wr.iterAt (w.heap.size + 1) ⟨#[97, 60, 61, 49]⟩ q).heap[w.heap.size + 1]? = some (Obj.stringIter ⟨#[97, 60, 61, 49]⟩ q) ∧ Below w.heap.size w (wr.iterAt (w.heap.size + 1) ⟨#[97, 60, 61, 49]⟩ q) := by
  obtain ⟨v, hs⟩ := h.st
  exact ⟨⟨v, hs.iter h.it q⟩, Lib.iterAt_heap _ _ _ _ _ h.it, below_iter h.bel (Nat.le_succ _) _ _⟩
theorem WI.go {w W2 w3 : World} {q : Nat} (hi : W2.heap[w.heap.size + 1]? = some (Obj.stringIter ⟨#[97, 60, 61, 49]⟩ q)) (hb : Below w.heap.size w W2)
    (hm : ∃ v', St w3 w.heap.size v' (wat q).1 (wat q).2.1 (wat q).2.2.1 (wat q).2.2.2 ∧ Kp w.heap.size W2 w3) : WI w q w3 := by
  obtain ⟨v', hs, hk⟩ := hm
  exact ⟨⟨v', hs⟩, hk.2 _ _ _ hi, hb.trans hk.1⟩

set_option maxHeartbeats 3200000 in
theorem words_first (w : World) : Calls Tryd.prog 32 #[.string ⟨#[97, 60, 61, 49]⟩] w fun e w' => ∃ v, e = .returned (.tuple #[v, .int .i64 0]) ∧
    w'.ownsRow (w.heap.size + 1) 60 3 v 3 (wordX 1 ⟨#[97]⟩ 0 ++ wordX 4 ⟨#[60, 61]⟩ 0 ++ wordX 2 ⟨#[49]⟩ 1) ∧ Below w.heap.size w w' := by
  have HI0 := Lib.hid (show WI w 0 ((w.alloc (.cells #[.string ⟨#[97, 60, 61, 49]⟩, .slice none 0 0, .int .i64 0, .int .i64 0] 78)).iter ⟨#[97, 60, 61, 49]⟩ 0) from by
    have h2 := two_new w (.cells #[.string ⟨#[97, 60, 61, 49]⟩, .slice none 0 0, .int .i64 0, .int .i64 0] 78) (Obj.stringIter ⟨#[97, 60, 61, 49]⟩ 0)
    exact ⟨⟨_, h2.1, World.ownsRow_nil _ _ _ _⟩, h2.2, bel0 _ (bel0 _ (Below.refl _ _))⟩)
  go_enter Tryd.func32, Tryd.ntmps32
  go_wp2_with fail
  go_loopw [5] (fun _ wr => ∃ pos : Nat, pos ≤ 4 ∧ Hid (WI w pos wr)) (fun _ wr => 5 - wr.iterPos (w.heap.size + 1))
  case atStart => exact ⟨0, by omega, HI0⟩
  case round =>
    obtain ⟨pos, hp, HI⟩ := hrel
    clear HI0
    have hip : wr.iterPos (w.heap.size + 1) = pos := by unfold World.iterPos; rw [HI.out.it]
    rcases (show pos = 0 ∨ pos = 1 ∨ pos = 2 ∨ pos = 3 ∨ pos = 4 by omega) with rfl | rfl | rfl | rfl | rfl
    · obtain ⟨W2, hW2⟩ : ∃ W2, W2 = wr.iterAt (w.heap.size + 1) ⟨#[97, 60, 61, 49]⟩ 1 := ⟨_, rfl⟩
      have hnx : ∀ ty, (Instr.next (.pointer (some ⟨w.heap.size + 1, 0, none⟩)) true ty).run Tryd.prog wr = .ok (.tuple #[.bool true, .int .i64 0, .int .i32 97]) W2 := fun ty => by rw [hW2]; exact Lib.run_next_ascii_at wr (w.heap.size + 1) ⟨#[97, 60, 61, 49]⟩ 0 ty HI.out.it (by decide) (by decide)
      obtain ⟨⟨v, hs⟩, hi, hb⟩ := HI.out.next 1
      rw [← hW2] at hs hi hb
      have HS := Lib.hid hs
      have HIt := Lib.hid (show _ ∧ _ from ⟨hi, hb⟩)
      have HIp := Lib.hid hip
      clear hW2 hs hi hb hip
      go_wp2_with fail
      refine (step_a W2 w.heap.size v _ _ HS.out).mono ?_
      rintro e w3 ⟨rfl, hm⟩
      have HN := Lib.hid (WI.go (q := 1) HIt.out.1 HIt.out.2 hm)
      clear hm
      go_wp2
      go_roundw
      case rel => exact ⟨1, by omega, HN⟩
      case measure =>
        have h3 : w3.iterPos (w.heap.size + 1) = 1 := by unfold World.iterPos; rw [HN.out.it]
        have := HIp.out
        simp only [h3, this]
        omega
    · obtain ⟨W2, hW2⟩ : ∃ W2, W2 = wr.iterAt (w.heap.size + 1) ⟨#[97, 60, 61, 49]⟩ 2 := ⟨_, rfl⟩
      have hnx : ∀ ty, (Instr.next (.pointer (some ⟨w.heap.size + 1, 0, none⟩)) true ty).run Tryd.prog wr = .ok (.tuple #[.bool true, .int .i64 1, .int .i32 60]) W2 := fun ty => by rw [hW2]; exact Lib.run_next_ascii_at wr (w.heap.size + 1) ⟨#[97, 60, 61, 49]⟩ 1 ty HI.out.it (by decide) (by decide)
      obtain ⟨⟨v, hs⟩, hi, hb⟩ := HI.out.next 2
      rw [← hW2] at hs hi hb
      have HS := Lib.hid hs
      have HIt := Lib.hid (show _ ∧ _ from ⟨hi, hb⟩)
      have HIp := Lib.hid hip
      clear hW2 hs hi hb hip
      go_wp2_with fail
      refine (step_lt W2 w.heap.size v _ _ HS.out (by decide)).mono ?_
      rintro e w3 ⟨rfl, hm⟩
      have HN := Lib.hid (WI.go (q := 2) HIt.out.1 HIt.out.2 hm)
      clear hm
      go_wp2
      go_roundw
      case rel => exact ⟨2, by omega, HN⟩
      case measure =>
        have h3 : w3.iterPos (w.heap.size + 1) = 2 := by unfold World.iterPos; rw [HN.out.it]
        have := HIp.out
        simp only [h3, this]
        omega
    · obtain ⟨W2, hW2⟩ : ∃ W2, W2 = wr.iterAt (w.heap.size + 1) ⟨#[97, 60, 61, 49]⟩ 3 := ⟨_, rfl⟩
      have hnx : ∀ ty, (Instr.next (.pointer (some ⟨w.heap.size + 1, 0, none⟩)) true ty).run Tryd.prog wr = .ok (.tuple #[.bool true, .int .i64 2, .int .i32 61]) W2 := fun ty => by rw [hW2]; exact Lib.run_next_ascii_at wr (w.heap.size + 1) ⟨#[97, 60, 61, 49]⟩ 2 ty HI.out.it (by decide) (by decide)
      obtain ⟨⟨v, hs⟩, hi, hb⟩ := HI.out.next 3
      rw [← hW2] at hs hi hb
      have HS := Lib.hid hs
      have HIt := Lib.hid (show _ ∧ _ from ⟨hi, hb⟩)
      have HIp := Lib.hid hip
      clear hW2 hs hi hb hip
      go_wp2_with fail
      refine (step_eq W2 w.heap.size v _ _ HS.out).mono ?_
      rintro e w3 ⟨rfl, hm⟩
      have HN := Lib.hid (WI.go (q := 3) HIt.out.1 HIt.out.2 hm)
      clear hm
      go_wp2
      go_roundw
      case rel => exact ⟨3, by omega, HN⟩
      case measure =>
        have h3 : w3.iterPos (w.heap.size + 1) = 3 := by unfold World.iterPos; rw [HN.out.it]
        have := HIp.out
        simp only [h3, this]
        omega
    · obtain ⟨W2, hW2⟩ : ∃ W2, W2 = wr.iterAt (w.heap.size + 1) ⟨#[97, 60, 61, 49]⟩ 4 := ⟨_, rfl⟩
      have hnx : ∀ ty, (Instr.next (.pointer (some ⟨w.heap.size + 1, 0, none⟩)) true ty).run Tryd.prog wr = .ok (.tuple #[.bool true, .int .i64 3, .int .i32 49]) W2 := fun ty => by rw [hW2]; exact Lib.run_next_ascii_at wr (w.heap.size + 1) ⟨#[97, 60, 61, 49]⟩ 3 ty HI.out.it (by decide) (by decide)
      obtain ⟨⟨v, hs⟩, hi, hb⟩ := HI.out.next 4
      rw [← hW2] at hs hi hb
      have HS := Lib.hid hs
      have HIt := Lib.hid (show _ ∧ _ from ⟨hi, hb⟩)
      have HIp := Lib.hid hip
      clear hW2 hs hi hb hip
      go_wp2_with fail
      refine (step_1 W2 w.heap.size v _ _ HS.out (by decide)).mono ?_
      rintro e w3 ⟨rfl, hm⟩
      have HN := Lib.hid (WI.go (q := 4) HIt.out.1 HIt.out.2 hm)
      clear hm
      go_wp2
      go_roundw
      case rel => exact ⟨4, by omega, HN⟩
      case measure =>
        have h3 : w3.iterPos (w.heap.size + 1) = 4 := by unfold World.iterPos; rw [HN.out.it]
        have := HIp.out
        simp only [h3, this]
        omega
    · have hnx : ∀ ty, (Instr.next (.pointer (some ⟨w.heap.size + 1, 0, none⟩)) true ty).run Tryd.prog wr = .ok (.tuple #[.bool false]) wr := fun ty => Lib.run_next_end_at wr (w.heap.size + 1) ⟨#[97, 60, 61, 49]⟩ 4 ty HI.out.it (by decide)
      obtain ⟨v, hs⟩ := HI.out.st
      have HS := Lib.hid hs
      clear hip hs
      go_wp2_with fail
      refine (end_num wr w.heap.size v _ _ HS.out (by decide)).mono ?_
      rintro e w3 ⟨rfl, v', hs, hk⟩
      obtain ⟨⟨g0, g1, g2, g3⟩, fz⟩ := hs.facts
      have HE := Lib.hid (show _ ∧ _ from ⟨hs.own, HI.out.bel.trans hk.1⟩)
      clear hs hk
      go_wp2
      go_ret2
      exact ⟨v', rfl, HE.out⟩

set_option maxHeartbeats 1600000 in
theorem lawake_any (w : World) : Calls Tryd.prog 16 #[] w fun e w' => e = .returned (.bool true) ∧ Below w.heap.size w w' := by
  go_enter Tryd.func16, Tryd.ntmps16
  go_wp2_with fail
  refine (words_first _).mono ?_
  rintro e w1 ⟨v, rfl, ho, hb⟩
  rcases ho.2 with ⟨_, h0⟩ | ⟨g, cap, cur, rfl, hB, hg, h1, h2, hs, ht⟩
  · cases h0
  have c4 := ho.cellAt 4 (by decide)
  have HB := Lib.hid hb
  have hc4 : w1.cell? ⟨g, 4, none⟩ = some (.string ⟨#[60, 61]⟩) := by rw [c4]; rfl
  have hq : ((ByteArray.mk #[60, 61]).toList == [60, 61]) = true := by decide +kernel
  clear ho hb hB hg h1 h2 hs ht c4
  go_wp2
  go_ret
  exact ⟨rfl, HB.out⟩
end Go.Proofs.YtbcjhngpcodaoaaDoor
