/- Contract of journal's Head. -/
import Derived.Test.YtbcjhngpcodaoaaBeFull
import Derived.Deep.RegionHeld3
namespace Go.Proofs.Ytbcjhngpcodaoaa
open Go.RowKit
set_option linter.unusedVariables false
set_option maxRecDepth 100000

/-- the mark's bytes -/
def markK : List Int := [119, 97, 105, 110, 115, 99, 111, 116]
theorem markK_range : ∀ z ∈ markK, 0 ≤ z ∧ z ≤ 255 := by decide
/-- what of a head stands before its sum -/
def headB (salt p r : Int) : List Int := ((markK ++ beN salt 8) ++ beN p 4) ++ beN r 4
theorem headB_length (salt p r : Int) : (headB salt p r).length = 24 := by simp [headB, beN_length, markK]
theorem headB_range (salt p r : Int) : ∀ z ∈ headB salt p r, 0 ≤ z ∧ z ≤ 255 := by
  intro z hz
  rcases List.mem_append.1 hz with h | h
  · rcases List.mem_append.1 h with h | h
    · rcases List.mem_append.1 h with h | h
      · exact markK_range z h
      · exact beN_range _ _ z h
    · exact beN_range _ _ z h
  · exact beN_range _ _ z h
/-- a head's bytes -/
def headK (salt p r : Int) : List Int := (headB salt p r ++ beN (sm 2166136261 (headB salt p r)) 4) ++ noughts 36
theorem headK_length (salt p r : Int) : (headK salt p r).length = 64 := by simp [headK, headB_length, beN_length, noughts_length]
theorem sum_range (l : List Int) : 0 ≤ sm 2166136261 l ∧ sm 2166136261 l ≤ 4294967295 := sm_range l _ (by omega) (by omega)
theorem noughts_range (n : Nat) : ∀ z ∈ noughts n, 0 ≤ z ∧ z ≤ 255 := by
  intro z hz
  have := List.eq_of_mem_replicate hz
  omega
theorem headK_range (salt p r : Int) : ∀ z ∈ headK salt p r, 0 ≤ z ∧ z ≤ 255 := by
  intro z hz
  rcases List.mem_append.1 hz with h | h
  · rcases List.mem_append.1 h with h | h
    · exact headB_range _ _ _ z h
    · exact beN_range _ _ z h
  · exact noughts_range _ z h

/-- a row that was laid just now -/
theorem own_built (w : World) {B : Nat} (hB : B ≤ w.heap.size) (xs : List Int) (hx : xs.length ≤ 1000) :
    (w.alloc (.cells (xs.map (Value.int .u8)).toArray 5)).ownsRow B 5 1 (.slice (some ⟨w.heap.size, 0, none⟩) xs.length xs.length) xs.length (xs.map (Value.int .u8)) :=
  own_whole hB (by unfold maxLen; omega) rfl (heap_alloc_new w _)

/-- what a writing function answers: a whole row of its own -/
def RowKPost (w : World) (zs : List Int) (e : Ending) (w' : World) : Prop :=
  ∃ v : Value, e = .returned (.tuple #[v, .int .i64 0]) ∧ w'.ownsRow w.heap.size 5 1 v zs.length (zs.map (Value.int .u8)) ∧ Below w.heap.size w w'
/-- .. or none -/
def NonePost (w : World) (e : Ending) (w' : World) : Prop := e = .returned (.tuple #[.slice none 0 0, .int .i64 1]) ∧ Below w.heap.size w w'

theorem wrap_small {p : Int} (h : 0 ≤ p ∧ p ≤ 10000) : IntKind.u64.wrap p = p ∧ IntKind.u32.wrap p = p := by
  constructor
  · rw [IntKind.wrap_u64]; omega
  · rw [IntKind.wrap_u32]; omega

/-- the mark's row, with the run-time's sign behind it -/
def markW (w : World) : World := w.alloc (.cells (markK.map (Value.int .u8)).toArray 5 (8, 9))
theorem mark_run (w : World) : (convert 26 26 (.slice (some ⟨w.heap.size, 0, none⟩) 8 8)).run Try.prog (w.alloc (.cells #[.int .u8 119, .int .u8 97, .int .u8 105, .int .u8 110, .int .u8 115, .int .u8 99, .int .u8 111, .int .u8 116] 5)) = .ok (.slice (some ⟨w.heap.size, 0, none⟩) 8 8) (markW w) :=
  Lib.run_convert_bytes_const (P := Try.prog) w 26 5 #[.int .u8 119, .int .u8 97, .int .u8 105, .int .u8 110, .int .u8 115, .int .u8 99, .int .u8 111, .int .u8 116] 8 8 Try.underlying26 Try.underlying5
theorem markW_size (w : World) : (markW w).heap.size = w.heap.size + 1 := by simp [markW]
theorem markW_below (w : World) : Below w.heap.size w (markW w) := bel0 _ (Below.refl _ _)
theorem markW_isB (w : World) : IsB (markW w) (some ⟨w.heap.size, 0, none⟩) 8 markK := by
  refine ⟨rfl, by omega, .inr ⟨w.heap.size, 0, rfl, fun i hi => ?_⟩, fun i => ?_⟩
  · have : (markW w).heap[w.heap.size]? = some (.cells (markK.map (Value.int .u8)).toArray 5 (8, 9)) := heap_alloc_new w _
    simp only [World.cell?, this]
    match i, hi with
    | 0, _ => rfl
    | 1, _ => rfl
    | 2, _ => rfl
    | 3, _ => rfl
    | 4, _ => rfl
    | 5, _ => rfl
    | 6, _ => rfl
    | 7, _ => rfl
  · by_cases hi : i < 8
    · match i, hi with
      | 0, _ => decide
      | 1, _ => decide
      | 2, _ => decide
      | 3, _ => decide
      | 4, _ => decide
      | 5, _ => decide
      | 6, _ => decide
      | 7, _ => decide
    · rw [List.getD_eq_getElem?_getD, List.getElem?_eq_none (by simp [markK]; omega)]; simp

set_option maxHeartbeats 4000000 in
theorem head_good (salt p r : Int) (w : World) (s0 : 0 ≤ salt) (s1 : salt ≤ 18446744073709551615) (hp : 0 ≤ p ∧ p ≤ 10000) (hr : 0 ≤ r ∧ r ≤ 10000) :
    Calls Try.prog 16 #[.int .u64 salt, .int .i64 p, .int .i64 r] w (RowKPost w (headK salt p r)) := by
  have hwp := (wrap_small hp).1
  have hwr := (wrap_small hr).1
  have hp0 := hp.1
  have hp1 := hp.2
  have hr0 := hr.1
  have hr1 := hr.2
  have hcv := mark_run w
  have HMB := Lib.hid (markW_below w)
  have HMI := Lib.hid (markW_isB w)
  have hms := markW_size w
  have H1 := Lib.hid (show (markK ++ beN salt 8).length = 16 by rw [List.length_append, beN_length]; rfl)
  have H2 := Lib.hid (show ((markK ++ beN salt 8) ++ beN p 4).length = 20 by rw [List.length_append, H1.out, beN_length])
  have H3 := Lib.hid (headB_length salt p r)
  have HX := Lib.hid (show headK salt p r = (headB salt p r ++ beN (sm 2166136261 (headB salt p r)) 4) ++ noughts (64 - ((headB salt p r).length + 4)) by rw [H3.out]; rfl)
  generalize markW w = W0 at *
  go_enter Try.func16, Try.ntmps16
  go_wp2_with fail
  refine (fits_any p _ (by omega) (by omega)).mono ?_
  rintro e w1 ⟨rfl, hw1⟩
  subst hw1
  rw [decide_eq_true hp]
  go_wp2_with fail
  refine (fits_any r _ (by omega) (by omega)).mono ?_
  rintro e w1 ⟨rfl, hw1⟩
  subst hw1
  rw [decide_eq_true hr]
  go_wp2_with fail
  refine (beAppend_full ⟨w1.heap.size, 0, none⟩ 8 markK salt s0 s1 8 (by omega) (by omega) _ (by omega) HMI.out (fun _ => by rw [hms]; exact Nat.lt_succ_self _)).mono ?_
  rintro e w2 ⟨v2, rfl, hown2, hgrow2⟩
  have HO2 := Lib.hid hown2
  have HB2 := Lib.hid (HMB.out.trans (grown_belowB hgrow2 (B := w1.heap.size) (by omega) (fun k hk => by cases hk)))
  have hv2 := hown2.lt
  have HV2 := Lib.hid hv2
  have hs2 := hgrow2.size
  clear hown2 hgrow2 hv2
  go_wp2_with fail
  refine (beAppend_any w1.heap.size v2 _ p hp0 (by omega) 4 (by omega) _ (by rw [H1.out]; omega) (by omega) (ownsRow_base HO2.out (by omega))).mono ?_
  rintro e w3 ⟨v3, rfl, hown3, hgrow3⟩
  have HO3 := Lib.hid hown3
  have HB3 := Lib.hid (HB2.out.trans (grown_belowB hgrow3 (B := w1.heap.size) (by omega) (fun k hk => by have := (HV2.out k hk).1; omega)))
  have HV3 := Lib.hid hown3.lt
  have hs3 := hgrow3.size
  clear hown3 hgrow3
  go_wp2_with fail
  refine (beAppend_any w1.heap.size v3 _ r hr0 (by omega) 4 (by omega) _ (by rw [H2.out]; omega) (by omega) HO3.out).mono ?_
  rintro e w4 ⟨v4, rfl, hown4, hgrow4⟩
  rw [show ((markK ++ beN salt 8) ++ beN p 4) ++ beN r 4 = headB salt p r from rfl, H3.out] at hown4
  obtain ⟨g4, c4, rfl⟩ := own_addr hown4 (by omega)
  have HO4 := Lib.hid hown4
  have HB4 := Lib.hid (HB3.out.trans (grown_belowB hgrow4 (B := w1.heap.size) (by omega) (fun k hk => (HV3.out k hk).1)))
  have HI4 := Lib.hid (own_isB hown4 H3.out (headB_range salt p r))
  have hs4 := hgrow4.size
  have HR4 := Lib.hid (sum_range (headB salt p r))
  have HG4 := Lib.hid (headB_range salt p r)
  clear hown4 hgrow4
  generalize headB salt p r = bs at *
  go_wp2_with fail
  refine (sum_any _ _ _ bs _ HI4.out).mono ?_
  rintro e w5 ⟨rfl, hw5⟩
  subst hw5
  go_wp2_with fail
  refine (filled_any w1.heap.size _ bs _ HR4.out.1 HR4.out.2 64 HG4.out (by rw [H3.out]; omega) (by omega) _ (by omega) (by rw [H3.out]; exact HO4.out)).mono ?_
  rintro e w6 ⟨g6, rfl, hown6, hb6⟩
  rw [← HX.out] at hown6 ⊢
  have HO6 := Lib.hid hown6
  have HB6 := Lib.hid (HB4.out.trans hb6)
  clear hown6 hb6
  go_wp2
  go_ret2
  exact ⟨_, rfl, HO6.out, HB6.out⟩

theorem head_bad (salt p r : Int) (w : World) (hp : -9223372036854775808 ≤ p ∧ p ≤ 9223372036854775807) (hr : -9223372036854775808 ≤ r ∧ r ≤ 9223372036854775807) (hb : ¬ ((0 ≤ p ∧ p ≤ 10000) ∧ (0 ≤ r ∧ r ≤ 10000))) :
    Calls Try.prog 16 #[.int .u64 salt, .int .i64 p, .int .i64 r] w (NonePost w) := by
  go_enter Try.func16, Try.ntmps16
  go_wp2_with fail
  refine (fits_any p _ hp.1 hp.2).mono ?_
  rintro e w1 ⟨rfl, hw1⟩
  subst hw1
  by_cases h : 0 ≤ p ∧ p ≤ 10000
  · rw [decide_eq_true h]
    have h2 : ¬ (0 ≤ r ∧ r ≤ 10000) := fun h2 => hb ⟨h, h2⟩
    go_wp2_with fail
    refine (fits_any r _ hr.1 hr.2).mono ?_
    rintro e w1 ⟨rfl, hw1⟩
    subst hw1
    rw [decide_eq_false h2]
    go_wp2
    go_ret2
    exact ⟨rfl, Below.refl _ _⟩
  · rw [decide_eq_false h]
    go_wp2
    go_ret2
    exact ⟨rfl, Below.refl _ _⟩
end Go.Proofs.Ytbcjhngpcodaoaa
