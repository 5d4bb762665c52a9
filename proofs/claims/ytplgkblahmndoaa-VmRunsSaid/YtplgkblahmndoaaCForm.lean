/- Contract of code's Formed: every program. -/
import Derived.Test.YtplgkblahmndoaaCFit4
import Derived.Outline
namespace Go.Proofs.Ytplgkblahmndoaa
open Go.RowKit
set_option linter.unusedVariables false
set_option maxRecDepth 100000

theorem class0 {op : ByteArray} (h : (op.toList == [99, 111, 110, 115, 116]) = false) : opClass op ≠ 0 := by
  intro h0
  rcases op_cases op with rfl | rfl | rfl | rfl | rfl | rfl | rfl | rfl | rfl | rfl | rfl | rfl | rfl | rfl | rfl | rfl | rfl | rfl | rfl | rfl | ⟨h0', h1, h2, h3, h4, h5, h6, h7, h8, h9, h10, h11, h12, h13, h14, h15, h16, h17, h18, h19⟩
  · rw [ByteArray.toList_eq] at h; exact absurd h (by decide)
  all_goals first
    | (rw [class_other op h0' h1 h2 h3 h4 h5 h6 h7 h8 h9 h10 h11 h12 h13 h14 h15 h16 h17 h18 h19] at h0; cases h0)
    | (simp only [class_col, class_neg, class_null, class_some, class_not, class_copy, class_add, class_sub, class_mul, class_eq, class_ne, class_lt, class_le, class_gt, class_ge, class_and, class_or, class_false, class_true] at h0; cases h0)

theorem bare_const {op : ByteArray} (h : (op.toList == [99, 111, 110, 115, 116]) = true) (a b c : Int) (v : Val) : bareB ⟨op, a, b, c, v⟩ = true := by
  obtain rfl := op_of_list h
  unfold bareB
  rw [show opClass (⟨[99, 111, 110, 115, 116].toArray⟩ : ByteArray) = 0 from class_const]; rfl
theorem bare_zero (op : ByteArray) (a b c : Int) {k n : Int} {s : ByteArray} (h : k = 0 ∧ n = 0 ∧ s.toList = []) : bareB ⟨op, a, b, c, (k, n, s)⟩ = true := by
  obtain ⟨rfl, rfl, h⟩ := h
  unfold bareB
  rw [show decide ((0 : Int) = 0) = true from rfl, show decide (s.toList = []) = true from decide_eq_true h]
  simp
theorem bare_not {op : ByteArray} (hq : (op.toList == [99, 111, 110, 115, 116]) = false) (a b c : Int) {k n : Int} {s : ByteArray} (h : ¬ (k = 0 ∧ n = 0 ∧ s.toList = [])) : bareB ⟨op, a, b, c, (k, n, s)⟩ = false := by
  unfold bareB
  rw [show decide (opClass op = 0) = false from decide_eq_false (class0 hq), Bool.false_or]
  rw [Bool.and_assoc, ← Bool.decide_and, ← Bool.decide_and]
  exact decide_eq_false h

set_option maxHeartbeats 6400000 in
theorem cform_any (ca : Option Addr) (cl cc : Nat) (R : Int) (xs : List Ins) (w : World) (hI : IsI w ca cl xs) :
    Calls Try.prog 93 #[.agg #[.slice ca cl cc, .int .i64 R]] w fun e w' => e = .returned (.bool (formedP R xs)) ∧ Below w.heap.size w w' := by
  obtain ⟨W0, hW0⟩ : ∃ W0, W0 = w.alloc (.cells #[.slice ca cl cc, .int .i64 R] 93) := ⟨_, rfl⟩
  have q0 : W0.cell? ⟨w.heap.size, 0, none⟩ = some (.slice ca cl cc) := by rw [hW0]; simp [go_sem]
  have q1 : W0.cell? ⟨w.heap.size, 1, none⟩ = some (.int .i64 R) := by rw [hW0]; simp [go_sem]
  have hb0 : Below w.heap.size w W0 := by rw [hW0]; exact bel0 _ (Below.refl _ _)
  have hs0 : W0.heap.size = w.heap.size + 1 := by rw [hW0]; simp
  have Q := Lib.hid (show ∀ W, Below W0.heap.size W0 W → W.cell? ⟨w.heap.size, 0, none⟩ = some (.slice ca cl cc) ∧ W.cell? ⟨w.heap.size, 1, none⟩ = some (.int .i64 R) from fun W hW =>
    ⟨(hW.cell (p := ⟨w.heap.size, 0, none⟩) (by show w.heap.size < _; omega)).trans q0, (hW.cell (p := ⟨w.heap.size, 1, none⟩) (by show w.heap.size < _; omega)).trans q1⟩)
  have hI0 := hI.below hb0
  have hlen := hI.1
  have hmax := hI.2.1
  have HI := Lib.hid hI0
  have HB0 := Lib.hid hb0
  have HW := Lib.hid hW0
  have HL := Lib.hid hlen
  have HS0 := Lib.hid hs0
  clear hI hI0 hb0 hs0
  by_cases hg : 1 ≤ cl ∧ cl ≤ 1000 ∧ 1 ≤ R ∧ R ≤ 1000
  · have g1 : (1 : Int) ≤ (cl : Int) := by omega
    have g2 : (cl : Int) ≤ 1000 := by omega
    have g3 := hg.2.2.1
    have g4 := hg.2.2.2
    have HG := Lib.hid (show 1 ≤ xs.length ∧ xs.length ≤ 1000 ∧ 1 ≤ R ∧ R ≤ 1000 by rw [hlen]; exact hg)
    clear hg hlen
    go_enter Try.func93, Try.ntmps93
    go_wp2
    clear hW0
    rw [← HW.out]
    go_loopw [28] (fun i wr => ∃ k : Nat, k ≤ cl ∧ i = .int .i64 (k : Int) ∧ Hid (Below W0.heap.size W0 wr) ∧ Hid (∀ j, j < k → okI cl R j (xs.getD j noI) = true)) (fun i _ => cl - (intOf i).toNat)
    case atStart => exact ⟨0, by omega, rfl, Lib.hid (Below.refl _ _), Lib.hid (fun j hj => by omega)⟩
    case round =>
      obtain ⟨k, hk, rfl, HB, HA⟩ := hrel
      by_cases hlt : k < cl
      · obtain ⟨_, _, hc⟩ := HI.out.below HB.out
        rcases hc with hc | ⟨b, off, rfl, hbl, hc⟩
        · omega
        obtain ⟨c0, c1, c2, c3, c4, c5, c6⟩ := hc k hlt
        obtain ⟨p0, p1⟩ := Q.out _ HB.out
        have hki : (k : Int) < (cl : Int) := by omega
        have hk0 : (0 : Int) ≤ (k : Int) := by omega
        have HX := Lib.hid (show okI cl R k (xs.getD k noI) = (bareB (xs.getD k noI) && fitsB cl R k (xs.getD k noI)) from rfl)
        clear hc
        obtain ⟨x, hx⟩ : ∃ x, xs.getD k noI = x := ⟨_, rfl⟩
        rw [hx] at c0 c1 c2 c3 c4 c5 c6 HX
        have HXE := Lib.hid hx
        clear hx
        obtain ⟨op, xa, xb, xc, vk, vn, vs⟩ := x
        dsimp only at c0 c1 c2 c3 c4 c5 c6
        have hz : w.heap.size < wr.heap.size := by have := HB.out.size; have := HS0.out; omega
        cases hq : (op.toList == [99, 111, 110, 115, 116]) with
        | true =>
          have HBare := Lib.hid (bare_const hq xa xb xc (vk, vn, vs))
          go_wp2_with fail
          refine (fits_any (some ⟨b, off, none⟩) cl cc R k ⟨op, xa, xb, xc, (vk, vn, vs)⟩ _ hmax).mono ?_
          rintro e w2 ⟨rfl, hb2⟩
          have HB2 := Lib.hid (bt HB.out (bt (bel0 (.cells #[.string op, .int .i64 xa, .int .i64 xb, .int .i64 xc, .int .i64 vk, .int .i64 vn, .string vs] 168) (Below.refl wr.heap.size wr)) hb2))
          clear hb2 c0 c1 c2 c3 c4 c5 c6 p0 p1
          cases hf : fitsB cl R k ⟨op, xa, xb, xc, (vk, vn, vs)⟩ with
          | true =>
            have HA2 := Lib.hid (show ∀ j, j < k + 1 → okI cl R j (xs.getD j noI) = true from fun j hj => by
              rcases Nat.lt_or_ge j k with h | h
              · exact HA.out j h
              · obtain rfl : j = k := by omega
                rw [HXE.out, HX.out, HBare.out, hf]; rfl)
            clear hf HX
            go_wp2
            go_roundw
            case rel => exact ⟨k + 1, by omega, by go_num, HB2, HA2⟩
            case measure => simp [intOf]; omega
          | false =>
            have HE := Lib.hid (formedP_bad (R := R) (j := k) (by rw [HL.out]; exact hlt) (by rw [HL.out, HXE.out, HX.out, HBare.out, hf]; rfl))
            have HF := Lib.hid (bt HB0.out HB2.out)
            clear hf HX
            go_wp2
            go_ret
            exact ⟨by rw [HE.out]; rfl, HF.out⟩
        | false =>
          by_cases hv : vk = 0 ∧ vn = 0 ∧ vs.toList = []
          · have HBare := Lib.hid (bare_zero op xa xb xc hv)
            obtain ⟨rfl, rfl, hv⟩ := hv
            go_wp2_with fail
            refine (fits_any (some ⟨b, off, none⟩) cl cc R k ⟨op, xa, xb, xc, (0, 0, vs)⟩ _ hmax).mono ?_
            rintro e w2 ⟨rfl, hb2⟩
            have HB2 := Lib.hid (bt HB.out (bt (bel0 (.cells #[.string op, .int .i64 xa, .int .i64 xb, .int .i64 xc, .int .i64 0, .int .i64 0, .string vs] 168) (Below.refl wr.heap.size wr)) hb2))
            clear hb2 c0 c1 c2 c3 c4 c5 c6 p0 p1
            cases hf : fitsB cl R k ⟨op, xa, xb, xc, (0, 0, vs)⟩ with
            | true =>
              have HA2 := Lib.hid (show ∀ j, j < k + 1 → okI cl R j (xs.getD j noI) = true from fun j hj => by
                rcases Nat.lt_or_ge j k with h | h
                · exact HA.out j h
                · obtain rfl : j = k := by omega
                  rw [HXE.out, HX.out, HBare.out, hf]; rfl)
              clear hf HX
              go_wp2
              go_roundw
              case rel => exact ⟨k + 1, by omega, by go_num, HB2, HA2⟩
              case measure => simp [intOf]; omega
            | false =>
              have HE := Lib.hid (formedP_bad (R := R) (j := k) (by rw [HL.out]; exact hlt) (by rw [HL.out, HXE.out, HX.out, HBare.out, hf]; rfl))
              have HF := Lib.hid (bt HB0.out HB2.out)
              clear hf HX
              go_wp2
              go_ret
              exact ⟨by rw [HE.out]; rfl, HF.out⟩
          · have HE := Lib.hid (formedP_bad (R := R) (j := k) (by rw [HL.out]; exact hlt) (by rw [HL.out, HXE.out, HX.out, bare_not hq xa xb xc hv]; rfl))
            have HF := Lib.hid (show ∀ o, Below w.heap.size w (wr.alloc o) from fun o => bt HB0.out (bt HB.out (bel0 o (Below.refl wr.heap.size wr))))
            clear HX
            go_wp2_with fail
            · exact absurd ⟨by assumption, by assumption, by assumption⟩ hv
            all_goals go_ret
            all_goals exact ⟨by rw [HE.out]; rfl, HF.out _⟩
      · have hkk : (cl : Int) ≤ (k : Int) := by omega
        have HE := Lib.hid (formedP_all HG.out (fun j hj => by have := HA.out j (by have := HL.out; omega); rw [HL.out]; exact this))
        have HF := Lib.hid (bt HB0.out HB.out)
        clear q0 q1
        go_wp2
        go_ret
        exact ⟨by rw [HE.out]; rfl, HF.out⟩
  · rw [formedP_not (by rw [hlen]; exact hg)]
    have HF := Lib.hid HB0.out
    clear hlen
    by_cases g1 : (cl : Int) < 1
    · go_enter Try.func93, Try.ntmps93
      go_wp2
      go_ret
      exact ⟨rfl, by rw [← HW.out]; exact HF.out⟩
    by_cases g2 : 1000 < (cl : Int)
    · go_enter Try.func93, Try.ntmps93
      go_wp2
      go_ret
      exact ⟨rfl, by rw [← HW.out]; exact HF.out⟩
    by_cases g3 : R < 1
    · go_enter Try.func93, Try.ntmps93
      go_wp2
      go_ret
      exact ⟨rfl, by rw [← HW.out]; exact HF.out⟩
    have g4 : 1000 < R := by omega
    go_enter Try.func93, Try.ntmps93
    go_wp2
    go_ret
    exact ⟨rfl, by rw [← HW.out]; exact HF.out⟩
end Go.Proofs.Ytplgkblahmndoaa
