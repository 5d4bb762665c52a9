/- Contract of the document's FormedProgram: every program. -/
import Derived.Test.YtafhgilikcablaaCShape
import Derived.Test.YtafhgilikcablaaVmMach
namespace Go.Proofs.Ytafhgilikcablaa
open Go.RowKit
set_option linter.unusedVariables false
set_option linter.unusedSimpArgs false
set_option maxRecDepth 100000

theorem all_step {k : Nat} {p : Nat → Bool} (h : ∀ j, j < k → p j = true) (hk : p k = true) : ∀ j, j < k + 1 → p j = true := fun j hj => by
  rcases Nat.lt_or_ge j k with h' | h'
  · exact h j h'
  · obtain rfl : j = k := by omega
    exact hk
theorem okI_mk {n R i : Int} {x : Ins} {P : Prop} (hb : bareB x = true) (hf : fitsB n R i x = true ↔ P) (hp : P) : okI n R i x = true := by
  unfold okI; rw [hb, hf.2 hp]; rfl
theorem okI_no {n R i : Int} {x : Ins} {P : Prop} (hf : fitsB n R i x = true ↔ P) (hp : ¬ P) : okI n R i x = false := by
  unfold okI
  rw [show fitsB n R i x = false from Bool.eq_false_iff.2 fun h => hp (hf.1 h)]
  simp
theorem fit0 {n R i : Int} {x : Ins} (h : opClass x.op = 0) (hf : formedV x.v = true) : fitsB n R i x = true ↔ (0 ≤ x.a ∧ x.a < R) ∧ x.b = 0 ∧ x.c = 0 := by
  unfold fitsB; rw [h]; simp [hasB, hf]; omega
theorem fit0n {n R i : Int} {x : Ins} (h : opClass x.op = 0) (hf : formedV x.v = false) : fitsB n R i x = true ↔ False := by
  unfold fitsB; rw [h]; simp [hf]
theorem fit1 {n R i : Int} {x : Ins} (h : opClass x.op = 1) : fitsB n R i x = true ↔ (0 ≤ x.a ∧ x.a < R) ∧ 0 ≤ x.b ∧ 0 ≤ x.c := by
  unfold fitsB; rw [h]; simp [hasB]; omega
theorem fit2 {n R i : Int} {x : Ins} (h : opClass x.op = 2) : fitsB n R i x = true ↔ (0 ≤ x.a ∧ x.a < R) ∧ (0 ≤ x.b ∧ x.b < R) ∧ x.c = 0 := by
  unfold fitsB; rw [h]; simp [hasB]; omega
theorem fit3 {n R i : Int} {x : Ins} (h : opClass x.op = 3) : fitsB n R i x = true ↔ (0 ≤ x.a ∧ x.a < R) ∧ (0 ≤ x.b ∧ x.b < R) ∧ (0 ≤ x.c ∧ x.c < R) := by
  unfold fitsB; rw [h]; simp [hasB]; omega
theorem fit4 {n R i : Int} {x : Ins} (h : opClass x.op = 4) : fitsB n R i x = true ↔ x.a = 0 ∧ (0 ≤ x.b ∧ x.b < R) ∧ i < x.c ∧ x.c ≤ n := by
  unfold fitsB; rw [h]; simp [hasB]; omega
theorem fit5 {n R i : Int} {x : Ins} (h : opClass x.op = 5) : fitsB n R i x = true ↔ False := by
  unfold fitsB; rw [h]; simp

theorem ne_of {a : Int} (h : (a != 0) = true) : a ≠ 0 := bne_iff_ne.1 h
theorem eq_of {a : Int} (h : (a != 0) = false) : a = 0 := by simpa using h
theorem okI_bare {n R i : Int} {x : Ins} (h : bareB x = false) : okI n R i x = false := by unfold okI; rw [h]; rfl
theorem formed_zero {k n : Int} {s : ByteArray} (h : k = 0 ∧ n = 0 ∧ s.toList = []) : formedB 0 0 s = true := by
  unfold formedB; simp [h.2.2]

set_option maxHeartbeats 12800000 in
theorem rform_any (ca : Option Addr) (cl cc : Nat) (R : Int) (xs : List Ins) (w : World) (hI : IsI w ca cl xs) :
    Calls Try.prog 121 #[.agg #[.slice ca cl cc, .int .i64 R]] w fun e w' => e = .returned (.bool (formedP R xs)) ∧ Below w.heap.size w w' := by
  obtain ⟨W0, hW0⟩ : ∃ W0, W0 = w.alloc (.cells #[.slice ca cl cc, .int .i64 R] 82) := ⟨_, rfl⟩
  have q0 : W0.cell? ⟨w.heap.size, 0, none⟩ = some (.slice ca cl cc) := by rw [hW0]; simp [go_sem]
  have q1 : W0.cell? ⟨w.heap.size, 1, none⟩ = some (.int .i64 R) := by rw [hW0]; simp [go_sem]
  have hb0 : Below w.heap.size w W0 := by rw [hW0]; exact bel0 _ (Below.refl _ _)
  have hs0 : W0.heap.size = w.heap.size + 1 := by rw [hW0]; simp
  have Q := Lib.hid (show ∀ W, Below W0.heap.size W0 W → W.cell? ⟨w.heap.size, 0, none⟩ = some (.slice ca cl cc) ∧ W.cell? ⟨w.heap.size, 1, none⟩ = some (.int .i64 R) from fun W hW =>
    ⟨(hW.cell (p := ⟨w.heap.size, 0, none⟩) (by show w.heap.size < _; omega)).trans q0, (hW.cell (p := ⟨w.heap.size, 1, none⟩) (by show w.heap.size < _; omega)).trans q1⟩)
  have hI0 := hI.below hb0
  have hlen := hI.1
  have hmax := hI.2.1
  have HI := Lib.hid hI0
  have HB0 := Lib.hid hb0
  have HW := Lib.hid hW0
  have HL := Lib.hid hlen
  have HS0 := Lib.hid hs0
  clear hI hI0 hb0 hs0
  by_cases hg : 1 ≤ cl ∧ cl ≤ 1000 ∧ 1 ≤ R ∧ R ≤ 1000
  · have g1 : (1 : Int) ≤ (cl : Int) := by omega
    have g2 : (cl : Int) ≤ 1000 := by omega
    have g3 := hg.2.2.1
    have g4 := hg.2.2.2
    have HG := Lib.hid (show 1 ≤ xs.length ∧ xs.length ≤ 1000 ∧ 1 ≤ R ∧ R ≤ 1000 by rw [hlen]; exact hg)
    clear hg hlen
    go_enter Try.func121, Try.ntmps121
    go_wp2
    clear hW0
    rw [← HW.out]
    go_loopw [29] (fun i wr => ∃ k : Nat, k ≤ cl ∧ i = .int .i64 (k : Int) ∧ Hid (Below W0.heap.size W0 wr) ∧ Hid (∀ j, j < k → okI cl R j (xs.getD j noI) = true)) (fun i _ => cl - (intOf i).toNat)
    case atStart => exact ⟨0, by omega, rfl, Lib.hid (Below.refl _ _), Lib.hid (fun j hj => by omega)⟩
    case round =>
      obtain ⟨k, hk, rfl, HB, HA⟩ := hrel
      by_cases hlt : k < cl
      · obtain ⟨_, _, hc⟩ := HI.out.below HB.out
        rcases hc with hc | ⟨b, off, rfl, hbl, hc⟩
        · omega
        obtain ⟨c0, c1, c2, c3, c4, c5, c6⟩ := hc k hlt
        obtain ⟨p0, p1⟩ := Q.out _ HB.out
        have hki : (k : Int) < (cl : Int) := by omega
        have hk0 : (0 : Int) ≤ (k : Int) := by omega
        have HX := Lib.hid (show okI cl R k (xs.getD k noI) = (bareB (xs.getD k noI) && fitsB cl R k (xs.getD k noI)) from rfl)
        clear hc
        obtain ⟨x, hx⟩ : ∃ x, xs.getD k noI = x := ⟨_, rfl⟩
        rw [hx] at c0 c1 c2 c3 c4 c5 c6 HX
        have HXE := Lib.hid hx
        clear hx
        obtain ⟨op, xa, xb, xc, vk, vn, vs⟩ := x
        dsimp only at c0 c1 c2 c3 c4 c5 c6
        have hz : w.heap.size < wr.heap.size := by have := HB.out.size; have := HS0.out; omega
        clear HX
        have HF := Lib.hid (show ∀ o, Below w.heap.size w (wr.alloc o) from fun o => bt HB0.out (bt HB.out (bel0 o (Below.refl wr.heap.size wr))))
        have HF2 := Lib.hid (show ∀ o o', Below w.heap.size w ((wr.alloc o).alloc o') from fun o o' => bt HB0.out (bt HB.out (bel0 o' (bel0 o (Below.refl wr.heap.size wr)))))
        have HB2 := Lib.hid (show ∀ o o', Below W0.heap.size W0 ((wr.alloc o).alloc o') from fun o o' => bt HB.out (bel0 o' (bel0 o (Below.refl wr.heap.size wr))))
        have HNo := Lib.hid (show okI cl R k ⟨op, xa, xb, xc, (vk, vn, vs)⟩ = false → false = formedP R xs from fun h => (formedP_bad (R := R) (j := k) (by rw [HL.out]; exact hlt) (by rw [HL.out, HXE.out]; exact h)).symm)
        have HYes := Lib.hid (show okI cl R k ⟨op, xa, xb, xc, (vk, vn, vs)⟩ = true → ∀ j, j < k + 1 → okI cl R j (xs.getD j noI) = true from fun h => all_step HA.out (by rw [HXE.out]; exact h))
        rcases class_facts op with ⟨hc, q0, qF, qT, qC⟩ | ⟨hc, q0, qF, qT, qC⟩ | ⟨hc', q0, qF, qT, qC⟩ | ⟨hc, q0, qF⟩ | ⟨hc, q0, qF, qT⟩
        · have HBare := Lib.hid (bare_const q0 xa xb xc (vk, vn, vs))
          cases hfm : formedB vk vn vs with
          | false =>
            have HZ := Lib.hid (HNo.out (okI_no (fit0n hc hfm) id))
            have HQ := Lib.hid hfm
            clear hc hfm
            go_wp2_with fail
            refine (rformed_any vk vn vs _).mono ?_
            rintro e w2 ⟨rfl, hw2⟩
            rw [HQ.out]
            subst hw2
            go_wp2
            go_ret
            exact ⟨ret_bool HZ.out, HF2.out _ _⟩
          | true =>
            have HS := Lib.hid (show ∀ W, Calls Try.prog 152 #[.string op] W fun e w' => e = .returned (.int .i64 0) ∧ w' = W from fun W => by have := codeShape_any op W; rw [hc] at this; exact this)
            have HFit := Lib.hid (fit0 (n := cl) (R := R) (i := k) (x := ⟨op, xa, xb, xc, (vk, vn, vs)⟩) hc hfm)
            have HQ := Lib.hid hfm
            clear hc hfm
            go_wp2_with fail
            refine (rformed_any vk vn vs _).mono ?_
            rintro e w2 ⟨rfl, hw2⟩
            rw [HQ.out]
            subst hw2
            go_wp2_with (go_at_call 152; refine (HS.out _).mono ?_; rintro e w' ⟨rfl, hw⟩; subst hw)
            all_goals first
              | (go_ret; exact ⟨ret_bool (HNo.out (okI_no (HFit.out) (by (try dsimp only); first | exact id | omega | (have e := ne_of ‹(xb != 0) = true›; omega) | (have e := eq_of ‹(xb != 0) = false›; omega) | (have e := ne_of ‹(xa != 0) = true›; omega) | (have e := eq_of ‹(xa != 0) = false›; omega) | (have e := ne_of ‹(xc != 0) = true›; omega) | (have e := eq_of ‹(xc != 0) = false›; omega)))), HF2.out _ _⟩)
              | (go_roundw; (case rel => exact ⟨k + 1, by omega, by go_num, Lib.hid (HB2.out _ _), Lib.hid (HYes.out (okI_mk HBare.out (HFit.out) (by (try dsimp only); first | exact id | omega | (have e := ne_of ‹(xb != 0) = true›; omega) | (have e := eq_of ‹(xb != 0) = false›; omega) | (have e := ne_of ‹(xa != 0) = true›; omega) | (have e := eq_of ‹(xa != 0) = false›; omega) | (have e := ne_of ‹(xc != 0) = true›; omega) | (have e := eq_of ‹(xc != 0) = false›; omega))))⟩); (case measure => simp [intOf]; omega))
        · by_cases hv : vk = 0 ∧ vn = 0 ∧ vs.toList = []
          · have HBare := Lib.hid (bare_zero op xa xb xc hv)
            have HQ := Lib.hid (formed_zero hv)
            have HS := Lib.hid (show ∀ W, Calls Try.prog 152 #[.string op] W fun e w' => e = .returned (.int .i64 0) ∧ w' = W from fun W => by have := codeShape_any op W; rw [hc] at this; exact this)
            have HFit := Lib.hid (fit1 (n := cl) (R := R) (i := k) (x := ⟨op, xa, xb, xc, (vk, vn, vs)⟩) hc)
            obtain ⟨rfl, rfl, hv⟩ := hv
            clear hc
            go_wp2_with fail
            refine (rformed_any 0 0 vs _).mono ?_
            rintro e w2 ⟨rfl, hw2⟩
            rw [HQ.out]
            subst hw2
            go_wp2_with (go_at_call 152; refine (HS.out _).mono ?_; rintro e w' ⟨rfl, hw⟩; subst hw)
            all_goals first
              | (go_ret; exact ⟨ret_bool (HNo.out (okI_no (HFit.out) (by (try dsimp only); first | exact id | omega | (have e := ne_of ‹(xb != 0) = true›; omega) | (have e := eq_of ‹(xb != 0) = false›; omega) | (have e := ne_of ‹(xa != 0) = true›; omega) | (have e := eq_of ‹(xa != 0) = false›; omega) | (have e := ne_of ‹(xc != 0) = true›; omega) | (have e := eq_of ‹(xc != 0) = false›; omega)))), HF2.out _ _⟩)
              | (go_roundw; (case rel => exact ⟨k + 1, by omega, by go_num, Lib.hid (HB2.out _ _), Lib.hid (HYes.out (okI_mk HBare.out (HFit.out) (by (try dsimp only); first | exact id | omega | (have e := ne_of ‹(xb != 0) = true›; omega) | (have e := eq_of ‹(xb != 0) = false›; omega) | (have e := ne_of ‹(xa != 0) = true›; omega) | (have e := eq_of ‹(xa != 0) = false›; omega) | (have e := ne_of ‹(xc != 0) = true›; omega) | (have e := eq_of ‹(xc != 0) = false›; omega))))⟩); (case measure => simp [intOf]; omega))
          · have HE := Lib.hid (HNo.out (okI_bare (bare_not q0 xa xb xc hv)))
            go_wp2_with fail
            · exact absurd ⟨by assumption, by assumption, by assumption⟩ hv
            all_goals go_ret
            all_goals exact ⟨ret_bool HE.out, HF.out _⟩
        · rcases hc' with hc | hc | hc
          · by_cases hv : vk = 0 ∧ vn = 0 ∧ vs.toList = []
            · have HBare := Lib.hid (bare_zero op xa xb xc hv)
              have HQ := Lib.hid (formed_zero hv)
              have HS := Lib.hid (show ∀ W, Calls Try.prog 152 #[.string op] W fun e w' => e = .returned (.int .i64 1) ∧ w' = W from fun W => by have := codeShape_any op W; rw [hc] at this; exact this)
              have HFit := Lib.hid (fit2 (n := cl) (R := R) (i := k) (x := ⟨op, xa, xb, xc, (vk, vn, vs)⟩) hc)
              obtain ⟨rfl, rfl, hv⟩ := hv
              clear hc
              go_wp2_with fail
              refine (rformed_any 0 0 vs _).mono ?_
              rintro e w2 ⟨rfl, hw2⟩
              rw [HQ.out]
              subst hw2
              go_wp2_with (go_at_call 152; refine (HS.out _).mono ?_; rintro e w' ⟨rfl, hw⟩; subst hw)
              all_goals first
                | (go_ret; exact ⟨ret_bool (HNo.out (okI_no (HFit.out) (by (try dsimp only); first | exact id | omega | (have e := ne_of ‹(xb != 0) = true›; omega) | (have e := eq_of ‹(xb != 0) = false›; omega) | (have e := ne_of ‹(xa != 0) = true›; omega) | (have e := eq_of ‹(xa != 0) = false›; omega) | (have e := ne_of ‹(xc != 0) = true›; omega) | (have e := eq_of ‹(xc != 0) = false›; omega)))), HF2.out _ _⟩)
                | (go_roundw; (case rel => exact ⟨k + 1, by omega, by go_num, Lib.hid (HB2.out _ _), Lib.hid (HYes.out (okI_mk HBare.out (HFit.out) (by (try dsimp only); first | exact id | omega | (have e := ne_of ‹(xb != 0) = true›; omega) | (have e := eq_of ‹(xb != 0) = false›; omega) | (have e := ne_of ‹(xa != 0) = true›; omega) | (have e := eq_of ‹(xa != 0) = false›; omega) | (have e := ne_of ‹(xc != 0) = true›; omega) | (have e := eq_of ‹(xc != 0) = false›; omega))))⟩); (case measure => simp [intOf]; omega))
            · have HE := Lib.hid (HNo.out (okI_bare (bare_not q0 xa xb xc hv)))
              go_wp2_with fail
              · exact absurd ⟨by assumption, by assumption, by assumption⟩ hv
              all_goals go_ret
              all_goals exact ⟨ret_bool HE.out, HF.out _⟩
          · by_cases hv : vk = 0 ∧ vn = 0 ∧ vs.toList = []
            · have HBare := Lib.hid (bare_zero op xa xb xc hv)
              have HQ := Lib.hid (formed_zero hv)
              have HS := Lib.hid (show ∀ W, Calls Try.prog 152 #[.string op] W fun e w' => e = .returned (.int .i64 2) ∧ w' = W from fun W => by have := codeShape_any op W; rw [hc] at this; exact this)
              have HFit := Lib.hid (fit3 (n := cl) (R := R) (i := k) (x := ⟨op, xa, xb, xc, (vk, vn, vs)⟩) hc)
              obtain ⟨rfl, rfl, hv⟩ := hv
              clear hc
              go_wp2_with fail
              refine (rformed_any 0 0 vs _).mono ?_
              rintro e w2 ⟨rfl, hw2⟩
              rw [HQ.out]
              subst hw2
              go_wp2_with (go_at_call 152; refine (HS.out _).mono ?_; rintro e w' ⟨rfl, hw⟩; subst hw)
              all_goals first
                | (go_ret; exact ⟨ret_bool (HNo.out (okI_no (HFit.out) (by (try dsimp only); first | exact id | omega | (have e := ne_of ‹(xb != 0) = true›; omega) | (have e := eq_of ‹(xb != 0) = false›; omega) | (have e := ne_of ‹(xa != 0) = true›; omega) | (have e := eq_of ‹(xa != 0) = false›; omega) | (have e := ne_of ‹(xc != 0) = true›; omega) | (have e := eq_of ‹(xc != 0) = false›; omega)))), HF2.out _ _⟩)
                | (go_roundw; (case rel => exact ⟨k + 1, by omega, by go_num, Lib.hid (HB2.out _ _), Lib.hid (HYes.out (okI_mk HBare.out (HFit.out) (by (try dsimp only); first | exact id | omega | (have e := ne_of ‹(xb != 0) = true›; omega) | (have e := eq_of ‹(xb != 0) = false›; omega) | (have e := ne_of ‹(xa != 0) = true›; omega) | (have e := eq_of ‹(xa != 0) = false›; omega) | (have e := ne_of ‹(xc != 0) = true›; omega) | (have e := eq_of ‹(xc != 0) = false›; omega))))⟩); (case measure => simp [intOf]; omega))
            · have HE := Lib.hid (HNo.out (okI_bare (bare_not q0 xa xb xc hv)))
              go_wp2_with fail
              · exact absurd ⟨by assumption, by assumption, by assumption⟩ hv
              all_goals go_ret
              all_goals exact ⟨ret_bool HE.out, HF.out _⟩
          · by_cases hv : vk = 0 ∧ vn = 0 ∧ vs.toList = []
            · have HBare := Lib.hid (bare_zero op xa xb xc hv)
              have HQ := Lib.hid (formed_zero hv)
              have HS := Lib.hid (show ∀ W, Calls Try.prog 152 #[.string op] W fun e w' => e = .returned (.int .i64 (-1)) ∧ w' = W from fun W => by have := codeShape_any op W; rw [hc] at this; exact this)
              have HFit := Lib.hid (fit5 (n := cl) (R := R) (i := k) (x := ⟨op, xa, xb, xc, (vk, vn, vs)⟩) hc)
              obtain ⟨rfl, rfl, hv⟩ := hv
              clear hc
              go_wp2_with fail
              refine (rformed_any 0 0 vs _).mono ?_
              rintro e w2 ⟨rfl, hw2⟩
              rw [HQ.out]
              subst hw2
              go_wp2_with (go_at_call 152; refine (HS.out _).mono ?_; rintro e w' ⟨rfl, hw⟩; subst hw)
              all_goals first
                | (go_ret; exact ⟨ret_bool (HNo.out (okI_no (HFit.out) (by (try dsimp only); first | exact id | omega | (have e := ne_of ‹(xb != 0) = true›; omega) | (have e := eq_of ‹(xb != 0) = false›; omega) | (have e := ne_of ‹(xa != 0) = true›; omega) | (have e := eq_of ‹(xa != 0) = false›; omega) | (have e := ne_of ‹(xc != 0) = true›; omega) | (have e := eq_of ‹(xc != 0) = false›; omega)))), HF2.out _ _⟩)
                | (go_roundw; (case rel => exact ⟨k + 1, by omega, by go_num, Lib.hid (HB2.out _ _), Lib.hid (HYes.out (okI_mk HBare.out (HFit.out) (by (try dsimp only); first | exact id | omega | (have e := ne_of ‹(xb != 0) = true›; omega) | (have e := eq_of ‹(xb != 0) = false›; omega) | (have e := ne_of ‹(xa != 0) = true›; omega) | (have e := eq_of ‹(xa != 0) = false›; omega) | (have e := ne_of ‹(xc != 0) = true›; omega) | (have e := eq_of ‹(xc != 0) = false›; omega))))⟩); (case measure => simp [intOf]; omega))
            · have HE := Lib.hid (HNo.out (okI_bare (bare_not q0 xa xb xc hv)))
              go_wp2_with fail
              · exact absurd ⟨by assumption, by assumption, by assumption⟩ hv
              all_goals go_ret
              all_goals exact ⟨ret_bool HE.out, HF.out _⟩
        · by_cases hv : vk = 0 ∧ vn = 0 ∧ vs.toList = []
          · have HBare := Lib.hid (bare_zero op xa xb xc hv)
            have HQ := Lib.hid (formed_zero hv)
            have HFit := Lib.hid (fit4 (n := cl) (R := R) (i := k) (x := ⟨op, xa, xb, xc, (vk, vn, vs)⟩) hc)
            obtain ⟨rfl, rfl, hv⟩ := hv
            clear hc
            go_wp2_with fail
            refine (rformed_any 0 0 vs _).mono ?_
            rintro e w2 ⟨rfl, hw2⟩
            rw [HQ.out]
            subst hw2
            go_wp2
            all_goals first
              | (go_ret; exact ⟨ret_bool (HNo.out (okI_no (HFit.out) (by (try dsimp only); first | exact id | omega | (have e := ne_of ‹(xb != 0) = true›; omega) | (have e := eq_of ‹(xb != 0) = false›; omega) | (have e := ne_of ‹(xa != 0) = true›; omega) | (have e := eq_of ‹(xa != 0) = false›; omega) | (have e := ne_of ‹(xc != 0) = true›; omega) | (have e := eq_of ‹(xc != 0) = false›; omega)))), HF2.out _ _⟩)
              | (go_roundw; (case rel => exact ⟨k + 1, by omega, by go_num, Lib.hid (HB2.out _ _), Lib.hid (HYes.out (okI_mk HBare.out (HFit.out) (by (try dsimp only); first | exact id | omega | (have e := ne_of ‹(xb != 0) = true›; omega) | (have e := eq_of ‹(xb != 0) = false›; omega) | (have e := ne_of ‹(xa != 0) = true›; omega) | (have e := eq_of ‹(xa != 0) = false›; omega) | (have e := ne_of ‹(xc != 0) = true›; omega) | (have e := eq_of ‹(xc != 0) = false›; omega))))⟩); (case measure => simp [intOf]; omega))
          · have HE := Lib.hid (HNo.out (okI_bare (bare_not q0 xa xb xc hv)))
            go_wp2_with fail
            · exact absurd ⟨by assumption, by assumption, by assumption⟩ hv
            all_goals go_ret
            all_goals exact ⟨ret_bool HE.out, HF.out _⟩
        · by_cases hv : vk = 0 ∧ vn = 0 ∧ vs.toList = []
          · have HBare := Lib.hid (bare_zero op xa xb xc hv)
            have HQ := Lib.hid (formed_zero hv)
            have HFit := Lib.hid (fit4 (n := cl) (R := R) (i := k) (x := ⟨op, xa, xb, xc, (vk, vn, vs)⟩) hc)
            obtain ⟨rfl, rfl, hv⟩ := hv
            clear hc
            go_wp2_with fail
            refine (rformed_any 0 0 vs _).mono ?_
            rintro e w2 ⟨rfl, hw2⟩
            rw [HQ.out]
            subst hw2
            go_wp2
            all_goals first
              | (go_ret; exact ⟨ret_bool (HNo.out (okI_no (HFit.out) (by (try dsimp only); first | exact id | omega | (have e := ne_of ‹(xb != 0) = true›; omega) | (have e := eq_of ‹(xb != 0) = false›; omega) | (have e := ne_of ‹(xa != 0) = true›; omega) | (have e := eq_of ‹(xa != 0) = false›; omega) | (have e := ne_of ‹(xc != 0) = true›; omega) | (have e := eq_of ‹(xc != 0) = false›; omega)))), HF2.out _ _⟩)
              | (go_roundw; (case rel => exact ⟨k + 1, by omega, by go_num, Lib.hid (HB2.out _ _), Lib.hid (HYes.out (okI_mk HBare.out (HFit.out) (by (try dsimp only); first | exact id | omega | (have e := ne_of ‹(xb != 0) = true›; omega) | (have e := eq_of ‹(xb != 0) = false›; omega) | (have e := ne_of ‹(xa != 0) = true›; omega) | (have e := eq_of ‹(xa != 0) = false›; omega) | (have e := ne_of ‹(xc != 0) = true›; omega) | (have e := eq_of ‹(xc != 0) = false›; omega))))⟩); (case measure => simp [intOf]; omega))
          · have HE := Lib.hid (HNo.out (okI_bare (bare_not q0 xa xb xc hv)))
            go_wp2_with fail
            · exact absurd ⟨by assumption, by assumption, by assumption⟩ hv
            all_goals go_ret
            all_goals exact ⟨ret_bool HE.out, HF.out _⟩
      · have hkk : (cl : Int) ≤ (k : Int) := by omega
        have HE := Lib.hid (formedP_all HG.out (fun j hj => by have := HA.out j (by have := HL.out; omega); rw [HL.out]; exact this))
        have HF := Lib.hid (bt HB0.out HB.out)
        clear q0 q1
        go_wp2
        go_ret
        exact ⟨by rw [HE.out]; rfl, HF.out⟩
  · rw [formedP_not (by rw [hlen]; exact hg)]
    have HF := Lib.hid HB0.out
    clear hlen
    by_cases g1 : (cl : Int) < 1
    · go_enter Try.func121, Try.ntmps121
      go_wp2
      go_ret
      exact ⟨rfl, by rw [← HW.out]; exact HF.out⟩
    by_cases g2 : 1000 < (cl : Int)
    · go_enter Try.func121, Try.ntmps121
      go_wp2
      go_ret
      exact ⟨rfl, by rw [← HW.out]; exact HF.out⟩
    by_cases g3 : R < 1
    · go_enter Try.func121, Try.ntmps121
      go_wp2
      go_ret
      exact ⟨rfl, by rw [← HW.out]; exact HF.out⟩
    have g4 : 1000 < R := by omega
    go_enter Try.func121, Try.ntmps121
    go_wp2
    go_ret
    exact ⟨rfl, by rw [← HW.out]; exact HF.out⟩
end Go.Proofs.Ytafhgilikcablaa
