/- The package's taker: operator. -/
import Derived.Test.YtpinalpigefenaaGreatDoorTkWait
import Derived.Deep.RegionHeld3
namespace Go.Proofs.YtpinalpigefenaaGreatDoor
open Go.RowKit
set_option linter.unusedVariables false
set_option linter.unusedSimpArgs false
set_option maxRecDepth 100000
def OptrP (A : Nat → Prop) (N : Nat) (w : World) (wa : Option Addr) (wn wc : Nat) (ws : List Wd) (v : Value) (s : Tk) (ms : List PM) (o : Bs × Int) (e : Ending) (w' : World) : Prop :=
  e = .returned (.tuple #[.string (bs o.1), .int .i64 o.2]) ∧ TSt A N w' wa wn wc ws v s ms ∧ TTo N v v w w'
theorem word3 {w : World} {g : Nat} {k n : Int} {t : ByteArray} {T : TypeId} (h : w.heap[g]? = some (.cells #[.int .i64 k, .string t, .int .i64 n] T (0, 0))) : w.cell? ⟨g, 0, none⟩ = some (.int .i64 k) ∧ w.cell? ⟨g, 1, none⟩ = some (.string t) ∧ w.cell? ⟨g, 2, none⟩ = some (.int .i64 n) ∧ g < w.heap.size :=
  ⟨cell_of_row _ _ 0 _ _ _ h, cell_of_row _ _ 1 _ _ _ h, cell_of_row _ _ 2 _ _ _ h, (Array.getElem?_eq_some_iff.1 h).1⟩
set_option maxHeartbeats 12800000 in
theorem operator_any (A : Nat → Prop) (N : Nat) (w : World) (wa : Option Addr) (wn wc : Nat) (ws : List Wd) (v : Value) (s : Tk) (ms : List PM) (h : TSt A N w wa wn wc ws v s ms) :
    Calls Tryz.prog 177 #[.pointer (some ⟨N, 0, none⟩)] w (OptrP A N w wa wn wc ws v s ms (optrP ws s)) := by
  obtain ⟨c0, c1, -, -, fz⟩ := h.cells
  obtain ⟨hl, hn, hc⟩ := h.words
  have hN := h.low
  have HS := Lib.hid h
  have f0 := cellN c0
  have f1 := cellN c1
  clear fz
  by_cases hp : s.pos < wn
  rotate_left
  · have he : s.pos = wn := by have := h.pos; omega
    have HR := Lib.hid (show optrP ws s = ([], 0) by unfold optrP; rw [if_pos (by omega)])
    have ht1 : ((s.pos : Int) == (wn : Int)) = true := by simp [he]
    clear hl hc h c0 c1
    go_enter Tryz.func177, Tryz.ntmps177
    go_upto_region 1 with (fail)
    go_quiet (fail)
    go_wp2
    go_ret2
    rw [HR.out]
    exact ⟨rfl, HS.out.drewN nq, (TTo.refl _ _ _).drewN nq⟩
  obtain ⟨b, off, rfl, hbN, hb, hw⟩ := hc.resolve_left (by omega)
  obtain ⟨q0, q1, q2⟩ := hw s.pos hp
  have ht1 : ((s.pos : Int) == (wn : Int)) = false := by simp; omega
  have hp0 : (0 : Int) ≤ (s.pos : Int) := by omega
  have hp1 : (s.pos : Int) < (wn : Int) := by omega
  obtain ⟨k, hk⟩ : ∃ k, k = (wdAt ws s.pos).1 := ⟨_, rfl⟩
  obtain ⟨tl, htl⟩ : ∃ tl, tl = (wdAt ws s.pos).2.1 := ⟨_, rfl⟩
  obtain ⟨n, hn2⟩ : ∃ n, n = (wdAt ws s.pos).2.2 := ⟨_, rfl⟩
  have HO := Lib.hid (show optrP ws s = (if k = 1 then (if tl = [73, 83] then (tl, 4) else if tl = [79, 82] ∨ tl = [65, 78, 68] then (tl, levB tl) else ([], 0)) else if k = 4 then (tl, levB tl) else ([], 0)) by
    unfold optrP; rw [if_neg (by omega), hk, htl])
  rw [← hk] at q0
  rw [← htl] at q1
  rw [← hn2] at q2
  have HB := Lib.hid hb
  clear hk htl hn2 hw hc hl h c0 c1
  go_enter Tryz.func177, Tryz.ntmps177
  go_upto_region 1 with (fail)
  go_quiet (fail)
  have H2 := Lib.hid (HS.out.drewN nq)
  have HT := Lib.hid ((TTo.refl N v w).drewN nq)
  have q0 : (w.drewN nq).cell? ⟨b, off + s.pos * 3, none⟩ = some (.int .i64 k) := q0
  have q1 : (w.drewN nq).cell? ⟨b, off + s.pos * 3 + 1, none⟩ = some (.string (bs tl)) := q1
  have q2 : (w.drewN nq).cell? ⟨b, off + s.pos * 3 + 2, none⟩ = some (.int .i64 n) := q2
  have hb2 : b < (w.drewN nq).heap.size := HB.out
  generalize w.drewN nq = w2 at *
  clear f0 f1 hN hb
  obtain ⟨c0, c1, -, -, -⟩ := H2.out.cells
  have hN2 := H2.out.low
  go_upto_region 3 with (fail)
  have HK := Lib.hid (show ∀ W : World, Below w2.heap.size w2 W → (W.cell? ⟨N, 0, none⟩ = some (.slice (some ⟨b, off, none⟩) wn wc) ∧ W.cell? ⟨N, 1, none⟩ = some (.int .i64 (s.pos : Int)) ∧ W.cell? ⟨b, off + s.pos * 3, none⟩ = some (.int .i64 k) ∧ W.cell? ⟨b, off + s.pos * 3 + 1, none⟩ = some (.string (bs tl)) ∧ W.cell? ⟨b, off + s.pos * 3 + 2, none⟩ = some (.int .i64 n)) from fun W hW =>
    ⟨(hW.cell (p := ⟨N, 0, none⟩) hN2).trans c0, (hW.cell (p := ⟨N, 1, none⟩) hN2).trans c1, (hW.cell (p := ⟨b, off + s.pos * 3, none⟩) hb2).trans q0, (hW.cell (p := ⟨b, off + s.pos * 3 + 1, none⟩) hb2).trans q1, (hW.cell (p := ⟨b, off + s.pos * 3 + 2, none⟩) hb2).trans q2⟩)
  go_region_held3 (fun W => W.cell? ⟨N, 0, none⟩ = some (.slice (some ⟨b, off, none⟩) wn wc) ∧ W.cell? ⟨N, 1, none⟩ = some (.int .i64 (s.pos : Int)) ∧ W.cell? ⟨b, off + s.pos * 3, none⟩ = some (.int .i64 k) ∧ W.cell? ⟨b, off + s.pos * 3 + 1, none⟩ = some (.string (bs tl)) ∧ W.cell? ⟨b, off + s.pos * 3 + 2, none⟩ = some (.int .i64 n)) (exact HK.out _ (by repeat (first | exact Below.refl _ _ | refine bel0 _ ?_ | refine Below.drew ?_))) (fail)
  have HB23 := Lib.hid (show Below w2.heap.size w2 ((w2.alloc (.cells #[.int .i64 k, .string (bs tl), .int .i64 n] 283)).drew) from (bel0 _ (Below.refl _ _)).drew)
  have hx3 : ((w2.alloc (.cells #[.int .i64 k, .string (bs tl), .int .i64 n] 283)).drew).heap[w2.heap.size]? = some (.cells #[.int .i64 k, .string (bs tl), .int .i64 n] 283 (0, 0)) := Go.heap_alloc_new w2 _
  generalize ((w2.alloc (.cells #[.int .i64 k, .string (bs tl), .int .i64 n] 283)).drew) = w3 at *
  have H3 := Lib.hid (H2.out.below HB23.out)
  have HT3 := Lib.hid (HT.out.trans (.of_below HB23.out (Nat.le_of_lt hN2)))
  clear HK c0 c1 q0 q1 q2 hb2 hp0 hp1 ht1
  obtain ⟨x0, x1, x2, xN⟩ := word3 hx3
  clear hx3
  obtain ⟨x, hx⟩ : ∃ x, x = bs tl := ⟨_, rfl⟩
  have HX := Lib.hid hx
  have hxl : x.toList = tl := by rw [hx, bs_list]
  have HBL := Lib.hid (show ∀ W : World, Calls Tryz.prog 168 #[.string x] W fun e w' => e = .returned (.int .i64 (levB tl)) ∧ w' = W from fun W => by rw [hx]; exact binaryLevel_any tl W)
  rw [← hx] at x1
  clear hx
  have y1 := cellN x1
  have HFin := Lib.hid (show ∀ (o : Bs × Int) (e : Ending) (q : Nat), optrP ws s = o → e = .returned (.tuple #[.string (bs o.1), .int .i64 o.2]) → OptrP A N w (some ⟨b, off, none⟩) wn wc ws v s ms (optrP ws s) e (w3.drewN q) from fun o e q ho he => by rw [ho]; exact ⟨he, H3.out.drewN q, HT3.out.drewN q⟩)
  by_cases hk1 : k = 1
  · subst hk1
    by_cases ht : tl = [73, 83]
    · have e1 : (x.toList == [73, 83]) = true := by rw [hxl]; simp [ht]
      have HQ := Lib.hid (show optrP ws s = (tl, 4) by rw [HO.out, if_pos rfl, if_pos ht])
      go_wp2
      go_ret2
      exact HFin.out _ _ 0 HQ.out (by rw [HX.out]; rfl)
    · have e1 : (x.toList == [73, 83]) = false := by rw [hxl]; simp [ht]
      by_cases ho : tl = [79, 82] ∨ tl = [65, 78, 68]
      · have HQ := Lib.hid (show optrP ws s = (tl, levB tl) by rw [HO.out, if_pos rfl, if_neg ht, if_pos ho])
        have e2 : ((x.toList == [79, 82]) = true ∧ x = x) ∨ ((x.toList == [79, 82]) = false ∧ (x.toList == [65, 78, 68]) = true) := by rw [hxl]; rcases ho with h | h <;> simp [h]
        clear ho ht hxl
        rcases e2 with ⟨e2, -⟩ | ⟨e2, e3⟩
        all_goals
          go_upto_region 9 with (fail)
          go_quiet ((go_at_call 168; exact Calls.quiet_of_same (HBL.out _)))
          go_wp2
          go_ret2
          exact HFin.out _ _ _ HQ.out (by rw [HX.out]; rfl)
      · have HQ := Lib.hid (show optrP ws s = ([], 0) by rw [HO.out, if_pos rfl, if_neg ht, if_neg ho])
        have e2 : (x.toList == [79, 82]) = false := by rw [hxl]; exact beq_eq_false_iff_ne.2 (fun h => ho (.inl h))
        have e3 : (x.toList == [65, 78, 68]) = false := by rw [hxl]; exact beq_eq_false_iff_ne.2 (fun h => ho (.inr h))
        clear ho ht hxl
        go_wp2
        go_ret2
        exact HFin.out _ _ 0 HQ.out rfl
  · have k1 : (k == 1) = false := by simp [hk1]
    by_cases hk4 : k = 4
    · subst hk4
      have HQ := Lib.hid (show optrP ws s = (tl, levB tl) by rw [HO.out, if_neg (by decide), if_pos rfl])
      clear hxl hk1 k1
      go_upto_region 11 with (fail)
      go_quiet ((go_at_call 168; exact Calls.quiet_of_same (HBL.out _)))
      go_wp2
      go_ret2
      exact HFin.out _ _ _ HQ.out (by rw [HX.out]; rfl)
    · have k4 : (k == 4) = false := by simp [hk4]
      have HQ := Lib.hid (show optrP ws s = ([], 0) by rw [HO.out, if_neg hk1, if_neg hk4])
      go_wp2
      go_ret2
      exact HFin.out _ _ 0 HQ.out rfl
end Go.Proofs.YtpinalpigefenaaGreatDoor
