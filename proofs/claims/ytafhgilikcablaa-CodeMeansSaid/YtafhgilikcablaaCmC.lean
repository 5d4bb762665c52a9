/- code.Compile of any cell whose kinds fit, as far as it is not too deep and not too great. -/
import Derived.Test.YtafhgilikcablaaCmW1
import Derived.Test.YtafhgilikcablaaCmW3
import Derived.Test.YtafhgilikcablaaCmW0
namespace Go.Proofs.Ytafhgilikcablaa
open Go.RowKit
set_option linter.unusedVariables false
set_option linter.unusedSimpArgs false
set_option maxRecDepth 100000
theorem writer_all {c : CT} {k : Int} (h : Wk c k) : (k ≠ 3 → CmpI 75 c) ∧ (k = 3 → CmpI 74 c) := by
  induction h with
  | lit vk vn vs hf hn => exact ⟨fun _ => vw_lit vk vn vs, fun h => absurd h (lit_kind hf)⟩
  | col s c k hk => exact ⟨fun _ => vw_col s c, fun h => by omega⟩
  | not op p ho hp ih => exact ⟨fun h => absurd rfl h, fun _ => wt_not op p ho hp (ih.2 rfl)⟩
  | neg op p k ho hk hp ih => exact ⟨fun _ => vw_neg op p ho hp (ih.1 hk), fun h => absurd h (by decide)⟩
  | test op p k ho hk hp ih => exact ⟨fun h => absurd rfl h, fun _ => ho.elim (fun ho => wt_null op p ho hp (ih.1 hk)) (fun ho => wt_some op p ho hp (ih.1 hk))⟩
  | reck op p q k l ho hk hl hp hq ih1 ih2 => exact ⟨fun _ => vw_rec op p q ho hp hq (ih1.1 hk) (ih2.1 hl), fun h => absurd h (by decide)⟩
  | and op p q ho hp hq ih1 ih2 => exact ⟨fun h => absurd rfl h, fun _ => wt_and op p q ho hp hq (ih1.2 rfl) (ih2.2 rfl)⟩
  | or op p q ho hp hq ih1 ih2 => exact ⟨fun h => absurd rfl h, fun _ => wt_or op p q ho hp hq (ih1.2 rfl) (ih2.2 rfl)⟩
  | cmp op p q k l ho hk hl hp hq ih1 ih2 => exact ⟨fun h => absurd rfl h, fun _ => wt_cmp op p q ho hp hq (ih1.1 hk) (ih2.1 hl)⟩
end Go.Proofs.Ytafhgilikcablaa
namespace Go.Proofs.Ytafhgilikcablaa
open Go.RowKit
set_option linter.unusedVariables false
set_option linter.unusedSimpArgs false
set_option maxRecDepth 100000
theorem results_p2 {fn : Func} {p u : Tmp} (h : fn.results = #[.cell p 76, .tmp u]) (tmps : Array Value) (w : World) (g : Nat) (x y : Value)
    (hp : tmps.getD p undef = .pointer (some ⟨g, 0, none⟩)) (hg : w.heap[g]? = some (.cells #[x, y] 76 (0, 0))) :
    (results fn tmps).run Try.prog w = .ok (.tuple #[.agg #[x, y], tmps.getD u undef]) w := by
  have hp' : tmps[p]?.getD undef = .pointer (some ⟨g, 0, none⟩) := by simpa using hp
  have hl := run_loadVar_row (P := Try.prog) w g 76 76 #[x, y] (0, 0) _ hg Try.underlying76 rfl (by
    have : (Try.prog.info? 76).map (·.size) = some 2 := by kernel_rfl
    exact this)
  simp [results, h, hp', asAddr, hl]
theorem boxP {w : World} {N : Nat} {x y : Value} {T : TypeId} (h : w.heap[N]? = some (.cells #[x, y] T (0, 0))) (a b : Value) : ((w.setCell ⟨N, 0, none⟩ a).setCell ⟨N, 1, none⟩ b).heap[N]? = some (.cells #[a, b] T (0, 0)) :=
  Go.heap_setCell_same _ N 1 _ _ _ (Go.heap_setCell_same w N 0 _ _ _ h)
def CompP (w : World) (xs : List Ins) (rg : Int) (e : Ending) (w' : World) : Prop :=
  ∃ a cap, e = .returned (.tuple #[.agg #[.slice a xs.length cap, .int .i64 rg], .int .i64 0]) ∧ IsI w' a xs.length xs ∧ Below w.heap.size w w'
set_option maxHeartbeats 12800000 in
theorem compile_any {c : CT} {k : Int} (hwk : Wk c k) (hdp : dpC 20 c) (hsz : ctSz c ≤ 300) (w : World) (Q : Nat → Prop) (v : Value) (hv : CV w Q v c) :
    Calls Try.prog 33 #[v] w (CompP w (cmpC c 0 0) (regsF 0 (cmpC c 0 0))) := by
  have HTr := Lib.hid (wk_tru hwk)
  have HWr := Lib.hid (writer_all hwk)
  have HWk := Lib.hid hwk
  have HDp := Lib.hid hdp
  have HSz := Lib.hid hsz
  obtain ⟨sa, sc, rfl, hrg, hel⟩ := hv
  have hel := hel.mono (Q' := fun b => b < w.heap.size) (fun b _ hb => hb)
  have e0 : (ctX c sa sc).toArray = #[.int .i64 c.kind, .string c.op, .int .i64 c.vk, .int .i64 c.vn, .string c.vs, .int .i64 c.src, .int .i64 c.col, .slice sa c.parts.length sc] := rfl
  rw [e0]
  have HCv := Lib.hid (show ∀ W, Below w.heap.size w W → CV W (fun b => b < w.heap.size) (.agg #[.int .i64 c.kind, .string c.op, .int .i64 c.vk, .int .i64 c.vn, .string c.vs, .int .i64 c.src, .int .i64 c.col, .slice sa c.parts.length sc]) c from fun W hW => ⟨sa, sc, rfl, hrg, hel.keep hW⟩)
  obtain ⟨X, hX⟩ : ∃ X : Array Value, X = #[.int .i64 c.kind, .string c.op, .int .i64 c.vk, .int .i64 c.vn, .string c.vs, .int .i64 c.src, .int .i64 c.col, .slice sa c.parts.length sc] := ⟨_, rfl⟩
  have HB := Lib.hid (bel0 (.cells #[.slice none 0 0, .int .i64 0] 76) (bel0 (.cells #[.int .i64 c.kind, .string c.op, .int .i64 c.vk, .int .i64 c.vn, .string c.vs, .int .i64 c.src, .int .i64 c.col, .slice sa c.parts.length sc] 46) (Below.refl w.heap.size w)))
  have HBX := Lib.hid (boxes2 w (.cells #[.int .i64 c.kind, .string c.op, .int .i64 c.vk, .int .i64 c.vn, .string c.vs, .int .i64 c.src, .int .i64 c.col, .slice sa c.parts.length sc] 46 (0, 0)) (.cells #[.slice none 0 0, .int .i64 0] 76 (0, 0)))
  clear hwk hdp hsz hrg hel e0 hX
  clear X
  go_enter Try.func33, Try.ntmps33
  go_upto_region 1 with (fail)
  generalize ((w.alloc (.cells #[.int .i64 c.kind, .string c.op, .int .i64 c.vk, .int .i64 c.vn, .string c.vs, .int .i64 c.src, .int .i64 c.col, .slice sa c.parts.length sc] 46)).alloc (.cells #[.slice none 0 0, .int .i64 0] 76)) = w1 at *
  have HC := Lib.hid (show ∀ W : World, Below w1.heap.size w1 W → W.heap[w.heap.size]? = some (.cells #[.int .i64 c.kind, .string c.op, .int .i64 c.vk, .int .i64 c.vn, .string c.vs, .int .i64 c.src, .int .i64 c.col, .slice sa c.parts.length sc] 46 (0, 0)) ∧ W.heap[w.heap.size + 1]? = some (.cells #[.slice none 0 0, .int .i64 0] 76 (0, 0)) ∧ w.heap.size + 1 < W.heap.size from fun W h => by
    obtain ⟨⟨h0, h1⟩, hz⟩ := HBX.out
    have k0 := (h.block w.heap.size (by omega)).trans h0
    have k1 := (h.block (w.heap.size + 1) (by omega)).trans h1
    exact ⟨k0, k1, (Array.getElem?_eq_some_iff.1 k1).1⟩)
  clear HBX
  go_upto_region 2 with (fail)
  have hn2 : (w1.alloc (.cells #[.int .i64 300] 3)).heap[w1.heap.size]? = some (.cells #[.int .i64 300] 3 (0, 0)) := Go.heap_alloc_new w1 _
  have HB2 := Lib.hid (show Below w1.heap.size w1 (w1.alloc (.cells #[.int .i64 300] 3)) from bel0 _ (Below.refl _ _))
  generalize w1.alloc (.cells #[.int .i64 300] 3) = w2 at *
  have HLe := Lib.hid (show LeftAt w2 w1.heap.size (ctSz c + (300 - ctSz c)) by unfold LeftAt; rw [show ctSz c + (300 - ctSz c) = 300 by have := HSz.out; omega]; exact hn2)
  have HG2 := Lib.hid (show w1.heap.size < w2.heap.size from (Array.getElem?_eq_some_iff.1 hn2).1)
  clear hn2
  obtain ⟨hE, hP, cN⟩ := HC.out w2 HB2.out
  obtain ⟨e0, e1, e2, e3, e4, e5, e6, e7⟩ := cellsE hE
  have cE : w.heap.size < w2.heap.size := by omega
  clear hE hP
  go_wp2_with fail
  refine (cshaped_any 20 (Nat.le_refl _) c k HWk.out HDp.out _ _ _ w1.heap.size (300 - ctSz c) (HCv.out _ (bt HB.out HB2.out)) (fun b hb => by have := HB.out.size; have hz := (HC.out w1 (Below.refl _ _)).2.2; show b ≠ w1.heap.size; have : b < w.heap.size := hb; omega) HG2.out HLe.out (by have := HSz.out; omega)).mono ?_
  rintro e' w3 ⟨rfl, hs3, -⟩
  have HB3 := Lib.hid (Below.sto HB2.out hs3 (Nat.le_refl _) HB2.out.size)
  clear hs3 e0 e1 e2 e3 e4 e5 e6 e7 cE cN
  go_upto_region 5 with (fail)
  have hn4 := Go.heap_alloc_new w3 (.cells #[.slice none 0 0, .int .i64 0] 142 (0, 0))
  have HB34 := Lib.hid (show Below w3.heap.size w3 (w3.alloc (.cells #[.slice none 0 0, .int .i64 0] 142)) from bel0 _ (Below.refl _ _))
  generalize (w3.alloc (.cells #[.slice none 0 0, .int .i64 0] 142)) = w4 at *
  have HW4 := Lib.hid (show WSt w4 w3.heap.size (.slice none 0 0) [] 0 from ⟨hn4, World.ownsRow_nil _ _ _ _⟩)
  clear hn4
  have HB4 := Lib.hid (bt HB3.out HB34.out)
  obtain ⟨hE, hP, cN⟩ := HC.out w4 HB4.out
  obtain ⟨e0, e1, e2, e3, e4, e5, e6, e7⟩ := cellsE hE
  have cE : w.heap.size < w4.heap.size := by omega
  clear hE hP
  go_wp2_with fail
  refine (truthful_any c _ _ _ (HCv.out _ (bt HB.out HB4.out))).mono ?_
  rintro e' w5 ⟨rfl, hb5⟩
  rw [HTr.out]
  have HW5 := Lib.hid (HW4.out.below hb5)
  have HB45 := Lib.hid (show Below w4.heap.size w4 w5 from hb5)
  have HB5 := Lib.hid (bt HB4.out hb5)
  clear hb5 e0 e1 e2 e3 e4 e5 e6 e7 cE cN
  obtain ⟨hE, hP, cN⟩ := HC.out w5 HB5.out
  obtain ⟨e0, e1, e2, e3, e4, e5, e6, e7⟩ := cellsE hE
  have cE : w.heap.size < w5.heap.size := by omega
  clear hE hP
  have HNw := Lib.hid (show w.heap.size + 1 < w3.heap.size from (HC.out w3 HB3.out).2.2)
  have HOk := Lib.hid (show WOk ([] : List Ins).length 0 0 (ctSz c) from ⟨by have := HSz.out; simp; omega, by have := HSz.out; omega, Int.le_refl _, by omega⟩)
  by_cases hk : k = 3
  · have hkb : (k == 3) = true := by simp [hk]
    have HT := Lib.hid (HWr.out.2 hk)
    rw [hkb]
    clear hkb hk
    go_wp2_with fail
    refine (HT.out _ w3.heap.size (.slice none 0 0) [] 0 0 _ _ HW5.out (HCv.out _ (bt HB.out HB5.out)) (fun b hb => by have := HNw.out; have : b < w.heap.size := hb; omega) HOk.out).mono ?_
    rintro e' w6 ⟨rfl, v6, hs6, ht6⟩
    rw [List.nil_append] at hs6
    have HS6 := Lib.hid hs6
    have HB6 := Lib.hid (show Below w1.heap.size w1 w6 from HB5.out.trans (ht6.below.mono (by have := HB3.out.size; omega)))
    clear hs6 ht6 e0 e1 e2 e3 e4 e5 e6 e7 cE cN
    obtain ⟨a6, c6, he⟩ := own_sliceW HS6.out.own
    subst he
    have f0 := cell_of_row _ _ 0 _ _ _ HS6.out.rd
    have f1 := cell_of_row _ _ 1 _ _ _ HS6.out.rd
    simp only [List.getElem?_toArray, List.getElem?_cons_zero, List.getElem?_cons_succ] at f0 f1
    have hN6 := HS6.out.low
    obtain ⟨-, hP, cN⟩ := HC.out w6 HB6.out
    have HP6 := Lib.hid hP
    have p0 : ∀ j, w6.frozen? ⟨w.heap.size + 1, j, none⟩ = false := fun j => frozen_of_row _ _ j _ _ hP
    have q0 : w6.cell? ⟨w.heap.size + 1, 0, none⟩ = some (.slice none 0 0) := cell_of_row _ _ 0 _ _ _ hP
    have q1 : w6.cell? ⟨w.heap.size + 1, 1, none⟩ = some (.int .i64 0) := cell_of_row _ _ 1 _ _ _ hP
    have HR6 := Lib.hid (boxP hP (.slice a6 (cmpC c 0 0).length c6) (.int .i64 (regsF 0 (cmpC c 0 0))))
    have HO6 := Lib.hid (own_set_low (own_set_low HS6.out.own (p := ⟨w.heap.size + 1, 0, none⟩) (by show w.heap.size + 1 < w3.heap.size + 1; have := HNw.out; omega) (.slice a6 (cmpC c 0 0).length c6)) (p := ⟨w.heap.size + 1, 1, none⟩) (by show w.heap.size + 1 < w3.heap.size + 1; have := HNw.out; omega) (.int .i64 (regsF 0 (cmpC c 0 0))))
    have HB7 := Lib.hid (show Below w.heap.size w ((w6.setCell ⟨w.heap.size + 1, 0, none⟩ (.slice a6 (cmpC c 0 0).length c6)).setCell ⟨w.heap.size + 1, 1, none⟩ (.int .i64 (regsF 0 (cmpC c 0 0)))) from ((bt HB.out HB6.out).setCell (p := ⟨w.heap.size + 1, 0, none⟩) (Nat.le_succ _) _).setCell (p := ⟨w.heap.size + 1, 1, none⟩) (Nat.le_succ _) _)
    clear hP
    go_wp2
    refine bodyPost_ret (results_p2 rfl _ _ (w.heap.size + 1) _ _ rfl HR6.out) rfl ?_
    obtain ⟨a, cap, he, hi⟩ := own_isI HO6.out
    cases he
    exact ⟨_, _, rfl, hi, HB7.out⟩
  · have hkb : (k == 3) = false := by simp [hk]
    have HT := Lib.hid (HWr.out.1 hk)
    rw [hkb]
    clear hkb hk
    go_wp2_with fail
    refine (HT.out _ w3.heap.size (.slice none 0 0) [] 0 0 _ _ HW5.out (HCv.out _ (bt HB.out HB5.out)) (fun b hb => by have := HNw.out; have : b < w.heap.size := hb; omega) HOk.out).mono ?_
    rintro e' w6 ⟨rfl, v6, hs6, ht6⟩
    rw [List.nil_append] at hs6
    have HS6 := Lib.hid hs6
    have HB6 := Lib.hid (show Below w1.heap.size w1 w6 from HB5.out.trans (ht6.below.mono (by have := HB3.out.size; omega)))
    clear hs6 ht6 e0 e1 e2 e3 e4 e5 e6 e7 cE cN
    obtain ⟨a6, c6, he⟩ := own_sliceW HS6.out.own
    subst he
    have f0 := cell_of_row _ _ 0 _ _ _ HS6.out.rd
    have f1 := cell_of_row _ _ 1 _ _ _ HS6.out.rd
    simp only [List.getElem?_toArray, List.getElem?_cons_zero, List.getElem?_cons_succ] at f0 f1
    have hN6 := HS6.out.low
    obtain ⟨-, hP, cN⟩ := HC.out w6 HB6.out
    have HP6 := Lib.hid hP
    have p0 : ∀ j, w6.frozen? ⟨w.heap.size + 1, j, none⟩ = false := fun j => frozen_of_row _ _ j _ _ hP
    have q0 : w6.cell? ⟨w.heap.size + 1, 0, none⟩ = some (.slice none 0 0) := cell_of_row _ _ 0 _ _ _ hP
    have q1 : w6.cell? ⟨w.heap.size + 1, 1, none⟩ = some (.int .i64 0) := cell_of_row _ _ 1 _ _ _ hP
    have HR6 := Lib.hid (boxP hP (.slice a6 (cmpC c 0 0).length c6) (.int .i64 (regsF 0 (cmpC c 0 0))))
    have HO6 := Lib.hid (own_set_low (own_set_low HS6.out.own (p := ⟨w.heap.size + 1, 0, none⟩) (by show w.heap.size + 1 < w3.heap.size + 1; have := HNw.out; omega) (.slice a6 (cmpC c 0 0).length c6)) (p := ⟨w.heap.size + 1, 1, none⟩) (by show w.heap.size + 1 < w3.heap.size + 1; have := HNw.out; omega) (.int .i64 (regsF 0 (cmpC c 0 0))))
    have HB7 := Lib.hid (show Below w.heap.size w ((w6.setCell ⟨w.heap.size + 1, 0, none⟩ (.slice a6 (cmpC c 0 0).length c6)).setCell ⟨w.heap.size + 1, 1, none⟩ (.int .i64 (regsF 0 (cmpC c 0 0)))) from ((bt HB.out HB6.out).setCell (p := ⟨w.heap.size + 1, 0, none⟩) (Nat.le_succ _) _).setCell (p := ⟨w.heap.size + 1, 1, none⟩) (Nat.le_succ _) _)
    clear hP
    go_wp2
    refine bodyPost_ret (results_p2 rfl _ _ (w.heap.size + 1) _ _ rfl HR6.out) rfl ?_
    obtain ⟨a, cap, he, hi⟩ := own_isI HO6.out
    cases he
    exact ⟨_, _, rfl, hi, HB7.out⟩
end Go.Proofs.Ytafhgilikcablaa
