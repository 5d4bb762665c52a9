/- The lexer's laws: what their first world has; the wrap that hands on the world's shape beside what lies as it is laid. -/
import Derived.Test.YtpinalpigefenaaGreatDoorBkPr
import Derived.Test.YtpinalpigefenaaGreatDoorEfAw
import Derived.Test.YtpinalpigefenaaGreatDoorEtSame
import Derived.Test.YtpinalpigefenaaGreatDoorEtTh
import Derived.Deep.RegionHeld3
import Derived.Test.YtpinalpigefenaaGreatDoorLwNum
import Derived.Shelf.Vars
import Derived.Handed
import Derived.MakeChecks
set_option linter.unusedVariables false
set_option linter.unusedSimpArgs false
set_option maxRecDepth 100000
namespace Go.Proofs.YtpinalpigefenaaGreatDoor
open Go.RowKit
/-- a formed expression's text is read as the expression, or is too long -/
theorem back_parse {e : ET} (h : fmdB e = true) (hn : numE 8 e) : ParseP (prT 8 e) = (zET, 5) ∨ ParseP (prT 8 e) = (e, 0) := by
  have hf := fm_of 8 e h
  have hw : wordsA (prT 8 e) = .no eL ∨ wordsA (prT 8 e) = .ok (wT 8 e) := by
    unfold wordsA
    split
    · exact .inl rfl
    · exact text_words hf hn
  unfold ParseP
  rcases hw with hw | hw
  · rw [hw]; exact .inl rfl
  · rw [hw]
    dsimp only
    rw [take_back kws_no hf]
    right
    simp
set_option maxHeartbeats 12800000 in
theorem exprBack_walk (e : ET) (w : World) (hv : VOk w) (hp : PowOk w) (hN : gMax < w.heap.size ∧ gErr < w.heap.size) (Q : Nat → Prop) (ve : Value) (hve : EV w Q ve e) :
    Calls Tryz.prog 3 #[ve] w fun e' w' => e' = .returned (.bool true) ∧ Below w.heap.size w w' := by
  have hnum := hve.numE 8
  obtain ⟨pa, pc, rfl, hrg, hel⟩ := hve
  have HEe := Lib.hid (show ∀ W, Below w.heap.size w W → EV W Q (.agg #[.int .i64 e.kind, .string e.op, .int .i64 e.vk, .int .i64 e.vn, .string e.vs, .string e.tab, .string e.col, .slice pa e.parts.length pc]) e from fun W hW => ⟨pa, pc, rfl, hrg, hel.keep hW⟩)
  have HVw := Lib.hid (show ∀ W, Below w.heap.size w W → VOk W ∧ PowOk W ∧ (gMax < W.heap.size ∧ gErr < W.heap.size) from fun W hW => ⟨hv.below hW hN, hp.below hW hp.lt, by have := hW.size; omega⟩)
  have HA := Lib.hid (show ∀ W, Below w.heap.size w W → Calls Tryz.prog 9 #[] W fun e w' => e = .returned (.bool true) ∧ Below W.heap.size W w' from fun W hW => awake06 W (HVw.out W hW).1 (HVw.out W hW).2.2)
  have HBk := Lib.hid (fun h => back_parse (e := e) h hnum)
  have HSz8 := Lib.hid (show fmdB e = true → (prT 8 e).length ≤ 1000000 from fun h => by
    have h256 : (2 : Nat) ^ 8 = 256 := by decide
    have := len_pK nm_small (fm_of 8 e h) hnum
    unfold prT
    omega)
  rw [etX_arr]
  clear hv hp hrg hel hnum
  have HB := Lib.hid (bel0 (.cells #[.int .i64 e.kind, .string e.op, .int .i64 e.vk, .int .i64 e.vn, .string e.vs, .string e.tab, .string e.col, .slice pa e.parts.length pc] 26) (Below.refl w.heap.size w))
  have HX := Lib.hid (Go.heap_alloc_new w (.cells #[.int .i64 e.kind, .string e.op, .int .i64 e.vk, .int .i64 e.vn, .string e.vs, .string e.tab, .string e.col, .slice pa e.parts.length pc] 26 (0, 0)))
  go_enter Tryz.func3, Tryz.ntmps3
  go_upto_region 1 with (fail)
  generalize w.alloc (.cells #[.int .i64 e.kind, .string e.op, .int .i64 e.vk, .int .i64 e.vn, .string e.vs, .string e.tab, .string e.col, .slice pa e.parts.length pc] 26) = w1 at *
  have HC := Lib.hid (show ∀ W : World, Below w1.heap.size w1 W → W.heap[w.heap.size]? = some (.cells #[.int .i64 e.kind, .string e.op, .int .i64 e.vk, .int .i64 e.vn, .string e.vs, .string e.tab, .string e.col, .slice pa e.parts.length pc] 26 (0, 0)) from fun W h => (h.block _ (Array.getElem?_eq_some_iff.1 HX.out).1).trans HX.out)
  go_wp2_with fail
  refine (HA.out _ HB.out).mono ?_
  rintro e' w2 ⟨rfl, hb2⟩
  have HB2 := Lib.hid (show Below w1.heap.size w1 w2 from hb2)
  have HBw2 := Lib.hid (bt HB.out hb2)
  clear hb2
  obtain ⟨e0, e1, e2, e3, e4, e5, e6, e7⟩ := cells8E (HC.out _ HB2.out)
  go_wp2_with fail
  refine (small_any _ Q _ e (HEe.out _ HBw2.out)).mono ?_
  rintro e' w4 ⟨rfl, hb4⟩
  have HB4 := Lib.hid (bt HB2.out hb4)
  have HBw4 := Lib.hid (bt HBw2.out hb4)
  clear hb4 e0 e1 e2 e3 e4 e5 e6 e7
  cases hse : smallB e with
  | false =>
    go_wp2_with fail
    refine (HA.out _ HBw4.out).mono ?_
    rintro e' w9 ⟨rfl, hb9⟩
    have HB9 := Lib.hid (bt HBw4.out hb9)
    clear hb9
    go_wp2_with fail
    go_ret
    exact ⟨rfl, HB9.out⟩
  | true =>
  have HSe := Lib.hid (small_sz hse)
  clear hse
  have HTh := Lib.hid (show ∀ W, Below w4.heap.size w4 W → Calls Tryz.prog 12 #[.agg #[.int .i64 e.kind, .string e.op, .int .i64 e.vk, .int .i64 e.vn, .string e.vs, .string e.tab, .string e.col, .slice pa e.parts.length pc]] W fun e' w' => (∃ r, e' = .returned r ∧ EV w' (fun b => W.heap.size ≤ b) r e) ∧ Below W.heap.size W w' from fun W h => etheirs_any (etSz e) e (Nat.le_refl _) (by have := HSe.out; omega) W Q _ (HEe.out _ (bt HBw4.out h)))
  obtain ⟨e0, e1, e2, e3, e4, e5, e6, e7⟩ := cells8E (HC.out _ HB4.out)
  go_upto_region 3 with (fail)
  go_wp2_with fail
  refine (HTh.out w4 (Below.refl _ _)).mono ?_
  rintro e' w5 ⟨⟨r, rfl, hr⟩, hb5⟩
  have HB5 := Lib.hid (bt HB4.out hb5)
  have HBw5 := Lib.hid (bt HBw4.out hb5)
  have HB45 := Lib.hid (show Below w4.heap.size w4 w5 from hb5)
  have HR := Lib.hid hr
  clear hb5 hr e0 e1 e2 e3 e4 e5 e6 e7
  have hvw := HVw.out _ HBw5.out
  have HPr := Lib.hid (print_any w5 _ r e HR.out hvw.1 hvw.2.1 hvw.2.2)
  clear hvw
  obtain ⟨s, hs⟩ : ∃ s, s = (PrintP e).1 := ⟨_, rfl⟩
  obtain ⟨no, hno⟩ : ∃ no, no = (PrintP e).2 := ⟨_, rfl⟩
  rw [← hs, ← hno] at HPr
  have HPP := Lib.hid (show (fmdB e = true ∧ s = ⟨(prT 8 e).toArray⟩ ∧ no = 0) ∨ (s = ⟨#[]⟩ ∧ no = 1) by
    rw [hs, hno]
    unfold PrintP
    cases h : fmdB e
    · exact .inr ⟨rfl, rfl⟩
    · exact .inl ⟨rfl, rfl, rfl⟩)
  clear hs hno
  go_wp2_with fail
  refine HPr.out.mono ?_
  rintro e' w6 ⟨rfl, hb6⟩
  have HB6 := Lib.hid (bt HB5.out hb6)
  have HBw6 := Lib.hid (bt HBw5.out hb6)
  have HB46 := Lib.hid (bt HB45.out hb6)
  clear hb6
  rcases HPP.out with ⟨hf, rfl, rfl⟩ | ⟨rfl, rfl⟩
  rotate_left
  · go_wp2
    go_ret
    exact ⟨rfl, HBw6.out⟩
  have hvw := HVw.out _ HBw6.out
  have HPa := Lib.hid (parse_any ⟨(prT 8 e).toArray⟩ w6 hvw.1 hvw.2.2 (by have := HSz8.out hf; simp [ByteArray.size]; omega))
  have HBk2 := Lib.hid (show ParseP (⟨(prT 8 e).toArray⟩ : ByteArray).data.toList = (zET, 5) ∨ ParseP (⟨(prT 8 e).toArray⟩ : ByteArray).data.toList = (e, 0) from HBk.out hf)
  obtain ⟨s, hs⟩ : ∃ s : ByteArray, s = ⟨(prT 8 e).toArray⟩ := ⟨_, rfl⟩
  obtain ⟨pr, hpr⟩ : ∃ pr, pr = ParseP s.data.toList := ⟨_, rfl⟩
  rw [← hs] at HPa HBk2 ⊢
  rw [← hpr] at HPa HBk2
  clear hvw hf hs hpr
  go_wp2_with fail
  refine HPa.out.mono ?_
  rintro e' w7 ⟨⟨ev, rfl, hev⟩, hb7⟩
  have HB7 := Lib.hid (bt HB6.out hb7)
  have HBw7 := Lib.hid (bt HBw6.out hb7)
  have HB47 := Lib.hid (bt HB46.out hb7)
  obtain ⟨E, no⟩ := pr
  dsimp only at hev ⊢
  obtain ⟨ra, rc, rfl, hrr, hrl⟩ := hev
  rw [etX_arr]
  clear hb7
  have HBx := Lib.hid (bel0 (.cells #[.int .i64 E.kind, .string E.op, .int .i64 E.vk, .int .i64 E.vn, .string E.vs, .string E.tab, .string E.col, .slice ra E.parts.length rc] 34) (Below.refl w7.heap.size w7))
  have HXx := Lib.hid (Go.heap_alloc_new w7 (.cells #[.int .i64 E.kind, .string E.op, .int .i64 E.vk, .int .i64 E.vn, .string E.vs, .string E.tab, .string E.col, .slice ra E.parts.length rc] 34 (0, 0)))
  have HEx := Lib.hid (show ∀ W, Below w7.heap.size w7 W → EV W (fun b => w6.heap.size ≤ b) (.agg #[.int .i64 E.kind, .string E.op, .int .i64 E.vk, .int .i64 E.vn, .string E.vs, .string E.tab, .string E.col, .slice ra E.parts.length rc]) E from fun W hW => ⟨ra, rc, rfl, hrr, hrl.keep hW⟩)
  clear hrr hrl
  go_upto_region 7 with (fail)
  have HB78 := Lib.hid (show Below w7.heap.size w7 (w7.alloc (.cells #[.int .i64 E.kind, .string E.op, .int .i64 E.vk, .int .i64 E.vn, .string E.vs, .string E.tab, .string E.col, .slice ra E.parts.length rc] 34)) from bel0 _ (Below.refl _ _))
  generalize w7.alloc (.cells #[.int .i64 E.kind, .string E.op, .int .i64 E.vk, .int .i64 E.vn, .string E.vs, .string E.tab, .string E.col, .slice ra E.parts.length rc] 34) = w8 at *
  have HB8 := Lib.hid (bt HB7.out HB78.out)
  have HBw8 := Lib.hid (bt HBw7.out HB78.out)
  have HB48 := Lib.hid (bt HB47.out HB78.out)
  rcases HBk2.out with hq | hq
  · obtain ⟨rfl, rfl⟩ := Prod.mk.inj hq
    clear hq HBk2
    refine wp_region_fut (by kernel_rfl) (by kernel_rfl) ?_
    repeat (go_big_quiet_step (fail))
    refine wpQuiet_nil ?_
    rintro _ ⟨s3, rfl⟩
    have HB9 := Lib.hid (bt HBw8.out s3.bel)
    generalize s3.to = w9 at *
    clear s3
    go_wp2
    go_ret
    exact ⟨rfl, HB9.out⟩
  · obtain ⟨rfl, rfl⟩ := Prod.mk.inj hq
    clear hq HBk2
    have HKp := Lib.hid (show ∀ W : World, Below w8.heap.size w8 W → (W.cell? ⟨w7.heap.size, 0, none⟩ = some (.int .i64 E.kind) ∧ W.cell? ⟨w7.heap.size, 1, none⟩ = some (.string E.op) ∧ W.cell? ⟨w7.heap.size, 2, none⟩ = some (.int .i64 E.vk) ∧ W.cell? ⟨w7.heap.size, 3, none⟩ = some (.int .i64 E.vn) ∧ W.cell? ⟨w7.heap.size, 4, none⟩ = some (.string E.vs) ∧ W.cell? ⟨w7.heap.size, 5, none⟩ = some (.string E.tab) ∧ W.cell? ⟨w7.heap.size, 6, none⟩ = some (.string E.col) ∧ W.cell? ⟨w7.heap.size, 7, none⟩ = some (.slice ra E.parts.length rc) ∧ W.cell? ⟨w.heap.size, 0, none⟩ = some (.int .i64 E.kind) ∧ W.cell? ⟨w.heap.size, 1, none⟩ = some (.string E.op) ∧ W.cell? ⟨w.heap.size, 2, none⟩ = some (.int .i64 E.vk) ∧ W.cell? ⟨w.heap.size, 3, none⟩ = some (.int .i64 E.vn) ∧ W.cell? ⟨w.heap.size, 4, none⟩ = some (.string E.vs) ∧ W.cell? ⟨w.heap.size, 5, none⟩ = some (.string E.tab) ∧ W.cell? ⟨w.heap.size, 6, none⟩ = some (.string E.col) ∧ W.cell? ⟨w.heap.size, 7, none⟩ = some (.slice pa E.parts.length pc)) from fun W hW => by
      obtain ⟨a0, a1, a2, a3, a4, a5, a6, a7⟩ := cells8E ((hW.block _ (Array.getElem?_eq_some_iff.1 HXx.out).1).trans HXx.out)
      obtain ⟨b0, b1, b2, b3, b4, b5, b6, b7⟩ := cells8E (HC.out W (bt HB8.out hW))
      exact ⟨a0, a1, a2, a3, a4, a5, a6, a7, b0, b1, b2, b3, b4, b5, b6, b7⟩)
    have HTe := Lib.hid (show ∀ W, Below w8.heap.size w8 W → Calls Tryz.prog 12 #[.agg #[.int .i64 E.kind, .string E.op, .int .i64 E.vk, .int .i64 E.vn, .string E.vs, .string E.tab, .string E.col, .slice pa E.parts.length pc]] W fun e' w' => (∃ r, e' = .returned r ∧ EV w' (fun b => W.heap.size ≤ b) r E) ∧ Below W.heap.size W w' from fun W h => HTh.out W (bt HB48.out h))
    have HSm := Lib.hid (show ∀ (W : World) (Q' : Nat → Prop) (r : Value), EV W Q' r E → Below w8.heap.size w8 W → Calls Tryz.prog 14 #[.agg #[.int .i64 E.kind, .string E.op, .int .i64 E.vk, .int .i64 E.vn, .string E.vs, .string E.tab, .string E.col, .slice ra E.parts.length rc], r] W fun e' w' => e' = .returned (.bool true) ∧ Below W.heap.size W w' from fun W Q' r hr hW => by
      have h := sameE_any (etSz E) E (Nat.le_refl _) E W _ Q' _ r (HEx.out W (bt HB78.out hW)) hr
      rw [sameE_refl (etSz E) E (Nat.le_refl _)] at h
      exact h)
    have HN := Lib.hid (Below.refl w8.heap.size w8)
    have HEV := Lib.hid trivial
    refine wp_region_noPanic ?_
    go_region_held3 (fun W => W.cell? ⟨w7.heap.size, 0, none⟩ = some (.int .i64 E.kind) ∧ W.cell? ⟨w7.heap.size, 1, none⟩ = some (.string E.op) ∧ W.cell? ⟨w7.heap.size, 2, none⟩ = some (.int .i64 E.vk) ∧ W.cell? ⟨w7.heap.size, 3, none⟩ = some (.int .i64 E.vn) ∧ W.cell? ⟨w7.heap.size, 4, none⟩ = some (.string E.vs) ∧ W.cell? ⟨w7.heap.size, 5, none⟩ = some (.string E.tab) ∧ W.cell? ⟨w7.heap.size, 6, none⟩ = some (.string E.col) ∧ W.cell? ⟨w7.heap.size, 7, none⟩ = some (.slice ra E.parts.length rc) ∧ W.cell? ⟨w.heap.size, 0, none⟩ = some (.int .i64 E.kind) ∧ W.cell? ⟨w.heap.size, 1, none⟩ = some (.string E.op) ∧ W.cell? ⟨w.heap.size, 2, none⟩ = some (.int .i64 E.vk) ∧ W.cell? ⟨w.heap.size, 3, none⟩ = some (.int .i64 E.vn) ∧ W.cell? ⟨w.heap.size, 4, none⟩ = some (.string E.vs) ∧ W.cell? ⟨w.heap.size, 5, none⟩ = some (.string E.tab) ∧ W.cell? ⟨w.heap.size, 6, none⟩ = some (.string E.col) ∧ W.cell? ⟨w.heap.size, 7, none⟩ = some (.slice pa E.parts.length pc))
      (first | exact HKp.out _ HN.out | exact HKp.out _ HN.out.drew)
      (first
        | (go_simp; go_at_call 12; refine (HTe.out _ (by first | exact HN.out | exact HN.out.drew)).mono ?_; rintro e' w9 ⟨⟨r9, rfl, hcv⟩, hb9⟩; have HN := Lib.hid (show Below w8.heap.size w8 w9 from by first | exact bt HN.out hb9 | exact bt HN.out.drew hb9); clear hb9; have HEV := Lib.hid hcv; clear hcv)
        | (go_simp; go_at_call 14; refine (HSm.out _ _ _ HEV.out HN.out).mono ?_; rintro e' w9 ⟨rfl, hb9⟩; have HN := Lib.hid (show Below w8.heap.size w8 w9 from by first | exact bt HN.out hb9 | exact bt HN.out.drew hb9); clear hb9))
    all_goals
      refine NoPanic.normal ?_
      have HF := Lib.hid (bt HBw8.out HN.out)
      go_wp2
      go_ret
      exact ⟨rfl, HF.out⟩
end Go.Proofs.YtpinalpigefenaaGreatDoor
namespace Go.Proofs.YtpinalpigefenaaGreatDoor
open Go.RowKit
set_option linter.unusedVariables false
set_option linter.unusedSimpArgs false
set_option maxRecDepth 100000

theorem laid_reads {P : Program} {w : World} {n : String} {d : DataW Unit} : ∀ {l : List (String × DataW Unit)} {ps : List MemPlace}, DataW.LaidVars P w l ps → (n, d) ∈ l →
    ∃ g t cs fuel p, P.globalNamed n = some g ∧ (P.globals[g]?).map (·.type) = some t ∧ w.var? P n = some cs ∧ DataW.trod (fun _ => ()) P w 0 (fun _ => true) false fuel t cs.toList = some (d, p)
  | [], _, _, hm => by cases hm
  | (n', d') :: r, ps, h, hm => by
    obtain ⟨g, t, cs, fuel, p, q, h1, h2, h3, h4, h5, _⟩ := h
    rcases List.mem_cons.1 hm with e | e
    · cases e
      exact ⟨g, t, cs, fuel, p, h1, h2, h3, h4⟩
    · exact laid_reads h5 e
theorem trod_face {P : Program} {w : World} {fuel : Nat} {t : TypeId} {cs : List Value} {x : DataW Unit × List MemPlace} {ms} (ht : P.underlying t = some (.interface ms))
    (h : DataW.trod (fun _ => ()) P w 0 (fun _ => true) false fuel t cs = some x) : cs = [.nilIface] ∨ ∃ u v, cs = [.iface u v] := by
  cases fuel with
  | zero => cases h
  | succ n =>
    unfold DataW.trod at h
    rw [ht] at h
    split at h <;> first | exact .inl rfl | exact .inr ⟨_, _, rfl⟩ | (have h2 := ‹some (TypeDesc.interface ms) = some _›; cases h2; done) | cases h
theorem errName : Tryz.prog.globalNamed "strconv.ErrRange" = some gErr := by kernel_rfl
theorem errType : (Tryz.prog.globals[gErr]?).map (·.type) = some 168 := by kernel_rfl
theorem maxCell {w : World} (h : w.ShapedOpen Tryz.prog) : ∃ m, w.cell? ⟨gMax, 0, none⟩ = some (.int .i64 m) :=
  cell_of_shapedOpen_int (t := 3) (zero := #[.int .i64 0]) h (by decide +kernel) (by kernel_rfl) rfl (by kernel_rfl) (by kernel_rfl) (by kernel_rfl)
theorem vOk_of {w : World} {l : List (String × DataW Unit)} {d : DataW Unit} (hS : w.ShapedOpen Tryz.prog) (hL : laidMet Tryz.prog l w) (hm : ("strconv.ErrRange", d) ∈ l) : VOk w := by
  refine ⟨maxCell hS, ?_⟩
  obtain ⟨ps, hl, _⟩ := hL
  obtain ⟨g, t, cs, fuel, p, h1, h2, h3, h4⟩ := laid_reads hl hm
  rw [errName] at h1
  cases h1
  rw [errType] at h2
  cases h2
  have hc := trod_face Tryz.underlying168 h4
  unfold World.var? at h3
  rw [errName] at h3
  simp only [Option.bind_some] at h3
  split at h3
  · rename_i cs2 t2 fz hh
    cases h3
    have hcell : w.cell? ⟨gErr, 0, none⟩ = cs[0]? := by simp [World.cell?, hh]
    rw [hcell]
    rcases hc with e | ⟨u, v, e⟩
    · obtain rfl : cs = #[.nilIface] := by cases cs; simp_all
      exact ⟨_, rfl, .inl rfl⟩
    · obtain rfl : cs = #[.iface u v] := by cases cs; simp_all
      exact ⟨_, rfl, .inr ⟨u, v, rfl⟩⟩
  · cases h3
theorem vN_of {w : World} (h : VOk w) : gMax < w.heap.size ∧ gErr < w.heap.size := by
  obtain ⟨⟨m, h1⟩, ev, h2, _⟩ := h
  exact ⟨World.block_lt_of_cell? w _ h1, World.block_lt_of_cell? w _ h2⟩
/-- the wrap of a row whose list is laid, the world's shape handed on -/
theorem wrap_shaped {H : Type} {enc : TypeId × Value → H} {a : Assume} {C : Checked} {os : Os} {f : FuncId} {fn : Func} {s : ChangeSpec} {conds : List PathCond} {apart fresh handsOn again : Bool} {X : World → Array Value → Prop}
    (hX : ∀ (w w' : World) (args : Array Value), w.heap = w'.heap → X w args → X w' args)
    (own : ownKnob C.prog.godebug = none) (started : os.Started) (noInit : C.prog.inits.idxOf? f = none) (hfn : C.prog.funcs[f]? = some fn)
    (witness : ∃ (w : World) (tape : Tape) (i : Input), w.os = os ∧ (w.forCall tape i).Shaped C.prog ∧ i.vars = [] ∧ Input.okWide C.prog (w.forCall tape i) .any w.heap.size f i ∧
      ((s.pre enc C.prog fn conds apart (w.forCall tape i).memory i.args ∧ X (w.forCall tape i).memory i.args) ∧ sizedMet enc C.prog fn (OpenSpec.ofChange s) apart (w.forCall tape i).memory i.args) ∧ a.holds C.prog (lone (Frame.enter C.prog f i.args .normal) [] (w.forCall tape i)))
    (contract : ∀ (W : World) (base : Nat) (args : Array Value) (ds gs : List (DataW H)) (before : List MemPlace),
      (∀ (j : Nat) t v, fn.params[j]? = some t → args[j]? = some v → Value.okWide C.prog W .any base t v) →
      DataW.Whole enc C.prog fn.params.toList s.vars apart W args.toList ds gs before →
      conds.all (PathCond.test C.prog ⟨fn.params.toList, ds, s.plain.varTypes C.prog, gs⟩) = true →
      (DataW.weightsEach C.prog (fn.params.toList ++ s.plain.varTypes C.prog) (ds ++ gs)).all (· ≤ reachBytes) = true → X W args → W.ShapedOpen C.prog →
      a.holds C.prog (lone (Frame.enter C.prog f args .normal) [] W) →
      Calls C.prog f args W fun e W' => ∃ v, e = .returned v ∧ s.post enc C.prog fn apart fresh handsOn again W args v W') :
    ReturnsInHanded a C os f .any (fun w args => (s.pre enc C.prog fn conds apart w args ∧ X w args) ∧ sizedMet enc C.prog fn (OpenSpec.ofChange s) apart w args) (s.post enc C.prog fn apart fresh handsOn again) := by
  refine returnsInHanded_of_calls own started noInit witness ?_
  intro w tape i _ hsh _ hok hpre hholds
  obtain ⟨_, _, _, fn', hfn', _, _, _, _, hval⟩ := hok
  obtain rfl : fn' = fn := Option.some.inj (hfn'.symm.trans hfn)
  obtain ⟨⟨⟨ds, gs, before, hw, hc⟩, hx⟩, hz⟩ := hpre
  have hw' := DataW.Whole.of_heap (w' := w.forCall tape i) (by rfl) hw
  refine (contract (w.forCall tape i) w.heap.size i.args ds gs before hval hw' hc (hz.weights hw) (hX _ _ _ (by rfl) hx) hsh hholds).mono fun e W' ⟨v, he, hp⟩ => ?_
  subst he
  exact ChangeSpec.post_blind hp
end Go.Proofs.YtpinalpigefenaaGreatDoor
