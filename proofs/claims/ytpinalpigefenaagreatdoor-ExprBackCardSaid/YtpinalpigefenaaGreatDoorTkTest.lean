/- The package's taker: test. -/
import Derived.Test.YtpinalpigefenaaGreatDoorTkColn
namespace Go.Proofs.YtpinalpigefenaaGreatDoor
open Go.RowKit
set_option linter.unusedVariables false
set_option linter.unusedSimpArgs false
set_option maxRecDepth 100000
theorem el_fresh2 {A B : Nat → Prop} {N H H1 H2 : Nat} {w w' : World} {wa : Option Addr} {wn wc : Nat} {ws : List Wd} {v : Value} {s : Tk} {ms : List PM} (h : TSt B N w wa wn wc ws v s ms) {a : Option Addr} {l : List ET} (hel : EL w' (fun b => TQ (Bx A H H1) N v b ∨ H2 ≤ b) a l) (hw : w.heap.size ≤ H2) (hH : H1 ≤ w.heap.size) : EL w' (TQ (Bx A H H1) N v) a l :=
  hel.mono (fun b hb _ => by
    rcases hb with hb | hb
    · exact hb
    · exact ⟨.inr (by omega), by have := h.low; omega, own_blkT h (by omega)⟩)
theorem psAt_one {w : World} {Q : Nat → Prop} {g : Nat} {p : Pt} {sa : Option Addr} {sc : Nat} (hg : w.heap[g]? = some (.cells (ptX p sa sc).toArray 183 (0, 0))) (hr : PRg p sa sc) (hel : EL w Q sa p.e.parts) : PsAt w Q (some ⟨g, 0, none⟩) 1 [p] := by
  refine ⟨rfl, by omega, .inr ⟨g, 0, rfl, (Array.getElem?_eq_some_iff.1 hg).1, fun i hi => ?_⟩⟩
  obtain rfl : i = 0 := by simpa using hi
  refine ⟨sa, sc, fun j hj => ?_, hr, hel⟩
  rw [ptX_arr] at hg
  obtain ⟨r0, r1, r2, r3, r4, r5, r6, r7, r8, r9, -, -⟩ := row10 hg
  show w.cell? ⟨g, 0 + 0 * 10 + j, none⟩ = (ptX p sa sc)[j]?
  rw [show 0 + 0 * 10 + j = j by omega]
  match j, hj with
  | 0, _ => exact r0
  | 1, _ => exact r1
  | 2, _ => exact r2
  | 3, _ => exact r3
  | 4, _ => exact r4
  | 5, _ => exact r5
  | 6, _ => exact r6
  | 7, _ => exact r7
  | 8, _ => exact r8
  | 9, _ => exact r9
theorem erg_op {k : Int} {op : ByteArray} (hk : (Lit.int .i64 k).wf = true) (ho : op.size ≤ maxLen) : ERg (.mk k op 0 0 ⟨#[]⟩ ⟨#[]⟩ ⟨#[]⟩ []) none 0 :=
  ⟨hk, rfl, rfl, ho, Nat.zero_le _, Nat.zero_le _, Nat.zero_le _, fun _ => ⟨rfl, rfl⟩, Nat.le_refl _, by unfold maxLen; omega⟩
set_option maxHeartbeats 12800000 in
theorem test_any (A : Nat → Prop) (N : Nat) (w : World) (wa : Option Addr) (wn wc : Nat) (ws : List Wd) (v : Value) (s : Tk) (ms : List PM) (h : TSt A N w wa wn wc ws v s ms) (l : Pt) (lv : Value) (hl : PV w (TQ A N v) lv l) (hd : l.dp < 1000000) :
    Calls Tryz.prog 178 #[.pointer (some ⟨N, 0, none⟩), lv] w (PartP A N w wa wn wc ws v (testP ws l s)) := by
  obtain ⟨la, lc, rfl, hlr, hle⟩ := hl
  rw [ptX_arr]
  have H0 := Lib.hid h
  have HLr := Lib.hid hlr
  have HD := Lib.hid hd
  have hlow := h.low
  have hB1 := bel0 (.cells #[.int .i64 0, .string ⟨#[]⟩, .int .i64 0, .int .i64 0, .string ⟨#[]⟩, .string ⟨#[]⟩, .string ⟨#[]⟩, .slice none 0 0, .int .i64 0, .int .i64 0] 183) (bel0 (.cells #[.int .i64 l.e.kind, .string l.e.op, .int .i64 l.e.vk, .int .i64 l.e.vn, .string l.e.vs, .string l.e.tab, .string l.e.col, .slice la l.e.parts.length lc, .int .i64 l.lv, .int .i64 l.dp] 183) (Below.refl w.heap.size w))
  have HX := Lib.hid (boxes_lit w (.cells #[.int .i64 l.e.kind, .string l.e.op, .int .i64 l.e.vk, .int .i64 l.e.vn, .string l.e.vs, .string l.e.tab, .string l.e.col, .slice la l.e.parts.length lc, .int .i64 l.lv, .int .i64 l.dp] 183 (0, 0)) (.cells #[.int .i64 0, .string ⟨#[]⟩, .int .i64 0, .int .i64 0, .string ⟨#[]⟩, .string ⟨#[]⟩, .string ⟨#[]⟩, .slice none 0 0, .int .i64 0, .int .i64 0] 183 (0, 0)))
  clear h hd hlr
  go_enter Tryz.func178, Tryz.ntmps178
  go_upto_region 1 with (fail)
  generalize ((w.alloc (.cells #[.int .i64 l.e.kind, .string l.e.op, .int .i64 l.e.vk, .int .i64 l.e.vn, .string l.e.vs, .string l.e.tab, .string l.e.col, .slice la l.e.parts.length lc, .int .i64 l.lv, .int .i64 l.dp] 183)).alloc (.cells #[.int .i64 0, .string ⟨#[]⟩, .int .i64 0, .int .i64 0, .string ⟨#[]⟩, .string ⟨#[]⟩, .string ⟨#[]⟩, .slice none 0 0, .int .i64 0, .int .i64 0] 183)) = w1 at *
  have HSz := Lib.hid HX.out.2
  have HT1 := Lib.hid (TTo.of_below (v := v) hB1 (Nat.le_of_lt hlow))
  have HS1 := Lib.hid ((H0.out.enter w1.heap.size).below hB1)
  have HLe1 := Lib.hid ((hle.mono (Q' := TQ (Bx A w.heap.size w1.heap.size) N v) (fun b hb hlt => ⟨.inl ⟨hb.1, hlt⟩, hb.2⟩)).keep hB1)
  have HLB := Lib.hid (show ∀ (W : World) (v' : Value), TTo N v v' w1 W → W.heap[w.heap.size]? = some (.cells #[.int .i64 l.e.kind, .string l.e.op, .int .i64 l.e.vk, .int .i64 l.e.vn, .string l.e.vs, .string l.e.tab, .string l.e.col, .slice la l.e.parts.length lc, .int .i64 l.lv, .int .i64 l.dp] 183 (0, 0)) from fun W v' t => (TTo.box H0.out t (Nat.le_refl _) (by have := HSz.out; omega)).trans HX.out.1.1)
  have HBX := Lib.hid (show ∀ (W : World) (v' : Value), TTo N v v' w1 W → W.heap[w.heap.size + 1]? = some (.cells #[.int .i64 0, .string ⟨#[]⟩, .int .i64 0, .int .i64 0, .string ⟨#[]⟩, .string ⟨#[]⟩, .string ⟨#[]⟩, .slice none 0 0, .int .i64 0, .int .i64 0] 183 (0, 0)) from fun W v' t => (TTo.box H0.out t (Nat.le_succ _) (by have := HSz.out; omega)).trans HX.out.1.2)
  have HnB := Lib.hid (show ¬ Bx A w.heap.size w1.heap.size (w.heap.size + 1) from fun hb => hb.elim (fun h => by have := h.2; omega) (fun h => by have := HSz.out; omega))
  have HSub := Lib.hid (Bx.sub (A := A) (H := w.heap.size) (H1 := w1.heap.size) (by have := HSz.out; omega))
  have HLow := Lib.hid hlow
  have HKw := Lib.hid (fun (t : Bs) (W : World) (s' : Tk) (hs : TSt (Bx A w.heap.size w1.heap.size) N W wa wn wc ws v s' ms) => kword_any t (Bx A w.heap.size w1.heap.size) N W wa wn wc ws v s' ms hs)
  clear hB1 hlow hle
  go_wp2_with fail
  refine (HKw.out [78, 79, 84] _ s HS1.out).mono ?_
  rintro e w2 ⟨rfl, hs2, ht2⟩
  obtain ⟨b, hb⟩ : ∃ b, b = isW ws s.pos 1 [78, 79, 84] := ⟨_, rfl⟩
  obtain ⟨s1, hs1⟩ : ∃ s1, s1 = (if b = true then adv s else s) := ⟨_, rfl⟩
  obtain ⟨op, hop⟩ : ∃ op, op = (if b = true then bs [73, 83, 32, 78, 79, 84, 32, 78, 85, 76, 76] else bs [73, 83, 32, 78, 85, 76, 76]) := ⟨_, rfl⟩
  have HC := Lib.hid (show testP ws l s = (if isW ws s1.pos 1 [78, 85, 76, 76] = true then (buildP 5 op 0 0 ⟨#[]⟩ ⟨#[]⟩ ⟨#[]⟩ 4 [l], true, adv s1) else (zPt, false, s1)) by
    rw [hop, hs1, hb]; rfl)
  rw [← hb] at hs2 ⊢
  rw [← hs1] at hs2
  have HS2 := Lib.hid hs2
  have HT2 := Lib.hid ht2
  have HOp := Lib.hid (show op.size ≤ maxLen by rw [hop]; unfold maxLen; cases b <;> decide)
  clear hs2 ht2 hb
  have key : ∀ W : World, W = w2 → True := fun _ _ => trivial
  clear key
  have HOp2 := Lib.hid hop
  clear hop hs1
  obtain ⟨b2, hb2⟩ : ∃ b2, b2 = isW ws s1.pos 1 [78, 85, 76, 76] := ⟨_, rfl⟩
  have HB2 := Lib.hid hb2
  cases b
  all_goals
    go_wp2_with fail
    refine (HKw.out [78, 85, 76, 76] _ s1 HS2.out).mono ?_
    rintro e w3 ⟨rfl, hs3, ht3⟩
    rw [← HB2.out] at hs3 HC ⊢
    have HS3 := Lib.hid hs3
    have HT3 := Lib.hid (HT2.out.trans ht3)
    clear hs3 ht3
    clear hb2
    cases b2 with
    | false =>
      have HQ := Lib.hid (show testP ws l s = (zPt, false, s1) by rw [HC.out]; simp)
      have HS3 := Lib.hid (show TSt (Bx A w.heap.size w1.heap.size) N w3 wa wn wc ws v s1 ms from HS3.out)
      have hR := HBX.out w3 v HT3.out
      obtain ⟨r0, r1, r2, r3, r4, r5, r6, r7, r8, r9, rz, rN⟩ := row10 hR
      have HFin := Lib.hid (part_done HS3.out hR (by have := HLow.out; omega) HnB.out (HT1.out.trans HT3.out) (Nat.le_succ _) HSub.out zPt none 0 prg_zero (.nil none))
      clear hR
      go_wp2
      refine bodyPost_ret (results_pt2 rfl _ _ (w.heap.size + 1) _ _ _ _ _ _ _ _ _ _ rfl HFin.out.1) rfl ?_
      rw [HQ.out]
      exact ⟨_, v, ms, rfl, HFin.out.2.1, HFin.out.2.2.1, HFin.out.2.2.2⟩
    | true =>
      have HQ := Lib.hid (show testP ws l s = (buildP 5 op 0 0 ⟨#[]⟩ ⟨#[]⟩ ⟨#[]⟩ 4 [l], true, adv s1) by rw [HC.out]; simp)
      have HS3 := Lib.hid (show TSt (Bx A w.heap.size w1.heap.size) N w3 wa wn wc ws v (adv s1) ms from HS3.out)
      have HLe3 := Lib.hid (HLe1.out.toT HT3.out)
      obtain ⟨l0, l1, l2, l3, l4, l5, l6, l7, l8, l9, lz, lN⟩ := row10 (HLB.out w3 v HT3.out)
      have HB34 := Lib.hid (show Below w3.heap.size w3 (w3.alloc (.cells (ptX l la lc).toArray 183)) from bel0 _ (Below.refl _ _))
      have HPs := Lib.hid (psAt_one (Go.heap_alloc_new w3 (.cells (ptX l la lc).toArray 183 (0, 0))) HLr.out (HLe3.out.keep HB34.out))
      rw [HOp2.out] at HQ HOp
      go_wp2_with fail
      refine (build_any 5 _ 0 0 ⟨#[]⟩ ⟨#[]⟩ ⟨#[]⟩ 4 [l] (erg_op rfl HOp.out) (by unfold InR; omega) _ _ _ 1 1 HPs.out (by simpa using HD.out)).mono ?_
      rintro e w4 ⟨pv, rfl, ⟨sa, sc, rfl, hrg, hel⟩, hb4⟩
      have hb4 := bt HB34.out hb4
      obtain ⟨p, hp⟩ : ∃ p, p = (testP ws l s).1 := ⟨_, rfl⟩
      have hp' := hp
      rw [HQ.out] at hp'
      dsimp only at hp'
      rw [← hp'] at hrg hel ⊢
      rw [ptX_arr]
      have HT4 := Lib.hid (HT3.out.trans (.of_below hb4 (Nat.le_of_lt HS3.out.low)))
      have hR := HBX.out w4 v HT4.out
      obtain ⟨r0, r1, r2, r3, r4, r5, r6, r7, r8, r9, rz, rN⟩ := row10 hR
      have HFin := Lib.hid (part_done (HS3.out.below hb4) hR (by have := HLow.out; omega) HnB.out (HT1.out.trans HT4.out) (Nat.le_succ _) HSub.out p sa sc hrg (el_fresh2 HS3.out hel (by simp) HT3.out.below.size))
      have HQ1 := Lib.hid (show testP ws l s = (p, true, adv s1) by rw [hp]; rw [HQ.out])
      clear hR hrg hel hb4 hp hp' l0 l1 l2 l3 l4 l5 l6 l7 l8 l9 lz lN
      go_wp2
      refine bodyPost_ret (results_pt2 rfl _ _ (w.heap.size + 1) _ _ _ _ _ _ _ _ _ _ rfl HFin.out.1) rfl ?_
      rw [HQ1.out]
      exact ⟨_, v, ms, rfl, HFin.out.2.1, HFin.out.2.2.1, HFin.out.2.2.2⟩
end Go.Proofs.YtpinalpigefenaaGreatDoor
