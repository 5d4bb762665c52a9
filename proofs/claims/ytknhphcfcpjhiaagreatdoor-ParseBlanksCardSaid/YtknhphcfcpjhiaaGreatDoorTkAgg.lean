/- The package's taker: aggregate. Written by gentka.py. -/
import Derived.Test.YtknhphcfcpjhiaaGreatDoorTkColn
import Derived.Test.YtknhphcfcpjhiaaGreatDoorLxKey
import Derived.Deep.RegionHeldLaw
namespace Go.Proofs.YtknhphcfcpjhiaaGreatDoor
open Go.RowKit
set_option linter.unusedVariables false
set_option linter.unusedSimpArgs false
set_option maxRecDepth 100000
theorem el_fresh2 {A B : Nat → Prop} {N H H1 H2 : Nat} {w w' : World} {wa : Option Addr} {wn wc : Nat} {ws : List Wd} {v : Value} {s : Tk} {ms : List PM} (h : TSt B N w wa wn wc ws v s ms) {a : Option Addr} {l : List ET} (hel : EL w' (fun b => TQ (Bx A H H1) N v b ∨ H2 ≤ b) a l) (hw : w.heap.size ≤ H2) (hH : H1 ≤ w.heap.size) : EL w' (TQ (Bx A H H1) N v) a l :=
  hel.mono (fun b hb _ => by
    rcases hb with hb | hb
    · exact hb
    · exact ⟨.inr (by omega), by have := h.low; omega, own_blkT h (by omega)⟩)
theorem psAt_one {w : World} {Q : Nat → Prop} {g : Nat} {p : Pt} {sa : Option Addr} {sc : Nat} (hg : w.heap[g]? = some (.cells (ptX p sa sc).toArray 202 (0, 0))) (hr : PRg p sa sc) (hel : EL w Q sa p.e.parts) : PsAt w Q (some ⟨g, 0, none⟩) 1 [p] := by
  refine ⟨rfl, by omega, .inr ⟨g, 0, rfl, (Array.getElem?_eq_some_iff.1 hg).1, fun i hi => ?_⟩⟩
  obtain rfl : i = 0 := by simpa using hi
  refine ⟨sa, sc, fun j hj => ?_, hr, hel⟩
  rw [ptX_arr] at hg
  obtain ⟨r0, r1, r2, r3, r4, r5, r6, r7, r8, r9, -, -⟩ := row10 hg
  show w.cell? ⟨g, 0 + 0 * 10 + j, none⟩ = (ptX p sa sc)[j]?
  rw [show 0 + 0 * 10 + j = j by omega]
  match j, hj with
  | 0, _ => exact r0
  | 1, _ => exact r1
  | 2, _ => exact r2
  | 3, _ => exact r3
  | 4, _ => exact r4
  | 5, _ => exact r5
  | 6, _ => exact r6
  | 7, _ => exact r7
  | 8, _ => exact r8
  | 9, _ => exact r9
theorem erg_op {k : Int} {op : ByteArray} (hk : (Lit.int .i64 k).wf = true) (ho : op.size ≤ maxLen) : ERg (.mk k op 0 0 ⟨#[]⟩ ⟨#[]⟩ ⟨#[]⟩ []) none 0 :=
  ⟨hk, rfl, rfl, ho, Nat.zero_le _, Nat.zero_le _, Nat.zero_le _, fun _ => ⟨rfl, rfl⟩, Nat.le_refl _, by unfold maxLen; omega⟩
set_option maxHeartbeats 12800000 in
theorem test_any (A : Nat → Prop) (N : Nat) (w : World) (wa : Option Addr) (wn wc : Nat) (ws : List Wd) (v : Value) (s : Tk) (ms : List PM) (h : TSt A N w wa wn wc ws v s ms) (l : Pt) (lv : Value) (hl : PV w (TQ A N v) lv l) (hd : l.dp < 1000000) :
    Calls Tryz.prog 167 #[.pointer (some ⟨N, 0, none⟩), lv] w (PartP A N w wa wn wc ws v (testP ws l s)) := by
  obtain ⟨la, lc, rfl, hlr, hle⟩ := hl
  rw [ptX_arr]
  have H0 := Lib.hid h
  have HLr := Lib.hid hlr
  have HD := Lib.hid hd
  have hlow := h.low
  have hB1 := bel0 (.cells #[.int .i64 0, .string ⟨#[]⟩, .int .i64 0, .int .i64 0, .string ⟨#[]⟩, .string ⟨#[]⟩, .string ⟨#[]⟩, .slice none 0 0, .int .i64 0, .int .i64 0] 202) (bel0 (.cells #[.int .i64 l.e.kind, .string l.e.op, .int .i64 l.e.vk, .int .i64 l.e.vn, .string l.e.vs, .string l.e.tab, .string l.e.col, .slice la l.e.parts.length lc, .int .i64 l.lv, .int .i64 l.dp] 202) (Below.refl w.heap.size w))
  have HX := Lib.hid (boxes_lit w (.cells #[.int .i64 l.e.kind, .string l.e.op, .int .i64 l.e.vk, .int .i64 l.e.vn, .string l.e.vs, .string l.e.tab, .string l.e.col, .slice la l.e.parts.length lc, .int .i64 l.lv, .int .i64 l.dp] 202 (0, 0)) (.cells #[.int .i64 0, .string ⟨#[]⟩, .int .i64 0, .int .i64 0, .string ⟨#[]⟩, .string ⟨#[]⟩, .string ⟨#[]⟩, .slice none 0 0, .int .i64 0, .int .i64 0] 202 (0, 0)))
  clear h hd hlr
  go_enter Tryz.func167, Tryz.ntmps167
  go_upto_region 1 with (fail)
  generalize ((w.alloc (.cells #[.int .i64 l.e.kind, .string l.e.op, .int .i64 l.e.vk, .int .i64 l.e.vn, .string l.e.vs, .string l.e.tab, .string l.e.col, .slice la l.e.parts.length lc, .int .i64 l.lv, .int .i64 l.dp] 202)).alloc (.cells #[.int .i64 0, .string ⟨#[]⟩, .int .i64 0, .int .i64 0, .string ⟨#[]⟩, .string ⟨#[]⟩, .string ⟨#[]⟩, .slice none 0 0, .int .i64 0, .int .i64 0] 202)) = w1 at *
  have HSz := Lib.hid HX.out.2
  have HT1 := Lib.hid (TTo.of_below (v := v) hB1 (Nat.le_of_lt hlow))
  have HS1 := Lib.hid ((H0.out.enter w1.heap.size).below hB1)
  have HLe1 := Lib.hid ((hle.mono (Q' := TQ (Bx A w.heap.size w1.heap.size) N v) (fun b hb hlt => ⟨.inl ⟨hb.1, hlt⟩, hb.2⟩)).keep hB1)
  have HLB := Lib.hid (show ∀ (W : World) (v' : Value), TTo N v v' w1 W → W.heap[w.heap.size]? = some (.cells #[.int .i64 l.e.kind, .string l.e.op, .int .i64 l.e.vk, .int .i64 l.e.vn, .string l.e.vs, .string l.e.tab, .string l.e.col, .slice la l.e.parts.length lc, .int .i64 l.lv, .int .i64 l.dp] 202 (0, 0)) from fun W v' t => (TTo.box H0.out t (Nat.le_refl _) (by have := HSz.out; omega)).trans HX.out.1.1)
  have HBX := Lib.hid (show ∀ (W : World) (v' : Value), TTo N v v' w1 W → W.heap[w.heap.size + 1]? = some (.cells #[.int .i64 0, .string ⟨#[]⟩, .int .i64 0, .int .i64 0, .string ⟨#[]⟩, .string ⟨#[]⟩, .string ⟨#[]⟩, .slice none 0 0, .int .i64 0, .int .i64 0] 202 (0, 0)) from fun W v' t => (TTo.box H0.out t (Nat.le_succ _) (by have := HSz.out; omega)).trans HX.out.1.2)
  have HnB := Lib.hid (show ¬ Bx A w.heap.size w1.heap.size (w.heap.size + 1) from fun hb => hb.elim (fun h => by have := h.2; omega) (fun h => by have := HSz.out; omega))
  have HSub := Lib.hid (Bx.sub (A := A) (H := w.heap.size) (H1 := w1.heap.size) (by have := HSz.out; omega))
  have HLow := Lib.hid hlow
  have HKw := Lib.hid (fun (t : Bs) (W : World) (s' : Tk) (hs : TSt (Bx A w.heap.size w1.heap.size) N W wa wn wc ws v s' ms) => kword_any t (Bx A w.heap.size w1.heap.size) N W wa wn wc ws v s' ms hs)
  clear hB1 hlow hle
  go_wp2_with fail
  refine (HKw.out [78, 79, 84] _ s HS1.out).mono ?_
  rintro e w2 ⟨rfl, hs2, ht2⟩
  obtain ⟨b, hb⟩ : ∃ b, b = isW ws s.pos 1 [78, 79, 84] := ⟨_, rfl⟩
  obtain ⟨s1, hs1⟩ : ∃ s1, s1 = (if b = true then adv s else s) := ⟨_, rfl⟩
  obtain ⟨op, hop⟩ : ∃ op, op = (if b = true then bs [73, 83, 32, 78, 79, 84, 32, 78, 85, 76, 76] else bs [73, 83, 32, 78, 85, 76, 76]) := ⟨_, rfl⟩
  have HC := Lib.hid (show testP ws l s = (if isW ws s1.pos 1 [78, 85, 76, 76] = true then (buildP 5 op 0 0 ⟨#[]⟩ ⟨#[]⟩ ⟨#[]⟩ 4 [l], true, adv s1) else (zPt, false, s1)) by
    rw [hop, hs1, hb]; rfl)
  rw [← hb] at hs2 ⊢
  rw [← hs1] at hs2
  have HS2 := Lib.hid hs2
  have HT2 := Lib.hid ht2
  have HOp := Lib.hid (show op.size ≤ maxLen by rw [hop]; unfold maxLen; cases b <;> decide)
  clear hs2 ht2 hb
  have key : ∀ W : World, W = w2 → True := fun _ _ => trivial
  clear key
  have HOp2 := Lib.hid hop
  clear hop hs1
  obtain ⟨b2, hb2⟩ : ∃ b2, b2 = isW ws s1.pos 1 [78, 85, 76, 76] := ⟨_, rfl⟩
  have HB2 := Lib.hid hb2
  cases b
  all_goals
    go_wp2_with fail
    refine (HKw.out [78, 85, 76, 76] _ s1 HS2.out).mono ?_
    rintro e w3 ⟨rfl, hs3, ht3⟩
    rw [← HB2.out] at hs3 HC ⊢
    have HS3 := Lib.hid hs3
    have HT3 := Lib.hid (HT2.out.trans ht3)
    clear hs3 ht3
    clear hb2
    cases b2 with
    | false =>
      have HQ := Lib.hid (show testP ws l s = (zPt, false, s1) by rw [HC.out]; simp)
      have HS3 := Lib.hid (show TSt (Bx A w.heap.size w1.heap.size) N w3 wa wn wc ws v s1 ms from HS3.out)
      have hR := HBX.out w3 v HT3.out
      obtain ⟨r0, r1, r2, r3, r4, r5, r6, r7, r8, r9, rz, rN⟩ := row10 hR
      have HFin := Lib.hid (part_done HS3.out hR (by have := HLow.out; omega) HnB.out (HT1.out.trans HT3.out) (Nat.le_succ _) HSub.out zPt none 0 prg_zero (.nil none))
      clear hR
      go_wp2
      refine bodyPost_ret (results_pt2 rfl _ _ (w.heap.size + 1) _ _ _ _ _ _ _ _ _ _ rfl HFin.out.1) rfl ?_
      rw [HQ.out]
      exact ⟨_, v, ms, rfl, HFin.out.2.1, HFin.out.2.2.1, HFin.out.2.2.2⟩
    | true =>
      have HQ := Lib.hid (show testP ws l s = (buildP 5 op 0 0 ⟨#[]⟩ ⟨#[]⟩ ⟨#[]⟩ 4 [l], true, adv s1) by rw [HC.out]; simp)
      have HS3 := Lib.hid (show TSt (Bx A w.heap.size w1.heap.size) N w3 wa wn wc ws v (adv s1) ms from HS3.out)
      have HLe3 := Lib.hid (HLe1.out.toT HT3.out)
      obtain ⟨l0, l1, l2, l3, l4, l5, l6, l7, l8, l9, lz, lN⟩ := row10 (HLB.out w3 v HT3.out)
      have HB34 := Lib.hid (show Below w3.heap.size w3 (w3.alloc (.cells (ptX l la lc).toArray 202)) from bel0 _ (Below.refl _ _))
      have HPs := Lib.hid (psAt_one (Go.heap_alloc_new w3 (.cells (ptX l la lc).toArray 202 (0, 0))) HLr.out (HLe3.out.keep HB34.out))
      rw [HOp2.out] at HQ HOp
      go_wp2_with fail
      refine (build_any 5 _ 0 0 ⟨#[]⟩ ⟨#[]⟩ ⟨#[]⟩ 4 [l] (erg_op rfl HOp.out) (by unfold InR; omega) _ _ _ 1 1 HPs.out (by simpa using HD.out)).mono ?_
      rintro e w4 ⟨pv, rfl, ⟨sa, sc, rfl, hrg, hel⟩, hb4⟩
      have hb4 := bt HB34.out hb4
      obtain ⟨p, hp⟩ : ∃ p, p = (testP ws l s).1 := ⟨_, rfl⟩
      have hp' := hp
      rw [HQ.out] at hp'
      dsimp only at hp'
      rw [← hp'] at hrg hel ⊢
      rw [ptX_arr]
      have HT4 := Lib.hid (HT3.out.trans (.of_below hb4 (Nat.le_of_lt HS3.out.low)))
      have hR := HBX.out w4 v HT4.out
      obtain ⟨r0, r1, r2, r3, r4, r5, r6, r7, r8, r9, rz, rN⟩ := row10 hR
      have HFin := Lib.hid (part_done (HS3.out.below hb4) hR (by have := HLow.out; omega) HnB.out (HT1.out.trans HT4.out) (Nat.le_succ _) HSub.out p sa sc hrg (el_fresh2 HS3.out hel (by simp) HT3.out.below.size))
      have HQ1 := Lib.hid (show testP ws l s = (p, true, adv s1) by rw [hp]; rw [HQ.out])
      clear hR hrg hel hb4 hp hp' l0 l1 l2 l3 l4 l5 l6 l7 l8 l9 lz lN
      go_wp2
      refine bodyPost_ret (results_pt2 rfl _ _ (w.heap.size + 1) _ _ _ _ _ _ _ _ _ _ rfl HFin.out.1) rfl ?_
      rw [HQ1.out]
      exact ⟨_, v, ms, rfl, HFin.out.2.1, HFin.out.2.2.1, HFin.out.2.2.2⟩
end Go.Proofs.YtknhphcfcpjhiaaGreatDoor
namespace Go.Proofs.YtknhphcfcpjhiaaGreatDoor
open Go.RowKit
set_option linter.unusedVariables false
set_option linter.unusedSimpArgs false
set_option maxRecDepth 100000
theorem own_pop {w : World} {B g k c : Nat} {ms : List PM} {m : PM} (h : w.ownsRow B 225 12 (.slice (some ⟨g, 0, none⟩) (k + 1) c) (k + 1) (pmsX (ms ++ [m]))) (hk : ms.length = k) : w.ownsRow B 225 12 (.slice (some ⟨g, 0, none⟩) k c) k (pmsX ms) := by
  refine ⟨by rw [pmsX_length, hk], .inr ?_⟩
  rcases h.2 with ⟨h', _⟩ | ⟨g', cap', cur, he, hb, hg, h1, h2, hs, ht⟩
  · cases h'
  · simp only [Value.slice.injEq, Option.some.injEq, Addr.mk.injEq] at he
    obtain ⟨⟨rfl, _⟩, _, rfl⟩ := he
    refine ⟨g, c, cur, rfl, hb, hg, by omega, h2, hs, ?_⟩
    have h3 : (cur.toList.take ((k + 1) * 12)).take (k * 12) = cur.toList.take (k * 12) := by rw [List.take_take]; congr 1; omega
    rw [← h3, ht, pmsX_snoc, List.take_append_of_le_length (by rw [pmsX_length, hk]; exact Nat.le_refl _), List.take_of_length_le (by rw [pmsX_length, hk]; exact Nat.le_refl _)]
theorem own_last {w : World} {B g k c : Nat} {ms : List PM} {m : PM} (h : w.ownsRow B 225 12 (.slice (some ⟨g, 0, none⟩) (k + 1) c) (k + 1) (pmsX (ms ++ [m]))) (hk : ms.length = k) : ∀ j, j < 12 → w.cell? ⟨g, k * 12 + j, none⟩ = (pmX m)[j]? := by
  intro j hj
  rw [h.cellAt (k * 12 + j) (by omega), pmsX_at (ms ++ [m]) k j (by simp; omega) hj]
  simp [← hk]
theorem own_sliceP {w : World} {B n size : Nat} {e : TypeId} {v : Value} {xs : List Value} (h : w.ownsRow B e size v n xs) (hn : n ≠ 0) : ∃ g c, v = .slice (some ⟨g, 0, none⟩) n c ∧ B ≤ g ∧ n ≤ c ∧ c ≤ maxLen ∧ g < w.heap.size := by
  rcases h.2 with ⟨rfl, h0⟩ | ⟨g, cap, cur, rfl, hb, hg, h1, h2, _⟩
  · exact absurd h0 hn
  · exact ⟨g, cap, rfl, hb, h1, h2, (Array.getElem?_eq_some_iff.1 hg).1⟩
/-- the state behind a pop -/
theorem TSt.pop {A : Nat → Prop} {N : Nat} {w : World} {wa : Option Addr} {wn wc g k c : Nat} {ws : List Wd} {s : Tk} {ms : List PM} {m : PM} (h : TSt A N w wa wn wc ws (.slice (some ⟨g, 0, none⟩) (k + 1) c) s (ms ++ [m])) (hk : ms.length = k) :
    TSt A N (w.setCell ⟨N, 3, none⟩ (.slice (some ⟨g, 0, none⟩) k c)) wa wn wc ws (.slice (some ⟨g, 0, none⟩) k c) ⟨s.pos, s.least, ms.map (·.1)⟩ ms ∧ TTo N (.slice (some ⟨g, 0, none⟩) (k + 1) c) (.slice (some ⟨g, 0, none⟩) k c) w (w.setCell ⟨N, 3, none⟩ (.slice (some ⟨g, 0, none⟩) k c)) := by
  have hr := h.restN 3 (.slice (some ⟨g, 0, none⟩) k c)
  have hlen : (ms ++ [m]).length = k + 1 := by simp [hk]
  have ho := h.own
  rw [hlen] at ho
  have hf := h.few
  rw [← h.are] at hf
  have t := (TTo.refl N (.slice (some ⟨g, 0, none⟩) (k + 1) c) w).setN 3 (.slice (some ⟨g, 0, none⟩) k c)
  refine ⟨⟨Go.heap_setCell_same w N 3 _ _ _ h.rd, ?_, hr.1, rfl, fun m' hm => h.one m' (List.mem_append_left _ hm), fun m' hm => hr.2 m' (List.mem_append_left _ hm), h.pos, ?_, h.least⟩, t.below, t.block, fun i e => .inl e⟩
  · rw [hk]
    exact own_setT (own_pop ho hk) _ _
  · simp at hf
    show (ms.map (·.1)).length ≤ s.pos
    rw [List.length_map]; omega
theorem own_lastN {w : World} {B g k n c : Nat} {ms : List PM} {m : PM} (hn : n = k + 1) (h : w.ownsRow B 225 12 (.slice (some ⟨g, 0, none⟩) n c) n (pmsX (ms ++ [m]))) (hk : ms.length = k) : ∀ j, j < 12 → w.cell? ⟨g, k * 12 + j, none⟩ = (pmX m)[j]? := by
  subst hn
  exact own_last h hk
theorem TSt.popN {A : Nat → Prop} {N : Nat} {w : World} {wa : Option Addr} {wn wc g k n c : Nat} {ws : List Wd} {s : Tk} {ms : List PM} {m : PM} (hn : n = k + 1) (h : TSt A N w wa wn wc ws (.slice (some ⟨g, 0, none⟩) n c) s (ms ++ [m])) (hk : ms.length = k) :
    TSt A N (w.setCell ⟨N, 3, none⟩ (.slice (some ⟨g, 0, none⟩) k c)) wa wn wc ws (.slice (some ⟨g, 0, none⟩) k c) ⟨s.pos, s.least, ms.map (·.1)⟩ ms ∧ TTo N (.slice (some ⟨g, 0, none⟩) n c) (.slice (some ⟨g, 0, none⟩) k c) w (w.setCell ⟨N, 3, none⟩ (.slice (some ⟨g, 0, none⟩) k c)) := by
  subst hn
  exact h.pop hk
/-- cells of parts, one behind the other -/
def ptsX (pl : List (Pt × Option Addr × Nat)) : List Value := pl.flatMap fun q => ptX q.1 q.2.1 q.2.2
theorem ptsX_length : ∀ pl : List (Pt × Option Addr × Nat), (ptsX pl).length = pl.length * 10
  | [] => rfl
  | q :: pl => by show (ptX q.1 q.2.1 q.2.2 ++ ptsX pl).length = _; rw [List.length_append, ptsX_length pl]; simp [ptX]; omega
theorem ptsX_at : ∀ (pl : List (Pt × Option Addr × Nat)) (i j : Nat) (h : i < pl.length), j < 10 → (ptsX pl)[i * 10 + j]? = (ptX (pl[i]).1 (pl[i]).2.1 (pl[i]).2.2)[j]?
  | q :: pl, 0, j, _, hj => by
    show (ptX q.1 q.2.1 q.2.2 ++ ptsX pl)[0 * 10 + j]? = _
    rw [Nat.zero_mul, Nat.zero_add, List.getElem?_append_left (by simp [ptX]; omega)]; rfl
  | q :: pl, i + 1, j, hi, hj => by
    show (ptX q.1 q.2.1 q.2.2 ++ ptsX pl)[(i + 1) * 10 + j]? = _
    rw [List.getElem?_append_right (by simp [ptX]; omega), show (i + 1) * 10 + j - (ptX q.1 q.2.1 q.2.2).length = i * 10 + j by simp [ptX]; omega]
    exact ptsX_at pl i j (by simpa using hi) hj
theorem psAt_own {w : World} {B g n cap : Nat} {Q : Nat → Prop} {pl : List (Pt × Option Addr × Nat)} (h : w.ownsRow B 202 10 (.slice (some ⟨g, 0, none⟩) n cap) n (ptsX pl)) (hn : pl.length = n) (h1 : n ≤ 1000) (hs : ∀ q ∈ pl, PRg q.1 q.2.1 q.2.2 ∧ EL w Q q.2.1 q.1.e.parts) : PsAt w Q (some ⟨g, 0, none⟩) n (pl.map (·.1)) := by
  refine ⟨by rw [List.length_map]; exact hn, h1, .inr ⟨g, 0, rfl, (h.lt g rfl).2, fun i hi => ?_⟩⟩
  have hip : i < pl.length := by simpa using hi
  refine ⟨(pl[i]).2.1, (pl[i]).2.2, fun j hj => ?_, ?_, ?_⟩
  · rw [Nat.zero_add, h.cellAt (i * 10 + j) (by omega), ptsX_at pl i j hip hj, List.getElem_map]
  · rw [List.getElem_map]; exact (hs _ (List.getElem_mem hip)).1
  · rw [List.getElem_map]; exact (hs _ (List.getElem_mem hip)).2
theorem infoPt : (Tryz.prog.info? 202).map (fun i => (i.zero, i.size, i.bytes)) = some (some (.agg #[.int .i64 0, .string ⟨#[]⟩, .int .i64 0, .int .i64 0, .string ⟨#[]⟩, .string ⟨#[]⟩, .string ⟨#[]⟩, .slice none 0 0, .int .i64 0, .int .i64 0]), 10, 128) := by kernel_rfl
section
variable {W : World} {ops : Array Oper} {rest : List Oper} {o : Oper} {a : Act} {K : Act → World → Prop} {Q : Exit → Act → World → Prop} {E : Prop}
theorem step_pt (hgd : o.guard = none) (s x : Operand) (ho : o.op = .call { callee := .builtin .append, args := #[s, x], argTypes := #[223, 223] })
    (ao : Option Addr) (n : Nat) (pl : List (Pt × Option Addr × Nat)) (hs : a.eval s = .slice ao n n) (hpl : pl.length = n) (hn : n ≤ 10) (hnone : ao = none → n = 0) (hold : ∀ b, ao = some b → ∀ j u, (ptsX pl)[j]? = some u → W.cell? (b.add j) = some u)
    (b : Nat) (p : Pt) (sa : Option Addr) (sc : Nat) (hx : a.eval x = .slice (some ⟨b, 0, none⟩) 1 1) (hc : W.heap[b]? = some (.cells (ptX p sa sc).toArray 202 (0, 0)))
    (h : ∀ g cap w', w'.ownsRow W.heap.size 202 10 (.slice (some ⟨g, 0, none⟩) (n + 1) cap) (n + 1) (ptsX (pl ++ [(p, sa, sc)])) → Below W.heap.size W w' → K (a.put o.dst (.slice (some ⟨g, 0, none⟩) (n + 1) cap)) w') :
    if Region.wanted o (yielded ops a.tmps) = true then Oper.wp Tryz.prog o a W K Q else E := by
  obtain ⟨i0, hi, hz0, hz1, hz2⟩ := info_parts infoPt
  refine step_append_grows hgd s x 223 ho 202 i0 _ 10 128 Tryz.underlying223 hi hz0 hz1 hz2 rfl (by decide) ao n n (ptsX pl) hs (fun h => ⟨hnone h, hnone h⟩) (by rw [ptsX_length, hpl]) hold ⟨b, 0, none⟩ 1 1 (ptX p sa sc) hx rfl (World.news_of_block hc) ?_ (by omega) (by unfold maxLen; omega) (by omega) ?_
  · intro u hu
    simp only [ptX, List.mem_cons, List.not_mem_nil, or_false] at hu
    rcases hu with rfl | rfl | rfl | rfl | rfl | rfl | rfl | rfl | rfl | rfl <;> rfl
  · intro v' w' h1 h2
    obtain ⟨g, cap, rfl, -⟩ := own_sliceP h1 (by omega)
    refine h g cap w' ?_ ⟨h2.os, h2.tape, h2.output, h2.size, fun k hk => h2.block k hk (by simp)⟩
    rw [show ptsX (pl ++ [(p, sa, sc)]) = ptsX pl ++ ptX p sa sc by simp [ptsX]]
    exact h1
end
end Go.Proofs.YtknhphcfcpjhiaaGreatDoor
namespace Go.Proofs.YtknhphcfcpjhiaaGreatDoor
open Go.RowKit
set_option linter.unusedVariables false
set_option linter.unusedSimpArgs false
set_option maxRecDepth 100000
theorem pm_nil (k : Int) (op : ByteArray) (lv : Int) (c : Bool) (l : Int) (la : Nat) : (pmX (⟨k, op, lv, [], c, l⟩, la)).toArray = #[.int .i64 k, .string op, .int .i64 0, .int .i64 0, .string ⟨#[]⟩, .string ⟨#[]⟩, .string ⟨#[]⟩, .slice none 0 0, .int .i64 lv, .slice none 0 0, .bool c, .int .i64 l] := by
  simp [pmX]
theorem wait_nil (k : Int) (op : ByteArray) (lv : Int) (c : Bool) (l : Int) (hl : InR l) (A : Nat → Prop) (N : Nat) (w : World) (wa : Option Addr) (wn wc : Nat) (ws : List Wd) (v : Value) (s : Tk) (ms : List PM) (h : TSt A N w wa wn wc ws v s ms) (hfew : s.op.length + 1 ≤ s.pos) :
    Calls Tryz.prog 168 #[.pointer (some ⟨N, 0, none⟩), .agg #[.int .i64 k, .string op, .int .i64 0, .int .i64 0, .string ⟨#[]⟩, .string ⟨#[]⟩, .string ⟨#[]⟩, .slice none 0 0, .int .i64 lv, .slice none 0 0, .bool c, .int .i64 0], .int .i64 l] w (WaitP A N w wa wn wc ws v (waitP s ⟨k, op, lv, [], c, 0⟩ l) (ms ++ [(⟨k, op, lv, [], c, s.least⟩, 0)])) := by
  have := wait_any ⟨k, op, lv, [], c, 0⟩ 0 l hl A N w wa wn wc ws v s ms h (by simp) (fun q hq => by cases hq) hfew
  rwa [pm_nil] at this
set_option maxHeartbeats 12800000 in
theorem aggregate_any (A : Nat → Prop) (N : Nat) (w : World) (wa : Option Addr) (wn wc : Nat) (ws : List Wd) (v : Value) (s : Tk) (ms : List PM) (h : TSt A N w wa wn wc ws v s ms) (t : Bs) (ht : t.length ≤ 140737488355328) :
    Calls Tryz.prog 219 #[.pointer (some ⟨N, 0, none⟩), .string (bs t)] w (WordP A N w wa wn wc ws v (agP ws t s)) := by
  have H0 := Lib.hid h
  have hlow := h.low
  have HFew := Lib.hid h.few
  obtain ⟨x, hx⟩ : ∃ x, x = bs t := ⟨_, rfl⟩
  have HXx := Lib.hid hx
  have HXs := Lib.hid (show x.size ≤ maxLen by rw [hx]; unfold maxLen; simp [bs, ByteArray.size]; omega)
  have hxl : x.toList = t := by rw [hx, bs_list]
  rw [← hx]
  have hB1 := bel0 (.cells #[.int .i64 0, .string ⟨#[]⟩, .int .i64 0, .int .i64 0, .string ⟨#[]⟩, .string ⟨#[]⟩, .string ⟨#[]⟩, .slice none 0 0, .int .i64 0, .int .i64 0] 202) (Below.refl w.heap.size w)
  have HX := Lib.hid (Go.heap_alloc_new w (.cells #[.int .i64 0, .string ⟨#[]⟩, .int .i64 0, .int .i64 0, .string ⟨#[]⟩, .string ⟨#[]⟩, .string ⟨#[]⟩, .slice none 0 0, .int .i64 0, .int .i64 0] 202 (0, 0)))
  have HSz := Lib.hid (show (w.alloc (.cells #[.int .i64 0, .string ⟨#[]⟩, .int .i64 0, .int .i64 0, .string ⟨#[]⟩, .string ⟨#[]⟩, .string ⟨#[]⟩, .slice none 0 0, .int .i64 0, .int .i64 0] 202)).heap.size = w.heap.size + 1 by simp)
  clear h hx ht
  go_enter Tryz.func219, Tryz.ntmps219
  go_upto_region 1 with (fail)
  generalize (w.alloc (.cells #[.int .i64 0, .string ⟨#[]⟩, .int .i64 0, .int .i64 0, .string ⟨#[]⟩, .string ⟨#[]⟩, .string ⟨#[]⟩, .slice none 0 0, .int .i64 0, .int .i64 0] 202)) = w1 at *
  have HT1 := Lib.hid (TTo.of_below (v := v) hB1 (Nat.le_of_lt hlow))
  have HS1 := Lib.hid ((H0.out.enter w1.heap.size).below hB1)
  have HBX := Lib.hid (show ∀ (W : World) (v' : Value), TTo N v v' w1 W → W.heap[w.heap.size]? = some (.cells #[.int .i64 0, .string ⟨#[]⟩, .int .i64 0, .int .i64 0, .string ⟨#[]⟩, .string ⟨#[]⟩, .string ⟨#[]⟩, .slice none 0 0, .int .i64 0, .int .i64 0] 202 (0, 0)) from fun W v' t => (TTo.box H0.out t (Nat.le_refl _) (by have := HSz.out; omega)).trans HX.out)
  have HnB := Lib.hid (show ¬ Bx A w.heap.size w1.heap.size w.heap.size from fun hb => hb.elim (fun h => Nat.lt_irrefl _ h.2) (fun h => by have := HSz.out; omega))
  have HSub := Lib.hid (Bx.sub (A := A) (H := w.heap.size) (H1 := w1.heap.size) (by have := HSz.out; omega))
  have HLow := Lib.hid hlow
  have HSg := Lib.hid (fun (t : Bs) (W : World) (s' : Tk) (hs : TSt (Bx A w.heap.size w1.heap.size) N W wa wn wc ws v s' ms) => sign_any t (Bx A w.heap.size w1.heap.size) N W wa wn wc ws v s' ms hs)
  clear hB1 hlow
  go_wp2_with fail
  refine (HSg.out [40] _ s HS1.out).mono ?_
  rintro e w2 ⟨rfl, hs2, ht2⟩
  obtain ⟨b1, hb1⟩ : ∃ b, b = isW ws s.pos 4 [40] := ⟨_, rfl⟩
  have HB1 := Lib.hid hb1
  rw [← hb1] at hs2 ⊢
  have HS2 := Lib.hid hs2
  have HT2 := Lib.hid ht2
  clear hs2 ht2 hb1
  cases b1 with
  | false =>
    have HQ := Lib.hid (show agP ws t s = (zPt, false, false, s) by unfold agP; rw [if_pos HB1.out.symm])
    have HS2 := Lib.hid (show TSt (Bx A w.heap.size w1.heap.size) N w2 wa wn wc ws v s ms from HS2.out)
    have hR := HBX.out w2 v HT2.out
    obtain ⟨r0, r1, r2, r3, r4, r5, r6, r7, r8, r9, rz, rN⟩ := row10 hR
    have HFin := Lib.hid (part_done HS2.out hR HLow.out HnB.out (HT1.out.trans HT2.out) (Nat.le_refl _) HSub.out zPt none 0 prg_zero (.nil none))
    clear hR
    go_wp2
    refine bodyPost_ret (results_pt3 rfl _ _ w.heap.size _ _ _ _ _ _ _ _ _ _ rfl HFin.out.1) rfl ?_
    rw [HQ.out]
    exact ⟨_, v, ms, rfl, HFin.out.2.1, HFin.out.2.2.1, HFin.out.2.2.2⟩
  | true =>
    have HS2 := Lib.hid (show TSt (Bx A w.heap.size w1.heap.size) N w2 wa wn wc ws v (adv s) ms from HS2.out)
    have HNf := Lib.hid (show ¬ isW ws s.pos 4 [40] = false by rw [← HB1.out]; decide)
    go_upto_region 4 with (fail)
    have hB23 := bel0 (.cells #[.int .i64 6, .string x, .int .i64 0, .int .i64 0, .string ⟨#[]⟩, .string ⟨#[]⟩, .string ⟨#[]⟩, .slice none 0 0] 82) (Below.refl w2.heap.size w2)
    have HE := Lib.hid (Go.heap_alloc_new w2 (.cells #[.int .i64 6, .string x, .int .i64 0, .int .i64 0, .string ⟨#[]⟩, .string ⟨#[]⟩, .string ⟨#[]⟩, .slice none 0 0] 82 (0, 0)))
    generalize (w2.alloc (.cells #[.int .i64 6, .string x, .int .i64 0, .int .i64 0, .string ⟨#[]⟩, .string ⟨#[]⟩, .string ⟨#[]⟩, .slice none 0 0] 82)) = w3 at *
    have HS3 := Lib.hid (HS2.out.below hB23)
    have HT23 := Lib.hid (TTo.of_below (v := v) hB23 (Nat.le_of_lt HS2.out.low))
    have HT3 := Lib.hid (HT2.out.trans HT23.out)
    have HSz3 := Lib.hid (show w2.heap.size < w3.heap.size from (Array.getElem?_eq_some_iff.1 HE.out).1)
    have HEb := Lib.hid (show ∀ (W : World) (v' : Value), TTo N v v' w3 W → W.heap[w2.heap.size]? = some (.cells #[.int .i64 6, .string x, .int .i64 0, .int .i64 0, .string ⟨#[]⟩, .string ⟨#[]⟩, .string ⟨#[]⟩, .slice none 0 0] 82 (0, 0)) from fun W v' t => (TTo.box HS2.out t (Nat.le_refl _) HSz3.out).trans HE.out)
    clear hB23
    by_cases htc : t = [67, 79, 85, 78, 84]
    · have e1 : (x.toList == [67, 79, 85, 78, 84]) = true := by rw [hxl]; simp [htc]
      have HTc := Lib.hid htc
      clear hxl htc
      go_wp2_with fail
      refine (HSg.out [42] _ (adv s) HS3.out).mono ?_
      rintro e w4 ⟨rfl, hs4, ht4⟩
      obtain ⟨b2, hb2⟩ : ∃ b, b = isW ws (adv s).pos 4 [42] := ⟨_, rfl⟩
      have HB2 := Lib.hid (show b2 = isW ws (s.pos + 1) 4 [42] from hb2)
      rw [← hb2] at hs4 ⊢
      have HS4 := Lib.hid hs4
      have HT34 := Lib.hid ht4
      have HT4 := Lib.hid (HT3.out.trans ht4)
      clear hs4 ht4 hb2
      cases b2 with
      | true =>
        have HS4 := Lib.hid (show TSt (Bx A w.heap.size w1.heap.size) N w4 wa wn wc ws v (adv (adv s)) ms from HS4.out)
        obtain ⟨g0, g1, g2, g3, g4, g5, g6, g7, gz, gN⟩ := row8 (HEb.out w4 v HT34.out)
        go_wp2_with fail
        refine (build_any 6 x 0 0 ⟨#[]⟩ ⟨#[]⟩ ⟨#[]⟩ 8 [] (erg_op rfl HXs.out) (by unfold InR; omega) _ (fun _ => False) none 0 0 (psAt_nil _ _) (by simp)).mono ?_
        rintro e w5 ⟨pv, rfl, ⟨sa, sc, rfl, hrg, hel⟩, hb5⟩
        obtain ⟨p, hp⟩ : ∃ p, p = buildP 6 x 0 0 ⟨#[]⟩ ⟨#[]⟩ ⟨#[]⟩ 8 [] := ⟨_, rfl⟩
        have HP := Lib.hid hp
        rw [← hp] at hrg hel ⊢
        rw [ptX_arr]
        have HS5 := Lib.hid (HS4.out.below hb5)
        have HT5 := Lib.hid (HT4.out.trans (.of_below hb5 (Nat.le_of_lt HS4.out.low)))
        have HRg := Lib.hid hrg
        have HEl := Lib.hid (show EL w5 (TQ (Bx A w.heap.size w1.heap.size) N v) sa p.e.parts from el_fresh HS4.out hel HT4.out.below.size)
        clear hb5 hel hrg hp g0 g1 g2 g3 g4 g5 g6 g7 gz gN
        go_wp2_with fail
        refine (HSg.out [41] _ (adv (adv s)) HS5.out).mono ?_
        rintro e w6 ⟨rfl, hs6, ht6⟩
        obtain ⟨b3, hb3⟩ : ∃ b, b = isW ws (adv (adv s)).pos 4 [41] := ⟨_, rfl⟩
        have HB3 := Lib.hid (show b3 = isW ws (s.pos + 2) 4 [41] from hb3)
        rw [← hb3] at hs6 ⊢
        have HS6 := Lib.hid hs6
        have HT6 := Lib.hid (HT5.out.trans ht6)
        have HEl6 := Lib.hid (HEl.out.toT ht6)
        clear hs6 ht6 hb3
        have HQ := Lib.hid (show agP ws t s = (p, true, b3, if b3 = true then adv (adv (adv s)) else adv (adv s)) by
          unfold agP
          rw [if_neg HNf.out, if_pos ⟨HTc.out, HB2.out.symm⟩, HP.out, HXx.out, ← HB3.out]
          cases b3 <;> rfl)
        have hR := HBX.out w6 v HT6.out
        obtain ⟨r0, r1, r2, r3, r4, r5, r6, r7, r8, r9, rz, rN⟩ := row10 hR
        have HFin := Lib.hid (part_done HS6.out hR HLow.out HnB.out (HT1.out.trans HT6.out) (Nat.le_refl _) HSub.out p sa sc HRg.out HEl6.out)
        clear hR
        go_wp2
        refine bodyPost_ret (results_pt3 rfl _ _ w.heap.size _ _ _ _ _ _ _ _ _ _ rfl HFin.out.1) rfl ?_
        rw [HQ.out]
        exact ⟨_, v, ms, rfl, HFin.out.2.1, HFin.out.2.2.1, HFin.out.2.2.2⟩
      | false =>
        have HS4 := Lib.hid (show TSt (Bx A w.heap.size w1.heap.size) N w4 wa wn wc ws v (adv s) ms from HS4.out)
        have HQ := Lib.hid (show agP ws t s = (zPt, false, true, waitP (adv s) ⟨6, bs t, 8, [], true, 0⟩ 1) by
          unfold agP
          rw [if_neg HNf.out, if_neg (fun hh => by have := hh.2; rw [← HB2.out] at this; cases this)])
        rw [← HXx.out] at HQ
        obtain ⟨g0, g1, g2, g3, g4, g5, g6, g7, gz, gN⟩ := row8 (HEb.out w4 v HT34.out)
        go_wp2_with fail
        refine (wait_nil 6 x 8 true 1 (by unfold InR; omega) _ N _ wa wn wc ws v (adv s) ms HS4.out (Nat.succ_le_succ HFew.out)).mono ?_
        rintro e w7 ⟨rfl, v7, hs7, ht7⟩
        have HS7 := Lib.hid hs7
        have HT7 := Lib.hid (HT4.out.trans ht7)
        clear hs7 ht7 g0 g1 g2 g3 g4 g5 g6 g7 gz gN
        have hR := HBX.out w7 v7 HT7.out
        obtain ⟨r0, r1, r2, r3, r4, r5, r6, r7, r8, r9, rz, rN⟩ := row10 hR
        have HFin := Lib.hid (part_done HS7.out hR HLow.out HnB.out (HT1.out.trans HT7.out) (Nat.le_refl _) HSub.out zPt none 0 prg_zero (.nil none))
        clear hR
        go_wp2
        refine bodyPost_ret (results_pt3 rfl _ _ w.heap.size _ _ _ _ _ _ _ _ _ _ rfl HFin.out.1) rfl ?_
        rw [HQ.out]
        exact ⟨_, v7, _, rfl, HFin.out.2.1, HFin.out.2.2.1, HFin.out.2.2.2⟩
    · have e1 : (x.toList == [67, 79, 85, 78, 84]) = false := by rw [hxl]; exact beq_eq_false_iff_ne.2 htc
      have HQ := Lib.hid (show agP ws t s = (zPt, false, true, waitP (adv s) ⟨6, bs t, 8, [], true, 0⟩ 1) by
        unfold agP
        rw [if_neg HNf.out, if_neg (fun hh => htc hh.1)])
      clear hxl htc
      have HS4 := HS3
      have HT4 := HT3
      have HT34 := Lib.hid (TTo.refl N v w3)
      rw [← HXx.out] at HQ
      obtain ⟨g0, g1, g2, g3, g4, g5, g6, g7, gz, gN⟩ := row8 (HEb.out w3 v HT34.out)
      go_wp2_with fail
      refine (wait_nil 6 x 8 true 1 (by unfold InR; omega) _ N _ wa wn wc ws v (adv s) ms HS4.out (Nat.succ_le_succ HFew.out)).mono ?_
      rintro e w7 ⟨rfl, v7, hs7, ht7⟩
      have HS7 := Lib.hid hs7
      have HT7 := Lib.hid (HT4.out.trans ht7)
      clear hs7 ht7 g0 g1 g2 g3 g4 g5 g6 g7 gz gN
      have hR := HBX.out w7 v7 HT7.out
      obtain ⟨r0, r1, r2, r3, r4, r5, r6, r7, r8, r9, rz, rN⟩ := row10 hR
      have HFin := Lib.hid (part_done HS7.out hR HLow.out HnB.out (HT1.out.trans HT7.out) (Nat.le_refl _) HSub.out zPt none 0 prg_zero (.nil none))
      clear hR
      go_wp2
      refine bodyPost_ret (results_pt3 rfl _ _ w.heap.size _ _ _ _ _ _ _ _ _ _ rfl HFin.out.1) rfl ?_
      rw [HQ.out]
      exact ⟨_, v7, _, rfl, HFin.out.2.1, HFin.out.2.2.1, HFin.out.2.2.2⟩
end Go.Proofs.YtknhphcfcpjhiaaGreatDoor
