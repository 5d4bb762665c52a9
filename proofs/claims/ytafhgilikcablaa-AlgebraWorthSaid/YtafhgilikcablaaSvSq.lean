/- Whether something is reckoned in a cell: the program's Sums, by ContainsFunc. -/
import Derived.Test.YtafhgilikcablaaSvR1
namespace Go.Proofs.Ytafhgilikcablaa
open Go.RowKit
set_option linter.unusedVariables false
set_option linter.unusedSimpArgs false
set_option maxRecDepth 100000
/-- all but the parts -/
def headT (a b : CT) : Bool := (a.kind == b.kind) && ((a.op.toList == b.op.toList) && ((a.vk == b.vk) && ((a.vn == b.vn) && ((a.vs.toList == b.vs.toList) && ((a.src == b.src) && (a.col == b.col))))))
mutual
def sameT : CT → CT → Bool
  | .mk k o vk vn vs s c ps, b => headT (.mk k o vk vn vs s c []) b && sameL ps b.parts
def sameL : List CT → List CT → Bool
  | [], m => m.isEmpty
  | a :: l, m => match m with
    | [] => false
    | b :: m => sameT a b && sameL l m
end
theorem sameT_is (a b : CT) : sameT a b = (headT a b && sameL a.parts b.parts) := by cases a; rfl
theorem sameL_len : ∀ (l m : List CT), l.length ≠ m.length → sameL l m = false
  | [], [], h => (h rfl).elim
  | [], b :: m, _ => rfl
  | a :: l, [], _ => rfl
  | a :: l, b :: m, h => by
    show (sameT a b && sameL l m) = false
    rw [sameL_len l m (fun e => h (by rw [List.length_cons, List.length_cons, e])), Bool.and_false]
theorem sameL_drop {l m : List CT} {k : Nat} (h : k < l.length) (h' : k < m.length) : sameL (l.drop k) (m.drop k) = (sameT (l[k]) (m[k]) && sameL (l.drop (k + 1)) (m.drop (k + 1))) := by
  rw [List.drop_eq_getElem_cons h, List.drop_eq_getElem_cons h']
  rfl
theorem sameL_end {l m : List CT} (h : l.length = m.length) : sameL (l.drop l.length) (m.drop l.length) = true := by
  rw [List.drop_length, h, List.drop_length]
  rfl
theorem headT_refl (a : CT) : headT a a = true := by unfold headT; simp
theorem sameT_refl : ∀ (N : Nat) (a : CT), ctSz a ≤ N → sameT a a = true := by
  intro N
  induction N with
  | zero => intro a h; rw [ctSz_is] at h; omega
  | succ N ih =>
    intro a h
    rw [sameT_is, headT_refl, Bool.true_and]
    have key : ∀ l : List CT, (∀ p ∈ l, ctSz p ≤ N) → sameL l l = true := by
      intro l
      induction l with
      | nil => intro _; rfl
      | cons p l il =>
        intro hp
        show (sameT p p && sameL l l) = true
        rw [ih p (hp p List.mem_cons_self), il (fun x hx => hp x (List.mem_cons_of_mem _ hx))]
        rfl
    exact key _ (fun p hp => by have := ctSz_part hp; omega)
/-- the document's: something is reckoned -/
def sumHD (k : Int) (o : ByteArray) : Bool := ((k == 3) || (k == 4)) && reckB o
mutual
def sumsR (f : Int → ByteArray → Bool) : CT → Bool
  | .mk k o _ _ _ _ _ ps => f k o || sumsRL f ps
def sumsRL (f : Int → ByteArray → Bool) : List CT → Bool
  | [] => false
  | p :: ps => sumsR f p || sumsRL f ps
end
theorem sumsR_is (f : Int → ByteArray → Bool) (c : CT) : sumsR f c = (f c.kind c.op || sumsRL f c.parts) := by cases c; rfl
theorem sumsRL_any (f : Int → ByteArray → Bool) : ∀ l : List CT, sumsRL f l = l.any (sumsR f)
  | [] => rfl
  | p :: l => by show (sumsR f p || sumsRL f l) = _; rw [sumsRL_any f l, List.any_cons]
set_option maxHeartbeats 3200000 in
theorem same14_any : ∀ (N : Nat) (a : CT), ctSz a ≤ N → ∀ (b : CT) (w : World) (Q Q' : Nat → Prop) (v v' : Value), CV w Q v a → CV w Q' v' b →
    Calls Try.prog 20 #[v, v'] w fun e' w' => e' = .returned (.bool (sameT a b)) ∧ Below w.heap.size w w' := by
  intro N
  induction N with
  | zero => intro a h; rw [ctSz_is] at h; omega
  | succ N ih =>
    intro a hN b w Q Q' v v' hv hv'
    obtain ⟨sa, sc, rfl, hrg, hel⟩ := hv
    obtain ⟨sa', sc', rfl, hrg', hel'⟩ := hv'
    have HN := Lib.hid hN
    have HE := Lib.hid hel
    have HE' := Lib.hid hel'
    have HIH := Lib.hid ih
    have hlen : a.parts.length ≤ 9223372036854775807 := by have := hrg.le; have := hrg.cap; unfold maxLen at this; omega
    have hlen' : b.parts.length ≤ 9223372036854775807 := by have := hrg'.le; have := hrg'.cap; unfold maxLen at this; omega
    have HSm := Lib.hid (sameT_is a b)
    obtain ⟨n, hn⟩ : ∃ n, n = a.parts.length := ⟨_, rfl⟩
    obtain ⟨m, hm⟩ : ∃ m, m = b.parts.length := ⟨_, rfl⟩
    have HNl := Lib.hid hn
    have HMl := Lib.hid hm
    have e0 : (ctX a sa sc).toArray = #[.int .i64 a.kind, .string a.op, .int .i64 a.vk, .int .i64 a.vn, .string a.vs, .int .i64 a.src, .int .i64 a.col, .slice sa n sc] := by rw [hn]; rfl
    have e1 : (ctX b sa' sc').toArray = #[.int .i64 b.kind, .string b.op, .int .i64 b.vk, .int .i64 b.vn, .string b.vs, .int .i64 b.src, .int .i64 b.col, .slice sa' m sc'] := by rw [hm]; rfl
    rw [e0, e1]
    rw [← hn] at hlen
    rw [← hm] at hlen'
    have HB := Lib.hid (bel0 (.cells #[.int .i64 b.kind, .string b.op, .int .i64 b.vk, .int .i64 b.vn, .string b.vs, .int .i64 b.src, .int .i64 b.col, .slice sa' m sc'] 56) (bel0 (.cells #[.int .i64 a.kind, .string a.op, .int .i64 a.vk, .int .i64 a.vn, .string a.vs, .int .i64 a.src, .int .i64 a.col, .slice sa n sc] 56) (Below.refl w.heap.size w)))
    have HBX := Lib.hid (boxes2 w (.cells #[.int .i64 a.kind, .string a.op, .int .i64 a.vk, .int .i64 a.vn, .string a.vs, .int .i64 a.src, .int .i64 a.col, .slice sa n sc] 56 (0, 0)) (.cells #[.int .i64 b.kind, .string b.op, .int .i64 b.vk, .int .i64 b.vn, .string b.vs, .int .i64 b.src, .int .i64 b.col, .slice sa' m sc'] 56 (0, 0)))
    clear hrg hel hrg' hel' ih hn hm hN e0 e1
    go_enter Try.func20, Try.ntmps20
    go_upto_region 1 with (fail)
    generalize ((w.alloc (.cells #[.int .i64 a.kind, .string a.op, .int .i64 a.vk, .int .i64 a.vn, .string a.vs, .int .i64 a.src, .int .i64 a.col, .slice sa n sc] 56)).alloc (.cells #[.int .i64 b.kind, .string b.op, .int .i64 b.vk, .int .i64 b.vn, .string b.vs, .int .i64 b.src, .int .i64 b.col, .slice sa' m sc'] 56)) = w1 at *
    obtain ⟨⟨hA, hB⟩, hsz⟩ := HBX.out
    have HA := Lib.hid hA
    have HBb := Lib.hid hB
    have hs0 : w.heap.size < w1.heap.size := by omega
    have hs1 : w.heap.size + 1 < w1.heap.size := by omega
    have HSz := Lib.hid hsz
    obtain ⟨c0, c1, c2, c3, c4, c5, c6, c7⟩ := cellsE hA
    obtain ⟨d0, d1, d2, d3, d4, d5, d6, d7⟩ := cellsE hB
    clear hA hB hsz HBX
    go_wp2_with fail
    all_goals first
      | (go_ret
         refine ⟨?_, HB.out⟩
         rw [HSm.out]
         cases hd : headT a b with
         | false => rfl
         | true =>
           unfold headT at hd
           simp only [Bool.and_eq_true, beq_iff_eq] at hd
           obtain ⟨h1, h2, h3, h4, h5, h6, h7⟩ := hd
           first
             | (exfalso; contradiction)
             | (rw [Bool.true_and]
                refine congrArg (fun b => Ending.returned (.bool b)) (sameL_len _ _ (fun e => ?_)).symm
                have hx := HNl.out
                have hy := HMl.out
                have hz : ((n : Int) != (m : Int)) = true := by assumption
                rw [bne_iff_ne] at hz
                omega))
      | skip
    have hnm : n = m := by
      have h : ((n : Int) != (m : Int)) = false := by assumption
      simp at h
      omega
    have HSp := Lib.hid (show sameT a b = sameL a.parts b.parts by
      rw [HSm.out, show headT a b = true by (unfold headT; simp [*]), Bool.true_and])
    have HNm := Lib.hid hnm
    subst hnm
    clear c0 c1 c2 c3 c4 c5 c6 c7 d0 d1 d2 d3 d4 d5 d6 d7
    go_loopw [51] (fun i wr => ∃ (k : Nat), k ≤ n ∧ i = .int .i64 (k : Int) ∧ Hid (sameL (a.parts.drop k) (b.parts.drop k) = sameT a b ∧ Below w1.heap.size w1 wr)) (fun i _ => n - (intOf i).toNat)
    case atStart => exact ⟨0, by omega, rfl, Lib.hid ⟨HSp.out.symm, Below.refl _ _⟩⟩
    case round =>
      obtain ⟨k, hk, rfl, HL⟩ := hrel
      have hk0 : (0 : Int) ≤ (k : Int) := by omega
      by_cases hlt : k < n
      · have hki : (k : Int) < (n : Int) := by omega
        have hkp : k < a.parts.length := by rw [← HNl.out]; exact hlt
        have hkq : k < b.parts.length := by rw [← HMl.out]; exact hlt
        obtain ⟨g, off, pa, pc, hsa, hgl, hat, hprg, hpl⟩ := HE.out.at (i := k) hkp
        obtain ⟨g', off', pa', pc', hsa', hgl', hat', hprg', hpl'⟩ := HE'.out.at (i := k) hkq
        subst hsa
        subst hsa'
        have HBw := Lib.hid (bt HB.out (show Below w1.heap.size w1 wr from HL.out.2))
        have hA : wr.heap[w.heap.size]? = _ := (HL.out.2.block _ (by have := HSz.out; omega)).trans HA.out
        have hB : wr.heap[w.heap.size + 1]? = _ := (HL.out.2.block _ (by have := HSz.out; omega)).trans HBb.out
        have c7 := (cellsE hA).2.2.2.2.2.2.2
        have d7 := (cellsE hB).2.2.2.2.2.2.2
        clear hA hB
        have hat2 := hat.below hgl HBw.out
        have hat2' := hat'.below hgl' HBw.out
        have hgw : g < wr.heap.size := Nat.lt_of_lt_of_le hgl HBw.out.size
        have hgw' : g' < wr.heap.size := Nat.lt_of_lt_of_le hgl' HBw.out.size
        have q0 := hat2.c0
        have q1 := hat2.c1
        have q2 := hat2.c2
        have q3 := hat2.c3
        have q4 := hat2.c4
        have q5 := hat2.c5
        have q6 := hat2.c6
        have q7 := hat2.c7
        have r0 := hat2'.c0
        have r1 := hat2'.c1
        have r2 := hat2'.c2
        have r3 := hat2'.c3
        have r4 := hat2'.c4
        have r5 := hat2'.c5
        have r6 := hat2'.c6
        have r7 := hat2'.c7
        have HD := Lib.hid (sameL_drop hkp hkq)
        have hpm : a.parts[k] ∈ a.parts := List.getElem_mem _
        obtain ⟨p, hp⟩ : ∃ p, p = a.parts[k] := ⟨_, rfl⟩
        obtain ⟨r, hr⟩ : ∃ r, r = b.parts[k] := ⟨_, rfl⟩
        rw [← hp] at q0 q1 q2 q3 q4 q5 q6 q7 hprg hpl hpm HD
        rw [← hr] at r0 r1 r2 r3 r4 r5 r6 r7 hprg' hpl' HD
        have HCz := Lib.hid (show ctSz p ≤ N by have := ctSz_part hpm; have := HN.out; omega)
        have HEv := Lib.hid (show CV wr Q (.agg #[.int .i64 p.kind, .string p.op, .int .i64 p.vk, .int .i64 p.vn, .string p.vs, .int .i64 p.src, .int .i64 p.col, .slice pa p.parts.length pc]) p from ⟨pa, pc, rfl, hprg, hpl.keep HBw.out⟩)
        have HEv' := Lib.hid (show CV wr Q' (.agg #[.int .i64 r.kind, .string r.op, .int .i64 r.vk, .int .i64 r.vn, .string r.vs, .int .i64 r.src, .int .i64 r.col, .slice pa' r.parts.length pc']) r from ⟨pa', pc', rfl, hprg', hpl'.keep HBw.out⟩)
        have HLt := Lib.hid hlt
        have hs0 : w.heap.size < wr.heap.size := by have := HL.out.2.size; have := HSz.out; omega
        have hs1 : w.heap.size + 1 < wr.heap.size := by have := HL.out.2.size; have := HSz.out; omega
        clear hat hat2 hprg hpl hp hkp hat' hat2' hprg' hpl' hr hkq hlt hk hgl hgl' hpm
        have HK := Lib.hid (show ∀ s : Fut wr, Calls Try.prog 20 #[.agg #[.int .i64 p.kind, .string p.op, .int .i64 p.vk, .int .i64 p.vn, .string p.vs, .int .i64 p.src, .int .i64 p.col, .slice pa p.parts.length pc], .agg #[.int .i64 r.kind, .string r.op, .int .i64 r.vk, .int .i64 r.vn, .string r.vs, .int .i64 r.src, .int .i64 r.col, .slice pa' r.parts.length pc']] s.to fun e w' => e = .returned (.bool (sameT p r)) ∧ Below s.to.heap.size s.to w' from fun s => HIH.out p HCz.out r s.to Q Q' _ _ (HEv.out.keep s.bel) (HEv'.out.keep s.bel))
        go_upto_region 6 with (fail)
        have j0 := Fut.cell q0
        have j1 := Fut.cell q1
        have j2 := Fut.cell q2
        have j3 := Fut.cell q3
        have j4 := Fut.cell q4
        have j5 := Fut.cell q5
        have j6 := Fut.cell q6
        have j7 := Fut.cell q7
        have l0 := Fut.cell r0
        have l1 := Fut.cell r1
        have l2 := Fut.cell r2
        have l3 := Fut.cell r3
        have l4 := Fut.cell r4
        have l5 := Fut.cell r5
        have l6 := Fut.cell r6
        have l7 := Fut.cell r7
        have k7 := Fut.cell c7
        have m7 := Fut.cell d7
        clear q0 q1 q2 q3 q4 q5 q6 q7 r0 r1 r2 r3 r4 r5 r6 r7 c7 d7
        refine wp_region_fut (by kernel_rfl) (by kernel_rfl) ?_
        repeat (go_big_quiet_step ((go_at_call 20; exact calls_fut (HK.out _))))
        refine wpQuiet_nil ?_
        rintro _ ⟨s3, rfl⟩
        have hb3 := s3.bel
        generalize s3.to = w3 at *
        have HB3 := Lib.hid (bt (show Below w1.heap.size w1 wr from HL.out.2) hb3)
        clear hb3 s3 j0 j1 j2 j3 j4 j5 j6 j7 l0 l1 l2 l3 l4 l5 l6 l7 k7 m7
        cases hs : sameT p r with
        | false =>
          have HQ := Lib.hid (show sameT a b = false by rw [← HL.out.1, HD.out, hs]; rfl)
          have HBf := Lib.hid (bt HB.out HB3.out)
          go_wp2
          go_ret
          rw [HQ.out]
          exact ⟨rfl, HBf.out⟩
        | true =>
          have HQ := Lib.hid (show sameL (a.parts.drop (k + 1)) (b.parts.drop (k + 1)) = sameT a b by rw [← HL.out.1, HD.out, hs]; rfl)
          go_wp2
          go_roundw
          case rel => exact ⟨k + 1, HLt.out, by go_num, Lib.hid ⟨HQ.out, HB3.out⟩⟩
          case measure => have := HLt.out; simp [intOf]; omega
      · have hkk : ¬ ((k : Int) < (n : Int)) := by omega
        have HQ := Lib.hid (show sameT a b = true by
          have h1 := HL.out.1
          rw [show k = a.parts.length by rw [← HNl.out]; omega, sameL_end (by rw [← HNl.out, ← HMl.out])] at h1
          exact h1.symm)
        have HBf := Lib.hid (bt HB.out (show Below w1.heap.size w1 wr from HL.out.2))
        go_wp2
        go_ret
        rw [HQ.out]
        exact ⟨rfl, HBf.out⟩
end Go.Proofs.Ytafhgilikcablaa
namespace Go.Proofs.Ytafhgilikcablaa
open Go.RowKit
set_option linter.unusedVariables false
set_option linter.unusedSimpArgs false
set_option maxRecDepth 100000
theorem any_skip {l : List CT} {f : CT → Bool} {k : Nat} (h : k < l.length) (hf : f (l[k]) = true) : l.any f = true := List.any_eq_true.2 ⟨_, List.getElem_mem h, hf⟩
set_option maxHeartbeats 3200000 in
theorem sums14_any : ∀ (N : Nat) (a : CT), ctSz a ≤ N → ∀ (w : World) (Q : Nat → Prop) (v : Value), CV w Q v a →
    Calls Try.prog 27 #[v] w fun e' w' => e' = .returned (.bool (sumsR sumHD a)) ∧ Below w.heap.size w w' := by
  intro N
  induction N with
  | zero => intro a h; rw [ctSz_is] at h; omega
  | succ N ih =>
    intro a hN w Q v hv
    obtain ⟨sa, sc, rfl, hrg, hel⟩ := hv
    have HN := Lib.hid hN
    have HE := Lib.hid hel
    have HIH := Lib.hid ih
    have hlen : a.parts.length ≤ 9223372036854775807 := by have := hrg.le; have := hrg.cap; unfold maxLen at this; omega
    have HSm := Lib.hid (show sumsR sumHD a = (sumHD a.kind a.op || a.parts.any (sumsR sumHD)) by rw [sumsR_is, sumsRL_any])
    obtain ⟨n, hn⟩ : ∃ n, n = a.parts.length := ⟨_, rfl⟩
    have HNl := Lib.hid hn
    have e0 : (ctX a sa sc).toArray = #[.int .i64 a.kind, .string a.op, .int .i64 a.vk, .int .i64 a.vn, .string a.vs, .int .i64 a.src, .int .i64 a.col, .slice sa n sc] := by rw [hn]; rfl
    rw [e0]
    rw [← hn] at hlen
    have HB := Lib.hid (bel0 (.cells #[.int .i64 a.kind, .string a.op, .int .i64 a.vk, .int .i64 a.vn, .string a.vs, .int .i64 a.src, .int .i64 a.col, .slice sa n sc] 56) (Below.refl w.heap.size w))
    have HA := Lib.hid (Go.heap_alloc_new w (.cells #[.int .i64 a.kind, .string a.op, .int .i64 a.vk, .int .i64 a.vn, .string a.vs, .int .i64 a.src, .int .i64 a.col, .slice sa n sc] 56 (0, 0)))
    have HSz := Lib.hid (show (w.alloc (.cells #[.int .i64 a.kind, .string a.op, .int .i64 a.vk, .int .i64 a.vn, .string a.vs, .int .i64 a.src, .int .i64 a.col, .slice sa n sc] 56)).heap.size = w.heap.size + 1 by simp)
    clear hrg hel ih hn hN e0
    go_enter Try.func27, Try.ntmps27
    go_upto_region 1 with (fail)
    generalize (w.alloc (.cells #[.int .i64 a.kind, .string a.op, .int .i64 a.vk, .int .i64 a.vn, .string a.vs, .int .i64 a.src, .int .i64 a.col, .slice sa n sc] 56)) = w1 at *
    have hs0 : w.heap.size < w1.heap.size := by have := HSz.out; omega
    obtain ⟨c0, c1, c2, c3, c4, c5, c6, c7⟩ := cellsE HA.out
    obtain ⟨b, hb⟩ : ∃ b, b = sumHD a.kind a.op := ⟨_, rfl⟩
    have HHd := Lib.hid hb
    rw [← hb] at HSm
    clear hb
    go_wp2_with (go_at_call 67; refine (reckons14_any _ _).mono ?_; rintro e' w2 ⟨rfl, hw2⟩; obtain rfl := hw2.symm)
    all_goals first
      | (go_ret
         refine ⟨?_, HB.out⟩
         rw [HSm.out, HHd.out, show sumHD a.kind a.op = true by (unfold sumHD; simp [*])]
         rfl)
      | skip
    all_goals
      have HSp := Lib.hid (show a.parts.any (sumsR sumHD) = sumsR sumHD a by
        rw [HSm.out, HHd.out, show sumHD a.kind a.op = false by (unfold sumHD; simp [*]), Bool.false_or])
      clear c0 c1 c2 c3 c4 c5 c6
      go_loopw [20] (fun i wr => ∃ (k : Nat), k ≤ n ∧ i = .int .i64 (k : Int) ∧ Hid ((a.parts.take k).any (sumsR sumHD) = false ∧ Below w1.heap.size w1 wr)) (fun i _ => n - (intOf i).toNat)
      case atStart => exact ⟨0, by omega, rfl, Lib.hid ⟨rfl, Below.refl _ _⟩⟩
      case round =>
        obtain ⟨k, hk, rfl, HL⟩ := hrel
        have hk0 : (0 : Int) ≤ (k : Int) := by omega
        by_cases hlt : k < n
        · have hki : (k : Int) < (n : Int) := by omega
          have hkp : k < a.parts.length := by rw [← HNl.out]; exact hlt
          obtain ⟨g, off, pa, pc, hsa, hgl, hat, hprg, hpl⟩ := HE.out.at (i := k) hkp
          subst hsa
          have HBw := Lib.hid (bt HB.out (show Below w1.heap.size w1 wr from HL.out.2))
          have hA : wr.heap[w.heap.size]? = _ := (HL.out.2.block _ (by have := HSz.out; omega)).trans HA.out
          have d7 := (cellsE hA).2.2.2.2.2.2.2
          clear hA c7
          have hat2 := hat.below hgl HBw.out
          have hgw : g < wr.heap.size := Nat.lt_of_lt_of_le hgl HBw.out.size
          have q0 := hat2.c0
          have q1 := hat2.c1
          have q2 := hat2.c2
          have q3 := hat2.c3
          have q4 := hat2.c4
          have q5 := hat2.c5
          have q6 := hat2.c6
          have q7 := hat2.c7
          have hpm : a.parts[k] ∈ a.parts := List.getElem_mem _
          have HSt := Lib.hid (show sumsR sumHD (a.parts[k]) = true → a.parts.any (sumsR sumHD) = true from fun h => any_skip hkp h)
          have HTk := Lib.hid (show sumsR sumHD (a.parts[k]) = false → (a.parts.take (k + 1)).any (sumsR sumHD) = false from fun h => any_more hkp HL.out.1 h)
          obtain ⟨p, hp⟩ : ∃ p, p = a.parts[k] := ⟨_, rfl⟩
          rw [← hp] at q0 q1 q2 q3 q4 q5 q6 q7 hprg hpl hpm HSt HTk
          have HCz := Lib.hid (show ctSz p ≤ N by have := ctSz_part hpm; have := HN.out; omega)
          have HEv := Lib.hid (show CV wr Q (.agg #[.int .i64 p.kind, .string p.op, .int .i64 p.vk, .int .i64 p.vn, .string p.vs, .int .i64 p.src, .int .i64 p.col, .slice pa p.parts.length pc]) p from ⟨pa, pc, rfl, hprg, hpl.keep HBw.out⟩)
          have HLt := Lib.hid hlt
          have hs1 : w.heap.size < wr.heap.size := by have := HL.out.2.size; have := HSz.out; omega
          clear hat hat2 hprg hpl hp hkp hlt hk hgl hpm
          go_wp2_with fail
          refine (HIH.out p HCz.out wr Q _ HEv.out).mono ?_
          rintro e' w3 ⟨rfl, hb3⟩
          have HB3 := Lib.hid (bt (show Below w1.heap.size w1 wr from HL.out.2) hb3)
          clear hb3 q0 q1 q2 q3 q4 q5 q6 q7 d7
          cases hs : sumsR sumHD p with
          | true =>
            have HQ := Lib.hid (show sumsR sumHD a = true by rw [← HSp.out]; exact HSt.out hs)
            have HBf := Lib.hid (bt HB.out HB3.out)
            go_wp2
            go_ret
            rw [HQ.out]
            exact ⟨rfl, HBf.out⟩
          | false =>
            have HQ := Lib.hid (HTk.out hs)
            go_wp2
            go_roundw
            case rel => first | exact ⟨k + 1, HLt.out, by go_num, Lib.hid ⟨HQ.out, HB3.out⟩⟩ | (simp only [show reckB a.op = false by assumption]; refine ⟨_, _, _, _, _, _, _, _, _, _, _, _, ?_, rfl⟩; exact ⟨k + 1, HLt.out, by go_num, Lib.hid ⟨HQ.out, HB3.out⟩⟩)
            case measure => have := HLt.out; simp [intOf]; omega
        · have hkk : ¬ ((k : Int) < (n : Int)) := by omega
          have HQ := Lib.hid (show sumsR sumHD a = false by
            have h1 := HL.out.1
            rw [List.take_of_length_le (by rw [← HNl.out]; omega)] at h1
            rw [← HSp.out]
            exact h1)
          have HBf := Lib.hid (bt HB.out (show Below w1.heap.size w1 wr from HL.out.2))
          go_wp2
          go_ret
          rw [HQ.out]
          exact ⟨rfl, HBf.out⟩
end Go.Proofs.Ytafhgilikcablaa
namespace Go.Proofs.Ytafhgilikcablaa
open Go.RowKit
set_option linter.unusedVariables false
set_option linter.unusedSimpArgs false
set_option maxRecDepth 100000
set_option maxHeartbeats 3200000 in
theorem equal_any (N : Nat) (ih : ∀ (a : CT), ctSz a ≤ N → ∀ (b : CT) (w : World) (Q Q' : Nat → Prop) (v v' : Value), CV w Q v a → CV w Q' v' b → Calls Try.prog 24 #[v, v'] w fun e' w' => e' = .returned (.bool (sameT a b)) ∧ Below w.heap.size w w')
    (l m : List CT) (hl : ∀ p ∈ l, ctSz p ≤ N) (w : World) (Q Q' : Nat → Prop) (sa sa' : Option Addr) (n c n' c' : Nat) (hn : n = l.length) (hm : n' = m.length) (hle : n ≤ 9223372036854775807) (hle' : n' ≤ 9223372036854775807) (hE : CL w Q sa l) (hE' : CL w Q' sa' m) :
    Calls Try.prog 64 #[.slice sa n c, .slice sa' n' c', .func (Fn.func 24) #[] #[]] w fun e' w' => e' = .returned (.bool (sameL l m)) ∧ Below w.heap.size w w' := by
  have HIH := Lib.hid ih
  have HSz := Lib.hid hl
  have HE := Lib.hid hE
  have HE' := Lib.hid hE'
  have HNl := Lib.hid hn
  have HMl := Lib.hid hm
  clear ih hl hE hE'
  by_cases hnm : n = n'
  · have HNm := Lib.hid hnm
    subst hnm
    have H0 := Lib.hid (show sameL (l.drop 0) (m.drop 0) = sameL l m from rfl)
    clear hn hm
    go_enter Try.func64, Try.ntmps64
    go_wp2_with fail
    go_loopw [17] (fun i wr => ∃ (k : Nat), k ≤ n ∧ i = .int .i64 (k : Int) ∧ Hid (sameL (l.drop k) (m.drop k) = sameL l m ∧ Below w.heap.size w wr)) (fun i _ => n - (intOf i).toNat)
    case atStart => exact ⟨0, by omega, rfl, Lib.hid ⟨H0.out, Below.refl _ _⟩⟩
    case round =>
      obtain ⟨k, hk, rfl, HL⟩ := hrel
      have hk0 : (0 : Int) ≤ (k : Int) := by omega
      by_cases hlt : k < n
      · have hki : (k : Int) < (n : Int) := by omega
        have hkp : k < l.length := by rw [← HNl.out]; exact hlt
        have hkq : k < m.length := by rw [← HMl.out]; exact hlt
        obtain ⟨g, off, pa, pc, hsa, hgl, hat, hprg, hpl⟩ := HE.out.at (i := k) hkp
        obtain ⟨g', off', pa', pc', hsa', hgl', hat', hprg', hpl'⟩ := HE'.out.at (i := k) hkq
        subst hsa
        subst hsa'
        have HBw := Lib.hid HL.out.2
        have hat2 := hat.below hgl HBw.out
        have hat2' := hat'.below hgl' HBw.out
        have hgw : g < wr.heap.size := Nat.lt_of_lt_of_le hgl HBw.out.size
        have hgw' : g' < wr.heap.size := Nat.lt_of_lt_of_le hgl' HBw.out.size
        have q0 := hat2.c0
        have q1 := hat2.c1
        have q2 := hat2.c2
        have q3 := hat2.c3
        have q4 := hat2.c4
        have q5 := hat2.c5
        have q6 := hat2.c6
        have q7 := hat2.c7
        have r0 := hat2'.c0
        have r1 := hat2'.c1
        have r2 := hat2'.c2
        have r3 := hat2'.c3
        have r4 := hat2'.c4
        have r5 := hat2'.c5
        have r6 := hat2'.c6
        have r7 := hat2'.c7
        have HD := Lib.hid (sameL_drop hkp hkq)
        have hpm : l[k] ∈ l := List.getElem_mem _
        obtain ⟨p, hp⟩ : ∃ p, p = l[k] := ⟨_, rfl⟩
        obtain ⟨r, hr⟩ : ∃ r, r = m[k] := ⟨_, rfl⟩
        rw [← hp] at q0 q1 q2 q3 q4 q5 q6 q7 hprg hpl hpm HD
        rw [← hr] at r0 r1 r2 r3 r4 r5 r6 r7 hprg' hpl' HD
        have HCz := Lib.hid (HSz.out p hpm)
        have HEv := Lib.hid (show ∀ W, Below wr.heap.size wr W → CV W Q (.agg #[.int .i64 p.kind, .string p.op, .int .i64 p.vk, .int .i64 p.vn, .string p.vs, .int .i64 p.src, .int .i64 p.col, .slice pa p.parts.length pc]) p from fun W hW => ⟨pa, pc, rfl, hprg, hpl.keep (bt HBw.out hW)⟩)
        have HEv' := Lib.hid (show ∀ W, Below wr.heap.size wr W → CV W Q' (.agg #[.int .i64 r.kind, .string r.op, .int .i64 r.vk, .int .i64 r.vn, .string r.vs, .int .i64 r.src, .int .i64 r.col, .slice pa' r.parts.length pc']) r from fun W hW => ⟨pa', pc', rfl, hprg', hpl'.keep (bt HBw.out hW)⟩)
        have HLt := Lib.hid hlt
        clear hat hat2 hprg hpl hp hkp hat' hat2' hprg' hpl' hr hkq hlt hk hgl hgl' hpm
        go_wp2_with fail
        refine (HIH.out p HCz.out r _ Q Q' _ _ (HEv.out _ (bel0 _ (bel0 _ (Below.refl _ _)))) (HEv'.out _ (bel0 _ (bel0 _ (Below.refl _ _))))).mono ?_
        rintro e' w3 ⟨rfl, hb3⟩
        have HB3 := Lib.hid (bt HBw.out (bt (bel0 _ (bel0 _ (Below.refl _ _))) hb3))
        clear hb3 q0 q1 q2 q3 q4 q5 q6 q7 r0 r1 r2 r3 r4 r5 r6 r7
        cases hs : sameT p r with
        | false =>
          have HQ := Lib.hid (show sameL l m = false by rw [← HL.out.1, HD.out, hs]; rfl)
          go_wp2
          go_ret
          rw [HQ.out]
          exact ⟨rfl, HB3.out⟩
        | true =>
          have HQ := Lib.hid (show sameL (l.drop (k + 1)) (m.drop (k + 1)) = sameL l m by rw [← HL.out.1, HD.out, hs]; rfl)
          go_wp2
          go_roundw
          case rel => first | exact ⟨k + 1, HLt.out, by go_num, Lib.hid ⟨HQ.out, HB3.out⟩⟩ | exact ⟨_, _, ⟨k + 1, HLt.out, by go_num, Lib.hid ⟨HQ.out, HB3.out⟩⟩, rfl⟩
          case measure => have := HLt.out; simp [intOf]; omega
      · have hkk : ¬ ((k : Int) < (n : Int)) := by omega
        have HQ := Lib.hid (show sameL l m = true by
          have h1 := HL.out.1
          rw [show k = l.length by rw [← HNl.out]; omega, sameL_end (by rw [← HNl.out, ← HMl.out])] at h1
          exact h1.symm)
        go_wp2
        go_ret
        rw [HQ.out]
        exact ⟨rfl, HL.out.2⟩
  · have HQ := Lib.hid (show sameL l m = false from sameL_len l m (by rw [← hn, ← hm]; exact hnm))
    have hne : ((n : Int) != (n' : Int)) = true := by rw [bne_iff_ne]; omega
    have hne2 : ¬ ((n : Int) = (n' : Int)) := by omega
    clear hn hm
    go_enter Try.func64, Try.ntmps64
    go_wp2
    go_ret
    rw [HQ.out]
    exact ⟨rfl, Below.refl _ _⟩
set_option maxHeartbeats 3200000 in
theorem same_any : ∀ (N : Nat) (a : CT), ctSz a ≤ N → ∀ (b : CT) (w : World) (Q Q' : Nat → Prop) (v v' : Value), CV w Q v a → CV w Q' v' b →
    Calls Try.prog 24 #[v, v'] w fun e' w' => e' = .returned (.bool (sameT a b)) ∧ Below w.heap.size w w' := by
  intro N
  induction N with
  | zero => intro a h; rw [ctSz_is] at h; omega
  | succ N ih =>
    intro a hN b w Q Q' v v' hv hv'
    obtain ⟨sa, sc, rfl, hrg, hel⟩ := hv
    obtain ⟨sa', sc', rfl, hrg', hel'⟩ := hv'
    have HE := Lib.hid hel
    have HE' := Lib.hid hel'
    have HIH := Lib.hid ih
    have hlen : a.parts.length ≤ 9223372036854775807 := by have := hrg.le; have := hrg.cap; unfold maxLen at this; omega
    have hlen' : b.parts.length ≤ 9223372036854775807 := by have := hrg'.le; have := hrg'.cap; unfold maxLen at this; omega
    have HSm := Lib.hid (sameT_is a b)
    have HPz := Lib.hid (show ∀ p ∈ a.parts, ctSz p ≤ N from fun p hp => by have := ctSz_part hp; omega)
    obtain ⟨n, hn⟩ : ∃ n, n = a.parts.length := ⟨_, rfl⟩
    obtain ⟨m, hm⟩ : ∃ m, m = b.parts.length := ⟨_, rfl⟩
    have HNl := Lib.hid hn
    have HMl := Lib.hid hm
    have e0 : (ctX a sa sc).toArray = #[.int .i64 a.kind, .string a.op, .int .i64 a.vk, .int .i64 a.vn, .string a.vs, .int .i64 a.src, .int .i64 a.col, .slice sa n sc] := by rw [hn]; rfl
    have e1 : (ctX b sa' sc').toArray = #[.int .i64 b.kind, .string b.op, .int .i64 b.vk, .int .i64 b.vn, .string b.vs, .int .i64 b.src, .int .i64 b.col, .slice sa' m sc'] := by rw [hm]; rfl
    rw [e0, e1]
    rw [← hn] at hlen
    rw [← hm] at hlen'
    have HL := Lib.hid hlen
    have HL' := Lib.hid hlen'
    have HB := Lib.hid (bel0 (.cells #[.int .i64 b.kind, .string b.op, .int .i64 b.vk, .int .i64 b.vn, .string b.vs, .int .i64 b.src, .int .i64 b.col, .slice sa' m sc'] 46) (bel0 (.cells #[.int .i64 a.kind, .string a.op, .int .i64 a.vk, .int .i64 a.vn, .string a.vs, .int .i64 a.src, .int .i64 a.col, .slice sa n sc] 46) (Below.refl w.heap.size w)))
    have HBX := Lib.hid (boxes2 w (.cells #[.int .i64 a.kind, .string a.op, .int .i64 a.vk, .int .i64 a.vn, .string a.vs, .int .i64 a.src, .int .i64 a.col, .slice sa n sc] 46 (0, 0)) (.cells #[.int .i64 b.kind, .string b.op, .int .i64 b.vk, .int .i64 b.vn, .string b.vs, .int .i64 b.src, .int .i64 b.col, .slice sa' m sc'] 46 (0, 0)))
    clear hrg hel hrg' hel' ih hn hm hN e0 e1
    go_enter Try.func24, Try.ntmps24
    go_upto_region 1 with (fail)
    generalize ((w.alloc (.cells #[.int .i64 a.kind, .string a.op, .int .i64 a.vk, .int .i64 a.vn, .string a.vs, .int .i64 a.src, .int .i64 a.col, .slice sa n sc] 46)).alloc (.cells #[.int .i64 b.kind, .string b.op, .int .i64 b.vk, .int .i64 b.vn, .string b.vs, .int .i64 b.src, .int .i64 b.col, .slice sa' m sc'] 46)) = w1 at *
    obtain ⟨⟨hA, hB⟩, hsz⟩ := HBX.out
    have hs0 : w.heap.size < w1.heap.size := by omega
    have hs1 : w.heap.size + 1 < w1.heap.size := by omega
    obtain ⟨c0, c1, c2, c3, c4, c5, c6, c7⟩ := cellsE hA
    obtain ⟨d0, d1, d2, d3, d4, d5, d6, d7⟩ := cellsE hB
    clear hA hB hsz HBX
    go_wp2_with (go_at_call 64; refine (equal_any N HIH.out a.parts b.parts HPz.out _ Q Q' sa sa' n sc m sc' HNl.out HMl.out HL.out HL'.out (HE.out.keep HB.out) (HE'.out.keep HB.out)).mono ?_; rintro e' w3 ⟨rfl, hb3⟩)
    all_goals
      go_ret
      rw [HSm.out]
      first
        | (refine ⟨?_, bt HB.out hb3⟩
           cases hd : headT a b with
           | false =>
             unfold headT at hd
             simp [*] at hd
           | true => simp)
        | (refine ⟨?_, HB.out⟩
           cases hd : headT a b with
           | false => first | rfl | simp
           | true =>
             unfold headT at hd
             simp only [Bool.and_eq_true, beq_iff_eq] at hd
             obtain ⟨h1, h2, h3, h4, h5, h6, h7⟩ := hd
             exfalso
             first | contradiction | simp_all)
end Go.Proofs.Ytafhgilikcablaa
namespace Go.Proofs.Ytafhgilikcablaa
open Go.RowKit
set_option linter.unusedVariables false
set_option linter.unusedSimpArgs false
set_option maxRecDepth 100000
set_option maxHeartbeats 3200000 in
theorem idxSums_any (N : Nat) (ih : ∀ (a : CT), ctSz a ≤ N → ∀ (w : World) (Q : Nat → Prop) (v : Value), CV w Q v a → Calls Try.prog 26 #[v] w fun e' w' => e' = .returned (.bool (sumsR reckP a)) ∧ Below w.heap.size w w')
    (l : List CT) (hl : ∀ p ∈ l, ctSz p ≤ N) (w : World) (Q : Nat → Prop) (a : Option Addr) (cap n : Nat) (hn : n = l.length) (hlen : n ≤ 9223372036854775807) (hE : CL w Q a l) :
    Calls Try.prog 99 #[.slice a n cap, .func (Fn.func 26) #[] #[]] w fun e w' => e = .returned (.int .i64 (posI (sumsR reckP) l)) ∧ Below w.heap.size w w' := by
  have HIH := Lib.hid ih
  have HSz := Lib.hid hl
  have HE := Lib.hid hE
  have HN := Lib.hid hn
  clear ih hl hn hE
  go_enter Try.func99, Try.ntmps99
  go_wp2
  go_loopw [8] (fun i wr => ∃ (k : Nat), k ≤ n ∧ i = .int .i64 (k : Int) ∧ Hid ((l.take k).any (sumsR reckP) = false ∧ Below w.heap.size w wr)) (fun i _ => n - (intOf i).toNat)
  case atStart => exact ⟨0, by omega, rfl, Lib.hid ⟨rfl, Below.refl _ _⟩⟩
  case round =>
    obtain ⟨k, hk, rfl, HR⟩ := hrel
    have hk0 : (0 : Int) ≤ (k : Int) := by omega
    by_cases hlt : k < n
    · have hki : (k : Int) < (n : Int) := by omega
      have hkl : k < l.length := by rw [← HN.out]; exact hlt
      have HLt := Lib.hid hlt
      obtain ⟨b, off, pa, pc, rfl, hbl, hat, hprg, hpl⟩ := (HE.out.keep HR.out.2).at hkl
      have q0 := hat.c0
      have q1 := hat.c1
      have q2 := hat.c2
      have q3 := hat.c3
      have q4 := hat.c4
      have q5 := hat.c5
      have q6 := hat.c6
      have q7 := hat.c7
      have HP := Lib.hid (show sumsR reckP (l[k]) = true → posI (sumsR reckP) l = (k : Int) from fun h => posI_hit hkl HR.out.1 h)
      have HM := Lib.hid (show sumsR reckP (l[k]) = false → (l.take (k + 1)).any (sumsR reckP) = false from fun h => any_more hkl HR.out.1 h)
      have hpm : l[k] ∈ l := List.getElem_mem _
      obtain ⟨p, hp⟩ : ∃ p, p = l[k] := ⟨_, rfl⟩
      rw [← hp] at q0 q1 q2 q3 q4 q5 q6 q7 hprg hpl hpm HP HM
      have HCz := Lib.hid (HSz.out p hpm)
      have HEv := Lib.hid (show CV wr Q (.agg #[.int .i64 p.kind, .string p.op, .int .i64 p.vk, .int .i64 p.vn, .string p.vs, .int .i64 p.src, .int .i64 p.col, .slice pa p.parts.length pc]) p from ⟨pa, pc, rfl, hprg, hpl⟩)
      clear hat hp hkl hlt hk hprg hpl hpm
      go_wp2_with fail
      refine (HIH.out p HCz.out wr Q _ HEv.out).mono ?_
      rintro e w3 ⟨rfl, hb3⟩
      have HB3 := Lib.hid (bt HR.out.2 hb3)
      clear hb3 q0 q1 q2 q3 q4 q5 q6 q7
      cases hr : sumsR reckP p with
      | true =>
        have HQ := Lib.hid (HP.out hr)
        go_wp2
        go_ret
        rw [HQ.out]
        exact ⟨rfl, HB3.out⟩
      | false =>
        have HQ := Lib.hid (HM.out hr)
        go_wp2
        go_roundw
        case rel => exact ⟨k + 1, HLt.out, by go_num, Lib.hid ⟨HQ.out, HB3.out⟩⟩
        case measure => have := HLt.out; simp [intOf]; omega
    · have hkk : ¬ ((k : Int) < (n : Int)) := by omega
      have HQ := Lib.hid (show posI (sumsR reckP) l = -1 from posI_none (by
        have h1 := HR.out.1
        rw [List.take_of_length_le (by rw [← HN.out]; omega)] at h1
        exact h1))
      go_wp2
      go_ret
      rw [HQ.out]
      exact ⟨rfl, HR.out.2⟩
set_option maxHeartbeats 3200000 in
theorem hasSums_any (N : Nat) (ih : ∀ (a : CT), ctSz a ≤ N → ∀ (w : World) (Q : Nat → Prop) (v : Value), CV w Q v a → Calls Try.prog 26 #[v] w fun e' w' => e' = .returned (.bool (sumsR reckP a)) ∧ Below w.heap.size w w')
    (l : List CT) (hl : ∀ p ∈ l, ctSz p ≤ N) (w : World) (Q : Nat → Prop) (a : Option Addr) (cap n : Nat) (hn : n = l.length) (hlen : n ≤ 9223372036854775807) (hE : CL w Q a l) :
    Calls Try.prog 66 #[.slice a n cap, .func (Fn.func 26) #[] #[]] w fun e w' => e = .returned (.bool (l.any (sumsR reckP))) ∧ Below w.heap.size w w' := by
  have HP := Lib.hid (posI_any (sumsR reckP) l)
  have HI := Lib.hid (idxSums_any N ih l hl w Q a cap n hn hlen hE)
  obtain ⟨y, hy⟩ : ∃ y, y = posI (sumsR reckP) l := ⟨_, rfl⟩
  rw [← hy] at HP HI
  rw [← HP.out]
  clear hy ih hl hn hlen hE
  by_cases h : 0 ≤ y
  · have HE := Lib.hid (decide_eq_true h)
    go_enter Try.func66, Try.ntmps66
    go_wp2_with fail
    refine (HI.out).mono ?_
    rintro e w3 ⟨rfl, hb3⟩
    have HB3 := Lib.hid hb3
    clear hb3
    go_wp2
    go_ret
    exact ⟨by first | rfl | simp [h], HB3.out⟩
  · have HE := Lib.hid (decide_eq_false h)
    go_enter Try.func66, Try.ntmps66
    go_wp2_with fail
    refine (HI.out).mono ?_
    rintro e w3 ⟨rfl, hb3⟩
    have HB3 := Lib.hid hb3
    clear hb3
    go_wp2
    go_ret
    exact ⟨by first | rfl | simp [h], HB3.out⟩
set_option maxHeartbeats 3200000 in
theorem sums_any : ∀ (N : Nat) (a : CT), ctSz a ≤ N → ∀ (w : World) (Q : Nat → Prop) (v : Value), CV w Q v a →
    Calls Try.prog 26 #[v] w fun e' w' => e' = .returned (.bool (sumsR reckP a)) ∧ Below w.heap.size w w' := by
  intro N
  induction N with
  | zero => intro a h; rw [ctSz_is] at h; omega
  | succ N ih =>
    intro a hN w Q v hv
    obtain ⟨sa, sc, rfl, hrg, hel⟩ := hv
    have HE := Lib.hid hel
    have HIH := Lib.hid ih
    have hlen : a.parts.length ≤ 9223372036854775807 := by have := hrg.le; have := hrg.cap; unfold maxLen at this; omega
    have HSm := Lib.hid (show sumsR reckP a = (reckP a.kind a.op || a.parts.any (sumsR reckP)) by rw [sumsR_is, sumsRL_any])
    have HPz := Lib.hid (show ∀ p ∈ a.parts, ctSz p ≤ N from fun p hp => by have := ctSz_part hp; omega)
    obtain ⟨n, hn⟩ : ∃ n, n = a.parts.length := ⟨_, rfl⟩
    have HNl := Lib.hid hn
    have e0 : (ctX a sa sc).toArray = #[.int .i64 a.kind, .string a.op, .int .i64 a.vk, .int .i64 a.vn, .string a.vs, .int .i64 a.src, .int .i64 a.col, .slice sa n sc] := by rw [hn]; rfl
    rw [e0]
    rw [← hn] at hlen
    have HL := Lib.hid hlen
    have HB := Lib.hid (bel0 (.cells #[.int .i64 a.kind, .string a.op, .int .i64 a.vk, .int .i64 a.vn, .string a.vs, .int .i64 a.src, .int .i64 a.col, .slice sa n sc] 46) (Below.refl w.heap.size w))
    have HA := Lib.hid (Go.heap_alloc_new w (.cells #[.int .i64 a.kind, .string a.op, .int .i64 a.vk, .int .i64 a.vn, .string a.vs, .int .i64 a.src, .int .i64 a.col, .slice sa n sc] 46 (0, 0)))
    have hs0 : w.heap.size < (w.alloc (.cells #[.int .i64 a.kind, .string a.op, .int .i64 a.vk, .int .i64 a.vn, .string a.vs, .int .i64 a.src, .int .i64 a.col, .slice sa n sc] 46)).heap.size := by simp
    obtain ⟨b, hb⟩ : ∃ b, b = reckP a.kind a.op := ⟨_, rfl⟩
    have HHd := Lib.hid (show ∀ W : World, Calls Try.prog 65 #[.int .i64 a.kind, .string a.op] W fun e w' => e = .returned (.bool b) ∧ w' = W from fun W => by rw [hb]; exact reckonsP_any W _ _)
    rw [← hb] at HSm
    clear hrg hel ih hn hN e0 hb hlen
    go_enter Try.func26, Try.ntmps26
    go_upto_region 1 with (fail)
    generalize (w.alloc (.cells #[.int .i64 a.kind, .string a.op, .int .i64 a.vk, .int .i64 a.vn, .string a.vs, .int .i64 a.src, .int .i64 a.col, .slice sa n sc] 46)) = w1 at *
    obtain ⟨c0, c1, c2, c3, c4, c5, c6, c7⟩ := cellsE HA.out
    clear c2 c3 c4 c5 c6
    cases b with
    | true =>
      go_wp2_with fail
      refine (HHd.out _).mono ?_
      rintro e' w3 ⟨rfl, hw3⟩
      obtain rfl := hw3.symm
      go_wp2_with fail
      go_ret
      rw [HSm.out]
      exact ⟨rfl, HB.out⟩
    | false =>
      go_wp2_with fail
      refine (HHd.out _).mono ?_
      rintro e' w3 ⟨rfl, hw3⟩
      obtain rfl := hw3.symm
      go_wp2_with fail
      refine (hasSums_any N HIH.out a.parts HPz.out _ Q sa sc n HNl.out HL.out (HE.out.keep HB.out)).mono ?_
      rintro e' w3 ⟨rfl, hb3⟩
      go_wp2_with fail
      go_ret
      rw [HSm.out]
      exact ⟨by simp, bt HB.out hb3⟩
end Go.Proofs.Ytafhgilikcablaa
