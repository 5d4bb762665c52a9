/- Alike: parse.Assign. Written by genpsame.py. -/
import Derived.Test.YtknhphcfcpjhiaaGreatDoorPsmL
namespace Go.Proofs.YtknhphcfcpjhiaaGreatDoor
open Go.RowKit
set_option linter.unusedVariables false
set_option linter.unusedSimpArgs false
set_option maxRecDepth 100000
theorem cells9_As {w : World} {N : Nat} {T : TypeId} {a0 a1 a2 a3 a4 a5 a6 a7 a8 : Value} (h : w.heap[N]? = some (.cells #[a0, a1, a2, a3, a4, a5, a6, a7, a8] T (0, 0))) : w.cell? ⟨N, 0, none⟩ = some a0 ∧ w.cell? ⟨N, 1, none⟩ = some a1 ∧ w.cell? ⟨N, 2, none⟩ = some a2 ∧ w.cell? ⟨N, 3, none⟩ = some a3 ∧ w.cell? ⟨N, 4, none⟩ = some a4 ∧ w.cell? ⟨N, 5, none⟩ = some a5 ∧ w.cell? ⟨N, 6, none⟩ = some a6 ∧ w.cell? ⟨N, 7, none⟩ = some a7 ∧ w.cell? ⟨N, 8, none⟩ = some a8 :=
  ⟨cell_of_row _ _ 0 _ _ _ h, cell_of_row _ _ 1 _ _ _ h, cell_of_row _ _ 2 _ _ _ h, cell_of_row _ _ 3 _ _ _ h, cell_of_row _ _ 4 _ _ _ h, cell_of_row _ _ 5 _ _ _ h, cell_of_row _ _ 6 _ _ _ h, cell_of_row _ _ 7 _ _ _ h, cell_of_row _ _ 8 _ _ _ h⟩
set_option maxHeartbeats 3200000 in
theorem elt_As (a b : As) (w : World) (Q Q' : Nat → Prop) (cs cs' : List Value) (h : asS.R w Q cs a) (h' : asS.R w Q' cs' b) :
    Calls Tryz.prog 39 #[.agg cs.toArray, .agg cs'.toArray] w fun e' w' => e' = .returned (.bool (sameAs a b)) ∧ Below w.heap.size w w' := by
  obtain ⟨sa, sc, rfl, hrg, hel, -⟩ := h
  obtain ⟨sa', sc', rfl, hrg', hel', -⟩ := h'
  have HCl := Lib.hid (show ∀ W, Below w.heap.size w W → Calls Tryz.prog 76 #[.agg (etX a.e sa sc).toArray, .agg (etX b.e sa' sc').toArray] W fun e' w' => e' = .returned (.bool (sameE a.e b.e)) ∧ Below W.heap.size W w' from fun W hW => sameE_any _ a.e (Nat.le_refl _) b.e W Q Q' _ _ ⟨sa, sc, rfl, hrg, hel.keep hW⟩ ⟨sa', sc', rfl, hrg', hel'.keep hW⟩)
  have HSm := Lib.hid (show sameAs a b = ((a.col.toList == b.col.toList) && sameE a.e b.e) from rfl)
  obtain ⟨n, hn⟩ : ∃ n, n = a.e.parts.length := ⟨_, rfl⟩
  obtain ⟨m, hm⟩ : ∃ m, m = b.e.parts.length := ⟨_, rfl⟩
  have e0 : (.string a.col :: etX a.e sa sc : List Value).toArray = #[.string a.col, .int .i64 a.e.kind, .string a.e.op, .int .i64 a.e.vk, .int .i64 a.e.vn, .string a.e.vs, .string a.e.tab, .string a.e.col, .slice sa n sc] := by subst hn; rfl
  have e1 : (.string b.col :: etX b.e sa' sc' : List Value).toArray = #[.string b.col, .int .i64 b.e.kind, .string b.e.op, .int .i64 b.e.vk, .int .i64 b.e.vn, .string b.e.vs, .string b.e.tab, .string b.e.col, .slice sa' m sc'] := by subst hm; rfl
  have e2 : (etX a.e sa sc).toArray = #[.int .i64 a.e.kind, .string a.e.op, .int .i64 a.e.vk, .int .i64 a.e.vn, .string a.e.vs, .string a.e.tab, .string a.e.col, .slice sa n sc] := by subst hn; rfl
  have e3 : (etX b.e sa' sc').toArray = #[.int .i64 b.e.kind, .string b.e.op, .int .i64 b.e.vk, .int .i64 b.e.vn, .string b.e.vs, .string b.e.tab, .string b.e.col, .slice sa' m sc'] := by subst hm; rfl
  rw [e0, e1]
  rw [e2, e3] at HCl
  have HB := Lib.hid (bel0 (.cells #[.string b.col, .int .i64 b.e.kind, .string b.e.op, .int .i64 b.e.vk, .int .i64 b.e.vn, .string b.e.vs, .string b.e.tab, .string b.e.col, .slice sa' m sc'] 85) (bel0 (.cells #[.string a.col, .int .i64 a.e.kind, .string a.e.op, .int .i64 a.e.vk, .int .i64 a.e.vn, .string a.e.vs, .string a.e.tab, .string a.e.col, .slice sa n sc] 85) (Below.refl w.heap.size w)))
  have HBX := Lib.hid (boxes_lit w (.cells #[.string a.col, .int .i64 a.e.kind, .string a.e.op, .int .i64 a.e.vk, .int .i64 a.e.vn, .string a.e.vs, .string a.e.tab, .string a.e.col, .slice sa n sc] 85 (0, 0)) (.cells #[.string b.col, .int .i64 b.e.kind, .string b.e.op, .int .i64 b.e.vk, .int .i64 b.e.vn, .string b.e.vs, .string b.e.tab, .string b.e.col, .slice sa' m sc'] 85 (0, 0)))
  clear hrg hel hrg' hel' hn hm e0 e1 e2 e3
  go_enter Tryz.func39, Tryz.ntmps39
  go_upto_region 1 with (fail)
  generalize ((w.alloc (.cells #[.string a.col, .int .i64 a.e.kind, .string a.e.op, .int .i64 a.e.vk, .int .i64 a.e.vn, .string a.e.vs, .string a.e.tab, .string a.e.col, .slice sa n sc] 85)).alloc (.cells #[.string b.col, .int .i64 b.e.kind, .string b.e.op, .int .i64 b.e.vk, .int .i64 b.e.vn, .string b.e.vs, .string b.e.tab, .string b.e.col, .slice sa' m sc'] 85)) = w1 at *
  obtain ⟨⟨hA, hB⟩, hsz⟩ := HBX.out
  have hs0 : w.heap.size < w1.heap.size := by omega
  have hs1 : w.heap.size + 1 < w1.heap.size := by omega
  obtain ⟨c0, c1, c2, c3, c4, c5, c6, c7, c8⟩ := cells9_As hA
  obtain ⟨d0, d1, d2, d3, d4, d5, d6, d7, d8⟩ := cells9_As hB
  clear hA hB hsz HBX
  go_wp2_with (go_at_call 76; refine (HCl.out _ HB.out).mono ?_; rintro e' w3 ⟨rfl, hb3⟩)
  all_goals
    go_ret
    rw [HSm.out]
    first
      | (refine ⟨?_, bt HB.out hb3⟩
         simp [*])
      | (refine ⟨?_, HB.out⟩
         simp [*])
set_option maxHeartbeats 6400000 in
theorem eqf_As (l m : List As) (w : World) (Q Q' : Nat → Prop) (v v' : Value) (h : SlV asS w Q v l) (h' : SlV asS w Q' v' m) :
    Calls Tryz.prog 38 #[v, v', .func (Fn.func 39) #[] #[]] w fun e' w' => e' = .returned (.bool (sameLB sameAs l m)) ∧ Below w.heap.size w w' := by
  obtain ⟨sa0, c, rfl, hle, hcap, hel⟩ := h
  obtain ⟨sa1, c', rfl, hle', hcap', hel'⟩ := h'
  have HE := Lib.hid hel
  have HE' := Lib.hid hel'
  have hln : l.length ≤ 9223372036854775807 := by unfold maxLen at hcap; omega
  have hln' : m.length ≤ 9223372036854775807 := by unfold maxLen at hcap'; omega
  obtain ⟨n, hn⟩ : ∃ n, n = l.length := ⟨_, rfl⟩
  obtain ⟨n', hm⟩ : ∃ n, n = m.length := ⟨_, rfl⟩
  have HNl := Lib.hid hn
  have HMl := Lib.hid hm
  rw [← hn] at hln ⊢
  rw [← hm] at hln' ⊢
  clear hel hel' hle hle' hcap hcap'
  by_cases hnm : n = n'
  · have HNm := Lib.hid hnm
    subst hnm
    have H0 := Lib.hid (show sameLB sameAs (l.drop 0) (m.drop 0) = sameLB sameAs l m from rfl)
    clear hn hm
    go_enter Tryz.func38, Tryz.ntmps38
    go_wp2_with fail
    go_loopw [17] (fun i wr => ∃ (k : Nat), k ≤ n ∧ i = .int .i64 (k : Int) ∧ Hid (sameLB sameAs (l.drop k) (m.drop k) = sameLB sameAs l m ∧ Below w.heap.size w wr)) (fun i _ => n - (intOf i).toNat)
    case atStart => exact ⟨0, by omega, rfl, Lib.hid ⟨H0.out, Below.refl _ _⟩⟩
    case round =>
      obtain ⟨k, hk, rfl, HL⟩ := hrel
      have hk0 : (0 : Int) ≤ (k : Int) := by omega
      by_cases hlt : k < n
      · have hki : (k : Int) < (n : Int) := by omega
        have hkp : k < l.length := by rw [← HNl.out]; exact hlt
        have hkq : k < m.length := by rw [← HMl.out]; exact hlt
        rcases HE.out with h0 | ⟨g, off, hsa, -, hgl, hc⟩
        · rw [h0] at hkp; simp at hkp
        rcases HE'.out with h0 | ⟨g', off', hsa', -, hgl', hc'⟩
        · rw [h0] at hkq; simp at hkq
        subst hsa
        subst hsa'
        have HBw := Lib.hid HL.out.2
        have hgw : g < wr.heap.size := Nat.lt_of_lt_of_le hgl HBw.out.size
        have hgw' : g' < wr.heap.size := Nat.lt_of_lt_of_le hgl' HBw.out.size
        obtain ⟨cs, hR, hcs⟩ := hc k hkp
        obtain ⟨cs', hR', hcs'⟩ := hc' k hkq
        have HD := Lib.hid (sameLB_drop (f := sameAs) hkp hkq)
        obtain ⟨p, hp⟩ : ∃ p, p = l[k] := ⟨_, rfl⟩
        obtain ⟨r, hr⟩ : ∃ r, r = m[k] := ⟨_, rfl⟩
        rw [← hp] at hR HD
        rw [← hr] at hR' HD
        have HRp := Lib.hid (show ∀ W, Below wr.heap.size wr W → asS.R W Q cs p from fun W hW => asS.far hR (Nat.le_trans HBw.out.size hW.size) (fun b _ hlt => (hW.block b (Nat.lt_of_lt_of_le hlt HBw.out.size)).trans (HBw.out.block b hlt)))
        have HRr := Lib.hid (show ∀ W, Below wr.heap.size wr W → asS.R W Q' cs' r from fun W hW => asS.far hR' (Nat.le_trans HBw.out.size hW.size) (fun b _ hlt => (hW.block b (Nat.lt_of_lt_of_le hlt HBw.out.size)).trans (HBw.out.block b hlt)))
        obtain ⟨pa, pc, rfl, -⟩ := hR
        obtain ⟨pa', pc', rfl, -⟩ := hR'
        have q0 : wr.cell? ⟨g, off + k * 9, none⟩ = some (.string p.col) := (World.cell?_of_block (HBw.out.block g hgl)).trans (hcs 0 _ rfl)
        have q1 : wr.cell? ⟨g, off + k * 9 + 1, none⟩ = some (.int .i64 p.e.kind) := (World.cell?_of_block (HBw.out.block g hgl)).trans (hcs 1 _ rfl)
        have q2 : wr.cell? ⟨g, off + k * 9 + 2, none⟩ = some (.string p.e.op) := (World.cell?_of_block (HBw.out.block g hgl)).trans (hcs 2 _ rfl)
        have q3 : wr.cell? ⟨g, off + k * 9 + 3, none⟩ = some (.int .i64 p.e.vk) := (World.cell?_of_block (HBw.out.block g hgl)).trans (hcs 3 _ rfl)
        have q4 : wr.cell? ⟨g, off + k * 9 + 4, none⟩ = some (.int .i64 p.e.vn) := (World.cell?_of_block (HBw.out.block g hgl)).trans (hcs 4 _ rfl)
        have q5 : wr.cell? ⟨g, off + k * 9 + 5, none⟩ = some (.string p.e.vs) := (World.cell?_of_block (HBw.out.block g hgl)).trans (hcs 5 _ rfl)
        have q6 : wr.cell? ⟨g, off + k * 9 + 6, none⟩ = some (.string p.e.tab) := (World.cell?_of_block (HBw.out.block g hgl)).trans (hcs 6 _ rfl)
        have q7 : wr.cell? ⟨g, off + k * 9 + 7, none⟩ = some (.string p.e.col) := (World.cell?_of_block (HBw.out.block g hgl)).trans (hcs 7 _ rfl)
        have q8 : wr.cell? ⟨g, off + k * 9 + 8, none⟩ = some (.slice pa p.e.parts.length pc) := (World.cell?_of_block (HBw.out.block g hgl)).trans (hcs 8 _ rfl)
        have r0 : wr.cell? ⟨g', off' + k * 9, none⟩ = some (.string r.col) := (World.cell?_of_block (HBw.out.block g' hgl')).trans (hcs' 0 _ rfl)
        have r1 : wr.cell? ⟨g', off' + k * 9 + 1, none⟩ = some (.int .i64 r.e.kind) := (World.cell?_of_block (HBw.out.block g' hgl')).trans (hcs' 1 _ rfl)
        have r2 : wr.cell? ⟨g', off' + k * 9 + 2, none⟩ = some (.string r.e.op) := (World.cell?_of_block (HBw.out.block g' hgl')).trans (hcs' 2 _ rfl)
        have r3 : wr.cell? ⟨g', off' + k * 9 + 3, none⟩ = some (.int .i64 r.e.vk) := (World.cell?_of_block (HBw.out.block g' hgl')).trans (hcs' 3 _ rfl)
        have r4 : wr.cell? ⟨g', off' + k * 9 + 4, none⟩ = some (.int .i64 r.e.vn) := (World.cell?_of_block (HBw.out.block g' hgl')).trans (hcs' 4 _ rfl)
        have r5 : wr.cell? ⟨g', off' + k * 9 + 5, none⟩ = some (.string r.e.vs) := (World.cell?_of_block (HBw.out.block g' hgl')).trans (hcs' 5 _ rfl)
        have r6 : wr.cell? ⟨g', off' + k * 9 + 6, none⟩ = some (.string r.e.tab) := (World.cell?_of_block (HBw.out.block g' hgl')).trans (hcs' 6 _ rfl)
        have r7 : wr.cell? ⟨g', off' + k * 9 + 7, none⟩ = some (.string r.e.col) := (World.cell?_of_block (HBw.out.block g' hgl')).trans (hcs' 7 _ rfl)
        have r8 : wr.cell? ⟨g', off' + k * 9 + 8, none⟩ = some (.slice pa' r.e.parts.length pc') := (World.cell?_of_block (HBw.out.block g' hgl')).trans (hcs' 8 _ rfl)
        have HLt := Lib.hid hlt
        clear hcs hcs' hc hc' hp hkp hr hkq hlt hk hgl hgl'
        go_wp2_with fail
        refine (elt_As p r _ Q Q' _ _ (HRp.out _ (bel0 _ (bel0 _ (Below.refl _ _)))) (HRr.out _ (bel0 _ (bel0 _ (Below.refl _ _))))).mono ?_
        rintro e' w3 ⟨rfl, hb3⟩
        have HB3 := Lib.hid (bt HBw.out (bt (bel0 _ (bel0 _ (Below.refl _ _))) hb3))
        clear hb3 q0 r0 q1 r1 q2 r2 q3 r3 q4 r4 q5 r5 q6 r6 q7 r7 q8 r8
        cases hs : sameAs p r with
        | false =>
          have HQ := Lib.hid (show sameLB sameAs l m = false by rw [← HL.out.1, HD.out, hs]; rfl)
          go_wp2
          go_ret
          rw [HQ.out]
          exact ⟨rfl, HB3.out⟩
        | true =>
          have HQ := Lib.hid (show sameLB sameAs (l.drop (k + 1)) (m.drop (k + 1)) = sameLB sameAs l m by rw [← HL.out.1, HD.out, hs]; rfl)
          go_wp2
          go_roundw
          case rel => first | exact ⟨k + 1, HLt.out, by go_num, Lib.hid ⟨HQ.out, HB3.out⟩⟩ | (repeat apply Exists.intro; refine ⟨?_, rfl⟩; exact ⟨k + 1, HLt.out, by go_num, Lib.hid ⟨HQ.out, HB3.out⟩⟩)
          case measure => have := HLt.out; simp [intOf]; omega
      · have hkk : ¬ ((k : Int) < (n : Int)) := by omega
        have HQ := Lib.hid (show sameLB sameAs l m = true by
          have h1 := HL.out.1
          rw [show k = l.length by rw [← HNl.out]; omega, sameLB_end (by rw [← HNl.out, ← HMl.out])] at h1
          exact h1.symm)
        go_wp2
        go_ret
        rw [HQ.out]
        exact ⟨rfl, HL.out.2⟩
  · have HQ := Lib.hid (show sameLB sameAs l m = false from sameLB_len _ l m (by rw [← hn, ← hm]; exact hnm))
    have hne : ((n : Int) != (n' : Int)) = true := by rw [bne_iff_ne]; omega
    have hne2 : ¬ ((n : Int) = (n' : Int)) := by omega
    clear hn hm
    go_enter Tryz.func38, Tryz.ntmps38
    go_wp2
    go_ret
    rw [HQ.out]
    exact ⟨rfl, Below.refl _ _⟩
end Go.Proofs.YtknhphcfcpjhiaaGreatDoor
