/- parse.sameQuery. Written by gensamq.py. -/
import Derived.Test.YtknhphcfcpjhiaaGreatDoorPsmL
import Derived.Test.YtknhphcfcpjhiaaGreatDoorVRecPure
import Derived.Test.YtknhphcfcpjhiaaGreatDoorPsmSo
import Derived.Test.YtknhphcfcpjhiaaGreatDoorPsDrop
namespace Go.Proofs.YtknhphcfcpjhiaaGreatDoor
open Go.RowKit
set_option linter.unusedVariables false
set_option linter.unusedSimpArgs false
set_option maxRecDepth 100000
theorem cells9_Od {w : World} {N : Nat} {T : TypeId} {a0 a1 a2 a3 a4 a5 a6 a7 a8 : Value} (h : w.heap[N]? = some (.cells #[a0, a1, a2, a3, a4, a5, a6, a7, a8] T (0, 0))) : w.cell? ⟨N, 0, none⟩ = some a0 ∧ w.cell? ⟨N, 1, none⟩ = some a1 ∧ w.cell? ⟨N, 2, none⟩ = some a2 ∧ w.cell? ⟨N, 3, none⟩ = some a3 ∧ w.cell? ⟨N, 4, none⟩ = some a4 ∧ w.cell? ⟨N, 5, none⟩ = some a5 ∧ w.cell? ⟨N, 6, none⟩ = some a6 ∧ w.cell? ⟨N, 7, none⟩ = some a7 ∧ w.cell? ⟨N, 8, none⟩ = some a8 :=
  ⟨cell_of_row _ _ 0 _ _ _ h, cell_of_row _ _ 1 _ _ _ h, cell_of_row _ _ 2 _ _ _ h, cell_of_row _ _ 3 _ _ _ h, cell_of_row _ _ 4 _ _ _ h, cell_of_row _ _ 5 _ _ _ h, cell_of_row _ _ 6 _ _ _ h, cell_of_row _ _ 7 _ _ _ h, cell_of_row _ _ 8 _ _ _ h⟩
set_option maxHeartbeats 3200000 in
theorem elt_Od (a b : Od) (w : World) (Q Q' : Nat → Prop) (cs cs' : List Value) (h : odS.R w Q cs a) (h' : odS.R w Q' cs' b) :
    Calls Tryz.prog 82 #[.agg cs.toArray, .agg cs'.toArray] w fun e' w' => e' = .returned (.bool (sameOd a b)) ∧ Below w.heap.size w w' := by
  obtain ⟨sa, sc, rfl, hrg, hel⟩ := h
  obtain ⟨sa', sc', rfl, hrg', hel'⟩ := h'
  have HCl := Lib.hid (show ∀ W, Below w.heap.size w W → Calls Tryz.prog 76 #[.agg (etX a.e sa sc).toArray, .agg (etX b.e sa' sc').toArray] W fun e' w' => e' = .returned (.bool (sameE a.e b.e)) ∧ Below W.heap.size W w' from fun W hW => sameE_any _ a.e (Nat.le_refl _) b.e W Q Q' _ _ ⟨sa, sc, rfl, hrg, hel.keep hW⟩ ⟨sa', sc', rfl, hrg', hel'.keep hW⟩)
  have HSm := Lib.hid (show sameOd a b = ((a.desc == b.desc) && sameE a.e b.e) from rfl)
  obtain ⟨n, hn⟩ : ∃ n, n = a.e.parts.length := ⟨_, rfl⟩
  obtain ⟨m, hm⟩ : ∃ m, m = b.e.parts.length := ⟨_, rfl⟩
  have e0 : (etX a.e sa sc ++ [.bool a.desc] : List Value).toArray = #[.int .i64 a.e.kind, .string a.e.op, .int .i64 a.e.vk, .int .i64 a.e.vn, .string a.e.vs, .string a.e.tab, .string a.e.col, .slice sa n sc, .bool a.desc] := by subst hn; rfl
  have e1 : (etX b.e sa' sc' ++ [.bool b.desc] : List Value).toArray = #[.int .i64 b.e.kind, .string b.e.op, .int .i64 b.e.vk, .int .i64 b.e.vn, .string b.e.vs, .string b.e.tab, .string b.e.col, .slice sa' m sc', .bool b.desc] := by subst hm; rfl
  have e2 : (etX a.e sa sc).toArray = #[.int .i64 a.e.kind, .string a.e.op, .int .i64 a.e.vk, .int .i64 a.e.vn, .string a.e.vs, .string a.e.tab, .string a.e.col, .slice sa n sc] := by subst hn; rfl
  have e3 : (etX b.e sa' sc').toArray = #[.int .i64 b.e.kind, .string b.e.op, .int .i64 b.e.vk, .int .i64 b.e.vn, .string b.e.vs, .string b.e.tab, .string b.e.col, .slice sa' m sc'] := by subst hm; rfl
  rw [e0, e1]
  rw [e2, e3] at HCl
  have HB := Lib.hid (bel0 (.cells #[.int .i64 b.e.kind, .string b.e.op, .int .i64 b.e.vk, .int .i64 b.e.vn, .string b.e.vs, .string b.e.tab, .string b.e.col, .slice sa' m sc', .bool b.desc] 131) (bel0 (.cells #[.int .i64 a.e.kind, .string a.e.op, .int .i64 a.e.vk, .int .i64 a.e.vn, .string a.e.vs, .string a.e.tab, .string a.e.col, .slice sa n sc, .bool a.desc] 131) (Below.refl w.heap.size w)))
  have HBX := Lib.hid (boxes_lit w (.cells #[.int .i64 a.e.kind, .string a.e.op, .int .i64 a.e.vk, .int .i64 a.e.vn, .string a.e.vs, .string a.e.tab, .string a.e.col, .slice sa n sc, .bool a.desc] 131 (0, 0)) (.cells #[.int .i64 b.e.kind, .string b.e.op, .int .i64 b.e.vk, .int .i64 b.e.vn, .string b.e.vs, .string b.e.tab, .string b.e.col, .slice sa' m sc', .bool b.desc] 131 (0, 0)))
  clear hrg hel hrg' hel' hn hm e0 e1 e2 e3
  go_enter Tryz.func82, Tryz.ntmps82
  go_upto_region 1 with (fail)
  generalize ((w.alloc (.cells #[.int .i64 a.e.kind, .string a.e.op, .int .i64 a.e.vk, .int .i64 a.e.vn, .string a.e.vs, .string a.e.tab, .string a.e.col, .slice sa n sc, .bool a.desc] 131)).alloc (.cells #[.int .i64 b.e.kind, .string b.e.op, .int .i64 b.e.vk, .int .i64 b.e.vn, .string b.e.vs, .string b.e.tab, .string b.e.col, .slice sa' m sc', .bool b.desc] 131)) = w1 at *
  obtain ⟨⟨hA, hB⟩, hsz⟩ := HBX.out
  have hs0 : w.heap.size < w1.heap.size := by omega
  have hs1 : w.heap.size + 1 < w1.heap.size := by omega
  obtain ⟨c0, c1, c2, c3, c4, c5, c6, c7, c8⟩ := cells9_Od hA
  obtain ⟨d0, d1, d2, d3, d4, d5, d6, d7, d8⟩ := cells9_Od hB
  clear hA hB hsz HBX
  go_wp2_with (go_at_call 76; refine (HCl.out _ HB.out).mono ?_; rintro e' w3 ⟨rfl, hb3⟩)
  all_goals
    go_ret
    rw [HSm.out]
    first
      | (refine ⟨?_, bt HB.out hb3⟩
         simp [*])
      | (refine ⟨?_, HB.out⟩
         simp [*])
set_option maxHeartbeats 6400000 in
theorem eqf_Od (l m : List Od) (w : World) (Q Q' : Nat → Prop) (v v' : Value) (h : SlV odS w Q v l) (h' : SlV odS w Q' v' m) :
    Calls Tryz.prog 81 #[v, v', .func (Fn.func 82) #[] #[]] w fun e' w' => e' = .returned (.bool (sameLB sameOd l m)) ∧ Below w.heap.size w w' := by
  obtain ⟨sa0, c, rfl, hle, hcap, hel⟩ := h
  obtain ⟨sa1, c', rfl, hle', hcap', hel'⟩ := h'
  have HE := Lib.hid hel
  have HE' := Lib.hid hel'
  have hln : l.length ≤ 9223372036854775807 := by unfold maxLen at hcap; omega
  have hln' : m.length ≤ 9223372036854775807 := by unfold maxLen at hcap'; omega
  obtain ⟨n, hn⟩ : ∃ n, n = l.length := ⟨_, rfl⟩
  obtain ⟨n', hm⟩ : ∃ n, n = m.length := ⟨_, rfl⟩
  have HNl := Lib.hid hn
  have HMl := Lib.hid hm
  rw [← hn] at hln ⊢
  rw [← hm] at hln' ⊢
  clear hel hel' hle hle' hcap hcap'
  by_cases hnm : n = n'
  · have HNm := Lib.hid hnm
    subst hnm
    have H0 := Lib.hid (show sameLB sameOd (l.drop 0) (m.drop 0) = sameLB sameOd l m from rfl)
    clear hn hm
    go_enter Tryz.func81, Tryz.ntmps81
    go_wp2_with fail
    go_loopw [17] (fun i wr => ∃ (k : Nat), k ≤ n ∧ i = .int .i64 (k : Int) ∧ Hid (sameLB sameOd (l.drop k) (m.drop k) = sameLB sameOd l m ∧ Below w.heap.size w wr)) (fun i _ => n - (intOf i).toNat)
    case atStart => exact ⟨0, by omega, rfl, Lib.hid ⟨H0.out, Below.refl _ _⟩⟩
    case round =>
      obtain ⟨k, hk, rfl, HL⟩ := hrel
      have hk0 : (0 : Int) ≤ (k : Int) := by omega
      by_cases hlt : k < n
      · have hki : (k : Int) < (n : Int) := by omega
        have hkp : k < l.length := by rw [← HNl.out]; exact hlt
        have hkq : k < m.length := by rw [← HMl.out]; exact hlt
        rcases HE.out with h0 | ⟨g, off, hsa, -, hgl, hc⟩
        · rw [h0] at hkp; simp at hkp
        rcases HE'.out with h0 | ⟨g', off', hsa', -, hgl', hc'⟩
        · rw [h0] at hkq; simp at hkq
        subst hsa
        subst hsa'
        have HBw := Lib.hid HL.out.2
        have hgw : g < wr.heap.size := Nat.lt_of_lt_of_le hgl HBw.out.size
        have hgw' : g' < wr.heap.size := Nat.lt_of_lt_of_le hgl' HBw.out.size
        obtain ⟨cs, hR, hcs⟩ := hc k hkp
        obtain ⟨cs', hR', hcs'⟩ := hc' k hkq
        have HD := Lib.hid (sameLB_drop (f := sameOd) hkp hkq)
        obtain ⟨p, hp⟩ : ∃ p, p = l[k] := ⟨_, rfl⟩
        obtain ⟨r, hr⟩ : ∃ r, r = m[k] := ⟨_, rfl⟩
        rw [← hp] at hR HD
        rw [← hr] at hR' HD
        have HRp := Lib.hid (show ∀ W, Below wr.heap.size wr W → odS.R W Q cs p from fun W hW => odS.far hR (Nat.le_trans HBw.out.size hW.size) (fun b _ hlt => (hW.block b (Nat.lt_of_lt_of_le hlt HBw.out.size)).trans (HBw.out.block b hlt)))
        have HRr := Lib.hid (show ∀ W, Below wr.heap.size wr W → odS.R W Q' cs' r from fun W hW => odS.far hR' (Nat.le_trans HBw.out.size hW.size) (fun b _ hlt => (hW.block b (Nat.lt_of_lt_of_le hlt HBw.out.size)).trans (HBw.out.block b hlt)))
        obtain ⟨pa, pc, rfl, -⟩ := hR
        obtain ⟨pa', pc', rfl, -⟩ := hR'
        have q0 : wr.cell? ⟨g, off + k * 9, none⟩ = some (.int .i64 p.e.kind) := (World.cell?_of_block (HBw.out.block g hgl)).trans (hcs 0 _ rfl)
        have q1 : wr.cell? ⟨g, off + k * 9 + 1, none⟩ = some (.string p.e.op) := (World.cell?_of_block (HBw.out.block g hgl)).trans (hcs 1 _ rfl)
        have q2 : wr.cell? ⟨g, off + k * 9 + 2, none⟩ = some (.int .i64 p.e.vk) := (World.cell?_of_block (HBw.out.block g hgl)).trans (hcs 2 _ rfl)
        have q3 : wr.cell? ⟨g, off + k * 9 + 3, none⟩ = some (.int .i64 p.e.vn) := (World.cell?_of_block (HBw.out.block g hgl)).trans (hcs 3 _ rfl)
        have q4 : wr.cell? ⟨g, off + k * 9 + 4, none⟩ = some (.string p.e.vs) := (World.cell?_of_block (HBw.out.block g hgl)).trans (hcs 4 _ rfl)
        have q5 : wr.cell? ⟨g, off + k * 9 + 5, none⟩ = some (.string p.e.tab) := (World.cell?_of_block (HBw.out.block g hgl)).trans (hcs 5 _ rfl)
        have q6 : wr.cell? ⟨g, off + k * 9 + 6, none⟩ = some (.string p.e.col) := (World.cell?_of_block (HBw.out.block g hgl)).trans (hcs 6 _ rfl)
        have q7 : wr.cell? ⟨g, off + k * 9 + 7, none⟩ = some (.slice pa p.e.parts.length pc) := (World.cell?_of_block (HBw.out.block g hgl)).trans (hcs 7 _ rfl)
        have q8 : wr.cell? ⟨g, off + k * 9 + 8, none⟩ = some (.bool p.desc) := (World.cell?_of_block (HBw.out.block g hgl)).trans (hcs 8 _ rfl)
        have r0 : wr.cell? ⟨g', off' + k * 9, none⟩ = some (.int .i64 r.e.kind) := (World.cell?_of_block (HBw.out.block g' hgl')).trans (hcs' 0 _ rfl)
        have r1 : wr.cell? ⟨g', off' + k * 9 + 1, none⟩ = some (.string r.e.op) := (World.cell?_of_block (HBw.out.block g' hgl')).trans (hcs' 1 _ rfl)
        have r2 : wr.cell? ⟨g', off' + k * 9 + 2, none⟩ = some (.int .i64 r.e.vk) := (World.cell?_of_block (HBw.out.block g' hgl')).trans (hcs' 2 _ rfl)
        have r3 : wr.cell? ⟨g', off' + k * 9 + 3, none⟩ = some (.int .i64 r.e.vn) := (World.cell?_of_block (HBw.out.block g' hgl')).trans (hcs' 3 _ rfl)
        have r4 : wr.cell? ⟨g', off' + k * 9 + 4, none⟩ = some (.string r.e.vs) := (World.cell?_of_block (HBw.out.block g' hgl')).trans (hcs' 4 _ rfl)
        have r5 : wr.cell? ⟨g', off' + k * 9 + 5, none⟩ = some (.string r.e.tab) := (World.cell?_of_block (HBw.out.block g' hgl')).trans (hcs' 5 _ rfl)
        have r6 : wr.cell? ⟨g', off' + k * 9 + 6, none⟩ = some (.string r.e.col) := (World.cell?_of_block (HBw.out.block g' hgl')).trans (hcs' 6 _ rfl)
        have r7 : wr.cell? ⟨g', off' + k * 9 + 7, none⟩ = some (.slice pa' r.e.parts.length pc') := (World.cell?_of_block (HBw.out.block g' hgl')).trans (hcs' 7 _ rfl)
        have r8 : wr.cell? ⟨g', off' + k * 9 + 8, none⟩ = some (.bool r.desc) := (World.cell?_of_block (HBw.out.block g' hgl')).trans (hcs' 8 _ rfl)
        have HLt := Lib.hid hlt
        clear hcs hcs' hc hc' hp hkp hr hkq hlt hk hgl hgl'
        go_wp2_with fail
        refine (elt_Od p r _ Q Q' _ _ (HRp.out _ (bel0 _ (bel0 _ (Below.refl _ _)))) (HRr.out _ (bel0 _ (bel0 _ (Below.refl _ _))))).mono ?_
        rintro e' w3 ⟨rfl, hb3⟩
        have HB3 := Lib.hid (bt HBw.out (bt (bel0 _ (bel0 _ (Below.refl _ _))) hb3))
        clear hb3 q0 r0 q1 r1 q2 r2 q3 r3 q4 r4 q5 r5 q6 r6 q7 r7 q8 r8
        cases hs : sameOd p r with
        | false =>
          have HQ := Lib.hid (show sameLB sameOd l m = false by rw [← HL.out.1, HD.out, hs]; rfl)
          go_wp2
          go_ret
          rw [HQ.out]
          exact ⟨rfl, HB3.out⟩
        | true =>
          have HQ := Lib.hid (show sameLB sameOd (l.drop (k + 1)) (m.drop (k + 1)) = sameLB sameOd l m by rw [← HL.out.1, HD.out, hs]; rfl)
          go_wp2
          go_roundw
          case rel => first | exact ⟨k + 1, HLt.out, by go_num, Lib.hid ⟨HQ.out, HB3.out⟩⟩ | (repeat apply Exists.intro; refine ⟨?_, rfl⟩; exact ⟨k + 1, HLt.out, by go_num, Lib.hid ⟨HQ.out, HB3.out⟩⟩)
          case measure => have := HLt.out; simp [intOf]; omega
      · have hkk : ¬ ((k : Int) < (n : Int)) := by omega
        have HQ := Lib.hid (show sameLB sameOd l m = true by
          have h1 := HL.out.1
          rw [show k = l.length by rw [← HNl.out]; omega, sameLB_end (by rw [← HNl.out, ← HMl.out])] at h1
          exact h1.symm)
        go_wp2
        go_ret
        rw [HQ.out]
        exact ⟨rfl, HL.out.2⟩
  · have HQ := Lib.hid (show sameLB sameOd l m = false from sameLB_len _ l m (by rw [← hn, ← hm]; exact hnm))
    have hne : ((n : Int) != (n' : Int)) = true := by rw [bne_iff_ne]; omega
    have hne2 : ¬ ((n : Int) = (n' : Int)) := by omega
    clear hn hm
    go_enter Tryz.func81, Tryz.ntmps81
    go_wp2
    go_ret
    rw [HQ.out]
    exact ⟨rfl, Below.refl _ _⟩
end Go.Proofs.YtknhphcfcpjhiaaGreatDoor
namespace Go.Proofs.YtknhphcfcpjhiaaGreatDoor
open Go.RowKit
set_option linter.unusedVariables false
set_option linter.unusedSimpArgs false
theorem wpList_of_quiet {P : Program} {ops : Array Oper} {C : World → Prop} {Qa : Act → Prop} {Q : Exit → Act → World → Prop} (hQ : ∀ a w, C w → Qa a → Q .normal a w) : ∀ (l : List Oper) (a : Act) (w : World), C w → wpQuiet P ops C Qa l a → wpList P ops Q l a w
  | [], a, w, hw, h => hQ a w hw h
  | o :: l, a, w, hw, h => by
    refine wpList_step fun K hK => ?_
    unfold wpQuiet at h
    by_cases hwt : Region.wanted o (yielded ops a.tmps) = true
    · rw [if_pos hwt] at h ⊢
      exact Oper.wp_of_quiet hw (fun a' w' hw' h' => hK a' w' (wpList_of_quiet hQ l a' w' hw' h')) h
    · rw [if_neg hwt] at h ⊢
      exact hK _ _ (wpList_of_quiet hQ l _ w hw h)
theorem wp_plain_fut {P : Program} {id : Nat} {Q : Exit → Act → World → Prop} {a : Act} {w : World} {l : List Oper}
    (h : wpQuiet P l.toArray (fun w' => ∃ s : Fut w, w' = s.to) (fun a' => ∀ w', (∃ s : Fut w, w' = s.to) → Q .normal a' w') l a) : (Code.region id l.toArray false).wp P Q a w :=
  wp_region_lit (wpList_of_quiet (fun a' w' hw hq => hq w' hw) l a w ⟨⟨w, Below.refl _ _⟩, rfl⟩ h)
end Go.Proofs.YtknhphcfcpjhiaaGreatDoor
namespace Go.Proofs.YtknhphcfcpjhiaaGreatDoor
open Go.RowKit Go.Great
set_option linter.unusedVariables false
set_option linter.unusedSimpArgs false
set_option maxRecDepth 100000
theorem cells_psameq {w : World} {N : Nat} {T : TypeId} {a0 a1 a2 a3 a4 a5 a6 a7 : Value} (h : w.heap[N]? = some (.cells #[a0, a1, a2, a3, a4, a5, a6, a7] T (0, 0))) : w.cell? ⟨N, 0, none⟩ = some a0 ∧ w.cell? ⟨N, 1, none⟩ = some a1 ∧ w.cell? ⟨N, 2, none⟩ = some a2 ∧ w.cell? ⟨N, 3, none⟩ = some a3 ∧ w.cell? ⟨N, 4, none⟩ = some a4 ∧ w.cell? ⟨N, 5, none⟩ = some a5 ∧ w.cell? ⟨N, 6, none⟩ = some a6 ∧ w.cell? ⟨N, 7, none⟩ = some a7 :=
  ⟨cell_of_row _ _ 0 _ _ _ h, cell_of_row _ _ 1 _ _ _ h, cell_of_row _ _ 2 _ _ _ h, cell_of_row _ _ 3 _ _ _ h, cell_of_row _ _ 4 _ _ _ h, cell_of_row _ _ 5 _ _ _ h, cell_of_row _ _ 6 _ _ _ h, cell_of_row _ _ 7 _ _ _ h⟩
set_option maxHeartbeats 12800000 in
theorem psameq_any (a b : QT) (w : World) (Q Q' : Nat → Prop) (cs cs' : List Value) (h : quS.R w Q cs a) (h' : quS.R w Q' cs' b) :
    Calls Tryz.prog 40 #[.agg cs.toArray, .agg cs'.toArray] w fun e' w' => e' = .returned (.bool (sameQ a b)) ∧ Below w.heap.size w w' := by
  obtain ⟨_, _, _, _, _, rfl, ⟨ai, aci, rfl, hpi⟩, ⟨af, acf, rfl, hpf⟩, ⟨aw, acw, rfl, hpw⟩, ⟨ag, acg, rfl, hpg⟩, ⟨ao, aco, rfl, hpo⟩, -⟩ := h
  obtain ⟨_, _, _, _, _, rfl, ⟨bi, bci, rfl, hri⟩, ⟨bf, bcf, rfl, hrf⟩, ⟨bw, bcw, rfl, hrw⟩, ⟨bg, bcg, rfl, hrg⟩, ⟨bo, bco, rfl, hro⟩, -⟩ := h'
  have hvi : SlV itS w Q (.slice ai a.items.length aci) a.items := ⟨_, _, rfl, hpi⟩
  have hui : SlV itS w Q' (.slice bi b.items.length bci) b.items := ⟨_, _, rfl, hri⟩
  have hvf : SlV soS w Q (.slice af a.src.length acf) a.src := ⟨_, _, rfl, hpf⟩
  have huf : SlV soS w Q' (.slice bf b.src.length bcf) b.src := ⟨_, _, rfl, hrf⟩
  have hvw : LeV w Q (.slice aw a.whr.length acw) a.whr := ⟨_, _, rfl, hpw⟩
  have huw : LeV w Q' (.slice bw b.whr.length bcw) b.whr := ⟨_, _, rfl, hrw⟩
  have hvg : LeV w Q (.slice ag a.group.length acg) a.group := ⟨_, _, rfl, hpg⟩
  have hug : LeV w Q' (.slice bg b.group.length bcg) b.group := ⟨_, _, rfl, hrg⟩
  have hvo : SlV odS w Q (.slice ao a.ord.length aco) a.ord := ⟨_, _, rfl, hpo⟩
  have huo : SlV odS w Q' (.slice bo b.ord.length bco) b.ord := ⟨_, _, rfl, hro⟩
  have HSm := Lib.hid (show sameQ a b = ((a.dist == b.dist) && ((a.star == b.star) && ((a.lim == b.lim) && (sameLB sameIt a.items b.items && (sameLB sameSo a.src b.src && (sameEL a.whr b.whr && (sameEL a.group b.group && sameLB sameOd a.ord b.ord))))))) from rfl)
  have HB := Lib.hid (bel0 (.cells #[.bool b.dist, .bool b.star, .slice bi b.items.length bci, .slice bf b.src.length bcf, .slice bw b.whr.length bcw, .slice bg b.group.length bcg, .slice bo b.ord.length bco, .int .i64 b.lim] 43) (bel0 (.cells #[.bool a.dist, .bool a.star, .slice ai a.items.length aci, .slice af a.src.length acf, .slice aw a.whr.length acw, .slice ag a.group.length acg, .slice ao a.ord.length aco, .int .i64 a.lim] 43) (Below.refl w.heap.size w)))
  have HBX := Lib.hid (boxes_lit w (.cells #[.bool a.dist, .bool a.star, .slice ai a.items.length aci, .slice af a.src.length acf, .slice aw a.whr.length acw, .slice ag a.group.length acg, .slice ao a.ord.length aco, .int .i64 a.lim] 43 (0, 0)) (.cells #[.bool b.dist, .bool b.star, .slice bi b.items.length bci, .slice bf b.src.length bcf, .slice bw b.whr.length bcw, .slice bg b.group.length bcg, .slice bo b.ord.length bco, .int .i64 b.lim] 43 (0, 0)))
  go_enter Tryz.func40, Tryz.ntmps40
  go_upto_region 1 with (fail)
  generalize ((w.alloc (.cells #[.bool a.dist, .bool a.star, .slice ai a.items.length aci, .slice af a.src.length acf, .slice aw a.whr.length acw, .slice ag a.group.length acg, .slice ao a.ord.length aco, .int .i64 a.lim] 43)).alloc (.cells #[.bool b.dist, .bool b.star, .slice bi b.items.length bci, .slice bf b.src.length bcf, .slice bw b.whr.length bcw, .slice bg b.group.length bcg, .slice bo b.ord.length bco, .int .i64 b.lim] 43)) = w1 at *
  obtain ⟨⟨hA, hB⟩, hsz⟩ := HBX.out
  have hs0 : w.heap.size < w1.heap.size := by omega
  have hs1 : w.heap.size + 1 < w1.heap.size := by omega
  have Hhi := Lib.hid (show ∀ s : Fut w1, Calls Tryz.prog 77 #[.slice ai a.items.length aci, .slice bi b.items.length bci, .func (Fn.func 78) #[] #[]] s.to fun e w' => e = .returned (.bool (sameLB sameIt a.items b.items)) ∧ Below s.to.heap.size s.to w' from fun s => eqf_It a.items b.items s.to Q Q' _ _ (hvi.far (bt HB.out s.bel).size (fun b _ hlt => (bt HB.out s.bel).block b hlt)) (hui.far (bt HB.out s.bel).size (fun b _ hlt => (bt HB.out s.bel).block b hlt)))
  have Hhf := Lib.hid (show ∀ s : Fut w1, Calls Tryz.prog 79 #[.slice af a.src.length acf, .slice bf b.src.length bcf, .func (Fn.func 80) #[] #[]] s.to fun e w' => e = .returned (.bool (sameLB sameSo a.src b.src)) ∧ Below s.to.heap.size s.to w' from fun s => eqf_So a.src b.src s.to Q Q' _ _ (hvf.far (bt HB.out s.bel).size (fun b _ hlt => (bt HB.out s.bel).block b hlt)) (huf.far (bt HB.out s.bel).size (fun b _ hlt => (bt HB.out s.bel).block b hlt)))
  have Hhw := Lib.hid (show ∀ s : Fut w1, Calls Tryz.prog 37 #[.slice aw a.whr.length acw, .slice bw b.whr.length bcw] s.to fun e w' => e = .returned (.bool (sameEL a.whr b.whr)) ∧ Below s.to.heap.size s.to w' from fun s => plist_same a.whr b.whr s.to Q Q' _ _ (hvw.far (bt HB.out s.bel).size (fun b _ hlt => (bt HB.out s.bel).block b hlt)) (huw.far (bt HB.out s.bel).size (fun b _ hlt => (bt HB.out s.bel).block b hlt)))
  have Hhg := Lib.hid (show ∀ s : Fut w1, Calls Tryz.prog 37 #[.slice ag a.group.length acg, .slice bg b.group.length bcg] s.to fun e w' => e = .returned (.bool (sameEL a.group b.group)) ∧ Below s.to.heap.size s.to w' from fun s => plist_same a.group b.group s.to Q Q' _ _ (hvg.far (bt HB.out s.bel).size (fun b _ hlt => (bt HB.out s.bel).block b hlt)) (hug.far (bt HB.out s.bel).size (fun b _ hlt => (bt HB.out s.bel).block b hlt)))
  have Hho := Lib.hid (show ∀ s : Fut w1, Calls Tryz.prog 81 #[.slice ao a.ord.length aco, .slice bo b.ord.length bco, .func (Fn.func 82) #[] #[]] s.to fun e w' => e = .returned (.bool (sameLB sameOd a.ord b.ord)) ∧ Below s.to.heap.size s.to w' from fun s => eqf_Od a.ord b.ord s.to Q Q' _ _ (hvo.far (bt HB.out s.bel).size (fun b _ hlt => (bt HB.out s.bel).block b hlt)) (huo.far (bt HB.out s.bel).size (fun b _ hlt => (bt HB.out s.bel).block b hlt)))
  clear hvi hui hpi hri hvf huf hpf hrf hvw huw hpw hrw hvg hug hpg hrg hvo huo hpo hro
  obtain ⟨c0, c1, c2, c3, c4, c5, c6, c7⟩ := cells_psameq hA
  obtain ⟨d0, d1, d2, d3, d4, d5, d6, d7⟩ := cells_psameq hB
  clear hA hB hsz HBX
  have j0 := Fut.cell c0
  have l0 := Fut.cell d0
  have j1 := Fut.cell c1
  have l1 := Fut.cell d1
  have j2 := Fut.cell c2
  have l2 := Fut.cell d2
  have j3 := Fut.cell c3
  have l3 := Fut.cell d3
  have j4 := Fut.cell c4
  have l4 := Fut.cell d4
  have j5 := Fut.cell c5
  have l5 := Fut.cell d5
  have j6 := Fut.cell c6
  have l6 := Fut.cell d6
  have j7 := Fut.cell c7
  have l7 := Fut.cell d7
  clear c0 d0 c1 d1 c2 d2 c3 d3 c4 d4 c5 d5 c6 d6 c7 d7
  cases hd : (a.dist == b.dist) with
  | false =>
    have HV := Lib.hid (show sameQ a b = false by rw [HSm.out]; simp only [hd, Bool.true_and, Bool.and_true, Bool.false_and])
    refine wp_plain_fut ?_
    repeat (go_big_quiet_step (fail))
    refine wpQuiet_nil ?_
    rintro _ ⟨s3, rfl⟩
    have hb3 := s3.bel
    generalize s3.to = w3 at *
    have HB3 := Lib.hid (bt HB.out hb3)
    clear s3
    go_wp2
    go_ret
    rw [HV.out]
    exact ⟨rfl, HB3.out⟩
  | true =>
    cases hs : (a.star == b.star) with
    | false =>
      have HV := Lib.hid (show sameQ a b = false by rw [HSm.out]; simp only [hd, hs, Bool.true_and, Bool.and_true, Bool.false_and])
      refine wp_plain_fut ?_
      repeat (go_big_quiet_step (fail))
      refine wpQuiet_nil ?_
      rintro _ ⟨s3, rfl⟩
      have hb3 := s3.bel
      generalize s3.to = w3 at *
      have HB3 := Lib.hid (bt HB.out hb3)
      clear s3
      go_wp2
      go_ret
      rw [HV.out]
      exact ⟨rfl, HB3.out⟩
    | true =>
      cases hl : (a.lim == b.lim) with
      | false =>
        have HV := Lib.hid (show sameQ a b = false by rw [HSm.out]; simp only [hd, hs, hl, Bool.true_and, Bool.and_true, Bool.false_and])
        refine wp_plain_fut ?_
        repeat (go_big_quiet_step (fail))
        refine wpQuiet_nil ?_
        rintro _ ⟨s3, rfl⟩
        have hb3 := s3.bel
        generalize s3.to = w3 at *
        have HB3 := Lib.hid (bt HB.out hb3)
        clear s3
        go_wp2
        go_ret
        rw [HV.out]
        exact ⟨rfl, HB3.out⟩
      | true =>
        cases hi : (sameLB sameIt a.items b.items) with
        | false =>
          have HV := Lib.hid (show sameQ a b = false by rw [HSm.out]; simp only [hd, hs, hl, hi, Bool.true_and, Bool.and_true, Bool.false_and])
          have HChi := Lib.hid Hhi.out
          rw [hi] at HChi
          clear hi
          refine wp_plain_fut ?_
          repeat (go_big_quiet_step (first | (go_at_call 77; with_reducible exact calls_fut (HChi.out _))))
          refine wpQuiet_nil ?_
          rintro _ ⟨s3, rfl⟩
          have hb3 := s3.bel
          generalize s3.to = w3 at *
          have HB3 := Lib.hid (bt HB.out hb3)
          clear s3
          go_wp2
          go_ret
          rw [HV.out]
          exact ⟨rfl, HB3.out⟩
        | true =>
          cases hf : (sameLB sameSo a.src b.src) with
          | false =>
            have HV := Lib.hid (show sameQ a b = false by rw [HSm.out]; simp only [hd, hs, hl, hi, hf, Bool.true_and, Bool.and_true, Bool.false_and])
            have HChi := Lib.hid Hhi.out
            rw [hi] at HChi
            have HChf := Lib.hid Hhf.out
            rw [hf] at HChf
            clear hi hf
            refine wp_plain_fut ?_
            repeat (go_big_quiet_step (first | (go_at_call 77; with_reducible exact calls_fut (HChi.out _)) | (go_at_call 79; with_reducible exact calls_fut (HChf.out _))))
            refine wpQuiet_nil ?_
            rintro _ ⟨s3, rfl⟩
            have hb3 := s3.bel
            generalize s3.to = w3 at *
            have HB3 := Lib.hid (bt HB.out hb3)
            clear s3
            go_wp2
            go_ret
            rw [HV.out]
            exact ⟨rfl, HB3.out⟩
          | true =>
            cases hw : (sameEL a.whr b.whr) with
            | false =>
              have HV := Lib.hid (show sameQ a b = false by rw [HSm.out]; simp only [hd, hs, hl, hi, hf, hw, Bool.true_and, Bool.and_true, Bool.false_and])
              have HChi := Lib.hid Hhi.out
              rw [hi] at HChi
              have HChf := Lib.hid Hhf.out
              rw [hf] at HChf
              have HChw := Lib.hid Hhw.out
              rw [hw] at HChw
              clear hi hf hw
              refine wp_plain_fut ?_
              repeat (go_big_quiet_step (first | (go_at_call 77; with_reducible exact calls_fut (HChi.out _)) | (go_at_call 79; with_reducible exact calls_fut (HChf.out _)) | (go_at_call 37; with_reducible exact calls_fut (HChw.out _))))
              refine wpQuiet_nil ?_
              rintro _ ⟨s3, rfl⟩
              have hb3 := s3.bel
              generalize s3.to = w3 at *
              have HB3 := Lib.hid (bt HB.out hb3)
              clear s3
              go_wp2
              go_ret
              rw [HV.out]
              exact ⟨rfl, HB3.out⟩
            | true =>
              cases hg : (sameEL a.group b.group) with
              | false =>
                have HV := Lib.hid (show sameQ a b = false by rw [HSm.out]; simp only [hd, hs, hl, hi, hf, hw, hg, Bool.true_and, Bool.and_true, Bool.false_and])
                have HChi := Lib.hid Hhi.out
                rw [hi] at HChi
                have HChf := Lib.hid Hhf.out
                rw [hf] at HChf
                have HChw := Lib.hid Hhw.out
                rw [hw] at HChw
                have HChg := Lib.hid Hhg.out
                rw [hg] at HChg
                clear hi hf hw hg
                refine wp_plain_fut ?_
                repeat (go_big_quiet_step (first | (go_at_call 77; with_reducible exact calls_fut (HChi.out _)) | (go_at_call 79; with_reducible exact calls_fut (HChf.out _)) | (go_at_call 37; with_reducible exact calls_fut (HChw.out _)) | (go_at_call 37; with_reducible exact calls_fut (HChg.out _))))
                refine wpQuiet_nil ?_
                rintro _ ⟨s3, rfl⟩
                have hb3 := s3.bel
                generalize s3.to = w3 at *
                have HB3 := Lib.hid (bt HB.out hb3)
                clear s3
                go_wp2
                go_ret
                rw [HV.out]
                exact ⟨rfl, HB3.out⟩
              | true =>
                cases ho : (sameLB sameOd a.ord b.ord) with
                | false =>
                  have HV := Lib.hid (show sameQ a b = false by rw [HSm.out]; simp only [hd, hs, hl, hi, hf, hw, hg, ho, Bool.true_and, Bool.and_true, Bool.false_and])
                  have HChi := Lib.hid Hhi.out
                  rw [hi] at HChi
                  have HChf := Lib.hid Hhf.out
                  rw [hf] at HChf
                  have HChw := Lib.hid Hhw.out
                  rw [hw] at HChw
                  have HChg := Lib.hid Hhg.out
                  rw [hg] at HChg
                  have HCho := Lib.hid Hho.out
                  rw [ho] at HCho
                  clear hi hf hw hg ho
                  refine wp_plain_fut ?_
                  repeat (go_big_quiet_step (first | (go_at_call 77; with_reducible exact calls_fut (HChi.out _)) | (go_at_call 79; with_reducible exact calls_fut (HChf.out _)) | (go_at_call 37; with_reducible exact calls_fut (HChw.out _)) | (go_at_call 37; with_reducible exact calls_fut (HChg.out _)) | (go_at_call 81; with_reducible exact calls_fut (HCho.out _))))
                  refine wpQuiet_nil ?_
                  rintro _ ⟨s3, rfl⟩
                  have hb3 := s3.bel
                  generalize s3.to = w3 at *
                  have HB3 := Lib.hid (bt HB.out hb3)
                  clear s3
                  go_wp2
                  go_ret
                  rw [HV.out]
                  exact ⟨rfl, HB3.out⟩
                | true =>
                  have HV := Lib.hid (show sameQ a b = true by rw [HSm.out]; simp only [hd, hs, hl, hi, hf, hw, hg, ho, Bool.true_and, Bool.and_true, Bool.false_and])
                  have HChi := Lib.hid Hhi.out
                  rw [hi] at HChi
                  have HChf := Lib.hid Hhf.out
                  rw [hf] at HChf
                  have HChw := Lib.hid Hhw.out
                  rw [hw] at HChw
                  have HChg := Lib.hid Hhg.out
                  rw [hg] at HChg
                  have HCho := Lib.hid Hho.out
                  rw [ho] at HCho
                  clear hi hf hw hg ho
                  refine wp_plain_fut ?_
                  repeat (go_big_quiet_step (first | (go_at_call 77; with_reducible exact calls_fut (HChi.out _)) | (go_at_call 79; with_reducible exact calls_fut (HChf.out _)) | (go_at_call 37; with_reducible exact calls_fut (HChw.out _)) | (go_at_call 37; with_reducible exact calls_fut (HChg.out _)) | (go_at_call 81; with_reducible exact calls_fut (HCho.out _))))
                  refine wpQuiet_nil ?_
                  rintro _ ⟨s3, rfl⟩
                  have hb3 := s3.bel
                  generalize s3.to = w3 at *
                  have HB3 := Lib.hid (bt HB.out hb3)
                  clear s3
                  go_wp2
                  go_ret
                  rw [HV.out]
                  exact ⟨rfl, HB3.out⟩
end Go.Proofs.YtknhphcfcpjhiaaGreatDoor
