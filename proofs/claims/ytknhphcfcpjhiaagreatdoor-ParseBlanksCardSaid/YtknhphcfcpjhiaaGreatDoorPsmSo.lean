/- Alike: parse.Source. Written by genpsame.py. -/
import Derived.Test.YtknhphcfcpjhiaaGreatDoorPsmL
namespace Go.Proofs.YtknhphcfcpjhiaaGreatDoor
open Go.RowKit
set_option linter.unusedVariables false
set_option linter.unusedSimpArgs false
set_option maxRecDepth 100000
theorem cells9_It {w : World} {N : Nat} {T : TypeId} {a0 a1 a2 a3 a4 a5 a6 a7 a8 : Value} (h : w.heap[N]? = some (.cells #[a0, a1, a2, a3, a4, a5, a6, a7, a8] T (0, 0))) : w.cell? ⟨N, 0, none⟩ = some a0 ∧ w.cell? ⟨N, 1, none⟩ = some a1 ∧ w.cell? ⟨N, 2, none⟩ = some a2 ∧ w.cell? ⟨N, 3, none⟩ = some a3 ∧ w.cell? ⟨N, 4, none⟩ = some a4 ∧ w.cell? ⟨N, 5, none⟩ = some a5 ∧ w.cell? ⟨N, 6, none⟩ = some a6 ∧ w.cell? ⟨N, 7, none⟩ = some a7 ∧ w.cell? ⟨N, 8, none⟩ = some a8 :=
  ⟨cell_of_row _ _ 0 _ _ _ h, cell_of_row _ _ 1 _ _ _ h, cell_of_row _ _ 2 _ _ _ h, cell_of_row _ _ 3 _ _ _ h, cell_of_row _ _ 4 _ _ _ h, cell_of_row _ _ 5 _ _ _ h, cell_of_row _ _ 6 _ _ _ h, cell_of_row _ _ 7 _ _ _ h, cell_of_row _ _ 8 _ _ _ h⟩
set_option maxHeartbeats 3200000 in
theorem elt_It (a b : It) (w : World) (Q Q' : Nat → Prop) (cs cs' : List Value) (h : itS.R w Q cs a) (h' : itS.R w Q' cs' b) :
    Calls Tryz.prog 78 #[.agg cs.toArray, .agg cs'.toArray] w fun e' w' => e' = .returned (.bool (sameIt a b)) ∧ Below w.heap.size w w' := by
  obtain ⟨sa, sc, rfl, hrg, hel, -⟩ := h
  obtain ⟨sa', sc', rfl, hrg', hel', -⟩ := h'
  have HCl := Lib.hid (show ∀ W, Below w.heap.size w W → Calls Tryz.prog 76 #[.agg (etX a.e sa sc).toArray, .agg (etX b.e sa' sc').toArray] W fun e' w' => e' = .returned (.bool (sameE a.e b.e)) ∧ Below W.heap.size W w' from fun W hW => sameE_any _ a.e (Nat.le_refl _) b.e W Q Q' _ _ ⟨sa, sc, rfl, hrg, hel.keep hW⟩ ⟨sa', sc', rfl, hrg', hel'.keep hW⟩)
  have HSm := Lib.hid (show sameIt a b = ((a.name.toList == b.name.toList) && sameE a.e b.e) from rfl)
  obtain ⟨n, hn⟩ : ∃ n, n = a.e.parts.length := ⟨_, rfl⟩
  obtain ⟨m, hm⟩ : ∃ m, m = b.e.parts.length := ⟨_, rfl⟩
  have e0 : (etX a.e sa sc ++ [.string a.name] : List Value).toArray = #[.int .i64 a.e.kind, .string a.e.op, .int .i64 a.e.vk, .int .i64 a.e.vn, .string a.e.vs, .string a.e.tab, .string a.e.col, .slice sa n sc, .string a.name] := by subst hn; rfl
  have e1 : (etX b.e sa' sc' ++ [.string b.name] : List Value).toArray = #[.int .i64 b.e.kind, .string b.e.op, .int .i64 b.e.vk, .int .i64 b.e.vn, .string b.e.vs, .string b.e.tab, .string b.e.col, .slice sa' m sc', .string b.name] := by subst hm; rfl
  have e2 : (etX a.e sa sc).toArray = #[.int .i64 a.e.kind, .string a.e.op, .int .i64 a.e.vk, .int .i64 a.e.vn, .string a.e.vs, .string a.e.tab, .string a.e.col, .slice sa n sc] := by subst hn; rfl
  have e3 : (etX b.e sa' sc').toArray = #[.int .i64 b.e.kind, .string b.e.op, .int .i64 b.e.vk, .int .i64 b.e.vn, .string b.e.vs, .string b.e.tab, .string b.e.col, .slice sa' m sc'] := by subst hm; rfl
  rw [e0, e1]
  rw [e2, e3] at HCl
  have HB := Lib.hid (bel0 (.cells #[.int .i64 b.e.kind, .string b.e.op, .int .i64 b.e.vk, .int .i64 b.e.vn, .string b.e.vs, .string b.e.tab, .string b.e.col, .slice sa' m sc', .string b.name] 127) (bel0 (.cells #[.int .i64 a.e.kind, .string a.e.op, .int .i64 a.e.vk, .int .i64 a.e.vn, .string a.e.vs, .string a.e.tab, .string a.e.col, .slice sa n sc, .string a.name] 127) (Below.refl w.heap.size w)))
  have HBX := Lib.hid (boxes_lit w (.cells #[.int .i64 a.e.kind, .string a.e.op, .int .i64 a.e.vk, .int .i64 a.e.vn, .string a.e.vs, .string a.e.tab, .string a.e.col, .slice sa n sc, .string a.name] 127 (0, 0)) (.cells #[.int .i64 b.e.kind, .string b.e.op, .int .i64 b.e.vk, .int .i64 b.e.vn, .string b.e.vs, .string b.e.tab, .string b.e.col, .slice sa' m sc', .string b.name] 127 (0, 0)))
  clear hrg hel hrg' hel' hn hm e0 e1 e2 e3
  go_enter Tryz.func78, Tryz.ntmps78
  go_upto_region 1 with (fail)
  generalize ((w.alloc (.cells #[.int .i64 a.e.kind, .string a.e.op, .int .i64 a.e.vk, .int .i64 a.e.vn, .string a.e.vs, .string a.e.tab, .string a.e.col, .slice sa n sc, .string a.name] 127)).alloc (.cells #[.int .i64 b.e.kind, .string b.e.op, .int .i64 b.e.vk, .int .i64 b.e.vn, .string b.e.vs, .string b.e.tab, .string b.e.col, .slice sa' m sc', .string b.name] 127)) = w1 at *
  obtain ⟨⟨hA, hB⟩, hsz⟩ := HBX.out
  have hs0 : w.heap.size < w1.heap.size := by omega
  have hs1 : w.heap.size + 1 < w1.heap.size := by omega
  obtain ⟨c0, c1, c2, c3, c4, c5, c6, c7, c8⟩ := cells9_It hA
  obtain ⟨d0, d1, d2, d3, d4, d5, d6, d7, d8⟩ := cells9_It hB
  clear hA hB hsz HBX
  go_wp2_with (go_at_call 76; refine (HCl.out _ HB.out).mono ?_; rintro e' w3 ⟨rfl, hb3⟩)
  all_goals
    go_ret
    rw [HSm.out]
    first
      | (refine ⟨?_, bt HB.out hb3⟩
         simp [*])
      | (refine ⟨?_, HB.out⟩
         simp [*])
set_option maxHeartbeats 6400000 in
theorem eqf_It (l m : List It) (w : World) (Q Q' : Nat → Prop) (v v' : Value) (h : SlV itS w Q v l) (h' : SlV itS w Q' v' m) :
    Calls Tryz.prog 77 #[v, v', .func (Fn.func 78) #[] #[]] w fun e' w' => e' = .returned (.bool (sameLB sameIt l m)) ∧ Below w.heap.size w w' := by
  obtain ⟨sa0, c, rfl, hle, hcap, hel⟩ := h
  obtain ⟨sa1, c', rfl, hle', hcap', hel'⟩ := h'
  have HE := Lib.hid hel
  have HE' := Lib.hid hel'
  have hln : l.length ≤ 9223372036854775807 := by unfold maxLen at hcap; omega
  have hln' : m.length ≤ 9223372036854775807 := by unfold maxLen at hcap'; omega
  obtain ⟨n, hn⟩ : ∃ n, n = l.length := ⟨_, rfl⟩
  obtain ⟨n', hm⟩ : ∃ n, n = m.length := ⟨_, rfl⟩
  have HNl := Lib.hid hn
  have HMl := Lib.hid hm
  rw [← hn] at hln ⊢
  rw [← hm] at hln' ⊢
  clear hel hel' hle hle' hcap hcap'
  by_cases hnm : n = n'
  · have HNm := Lib.hid hnm
    subst hnm
    have H0 := Lib.hid (show sameLB sameIt (l.drop 0) (m.drop 0) = sameLB sameIt l m from rfl)
    clear hn hm
    go_enter Tryz.func77, Tryz.ntmps77
    go_wp2_with fail
    go_loopw [17] (fun i wr => ∃ (k : Nat), k ≤ n ∧ i = .int .i64 (k : Int) ∧ Hid (sameLB sameIt (l.drop k) (m.drop k) = sameLB sameIt l m ∧ Below w.heap.size w wr)) (fun i _ => n - (intOf i).toNat)
    case atStart => exact ⟨0, by omega, rfl, Lib.hid ⟨H0.out, Below.refl _ _⟩⟩
    case round =>
      obtain ⟨k, hk, rfl, HL⟩ := hrel
      have hk0 : (0 : Int) ≤ (k : Int) := by omega
      by_cases hlt : k < n
      · have hki : (k : Int) < (n : Int) := by omega
        have hkp : k < l.length := by rw [← HNl.out]; exact hlt
        have hkq : k < m.length := by rw [← HMl.out]; exact hlt
        rcases HE.out with h0 | ⟨g, off, hsa, -, hgl, hc⟩
        · rw [h0] at hkp; simp at hkp
        rcases HE'.out with h0 | ⟨g', off', hsa', -, hgl', hc'⟩
        · rw [h0] at hkq; simp at hkq
        subst hsa
        subst hsa'
        have HBw := Lib.hid HL.out.2
        have hgw : g < wr.heap.size := Nat.lt_of_lt_of_le hgl HBw.out.size
        have hgw' : g' < wr.heap.size := Nat.lt_of_lt_of_le hgl' HBw.out.size
        obtain ⟨cs, hR, hcs⟩ := hc k hkp
        obtain ⟨cs', hR', hcs'⟩ := hc' k hkq
        have HD := Lib.hid (sameLB_drop (f := sameIt) hkp hkq)
        obtain ⟨p, hp⟩ : ∃ p, p = l[k] := ⟨_, rfl⟩
        obtain ⟨r, hr⟩ : ∃ r, r = m[k] := ⟨_, rfl⟩
        rw [← hp] at hR HD
        rw [← hr] at hR' HD
        have HRp := Lib.hid (show ∀ W, Below wr.heap.size wr W → itS.R W Q cs p from fun W hW => itS.far hR (Nat.le_trans HBw.out.size hW.size) (fun b _ hlt => (hW.block b (Nat.lt_of_lt_of_le hlt HBw.out.size)).trans (HBw.out.block b hlt)))
        have HRr := Lib.hid (show ∀ W, Below wr.heap.size wr W → itS.R W Q' cs' r from fun W hW => itS.far hR' (Nat.le_trans HBw.out.size hW.size) (fun b _ hlt => (hW.block b (Nat.lt_of_lt_of_le hlt HBw.out.size)).trans (HBw.out.block b hlt)))
        obtain ⟨pa, pc, rfl, -⟩ := hR
        obtain ⟨pa', pc', rfl, -⟩ := hR'
        have q0 : wr.cell? ⟨g, off + k * 9, none⟩ = some (.int .i64 p.e.kind) := (World.cell?_of_block (HBw.out.block g hgl)).trans (hcs 0 _ rfl)
        have q1 : wr.cell? ⟨g, off + k * 9 + 1, none⟩ = some (.string p.e.op) := (World.cell?_of_block (HBw.out.block g hgl)).trans (hcs 1 _ rfl)
        have q2 : wr.cell? ⟨g, off + k * 9 + 2, none⟩ = some (.int .i64 p.e.vk) := (World.cell?_of_block (HBw.out.block g hgl)).trans (hcs 2 _ rfl)
        have q3 : wr.cell? ⟨g, off + k * 9 + 3, none⟩ = some (.int .i64 p.e.vn) := (World.cell?_of_block (HBw.out.block g hgl)).trans (hcs 3 _ rfl)
        have q4 : wr.cell? ⟨g, off + k * 9 + 4, none⟩ = some (.string p.e.vs) := (World.cell?_of_block (HBw.out.block g hgl)).trans (hcs 4 _ rfl)
        have q5 : wr.cell? ⟨g, off + k * 9 + 5, none⟩ = some (.string p.e.tab) := (World.cell?_of_block (HBw.out.block g hgl)).trans (hcs 5 _ rfl)
        have q6 : wr.cell? ⟨g, off + k * 9 + 6, none⟩ = some (.string p.e.col) := (World.cell?_of_block (HBw.out.block g hgl)).trans (hcs 6 _ rfl)
        have q7 : wr.cell? ⟨g, off + k * 9 + 7, none⟩ = some (.slice pa p.e.parts.length pc) := (World.cell?_of_block (HBw.out.block g hgl)).trans (hcs 7 _ rfl)
        have q8 : wr.cell? ⟨g, off + k * 9 + 8, none⟩ = some (.string p.name) := (World.cell?_of_block (HBw.out.block g hgl)).trans (hcs 8 _ rfl)
        have r0 : wr.cell? ⟨g', off' + k * 9, none⟩ = some (.int .i64 r.e.kind) := (World.cell?_of_block (HBw.out.block g' hgl')).trans (hcs' 0 _ rfl)
        have r1 : wr.cell? ⟨g', off' + k * 9 + 1, none⟩ = some (.string r.e.op) := (World.cell?_of_block (HBw.out.block g' hgl')).trans (hcs' 1 _ rfl)
        have r2 : wr.cell? ⟨g', off' + k * 9 + 2, none⟩ = some (.int .i64 r.e.vk) := (World.cell?_of_block (HBw.out.block g' hgl')).trans (hcs' 2 _ rfl)
        have r3 : wr.cell? ⟨g', off' + k * 9 + 3, none⟩ = some (.int .i64 r.e.vn) := (World.cell?_of_block (HBw.out.block g' hgl')).trans (hcs' 3 _ rfl)
        have r4 : wr.cell? ⟨g', off' + k * 9 + 4, none⟩ = some (.string r.e.vs) := (World.cell?_of_block (HBw.out.block g' hgl')).trans (hcs' 4 _ rfl)
        have r5 : wr.cell? ⟨g', off' + k * 9 + 5, none⟩ = some (.string r.e.tab) := (World.cell?_of_block (HBw.out.block g' hgl')).trans (hcs' 5 _ rfl)
        have r6 : wr.cell? ⟨g', off' + k * 9 + 6, none⟩ = some (.string r.e.col) := (World.cell?_of_block (HBw.out.block g' hgl')).trans (hcs' 6 _ rfl)
        have r7 : wr.cell? ⟨g', off' + k * 9 + 7, none⟩ = some (.slice pa' r.e.parts.length pc') := (World.cell?_of_block (HBw.out.block g' hgl')).trans (hcs' 7 _ rfl)
        have r8 : wr.cell? ⟨g', off' + k * 9 + 8, none⟩ = some (.string r.name) := (World.cell?_of_block (HBw.out.block g' hgl')).trans (hcs' 8 _ rfl)
        have HLt := Lib.hid hlt
        clear hcs hcs' hc hc' hp hkp hr hkq hlt hk hgl hgl'
        go_wp2_with fail
        refine (elt_It p r _ Q Q' _ _ (HRp.out _ (bel0 _ (bel0 _ (Below.refl _ _)))) (HRr.out _ (bel0 _ (bel0 _ (Below.refl _ _))))).mono ?_
        rintro e' w3 ⟨rfl, hb3⟩
        have HB3 := Lib.hid (bt HBw.out (bt (bel0 _ (bel0 _ (Below.refl _ _))) hb3))
        clear hb3 q0 r0 q1 r1 q2 r2 q3 r3 q4 r4 q5 r5 q6 r6 q7 r7 q8 r8
        cases hs : sameIt p r with
        | false =>
          have HQ := Lib.hid (show sameLB sameIt l m = false by rw [← HL.out.1, HD.out, hs]; rfl)
          go_wp2
          go_ret
          rw [HQ.out]
          exact ⟨rfl, HB3.out⟩
        | true =>
          have HQ := Lib.hid (show sameLB sameIt (l.drop (k + 1)) (m.drop (k + 1)) = sameLB sameIt l m by rw [← HL.out.1, HD.out, hs]; rfl)
          go_wp2
          go_roundw
          case rel => first | exact ⟨k + 1, HLt.out, by go_num, Lib.hid ⟨HQ.out, HB3.out⟩⟩ | (repeat apply Exists.intro; refine ⟨?_, rfl⟩; exact ⟨k + 1, HLt.out, by go_num, Lib.hid ⟨HQ.out, HB3.out⟩⟩)
          case measure => have := HLt.out; simp [intOf]; omega
      · have hkk : ¬ ((k : Int) < (n : Int)) := by omega
        have HQ := Lib.hid (show sameLB sameIt l m = true by
          have h1 := HL.out.1
          rw [show k = l.length by rw [← HNl.out]; omega, sameLB_end (by rw [← HNl.out, ← HMl.out])] at h1
          exact h1.symm)
        go_wp2
        go_ret
        rw [HQ.out]
        exact ⟨rfl, HL.out.2⟩
  · have HQ := Lib.hid (show sameLB sameIt l m = false from sameLB_len _ l m (by rw [← hn, ← hm]; exact hnm))
    have hne : ((n : Int) != (n' : Int)) = true := by rw [bne_iff_ne]; omega
    have hne2 : ¬ ((n : Int) = (n' : Int)) := by omega
    clear hn hm
    go_enter Tryz.func77, Tryz.ntmps77
    go_wp2
    go_ret
    rw [HQ.out]
    exact ⟨rfl, Below.refl _ _⟩
end Go.Proofs.YtknhphcfcpjhiaaGreatDoor
namespace Go.Proofs.YtknhphcfcpjhiaaGreatDoor
open Go.RowKit
set_option linter.unusedVariables false
set_option linter.unusedSimpArgs false
set_option maxRecDepth 100000
theorem cells10_So {w : World} {N : Nat} {T : TypeId} {a0 a1 a2 a3 a4 a5 a6 a7 a8 a9 : Value} (h : w.heap[N]? = some (.cells #[a0, a1, a2, a3, a4, a5, a6, a7, a8, a9] T (0, 0))) : w.cell? ⟨N, 0, none⟩ = some a0 ∧ w.cell? ⟨N, 1, none⟩ = some a1 ∧ w.cell? ⟨N, 2, none⟩ = some a2 ∧ w.cell? ⟨N, 3, none⟩ = some a3 ∧ w.cell? ⟨N, 4, none⟩ = some a4 ∧ w.cell? ⟨N, 5, none⟩ = some a5 ∧ w.cell? ⟨N, 6, none⟩ = some a6 ∧ w.cell? ⟨N, 7, none⟩ = some a7 ∧ w.cell? ⟨N, 8, none⟩ = some a8 ∧ w.cell? ⟨N, 9, none⟩ = some a9 :=
  ⟨cell_of_row _ _ 0 _ _ _ h, cell_of_row _ _ 1 _ _ _ h, cell_of_row _ _ 2 _ _ _ h, cell_of_row _ _ 3 _ _ _ h, cell_of_row _ _ 4 _ _ _ h, cell_of_row _ _ 5 _ _ _ h, cell_of_row _ _ 6 _ _ _ h, cell_of_row _ _ 7 _ _ _ h, cell_of_row _ _ 8 _ _ _ h, cell_of_row _ _ 9 _ _ _ h⟩
set_option maxHeartbeats 3200000 in
theorem elt_So (a b : So) (w : World) (Q Q' : Nat → Prop) (cs cs' : List Value) (h : soS.R w Q cs a) (h' : soS.R w Q' cs' b) :
    Calls Tryz.prog 80 #[.agg cs.toArray, .agg cs'.toArray] w fun e' w' => e' = .returned (.bool (sameSo a b)) ∧ Below w.heap.size w w' := by
  obtain ⟨sa, sc, rfl, hrg, hel, -⟩ := h
  obtain ⟨sa', sc', rfl, hrg', hel', -⟩ := h'
  have HCl := Lib.hid (show ∀ W, Below w.heap.size w W → Calls Tryz.prog 76 #[.agg (etX a.on sa sc).toArray, .agg (etX b.on sa' sc').toArray] W fun e' w' => e' = .returned (.bool (sameE a.on b.on)) ∧ Below W.heap.size W w' from fun W hW => sameE_any _ a.on (Nat.le_refl _) b.on W Q Q' _ _ ⟨sa, sc, rfl, hrg, hel.keep hW⟩ ⟨sa', sc', rfl, hrg', hel'.keep hW⟩)
  have HSm := Lib.hid (show sameSo a b = ((a.tab.toList == b.tab.toList) && ((a.name.toList == b.name.toList) && sameE a.on b.on)) from rfl)
  obtain ⟨n, hn⟩ : ∃ n, n = a.on.parts.length := ⟨_, rfl⟩
  obtain ⟨m, hm⟩ : ∃ m, m = b.on.parts.length := ⟨_, rfl⟩
  have e0 : (.string a.tab :: .string a.name :: etX a.on sa sc : List Value).toArray = #[.string a.tab, .string a.name, .int .i64 a.on.kind, .string a.on.op, .int .i64 a.on.vk, .int .i64 a.on.vn, .string a.on.vs, .string a.on.tab, .string a.on.col, .slice sa n sc] := by subst hn; rfl
  have e1 : (.string b.tab :: .string b.name :: etX b.on sa' sc' : List Value).toArray = #[.string b.tab, .string b.name, .int .i64 b.on.kind, .string b.on.op, .int .i64 b.on.vk, .int .i64 b.on.vn, .string b.on.vs, .string b.on.tab, .string b.on.col, .slice sa' m sc'] := by subst hm; rfl
  have e2 : (etX a.on sa sc).toArray = #[.int .i64 a.on.kind, .string a.on.op, .int .i64 a.on.vk, .int .i64 a.on.vn, .string a.on.vs, .string a.on.tab, .string a.on.col, .slice sa n sc] := by subst hn; rfl
  have e3 : (etX b.on sa' sc').toArray = #[.int .i64 b.on.kind, .string b.on.op, .int .i64 b.on.vk, .int .i64 b.on.vn, .string b.on.vs, .string b.on.tab, .string b.on.col, .slice sa' m sc'] := by subst hm; rfl
  rw [e0, e1]
  rw [e2, e3] at HCl
  have HB := Lib.hid (bel0 (.cells #[.string b.tab, .string b.name, .int .i64 b.on.kind, .string b.on.op, .int .i64 b.on.vk, .int .i64 b.on.vn, .string b.on.vs, .string b.on.tab, .string b.on.col, .slice sa' m sc'] 129) (bel0 (.cells #[.string a.tab, .string a.name, .int .i64 a.on.kind, .string a.on.op, .int .i64 a.on.vk, .int .i64 a.on.vn, .string a.on.vs, .string a.on.tab, .string a.on.col, .slice sa n sc] 129) (Below.refl w.heap.size w)))
  have HBX := Lib.hid (boxes_lit w (.cells #[.string a.tab, .string a.name, .int .i64 a.on.kind, .string a.on.op, .int .i64 a.on.vk, .int .i64 a.on.vn, .string a.on.vs, .string a.on.tab, .string a.on.col, .slice sa n sc] 129 (0, 0)) (.cells #[.string b.tab, .string b.name, .int .i64 b.on.kind, .string b.on.op, .int .i64 b.on.vk, .int .i64 b.on.vn, .string b.on.vs, .string b.on.tab, .string b.on.col, .slice sa' m sc'] 129 (0, 0)))
  clear hrg hel hrg' hel' hn hm e0 e1 e2 e3
  go_enter Tryz.func80, Tryz.ntmps80
  go_upto_region 1 with (fail)
  generalize ((w.alloc (.cells #[.string a.tab, .string a.name, .int .i64 a.on.kind, .string a.on.op, .int .i64 a.on.vk, .int .i64 a.on.vn, .string a.on.vs, .string a.on.tab, .string a.on.col, .slice sa n sc] 129)).alloc (.cells #[.string b.tab, .string b.name, .int .i64 b.on.kind, .string b.on.op, .int .i64 b.on.vk, .int .i64 b.on.vn, .string b.on.vs, .string b.on.tab, .string b.on.col, .slice sa' m sc'] 129)) = w1 at *
  obtain ⟨⟨hA, hB⟩, hsz⟩ := HBX.out
  have hs0 : w.heap.size < w1.heap.size := by omega
  have hs1 : w.heap.size + 1 < w1.heap.size := by omega
  obtain ⟨c0, c1, c2, c3, c4, c5, c6, c7, c8, c9⟩ := cells10_So hA
  obtain ⟨d0, d1, d2, d3, d4, d5, d6, d7, d8, d9⟩ := cells10_So hB
  clear hA hB hsz HBX
  go_wp2_with (go_at_call 76; refine (HCl.out _ HB.out).mono ?_; rintro e' w3 ⟨rfl, hb3⟩)
  all_goals
    go_ret
    rw [HSm.out]
    first
      | (refine ⟨?_, bt HB.out hb3⟩
         simp [*])
      | (refine ⟨?_, HB.out⟩
         simp [*])
set_option maxHeartbeats 6400000 in
theorem eqf_So (l m : List So) (w : World) (Q Q' : Nat → Prop) (v v' : Value) (h : SlV soS w Q v l) (h' : SlV soS w Q' v' m) :
    Calls Tryz.prog 79 #[v, v', .func (Fn.func 80) #[] #[]] w fun e' w' => e' = .returned (.bool (sameLB sameSo l m)) ∧ Below w.heap.size w w' := by
  obtain ⟨sa0, c, rfl, hle, hcap, hel⟩ := h
  obtain ⟨sa1, c', rfl, hle', hcap', hel'⟩ := h'
  have HE := Lib.hid hel
  have HE' := Lib.hid hel'
  have hln : l.length ≤ 9223372036854775807 := by unfold maxLen at hcap; omega
  have hln' : m.length ≤ 9223372036854775807 := by unfold maxLen at hcap'; omega
  obtain ⟨n, hn⟩ : ∃ n, n = l.length := ⟨_, rfl⟩
  obtain ⟨n', hm⟩ : ∃ n, n = m.length := ⟨_, rfl⟩
  have HNl := Lib.hid hn
  have HMl := Lib.hid hm
  rw [← hn] at hln ⊢
  rw [← hm] at hln' ⊢
  clear hel hel' hle hle' hcap hcap'
  by_cases hnm : n = n'
  · have HNm := Lib.hid hnm
    subst hnm
    have H0 := Lib.hid (show sameLB sameSo (l.drop 0) (m.drop 0) = sameLB sameSo l m from rfl)
    clear hn hm
    go_enter Tryz.func79, Tryz.ntmps79
    go_wp2_with fail
    go_loopw [17] (fun i wr => ∃ (k : Nat), k ≤ n ∧ i = .int .i64 (k : Int) ∧ Hid (sameLB sameSo (l.drop k) (m.drop k) = sameLB sameSo l m ∧ Below w.heap.size w wr)) (fun i _ => n - (intOf i).toNat)
    case atStart => exact ⟨0, by omega, rfl, Lib.hid ⟨H0.out, Below.refl _ _⟩⟩
    case round =>
      obtain ⟨k, hk, rfl, HL⟩ := hrel
      have hk0 : (0 : Int) ≤ (k : Int) := by omega
      by_cases hlt : k < n
      · have hki : (k : Int) < (n : Int) := by omega
        have hkp : k < l.length := by rw [← HNl.out]; exact hlt
        have hkq : k < m.length := by rw [← HMl.out]; exact hlt
        rcases HE.out with h0 | ⟨g, off, hsa, -, hgl, hc⟩
        · rw [h0] at hkp; simp at hkp
        rcases HE'.out with h0 | ⟨g', off', hsa', -, hgl', hc'⟩
        · rw [h0] at hkq; simp at hkq
        subst hsa
        subst hsa'
        have HBw := Lib.hid HL.out.2
        have hgw : g < wr.heap.size := Nat.lt_of_lt_of_le hgl HBw.out.size
        have hgw' : g' < wr.heap.size := Nat.lt_of_lt_of_le hgl' HBw.out.size
        obtain ⟨cs, hR, hcs⟩ := hc k hkp
        obtain ⟨cs', hR', hcs'⟩ := hc' k hkq
        have HD := Lib.hid (sameLB_drop (f := sameSo) hkp hkq)
        obtain ⟨p, hp⟩ : ∃ p, p = l[k] := ⟨_, rfl⟩
        obtain ⟨r, hr⟩ : ∃ r, r = m[k] := ⟨_, rfl⟩
        rw [← hp] at hR HD
        rw [← hr] at hR' HD
        have HRp := Lib.hid (show ∀ W, Below wr.heap.size wr W → soS.R W Q cs p from fun W hW => soS.far hR (Nat.le_trans HBw.out.size hW.size) (fun b _ hlt => (hW.block b (Nat.lt_of_lt_of_le hlt HBw.out.size)).trans (HBw.out.block b hlt)))
        have HRr := Lib.hid (show ∀ W, Below wr.heap.size wr W → soS.R W Q' cs' r from fun W hW => soS.far hR' (Nat.le_trans HBw.out.size hW.size) (fun b _ hlt => (hW.block b (Nat.lt_of_lt_of_le hlt HBw.out.size)).trans (HBw.out.block b hlt)))
        obtain ⟨pa, pc, rfl, -⟩ := hR
        obtain ⟨pa', pc', rfl, -⟩ := hR'
        have q0 : wr.cell? ⟨g, off + k * 10, none⟩ = some (.string p.tab) := (World.cell?_of_block (HBw.out.block g hgl)).trans (hcs 0 _ rfl)
        have q1 : wr.cell? ⟨g, off + k * 10 + 1, none⟩ = some (.string p.name) := (World.cell?_of_block (HBw.out.block g hgl)).trans (hcs 1 _ rfl)
        have q2 : wr.cell? ⟨g, off + k * 10 + 2, none⟩ = some (.int .i64 p.on.kind) := (World.cell?_of_block (HBw.out.block g hgl)).trans (hcs 2 _ rfl)
        have q3 : wr.cell? ⟨g, off + k * 10 + 3, none⟩ = some (.string p.on.op) := (World.cell?_of_block (HBw.out.block g hgl)).trans (hcs 3 _ rfl)
        have q4 : wr.cell? ⟨g, off + k * 10 + 4, none⟩ = some (.int .i64 p.on.vk) := (World.cell?_of_block (HBw.out.block g hgl)).trans (hcs 4 _ rfl)
        have q5 : wr.cell? ⟨g, off + k * 10 + 5, none⟩ = some (.int .i64 p.on.vn) := (World.cell?_of_block (HBw.out.block g hgl)).trans (hcs 5 _ rfl)
        have q6 : wr.cell? ⟨g, off + k * 10 + 6, none⟩ = some (.string p.on.vs) := (World.cell?_of_block (HBw.out.block g hgl)).trans (hcs 6 _ rfl)
        have q7 : wr.cell? ⟨g, off + k * 10 + 7, none⟩ = some (.string p.on.tab) := (World.cell?_of_block (HBw.out.block g hgl)).trans (hcs 7 _ rfl)
        have q8 : wr.cell? ⟨g, off + k * 10 + 8, none⟩ = some (.string p.on.col) := (World.cell?_of_block (HBw.out.block g hgl)).trans (hcs 8 _ rfl)
        have q9 : wr.cell? ⟨g, off + k * 10 + 9, none⟩ = some (.slice pa p.on.parts.length pc) := (World.cell?_of_block (HBw.out.block g hgl)).trans (hcs 9 _ rfl)
        have r0 : wr.cell? ⟨g', off' + k * 10, none⟩ = some (.string r.tab) := (World.cell?_of_block (HBw.out.block g' hgl')).trans (hcs' 0 _ rfl)
        have r1 : wr.cell? ⟨g', off' + k * 10 + 1, none⟩ = some (.string r.name) := (World.cell?_of_block (HBw.out.block g' hgl')).trans (hcs' 1 _ rfl)
        have r2 : wr.cell? ⟨g', off' + k * 10 + 2, none⟩ = some (.int .i64 r.on.kind) := (World.cell?_of_block (HBw.out.block g' hgl')).trans (hcs' 2 _ rfl)
        have r3 : wr.cell? ⟨g', off' + k * 10 + 3, none⟩ = some (.string r.on.op) := (World.cell?_of_block (HBw.out.block g' hgl')).trans (hcs' 3 _ rfl)
        have r4 : wr.cell? ⟨g', off' + k * 10 + 4, none⟩ = some (.int .i64 r.on.vk) := (World.cell?_of_block (HBw.out.block g' hgl')).trans (hcs' 4 _ rfl)
        have r5 : wr.cell? ⟨g', off' + k * 10 + 5, none⟩ = some (.int .i64 r.on.vn) := (World.cell?_of_block (HBw.out.block g' hgl')).trans (hcs' 5 _ rfl)
        have r6 : wr.cell? ⟨g', off' + k * 10 + 6, none⟩ = some (.string r.on.vs) := (World.cell?_of_block (HBw.out.block g' hgl')).trans (hcs' 6 _ rfl)
        have r7 : wr.cell? ⟨g', off' + k * 10 + 7, none⟩ = some (.string r.on.tab) := (World.cell?_of_block (HBw.out.block g' hgl')).trans (hcs' 7 _ rfl)
        have r8 : wr.cell? ⟨g', off' + k * 10 + 8, none⟩ = some (.string r.on.col) := (World.cell?_of_block (HBw.out.block g' hgl')).trans (hcs' 8 _ rfl)
        have r9 : wr.cell? ⟨g', off' + k * 10 + 9, none⟩ = some (.slice pa' r.on.parts.length pc') := (World.cell?_of_block (HBw.out.block g' hgl')).trans (hcs' 9 _ rfl)
        have HLt := Lib.hid hlt
        clear hcs hcs' hc hc' hp hkp hr hkq hlt hk hgl hgl'
        go_wp2_with fail
        refine (elt_So p r _ Q Q' _ _ (HRp.out _ (bel0 _ (bel0 _ (Below.refl _ _)))) (HRr.out _ (bel0 _ (bel0 _ (Below.refl _ _))))).mono ?_
        rintro e' w3 ⟨rfl, hb3⟩
        have HB3 := Lib.hid (bt HBw.out (bt (bel0 _ (bel0 _ (Below.refl _ _))) hb3))
        clear hb3 q0 r0 q1 r1 q2 r2 q3 r3 q4 r4 q5 r5 q6 r6 q7 r7 q8 r8 q9 r9
        cases hs : sameSo p r with
        | false =>
          have HQ := Lib.hid (show sameLB sameSo l m = false by rw [← HL.out.1, HD.out, hs]; rfl)
          go_wp2
          go_ret
          rw [HQ.out]
          exact ⟨rfl, HB3.out⟩
        | true =>
          have HQ := Lib.hid (show sameLB sameSo (l.drop (k + 1)) (m.drop (k + 1)) = sameLB sameSo l m by rw [← HL.out.1, HD.out, hs]; rfl)
          go_wp2
          go_roundw
          case rel => first | exact ⟨k + 1, HLt.out, by go_num, Lib.hid ⟨HQ.out, HB3.out⟩⟩ | (repeat apply Exists.intro; refine ⟨?_, rfl⟩; exact ⟨k + 1, HLt.out, by go_num, Lib.hid ⟨HQ.out, HB3.out⟩⟩)
          case measure => have := HLt.out; simp [intOf]; omega
      · have hkk : ¬ ((k : Int) < (n : Int)) := by omega
        have HQ := Lib.hid (show sameLB sameSo l m = true by
          have h1 := HL.out.1
          rw [show k = l.length by rw [← HNl.out]; omega, sameLB_end (by rw [← HNl.out, ← HMl.out])] at h1
          exact h1.symm)
        go_wp2
        go_ret
        rw [HQ.out]
        exact ⟨rfl, HL.out.2⟩
  · have HQ := Lib.hid (show sameLB sameSo l m = false from sameLB_len _ l m (by rw [← hn, ← hm]; exact hnm))
    have hne : ((n : Int) != (n' : Int)) = true := by rw [bne_iff_ne]; omega
    have hne2 : ¬ ((n : Int) = (n' : Int)) := by omega
    clear hn hm
    go_enter Tryz.func79, Tryz.ntmps79
    go_wp2
    go_ret
    rw [HQ.out]
    exact ⟨rfl, Below.refl _ _⟩
end Go.Proofs.YtknhphcfcpjhiaaGreatDoor
