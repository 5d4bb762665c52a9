/- Alike: rows. Written by genpsame.py. -/
import Derived.Test.YtknhphcfcpjhiaaGreatDoorPsmL
import Derived.Laws.StructEq
namespace Go.Proofs.YtknhphcfcpjhiaaGreatDoor
open Go.RowKit
set_option linter.unusedVariables false
set_option linter.unusedSimpArgs false
set_option maxRecDepth 100000
theorem eqguard_co : Tryz.prog.eqGuardType Tryz.prog.depth 89 = false := by kernel_rfl
set_option maxHeartbeats 1600000 in
theorem eqin_co (w : World) (a0 b0 : ByteArray) (a1 b1 : Int) (a2 b2 a3 b3 : Bool) :
    (Op.equalIn 10000 89 (.agg #[.string a0, .int .i64 a1, .bool a2, .bool a3]) (.agg #[.string b0, .int .i64 b1, .bool b2, .bool b3])).run Tryz.prog w = .ok ((a0.toList == b0.toList) && ((a1 == b1) && ((a2 == b2) && (a3 == b3)))) w := by
  have hf : Tryz.prog.underlying 89 = some (.struct (Tryz.prog.fieldsOf 89)) := by kernel_rfl
  have hs : Tryz.prog.stoodInHeld 89 = false := by kernel_rfl
  have hF : (Tryz.prog.fieldsOf 89).toList = [{ name := "Name", type := 9, offset := 0, embedded := false, tag := "", pkgPath := "", byteOffset := 0 }, { name := "Kind", type := 3, offset := 1, embedded := false, tag := "", pkgPath := "", byteOffset := 16 }, { name := "NotNull", type := 4, offset := 2, embedded := false, tag := "", pkgPath := "", byteOffset := 24 }, { name := "Unique", type := 4, offset := 3, embedded := false, tag := "", pkgPath := "", byteOffset := 25 }] := by
    simp [Program.fieldsOf, Tryz.underlying89]
  rw [run_equalIn_agg w _ _ _ _ hf hs, hF]
  have e1 : ∀ (d : Nat) (x y : ByteArray), (Op.equalIn (d + 1) 9 (.string x) (.string y)).run Tryz.prog w = .ok (x.toList == y.toList) w := fun d x y => run_equalIn_string w d _ x y Tryz.underlying9
  have e2 : ∀ (d : Nat) (x y : Int), (Op.equalIn (d + 1) 3 (.int .i64 x) (.int .i64 y)).run Tryz.prog w = .ok (x == y) w := fun d x y => run_equalIn_int w d _ .i64 .i64 x y Tryz.underlying3
  have e3 : ∀ (d : Nat) (x y : Bool), (Op.equalIn (d + 1) 4 (.bool x) (.bool y)).run Tryz.prog w = .ok (x == y) w := fun d x y => run_equalIn_bool' w d _ x y Tryz.underlying4
  have p1 : ∀ (x : Array Value) (o : Nat) (v : Value), x[o]? = some v → (Go.part 9 x o).run Tryz.prog w = .ok v w := fun x o v h => by simp [Go.part, Tryz.isAgg9, h]
  have p2 : ∀ (x : Array Value) (o : Nat) (v : Value), x[o]? = some v → (Go.part 3 x o).run Tryz.prog w = .ok v w := fun x o v h => by simp [Go.part, Tryz.isAgg3, h]
  have p3 : ∀ (x : Array Value) (o : Nat) (v : Value), x[o]? = some v → (Go.part 4 x o).run Tryz.prog w = .ok v w := fun x o v h => by simp [Go.part, Tryz.isAgg4, h]
  have A : ∀ (x y : Value) (xs ys : Array Value) (f : Field) (fs : List Field) (d : Nat) (b : Bool), f.name ≠ "_" → (Go.part f.type xs f.offset).run Tryz.prog w = .ok x w → (Go.part f.type ys f.offset).run Tryz.prog w = .ok y w → (Op.equalIn d f.type x y).run Tryz.prog w = .ok b w →
      (Op.eqFields d xs ys (f :: fs)).run Tryz.prog w = if b = true then (Op.eqFields d xs ys fs).run Tryz.prog w else .ok false w := fun x y xs ys f fs d b hn h1 h2 h3 => by
    conv => lhs; unfold Op.eqFields
    rw [if_pos hn]
    simp only [Sem.run_bind, h1, h2, h3, Result.andThen_ok]
    cases b <;> simp
  have Z : ∀ (d : Nat) (xs ys : Array Value), (Op.eqFields d xs ys []).run Tryz.prog w = .ok true w := fun d xs ys => by unfold Op.eqFields; simp
  generalize hd : (9999 : Nat) = dd
  obtain ⟨d, rfl⟩ : ∃ d, dd = d + 1 := ⟨9998, by omega⟩
  clear hd
  rw [A (.string a0) (.string b0) _ _ _ _ _ (a0.toList == b0.toList) (by decide) (p1 _ _ _ rfl) (p1 _ _ _ rfl) (e1 _ _ _), A (.int .i64 a1) (.int .i64 b1) _ _ _ _ _ (a1 == b1) (by decide) (p2 _ _ _ rfl) (p2 _ _ _ rfl) (e2 _ _ _), A (.bool a2) (.bool b2) _ _ _ _ _ (a2 == b2) (by decide) (p3 _ _ _ rfl) (p3 _ _ _ rfl) (e3 _ _ _), A (.bool a3) (.bool b3) _ _ _ _ _ (a3 == b3) (by decide) (p3 _ _ _ rfl) (p3 _ _ _ rfl) (e3 _ _ _), Z]
  cases (a0.toList == b0.toList) <;> cases (a1 == b1) <;> cases (a2 == b2) <;> cases (a3 == b3) <;> rfl
set_option maxHeartbeats 6400000 in
theorem eqf_Co (l m : List Co) (w : World) (Q Q' : Nat → Prop) (v v' : Value) (h : SlV coS w Q v l) (h' : SlV coS w Q' v' m) :
    Calls Tryz.prog 34 #[v, v'] w fun e' w' => e' = .returned (.bool (sameLB sameCo l m)) ∧ Below w.heap.size w w' := by
  obtain ⟨sa0, c, rfl, hle, hcap, hel⟩ := h
  obtain ⟨sa1, c', rfl, hle', hcap', hel'⟩ := h'
  have HE := Lib.hid hel
  have HE' := Lib.hid hel'
  have hln : l.length ≤ 9223372036854775807 := by unfold maxLen at hcap; omega
  have hln' : m.length ≤ 9223372036854775807 := by unfold maxLen at hcap'; omega
  obtain ⟨n, hn⟩ : ∃ n, n = l.length := ⟨_, rfl⟩
  obtain ⟨n', hm⟩ : ∃ n, n = m.length := ⟨_, rfl⟩
  have HNl := Lib.hid hn
  have HMl := Lib.hid hm
  rw [← hn] at hln ⊢
  rw [← hm] at hln' ⊢
  clear hel hel' hle hle' hcap hcap'
  by_cases hnm : n = n'
  · have HNm := Lib.hid hnm
    subst hnm
    have H0 := Lib.hid (show sameLB sameCo (l.drop 0) (m.drop 0) = sameLB sameCo l m from rfl)
    clear hn hm
    go_enter Tryz.func34, Tryz.ntmps34
    go_wp2_with fail
    go_loopw [13] (fun i wr => ∃ (k : Nat), k ≤ n ∧ i = .int .i64 (k : Int) ∧ Hid (sameLB sameCo (l.drop k) (m.drop k) = sameLB sameCo l m ∧ Below w.heap.size w wr)) (fun i _ => n - (intOf i).toNat)
    case atStart => exact ⟨0, by omega, rfl, Lib.hid ⟨H0.out, Below.refl _ _⟩⟩
    case round =>
      obtain ⟨k, hk, rfl, HL⟩ := hrel
      have hk0 : (0 : Int) ≤ (k : Int) := by omega
      by_cases hlt : k < n
      · have hki : (k : Int) < (n : Int) := by omega
        have hkp : k < l.length := by rw [← HNl.out]; exact hlt
        have hkq : k < m.length := by rw [← HMl.out]; exact hlt
        rcases HE.out with h0 | ⟨g, off, hsa, -, hgl, hc⟩
        · rw [h0] at hkp; simp at hkp
        rcases HE'.out with h0 | ⟨g', off', hsa', -, hgl', hc'⟩
        · rw [h0] at hkq; simp at hkq
        subst hsa
        subst hsa'
        have HBw := Lib.hid HL.out.2
        have hgw : g < wr.heap.size := Nat.lt_of_lt_of_le hgl HBw.out.size
        have hgw' : g' < wr.heap.size := Nat.lt_of_lt_of_le hgl' HBw.out.size
        obtain ⟨cs, hR, hcs⟩ := hc k hkp
        obtain ⟨cs', hR', hcs'⟩ := hc' k hkq
        have HD := Lib.hid (sameLB_drop (f := sameCo) hkp hkq)
        obtain ⟨p, hp⟩ : ∃ p, p = l[k] := ⟨_, rfl⟩
        obtain ⟨r, hr⟩ : ∃ r, r = m[k] := ⟨_, rfl⟩
        rw [← hp] at hR HD
        rw [← hr] at hR' HD
        have HRp := Lib.hid (show ∀ W, Below wr.heap.size wr W → coS.R W Q cs p from fun W hW => coS.far hR (Nat.le_trans HBw.out.size hW.size) (fun b _ hlt => (hW.block b (Nat.lt_of_lt_of_le hlt HBw.out.size)).trans (HBw.out.block b hlt)))
        have HRr := Lib.hid (show ∀ W, Below wr.heap.size wr W → coS.R W Q' cs' r from fun W hW => coS.far hR' (Nat.le_trans HBw.out.size hW.size) (fun b _ hlt => (hW.block b (Nat.lt_of_lt_of_le hlt HBw.out.size)).trans (HBw.out.block b hlt)))
        obtain ⟨rfl, -⟩ := hR
        obtain ⟨rfl, -⟩ := hR'
        have q0 : wr.cell? ⟨g, off + k * 4, none⟩ = some (.string p.name) := by
          have := (World.cell?_of_block (HBw.out.block g hgl)).trans (hcs 0 _ rfl)
          rwa [show off + k * coS.n + 0 = off + k * 4 by show off + k * 4 + 0 = _; omega] at this
        have q1 : wr.cell? ⟨g, off + k * 4 + 1, none⟩ = some (.int .i64 p.kind) := by
          have := (World.cell?_of_block (HBw.out.block g hgl)).trans (hcs 1 _ rfl)
          rwa [show off + k * coS.n + 1 = off + k * 4 + 1 by show off + k * 4 + 1 = _; omega] at this
        have q2 : wr.cell? ⟨g, off + k * 4 + 2, none⟩ = some (.bool p.nn) := by
          have := (World.cell?_of_block (HBw.out.block g hgl)).trans (hcs 2 _ rfl)
          rwa [show off + k * coS.n + 2 = off + k * 4 + 2 by show off + k * 4 + 2 = _; omega] at this
        have q3 : wr.cell? ⟨g, off + k * 4 + 3, none⟩ = some (.bool p.un) := by
          have := (World.cell?_of_block (HBw.out.block g hgl)).trans (hcs 3 _ rfl)
          rwa [show off + k * coS.n + 3 = off + k * 4 + 3 by show off + k * 4 + 3 = _; omega] at this
        have r0 : wr.cell? ⟨g', off' + k * 4, none⟩ = some (.string r.name) := by
          have := (World.cell?_of_block (HBw.out.block g' hgl')).trans (hcs' 0 _ rfl)
          rwa [show off' + k * coS.n + 0 = off' + k * 4 by show off' + k * 4 + 0 = _; omega] at this
        have r1 : wr.cell? ⟨g', off' + k * 4 + 1, none⟩ = some (.int .i64 r.kind) := by
          have := (World.cell?_of_block (HBw.out.block g' hgl')).trans (hcs' 1 _ rfl)
          rwa [show off' + k * coS.n + 1 = off' + k * 4 + 1 by show off' + k * 4 + 1 = _; omega] at this
        have r2 : wr.cell? ⟨g', off' + k * 4 + 2, none⟩ = some (.bool r.nn) := by
          have := (World.cell?_of_block (HBw.out.block g' hgl')).trans (hcs' 2 _ rfl)
          rwa [show off' + k * coS.n + 2 = off' + k * 4 + 2 by show off' + k * 4 + 2 = _; omega] at this
        have r3 : wr.cell? ⟨g', off' + k * 4 + 3, none⟩ = some (.bool r.un) := by
          have := (World.cell?_of_block (HBw.out.block g' hgl')).trans (hcs' 3 _ rfl)
          rwa [show off' + k * coS.n + 3 = off' + k * 4 + 3 by show off' + k * 4 + 3 = _; omega] at this
        have HLt := Lib.hid hlt
        clear hcs hcs' hc hc' hp hkp hr hkq hlt hk hgl hgl'
        have hEqi : ∀ W : World, _ := fun W => eqin_co W p.name r.name p.kind r.kind p.nn r.nn p.un r.un
        have hEqg := eqguard_co
        go_upto_region 6 with (fail)
        go_quiet (fail)
        obtain ⟨w3, hw3⟩ : ∃ w3, w3 = wr.drewN nq := ⟨_, rfl⟩
        have HB3 := Lib.hid (show Below w.heap.size w w3 by rw [hw3]; exact HBw.out.trans ⟨rfl, rfl, rfl, Nat.le_refl _, fun _ _ => rfl⟩)
        rw [← hw3]
        clear hw3 hEqi hEqg q0 q1 q2 q3 r0 r1 r2 r3
        generalize hB : (!p.name.toList == r.name.toList || (!p.kind == r.kind || (!p.nn == r.nn || !p.un == r.un))) = B at *
        have hs' : sameCo p r = !B := by
          subst hB
          unfold sameCo
          cases (p.name.toList == r.name.toList) <;> cases (p.kind == r.kind) <;> cases (p.nn == r.nn) <;> cases (p.un == r.un) <;> rfl
        clear hB
        cases B with
        | true =>
          have hs : sameCo p r = false := hs'
          have HQ := Lib.hid (show sameLB sameCo l m = false by rw [← HL.out.1, HD.out, hs]; rfl)
          go_wp2
          go_ret
          rw [HQ.out]
          exact ⟨rfl, HB3.out⟩
        | false =>
          have hs : sameCo p r = true := hs'
          have HQ := Lib.hid (show sameLB sameCo (l.drop (k + 1)) (m.drop (k + 1)) = sameLB sameCo l m by rw [← HL.out.1, HD.out, hs]; rfl)
          go_wp2
          go_roundw
          case rel => first | exact ⟨k + 1, HLt.out, by go_num, Lib.hid ⟨HQ.out, HB3.out⟩⟩ | (repeat apply Exists.intro; refine ⟨?_, rfl⟩; exact ⟨k + 1, HLt.out, by go_num, Lib.hid ⟨HQ.out, HB3.out⟩⟩)
          case measure => have := HLt.out; simp [intOf]; omega
      · have hkk : ¬ ((k : Int) < (n : Int)) := by omega
        have HQ := Lib.hid (show sameLB sameCo l m = true by
          have h1 := HL.out.1
          rw [show k = l.length by rw [← HNl.out]; omega, sameLB_end (by rw [← HNl.out, ← HMl.out])] at h1
          exact h1.symm)
        go_wp2
        go_ret
        rw [HQ.out]
        exact ⟨rfl, HL.out.2⟩
  · have HQ := Lib.hid (show sameLB sameCo l m = false from sameLB_len _ l m (by rw [← hn, ← hm]; exact hnm))
    have hne : ((n : Int) != (n' : Int)) = true := by rw [bne_iff_ne]; omega
    have hne2 : ¬ ((n : Int) = (n' : Int)) := by omega
    clear hn hm
    go_enter Tryz.func34, Tryz.ntmps34
    go_wp2
    go_ret
    rw [HQ.out]
    exact ⟨rfl, Below.refl _ _⟩
end Go.Proofs.YtknhphcfcpjhiaaGreatDoor
namespace Go.Proofs.YtknhphcfcpjhiaaGreatDoor
open Go.RowKit
set_option linter.unusedVariables false
set_option linter.unusedSimpArgs false
set_option maxRecDepth 100000
set_option maxHeartbeats 6400000 in
theorem eqf_St (l m : List ByteArray) (w : World) (Q Q' : Nat → Prop) (v v' : Value) (h : SlV stS w Q v l) (h' : SlV stS w Q' v' m) :
    Calls Tryz.prog 35 #[v, v'] w fun e' w' => e' = .returned (.bool (sameLB sameSt l m)) ∧ Below w.heap.size w w' := by
  obtain ⟨sa0, c, rfl, hle, hcap, hel⟩ := h
  obtain ⟨sa1, c', rfl, hle', hcap', hel'⟩ := h'
  have HE := Lib.hid hel
  have HE' := Lib.hid hel'
  have hln : l.length ≤ 9223372036854775807 := by unfold maxLen at hcap; omega
  have hln' : m.length ≤ 9223372036854775807 := by unfold maxLen at hcap'; omega
  obtain ⟨n, hn⟩ : ∃ n, n = l.length := ⟨_, rfl⟩
  obtain ⟨n', hm⟩ : ∃ n, n = m.length := ⟨_, rfl⟩
  have HNl := Lib.hid hn
  have HMl := Lib.hid hm
  rw [← hn] at hln ⊢
  rw [← hm] at hln' ⊢
  clear hel hel' hle hle' hcap hcap'
  by_cases hnm : n = n'
  · have HNm := Lib.hid hnm
    subst hnm
    have H0 := Lib.hid (show sameLB sameSt (l.drop 0) (m.drop 0) = sameLB sameSt l m from rfl)
    clear hn hm
    go_enter Tryz.func35, Tryz.ntmps35
    go_wp2_with fail
    go_loopw [13] (fun i wr => ∃ (k : Nat), k ≤ n ∧ i = .int .i64 (k : Int) ∧ Hid (sameLB sameSt (l.drop k) (m.drop k) = sameLB sameSt l m ∧ Below w.heap.size w wr)) (fun i _ => n - (intOf i).toNat)
    case atStart => exact ⟨0, by omega, rfl, Lib.hid ⟨H0.out, Below.refl _ _⟩⟩
    case round =>
      obtain ⟨k, hk, rfl, HL⟩ := hrel
      have hk0 : (0 : Int) ≤ (k : Int) := by omega
      by_cases hlt : k < n
      · have hki : (k : Int) < (n : Int) := by omega
        have hkp : k < l.length := by rw [← HNl.out]; exact hlt
        have hkq : k < m.length := by rw [← HMl.out]; exact hlt
        rcases HE.out with h0 | ⟨g, off, hsa, -, hgl, hc⟩
        · rw [h0] at hkp; simp at hkp
        rcases HE'.out with h0 | ⟨g', off', hsa', -, hgl', hc'⟩
        · rw [h0] at hkq; simp at hkq
        subst hsa
        subst hsa'
        have HBw := Lib.hid HL.out.2
        have hgw : g < wr.heap.size := Nat.lt_of_lt_of_le hgl HBw.out.size
        have hgw' : g' < wr.heap.size := Nat.lt_of_lt_of_le hgl' HBw.out.size
        obtain ⟨cs, hR, hcs⟩ := hc k hkp
        obtain ⟨cs', hR', hcs'⟩ := hc' k hkq
        have HD := Lib.hid (sameLB_drop (f := sameSt) hkp hkq)
        obtain ⟨p, hp⟩ : ∃ p, p = l[k] := ⟨_, rfl⟩
        obtain ⟨r, hr⟩ : ∃ r, r = m[k] := ⟨_, rfl⟩
        rw [← hp] at hR HD
        rw [← hr] at hR' HD
        have HRp := Lib.hid (show ∀ W, Below wr.heap.size wr W → stS.R W Q cs p from fun W hW => stS.far hR (Nat.le_trans HBw.out.size hW.size) (fun b _ hlt => (hW.block b (Nat.lt_of_lt_of_le hlt HBw.out.size)).trans (HBw.out.block b hlt)))
        have HRr := Lib.hid (show ∀ W, Below wr.heap.size wr W → stS.R W Q' cs' r from fun W hW => stS.far hR' (Nat.le_trans HBw.out.size hW.size) (fun b _ hlt => (hW.block b (Nat.lt_of_lt_of_le hlt HBw.out.size)).trans (HBw.out.block b hlt)))
        obtain ⟨rfl, -⟩ := hR
        obtain ⟨rfl, -⟩ := hR'
        have q0 : wr.cell? ⟨g, off + k, none⟩ = some (.string p) := by
          have := (World.cell?_of_block (HBw.out.block g hgl)).trans (hcs 0 _ rfl)
          rwa [show off + k * stS.n + 0 = off + k by show off + k * 1 + 0 = _; omega] at this
        have r0 : wr.cell? ⟨g', off' + k, none⟩ = some (.string r) := by
          have := (World.cell?_of_block (HBw.out.block g' hgl')).trans (hcs' 0 _ rfl)
          rwa [show off' + k * stS.n + 0 = off' + k by show off' + k * 1 + 0 = _; omega] at this
        have HLt := Lib.hid hlt
        clear hcs hcs' hc hc' hp hkp hr hkq hlt hk hgl hgl'
        go_upto_region 6 with (fail)
        have jq0 := Fut.cell q0
        have jr0 := Fut.cell r0
        clear q0 r0
        refine wp_region_fut (by kernel_rfl) (by kernel_rfl) ?_
        repeat (go_big_quiet_step (fail))
        refine wpQuiet_nil ?_
        rintro _ ⟨s3, rfl⟩
        have hb3 := s3.bel
        generalize s3.to = w3 at *
        have HB3 := Lib.hid (bt HBw.out hb3)
        clear hb3 s3 jq0 jr0
        generalize hB : (p.toList == r.toList) = B at *
        have hs : sameSt p r = B := hB
        clear hB
        cases B with
        | false =>
          have HQ := Lib.hid (show sameLB sameSt l m = false by rw [← HL.out.1, HD.out, hs]; rfl)
          go_wp2
          go_ret
          rw [HQ.out]
          exact ⟨rfl, HB3.out⟩
        | true =>
          have HQ := Lib.hid (show sameLB sameSt (l.drop (k + 1)) (m.drop (k + 1)) = sameLB sameSt l m by rw [← HL.out.1, HD.out, hs]; rfl)
          go_wp2
          go_roundw
          case rel => first | exact ⟨k + 1, HLt.out, by go_num, Lib.hid ⟨HQ.out, HB3.out⟩⟩ | (repeat apply Exists.intro; refine ⟨?_, rfl⟩; exact ⟨k + 1, HLt.out, by go_num, Lib.hid ⟨HQ.out, HB3.out⟩⟩)
          case measure => have := HLt.out; simp [intOf]; omega
      · have hkk : ¬ ((k : Int) < (n : Int)) := by omega
        have HQ := Lib.hid (show sameLB sameSt l m = true by
          have h1 := HL.out.1
          rw [show k = l.length by rw [← HNl.out]; omega, sameLB_end (by rw [← HNl.out, ← HMl.out])] at h1
          exact h1.symm)
        go_wp2
        go_ret
        rw [HQ.out]
        exact ⟨rfl, HL.out.2⟩
  · have HQ := Lib.hid (show sameLB sameSt l m = false from sameLB_len _ l m (by rw [← hn, ← hm]; exact hnm))
    have hne : ((n : Int) != (n' : Int)) = true := by rw [bne_iff_ne]; omega
    have hne2 : ¬ ((n : Int) = (n' : Int)) := by omega
    clear hn hm
    go_enter Tryz.func35, Tryz.ntmps35
    go_wp2
    go_ret
    rw [HQ.out]
    exact ⟨rfl, Below.refl _ _⟩
end Go.Proofs.YtknhphcfcpjhiaaGreatDoor
namespace Go.Proofs.YtknhphcfcpjhiaaGreatDoor
open Go.RowKit
set_option linter.unusedVariables false
set_option linter.unusedSimpArgs false
set_option maxRecDepth 100000
theorem ro_le {w : World} {Q : Nat → Prop} {a : Option Addr} {c : Nat} {x : List ET} (h : roS.R w Q [.slice a x.length c] x) : LeV w Q (.slice a x.length c) x := by
  obtain ⟨a', c', he, h1, h2, h3⟩ := h
  simp only [List.cons.injEq, Value.slice.injEq, and_true, true_and] at he
  obtain ⟨rfl, rfl⟩ := he
  exact ⟨_, _, rfl, h1, h2, h3⟩
set_option maxHeartbeats 6400000 in
theorem eqf_Ro (l m : List (List ET)) (w : World) (Q Q' : Nat → Prop) (v v' : Value) (h : SlV roS w Q v l) (h' : SlV roS w Q' v' m) :
    Calls Tryz.prog 36 #[v, v', .func (Fn.func 37) #[] #[]] w fun e' w' => e' = .returned (.bool (sameLB sameEL l m)) ∧ Below w.heap.size w w' := by
  obtain ⟨sa0, c, rfl, hle, hcap, hel⟩ := h
  obtain ⟨sa1, c', rfl, hle', hcap', hel'⟩ := h'
  have HE := Lib.hid hel
  have HE' := Lib.hid hel'
  have hln : l.length ≤ 9223372036854775807 := by unfold maxLen at hcap; omega
  have hln' : m.length ≤ 9223372036854775807 := by unfold maxLen at hcap'; omega
  obtain ⟨n, hn⟩ : ∃ n, n = l.length := ⟨_, rfl⟩
  obtain ⟨n', hm⟩ : ∃ n, n = m.length := ⟨_, rfl⟩
  have HNl := Lib.hid hn
  have HMl := Lib.hid hm
  rw [← hn] at hln ⊢
  rw [← hm] at hln' ⊢
  clear hel hel' hle hle' hcap hcap'
  by_cases hnm : n = n'
  · have HNm := Lib.hid hnm
    subst hnm
    have H0 := Lib.hid (show sameLB sameEL (l.drop 0) (m.drop 0) = sameLB sameEL l m from rfl)
    clear hn hm
    go_enter Tryz.func36, Tryz.ntmps36
    go_wp2_with fail
    go_loopw [17] (fun i wr => ∃ (k : Nat), k ≤ n ∧ i = .int .i64 (k : Int) ∧ Hid (sameLB sameEL (l.drop k) (m.drop k) = sameLB sameEL l m ∧ Below w.heap.size w wr)) (fun i _ => n - (intOf i).toNat)
    case atStart => exact ⟨0, by omega, rfl, Lib.hid ⟨H0.out, Below.refl _ _⟩⟩
    case round =>
      obtain ⟨k, hk, rfl, HL⟩ := hrel
      have hk0 : (0 : Int) ≤ (k : Int) := by omega
      by_cases hlt : k < n
      · have hki : (k : Int) < (n : Int) := by omega
        have hkp : k < l.length := by rw [← HNl.out]; exact hlt
        have hkq : k < m.length := by rw [← HMl.out]; exact hlt
        rcases HE.out with h0 | ⟨g, off, hsa, -, hgl, hc⟩
        · rw [h0] at hkp; simp at hkp
        rcases HE'.out with h0 | ⟨g', off', hsa', -, hgl', hc'⟩
        · rw [h0] at hkq; simp at hkq
        subst hsa
        subst hsa'
        have HBw := Lib.hid HL.out.2
        have hgw : g < wr.heap.size := Nat.lt_of_lt_of_le hgl HBw.out.size
        have hgw' : g' < wr.heap.size := Nat.lt_of_lt_of_le hgl' HBw.out.size
        obtain ⟨cs, hR, hcs⟩ := hc k hkp
        obtain ⟨cs', hR', hcs'⟩ := hc' k hkq
        have HD := Lib.hid (sameLB_drop (f := sameEL) hkp hkq)
        obtain ⟨p, hp⟩ : ∃ p, p = l[k] := ⟨_, rfl⟩
        obtain ⟨r, hr⟩ : ∃ r, r = m[k] := ⟨_, rfl⟩
        rw [← hp] at hR HD
        rw [← hr] at hR' HD
        have HRp := Lib.hid (show ∀ W, Below wr.heap.size wr W → roS.R W Q cs p from fun W hW => roS.far hR (Nat.le_trans HBw.out.size hW.size) (fun b _ hlt => (hW.block b (Nat.lt_of_lt_of_le hlt HBw.out.size)).trans (HBw.out.block b hlt)))
        have HRr := Lib.hid (show ∀ W, Below wr.heap.size wr W → roS.R W Q' cs' r from fun W hW => roS.far hR' (Nat.le_trans HBw.out.size hW.size) (fun b _ hlt => (hW.block b (Nat.lt_of_lt_of_le hlt HBw.out.size)).trans (HBw.out.block b hlt)))
        obtain ⟨pa, pc, rfl, -⟩ := hR
        obtain ⟨pa', pc', rfl, -⟩ := hR'
        have q0 : wr.cell? ⟨g, off + k, none⟩ = some (.slice pa p.length pc) := by
          have := (World.cell?_of_block (HBw.out.block g hgl)).trans (hcs 0 _ rfl)
          rwa [show off + k * roS.n + 0 = off + k by show off + k * 1 + 0 = off + k; omega] at this
        have r0 : wr.cell? ⟨g', off' + k, none⟩ = some (.slice pa' r.length pc') := by
          have := (World.cell?_of_block (HBw.out.block g' hgl')).trans (hcs' 0 _ rfl)
          rwa [show off' + k * roS.n + 0 = off' + k by show off' + k * 1 + 0 = off' + k; omega] at this
        have HLt := Lib.hid hlt
        clear hcs hcs' hc hc' hp hkp hr hkq hlt hk hgl hgl'
        go_wp2_with fail
        refine (plist_same p r _ Q Q' _ _ (ro_le (HRp.out _ (by first | exact Below.refl _ _ | exact bel0 _ (bel0 _ (Below.refl _ _))))) (ro_le (HRr.out _ (by first | exact Below.refl _ _ | exact bel0 _ (bel0 _ (Below.refl _ _)))))).mono ?_
        rintro e' w3 ⟨rfl, hb3⟩
        have HB3 := Lib.hid (bt HBw.out (by first | exact hb3 | exact bt (bel0 _ (bel0 _ (Below.refl _ _))) hb3))
        clear hb3 q0 r0
        cases hs : sameEL p r with
        | false =>
          have HQ := Lib.hid (show sameLB sameEL l m = false by rw [← HL.out.1, HD.out, hs]; rfl)
          go_wp2
          go_ret
          rw [HQ.out]
          exact ⟨rfl, HB3.out⟩
        | true =>
          have HQ := Lib.hid (show sameLB sameEL (l.drop (k + 1)) (m.drop (k + 1)) = sameLB sameEL l m by rw [← HL.out.1, HD.out, hs]; rfl)
          go_wp2
          go_roundw
          case rel => first | exact ⟨k + 1, HLt.out, by go_num, Lib.hid ⟨HQ.out, HB3.out⟩⟩ | (repeat apply Exists.intro; refine ⟨?_, rfl⟩; exact ⟨k + 1, HLt.out, by go_num, Lib.hid ⟨HQ.out, HB3.out⟩⟩)
          case measure => have := HLt.out; simp [intOf]; omega
      · have hkk : ¬ ((k : Int) < (n : Int)) := by omega
        have HQ := Lib.hid (show sameLB sameEL l m = true by
          have h1 := HL.out.1
          rw [show k = l.length by rw [← HNl.out]; omega, sameLB_end (by rw [← HNl.out, ← HMl.out])] at h1
          exact h1.symm)
        go_wp2
        go_ret
        rw [HQ.out]
        exact ⟨rfl, HL.out.2⟩
  · have HQ := Lib.hid (show sameLB sameEL l m = false from sameLB_len _ l m (by rw [← hn, ← hm]; exact hnm))
    have hne : ((n : Int) != (n' : Int)) = true := by rw [bne_iff_ne]; omega
    have hne2 : ¬ ((n : Int) = (n' : Int)) := by omega
    clear hn hm
    go_enter Tryz.func36, Tryz.ntmps36
    go_wp2
    go_ret
    rw [HQ.out]
    exact ⟨rfl, Below.refl _ _⟩
end Go.Proofs.YtknhphcfcpjhiaaGreatDoor
