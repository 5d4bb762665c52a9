/- Entries of a bag that came in; layer 14's few. -/
import Derived.Test.YtplgkblahmndoaaValsIn
import Derived.Test.YtplgkblahmndoaaAggIn
import Derived.Test.YtplgkblahmndoaaProg
import Derived.Deep.DeepCutAuto
namespace Go.Proofs.Ytplgkblahmndoaa
open Go.ChangeShapes Go.WideShapes Go.Deep Go.RowKit Go.Joins
set_option linter.unusedVariables false
set_option maxRecDepth 100000

/-- an entry -/
structure EntD where
  ra : Option Addr
  rl : Nat
  rc : Nat
  rv : List Val
  n : Int
structure EsAt (w : World) (b o : Nat) (x : EntD) : Prop where
  c0 : w.cell? ⟨b, o, none⟩ = some (.slice x.ra x.rl x.rc)
  c1 : w.cell? ⟨b, o + 1, none⟩ = some (.int .i64 x.n)
  row : IsV w x.ra x.rl x.rv
  rg : ∀ v ∈ x.rv, -9223372036854775808 ≤ v.2.1 ∧ v.2.1 ≤ 9223372036854775807
  nil : x.ra = none → x.rl = 0 ∧ x.rc = 0
  num : -9223372036854775808 ≤ x.n ∧ x.n ≤ 9223372036854775807
/-- a slice of entries -/
def IsEs (w : World) (a : Option Addr) (len : Nat) (f : Nat → EntD) : Prop :=
  len ≤ 9223372036854775807 ∧ (len = 0 ∨ ∃ b off, a = some ⟨b, off, none⟩ ∧ b < w.heap.size ∧ ∀ i, i < len → EsAt w b (off + i * 2) (f i))
theorem EsAt.below {w w' : World} {b o : Nat} {x : EntD} (h : EsAt w b o x) (hb : Below w.heap.size w w') : EsAt w' b o x := by
  have hlt : b < w.heap.size := World.block_lt_of_cell? w _ h.c0
  exact ⟨(hb.cell (p := ⟨b, o, none⟩) hlt).trans h.c0, (hb.cell (p := ⟨b, o + 1, none⟩) hlt).trans h.c1, h.row.below hb, h.rg, h.nil, h.num⟩
theorem IsEs.below {w w' : World} {a : Option Addr} {len : Nat} {f : Nat → EntD} (h : IsEs w a len f) (hb : Below w.heap.size w w') : IsEs w' a len f := by
  refine ⟨h.1, ?_⟩
  rcases h.2 with h0 | ⟨b, off, rfl, hlt, hc⟩
  · exact .inl h0
  · exact .inr ⟨b, off, rfl, Nat.lt_of_lt_of_le hlt hb.size, fun i hi => (hc i hi).below hb⟩
section
variable {H : Type} {enc : TypeId × Value → H} {P : Program} {w : World} {base : Nat} {spare : Nat → Bool} {held : Bool}
theorem open_es {t e p ti tj ts : TypeId} {f0 f1 g0 g1 g2 : Field} {fuel : Nat} {v : Value} {x : DataW H × List MemPlace} (ht : P.underlying t = some (.slice e)) (he : P.underlying e = some (.struct #[f0, f1])) (hC : P.cellsOf e = 2)
    (o0 : f0.offset = 0) (o1 : f1.offset = 1) (k0 : P.cellsOf f0.type = 1) (k1 : P.cellsOf f1.type = 1) (u0 : P.underlying f0.type = some (.slice p)) (u1 : P.underlying f1.type = some (.int .i64))
    (up : P.underlying p = some (.struct #[g0, g1, g2])) (hone : oneCellFields P #[g0, g1, g2] = true) (hp : P.cellsOf p = 3) (e0 : g0.type = ti) (e1 : g1.type = tj) (e2 : g2.type = ts) (v0 : P.underlying ti = some (.int .i64)) (v1 : P.underlying tj = some (.int .i64)) (v2 : P.underlying ts = some .string)
    (h : DataW.trod enc P w base spare held fuel t [v] = some x) : ∃ a len cap f, v = .slice a len cap ∧ IsEs w a len f := by
  rcases open_slice ht h with ⟨h0, _⟩ | ⟨a, len, cap, m, n, D, Pl, hcs, hb, hl, hm, hmm, hx, hi⟩
  · simp at h0
    exact ⟨none, 0, 0, fun _ => ⟨none, 0, 0, [], 0⟩, h0, by omega, .inl rfl⟩
  simp at hcs
  have hml : len ≤ m := by rw [hmm]; split <;> omega
  unfold maxLen at hm
  by_cases h0 : len = 0
  · exact ⟨some a, len, cap, fun _ => ⟨none, 0, 0, [], 0⟩, hcs, by omega, .inl h0⟩
  obtain ⟨b, off, spot⟩ := a
  have hs : spot = none := by
    obtain ⟨cs', hc, ht'⟩ := hi 0 (by omega)
    rw [hC] at hc
    obtain ⟨_, hcl, hat⟩ := World.cells?_some hc
    have z0 := hat 0 (by omega)
    rw [add_add] at z0
    obtain ⟨y, hy⟩ : ∃ y, cs'[0]? = some y := ⟨_, List.getElem?_eq_getElem (by omega)⟩
    rw [hy] at z0
    simpa [Addr.add] using World.cell?_spot z0
  subst hs
  have key : ∀ i, i < len → ∃ y : EntD, EsAt w b (off + i * 2) y := by
    intro i hil
    obtain ⟨cs', hc, ht'⟩ := hi i (by omega)
    rw [hC] at hc
    obtain ⟨_, hcl, hat⟩ := World.cells?_some hc
    obtain ⟨ys, n', _, _, _, hyl, hf⟩ := DataW.trod_struct he ht'
    match cs', hcl with
    | [c0, c1], _ =>
      have t0 := hf 0 f0 rfl
      have t1 := hf 1 f1 rfl
      rw [o0, k0] at t0
      rw [o1, k1] at t1
      match ys, hyl with
      | [y0, y1], _ =>
        obtain ⟨a1, r1, _, w1⟩ := DataW.trod_int u1 (show DataW.trod enc P w base spare held n' f1.type [c1] = some y1 from t1)
        simp only [List.cons.injEq, and_true] at r1
        subst r1
        have z0 := hat 0 (by simp)
        have z1 := hat 1 (by simp)
        rw [add_add, Addr.add_lit] at z0 z1
        have z0 : w.cell? ⟨b, off + i * 2, none⟩ = some c0 := by simpa using z0
        have z1 : w.cell? ⟨b, off + i * 2 + 1, none⟩ = some (.int .i64 a1) := by simpa [Nat.add_assoc] using z1
        rcases open_vals u0 up hone hp e0 e1 e2 v0 v1 v2 (show DataW.trod enc P w base spare held n' f0.type [c0] = some y0 from t0) with hcs | ⟨ax, l, c, vs, hcs, hv, hl', hm', hcell⟩
        · simp only [List.cons.injEq, and_true] at hcs
          subst hcs
          exact ⟨⟨none, 0, 0, [], a1⟩, z0, z1, ⟨rfl, by show 0 ≤ _; omega, .inl rfl⟩, by simp, fun _ => ⟨rfl, rfl⟩, bounds_i64 w1⟩
        · simp only [List.cons.injEq, and_true] at hcs
          subst hcs
          exact ⟨⟨some ax, l, c, vs, a1⟩, z0, z1, isV_of hv hl' hm' hcell, range_of hv hcell, fun h => (by cases h), bounds_i64 w1⟩
  refine ⟨some ⟨b, off, none⟩, len, cap, fun i => if h : i < len then Classical.choose (key i h) else ⟨none, 0, 0, [], 0⟩, hcs, by omega, .inr ?_⟩
  obtain ⟨q0, hq0⟩ := key 0 (by omega)
  refine ⟨b, off, rfl, World.block_lt_of_cell? w _ hq0.c0, fun i hil => ?_⟩
  simp only [hil, dif_pos]
  exact Classical.choose_spec (key i hil)
end
/-- few enough -/
def fewE (f : Nat → EntD) (n : Nat) : Bool := decide (∀ i, i < n → i < 200 ∧ (f i).rl ≤ 50)
theorem fewE_iff {f : Nat → EntD} {n : Nat} : fewE f n = true ↔ ∀ i, i < n → i < 200 ∧ (f i).rl ≤ 50 := by unfold fewE; exact decide_eq_true_iff
theorem fewE_no {f : Nat → EntD} {n i : Nat} (hi : i < n) (h : 200 ≤ i ∨ 50 < (f i).rl) : fewE f n = false := by
  rw [← Bool.not_eq_true, fewE_iff]
  intro k
  have := k i hi
  omega

set_option maxHeartbeats 3200000 in
theorem bfew_any (la : Option Addr) (ln lc : Nat) (f : Nat → EntD) (w : World) (hL : IsEs w la ln f) :
    Calls Try.prog 10 #[.slice la ln lc] w fun e w' => e = .returned (.bool (fewE f ln)) ∧ w' = w := by
  have hm := hL.1
  have HL := Lib.hid hL
  clear hL
  go_enter Try.func10, Try.ntmps10
  go_wp2
  go_loop [6] (fun i => ∃ k : Nat, k ≤ ln ∧ k ≤ 200 ∧ i = .int .i64 (k : Int) ∧ Hid (∀ i, i < k → i < 200 ∧ (f i).rl ≤ 50)) (fun i => ln - (intOf i).toNat)
  case atStart => exact ⟨0, by omega, by omega, rfl, Lib.hid (fun i hi => by omega)⟩
  case round =>
    obtain ⟨k, hk, hk1, rfl, HA⟩ := hrel
    have hk0 : (0 : Int) ≤ (k : Int) := by omega
    by_cases hlt : k < ln
    · obtain ⟨_, hc⟩ := HL.out
      rcases hc with hc | ⟨b, off, rfl, hb, hc⟩
      · omega
      have ho := hc k hlt
      have c0 := ho.c0
      have r0 := ho.row.2.1
      obtain ⟨z, hz⟩ : ∃ z, z = (f k).rl := ⟨_, rfl⟩
      have HZ := Lib.hid hz
      rw [← hz] at c0 r0
      clear hz ho hc
      have hki2 : (k : Int) < (ln : Int) := by omega
      by_cases h1 : 200 ≤ (k : Int)
      · have HF := Lib.hid (show fewE f ln = false from fewE_no hlt (.inl (by omega)))
        go_wp2
        go_ret
        rw [HF.out]
        exact ⟨rfl, rfl⟩
      · have h1' : (k : Int) < 200 := by omega
        clear h1
        by_cases h3 : 50 < (z : Int)
        · have HF := Lib.hid (show fewE f ln = false from fewE_no hlt (.inr (by have := HZ.out; omega)))
          go_wp2
          go_ret
          rw [HF.out]
          exact ⟨rfl, rfl⟩
        · have h3' : (z : Int) ≤ 50 := by omega
          clear h3
          have HA2 := Lib.hid (show ∀ i, i < k + 1 → i < 200 ∧ (f i).rl ≤ 50 from fun i hi => by
            rcases Nat.lt_succ_iff_lt_or_eq.1 hi with h | rfl
            · exact HA.out i h
            · have := HZ.out
              omega)
          go_wp2
          go_round
          case rel => exact ⟨k + 1, by omega, by omega, by go_num, HA2⟩
          case measure => simp [intOf]; omega
    · have hkk : (ln : Int) ≤ (k : Int) := by omega
      have HF := Lib.hid (show fewE f ln = true from fewE_iff.2 (fun i hi => HA.out i (by omega)))
      go_wp2
      go_ret
      rw [HF.out]
      exact ⟨rfl, rfl⟩
end Go.Proofs.Ytplgkblahmndoaa
