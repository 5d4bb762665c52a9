/- Two disks: a write to one of them; sizes; a read. -/
import Derived.Test.YtafhgilikcablaaDkTwo
namespace Go.Proofs.Ytafhgilikcablaa
open Go.RowKit Go.Maps
set_option linter.unusedVariables false
set_option maxRecDepth 100000

/-- a write, where it is done -/
def wrH (x : Hold) (f p : Int) (b : List Int) : Option Hold :=
  if f = 0 then (if 0 ≤ p ∧ p ≤ (x.z0.length : Int) then some ⟨wrB x.z0 b p.toNat, x.L0 ++ secs p.toNat b.length, x.z1, x.L1⟩ else none)
  else if f = 1 then (if 0 ≤ p ∧ p ≤ (x.z1.length : Int) then some ⟨x.z0, x.L0, wrB x.z1 b p.toNat, x.L1 ++ secs p.toNat b.length⟩ else none)
  else none
theorem secs_length (p n : Nat) : (secs p n).length ≤ n := by
  rw [secs_nS, List.length_map, List.length_range']
  unfold nS
  split <;> omega
theorem wrH_few {x x' : Hold} {f p : Int} {b : List Int} {n : Nat} (h : x.few n) (e : wrH x f p b = some x') : x'.few (n + b.length) := by
  obtain ⟨h1, h2, h3, h4⟩ := h
  unfold wrH at e
  split at e
  · split at e
    · rename_i hp
      cases e
      have hl := wrB_length (zs := x.z0) (b := b) (p := p.toNat) (by omega)
      have hs := secs_length p.toNat b.length
      have hm : Nat.max x.z0.length (p.toNat + b.length) ≤ n + b.length := Nat.max_le.2 ⟨by omega, by omega⟩
      refine ⟨by rw [hl]; exact hm, by show x.z1.length ≤ _; omega, by show (x.L0 ++ _).length ≤ _; rw [List.length_append]; omega, by show x.L1.length ≤ _; omega⟩
    · cases e
  · split at e
    · split at e
      · rename_i hp
        cases e
        have hl := wrB_length (zs := x.z1) (b := b) (p := p.toNat) (by omega)
        have hs := secs_length p.toNat b.length
        have hm : Nat.max x.z1.length (p.toNat + b.length) ≤ n + b.length := Nat.max_le.2 ⟨by omega, by omega⟩
        refine ⟨by show x.z0.length ≤ _; omega, by rw [hl]; exact hm, by show x.L0.length ≤ _; omega, by show (x.L1 ++ _).length ≤ _; rw [List.length_append]; omega⟩
      · cases e
    · cases e
/-- the sectors are keys -/
def Hold.keys (x : Hold) : Prop := (∀ k ∈ x.L0, WideAt.IsKeyLit k) ∧ (∀ k ∈ x.L1, WideAt.IsKeyLit k)
theorem secs_keys {p n : Nat} (h : p + n ≤ 2000000) : ∀ k ∈ secs p n, WideAt.IsKeyLit k := fun k hk => by
  rw [secs_nS] at hk
  obtain ⟨s, hs, rfl⟩ := List.mem_map.1 hk
  have := List.mem_range'_1.1 hs
  refine (Go.Maps.int_keyed Try.underlying3).key (Go.Maps.keyOf_int_mk Try.underlying3 (sk_wf ?_))
  unfold nS at this
  split at this <;> omega
theorem wrH_keys {x x' : Hold} {f p : Int} {b : List Int} (h : x.keys) (hf : x.few 1000000) (hb : b.length ≤ 25000) (e : wrH x f p b = some x') : x'.keys := by
  obtain ⟨h1, h2⟩ := h
  obtain ⟨f1, f2, _, _⟩ := hf
  unfold wrH at e
  split at e
  · split at e
    · rename_i hp
      cases e
      exact ⟨fun k hk => (List.mem_append.1 hk).elim (h1 k) (secs_keys (by omega) k), h2⟩
    · cases e
  · split at e
    · split at e
      · rename_i hp
        cases e
        exact ⟨h1, fun k hk => (List.mem_append.1 hk).elim (h2 k) (secs_keys (by omega) k)⟩
      · cases e
    · cases e
theorem size_of {w : World} {B : Nat} {zs : List Int} {L : List Lit} {v m : Value} (h : FSt w B zs L v m) : ∃ a c, v = .slice a zs.length c := by
  obtain ⟨a, l, c, e, e2, _⟩ := own_any h.own h.rg
  exact ⟨a, c, by rw [e, e2]⟩
/-- what a write answers -/
def WPost (w : World) (D E B B0 : Nat) (x y : Hold) (f p : Int) (b : List Int) (e : Ending) (w' : World) : Prop :=
  (∃ x', wrH x f p b = some x' ∧ e = .returned (.int .i64 0) ∧ Pair w' D E B x' y ∧ Below B0 w w') ∨ (wrH x f p b = none ∧ e = .returned (.int .i64 1) ∧ w' = w)

theorem dst_box {D B : Nat} {w w' : World} {cs : Array Value} {off : Nat} {v' m' v0 s0 m0 v1 s1 m1 : Value} {R : Int} (h : w'.heap[D]? = some (.cells cs 94 (0, 0))) (e : cs = #[v0, s0, m0, v1, s1, m1, .int .i64 R, .bool false, .int .i64 0, .bool false]) : w'.heap[D]? = some (.cells #[v0, s0, m0, v1, s1, m1, .int .i64 R, .bool false, .int .i64 0, .bool false] 94 (0, 0)) := by rw [h, e]

theorem pwrite_any (w : World) (D E B B0 : Nat) (x y : Hold) (f p : Int) (ba : Option Addr) (bl bc : Nat) (b : List Int) (h : Pair w D E B x y) (hx : x.few 1000000) (hBD : B0 ≤ D) (hBE : B0 ≤ E) (hBw : B0 ≤ w.heap.size)
    (hb : IsB w ba bl b) (hbn : ba = none → bl = 0 ∧ bc = 0) (hble : bl ≤ bc) (hb5 : bl ≤ 25000) (hbo : ∀ a, bl ≠ 0 → ba = some a → a.block < B0) :
    Calls Try.prog 39 #[.pointer (some ⟨D, 0, none⟩), .int .i64 f, .int .i64 p, .slice ba bl bc] w (WPost w D E B B0 x y f p b) := by
  obtain ⟨hne, v0, s0, m0, v1, s1, m1, u0, t0, n0, u1, t1, n1, d, e, f01, f02, f03, f12, f13, f23⟩ := h
  obtain ⟨hx0, hx1, hx2, hx3⟩ := hx
  have hBB : B0 ≤ B := Nat.le_trans hBD (Nat.le_of_lt d.lt)
  have hd9 : w.cell? ⟨D, 9, none⟩ = some (.bool false) := cell_of_row w D 9 _ _ _ d.box
  obtain ⟨a0, c0, hv0⟩ := size_of d.f0
  obtain ⟨a1, c1, hv1⟩ := size_of d.f1
  have hd0 : w.cell? ⟨D, 0, none⟩ = some v0 := cell_of_row w D 0 _ _ _ d.box
  have hd3 : w.cell? ⟨D, 3, none⟩ = some v1 := cell_of_row w D 3 _ _ _ d.box
  have apart : ∀ {v m : Value} {zs : List Int} {L : List Lit}, FSt w B zs L v m → ∀ a, bl ≠ 0 → ba = some a → ¬ ofFile D v m a.block := fun hF a h1 h2 hS => by
    have := hbo a h1 h2
    rcases hS with e | e | e
    · omega
    · have := (own_at hF.own e).1; omega
    · rcases hF.mp with ⟨e0, _⟩ | ⟨M, e0, hbm, _⟩
      · rw [e] at e0; cases e0
      · rw [e] at e0; cases e0
        omega
  by_cases h0 : f = 0
  · subst h0
    by_cases hp : 0 ≤ p ∧ p ≤ (x.z0.length : Int)
    · obtain ⟨k, rfl⟩ : ∃ k : Nat, p = (k : Int) := ⟨p.toNat, by omega⟩
      refine (dwrite0_any w D B v0 s0 m0 v1 s1 m1 1073741824 x.z0 x.L0 x.z1 x.L1 k ba bl bc b d (by omega) hx0 hx1 hx2 (by omega) (by omega) hb hbn hble hb5 (apart d.f0)).mono ?_
      rintro e1 w' ⟨rfl, v', m', k1, k2, k3, k4, k5⟩
      have hpl : (k : Int) ≤ x.z0.length := hp.2
      have hl : b.length = bl := hb.1
      refine .inl ⟨⟨wrB x.z0 b k, x.L0 ++ secs k bl, x.z1, x.L1⟩, ?_, rfl, ⟨hne, v', s0, m', v1, s1, m1, u0, t0, n0, u1, t1, n1, ⟨k2, d.lt, Nat.le_trans d.le k3.size, k1, d.f1.stays d.box d.f0 k3 f01.symm⟩, ⟨box_stays d.box e.box (Ne.symm hne) d.f0 k3, e.lt, Nat.le_trans e.le k3.size, e.f0.stays d.box d.f0 k3 f02.symm, e.f1.stays d.box d.f0 k3 f03.symm⟩, (Far.turned d.f1 f01.symm k4 k5).symm, (Far.turned e.f0 f02.symm k4 k5).symm, (Far.turned e.f1 f03.symm k4 k5).symm, f12, f13, f23⟩, below_of_only d.f0 k3 hBD hBB hBw⟩
      unfold wrH
      rw [if_pos rfl, if_pos hp, Int.toNat_natCast, hl]
    · refine (dwrite_out w D 0 p a0 x.z0.length c0 ba bl bc (.inl ⟨rfl, by rw [hd0, hv0]⟩) hd9 (by omega)).mono ?_
      rintro e1 w' ⟨rfl, rfl⟩
      refine .inr ⟨?_, rfl, rfl⟩
      unfold wrH
      rw [if_pos rfl, if_neg hp]
  · by_cases h1 : f = 1
    · subst h1
      by_cases hp : 0 ≤ p ∧ p ≤ (x.z1.length : Int)
      · obtain ⟨k, rfl⟩ : ∃ k : Nat, p = (k : Int) := ⟨p.toNat, by omega⟩
        refine (dwrite1_any w D B v0 s0 m0 v1 s1 m1 1073741824 x.z0 x.L0 x.z1 x.L1 k ba bl bc b d (by omega) hx0 hx1 hx3 (by omega) (by omega) hb hbn hble hb5 (apart d.f1)).mono ?_
        rintro e1 w' ⟨rfl, v', m', k1, k2, k3, k4, k5⟩
        have hpl : (k : Int) ≤ x.z1.length := hp.2
        have hl : b.length = bl := hb.1
        refine .inl ⟨⟨x.z0, x.L0, wrB x.z1 b k, x.L1 ++ secs k bl⟩, ?_, rfl, ⟨hne, v0, s0, m0, v', s1, m', u0, t0, n0, u1, t1, n1, ⟨k2, d.lt, Nat.le_trans d.le k3.size, d.f0.stays d.box d.f1 k3 f01, k1⟩, ⟨box_stays d.box e.box (Ne.symm hne) d.f1 k3, e.lt, Nat.le_trans e.le k3.size, e.f0.stays d.box d.f1 k3 f12.symm, e.f1.stays d.box d.f1 k3 f13.symm⟩, Far.turned d.f0 f01 k4 k5, f02, f03, (Far.turned e.f0 f12.symm k4 k5).symm, (Far.turned e.f1 f13.symm k4 k5).symm, f23⟩, below_of_only d.f1 k3 hBD hBB hBw⟩
        unfold wrH
        rw [if_neg (by omega), if_pos rfl, if_pos hp, Int.toNat_natCast, hl]
      · refine (dwrite_out w D 1 p a1 x.z1.length c1 ba bl bc (.inr ⟨rfl, by rw [hd3, hv1]⟩) hd9 (by omega)).mono ?_
        rintro e1 w' ⟨rfl, rfl⟩
        refine .inr ⟨?_, rfl, rfl⟩
        unfold wrH
        rw [if_neg (by omega), if_pos rfl, if_neg hp]
    · refine (dwrite_nofile w D f p ba bl bc ⟨h0, h1⟩).mono ?_
      rintro e1 w' ⟨rfl, rfl⟩
      refine .inr ⟨?_, rfl, rfl⟩
      unfold wrH
      rw [if_neg h0, if_neg h1]

theorem Only.below {w w' : World} (h : Below w.heap.size w w') : Only (fun _ => False) w w' := ⟨h.os, h.tape, h.output, h.size, fun i hi _ => h.block i hi⟩
theorem FSt.below {w w' : World} {B : Nat} {zs : List Int} {L : List Lit} {v m : Value} (h : FSt w B zs L v m) (k : Below w.heap.size w w') : FSt w' B zs L v m := h.only (Only.below k) (fun _ _ => id) (fun _ _ => id)
theorem DSt.below {w w' : World} {D B : Nat} {v0 s0 m0 v1 s1 m1 : Value} {R : Int} {z0 z1 : List Int} {L0 L1 : List Lit} (h : DSt w D B v0 s0 m0 v1 s1 m1 R z0 L0 z1 L1) (k : Below w.heap.size w w') : DSt w' D B v0 s0 m0 v1 s1 m1 R z0 L0 z1 L1 :=
  ⟨(k.block D (Array.getElem?_eq_some_iff.1 h.box).1).trans h.box, h.lt, Nat.le_trans h.le k.size, h.f0.below k, h.f1.below k⟩
theorem Pair.below {w w' : World} {D E B : Nat} {x y : Hold} (h : Pair w D E B x y) (k : Below w.heap.size w w') : Pair w' D E B x y := by
  obtain ⟨hne, v0, s0, m0, v1, s1, m1, u0, t0, n0, u1, t1, n1, d, e, r⟩ := h
  exact ⟨hne, v0, s0, m0, v1, s1, m1, u0, t0, n0, u1, t1, n1, d.below k, e.below k, r⟩
theorem psize0 {w : World} {D E B : Nat} {x y : Hold} (h : Pair w D E B x y) : Calls Try.prog 40 #[.pointer (some ⟨D, 0, none⟩), .int .i64 0] w fun e w' => e = .returned (.int .i64 (x.z0.length : Int)) ∧ w' = w := by
  obtain ⟨hne, v0, s0, m0, v1, s1, m1, u0, t0, n0, u1, t1, n1, d, e, r⟩ := h
  obtain ⟨a0, c0, hv0⟩ := size_of d.f0
  exact size0 D a0 _ c0 w (by rw [cell_of_row w D 0 _ _ _ d.box]; simpa using hv0)
theorem psize1 {w : World} {D E B : Nat} {x y : Hold} (h : Pair w D E B x y) : Calls Try.prog 40 #[.pointer (some ⟨D, 0, none⟩), .int .i64 1] w fun e w' => e = .returned (.int .i64 (x.z1.length : Int)) ∧ w' = w := by
  obtain ⟨hne, v0, s0, m0, v1, s1, m1, u0, t0, n0, u1, t1, n1, d, e, r⟩ := h
  obtain ⟨a0, c0, hv0⟩ := size_of d.f1
  exact size1 D a0 _ c0 w (by rw [cell_of_row w D 3 _ _ _ d.box]; simpa using hv0)
/-- what a read of a whole file answers -/
def RPost (w : World) (zs : List Int) (e : Ending) (w' : World) : Prop := ∃ g l c, e = .returned (.tuple #[.slice g l c, .int .i64 0]) ∧ IsB w' g l zs ∧ (g = none → l = 0 ∧ c = 0) ∧ (∀ a, l ≠ 0 → g = some a → a.block < w'.heap.size) ∧ Below w.heap.size w w'
theorem pread0 {w : World} {D E B : Nat} {x y : Hold} (h : Pair w D E B x y) (hx : x.few 1000000) : Calls Try.prog 51 #[.pointer (some ⟨D, 0, none⟩), .int .i64 0, .int .i64 0, .int .i64 (x.z0.length : Int)] w (RPost w x.z0) := by
  obtain ⟨hne, v0, s0, m0, v1, s1, m1, u0, t0, n0, u1, t1, n1, d, e, r⟩ := h
  obtain ⟨a0, c0, rfl⟩ := size_of d.f0
  refine (dread0_any w D B a0 c0 x.z0 (cell_of_row w D 0 _ _ _ d.box) (cell_of_row w D 9 _ _ _ d.box) d.f0.own d.f0.rg hx.1).mono ?_
  rintro e1 w' ⟨v, rfl, ho, hb⟩
  obtain ⟨a, l, c, rfl, rfl, hI, hlo, hn, _⟩ := own_any ho d.f0.rg
  exact ⟨a, _, c, rfl, hI, hn, hlo, hb⟩
end Go.Proofs.Ytafhgilikcablaa
