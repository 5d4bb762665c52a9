/- One disk: writes, reads, what a crash keeps. -/
import Derived.Test.YtbcjhngpcodaoaaDkCz
import Derived.Test.YtbcjhngpcodaoaaDkPL
namespace Go.Proofs.Ytbcjhngpcodaoaa
open Go.RowKit Go.Maps
set_option linter.unusedVariables false
set_option maxRecDepth 100000

/-- a disk that was never synced -/
def OneD (w : World) (D B : Nat) (x : Hold) : Prop := ∃ v0 m0 v1 m1, DF w D B v0 (.slice none 0 0) m0 v1 (.slice none 0 0) m1 x.z0 [] x.L0 x.z1 [] x.L1
theorem OneD.draw {w : World} {D B : Nat} {x : Hold} (h : OneD w D B x) (n : Nat) : OneD (w.drewN n) D B x := by
  obtain ⟨v0, m0, v1, m1, h⟩ := h
  exact ⟨v0, m0, v1, m1, ⟨dst_draw h.d n, h.r0, h.r1, h.g0, h.g1, h.a1, h.a2, h.a3, h.a4, h.a5, h.a6, h.mm, h.k0, h.k1⟩⟩
theorem OneD.below {w w' : World} {D B : Nat} {x : Hold} (h : OneD w D B x) (hb : Below w.heap.size w w') : OneD w' D B x := by
  obtain ⟨v0, m0, v1, m1, h⟩ := h
  exact ⟨v0, m0, v1, m1, h.below hb⟩
theorem owrite_one (w : World) (D B B0 : Nat) (x : Hold) (f p : Int) (ba : Option Addr) (bl bc : Nat) (b : List Int) (h : OneD w D B x) (hx : x.few 1000000) (hBD : B0 ≤ D) (hBw : B0 ≤ w.heap.size)
    (hb : IsB w ba bl b) (hbn : ba = none → bl = 0 ∧ bc = 0) (hble : bl ≤ bc) (hb5 : bl ≤ 25000) (hbo : ∀ a, bl ≠ 0 → ba = some a → a.block < B0) :
    Calls Try.prog 23 #[.pointer (some ⟨D, 0, none⟩), .int .i64 f, .int .i64 p, .slice ba bl bc] w fun e w' => e = .returned (.int .i64 (wrC x f p b)) ∧ OneD w' D B (wrD x f p b) ∧ Below B0 w w' := by
  have hx' := hx
  obtain ⟨v0, m0, v1, m1, hd⟩ := h
  obtain ⟨hx0, hx1, hx2, hx3⟩ := hx
  have d := hd.d
  have hBB : B0 ≤ B := Nat.le_trans hBD (Nat.le_of_lt d.lt)
  have hd9 : w.cell? ⟨D, 9, none⟩ = some (.bool false) := cell_of_row w D 9 _ _ _ d.box
  obtain ⟨a0, c0, hv0⟩ := size_of d.f0
  obtain ⟨a1, c1, hv1⟩ := size_of d.f1
  have hd0 : w.cell? ⟨D, 0, none⟩ = some v0 := cell_of_row w D 0 _ _ _ d.box
  have hd3 : w.cell? ⟨D, 3, none⟩ = some v1 := cell_of_row w D 3 _ _ _ d.box
  have hl : b.length = bl := hb.1
  have apart : ∀ {v m : Value} {zs : List Int} {L : List Lit}, FSt w B zs L v m → ∀ a, bl ≠ 0 → ba = some a → ¬ ofFile D v m a.block := fun hF a h1 h2 hS => by
    have := hbo a h1 h2
    rcases hS with e | e | e
    · omega
    · have := (own_at hF.own e).1; omega
    · rcases hF.mp with ⟨e0, _⟩ | ⟨M, e0, hbm, _⟩
      · rw [e] at e0; cases e0
      · rw [e] at e0; cases e0
        omega
  unfold wrC wrD
  by_cases h0 : f = 0
  · subst h0
    by_cases hp : 0 ≤ p ∧ p ≤ (x.z0.length : Int)
    · obtain ⟨k, rfl⟩ : ∃ k : Nat, p = (k : Int) := ⟨p.toNat, by omega⟩
      have e1 : wrH x 0 k b = some ⟨wrB x.z0 b k, x.L0 ++ secs k bl, x.z1, x.L1⟩ := by
        unfold wrH
        rw [if_pos rfl, if_pos hp, Int.toNat_natCast, hl]
      refine (dwrite0_any w D B v0 _ m0 v1 _ m1 1073741824 x.z0 x.L0 x.z1 x.L1 k ba bl bc b d (by omega) hx0 hx1 hx2 (by omega) (by omega) hb hbn hble hb5 (apart d.f0)).mono ?_
      rintro e w' ⟨rfl, hp'⟩
      obtain ⟨v', m', h2, h3, _, _⟩ := hd.wrote0 (hd.k0.app (secs_secK (by omega))) hp'
      rw [e1]
      exact ⟨rfl, ⟨v', m', v1, m1, h2⟩, below_of_only d.f0 h3 hBD hBB hBw⟩
    · have e1 : wrH x 0 p b = none := by
        unfold wrH
        rw [if_pos rfl, if_neg hp]
      refine (dwrite_out w D 0 p a0 x.z0.length c0 ba bl bc (.inl ⟨rfl, by rw [hd0, hv0]⟩) hd9 (by omega)).mono ?_
      rintro e w' ⟨rfl, rfl⟩
      rw [e1]
      exact ⟨rfl, ⟨v0, m0, v1, m1, hd⟩, Below.refl _ _⟩
  · by_cases h1 : f = 1
    · subst h1
      by_cases hp : 0 ≤ p ∧ p ≤ (x.z1.length : Int)
      · obtain ⟨k, rfl⟩ : ∃ k : Nat, p = (k : Int) := ⟨p.toNat, by omega⟩
        have e1 : wrH x 1 k b = some ⟨x.z0, x.L0, wrB x.z1 b k, x.L1 ++ secs k bl⟩ := by
          unfold wrH
          rw [if_neg (by omega), if_pos rfl, if_pos hp, Int.toNat_natCast, hl]
        refine (dwrite1_any w D B v0 _ m0 v1 _ m1 1073741824 x.z0 x.L0 x.z1 x.L1 k ba bl bc b d (by omega) hx0 hx1 hx3 (by omega) (by omega) hb hbn hble hb5 (apart d.f1)).mono ?_
        rintro e w' ⟨rfl, hp'⟩
        obtain ⟨v', m', h2, h3⟩ := hd.wrote1 (hd.k1.app (secs_secK (by omega))) hp'
        rw [e1]
        exact ⟨rfl, ⟨v0, m0, v', m', h2⟩, below_of_only d.f1 h3 hBD hBB hBw⟩
      · have e1 : wrH x 1 p b = none := by
          unfold wrH
          rw [if_neg (by omega), if_pos rfl, if_neg hp]
        refine (dwrite_out w D 1 p a1 x.z1.length c1 ba bl bc (.inr ⟨rfl, by rw [hd3, hv1]⟩) hd9 (by omega)).mono ?_
        rintro e w' ⟨rfl, rfl⟩
        rw [e1]
        exact ⟨rfl, ⟨v0, m0, v1, m1, hd⟩, Below.refl _ _⟩
    · have e1 : wrH x f p b = none := by
        unfold wrH
        rw [if_neg h0, if_neg h1]
      refine (dwrite_nofile w D f p ba bl bc ⟨h0, h1⟩).mono ?_
      rintro e w' ⟨rfl, rfl⟩
      rw [e1]
      exact ⟨rfl, ⟨v0, m0, v1, m1, hd⟩, Below.refl _ _⟩
theorem one_new (w : World) : OneD (w.alloc (.cells #[.slice none 0 0, .slice none 0 0, .map none, .slice none 0 0, .slice none 0 0, .map none, .int .i64 1073741824, .bool false, .int .i64 0, .bool false] 151)) w.heap.size (w.heap.size + 1) ⟨[], [], [], []⟩ := by
  have nn : ∀ v, Ap (.slice none 0 0) v := fun v g h => (by cases h)
  refine ⟨_, _, _, _, ⟨⟨Go.heap_alloc_new w _, by omega, by simp, ⟨World.ownsRow_nil _ _ _ _, by simp, .inl ⟨rfl, rfl⟩⟩, ⟨World.ownsRow_nil _ _ _ _, by simp, .inl ⟨rfl, rfl⟩⟩⟩, World.ownsRow_nil _ _ _ _, World.ownsRow_nil _ _ _ _, by simp, by simp, nn _, nn _, nn _, nn _, nn _, nn _, fun g h => (by cases h), fun k hk => (by cases hk), fun k hk => (by cases hk)⟩⟩

/-- what is read lies in a new row -/
def RPostN (w : World) (zs : List Int) (e : Ending) (w' : World) : Prop := ∃ g l c, e = .returned (.tuple #[.slice g l c, .int .i64 0]) ∧ IsB w' g l zs ∧ (g = none → l = 0 ∧ c = 0) ∧ (∀ a, l ≠ 0 → g = some a → a.block < w'.heap.size) ∧ (∀ a, g = some a → w.heap.size ≤ a.block) ∧ l ≤ c ∧ Below w.heap.size w w'
set_option maxHeartbeats 1600000 in
/-- the first n bytes of a file are read -/
theorem dread_n (w : World) (D : Nat) (f : Int) (a0 : Option Addr) (c0 n : Nat) (zs : List Int) (hf : f = 0 ∧ w.cell? ⟨D, 0, none⟩ = some (.slice a0 zs.length c0) ∨ f = 1 ∧ w.cell? ⟨D, 3, none⟩ = some (.slice a0 zs.length c0)) (hdn : w.cell? ⟨D, 9, none⟩ = some (.bool false))
    {B : Nat} (ho : w.ownsRow B 5 1 (.slice a0 zs.length c0) zs.length (zs.map (Value.int .u8))) (hr : ∀ z ∈ zs, 0 ≤ z ∧ z ≤ 255) (hl : zs.length ≤ 1000000) (hn : n ≤ zs.length) :
    Calls Try.prog 24 #[.pointer (some ⟨D, 0, none⟩), .int .i64 f, .int .i64 0, .int .i64 (n : Int)] w (RPostN w (zs.take n)) := by
  obtain ⟨a, L, c, he, hL, hI, hlo, hni, hle, _⟩ := own_any ho hr
  cases he
  have HI := Lib.hid (isB_take hI hn)
  have HN := Lib.hid (show a0 = none → n = 0 ∧ c0 = 0 from fun h => ⟨by have := (hni h).1; omega, (hni h).2⟩)
  have HRg := Lib.hid (show ∀ z ∈ zs.take n, 0 ≤ z ∧ z ≤ 255 from fun z hz => hr z (List.mem_of_mem_take hz))
  have HLt := Lib.hid (show (zs.take n).length = n by rw [List.length_take]; omega)
  have hsl : ∀ W, (Instr.slice 26 (.slice a0 zs.length c0) (some (.int .i64 0)) (some (.int .i64 (n : Int))) none).run Try.prog W = .ok (.slice a0 n c0) W := fun W => by
    have := slice_lh a0 zs.length c0 0 n (Nat.zero_le _) (by omega) .i64 .i64 W
    have e : offA a0 c0 0 = a0 := by
      unfold offA
      split
      · rfl
      · cases a0 with
        | none => rfl
        | some x => simp [Addr.add]
    rw [e] at this
    simpa using this
  have hni : (n : Int) ≤ (zs.length : Int) := by omega
  have hnb : (n : Int) ≤ 1000000 := by omega
  have hn0 : (0 : Int) ≤ (n : Int) := by omega
  have H9 := Lib.hid hdn
  clear ho hI hlo hr hn
  rcases hf with ⟨rfl, hd⟩ | ⟨rfl, hd⟩
  · go_enter Try.func24, Try.ntmps24
    go_wp2_with fail
    refine (ready_ok D 0 (.inl rfl) _ H9.out).mono ?_
    rintro e w1 ⟨rfl, hw⟩
    subst hw
    go_wp2_with (at_builtin; refine wpList_slice rfl (.const (.slice none 0 0)) (.tmp 50) rfl w1.heap.size (.slice none 0 0) [] a0 n c0 (zs.take n) rfl rfl (World.ownsRow_nil _ _ _ _) HI.out HN.out (by show 0 + n ≤ _; omega) (Nat.le_refl _) ?_)
    intro v w2 hown hgr
    have HO := Lib.hid (show w2.ownsRow w1.heap.size 5 1 v (zs.take n).length ((zs.take n).map (Value.int .u8)) by simpa using hown)
    have HB := Lib.hid (grown_belowB hgr (Nat.le_refl _) (fun k hk => by cases hk))
    obtain ⟨a2, L2, c2, rfl⟩ := own_slice HO.out
    clear hown hgr
    go_wp2
    go_ret2
    obtain ⟨a, l, c, e1, rfl, k1, k2, k3, k4, k5⟩ := own_any HO.out HRg.out
    rw [e1]
    exact ⟨a, _, c, rfl, k1, k3, k2, k5, k4, HB.out⟩
  · go_enter Try.func24, Try.ntmps24
    go_wp2_with fail
    refine (ready_ok D 1 (.inr rfl) _ H9.out).mono ?_
    rintro e w1 ⟨rfl, hw⟩
    subst hw
    go_wp2_with (at_builtin; refine wpList_slice rfl (.const (.slice none 0 0)) (.tmp 50) rfl w1.heap.size (.slice none 0 0) [] a0 n c0 (zs.take n) rfl rfl (World.ownsRow_nil _ _ _ _) HI.out HN.out (by show 0 + n ≤ _; omega) (Nat.le_refl _) ?_)
    intro v w2 hown hgr
    have HO := Lib.hid (show w2.ownsRow w1.heap.size 5 1 v (zs.take n).length ((zs.take n).map (Value.int .u8)) by simpa using hown)
    have HB := Lib.hid (grown_belowB hgr (Nat.le_refl _) (fun k hk => by cases hk))
    obtain ⟨a2, L2, c2, rfl⟩ := own_slice HO.out
    clear hown hgr
    go_wp2
    go_ret2
    obtain ⟨a, l, c, e1, rfl, k1, k2, k3, k4, k5⟩ := own_any HO.out HRg.out
    rw [e1]
    exact ⟨a, _, c, rfl, k1, k3, k2, k5, k4, HB.out⟩
end Go.Proofs.Ytbcjhngpcodaoaa
