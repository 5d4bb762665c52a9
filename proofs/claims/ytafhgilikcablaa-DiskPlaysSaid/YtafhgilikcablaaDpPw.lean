/- The program's disk in any state: Write, Sync, Truncate. -/
import Derived.Test.YtafhgilikcablaaDpP
import Derived.Test.YtafhgilikcablaaDpGo
import Derived.Test.YtafhgilikcablaaDkW1
namespace Go.Proofs.Ytafhgilikcablaa
open Go.RowKit Go.Maps
set_option linter.unusedVariables false
set_option maxRecDepth 100000

theorem PC.d9 {w : World} {D B : Nat} {v0 s0 m0 v1 s1 m1 : Value} {a : DA} (h : PC w D B v0 s0 m0 v1 s1 m1 a) : w.cell? ⟨D, 9, none⟩ = some (.bool a.down) := cell_of_row w D 9 _ _ _ h.box
theorem PC.d0 {w : World} {D B : Nat} {v0 s0 m0 v1 s1 m1 : Value} {a : DA} (h : PC w D B v0 s0 m0 v1 s1 m1 a) : w.cell? ⟨D, 0, none⟩ = some v0 := cell_of_row w D 0 _ _ _ h.box
theorem PC.d3 {w : World} {D B : Nat} {v0 s0 m0 v1 s1 m1 : Value} {a : DA} (h : PC w D B v0 s0 m0 v1 s1 m1 a) : w.cell? ⟨D, 3, none⟩ = some v1 := cell_of_row w D 3 _ _ _ h.box
theorem PC.box9 {w w' : World} {D B : Nat} {v0 s0 m0 v1 s1 m1 : Value} {a : DA} (h : PC w D B v0 s0 m0 v1 s1 m1 a) (n : Nat) : PPost w D B v0 s0 m0 v1 s1 m1 a.gone ((w.drewN n).setCell ⟨D, 9, none⟩ (.bool true)) := by
  have hb : (w.drewN n).heap[D]? = some (.cells (pCs v0 s0 m0 v1 s1 m1 a) 94 (0, 0)) := h.box
  have hx := Go.heap_setCell_same (w.drewN n) D 9 _ _ (.bool true) hb
  have kd : Only (fun i => i = D) w (w.drewN n) := ⟨rfl, rfl, rfl, Nat.le_refl _, fun _ _ _ => rfl⟩
  have k : Only (fun i => i = D) w ((w.drewN n).setCell ⟨D, 9, none⟩ (.bool true)) := kd.set (S := fun i => i = D) rfl _
  exact (h.scal (a' := a.gone) rfl rfl hx k).same (a := a) k
theorem PC.drew {w : World} {D B : Nat} {v0 s0 m0 v1 s1 m1 : Value} {a : DA} (h : PC w D B v0 s0 m0 v1 s1 m1 a) (n : Nat) : PPost w D B v0 s0 m0 v1 s1 m1 a (w.drewN n) := by
  have k : Only (fun i => i = D) w (w.drewN n) := ⟨rfl, rfl, rfl, Nat.le_refl _, fun _ _ _ => rfl⟩
  exact (h.scal (w' := w.drewN n) (a' := a) rfl rfl h.box k).same (a := a) k
theorem PC.stay {w : World} {D B : Nat} {v0 s0 m0 v1 s1 m1 : Value} {a : DA} (h : PC w D B v0 s0 m0 v1 s1 m1 a) : PPost w D B v0 s0 m0 v1 s1 m1 a w := h.same (a := a) (Only.refl _ _)
/-- a change that is done -/
theorem PC.ticked {w wc : World} {D B : Nat} {v0 s0 m0 v1 s1 m1 : Value} {a : DA} (h : PC w D B v0 s0 m0 v1 s1 m1 a) (hc : ChP w D (pCs v0 s0 m0 v1 s1 m1 a) 94 a.tick.fu wc) : PC wc D B v0 s0 m0 v1 s1 m1 a.tick ∧ Only (fun i => i = D) w wc :=
  ⟨h.scal (a' := a.tick) rfl rfl hc.1 hc.2, hc.2⟩
theorem DA.Wf.passes {a : DA} (h : a.Wf) (hp : a.pow = true) : Passes a.armed a.fu a.tick.fu := by
  cases ha : a.armed with
  | false => exact .inl ⟨rfl, by unfold DA.tick; simp [ha]⟩
  | true =>
    have := h.arm ha
    unfold DA.pow at hp
    rw [ha] at hp
    simp at hp
    exact .inr ⟨rfl, by omega, by omega, by unfold DA.tick; simp [ha]⟩
theorem DA.gone_is {a : DA} (hp : a.pow = false) : a.armed = true ∧ a.fu = 0 := by
  unfold DA.pow at hp
  cases ha : a.armed with
  | false => rw [ha] at hp; simp at hp
  | true => rw [ha] at hp; simp at hp; exact ⟨rfl, hp⟩
theorem FA.Wf.secK {a : FA} (h : a.Wf) {n : Nat} (hn : a.zs.length ≤ n) (h6 : n ≤ 1000000) : SecK a.L := fun k hk => by
  obtain ⟨s, rfl, hs⟩ := h.sec k hk
  exact ⟨s, by omega, rfl⟩
theorem FA.Wf.hu {a : FA} (h : a.Wf) : ∀ i, i < a.ys.length → i < a.zs.length → sk (i / 64) ∉ a.L → a.ys.getD i 0 = a.zs.getD i 0 := fun i _ h2 h3 => (h.un i h2 h3).2
theorem PC.apart {w : World} {D B : Nat} {v0 s0 m0 v1 s1 m1 : Value} {a : DA} : (∀ i, ofFile D v0 m0 i → pS D v0 s0 m0 v1 s1 m1 i) ∧ (∀ i, ofFile D v1 m1 i → pS D v0 s0 m0 v1 s1 m1 i) :=
  ⟨fun i hi => hi.elim .inl (fun h => h.elim (fun h => .inr (.inl h)) (fun h => .inr (.inr (.inr (.inl h))))), fun i hi => hi.elim .inl (fun h => h.elim (fun h => .inr (.inr (.inr (.inr (.inl h))))) (fun h => .inr (.inr (.inr (.inr (.inr (.inr h)))))))⟩
theorem pcs_tick (v0 s0 m0 v1 s1 m1 : Value) (a : DA) : (pCs v0 s0 m0 v1 s1 m1 a).setIfInBounds 8 (.int .i64 a.tick.fu) = pCs v0 s0 m0 v1 s1 m1 a.tick := rfl

theorem pw_any (w : World) (D B : Nat) (v0 s0 m0 v1 s1 m1 : Value) (a : DA) (f p : Int) (ba : Option Addr) (bl bc : Nat) (b : List Int) (h : PC w D B v0 s0 m0 v1 s1 m1 a) (hW : a.Wf) (hf : a.few 1000000)
    (hb : IsB w ba bl b) (hbn : ba = none → bl = 0 ∧ bc = 0) (hble : bl ≤ bc) (hb5 : bl ≤ 25000) (hbo : ∀ x, bl ≠ 0 → ba = some x → ¬ pS D v0 s0 m0 v1 s1 m1 x.block) :
    Calls Try.prog 39 #[.pointer (some ⟨D, 0, none⟩), .int .i64 f, .int .i64 p, .slice ba bl bc] w fun e w' => e = .returned (.int .i64 (a.write f p b).1) ∧ PPost w D B v0 s0 m0 v1 s1 m1 (a.write f p b).2 w' := by
  obtain ⟨hf0, hl0, hf1, hl1⟩ := hf
  have hl : b.length = bl := hb.1
  obtain ⟨va0, vc0, hv0⟩ := size_of h.f0
  obtain ⟨va1, vc1, hv1⟩ := size_of h.f1
  by_cases hff : f ≠ 0 ∧ f ≠ 1
  · have e1 : a.write f p b = (1, a) := by unfold DA.write; rw [if_pos hff]
    refine (pwrite_nofile w D f p ba bl bc hff).mono ?_
    rintro e w' ⟨rfl, rfl⟩
    rw [e1]; exact ⟨rfl, h.stay⟩
  have hff' : f = 0 ∨ f = 1 := by omega
  by_cases hd : a.down = true
  · have e1 : a.write f p b = (16, a) := by unfold DA.write; rw [if_neg hff, if_pos hd]
    refine (pwrite_down w D f p ba bl bc hff' (by rw [h.d9, hd])).mono ?_
    rintro e w' ⟨rfl, rfl⟩
    rw [e1]; exact ⟨rfl, h.stay⟩
  have hd' : a.down = false := by simpa using hd
  have d9 : w.cell? ⟨D, 9, none⟩ = some (.bool false) := by rw [h.d9, hd']
  have h9 : (pCs v0 s0 m0 v1 s1 m1 a)[9]? = some (.bool false) := by show some (Value.bool a.down) = _; rw [hd']
  by_cases ho : p < 0 ∨ (a.size f : Int) < p
  · have e1 : a.write f p b = (1, a) := by unfold DA.write; rw [if_neg hff, if_neg hd, if_pos ho]
    rcases hff' with rfl | rfl
    · refine (dwrite_out w D 0 p va0 a.f0.zs.length vc0 ba bl bc (.inl ⟨rfl, by rw [h.d0, hv0]⟩) d9 ho).mono ?_
      rintro e w' ⟨rfl, rfl⟩
      rw [e1]; exact ⟨rfl, h.stay⟩
    · refine (dwrite_out w D 1 p va1 a.f1.zs.length vc1 ba bl bc (.inr ⟨rfl, by rw [h.d3, hv1]⟩) d9 ho).mono ?_
      rintro e w' ⟨rfl, rfl⟩
      rw [e1]; exact ⟨rfl, h.stay⟩
  obtain ⟨k, rfl⟩ : ∃ k : Nat, p = (k : Int) := ⟨p.toNat, by omega⟩
  have hks : k ≤ a.size f := by omega
  by_cases hfu : a.full f (k : Int) b.length
  · have e1 : a.write f (k : Int) b = (15, a) := by unfold DA.write; rw [if_neg hff, if_neg hd, if_neg ho, if_pos hfu]
    rcases hff' with rfl | rfl
    · refine (pfull0 w D B _ _ a.R a.f0.zs b va0 vc0 va1 a.f1.zs.length vc1 k ba bl bc h.box rfl h9 (by rw [← hv0]; rfl) (by rw [← hv1]; rfl) hks hf0 hf1 hb5 ?_).mono ?_
      · obtain ⟨q1, q2⟩ := hfu
        rw [hl] at q1 q2
        exact ⟨by show a.f0.zs.length < _; have : ((a.f0.zs.length : Nat) : Int) < (k : Int) + (bl : Int) := q1; omega, q2⟩
      rintro e w' ⟨rfl, n, rfl⟩
      rw [e1]; exact ⟨rfl, h.drew n⟩
    · refine (pfull1 w D B _ _ a.R a.f1.zs b va1 vc1 va0 a.f0.zs.length vc0 k ba bl bc h.box rfl h9 (by rw [← hv1]; rfl) (by rw [← hv0]; rfl) hks hf1 hf0 hb5 ?_).mono ?_
      · obtain ⟨q1, q2⟩ := hfu
        rw [hl] at q1 q2
        exact ⟨by show a.f1.zs.length < _; have : ((a.f1.zs.length : Nat) : Int) < (k : Int) + (bl : Int) := q1; omega, q2⟩
      rintro e w' ⟨rfl, n, rfl⟩
      rw [e1]; exact ⟨rfl, h.drew n⟩
  have hnf : k + bl ≤ a.size f ∨ (k : Int) + (bl : Int) + (a.size (1 - f) : Int) ≤ a.R := by
    unfold DA.full at hfu
    rw [hl] at hfu
    omega
  by_cases hp : a.pow = false
  · have e1 : a.write f (k : Int) b = (16, a.gone) := by unfold DA.write; rw [if_neg hff, if_neg hd, if_neg ho, if_neg hfu, if_pos hp]
    obtain ⟨g1, g2⟩ := DA.gone_is hp
    have h7 : (pCs v0 s0 m0 v1 s1 m1 a)[7]? = some (.bool true) := by show some (Value.bool a.armed) = _; rw [g1]
    have h8 : (pCs v0 s0 m0 v1 s1 m1 a)[8]? = some (.int .i64 0) := by show some (Value.int .i64 a.fu) = _; rw [g2]
    rcases hff' with rfl | rfl
    · refine (pwgone0 w D B _ _ a.R a.f0.zs b va0 vc0 va1 a.f1.zs.length vc1 k ba bl bc h.box rfl h9 (by rw [← hv0]; rfl) (by rw [← hv1]; rfl) hks hf0 hf1 hb5 hnf h7 h8).mono ?_
      rintro e w' ⟨rfl, n, rfl⟩
      rw [e1]; exact ⟨rfl, h.box9 (w' := w) n⟩
    · refine (pwgone1 w D B _ _ a.R a.f1.zs b va1 vc1 va0 a.f0.zs.length vc0 k ba bl bc h.box rfl h9 (by rw [← hv1]; rfl) (by rw [← hv0]; rfl) hks hf1 hf0 hb5 hnf h7 h8).mono ?_
      rintro e w' ⟨rfl, n, rfl⟩
      rw [e1]; exact ⟨rfl, h.box9 (w' := w) n⟩
  have hp' : a.pow = true := by simpa using hp
  have e1 : a.write f (k : Int) b = (0, a.tick.put f ((a.on f).write b k)) := by unfold DA.write; rw [if_neg hff, if_neg hd, if_neg ho, if_neg hfu, if_neg hp, Int.toNat_natCast]
  rcases hff' with rfl | rfl
  · refine (pwrite0 w D B _ _ a.R a.f0.zs b va0 vc0 va1 a.f1.zs.length vc1 k ba bl bc h.box rfl h9 (by rw [← hv0]; rfl) (by rw [← hv1]; rfl) hks hf0 hf1 hb5 hnf a.f0.L m0 a.armed a.fu a.tick.fu (hW.passes hp') rfl rfl rfl h.lt h.le (by rw [← hv0]; exact h.f0) hl0 hb hbn hble (by rw [← hv0]; exact fun x h1 h2 h3 => hbo x h1 h2 ((PC.apart (w := w) (B := B) (a := a)).1 _ h3))).mono ?_
    rintro e w' ⟨rfl, wc, hc, hp2⟩
    obtain ⟨t1, t2⟩ := h.ticked hc
    rw [e1]
    refine ⟨rfl, PPost.from t2 ?_⟩
    rw [pcs_tick, ← hv0] at hp2
    have := t1.wrote0 hp2
    rw [← hl] at this
    exact this
  · refine (pwrite1 w D B _ _ a.R a.f1.zs b va1 vc1 va0 a.f0.zs.length vc0 k ba bl bc h.box rfl h9 (by rw [← hv1]; rfl) (by rw [← hv0]; rfl) hks hf1 hf0 hb5 hnf a.f1.L m1 a.armed a.fu a.tick.fu (hW.passes hp') rfl rfl rfl h.lt h.le (by rw [← hv1]; exact h.f1) hl1 hb hbn hble (by rw [← hv1]; exact fun x h1 h2 h3 => hbo x h1 h2 ((PC.apart (w := w) (B := B) (a := a)).2 _ h3))).mono ?_
    rintro e w' ⟨rfl, wc, hc, hp2⟩
    obtain ⟨t1, t2⟩ := h.ticked hc
    rw [e1]
    refine ⟨rfl, PPost.from t2 ?_⟩
    rw [pcs_tick, ← hv1] at hp2
    have := t1.wrote1 hp2
    rw [← hl] at this
    exact this
theorem psync_any (w : World) (D B : Nat) (v0 s0 m0 v1 s1 m1 : Value) (a : DA) (f : Int) (h : PC w D B v0 s0 m0 v1 s1 m1 a) (hW : a.Wf) (hf : a.few 1000000) :
    Calls Try.prog 43 #[.pointer (some ⟨D, 0, none⟩), .int .i64 f] w fun e w' => e = .returned (.int .i64 (a.sync f).1) ∧ PPost w D B v0 s0 m0 v1 s1 m1 (a.sync f).2 w' := by
  obtain ⟨hf0, hl0, hf1, hl1⟩ := hf
  by_cases hff : f ≠ 0 ∧ f ≠ 1
  · have e1 : a.sync f = (1, a) := by unfold DA.sync; rw [if_pos hff]
    refine (psync_nofile w D f hff).mono ?_
    rintro e w' ⟨rfl, rfl⟩
    rw [e1]; exact ⟨rfl, h.stay⟩
  have hff' : f = 0 ∨ f = 1 := by omega
  by_cases hd : a.down = true
  · have e1 : a.sync f = (16, a) := by unfold DA.sync; rw [if_neg hff, if_pos hd]
    refine (psync_down w D f hff' (by rw [h.d9, hd])).mono ?_
    rintro e w' ⟨rfl, rfl⟩
    rw [e1]; exact ⟨rfl, h.stay⟩
  have hd' : a.down = false := by simpa using hd
  have h9 : (pCs v0 s0 m0 v1 s1 m1 a)[9]? = some (.bool false) := by show some (Value.bool a.down) = _; rw [hd']
  by_cases hp : a.pow = false
  · have e1 : a.sync f = (16, a.gone) := by unfold DA.sync; rw [if_neg hff, if_neg hd, if_pos hp]
    obtain ⟨g1, g2⟩ := DA.gone_is hp
    have h7 : (pCs v0 s0 m0 v1 s1 m1 a)[7]? = some (.bool true) := by show some (Value.bool a.armed) = _; rw [g1]
    have h8 : (pCs v0 s0 m0 v1 s1 m1 a)[8]? = some (.int .i64 0) := by show some (Value.int .i64 a.fu) = _; rw [g2]
    rcases hff' with rfl | rfl
    · refine (psync_gone0 w D _ _ h.box h7 h8 h9).mono ?_
      rintro e w' ⟨rfl, rfl⟩
      rw [e1]; exact ⟨rfl, h.box9 (w' := w) 0⟩
    · refine (psync_gone1 w D _ _ h.box h7 h8 h9).mono ?_
      rintro e w' ⟨rfl, rfl⟩
      rw [e1]; exact ⟨rfl, h.box9 (w' := w) 0⟩
  have hp' : a.pow = true := by simpa using hp
  have e1 : a.sync f = (0, a.tick.put f (a.on f).sync) := by unfold DA.sync; rw [if_neg hff, if_neg hd, if_neg hp]
  rcases hff' with rfl | rfl
  · refine (psync0 w D B _ _ a.f0.zs a.f0.ys a.f0.L v0 s0 m0 a.armed a.fu a.tick.fu (hW.passes hp') h.box rfl rfl h9 rfl rfl rfl h.lt h.le h.f0 h.r0 h.a1 hW.w0.hu hf0 (hW.w0.secK hf0 (Nat.le_refl _))).mono ?_
    rintro e w' ⟨rfl, wc, hc, hp2⟩
    obtain ⟨t1, t2⟩ := h.ticked hc
    rw [e1]
    refine ⟨rfl, PPost.from t2 ?_⟩
    rw [pcs_tick] at hp2
    exact t1.settled0 (v := v0) (x := a.f0.sync) rfl rfl (Only.refl _ _) t1.f0.own t1.f0.rg hp2
  · refine (psync1 w D B _ _ a.f1.zs a.f1.ys a.f1.L v1 s1 m1 a.armed a.fu a.tick.fu (hW.passes hp') h.box rfl rfl h9 rfl rfl rfl h.lt h.le h.f1 h.r1 h.a6 hW.w1.hu hf1 (hW.w1.secK hf1 (Nat.le_refl _))).mono ?_
    rintro e w' ⟨rfl, wc, hc, hp2⟩
    obtain ⟨t1, t2⟩ := h.ticked hc
    rw [e1]
    refine ⟨rfl, PPost.from t2 ?_⟩
    rw [pcs_tick] at hp2
    exact t1.settled1 (v := v1) (x := a.f1.sync) rfl rfl (Only.refl _ _) t1.f1.own t1.f1.rg hp2
theorem pcut_any (w : World) (D B : Nat) (v0 s0 m0 v1 s1 m1 : Value) (a : DA) (f p : Int) (h : PC w D B v0 s0 m0 v1 s1 m1 a) (hW : a.Wf) (hf : a.few 1000000) :
    Calls Try.prog 45 #[.pointer (some ⟨D, 0, none⟩), .int .i64 f, .int .i64 p] w fun e w' => e = .returned (.int .i64 (a.cut f p).1) ∧ PPost w D B v0 s0 m0 v1 s1 m1 (a.cut f p).2 w' := by
  obtain ⟨hf0, hl0, hf1, hl1⟩ := hf
  obtain ⟨va0, vc0, hv0⟩ := size_of h.f0
  obtain ⟨va1, vc1, hv1⟩ := size_of h.f1
  by_cases hff : f ≠ 0 ∧ f ≠ 1
  · have e1 : a.cut f p = (1, a) := by unfold DA.cut; rw [if_pos hff]
    refine (ptruncate_nofile w D f p hff).mono ?_
    rintro e w' ⟨rfl, rfl⟩
    rw [e1]; exact ⟨rfl, h.stay⟩
  have hff' : f = 0 ∨ f = 1 := by omega
  by_cases hd : a.down = true
  · have e1 : a.cut f p = (16, a) := by unfold DA.cut; rw [if_neg hff, if_pos hd]
    refine (ptruncate_down w D f p hff' (by rw [h.d9, hd])).mono ?_
    rintro e w' ⟨rfl, rfl⟩
    rw [e1]; exact ⟨rfl, h.stay⟩
  have hd' : a.down = false := by simpa using hd
  have d9 : w.cell? ⟨D, 9, none⟩ = some (.bool false) := by rw [h.d9, hd']
  have h9 : (pCs v0 s0 m0 v1 s1 m1 a)[9]? = some (.bool false) := by show some (Value.bool a.down) = _; rw [hd']
  by_cases ho : p < 0 ∨ (a.size f : Int) < p
  · have e1 : a.cut f p = (1, a) := by unfold DA.cut; rw [if_neg hff, if_neg hd, if_pos ho]
    rcases hff' with rfl | rfl
    · refine (ptrunc_out0 w D va0 a.f0.zs.length vc0 p ho (by rw [h.d0, hv0]) d9).mono ?_
      rintro e w' ⟨rfl, rfl⟩
      rw [e1]; exact ⟨rfl, h.stay⟩
    · refine (ptrunc_out1 w D va1 a.f1.zs.length vc1 p ho (by rw [h.d3, hv1]) d9).mono ?_
      rintro e w' ⟨rfl, rfl⟩
      rw [e1]; exact ⟨rfl, h.stay⟩
  obtain ⟨k, rfl⟩ : ∃ k : Nat, p = (k : Int) := ⟨p.toNat, by omega⟩
  have hks : k ≤ a.size f := by omega
  by_cases hp : a.pow = false
  · have e1 : a.cut f (k : Int) = (16, a.gone) := by unfold DA.cut; rw [if_neg hff, if_neg hd, if_neg ho, if_pos hp]
    obtain ⟨g1, g2⟩ := DA.gone_is hp
    have h7 : (pCs v0 s0 m0 v1 s1 m1 a)[7]? = some (.bool true) := by show some (Value.bool a.armed) = _; rw [g1]
    have h8 : (pCs v0 s0 m0 v1 s1 m1 a)[8]? = some (.int .i64 0) := by show some (Value.int .i64 a.fu) = _; rw [g2]
    rcases hff' with rfl | rfl
    · refine (ptrunc_gone0 w D _ _ va0 a.f0.zs.length vc0 k hks (by rw [← hv0]; rfl) h.box h7 h8 h9).mono ?_
      rintro e w' ⟨rfl, rfl⟩
      rw [e1]; exact ⟨rfl, h.box9 (w' := w) 0⟩
    · refine (ptrunc_gone1 w D _ _ va1 a.f1.zs.length vc1 k hks (by rw [← hv1]; rfl) h.box h7 h8 h9).mono ?_
      rintro e w' ⟨rfl, rfl⟩
      rw [e1]; exact ⟨rfl, h.box9 (w' := w) 0⟩
  have hp' : a.pow = true := by simpa using hp
  have e1 : a.cut f (k : Int) = (0, a.tick.put f ((a.on f).cut k)) := by unfold DA.cut; rw [if_neg hff, if_neg hd, if_neg ho, if_neg hp, Int.toNat_natCast]
  rcases hff' with rfl | rfl
  · have hk0 : k ≤ a.f0.zs.length := hks
    refine (ptrunc0 w D B _ _ a.f0.zs a.f0.ys a.f0.L va0 vc0 k s0 m0 a.armed a.fu a.tick.fu hks (hW.passes hp') h.box rfl rfl h9 (by rw [← hv0]; rfl) rfl rfl h.lt h.le (by rw [← hv0]; exact h.f0) h.r0 (by rw [← hv0]; exact h.a1) hW.w0.hu hf0 (hW.w0.secK hf0 (Nat.le_refl _))).mono ?_
    rintro e w' ⟨rfl, wd, q1, q2, q3⟩
    rw [e1]
    refine ⟨rfl, ?_⟩
    have hob : (Value.slice va0 k vc0).ownBlock = v0.ownBlock := by rw [hv0]; cases va0 <;> rfl
    have hfo : FSt w B (a.f0.zs.take k) a.f0.L (.slice va0 k vc0) m0 := FSt.cut (by rw [← hv0]; exact h.f0) hks
    have t1 : PC w D B v0 s0 m0 v1 s1 m1 { a with fu := a.fu } := h
    have hd2 : ∀ {g : Nat}, B ≤ g → ¬ g = D := fun hg e => by have := h.lt; omega
    have hown := own_only hfo.own q2 (fun g hg => hd2 (own_lt hfo.own hg).1)
    have hlt : (a.f0.zs.take k).length = k := by rw [List.length_take]; omega
    rw [pcs_tick] at q1 q3
    -- the disk behind the change, its row not cut yet
    have tk : PC w D B v0 s0 m0 v1 s1 m1 a := h
    exact PC.cut0 h q1 q2 hob hown (fun z hz => hfo.rg z hz) q3
  · have hk0 : k ≤ a.f1.zs.length := hks
    refine (ptrunc1 w D B _ _ a.f1.zs a.f1.ys a.f1.L va1 vc1 k s1 m1 a.armed a.fu a.tick.fu hks (hW.passes hp') h.box rfl rfl h9 (by rw [← hv1]; rfl) rfl rfl h.lt h.le (by rw [← hv1]; exact h.f1) h.r1 (by rw [← hv1]; exact h.a6) hW.w1.hu hf1 (hW.w1.secK hf1 (Nat.le_refl _))).mono ?_
    rintro e w' ⟨rfl, wd, q1, q2, q3⟩
    rw [e1]
    refine ⟨rfl, ?_⟩
    have hob : (Value.slice va1 k vc1).ownBlock = v1.ownBlock := by rw [hv1]; cases va1 <;> rfl
    have hfo : FSt w B (a.f1.zs.take k) a.f1.L (.slice va1 k vc1) m1 := FSt.cut (by rw [← hv1]; exact h.f1) hks
    have hd2 : ∀ {g : Nat}, B ≤ g → ¬ g = D := fun hg e => by have := h.lt; omega
    have hown := own_only hfo.own q2 (fun g hg => hd2 (own_lt hfo.own hg).1)
    rw [pcs_tick] at q1 q3
    exact PC.cut1 h q1 q2 hob hown (fun z hz => hfo.rg z hz) q3
end Go.Proofs.Ytafhgilikcablaa
