/- The package's taker: column. -/
import Derived.Test.YtpinalpigefenaaGreatDoorTkCol
namespace Go.Proofs.YtpinalpigefenaaGreatDoor
open Go.RowKit
set_option linter.unusedVariables false
set_option linter.unusedSimpArgs false
set_option maxRecDepth 100000
theorem nameP_size {nm : ByteArray → Bool} {ws : List Wd} {s : Tk} (hz : ∀ i, (wdAt ws i).2.1.length ≤ 140737488355328) : (nameP nm ws s).1.size ≤ maxLen := by
  unfold nameP maxLen
  split
  · have := hz s.pos
    simp [bs, ByteArray.size]; omega
  · exact Nat.zero_le _
theorem erg_col {t c : ByteArray} (ht : t.size ≤ maxLen) (hc : c.size ≤ maxLen) : ERg (.mk 2 ⟨#[]⟩ 0 0 ⟨#[]⟩ t c []) none 0 :=
  ⟨rfl, rfl, rfl, Nat.zero_le _, Nat.zero_le _, ht, hc, fun _ => ⟨rfl, rfl⟩, Nat.le_refl _, by unfold maxLen; omega⟩
/-- the blocks a function may meet: the old ones, and those made behind its own boxes -/
def Bx (A : Nat → Prop) (H H1 : Nat) (b : Nat) : Prop := (A b ∧ b < H) ∨ H1 ≤ b
theorem Bx.sub {A : Nat → Prop} {H H1 : Nat} (h : H ≤ H1) : ∀ b, Bx A H H1 b → Aft A H b := fun b hb => hb.elim (fun h => .inl h.1) (fun hb => .inr (Nat.le_trans h hb))
theorem Bx.aft {A : Nat → Prop} {H H1 H2 : Nat} (h : H1 ≤ H2) : ∀ b, Aft (Bx A H H1) H2 b → Bx A H H1 b := fun b hb => hb.elim id (fun hb => .inr (Nat.le_trans h hb))
theorem TSt.enter {A : Nat → Prop} {N : Nat} {w : World} {wa : Option Addr} {wn wc : Nat} {ws : List Wd} {v : Value} {s : Tk} {ms : List PM} (h : TSt A N w wa wn wc ws v s ms) (H1 : Nat) : TSt (Bx A w.heap.size H1) N w wa wn wc ws v s ms := h.mono (fun b hb hlt => .inl ⟨hb, hlt⟩)
theorem own_blkT {A : Nat → Prop} {N : Nat} {w : World} {wa : Option Addr} {wn wc : Nat} {ws : List Wd} {v : Value} {s : Tk} {ms : List PM} (h : TSt A N w wa wn wc ws v s ms) {i : Nat} (hi : w.heap.size ≤ i) : v.ownBlock ≠ some i := fun e => absurd (h.own.lt _ e).2 (Nat.not_lt.2 hi)
/-- a block of the function's own, behind the taker's calls -/
theorem TTo.box {A : Nat → Prop} {N : Nat} {w w1 W : World} {wa : Option Addr} {wn wc : Nat} {ws : List Wd} {v v' : Value} {s : Tk} {ms : List PM} (h : TSt A N w wa wn wc ws v s ms) (t : TTo N v v' w1 W) {R : Nat} (hR : w.heap.size ≤ R) (hR1 : R < w1.heap.size) : W.heap[R]? = w1.heap[R]? :=
  t.block R hR1 (by have := h.low; omega) (own_blkT h hR)
theorem el_fresh {A B : Nat → Prop} {N H H1 : Nat} {w w' : World} {wa : Option Addr} {wn wc : Nat} {ws : List Wd} {v : Value} {s : Tk} {ms : List PM} (h : TSt B N w wa wn wc ws v s ms) {a : Option Addr} {l : List ET} (hel : EL w' (fun b => False ∨ w.heap.size ≤ b) a l) (hH : H1 ≤ w.heap.size) : EL w' (TQ (Bx A H H1) N v) a l :=
  hel.mono (fun b hb _ => by
    have hb : w.heap.size ≤ b := hb.elim (fun h => h.elim) id
    exact ⟨.inr (Nat.le_trans hH hb), by have := h.low; omega, own_blkT h hb⟩)
set_option maxHeartbeats 12800000 in
theorem column_any (A : Nat → Prop) (N : Nat) (w : World) (wa : Option Addr) (wn wc : Nat) (ws : List Wd) (v : Value) (s : Tk) (ms : List PM) (h : TSt A N w wa wn wc ws v s ms) (hz : ∀ i, (wdAt ws i).2.1.length ≤ 140737488355328) :
    Calls Tryz.prog 336 #[.pointer (some ⟨N, 0, none⟩)] w (PartP A N w wa wn wc ws v (colP nmB ws s)) := by
  have HZ := Lib.hid hz
  have H0 := Lib.hid h
  have hlow := h.low
  have hB1 := bel0 (.cells #[.int .i64 0, .string ⟨#[]⟩, .int .i64 0, .int .i64 0, .string ⟨#[]⟩, .string ⟨#[]⟩, .string ⟨#[]⟩, .slice none 0 0, .int .i64 0, .int .i64 0] 183) (Below.refl w.heap.size w)
  have HX := Lib.hid (Go.heap_alloc_new w (.cells #[.int .i64 0, .string ⟨#[]⟩, .int .i64 0, .int .i64 0, .string ⟨#[]⟩, .string ⟨#[]⟩, .string ⟨#[]⟩, .slice none 0 0, .int .i64 0, .int .i64 0] 183 (0, 0)))
  have HSz := Lib.hid (show (w.alloc (.cells #[.int .i64 0, .string ⟨#[]⟩, .int .i64 0, .int .i64 0, .string ⟨#[]⟩, .string ⟨#[]⟩, .string ⟨#[]⟩, .slice none 0 0, .int .i64 0, .int .i64 0] 183)).heap.size = w.heap.size + 1 by simp)
  clear h hz
  go_enter Tryz.func336, Tryz.ntmps336
  go_upto_region 1 with (fail)
  generalize (w.alloc (.cells #[.int .i64 0, .string ⟨#[]⟩, .int .i64 0, .int .i64 0, .string ⟨#[]⟩, .string ⟨#[]⟩, .string ⟨#[]⟩, .slice none 0 0, .int .i64 0, .int .i64 0] 183)) = w1 at *
  have HT1 := Lib.hid (TTo.of_below (v := v) hB1 (Nat.le_of_lt hlow))
  have HS1 := Lib.hid ((H0.out.enter w1.heap.size).below hB1)
  have HBX := Lib.hid (show ∀ (W : World) (v' : Value), TTo N v v' w1 W → W.heap[w.heap.size]? = some (.cells #[.int .i64 0, .string ⟨#[]⟩, .int .i64 0, .int .i64 0, .string ⟨#[]⟩, .string ⟨#[]⟩, .string ⟨#[]⟩, .slice none 0 0, .int .i64 0, .int .i64 0] 183 (0, 0)) from fun W v' t => (TTo.box H0.out t (Nat.le_refl _) (by have := HSz.out; omega)).trans HX.out)
  have HnB := Lib.hid (show ¬ Bx A w.heap.size w1.heap.size w.heap.size from fun hb => hb.elim (fun h => Nat.lt_irrefl _ h.2) (fun h => by have := HSz.out; omega))
  have HSub := Lib.hid (Bx.sub (A := A) (H := w.heap.size) (H1 := w1.heap.size) (by have := HSz.out; omega))
  have HLow := Lib.hid hlow
  have HSg := Lib.hid (fun (W : World) (s' : Tk) (hs : TSt (Bx A w.heap.size w1.heap.size) N W wa wn wc ws v s' ms) => sign_any [46] (Bx A w.heap.size w1.heap.size) N W wa wn wc ws v s' ms hs)
  clear hB1 hlow
  go_wp2_with fail
  refine (takerName_any _ N _ wa wn wc ws v s ms HS1.out HZ.out).mono ?_
  rintro e w2 ⟨rfl, hs2, ht2⟩
  have HN1 := Lib.hid (nameP_size (nm := nmB) (s := s) HZ.out)
  have HC := Lib.hid (show colP nmB ws s = (if (nameP nmB ws s).2.1 = false then (zPt, false, (nameP nmB ws s).2.2) else if isW ws (nameP nmB ws s).2.2.pos 4 [46] = true then (buildP 2 ⟨#[]⟩ 0 0 ⟨#[]⟩ (nameP nmB ws s).1 (nameP nmB ws (adv (nameP nmB ws s).2.2)).1 8 [], (nameP nmB ws (adv (nameP nmB ws s).2.2)).2.1, (nameP nmB ws (adv (nameP nmB ws s).2.2)).2.2) else (buildP 2 ⟨#[]⟩ 0 0 ⟨#[]⟩ ⟨#[]⟩ (nameP nmB ws s).1 8 [], true, (nameP nmB ws s).2.2)) from rfl)
  obtain ⟨n1, hn1⟩ : ∃ n1, n1 = nameP nmB ws s := ⟨_, rfl⟩
  rw [← hn1] at HN1 HC hs2 ⊢
  have HS2 := Lib.hid hs2
  have HT2 := Lib.hid ht2
  clear hs2 ht2 hn1
  obtain ⟨a, ok, s1⟩ := n1
  dsimp only at HN1 HC HS2 ⊢
  cases ok with
  | false =>
    have HQ := Lib.hid (show colP nmB ws s = (zPt, false, s1) by rw [HC.out]; simp)
    have hR := HBX.out w2 v HT2.out
    obtain ⟨r0, r1, r2, r3, r4, r5, r6, r7, r8, r9, rz, rN⟩ := row10 hR
    have HFin := Lib.hid (part_done HS2.out hR HLow.out HnB.out (HT1.out.trans HT2.out) (Nat.le_refl _) HSub.out zPt none 0 prg_zero (.nil none))
    clear hR
    go_wp2
    refine bodyPost_ret (results_pt2 rfl _ _ w.heap.size _ _ _ _ _ _ _ _ _ _ rfl HFin.out.1) rfl ?_
    rw [HQ.out]
    exact ⟨_, v, ms, rfl, HFin.out.2.1, HFin.out.2.2.1, HFin.out.2.2.2⟩
  | true =>
    go_wp2_with fail
    refine (HSg.out _ s1 HS2.out).mono ?_
    rintro e w3 ⟨rfl, hs3, ht3⟩
    have HS3 := Lib.hid hs3
    have HT3 := Lib.hid (HT2.out.trans ht3)
    obtain ⟨sg, hsg⟩ : ∃ sg, sg = isW ws s1.pos 4 [46] := ⟨_, rfl⟩
    rw [← hsg] at HS3 HC ⊢
    clear hs3 ht3 hsg
    cases sg with
    | false =>
      have HS3 := Lib.hid (show TSt (Bx A w.heap.size w1.heap.size) N w3 wa wn wc ws v s1 ms from HS3.out)
      have HQ := Lib.hid (show colP nmB ws s = (buildP 2 ⟨#[]⟩ 0 0 ⟨#[]⟩ ⟨#[]⟩ a 8 [], true, s1) by rw [HC.out]; simp)
      go_wp2_with fail
      refine (build_any 2 ⟨#[]⟩ 0 0 ⟨#[]⟩ ⟨#[]⟩ a 8 [] (erg_col (by unfold maxLen; decide) HN1.out) (by unfold InR; omega) _ (fun _ => False) none 0 0 (psAt_nil _ _) (by simp)).mono ?_
      rintro e w4 ⟨pv, rfl, ⟨sa, sc, rfl, hrg, hel⟩, hb4⟩
      obtain ⟨p, hp⟩ : ∃ p, p = buildP 2 ⟨#[]⟩ 0 0 ⟨#[]⟩ ⟨#[]⟩ a 8 [] := ⟨_, rfl⟩
      rw [← hp] at hrg hel HQ
      rw [← hp, ptX_arr]
      have HT4 := Lib.hid (HT3.out.trans (.of_below hb4 (Nat.le_of_lt HS3.out.low)))
      have hR := HBX.out w4 v HT4.out
      obtain ⟨r0, r1, r2, r3, r4, r5, r6, r7, r8, r9, rz, rN⟩ := row10 hR
      have HFin := Lib.hid (part_done (HS3.out.below hb4) hR HLow.out HnB.out (HT1.out.trans HT4.out) (Nat.le_refl _) HSub.out p sa sc hrg (el_fresh HS3.out hel HT3.out.below.size))
      clear hR hrg hel hb4 hp
      go_wp2
      refine bodyPost_ret (results_pt2 rfl _ _ w.heap.size _ _ _ _ _ _ _ _ _ _ rfl HFin.out.1) rfl ?_
      rw [HQ.out]
      exact ⟨_, v, ms, rfl, HFin.out.2.1, HFin.out.2.2.1, HFin.out.2.2.2⟩
    | true =>
      have HS3 := Lib.hid (show TSt (Bx A w.heap.size w1.heap.size) N w3 wa wn wc ws v (adv s1) ms from HS3.out)
      go_wp2_with fail
      refine (takerName_any _ N _ wa wn wc ws v (adv s1) ms HS3.out HZ.out).mono ?_
      rintro e w4 ⟨rfl, hs4, ht4⟩
      have HN2 := Lib.hid (nameP_size (nm := nmB) (s := adv s1) HZ.out)
      have HQ := Lib.hid (show colP nmB ws s = (buildP 2 ⟨#[]⟩ 0 0 ⟨#[]⟩ a (nameP nmB ws (adv s1)).1 8 [], (nameP nmB ws (adv s1)).2.1, (nameP nmB ws (adv s1)).2.2) by rw [HC.out]; simp)
      obtain ⟨n2, hn2⟩ : ∃ n2, n2 = nameP nmB ws (adv s1) := ⟨_, rfl⟩
      rw [← hn2] at HN2 HQ hs4 ⊢
      have HS4 := Lib.hid hs4
      have HT4 := Lib.hid (HT3.out.trans ht4)
      clear hs4 ht4 hn2
      obtain ⟨c, ok2, s2⟩ := n2
      dsimp only at HN2 HQ HS4 ⊢
      go_wp2_with fail
      refine (build_any 2 ⟨#[]⟩ 0 0 ⟨#[]⟩ a c 8 [] (erg_col HN1.out HN2.out) (by unfold InR; omega) _ (fun _ => False) none 0 0 (psAt_nil _ _) (by simp)).mono ?_
      rintro e w5 ⟨pv, rfl, ⟨sa, sc, rfl, hrg, hel⟩, hb5⟩
      obtain ⟨p, hp⟩ : ∃ p, p = buildP 2 ⟨#[]⟩ 0 0 ⟨#[]⟩ a c 8 [] := ⟨_, rfl⟩
      rw [← hp] at hrg hel HQ
      rw [← hp, ptX_arr]
      have HT5 := Lib.hid (HT4.out.trans (.of_below hb5 (Nat.le_of_lt HS4.out.low)))
      have hR := HBX.out w5 v HT5.out
      obtain ⟨r0, r1, r2, r3, r4, r5, r6, r7, r8, r9, rz, rN⟩ := row10 hR
      have HFin := Lib.hid (part_done (HS4.out.below hb5) hR HLow.out HnB.out (HT1.out.trans HT5.out) (Nat.le_refl _) HSub.out p sa sc hrg (el_fresh HS4.out hel HT4.out.below.size))
      clear hR hrg hel hb5 hp
      go_wp2
      refine bodyPost_ret (results_pt2 rfl _ _ w.heap.size _ _ _ _ _ _ _ _ _ _ rfl HFin.out.1) rfl ?_
      rw [HQ.out]
      exact ⟨_, v, ms, rfl, HFin.out.2.1, HFin.out.2.2.1, HFin.out.2.2.2⟩
end Go.Proofs.YtpinalpigefenaaGreatDoor
