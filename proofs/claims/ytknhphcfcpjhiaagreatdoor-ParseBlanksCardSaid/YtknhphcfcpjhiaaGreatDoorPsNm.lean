/- The package's reader of statements: must, mustSign, name, number. -/
import Derived.Test.YtknhphcfcpjhiaaGreatDoorVRecPure
import Derived.Test.YtknhphcfcpjhiaaGreatDoorTkFin
import Derived.Test.YtknhphcfcpjhiaaGreatDoorLxKey
namespace Go.Proofs.YtknhphcfcpjhiaaGreatDoor
open Go.RowKit
set_option linter.unusedVariables false
set_option linter.unusedSimpArgs false
set_option maxRecDepth 100000
/-- all but block N -/
structure RTo (N : Nat) (w w' : World) : Prop where
  below : Below N w w'
  block : ∀ i, i < w.heap.size → i ≠ N → w'.heap[i]? = w.heap[i]?
theorem RTo.refl (N : Nat) (w : World) : RTo N w w := ⟨Below.refl _ _, fun _ _ _ => rfl⟩
theorem RTo.trans {N : Nat} {a b c : World} (h : RTo N a b) (k : RTo N b c) : RTo N a c :=
  ⟨h.below.trans k.below, fun i hi hn => (k.block i (Nat.lt_of_lt_of_le hi h.below.size) hn).trans (h.block i hi hn)⟩
theorem RTo.of_below {N : Nat} {w w' : World} (h : Below w.heap.size w w') (hN : N ≤ w.heap.size) : RTo N w w' := ⟨h.mono hN, fun i hi _ => h.block i hi⟩
theorem RTo.setN {N : Nat} {a b : World} (h : RTo N a b) (j : Nat) (u : Value) : RTo N a (b.setCell ⟨N, j, none⟩ u) :=
  ⟨h.below.setCell (p := ⟨N, j, none⟩) (Nat.le_refl _) u, fun i hi hn => (heap_setCell_other b ⟨N, j, none⟩ i u hn).trans (h.block i hi hn)⟩
theorem RTo.drewN {N : Nat} {a b : World} (h : RTo N a b) (k : Nat) : RTo N a (b.drewN k) := ⟨⟨h.below.os, h.below.tape, h.below.output, h.below.size, h.below.block⟩, h.block⟩
theorem RTo.size {N : Nat} {w w' : World} (h : RTo N w w') : w.heap.size ≤ w'.heap.size := h.below.size
/-- a reader in block N -/
structure RdS (N : Nat) (w : World) (wa : Option Addr) (wn wc : Nat) (ws : List Wd) (s : PS) : Prop where
  rd : w.heap[N]? = some (.cells #[.slice wa wn wc, .int .i64 (s.1 : Int), .int .i64 s.2] 75 (0, 0))
  words : WsB N w wa wn ws
  pos : s.1 ≤ wn
  met : InR s.2
theorem RdS.low {N : Nat} {w : World} {wa : Option Addr} {wn wc : Nat} {ws : List Wd} {s : PS} (h : RdS N w wa wn wc ws s) : N < w.heap.size := (Array.getElem?_eq_some_iff.1 h.rd).1
theorem RdS.cells {N : Nat} {w : World} {wa : Option Addr} {wn wc : Nat} {ws : List Wd} {s : PS} (h : RdS N w wa wn wc ws s) :
    w.cell? ⟨N, 0, none⟩ = some (.slice wa wn wc) ∧ w.cell? ⟨N, 1, none⟩ = some (.int .i64 (s.1 : Int)) ∧ w.cell? ⟨N, 2, none⟩ = some (.int .i64 s.2) ∧ (∀ j, w.frozen? ⟨N, j, none⟩ = false) :=
  ⟨cell_of_row _ _ 0 _ _ _ h.rd, cell_of_row _ _ 1 _ _ _ h.rd, cell_of_row _ _ 2 _ _ _ h.rd, fun j => frozen_of_row _ _ j _ _ h.rd⟩
theorem RdS.below {N : Nat} {w w' : World} {wa : Option Addr} {wn wc : Nat} {ws : List Wd} {s : PS} (h : RdS N w wa wn wc ws s) (hb : Below w.heap.size w w') : RdS N w' wa wn wc ws s :=
  ⟨(hb.block _ h.low).trans h.rd, h.words.keep (hb.mono (Nat.le_of_lt h.low)), h.pos, h.met⟩
theorem RdS.drewN {N : Nat} {w : World} {wa : Option Addr} {wn wc : Nat} {ws : List Wd} {s : PS} (h : RdS N w wa wn wc ws s) (k : Nat) : RdS N (w.drewN k) wa wn wc ws s := h.below (drewT w k)
theorem RdS.adv {N : Nat} {w : World} {wa : Option Addr} {wn wc : Nat} {ws : List Wd} {s : PS} (h : RdS N w wa wn wc ws s) {p : Nat} (hp : p ≤ wn) (u : Int) (hu : u = (p : Int)) : RdS N (w.setCell ⟨N, 1, none⟩ (.int .i64 u)) wa wn wc ws (p, s.2) := by
  subst hu
  exact ⟨Go.heap_setCell_same w N 1 _ _ _ h.rd, h.words.keep ((RTo.refl N w).setN 1 _).below, hp, h.met⟩
theorem RdS.setMet {N : Nat} {w : World} {wa : Option Addr} {wn wc : Nat} {ws : List Wd} {s : PS} (h : RdS N w wa wn wc ws s) {e : Int} (he : InR e) : RdS N (w.setCell ⟨N, 2, none⟩ (.int .i64 e)) wa wn wc ws (s.1, e) :=
  ⟨Go.heap_setCell_same w N 2 _ _ _ h.rd, h.words.keep ((RTo.refl N w).setN 2 _).below, h.pos, he⟩
/-- what a call that answers v leaves -/
def PsR (N : Nat) (w : World) (wa : Option Addr) (wn wc : Nat) (ws : List Wd) (v : Value) (s : PS) (e : Ending) (w' : World) : Prop := e = .returned v ∧ RdS N w' wa wn wc ws s ∧ RTo N w w'
set_option maxHeartbeats 3200000 in
theorem fail_any (N : Nat) (w : World) (wa : Option Addr) (wn wc : Nat) (ws : List Wd) (s : PS) (h : RdS N w wa wn wc ws s) (e : Int) (he : InR e) :
    Calls Tryz.prog 21 #[.pointer (some ⟨N, 0, none⟩), .int .i64 e] w (PsR N w wa wn wc ws (.tuple #[]) (fl e s)) := by
  obtain ⟨c0, c1, c2, fz⟩ := h.cells
  have hN := h.low
  have HS := Lib.hid h
  have HE := Lib.hid he
  clear h he
  by_cases hm : s.2 = 0
  · have HF := Lib.hid (show fl e s = (s.1, e) by unfold fl; rw [if_pos hm])
    rw [hm] at c2
    go_enter Tryz.func21, Tryz.ntmps21
    go_wp2
    refine bodyPost_ret (results_none rfl _ _ _) rfl ?_
    rw [HF.out]
    exact ⟨rfl, HS.out.setMet HE.out, (RTo.refl N w).setN 2 _⟩
  · have HF := Lib.hid (show fl e s = s by unfold fl; rw [if_neg hm])
    have ht : (s.2 == 0) = false := by simp [hm]
    go_enter Tryz.func21, Tryz.ntmps21
    go_wp2
    refine bodyPost_ret (results_none rfl _ _ _) rfl ?_
    rw [HF.out]
    exact ⟨rfl, HS.out, RTo.refl N w⟩
set_option maxHeartbeats 6400000 in
theorem rtakes_any (kind : Int) (t : Bs) (N : Nat) (w : World) (wa : Option Addr) (wn wc : Nat) (ws : List Wd) (s : PS) (h : RdS N w wa wn wc ws s) :
    Calls Tryz.prog 61 #[.pointer (some ⟨N, 0, none⟩), .int .i64 kind, .string (bs t)] w (PsR N w wa wn wc ws (.bool (takeR ws kind t s).1) (takeR ws kind t s).2) := by
  obtain ⟨c0, c1, c2, fz⟩ := h.cells
  obtain ⟨hl, hn, hc⟩ := h.words
  have hN := h.low
  have HS := Lib.hid h
  have f0 := Fut.cell c0
  have f1 := Fut.cell c1
  have f2 := Fut.cell c2
  obtain ⟨tx, htx⟩ : ∃ tx, tx = bs t := ⟨_, rfl⟩
  have HTx := Lib.hid (show tx.toList = t by rw [htx, bs_list])
  rw [← htx]
  have hnot : tkS ws kind t s = false → takeR ws kind t s = (false, s) := fun h => by unfold takeR goS; rw [h]; simp
  clear htx fz
  by_cases hm : s.2 = 0
  rotate_left
  · have HR := Lib.hid (show takeR ws kind t s = (false, s) from hnot (by unfold tkS; rw [decide_eq_false hm]; rfl))
    have ht1 : (s.2 != 0) = true := by simp [hm]
    have ht0 : (s.2 == 0) = false := by simp [hm]
    clear hl hc h c0 c1 c2 hnot hm
    go_enter Tryz.func61, Tryz.ntmps61
    go_upto_region 1 with (fail)
    refine wp_region_fut (by kernel_rfl) (by kernel_rfl) ?_
    repeat (go_big_quiet_step (fail))
    refine wpQuiet_nil ?_
    rintro _ ⟨s2, rfl⟩
    have H2 := Lib.hid (HS.out.below s2.bel)
    have HT := Lib.hid (RTo.of_below s2.bel (Nat.le_of_lt hN))
    generalize s2.to = w2 at *
    clear s2 f0 f1 f2
    go_wp2
    go_ret
    rw [HR.out]
    exact ⟨rfl, H2.out, HT.out⟩
  have htk : tkS ws kind t s = isW ws s.1 kind t := by unfold tkS; rw [decide_eq_true hm, Bool.true_and]
  have ht1 : (s.2 != 0) = false := by simp [hm]
  have ht0 : (s.2 == 0) = true := by simp [hm]
  by_cases hp : s.1 < wn
  rotate_left
  · have he : s.1 = wn := by have := h.pos; omega
    have HR := Lib.hid (show takeR ws kind t s = (false, s) from hnot (by rw [htk]; unfold isW; rw [decide_eq_false (by omega)]; rfl))
    have ht2 : ((s.1 : Int) == (wn : Int)) = true := by simp [he]
    clear hl hc h c0 c1 c2 hnot htk
    go_enter Tryz.func61, Tryz.ntmps61
    go_upto_region 1 with (fail)
    refine wp_region_fut (by kernel_rfl) (by kernel_rfl) ?_
    repeat (go_big_quiet_step (fail))
    refine wpQuiet_nil ?_
    rintro _ ⟨s2, rfl⟩
    have H2 := Lib.hid (HS.out.below s2.bel)
    have HT := Lib.hid (RTo.of_below s2.bel (Nat.le_of_lt hN))
    generalize s2.to = w2 at *
    clear s2 f0 f1 f2
    go_wp2
    go_ret
    rw [HR.out]
    exact ⟨rfl, H2.out, HT.out⟩
  obtain ⟨b, off, rfl, hbN, hb, hw⟩ := hc.resolve_left (by omega)
  obtain ⟨q0, q1, -⟩ := hw s.1 hp
  have ht2 : ((s.1 : Int) == (wn : Int)) = false := by simp; omega
  have hp0 : (0 : Int) ≤ (s.1 : Int) := by omega
  have hp1 : (s.1 : Int) < (wn : Int) := by omega
  obtain ⟨k, hk⟩ : ∃ k, k = (wdAt ws s.1).1 := ⟨_, rfl⟩
  obtain ⟨x, hx⟩ : ∃ x, x = bs (wdAt ws s.1).2.1 := ⟨_, rfl⟩
  have HIs := Lib.hid (show takeR ws kind t s = if (k == kind && x.toList == tx.toList) = true then (true, (s.1 + 1, s.2)) else (false, s) by
    have e : isW ws s.1 kind t = (k == kind && x.toList == tx.toList) := by
      unfold isW
      rw [decide_eq_true (by omega), hk, hx, bs_list, HTx.out]; simp
    unfold takeR goS
    rw [htk, e]
    cases (k == kind && x.toList == tx.toList) <;> rfl)
  rw [← hk] at q0
  rw [← hx] at q1
  have g0 := Fut.cell q0
  have g1 := Fut.cell q1
  have HPn := Lib.hid hp
  clear hk hx hw hc hl h c0 c1 c2 q0 q1 hnot htk
  by_cases hkk : k = kind
  rotate_left
  · have ht3 : (k != kind) = true := by simp [hkk]
    have ht4 : (k == kind) = false := by simp [hkk]
    go_enter Tryz.func61, Tryz.ntmps61
    go_upto_region 1 with (fail)
    refine wp_region_fut (by kernel_rfl) (by kernel_rfl) ?_
    repeat (go_big_quiet_step (fail))
    refine wpQuiet_nil ?_
    rintro _ ⟨s2, rfl⟩
    have H2 := Lib.hid (HS.out.below s2.bel)
    have HT := Lib.hid (RTo.of_below s2.bel (Nat.le_of_lt hN))
    generalize s2.to = w2 at *
    clear s2 f0 f1 f2 g0 g1
    go_wp2
    go_ret
    rw [HIs.out, ht4]
    exact ⟨rfl, H2.out, HT.out⟩
  subst hkk
  by_cases htt : x.toList = tx.toList
  rotate_left
  · have ht5 : (x.toList != tx.toList) = true := by simp [htt]
    have ht6 : (x.toList == tx.toList) = false := by simp [htt]
    go_enter Tryz.func61, Tryz.ntmps61
    go_upto_region 1 with (fail)
    refine wp_region_fut (by kernel_rfl) (by kernel_rfl) ?_
    repeat (go_big_quiet_step (fail))
    refine wpQuiet_nil ?_
    rintro _ ⟨s2, rfl⟩
    have H2 := Lib.hid (HS.out.below s2.bel)
    have HT := Lib.hid (RTo.of_below s2.bel (Nat.le_of_lt hN))
    generalize s2.to = w2 at *
    clear s2 f0 f1 f2 g0 g1
    go_wp2
    go_ret
    rw [HIs.out, ht6, Bool.and_false]
    exact ⟨rfl, H2.out, HT.out⟩
  have ht5 : (x.toList != tx.toList) = false := by simp [htt]
  have ht6 : (x.toList == tx.toList) = true := by simp [htt]
  have hw1 : wrap64 ((s.1 : Int) + 1) = (s.1 : Int) + 1 := by unfold wrap64; omega
  have hw2 : IntKind.i64.wrap ((s.1 : Int) + 1) = (s.1 : Int) + 1 := by rw [IntKind.wrap_i64]; omega
  go_enter Tryz.func61, Tryz.ntmps61
  go_upto_region 1 with (fail)
  refine wp_region_fut (by kernel_rfl) (by kernel_rfl) ?_
  repeat (go_big_quiet_step (fail))
  refine wpQuiet_nil ?_
  rintro _ ⟨s2, rfl⟩
  have H2 := Lib.hid (HS.out.below s2.bel)
  have HT := Lib.hid (RTo.of_below s2.bel (Nat.le_of_lt hN))
  generalize s2.to = w2 at *
  clear s2 f0 f1 f2 g0 g1
  obtain ⟨c0, c1, c2, fz⟩ := H2.out.cells
  have hN2 := H2.out.low
  go_wp2
  go_ret
  rw [HIs.out, ht6]
  refine ⟨by simp, ?_, HT.out.setN 1 _⟩
  simp only [beq_self_eq_true, Bool.and_self, if_pos]
  exact H2.out.adv HPn.out _ (by omega)
theorem psign_any (t : Bs) (N : Nat) (w : World) (wa : Option Addr) (wn wc : Nat) (ws : List Wd) (s : PS) (h : RdS N w wa wn wc ws s) :
    Calls Tryz.prog 20 #[.pointer (some ⟨N, 0, none⟩), .string (bs t)] w (PsR N w wa wn wc ws (.bool (takeR ws 4 t s).1) (takeR ws 4 t s).2) := by
  have HC := Lib.hid (rtakes_any 4 t N w wa wn wc ws s h)
  clear h
  go_enter Tryz.func20, Tryz.ntmps20
  go_wp2_with fail
  refine HC.out.mono ?_
  rintro e w1 ⟨rfl, h1, h2⟩
  have HF := Lib.hid (And.intro h1 h2)
  clear h1 h2
  go_wp2
  go_ret
  exact ⟨rfl, HF.out.1, HF.out.2⟩
theorem pkeyword_any (t : Bs) (N : Nat) (w : World) (wa : Option Addr) (wn wc : Nat) (ws : List Wd) (s : PS) (h : RdS N w wa wn wc ws s) :
    Calls Tryz.prog 48 #[.pointer (some ⟨N, 0, none⟩), .string (bs t)] w (PsR N w wa wn wc ws (.bool (takeR ws 1 t s).1) (takeR ws 1 t s).2) := by
  have HC := Lib.hid (rtakes_any 1 t N w wa wn wc ws s h)
  clear h
  go_enter Tryz.func48, Tryz.ntmps48
  go_wp2_with fail
  refine HC.out.mono ?_
  rintro e w1 ⟨rfl, h1, h2⟩
  have HF := Lib.hid (And.intro h1 h2)
  clear h1 h2
  go_wp2
  go_ret
  exact ⟨rfl, HF.out.1, HF.out.2⟩
end Go.Proofs.YtknhphcfcpjhiaaGreatDoor
namespace Go.Proofs.YtknhphcfcpjhiaaGreatDoor
open Go.RowKit
set_option linter.unusedVariables false
set_option linter.unusedSimpArgs false
set_option maxRecDepth 100000
set_option maxHeartbeats 3200000 in
theorem mustSign_any (t : Bs) (N : Nat) (w : World) (wa : Option Addr) (wn wc : Nat) (ws : List Wd) (s : PS) (h : RdS N w wa wn wc ws s) :
    Calls Tryz.prog 104 #[.pointer (some ⟨N, 0, none⟩), .string (bs t)] w (PsR N w wa wn wc ws (.tuple #[]) (mustG ws t s)) := by
  have HC := Lib.hid (psign_any t N w wa wn wc ws s h)
  have HG := Lib.hid (show mustG ws t s = (if (takeR ws 4 t s).1 = true then (takeR ws 4 t s).2 else fl 3 (takeR ws 4 t s).2) by
    unfold mustG takeR
    dsimp only
    by_cases hk : tkS ws 4 t s = true
    · rw [if_pos hk, if_pos hk, hk]
    · rw [if_neg hk, if_neg hk, Bool.not_eq_true] at *
      rw [hk]; rfl)
  obtain ⟨r, hr⟩ : ∃ r, r = takeR ws 4 t s := ⟨_, rfl⟩
  rw [← hr] at HC HG
  obtain ⟨b, s1⟩ := r
  dsimp only at HC HG
  clear h hr
  go_enter Tryz.func104, Tryz.ntmps104
  go_wp2_with fail
  refine HC.out.mono ?_
  rintro e w1 ⟨rfl, h1, h2⟩
  have HS := Lib.hid h1
  have HT := Lib.hid h2
  clear h1 h2
  cases b with
  | true =>
    go_wp2
    refine bodyPost_ret (results_none rfl _ _ _) rfl ?_
    rw [HG.out]
    exact ⟨rfl, HS.out, HT.out⟩
  | false =>
    have HF := Lib.hid (fail_any N w1 wa wn wc ws s1 HS.out 3 (by unfold InR; omega))
    go_wp2_with fail
    refine HF.out.mono ?_
    rintro e w2 ⟨rfl, h1, h2⟩
    have HS2 := Lib.hid h1
    have HT2 := Lib.hid (HT.out.trans h2)
    clear h1 h2
    go_wp2
    refine bodyPost_ret (results_none rfl _ _ _) rfl ?_
    rw [HG.out]
    exact ⟨rfl, HS2.out, HT2.out⟩
/-- keywords in a row of memory -/
def KsAt (w : World) (N : Nat) (a : Option Addr) (ks : List Bs) : Prop :=
  ∃ b off, a = some ⟨b, off, none⟩ ∧ b ≠ N ∧ b < w.heap.size ∧ ∀ i (h : i < ks.length), w.cell? ⟨b, off + i, none⟩ = some (.string (bs ks[i]))
theorem KsAt.keep {w w' : World} {N : Nat} {a : Option Addr} {ks : List Bs} (h : KsAt w N a ks) (t : RTo N w w') : KsAt w' N a ks := by
  obtain ⟨b, off, h1, h2, h3, h4⟩ := h
  exact ⟨b, off, h1, h2, Nat.lt_of_lt_of_le h3 t.size, fun i hi => (World.cell?_of_block (t.block b h3 h2)).trans (h4 i hi)⟩
theorem mustK_take (ws : List Wd) (ks : List Bs) {k : Nat} (hk : k < ks.length) (s : PS) : mustK ws (ks.drop k) s = mustK ws (ks.drop (k + 1)) (if (takeR ws 1 ks[k] s).1 = true then (takeR ws 1 ks[k] s).2 else fl 3 (takeR ws 1 ks[k] s).2) := by
  rw [List.drop_eq_getElem_cons hk]
  show mustK ws _ (if tkS ws 1 ks[k] s = true then goS true s else fl 3 s) = _
  unfold takeR
  dsimp only
  by_cases h : tkS ws 1 ks[k] s = true
  · rw [if_pos h, if_pos h, h]
  · rw [if_neg h, if_neg h]
    rw [Bool.not_eq_true] at h
    rw [h]; rfl
set_option maxHeartbeats 6400000 in
theorem must_any (ks : List Bs) (h4 : ks.length ≤ 10) (N : Nat) (w : World) (wa : Option Addr) (wn wc : Nat) (ws : List Wd) (s : PS) (h : RdS N w wa wn wc ws s) (ka : Option Addr) (kc : Nat) (hk : KsAt w N ka ks) :
    Calls Tryz.prog 51 #[.pointer (some ⟨N, 0, none⟩), .slice ka ks.length kc] w (PsR N w wa wn wc ws (.tuple #[]) (mustK ws ks s)) := by
  have HS0 := Lib.hid h
  obtain ⟨b, off, hka, hbN, hbl, hcs⟩ := hk
  subst hka
  have HK := Lib.hid (show ∀ W, RTo N w W → ∀ i (h : i < ks.length), W.cell? ⟨b, off + i, none⟩ = some (.string (bs ks[i])) ∧ b < W.heap.size from fun W t i hi => ⟨(World.cell?_of_block (t.block b hbl hbN)).trans (hcs i hi), Nat.lt_of_lt_of_le hbl t.size⟩)
  obtain ⟨n, hn⟩ : ∃ n, n = ks.length := ⟨_, rfl⟩
  have HNl := Lib.hid hn
  rw [← hn] at h4 ⊢
  have HD := Lib.hid (show mustK ws (ks.drop 0) s = mustK ws ks s from rfl)
  clear hcs hbl hbN h hn
  go_enter Tryz.func51, Tryz.ntmps51
  go_wp2_with fail
  go_loopw [8] (fun i wr => ∃ (k : Nat) (s1 : PS), k ≤ n ∧ i = .int .i64 (k : Int) ∧ Hid (RdS N wr wa wn wc ws s1 ∧ RTo N w wr ∧ mustK ws (ks.drop k) s1 = mustK ws ks s)) (fun i _ => n - (intOf i).toNat)
  case atStart => exact ⟨0, s, by omega, rfl, Lib.hid ⟨HS0.out, RTo.refl _ _, HD.out⟩⟩
  case round =>
    obtain ⟨k, s1, hkn, rfl, HL⟩ := hrel
    by_cases hlt : k < n
    · have hki : (k : Int) < (n : Int) := by omega
      have hk0 : (0 : Int) ≤ (k : Int) := by omega
      have hkl : k < ks.length := by rw [← HNl.out]; exact hlt
      obtain ⟨q0, qN⟩ := HK.out wr HL.out.2.1 k hkl
      obtain ⟨kw, hkw⟩ : ∃ kw, kw = ks[k] := ⟨_, rfl⟩
      have HTk := Lib.hid (mustK_take ws ks hkl s1)
      have HKw := Lib.hid (pkeyword_any kw N wr wa wn wc ws s1 HL.out.1)
      rw [← hkw] at q0 HTk
      obtain ⟨r, hr⟩ : ∃ r, r = takeR ws 1 kw s1 := ⟨_, rfl⟩
      rw [← hr] at HKw HTk
      obtain ⟨tb, s2⟩ := r
      dsimp only at HKw HTk
      have HLt := Lib.hid hlt
      clear hkw hr hkl hlt hkn
      go_wp2_with fail
      refine HKw.out.mono ?_
      rintro e w2 ⟨rfl, h1, h2⟩
      have HS2 := Lib.hid h1
      have HT2 := Lib.hid (HL.out.2.1.trans h2)
      clear h1 h2 q0 qN
      cases tb with
      | true =>
        have HE := Lib.hid (show mustK ws (ks.drop (k + 1)) s2 = mustK ws ks s from HTk.out.symm.trans HL.out.2.2)
        go_wp2
        go_roundw
        case rel => first | exact ⟨k + 1, s2, HLt.out, by go_num, Lib.hid ⟨HS2.out, HT2.out, HE.out⟩⟩ | (repeat apply Exists.intro; refine ⟨?_, rfl⟩; exact ⟨k + 1, s2, HLt.out, by go_num, Lib.hid ⟨HS2.out, HT2.out, HE.out⟩⟩)
        case measure => have := HLt.out; simp [intOf]; omega
      | false =>
        have HF := Lib.hid (fail_any N w2 wa wn wc ws s2 HS2.out 3 (by unfold InR; omega))
        have HE := Lib.hid (show mustK ws (ks.drop (k + 1)) (fl 3 s2) = mustK ws ks s from HTk.out.symm.trans HL.out.2.2)
        go_wp2_with fail
        refine HF.out.mono ?_
        rintro e w3 ⟨rfl, h1, h2⟩
        have HS3 := Lib.hid h1
        have HT3 := Lib.hid (HT2.out.trans h2)
        clear h1 h2
        go_wp2
        go_roundw
        case rel => first | exact ⟨k + 1, fl 3 s2, HLt.out, by go_num, Lib.hid ⟨HS3.out, HT3.out, HE.out⟩⟩ | (repeat apply Exists.intro; refine ⟨?_, rfl⟩; exact ⟨k + 1, fl 3 s2, HLt.out, by go_num, Lib.hid ⟨HS3.out, HT3.out, HE.out⟩⟩)
        case measure => have := HLt.out; simp [intOf]; omega
    · have hkk : ¬ ((k : Int) < (n : Int)) := by omega
      have HE := Lib.hid (show s1 = mustK ws ks s by
        have := HL.out.2.2
        rw [List.drop_of_length_le (by rw [← HNl.out]; omega)] at this
        exact this)
      go_wp2
      refine bodyPost_ret (results_none rfl _ _ _) rfl ?_
      rw [← HE.out]
      exact ⟨rfl, HL.out.1, HL.out.2.1⟩
end Go.Proofs.YtknhphcfcpjhiaaGreatDoor
