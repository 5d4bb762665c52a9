/- The package's taker: takes, sign, keyword. -/
import Derived.Test.YtafhgilikcablaaGreatDoorTkSt
namespace Go.Proofs.YtafhgilikcablaaGreatDoor
open Go.RowKit
set_option linter.unusedVariables false
set_option linter.unusedSimpArgs false
set_option maxRecDepth 100000
theorem bs_list (t : Bs) : (bs t).toList = t := by rw [ByteArray.toList_eq]; simp [bs]
def TakesP (A : Nat → Prop) (N : Nat) (w : World) (wa : Option Addr) (wn wc : Nat) (ws : List Wd) (v : Value) (s : Tk) (ms : List PM) (b : Bool) (e : Ending) (w' : World) : Prop :=
  e = .returned (.bool b) ∧ TSt A N w' wa wn wc ws v (if b = true then adv s else s) ms ∧ TTo N v v w w'
theorem drewT (w : World) (k : Nat) : Below w.heap.size w (w.drewN k) := ⟨rfl, rfl, rfl, Nat.le_refl _, fun _ _ => rfl⟩
theorem cellN {w : World} {p : Addr} {u : Value} (h : w.cell? p = some u) : ∀ k, (w.drewN k).cell? p = some u := fun k => h
theorem TSt.drewN {A : Nat → Prop} {N : Nat} {w : World} {wa : Option Addr} {wn wc : Nat} {ws : List Wd} {v : Value} {s : Tk} {ms : List PM} (h : TSt A N w wa wn wc ws v s ms) (k : Nat) : TSt A N (w.drewN k) wa wn wc ws v s ms := h.below (drewT w k)
theorem TTo.drewN {N : Nat} {v v' : Value} {a b : World} (h : TTo N v v' a b) (k : Nat) : TTo N v v' a (b.drewN k) := ⟨⟨h.below.os, h.below.tape, h.below.output, h.below.size, h.below.block⟩, h.block, h.own⟩
set_option maxHeartbeats 3200000 in
theorem takes_any (kind : Int) (t : Bs) (A : Nat → Prop) (N : Nat) (w : World) (wa : Option Addr) (wn wc : Nat) (ws : List Wd) (v : Value) (s : Tk) (ms : List PM) (h : TSt A N w wa wn wc ws v s ms) :
    Calls Tryz.prog 83 #[.pointer (some ⟨N, 0, none⟩), .int .i64 kind, .string (bs t)] w (TakesP A N w wa wn wc ws v s ms (isW ws s.pos kind t)) := by
  obtain ⟨c0, c1, -, -, fz⟩ := h.cells
  obtain ⟨hl, hn, hc⟩ := h.words
  have hN := h.low
  have HS := Lib.hid h
  have f0 := cellN c0
  have f1 := cellN c1
  obtain ⟨tx, htx⟩ : ∃ tx, tx = bs t := ⟨_, rfl⟩
  have HTx := Lib.hid (show tx.toList = t by rw [htx, bs_list])
  rw [← htx]
  clear htx fz
  by_cases hp : s.pos < wn
  rotate_left
  · have he : s.pos = wn := by have := h.pos; omega
    have HR := Lib.hid (show isW ws s.pos kind t = false by unfold isW; rw [decide_eq_false (by omega)]; rfl)
    have ht1 : ((s.pos : Int) == (wn : Int)) = true := by simp [he]
    clear hl hc h c0 c1
    go_enter Tryz.func83, Tryz.ntmps83
    go_upto_region 1 with (fail)
    go_quiet (fail)
    go_wp2
    go_ret
    rw [HR.out]
    exact ⟨rfl, HS.out.drewN nq, (TTo.refl _ _ _).drewN nq⟩
  obtain ⟨b, off, rfl, hbN, hb, hw⟩ := hc.resolve_left (by omega)
  obtain ⟨q0, q1, -⟩ := hw s.pos hp
  have ht1 : ((s.pos : Int) == (wn : Int)) = false := by simp; omega
  have hp0 : (0 : Int) ≤ (s.pos : Int) := by omega
  have hp1 : (s.pos : Int) < (wn : Int) := by omega
  obtain ⟨k, hk⟩ : ∃ k, k = (wdAt ws s.pos).1 := ⟨_, rfl⟩
  obtain ⟨x, hx⟩ : ∃ x, x = bs (wdAt ws s.pos).2.1 := ⟨_, rfl⟩
  have HIs := Lib.hid (show isW ws s.pos kind t = (k == kind && x.toList == tx.toList) by
    unfold isW
    rw [decide_eq_true (by omega), hk, hx, bs_list, HTx.out]; simp)
  rw [← hk] at q0
  rw [← hx] at q1
  have g0 := cellN q0
  have g1 := cellN q1
  have HPn := Lib.hid hp
  clear hk hx hw hc hl h c0 c1 q0 q1
  by_cases hkk : k = kind
  rotate_left
  · have ht2 : (k != kind) = true := by simp [hkk]
    have ht3 : (k == kind) = false := by simp [hkk]
    go_enter Tryz.func83, Tryz.ntmps83
    go_upto_region 1 with (fail)
    go_quiet (fail)
    go_wp2
    go_ret
    rw [HIs.out, ht3]
    exact ⟨rfl, HS.out.drewN nq, (TTo.refl _ _ _).drewN nq⟩
  subst hkk
  by_cases htt : x.toList = tx.toList
  rotate_left
  · have ht2 : (x.toList != tx.toList) = true := by simp [htt]
    have ht3 : (x.toList == tx.toList) = false := by simp [htt]
    go_enter Tryz.func83, Tryz.ntmps83
    go_upto_region 1 with (fail)
    go_quiet (fail)
    go_wp2
    go_ret
    rw [HIs.out, ht3, Bool.and_false]
    exact ⟨rfl, HS.out.drewN nq, (TTo.refl _ _ _).drewN nq⟩
  have ht2 : (x.toList != tx.toList) = false := by simp [htt]
  have ht3 : (x.toList == tx.toList) = true := by simp [htt]
  have hw1 : wrap64 ((s.pos : Int) + 1) = (s.pos : Int) + 1 := by unfold wrap64; omega
  have hw2 : IntKind.i64.wrap ((s.pos : Int) + 1) = (s.pos : Int) + 1 := by rw [IntKind.wrap_i64]; omega
  go_enter Tryz.func83, Tryz.ntmps83
  go_upto_region 1 with (fail)
  go_quiet (fail)
  have H2 := Lib.hid (HS.out.drewN nq)
  have HT := Lib.hid ((TTo.refl N v w).drewN nq)
  generalize w.drewN nq = w2 at *
  clear f0 f1 g0 g1
  obtain ⟨c0, c1, -, -, fz⟩ := H2.out.cells
  have hN2 := H2.out.low
  go_wp2
  go_ret
  rw [HIs.out, ht3]
  refine ⟨by simp, ?_, ?_⟩
  · simp only [beq_self_eq_true, Bool.and_self, if_pos]
    exact H2.out.adv HPn.out _ rfl
  · exact HT.out.setN 1 _
end Go.Proofs.YtafhgilikcablaaGreatDoor
