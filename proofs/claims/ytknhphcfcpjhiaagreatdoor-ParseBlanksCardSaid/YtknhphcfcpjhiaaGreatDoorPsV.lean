/- The package's reader of statements: what its parts answer, in memory; WHERE. -/
import Derived.Test.YtknhphcfcpjhiaaGreatDoorVRecPure
import Derived.Lib.ItoaNum
import Derived.Test.YtknhphcfcpjhiaaGreatDoorPsExR
import Derived.Test.YtknhphcfcpjhiaaGreatDoorLxKey
set_option linter.unusedVariables false
set_option linter.unusedSimpArgs false
set_option maxRecDepth 100000
namespace Go.Proofs.YtknhphcfcpjhiaaGreatDoor
open Go.RowKit
/-- one round of take's loop -/
def Rnd (nm : ByteArray → Bool) (ws : List Wd) (a b : Pt × Bool × Tk) : Prop := ∀ n, takeP nm ws (n + 1) a.1 a.2.1 a.2.2 = takeP nm ws n b.1 b.2.1 b.2.2
/-- some rounds -/
def Rnds (nm : ByteArray → Bool) (ws : List Wd) (k : Nat) (a b : Pt × Bool × Tk) : Prop := ∀ n, takeP nm ws (n + k) a.1 a.2.1 a.2.2 = takeP nm ws n b.1 b.2.1 b.2.2
theorem Rnds.zero (nm : ByteArray → Bool) (ws : List Wd) (a : Pt × Bool × Tk) : Rnds nm ws 0 a a := fun _ => rfl
theorem Rnds.trans {nm : ByteArray → Bool} {ws : List Wd} {j k : Nat} {a b c : Pt × Bool × Tk} (h : Rnds nm ws j a b) (h' : Rnds nm ws k b c) : Rnds nm ws (j + k) a c := fun n => by
  rw [show n + (j + k) = n + k + j by omega, h, h']
theorem Rnd.one {nm : ByteArray → Bool} {ws : List Wd} {a b : Pt × Bool × Tk} (h : Rnd nm ws a b) : Rnds nm ws 1 a b := h
/-- formed, and so deep at most -/
inductive FmE (nm : ByteArray → Bool) : Nat → ET → Prop
  | lit {n : Nat} {vk vn : Int} {vs : ByteArray} (h : (vk = 0 ∧ vn = 0 ∧ vs = ⟨#[]⟩) ∨ (vk = 1 ∧ 0 ≤ vn ∧ vs = ⟨#[]⟩) ∨ (vk = 2 ∧ vn = 0 ∧ vs.size ≤ 100)) : FmE nm (n + 1) (.mk 1 ⟨#[]⟩ vk vn vs ⟨#[]⟩ ⟨#[]⟩ [])
  | col {n : Nat} {t c : ByteArray} (h : nm c = true) (h2 : t = ⟨#[]⟩ ∨ nm t = true) : FmE nm (n + 1) (.mk 2 ⟨#[]⟩ 0 0 ⟨#[]⟩ t c [])
  | una {n : Nat} {op : ByteArray} {p : ET} (h : op = bs [78, 79, 84] ∨ op = bs [45]) (hp : FmE nm n p) : FmE nm (n + 1) (.mk 3 op 0 0 ⟨#[]⟩ ⟨#[]⟩ ⟨#[]⟩ [p])
  | bin {n : Nat} {op : ByteArray} {p q : ET} (h : levB op.data.toList ≠ 0) (hp : FmE nm n p) (hq : FmE nm n q) : FmE nm (n + 1) (.mk 4 op 0 0 ⟨#[]⟩ ⟨#[]⟩ ⟨#[]⟩ [p, q])
  | tst {n : Nat} {op : ByteArray} {p : ET} (h : op = bs [73, 83, 32, 78, 85, 76, 76] ∨ op = bs [73, 83, 32, 78, 79, 84, 32, 78, 85, 76, 76]) (hp : FmE nm n p) : FmE nm (n + 1) (.mk 5 op 0 0 ⟨#[]⟩ ⟨#[]⟩ ⟨#[]⟩ [p])
  | agg {n : Nat} {op : ByteArray} {p : ET} (h : aggB op.data.toList = true) (hp : FmE nm n p) : FmE nm (n + 1) (.mk 6 op 0 0 ⟨#[]⟩ ⟨#[]⟩ ⟨#[]⟩ [p])
  | cnt {n : Nat} : FmE nm (n + 1) (.mk 6 (bs [67, 79, 85, 78, 84]) 0 0 ⟨#[]⟩ ⟨#[]⟩ ⟨#[]⟩ [])
end Go.Proofs.YtknhphcfcpjhiaaGreatDoor
set_option linter.unusedVariables false
set_option linter.unusedSimpArgs false
set_option maxRecDepth 100000
namespace Go.Proofs.YtknhphcfcpjhiaaGreatDoor
open Go.RowKit
theorem FmE.up {nm : ByteArray → Bool} : ∀ {n : Nat} {e : ET}, FmE nm n e → ∀ m, n ≤ m → FmE nm m e := by
  intro n e h
  induction h with
  | lit h => intro m hm; obtain ⟨m, rfl⟩ : ∃ k, m = k + 1 := ⟨m - 1, by omega⟩; exact .lit h
  | col h h2 => intro m hm; obtain ⟨m, rfl⟩ : ∃ k, m = k + 1 := ⟨m - 1, by omega⟩; exact .col h h2
  | una h hp ih => intro m hm; obtain ⟨m, rfl⟩ : ∃ k, m = k + 1 := ⟨m - 1, by omega⟩; exact .una h (ih m (by omega))
  | bin h hp hq ihp ihq => intro m hm; obtain ⟨m, rfl⟩ : ∃ k, m = k + 1 := ⟨m - 1, by omega⟩; exact .bin h (ihp m (by omega)) (ihq m (by omega))
  | tst h hp ih => intro m hm; obtain ⟨m, rfl⟩ : ∃ k, m = k + 1 := ⟨m - 1, by omega⟩; exact .tst h (ih m (by omega))
  | agg h hp ih => intro m hm; obtain ⟨m, rfl⟩ : ∃ k, m = k + 1 := ⟨m - 1, by omega⟩; exact .agg h (ih m (by omega))
  | cnt => intro m hm; obtain ⟨m, rfl⟩ : ∃ k, m = k + 1 := ⟨m - 1, by omega⟩; exact .cnt
/-- a part that is formed, if it isn't too deep -/
def GP (nm : ByteArray → Bool) (p : Pt) : Prop := 1 ≤ p.dp ∧ (p.dp ≤ 8 → FmE nm p.dp.toNat p.e)
/-- a head that waits -/
def PdFm (nm : ByteArray → Bool) (p : Pd) : Prop :=
  1 ≤ p.least ∧ (p.kind = 0 ∨ (p.kind = 3 ∧ (p.op = bs [78, 79, 84] ∨ p.op = bs [45]) ∧ p.left = []) ∨ (p.kind = 4 ∧ levB p.op.data.toList ≠ 0 ∧ ∃ l, p.left = [l] ∧ GP nm l) ∨ (p.kind = 6 ∧ aggB p.op.data.toList = true ∧ p.left = []))
structure TI (nm : ByteArray → Bool) (s : Tk) : Prop where
  least : 1 ≤ s.least
  ops : ∀ p ∈ s.op, PdFm nm p
theorem ti_adv {nm : ByteArray → Bool} {s : Tk} (h : TI nm s) : TI nm (adv s) := ⟨h.least, h.ops⟩
theorem ti_wait {nm : ByteArray → Bool} {s : Tk} (h : TI nm s) {p : Pd} (hp : PdFm nm { p with least := 1 }) {l : Int} (hl : 1 ≤ l) : TI nm (waitP s p l) := by
  refine ⟨hl, fun q hq => ?_⟩
  rcases List.mem_append.1 hq with hq | hq
  · exact h.ops q hq
  · rw [List.mem_singleton.1 hq]
    exact ⟨h.least, hp.2⟩
theorem gp_leaf {nm : ByteArray → Bool} {e : ET} (h : FmE nm 1 e) (lv : Int) : GP nm ⟨e, lv, 1⟩ := ⟨Int.le_refl 1, fun _ => h⟩
theorem gp_one {nm : ByteArray → Bool} {l : Pt} (hl : GP nm l) {k : Int} {op : ByteArray} (hf : ∀ n, FmE nm n l.e → FmE nm (n + 1) (.mk k op 0 0 ⟨#[]⟩ ⟨#[]⟩ ⟨#[]⟩ [l.e])) (lv : Int) : GP nm (buildP k op 0 0 ⟨#[]⟩ ⟨#[]⟩ ⟨#[]⟩ lv [l]) := by
  have hm : maxD [l] = l.dp := by
    show max 0 l.dp = l.dp
    have := hl.1
    omega
  unfold buildP
  rw [hm]
  split
  · exact ⟨by show 1 ≤ l.dp + 1; have := hl.1; omega, fun h => by replace h : l.dp + 1 ≤ 8 := h; omega⟩
  · rename_i h8
    refine ⟨by show 1 ≤ l.dp + 1; have := hl.1; omega, fun _ => ?_⟩
    show FmE nm (l.dp + 1).toNat _
    have h1 := hl.1
    rw [show (l.dp + 1).toNat = l.dp.toNat + 1 by omega]
    exact hf _ (hl.2 (by omega))
theorem gp_two {nm : ByteArray → Bool} {a b : Pt} (ha : GP nm a) (hb : GP nm b) {op : ByteArray} (ho : levB op.data.toList ≠ 0) (lv : Int) : GP nm (buildP 4 op 0 0 ⟨#[]⟩ ⟨#[]⟩ ⟨#[]⟩ lv [a, b]) := by
  have h1 := ha.1
  have h2 := hb.1
  have hm : maxD [a, b] = max a.dp b.dp := by
    show max (max 0 a.dp) b.dp = _
    omega
  unfold buildP
  rw [hm]
  split
  · exact ⟨by show 1 ≤ max a.dp b.dp + 1; omega, fun h => by replace h : max a.dp b.dp + 1 ≤ 8 := h; omega⟩
  · rename_i h8
    refine ⟨by show 1 ≤ max a.dp b.dp + 1; omega, fun _ => ?_⟩
    show FmE nm (max a.dp b.dp + 1).toNat _
    rw [show (max a.dp b.dp + 1).toNat = (max a.dp b.dp).toNat + 1 by omega]
    exact .bin ho ((ha.2 (by omega)).up _ (by omega)) ((hb.2 (by omega)).up _ (by omega))
theorem name_fm (nm : ByteArray → Bool) (ws : List Wd) (s : Tk) : ((nameP nm ws s).2.1 = true → nm (nameP nm ws s).1 = true) ∧ (nameP nm ws s).2.2.least = s.least ∧ (nameP nm ws s).2.2.op = s.op := by
  unfold nameP
  split
  · rename_i h
    exact ⟨fun _ => h.2.2, rfl, rfl⟩
  · exact ⟨fun h => by simp at h, rfl, rfl⟩
theorem col_fm (nm : ByteArray → Bool) (ws : List Wd) (s : Tk) (h : TI nm s) : ((colP nm ws s).2.1 = true → GP nm (colP nm ws s).1) ∧ TI nm (colP nm ws s).2.2 := by
  obtain ⟨h1, h2, h3⟩ := name_fm nm ws s
  unfold colP
  dsimp only
  split
  · exact ⟨fun h => by simp at h, ⟨by rw [h2]; exact h.least, by rw [h3]; exact h.ops⟩⟩
  · rename_i ha
    rw [Bool.not_eq_false] at ha
    split
    · obtain ⟨k1, k2, k3⟩ := name_fm nm ws (adv (nameP nm ws s).2.2)
      refine ⟨fun h => gp_leaf (.col (k1 h) (.inr (h1 ha))) 8, ⟨by rw [k2]; show 1 ≤ (nameP nm ws s).2.2.least; rw [h2]; exact h.least, by rw [k3]; show ∀ p ∈ (nameP nm ws s).2.2.op, _; rw [h3]; exact h.ops⟩⟩
    · exact ⟨fun _ => gp_leaf (.col (h1 ha) (.inl rfl)) 8, ⟨by rw [h2]; exact h.least, by rw [h3]; exact h.ops⟩⟩
theorem ag_fm (nm : ByteArray → Bool) (ws : List Wd) (t : Bs) (ht : aggB t = true) (s : Tk) (h : TI nm s) : ((agP ws t s).2.2.1 = true → (agP ws t s).2.1 = true → GP nm (agP ws t s).1) ∧ TI nm (agP ws t s).2.2.2 := by
  unfold agP
  split
  · exact ⟨fun h => by simp at h, h⟩
  · split
    · rename_i hc
      rw [hc.1]
      split
      · exact ⟨fun _ _ => gp_leaf .cnt 8, ⟨h.least, h.ops⟩⟩
      · exact ⟨fun h => by simp at h, ⟨h.least, h.ops⟩⟩
    · exact ⟨fun _ h => by simp at h, ti_wait (ti_adv h) ⟨Int.le_refl 1, .inr (.inr (.inr ⟨rfl, ht, rfl⟩))⟩ (by decide)⟩
theorem word_fm (nm : ByteArray → Bool) (ws : List Wd) (s : Tk) (h : TI nm s) : ((wordP nm ws s).2.2.1 = true → (wordP nm ws s).2.1 = true → GP nm (wordP nm ws s).1) ∧ TI nm (wordP nm ws s).2.2.2 := by
  unfold wordP
  split
  · exact ⟨fun h => by simp at h, h⟩
  dsimp only
  split
  · rename_i hw
    exact ⟨fun _ _ => gp_leaf (.lit (.inr (.inl ⟨rfl, hw.2, rfl⟩))) 8, ti_adv h⟩
  split
  · rename_i hw
    refine ⟨fun _ _ => gp_leaf (.lit (.inr (.inr ⟨rfl, rfl, ?_⟩))) 8, ti_adv h⟩
    have := hw.2
    simpa [bs, ByteArray.size] using this
  split
  · exact ⟨fun _ _ => gp_leaf (.lit (.inl ⟨rfl, rfl, rfl⟩)) 8, ti_adv h⟩
  split
  · rename_i hw
    exact ag_fm nm ws _ hw.2 _ (ti_adv h)
  · have := col_fm nm ws s h
    exact ⟨fun h _ => this.1 h, this.2⟩
theorem oper_fm (nm : ByteArray → Bool) (ws : List Wd) : ∀ (n : Nat) (s : Tk), TI nm s → ((operP nm ws n s).2.1 = true → GP nm (operP nm ws n s).1) ∧ TI nm (operP nm ws n s).2.2
  | 0, s, h => ⟨fun h => by simp [operP] at h, h⟩
  | n + 1, s, h => by
    unfold operP
    split
    · exact oper_fm nm ws n _ (ti_wait (ti_adv h) ⟨Int.le_refl 1, .inr (.inl ⟨rfl, .inl rfl, rfl⟩)⟩ (by decide))
    split
    · exact oper_fm nm ws n _ (ti_wait (ti_adv h) ⟨Int.le_refl 1, .inr (.inl ⟨rfl, .inr rfl, rfl⟩)⟩ (by decide))
    split
    · exact oper_fm nm ws n _ (ti_wait (ti_adv h) ⟨Int.le_refl 1, .inl rfl⟩ (by decide))
    dsimp only
    have hw := word_fm nm ws s h
    split
    · rename_i hc
      refine ⟨fun hk => ?_, hw.2⟩
      rcases hc with hc | hc
      · exact hw.1 hk hc
      · rw [hc] at hk; cases hk
    · exact oper_fm nm ws n _ hw.2
theorem test_fm (nm : ByteArray → Bool) (ws : List Wd) (l : Pt) (hl : GP nm l) (s : Tk) (h : TI nm s) : ((testP ws l s).2.1 = true → GP nm (testP ws l s).1) ∧ TI nm (testP ws l s).2.2 := by
  unfold testP
  dsimp only
  generalize isW ws s.pos 1 [78, 79, 84] = b
  have hs : TI nm (if b = true then adv s else s) := by split <;> exact ⟨h.least, h.ops⟩
  generalize (if b = true then adv s else s) = s1 at hs ⊢
  split
  · refine ⟨fun _ => gp_one hl (fun n hf => .tst ?_ hf) 4, ti_adv hs⟩
    cases b
    · exact .inl rfl
    · exact .inr rfl
  · exact ⟨fun h => by simp at h, hs⟩
theorem close_fm (nm : ByteArray → Bool) (ws : List Wd) (l : Pt) (hl : GP nm l) (s : Tk) (p : Pd) (rest : List Pd) (hp : PdFm nm p) (hr : ∀ q ∈ rest, PdFm nm q) : ((closeP ws l s p rest).2.1 = true → GP nm (closeP ws l s p rest).1) ∧ TI nm (closeP ws l s p rest).2.2 := by
  unfold closeP
  dsimp only
  have h0 : TI nm (⟨s.pos, p.least, rest⟩ : Tk) := ⟨hp.1, hr⟩
  split
  · exact ⟨fun h => by simp at h, h0⟩
  have hs : TI nm (if p.closes = true then adv (⟨s.pos, p.least, rest⟩ : Tk) else ⟨s.pos, p.least, rest⟩) := by split <;> exact ⟨h0.least, h0.ops⟩
  split
  · exact ⟨fun _ => ⟨hl.1, hl.2⟩, hs⟩
  · rename_i hk
    refine ⟨fun _ => ?_, hs⟩
    rcases hp.2 with h | ⟨h1, h2, h3⟩ | ⟨h1, h2, a, h3, h4⟩ | ⟨h1, h2, h3⟩
    · exact absurd h hk
    · rw [h1, h3]
      exact gp_one hl (fun n hf => .una h2 hf) _
    · rw [h1, h3]
      exact gp_two h4 hl h2 _
    · rw [h1, h3]
      exact gp_one hl (fun n hf => .agg h2 hf) _
theorem optr_lev (ws : List Wd) (s : Tk) (h : (optrP ws s).1 ≠ [73, 83]) (h1 : 1 ≤ (optrP ws s).2) : levB (optrP ws s).1 ≠ 0 := by
  unfold optrP at h h1 ⊢
  split at h
  · rename_i hc
    rw [if_pos hc] at h1 ⊢
    exact absurd h1 (by decide)
  rename_i hc
  rw [if_neg hc] at h1 ⊢
  dsimp only at h h1 ⊢
  by_cases k1 : (wdAt ws s.pos).1 = 1
  · rw [if_pos k1] at h h1 ⊢
    by_cases k2 : (wdAt ws s.pos).2.1 = [73, 83]
    · rw [if_pos k2] at h; exact absurd k2 h
    rw [if_neg k2] at h1 ⊢
    by_cases k3 : (wdAt ws s.pos).2.1 = [79, 82] ∨ (wdAt ws s.pos).2.1 = [65, 78, 68]
    · rw [if_pos k3] at h1 ⊢
      dsimp only at h1 ⊢
      omega
    · rw [if_neg k3] at h1
      exact absurd h1 (by decide)
  rw [if_neg k1] at h1 ⊢
  by_cases k4 : (wdAt ws s.pos).1 = 4
  · rw [if_pos k4] at h1 ⊢
    dsimp only at h1 ⊢
    omega
  · rw [if_neg k4] at h1
    exact absurd h1 (by decide)
end Go.Proofs.YtknhphcfcpjhiaaGreatDoor
set_option linter.unusedVariables false
set_option linter.unusedSimpArgs false
set_option maxRecDepth 100000
namespace Go.Proofs.YtknhphcfcpjhiaaGreatDoor
open Go.RowKit
theorem isW_lt {ws : List Wd} {i : Nat} {k : Int} {t : Bs} (h : isW ws i k t = true) : i < ws.length := by
  unfold isW at h
  simp only [Bool.and_eq_true, decide_eq_true_eq] at h
  exact h.1.1
def PL (ws : List Wd) (s : Tk) : Prop := s.pos ≤ ws.length
theorem pl_adv {ws : List Wd} {s : Tk} (h : s.pos < ws.length) : PL ws (adv s) := h
theorem name_pl {ws : List Wd} (nm : ByteArray → Bool) {s : Tk} (h : PL ws s) : PL ws (nameP nm ws s).2.2 := by
  unfold nameP
  split
  · rename_i hc; exact pl_adv hc.1
  · exact h
theorem col_pl {ws : List Wd} (nm : ByteArray → Bool) {s : Tk} (h : PL ws s) : PL ws (colP nm ws s).2.2 := by
  have h1 := name_pl nm h
  unfold colP
  dsimp only
  split
  · exact h1
  · split
    · rename_i hc; exact name_pl nm (pl_adv (isW_lt hc))
    · exact h1
theorem ag_pl {ws : List Wd} (t : Bs) {s : Tk} (h : PL ws s) : PL ws (agP ws t s).2.2.2 := by
  unfold agP
  split
  · exact h
  · rename_i h1
    rw [Bool.not_eq_false] at h1
    split
    · rename_i h2
      split
      · rename_i h3; exact isW_lt h3
      · exact isW_lt h2.2
    · exact isW_lt h1
theorem word_pl {ws : List Wd} (nm : ByteArray → Bool) {s : Tk} (h : PL ws s) : PL ws (wordP nm ws s).2.2.2 := by
  unfold wordP
  split
  · exact h
  rename_i hp
  have hp : s.pos < ws.length := by omega
  dsimp only
  split
  · exact pl_adv hp
  split
  · exact pl_adv hp
  split
  · exact pl_adv hp
  split
  · exact ag_pl _ (pl_adv hp)
  · exact col_pl nm h
theorem oper_pl {ws : List Wd} (nm : ByteArray → Bool) : ∀ (n : Nat) (s : Tk), PL ws s → PL ws (operP nm ws n s).2.2
  | 0, s, h => h
  | n + 1, s, h => by
    unfold operP
    split
    · rename_i hc; exact oper_pl nm n _ (isW_lt hc.2)
    split
    · rename_i hc; exact oper_pl nm n _ (isW_lt hc)
    split
    · rename_i hc; exact oper_pl nm n _ (isW_lt hc)
    dsimp only
    split
    · exact word_pl nm h
    · exact oper_pl nm n _ (word_pl nm h)
theorem test_pl {ws : List Wd} (l : Pt) {s : Tk} (h : PL ws s) : PL ws (testP ws l s).2.2 := by
  unfold testP
  dsimp only
  have hs : PL ws (if isW ws s.pos 1 [78, 79, 84] = true then adv s else s) := by
    split
    · rename_i hc; exact pl_adv (isW_lt hc)
    · exact h
  generalize (if isW ws s.pos 1 [78, 79, 84] = true then adv s else s) = s1 at hs ⊢
  split
  · rename_i hc; exact pl_adv (isW_lt hc)
  · exact hs
theorem close_pl {ws : List Wd} (l : Pt) {s : Tk} (p : Pd) (rest : List Pd) (h : PL ws s) : PL ws (closeP ws l s p rest).2.2 := by
  unfold closeP
  dsimp only
  split
  · exact h
  rename_i hc
  have hs : PL ws (if p.closes = true then adv (⟨s.pos, p.least, rest⟩ : Tk) else ⟨s.pos, p.least, rest⟩) := by
    split
    · rename_i h1
      exact pl_adv (isW_lt (k := 4) (t := [41]) (by
        cases h2 : isW ws s.pos 4 [41]
        · exact absurd ⟨h1, h2⟩ hc
        · rfl))
    · exact h
  split
  · exact hs
  · exact hs
theorem optr_lt {ws : List Wd} {s : Tk} (h : 1 ≤ (optrP ws s).2) : s.pos < ws.length := by
  unfold optrP at h
  split at h
  · exact absurd h (by decide)
  · omega
theorem take_pl {ws : List Wd} (nm : ByteArray → Bool) : ∀ (n : Nat) (l : Pt) (ok : Bool) (s : Tk), (ok = true → GP nm l) → TI nm s → PL ws s → PL ws (takeP nm ws n l ok s).2.2
  | 0, l, ok, s, _, _, h => h
  | n + 1, l, ok, s, hl, hs, h => by
    unfold takeP
    split
    · exact h
    rename_i hok
    have hl := hl (by simpa using hok)
    dsimp only
    split
    · rename_i hc
      have hl1 := hs.least
      have hlt : s.pos < ws.length := optr_lt (by have := hc.1; omega)
      have ht := test_fm nm ws l hl (adv s) (ti_adv hs)
      exact take_pl nm n _ _ _ ht.1 ht.2 (test_pl l (pl_adv hlt))
    rename_i hc
    split
    · rename_i hc2
      have hl1 := hs.least
      have h1 : 1 ≤ (optrP ws s).2 := by have := hc2.1; omega
      have hlev := optr_lev ws s (fun e => hc ⟨hc2.1, hc2.2, e⟩) h1
      have ho := oper_fm nm ws (ws.length + 1) _ (ti_wait (ti_adv hs) (p := ⟨4, bs (optrP ws s).1, (optrP ws s).2, [l], false, 0⟩) ⟨Int.le_refl 1, .inr (.inr (.inl ⟨rfl, hlev, l, rfl, hl⟩))⟩ (l := (optrP ws s).2 + 1) (by omega))
      exact take_pl nm n _ _ _ ho.1 ho.2 (oper_pl nm _ _ (pl_adv (optr_lt h1)))
    · split
      · exact h
      · rename_i p hp
        have hm : p ∈ s.op := List.mem_of_getLast? hp
        have hc := close_fm nm ws l hl s p s.op.dropLast (hs.ops p hm) (fun q hq => hs.ops q ((List.dropLast_sublist _).subset hq))
        exact take_pl nm n _ _ _ hc.1 hc.2 (close_pl l _ _ h)
/-- how far it goes, and its errors -/
theorem taken_pl (nm : ByteArray → Bool) (ws : List Wd) : (TakeP nm ws).2.1 ≤ ws.length ∧ ((TakeP nm ws).2.2 = 0 ∨ (TakeP nm ws).2.2 = 3 ∨ (TakeP nm ws).2.2 = 4) := by
  have h0 : TI nm tk0 := ⟨Int.le_refl 1, fun p hp => by cases hp⟩
  have ho := oper_fm nm ws (ws.length + 1) tk0 h0
  have hp := oper_pl (ws := ws) nm (ws.length + 1) tk0 (Nat.zero_le _)
  have ht := take_pl (ws := ws) nm (2 * ws.length + 2) _ _ _ ho.1 ho.2 hp
  unfold TakeP
  dsimp only
  split
  · exact ⟨ht, .inr (.inl rfl)⟩
  · split
    · exact ⟨Nat.zero_le _, .inr (.inr rfl)⟩
    · exact ⟨ht, .inl rfl⟩
end Go.Proofs.YtknhphcfcpjhiaaGreatDoor
namespace Go.Proofs.YtknhphcfcpjhiaaGreatDoor
open Go.RowKit
set_option linter.unusedVariables false
set_option linter.unusedSimpArgs false
set_option maxRecDepth 100000
theorem WsB.sub2 {N : Nat} {w : World} {b off n c : Nat} {ws : List Wd} (h : WsB N w (some ⟨b, off, none⟩) n ws) {k o1 : Nat} (hk : k ≤ n) (hc : n ≤ c) (ho : (c = k → o1 = off) ∧ (c ≠ k → o1 = off + k * 3)) : WsAt w (some ⟨b, o1, none⟩) (n - k) (ws.drop k) := by
  by_cases hk2 : c = k
  · have h1 := h.1
    have h2 := h.2.1
    exact ⟨by rw [List.length_drop]; omega, by omega, .inl (by omega)⟩
  · rw [ho.2 hk2]
    exact h.sub hk
theorem wr_add (a b n : Nat) (h : a + b ≤ n) (hn : n ≤ 100000) : wrap64 ((a : Int) + (b : Int)) = (a : Int) + (b : Int) ∧ IntKind.i64.wrap ((a : Int) + (b : Int)) = (a : Int) + (b : Int) := by
  refine ⟨?_, ?_⟩
  · unfold wrap64; omega
  · rw [IntKind.wrap_i64]; omega
set_option maxHeartbeats 12800000 in
theorem pexpr_any (N : Nat) (w : World) (b off : Nat) (wn wc : Nat) (ws : List Wd) (s : PS) (h : RdS N w (some ⟨b, off, none⟩) wn wc ws s) (hz : WsOk ws) (hcap : wn ≤ wc ∧ wc ≤ maxLen) :
    Calls Tryz.prog 56 #[.pointer (some ⟨N, 0, none⟩)] w (PsE N w (some ⟨b, off, none⟩) wn wc ws (exprR ws s)) := by
  have HS := Lib.hid h
  have HB := Lib.hid (bel0 (.cells #[.int .i64 0, .string ⟨#[]⟩, .int .i64 0, .int .i64 0, .string ⟨#[]⟩, .string ⟨#[]⟩, .string ⟨#[]⟩, .slice none 0 0] 82) (Below.refl w.heap.size w))
  have HX := Lib.hid (Go.heap_alloc_new w (.cells #[.int .i64 0, .string ⟨#[]⟩, .int .i64 0, .int .i64 0, .string ⟨#[]⟩, .string ⟨#[]⟩, .string ⟨#[]⟩, .slice none 0 0] 82 (0, 0)))
  have HZ := Lib.hid hz
  have HCap := Lib.hid hcap
  have HN := Lib.hid h.low
  clear h hz hcap
  go_enter Tryz.func56, Tryz.ntmps56
  go_upto_region 1 with (fail)
  generalize hw1 : w.alloc (.cells #[.int .i64 0, .string ⟨#[]⟩, .int .i64 0, .int .i64 0, .string ⟨#[]⟩, .string ⟨#[]⟩, .string ⟨#[]⟩, .slice none 0 0] 82) = w1 at *
  have HW1 := Lib.hid (show w1.heap.size = w.heap.size + 1 by rw [← hw1]; simp)
  clear hw1
  have HS1 := Lib.hid (HS.out.below HB.out)
  obtain ⟨c0, c1, c2, fz⟩ := HS1.out.cells
  have hN1 := HS1.out.low
  by_cases hm : s.2 = 0
  rotate_left
  · have HR := Lib.hid (show exprR ws s = (zET, s) by unfold exprR; rw [if_pos hm])
    have ht : (s.2 != 0) = true := by simp [hm]
    have HFin := Lib.hid (wbox8 HX.out (.int .i64 0) (.string ⟨#[]⟩) (.int .i64 0) (.int .i64 0) (.string ⟨#[]⟩) (.string ⟨#[]⟩) (.string ⟨#[]⟩) (.slice none 0 0))
    have HF := Lib.hid (show RdS N (setLe w1 w.heap.size 0 [.int .i64 0, .string ⟨#[]⟩, .int .i64 0, .int .i64 0, .string ⟨#[]⟩, .string ⟨#[]⟩, .string ⟨#[]⟩, .slice none 0 0]) (some ⟨b, off, none⟩) wn wc ws s ∧ RTo N w (setLe w1 w.heap.size 0 [.int .i64 0, .string ⟨#[]⟩, .int .i64 0, .int .i64 0, .string ⟨#[]⟩, .string ⟨#[]⟩, .string ⟨#[]⟩, .slice none 0 0]) from ⟨HS1.out.setLe HN.out _ _, (RTo.of_below HB.out (Nat.le_of_lt HN.out)).setLe (Nat.le_of_lt HN.out) (Nat.le_refl _) _ _⟩)
    obtain ⟨g0, g1, g2, g3, g4, g5, g6, g7, gz, gN⟩ := row8 HX.out
    go_wp2
    refine bodyPost_ret (results_e1 rfl _ _ w.heap.size _ _ _ _ _ _ _ _ rfl HFin.out) rfl ?_
    rw [HR.out]
    exact ⟨⟨_, rfl, ev_zero _ _⟩, HF.out.1, HF.out.2⟩
  · have ht : (s.2 != 0) = false := by simp [hm]
    have hpos := HS1.out.pos
    have hw5 := HS1.out.words.2.1
    have hwl := HS1.out.words.1
    obtain ⟨o1, ho⟩ : ∃ o1, (wc = s.1 → o1 = off) ∧ (wc ≠ s.1 → o1 = off + s.1 * 3) := by
      by_cases h : wc = s.1
      · exact ⟨off, fun _ => rfl, fun h2 => absurd h h2⟩
      · exact ⟨off + s.1 * 3, fun h2 => absurd h2 h, fun _ => rfl⟩
    have HTk := Lib.hid (show ∀ W, Below w1.heap.size w1 W → Calls Tryz.prog 106 #[.slice (some ⟨b, o1, none⟩) (wn - s.1) (wc - s.1)] W (TakeR W (TakeP nmB (ws.drop s.1))) from fun W hW => exprTake_any _ _ _ _ W ((HS1.out.below hW).words.sub2 hpos HCap.out.1 ho) (wsOk_drop HZ.out _))
    have HKp := Lib.hid (show ∀ W : World, Below w1.heap.size w1 W → W.cell? ⟨N, 0, none⟩ = some (.slice (some ⟨b, off, none⟩) wn wc) ∧ W.cell? ⟨N, 1, none⟩ = some (.int .i64 (s.1 : Int)) from fun W hW => ⟨(HS1.out.below hW).cells.1, (HS1.out.below hW).cells.2.1⟩)
    have HER := Lib.hid (show exprR ws s = (if (TakeP nmB (ws.drop s.1)).2.2 ≠ 0 then (zET, fl (TakeP nmB (ws.drop s.1)).2.2 s) else ((TakeP nmB (ws.drop s.1)).1, (s.1 + (TakeP nmB (ws.drop s.1)).2.1, s.2))) by unfold exprR; rw [if_neg (fun h => h hm)])
    have HPl := Lib.hid (taken_pl nmB (ws.drop s.1))
    rw [List.length_drop, hwl] at HPl
    obtain ⟨r, hr⟩ : ∃ r, r = TakeP nmB (ws.drop s.1) := ⟨_, rfl⟩
    rw [← hr] at HTk HER HPl
    have HPos := Lib.hid (show s.1 ≤ wn ∧ wn ≤ 100000 ∧ s.2 = 0 from ⟨hpos, hw5, hm⟩)
    clear hr
    go_upto_region 3 with (fail)
    refine wp_mono (px_r3 r N b off wn wc s.1 o1 ho w1 _ _ _ _ _ _ _ _ _ _ _ _ _ _ _ _ _ _ _ _ _ _ _ _ _ _ _ _ _ _ _ _ _ _ _ _ _ _ _ _ hN1 hpos HCap.out HKp.out HTk.out) ?_
    rintro e0 a' w3 ⟨rfl, v3, v4, v5, u12, u22, u23, u24, u25, rfl, B3, sa, sc, rfl, rfl, rfl, hB3, h3, hrg, hel, hbel⟩
    have HB13 := Lib.hid hbel
    have HS3 := Lib.hid (HS1.out.below hbel)
    have HX3 := Lib.hid ((hbel.block _ (Array.getElem?_eq_some_iff.1 HX.out).1).trans HX.out)
    have HBw3 := Lib.hid (bt HB.out hbel)
    have HT3 := Lib.hid (RTo.of_below HBw3.out (Nat.le_of_lt HN.out))
    have H3 := Lib.hid h3
    have HRg := Lib.hid hrg
    have HEl := Lib.hid hel
    have HB3 := Lib.hid hB3
    clear hbel h3 hrg hel hB3 c0 c1 c2 fz hN1
    obtain ⟨E, used, er⟩ := r
    dsimp only at HER HPl H3 HRg HEl ⊢
    by_cases he : er = 0
    rotate_left
    · have hne : (er != 0) = true := by simp [he]
      have HR := Lib.hid (show exprR ws s = (zET, fl er s) by rw [HER.out, if_pos he])
      have HFl := Lib.hid (fail_any N w3 _ wn wc ws s HS3.out er (by have := HPl.out.2; unfold InR; omega))
      go_wp2_with fail
      refine HFl.out.mono ?_
      rintro e w4 ⟨rfl, h1, h2⟩
      have HS4 := Lib.hid h1
      have HT4 := Lib.hid (HT3.out.trans h2)
      have HX4 := Lib.hid ((h2.block _ (Array.getElem?_eq_some_iff.1 HX3.out).1 (by have := HN.out; omega)).trans HX3.out)
      clear h1 h2
      have HFin := Lib.hid (wbox8 HX4.out (.int .i64 0) (.string ⟨#[]⟩) (.int .i64 0) (.int .i64 0) (.string ⟨#[]⟩) (.string ⟨#[]⟩) (.string ⟨#[]⟩) (.slice none 0 0))
      have HF := Lib.hid (show RdS N (setLe w4 w.heap.size 0 [.int .i64 0, .string ⟨#[]⟩, .int .i64 0, .int .i64 0, .string ⟨#[]⟩, .string ⟨#[]⟩, .string ⟨#[]⟩, .slice none 0 0]) (some ⟨b, off, none⟩) wn wc ws (fl er s) ∧ RTo N w (setLe w4 w.heap.size 0 [.int .i64 0, .string ⟨#[]⟩, .int .i64 0, .int .i64 0, .string ⟨#[]⟩, .string ⟨#[]⟩, .string ⟨#[]⟩, .slice none 0 0]) from ⟨HS4.out.setLe HN.out _ _, HT4.out.setLe (Nat.le_of_lt HN.out) (Nat.le_refl _) _ _⟩)
      obtain ⟨g0, g1, g2, g3, g4, g5, g6, g7, gz, gN⟩ := row8 HX4.out
      go_wp2
      refine bodyPost_ret (results_e1 rfl _ _ w.heap.size _ _ _ _ _ _ _ _ rfl HFin.out) rfl ?_
      rw [HR.out]
      exact ⟨⟨_, rfl, ev_zero _ _⟩, HF.out.1, HF.out.2⟩
    · subst he
      have HR := Lib.hid (show exprR ws s = (E, (s.1 + used, s.2)) by rw [HER.out, if_neg (by simp)])
      have hpu : s.1 + used ≤ wn := by have h1 := HPl.out.1; have h2 := HPos.out.1; omega
      obtain ⟨hw1, hw2⟩ := wr_add s.1 used wn hpu HPos.out.2.1
      obtain ⟨c0, c1, c2, fz⟩ := HS3.out.cells
      have hN3 := HS3.out.low
      have HS4 := Lib.hid (HS3.out.adv hpu ((s.1 : Int) + (used : Int)) (by omega))
      have HT4 := Lib.hid (HT3.out.setN 1 (.int .i64 ((s.1 : Int) + (used : Int))))
      have HX4 := Lib.hid ((heap_setCell_other w3 ⟨N, 1, none⟩ w.heap.size (.int .i64 ((s.1 : Int) + (used : Int))) (by have := HN.out; show w.heap.size ≠ N; omega)).trans HX3.out)
      have HY4 := Lib.hid ((heap_setCell_other w3 ⟨N, 1, none⟩ B3 (.int .i64 ((s.1 : Int) + (used : Int))) (by have := HN.out; have := HB3.out; have := HW1.out; show B3 ≠ N; omega)).trans H3.out)
      have HE4 := Lib.hid (show EL (w3.setCell ⟨N, 1, none⟩ (.int .i64 ((s.1 : Int) + (used : Int)))) (fun b => w1.heap.size ≤ b) sa E.parts from HEl.out.far (by simp) (fun b hb _ => heap_setCell_other w3 ⟨N, 1, none⟩ b _ (by have := HN.out; have := HW1.out; show b ≠ N; omega)))
      clear hpu
      go_upto_region 8 with (fail)
      generalize (w3.setCell ⟨N, 1, none⟩ (.int .i64 ((s.1 : Int) + (used : Int)))) = w4 at *
      clear c0 c1 c2 fz hN3 hw1 hw2
      have HFin := Lib.hid (wbox8 HX4.out (.int .i64 E.kind) (.string E.op) (.int .i64 E.vk) (.int .i64 E.vn) (.string E.vs) (.string E.tab) (.string E.col) (.slice sa E.parts.length sc))
      have HF := Lib.hid (show RdS N (setLe w4 w.heap.size 0 [.int .i64 E.kind, .string E.op, .int .i64 E.vk, .int .i64 E.vn, .string E.vs, .string E.tab, .string E.col, .slice sa E.parts.length sc]) (some ⟨b, off, none⟩) wn wc ws (s.1 + used, s.2) ∧ RTo N w (setLe w4 w.heap.size 0 [.int .i64 E.kind, .string E.op, .int .i64 E.vk, .int .i64 E.vn, .string E.vs, .string E.tab, .string E.col, .slice sa E.parts.length sc]) from ⟨HS4.out.setLe HN.out _ _, HT4.out.setLe (Nat.le_of_lt HN.out) (Nat.le_refl _) _ _⟩)
      have HEf := Lib.hid (show EL (setLe w4 w.heap.size 0 [.int .i64 E.kind, .string E.op, .int .i64 E.vk, .int .i64 E.vn, .string E.vs, .string E.tab, .string E.col, .slice sa E.parts.length sc]) (fun b => w.heap.size ≤ b) sa E.parts from (el_store HE4.out (R := w.heap.size) (fun b hb => by have := HW1.out; omega) 0 _).mono (fun b hb _ => by have := HW1.out; omega))
      obtain ⟨g0, g1, g2, g3, g4, g5, g6, g7, gz, gN⟩ := row8 HX4.out
      obtain ⟨l0, l1, l2, l3, l4, l5, l6, l7, lz, lN⟩ := row8 HY4.out
      go_wp2
      refine bodyPost_ret (results_e1 rfl _ _ w.heap.size _ _ _ _ _ _ _ _ rfl HFin.out) rfl ?_
      rw [HR.out]
      exact ⟨⟨_, rfl, sa, sc, rfl, HRg.out, HEf.out⟩, HF.out.1, HF.out.2⟩
end Go.Proofs.YtknhphcfcpjhiaaGreatDoor
namespace Go.Proofs.YtknhphcfcpjhiaaGreatDoor
open Go.RowKit
set_option linter.unusedVariables false
set_option linter.unusedSimpArgs false
set_option maxRecDepth 100000
theorem decode_w4 (s : ByteArray) (pos : Nat) : (Utf8.decode s pos).2 ≤ 4 := by
  unfold Utf8.decode
  dsimp only
  repeat' split
  all_goals simp
theorem runes_size (s : ByteArray) : ∀ fuel pos, s.size ≤ pos + fuel → s.size ≤ pos + 4 * Lib.runeCountFrom s fuel pos
  | 0, pos, h => by omega
  | f + 1, pos, h => by
    unfold Lib.runeCountFrom
    by_cases hp : pos < s.size
    · rw [if_pos hp]
      have h1 := Lib.decode_width_pos s pos hp
      have h2 := decode_w4 s pos
      have := runes_size s f (pos + (Utf8.decode s pos).2) (by omega)
      omega
    · omega
theorem nmd_size {s : ByteArray} (h : nmdB s = true) : s.size ≤ 64 := by
  unfold nmdB at h
  simp only [Bool.and_eq_true, decide_eq_true_eq] at h
  have := runes_size s s.size 0 (by omega)
  have h2 : Lib.runeCount s = Lib.runeCountFrom s s.size 0 := rfl
  omega
end Go.Proofs.YtknhphcfcpjhiaaGreatDoor
namespace Go.Proofs.YtknhphcfcpjhiaaGreatDoor
open Go.RowKit
set_option linter.unusedVariables false
set_option linter.unusedSimpArgs false
set_option maxRecDepth 100000
/-- things in memory: how many cells one has, and which they are -/
structure Shp (α : Type) where
  n : Nat
  R : World → (Nat → Prop) → List Value → α → Prop
  len : ∀ {w Q cs x}, R w Q cs x → cs.length = n
  far : ∀ {w w' Q cs x}, R w Q cs x → w.heap.size ≤ w'.heap.size → (∀ b, Q b → b < w.heap.size → w'.heap[b]? = w.heap[b]?) → R w' Q cs x
  mono : ∀ {w Q Q' cs x}, R w Q cs x → (∀ b, Q b → b < w.heap.size → Q' b) → R w Q' cs x
def exS : Shp ET := ⟨8, fun w Q cs e => ∃ sa sc, cs = etX e sa sc ∧ ERg e sa sc ∧ EL w Q sa e.parts,
  fun ⟨_, _, h, _⟩ => by rw [h]; rfl, fun ⟨sa, sc, h1, h2, h3⟩ hs hb => ⟨sa, sc, h1, h2, h3.far hs hb⟩, fun ⟨sa, sc, h1, h2, h3⟩ hq => ⟨sa, sc, h1, h2, h3.mono hq⟩⟩
def stS : Shp ByteArray := ⟨1, fun _ _ cs s => cs = [.string s] ∧ s.size ≤ maxLen, fun h => by rw [h.1]; rfl, fun h _ _ => h, fun h _ => h⟩
def coS : Shp Co := ⟨4, fun _ _ cs c => cs = [.string c.name, .int .i64 c.kind, .bool c.nn, .bool c.un] ∧ c.name.size ≤ maxLen ∧ (c.kind = 1 ∨ c.kind = 2), fun h => by rw [h.1]; rfl, fun h _ _ => h, fun h _ => h⟩
def itS : Shp It := ⟨9, fun w Q cs i => ∃ sa sc, cs = etX i.e sa sc ++ [.string i.name] ∧ ERg i.e sa sc ∧ EL w Q sa i.e.parts ∧ i.name.size ≤ maxLen,
  fun ⟨_, _, h, _⟩ => by rw [h]; rfl, fun ⟨sa, sc, h1, h2, h3, h4⟩ hs hb => ⟨sa, sc, h1, h2, h3.far hs hb, h4⟩, fun ⟨sa, sc, h1, h2, h3, h4⟩ hq => ⟨sa, sc, h1, h2, h3.mono hq, h4⟩⟩
def asS : Shp As := ⟨9, fun w Q cs a => ∃ sa sc, cs = .string a.col :: etX a.e sa sc ∧ ERg a.e sa sc ∧ EL w Q sa a.e.parts ∧ a.col.size ≤ maxLen,
  fun ⟨_, _, h, _⟩ => by rw [h]; rfl, fun ⟨sa, sc, h1, h2, h3, h4⟩ hs hb => ⟨sa, sc, h1, h2, h3.far hs hb, h4⟩, fun ⟨sa, sc, h1, h2, h3, h4⟩ hq => ⟨sa, sc, h1, h2, h3.mono hq, h4⟩⟩
def odS : Shp Od := ⟨9, fun w Q cs o => ∃ sa sc, cs = etX o.e sa sc ++ [.bool o.desc] ∧ ERg o.e sa sc ∧ EL w Q sa o.e.parts,
  fun ⟨_, _, h, _⟩ => by rw [h]; rfl, fun ⟨sa, sc, h1, h2, h3⟩ hs hb => ⟨sa, sc, h1, h2, h3.far hs hb⟩, fun ⟨sa, sc, h1, h2, h3⟩ hq => ⟨sa, sc, h1, h2, h3.mono hq⟩⟩
def soS : Shp So := ⟨10, fun w Q cs s => ∃ sa sc, cs = .string s.tab :: .string s.name :: etX s.on sa sc ∧ ERg s.on sa sc ∧ EL w Q sa s.on.parts ∧ s.tab.size ≤ maxLen ∧ s.name.size ≤ maxLen,
  fun ⟨_, _, h, _⟩ => by rw [h]; rfl, fun ⟨sa, sc, h1, h2, h3, h4⟩ hs hb => ⟨sa, sc, h1, h2, h3.far hs hb, h4⟩, fun ⟨sa, sc, h1, h2, h3, h4⟩ hq => ⟨sa, sc, h1, h2, h3.mono hq, h4⟩⟩
def roS : Shp (List ET) := ⟨1, fun w Q cs l => ∃ a cap, cs = [.slice a l.length cap] ∧ EL w Q a l ∧ l.length ≤ cap ∧ cap ≤ maxLen,
  fun ⟨_, _, h, _⟩ => by rw [h]; rfl, fun ⟨sa, sc, h1, h2, h3⟩ hs hb => ⟨sa, sc, h1, h2.far hs hb, h3⟩, fun ⟨sa, sc, h1, h2, h3⟩ hq => ⟨sa, sc, h1, h2.mono hq, h3⟩⟩
/-- a thing by value: an aggregate of its cells -/
def AgV {α : Type} (S : Shp α) (w : World) (Q : Nat → Prop) (v : Value) (x : α) : Prop := ∃ cs, v = .agg cs.toArray ∧ S.R w Q cs x
/-- a slice of things -/
def SlV {α : Type} (S : Shp α) (w : World) (Q : Nat → Prop) (v : Value) (l : List α) : Prop :=
  ∃ a cap, v = .slice a l.length cap ∧ l.length ≤ cap ∧ cap ≤ maxLen ∧ (l = [] ∨ ∃ b off, a = some ⟨b, off, none⟩ ∧ Q b ∧ b < w.heap.size ∧
    ∀ i (h : i < l.length), ∃ cs, S.R w Q cs l[i] ∧ ∀ j c, cs[j]? = some c → w.cell? ⟨b, off + i * S.n + j, none⟩ = some c)
/-- what a part of the reader answers -/
def PsV {α : Type} (V : World → (Nat → Prop) → Value → α → Prop) (N : Nat) (w : World) (wa : Option Addr) (wn wc : Nat) (ws : List Wd) (r : α × PS) (e : Ending) (w' : World) : Prop :=
  (∃ v, e = .returned v ∧ V w' (fun b => w.heap.size ≤ b) v r.1) ∧ RdS N w' wa wn wc ws r.2 ∧ RTo N w w'
/-- a reader over words that are there -/
structure RCx (b off wn wc : Nat) (ws : List Wd) : Prop where
  z : WsOk ws
  cap : wn ≤ wc ∧ wc ≤ maxLen
theorem nm_le {c : ByteArray} (h : nmB c = true) : c.size ≤ maxLen := by
  rw [nmB_eq, Bool.and_eq_true] at h
  have := nmd_size h.1
  unfold maxLen
  omega
theorem nameR_le (ws : List Wd) (s : PS) : (nameR ws s).1.size ≤ maxLen := by
  unfold nameR
  split
  · rename_i h; exact nm_le h.2.2.2
  · show eB.size ≤ maxLen
    unfold maxLen
    decide
end Go.Proofs.YtknhphcfcpjhiaaGreatDoor
