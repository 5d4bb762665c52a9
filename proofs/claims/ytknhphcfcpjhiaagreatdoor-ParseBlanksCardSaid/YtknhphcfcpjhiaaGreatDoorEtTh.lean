/- Contract of the law's Theirs: an expression of the document's, made the package's. -/
import Derived.Test.YtknhphcfcpjhiaaGreatDoorVRecPure
import Derived.Test.YtknhphcfcpjhiaaGreatDoorProg
import Derived.Test.YtknhphcfcpjhiaaGreatDoorLwPure
import Derived.Deep.Upon
import Derived.Deep.AppendSrc
import Derived.Laws.IdiomCopy
import Derived.Deep.AppendLies
import Derived.Deep.RegionLaw
import Derived.BigRegion
import Derived.Deep.RegionHeldLaw
import Derived.Deep.RegionHeld3
import Derived.Deep.RegionLawGrows
import Derived.Deep.QuietTactic
import Derived.OwnWalk
namespace Go.Proofs.YtknhphcfcpjhiaaGreatDoor
open Go.RowKit
set_option linter.unusedVariables false
set_option linter.unusedSimpArgs false
set_option maxRecDepth 100000
/-- words in memory -/
def WsAt (w : World) (a : Option Addr) (n : Nat) (ws : List Wd) : Prop :=
  ws.length = n ∧ n ≤ 100000 ∧ (n = 0 ∨ ∃ b off, a = some ⟨b, off, none⟩ ∧ b < w.heap.size ∧ ∀ i, i < n → w.cell? ⟨b, off + i * 3, none⟩ = some (.int .i64 (wdAt ws i).1) ∧ w.cell? ⟨b, off + i * 3 + 1, none⟩ = some (.string (bs (wdAt ws i).2.1)) ∧ w.cell? ⟨b, off + i * 3 + 2, none⟩ = some (.int .i64 (wdAt ws i).2.2))
theorem WsAt.keep {w w' : World} {a : Option Addr} {n : Nat} {ws : List Wd} (h : WsAt w a n ws) (hb : Below w.heap.size w w') : WsAt w' a n ws := by
  obtain ⟨h1, h2, h3⟩ := h
  refine ⟨h1, h2, h3.imp id ?_⟩
  rintro ⟨b, off, ha, hlt, hc⟩
  exact ⟨b, off, ha, Nat.lt_of_lt_of_le hlt hb.size, fun i hi => ⟨(hb.cell (p := ⟨b, off + i * 3, none⟩) hlt).trans (hc i hi).1, (hb.cell (p := ⟨b, off + i * 3 + 1, none⟩) hlt).trans (hc i hi).2.1, (hb.cell (p := ⟨b, off + i * 3 + 2, none⟩) hlt).trans (hc i hi).2.2⟩⟩
/-- the words lie ahead of block N: what keeps all below N keeps them -/
def WsB (N : Nat) (w : World) (a : Option Addr) (n : Nat) (ws : List Wd) : Prop :=
  ws.length = n ∧ n ≤ 100000 ∧ (n = 0 ∨ ∃ b off, a = some ⟨b, off, none⟩ ∧ b < N ∧ b < w.heap.size ∧ ∀ i, i < n → w.cell? ⟨b, off + i * 3, none⟩ = some (.int .i64 (wdAt ws i).1) ∧ w.cell? ⟨b, off + i * 3 + 1, none⟩ = some (.string (bs (wdAt ws i).2.1)) ∧ w.cell? ⟨b, off + i * 3 + 2, none⟩ = some (.int .i64 (wdAt ws i).2.2))
theorem WsB.keep {N : Nat} {w w' : World} {a : Option Addr} {n : Nat} {ws : List Wd} (h : WsB N w a n ws) (hb : Below N w w') : WsB N w' a n ws := by
  obtain ⟨h1, h2, h3⟩ := h
  refine ⟨h1, h2, h3.imp id ?_⟩
  rintro ⟨b, off, ha, hN, hlt, hc⟩
  exact ⟨b, off, ha, hN, Nat.lt_of_lt_of_le hlt hb.size, fun i hi => ⟨(hb.cell (p := ⟨b, off + i * 3, none⟩) hN).trans (hc i hi).1, (hb.cell (p := ⟨b, off + i * 3 + 1, none⟩) hN).trans (hc i hi).2.1, (hb.cell (p := ⟨b, off + i * 3 + 2, none⟩) hN).trans (hc i hi).2.2⟩⟩
/-- a part's ten cells -/
def ptX (p : Pt) (sa : Option Addr) (sc : Nat) : List Value := [.int .i64 p.e.kind, .string p.e.op, .int .i64 p.e.vk, .int .i64 p.e.vn, .string p.e.vs, .string p.e.tab, .string p.e.col, .slice sa p.e.parts.length sc, .int .i64 p.lv, .int .i64 p.dp]
structure PRg (p : Pt) (sa : Option Addr) (sc : Nat) : Prop where
  e : ERg p.e sa sc
  lv : InR p.lv
  dp : 0 ≤ p.dp ∧ p.dp ≤ 1000000
/-- a part by value -/
def PV (w : World) (Q : Nat → Prop) (v : Value) (p : Pt) : Prop := ∃ sa sc, v = .agg (ptX p sa sc).toArray ∧ PRg p sa sc ∧ EL w Q sa p.e.parts
/-- a part in memory -/
def PtAt (w : World) (b : Nat) (p : Pt) (sa : Option Addr) (sc : Nat) : Prop := w.heap[b]? = some (.cells (ptX p sa sc).toArray 202 (0, 0))
theorem prg_zero : PRg zPt none 0 :=
  ⟨⟨rfl, rfl, rfl, by decide, by decide, by decide, by decide, fun _ => ⟨rfl, rfl⟩, Nat.le_refl _, by unfold maxLen; omega⟩, ⟨by decide, by decide⟩, by decide, by decide⟩
/-- a pending's twelve cells; its left part lies in block m.2 -/
abbrev PM := Pd × Nat
def pmX (m : PM) : List Value := [.int .i64 m.1.kind, .string m.1.op, .int .i64 0, .int .i64 0, .string ⟨#[]⟩, .string ⟨#[]⟩, .string ⟨#[]⟩, .slice none 0 0, .int .i64 m.1.lv, (if m.1.left = [] then .slice none 0 0 else .slice (some ⟨m.2, 0, none⟩) 1 1), .bool m.1.closes, .int .i64 m.1.least]
def pmsX (ms : List PM) : List Value := ms.flatMap pmX
theorem pmX_length (m : PM) : (pmX m).length = 12 := rfl
theorem pmsX_length (ms : List PM) : (pmsX ms).length = ms.length * 12 := by
  induction ms with
  | nil => rfl
  | cons m ms ih => show (pmX m ++ pmsX ms).length = _; rw [List.length_append, ih, pmX_length]; simp; omega
theorem pmsX_snoc (ms : List PM) (m : PM) : pmsX (ms ++ [m]) = pmsX ms ++ pmX m := by simp [pmsX]
theorem pmsX_at : ∀ (ms : List PM) (i j : Nat) (hi : i < ms.length), j < 12 → (pmsX ms)[i * 12 + j]? = (pmX (ms[i]))[j]?
  | m :: ms, 0, j, _, hj => by
    show (pmX m ++ pmsX ms)[0 * 12 + j]? = _
    rw [Nat.zero_mul, Nat.zero_add, List.getElem?_append_left (by rw [pmX_length]; exact hj)]; rfl
  | m :: ms, i + 1, j, hi, hj => by
    show (pmX m ++ pmsX ms)[(i + 1) * 12 + j]? = _
    rw [List.getElem?_append_right (by rw [pmX_length]; omega), pmX_length, show (i + 1) * 12 + j - 12 = i * 12 + j by omega]
    exact pmsX_at ms i j (by simpa using hi) hj
/-- what a taker's calls leave: all below it, and all else but its row -/
structure TTo (N : Nat) (v v' : Value) (w w' : World) : Prop where
  below : Below N w w'
  block : ∀ i, i < w.heap.size → i ≠ N → v.ownBlock ≠ some i → w'.heap[i]? = w.heap[i]?
  own : ∀ i, v'.ownBlock = some i → v.ownBlock = some i ∨ w.heap.size ≤ i
theorem TTo.refl (N : Nat) (v : Value) (w : World) : TTo N v v w w := ⟨Below.refl _ _, fun _ _ _ _ => rfl, fun _ h => .inl h⟩
theorem TTo.trans {N : Nat} {v v' v'' : Value} {a b c : World} (h : TTo N v v' a b) (k : TTo N v' v'' b c) : TTo N v v'' a c :=
  ⟨h.below.trans k.below, fun i hi hn hv => (k.block i (Nat.lt_of_lt_of_le hi h.below.size) hn (fun e => (h.own i e).elim hv (fun hge => absurd hi (Nat.not_lt.2 hge)))).trans (h.block i hi hn hv),
   fun i e => (k.own i e).elim (h.own i) (fun hge => .inr (Nat.le_trans h.below.size hge))⟩
theorem TTo.of_below {N : Nat} {v : Value} {w w' : World} (h : Below w.heap.size w w') (hN : N ≤ w.heap.size) : TTo N v v w w' := ⟨h.mono hN, fun i hi _ _ => h.block i hi, fun _ e => .inl e⟩
theorem TTo.setN {N : Nat} {v v' : Value} {a b : World} (h : TTo N v v' a b) (j : Nat) (u : Value) : TTo N v v' a (b.setCell ⟨N, j, none⟩ u) :=
  ⟨h.below.setCell (p := ⟨N, j, none⟩) (Nat.le_refl _) u, fun i hi hn hv => (heap_setCell_other b ⟨N, j, none⟩ i u hn).trans (h.block i hi hn hv), h.own⟩
theorem TTo.drew {N : Nat} {v v' : Value} {a b : World} (h : TTo N v v' a b) : TTo N v v' a b.drew := ⟨h.below.drew, h.block, h.own⟩
/-- the blocks that its calls leave alone -/
def TQ (A : Nat → Prop) (N : Nat) (v : Value) (b : Nat) : Prop := A b ∧ b ≠ N ∧ v.ownBlock ≠ some b
theorem EL.toT {A : Nat → Prop} {N : Nat} {v v' : Value} {w w' : World} {a : Option Addr} {l : List ET} (h : EL w (TQ A N v) a l) (t : TTo N v v' w w') : EL w' (TQ A N v') a l := by
  have h1 : EL w (fun b => TQ A N v b ∧ TQ A N v' b) a l := h.mono (fun b hb hlt => ⟨hb, hb.1, hb.2.1, fun e => (t.own b e).elim hb.2.2 (fun hge => absurd hlt (Nat.not_lt.2 hge))⟩)
  exact (h1.far t.below.size (fun b hb hlt => t.block b hlt hb.1.2.1 hb.1.2.2)).mono (fun b hb _ => hb.2)
theorem PV.toT {A : Nat → Prop} {N : Nat} {v v' : Value} {w w' : World} {u : Value} {p : Pt} (h : PV w (TQ A N v) u p) (t : TTo N v v' w w') : PV w' (TQ A N v') u p := by
  obtain ⟨sa, sc, h1, h2, h3⟩ := h
  exact ⟨sa, sc, h1, h2, h3.toT t⟩
/-- a taker in block N -/
structure TSt (A : Nat → Prop) (N : Nat) (w : World) (wa : Option Addr) (wn wc : Nat) (ws : List Wd) (v : Value) (s : Tk) (ms : List PM) : Prop where
  rd : w.heap[N]? = some (.cells #[.slice wa wn wc, .int .i64 (s.pos : Int), .int .i64 s.least, v] 200 (0, 0))
  own : w.ownsRow (N + 1) 225 12 v ms.length (pmsX ms)
  words : WsB N w wa wn ws
  are : ms.map (·.1) = s.op
  one : ∀ m ∈ ms, m.1.left.length ≤ 1
  lefts : ∀ m ∈ ms, ∀ p, m.1.left = [p] → m.2 < w.heap.size ∧ TQ A N v m.2 ∧ ∃ sa sc, PtAt w m.2 p sa sc ∧ PRg p sa sc ∧ EL w (TQ A N v) sa p.e.parts
  pos : s.pos ≤ wn
  few : s.op.length ≤ s.pos
  least : InR s.least
theorem TSt.low {A : Nat → Prop} {N : Nat} {w : World} {wa : Option Addr} {wn wc : Nat} {ws : List Wd} {v : Value} {s : Tk} {ms : List PM} (h : TSt A N w wa wn wc ws v s ms) : N < w.heap.size := (Array.getElem?_eq_some_iff.1 h.rd).1
theorem TSt.cells {A : Nat → Prop} {N : Nat} {w : World} {wa : Option Addr} {wn wc : Nat} {ws : List Wd} {v : Value} {s : Tk} {ms : List PM} (h : TSt A N w wa wn wc ws v s ms) :
    w.cell? ⟨N, 0, none⟩ = some (.slice wa wn wc) ∧ w.cell? ⟨N, 1, none⟩ = some (.int .i64 (s.pos : Int)) ∧ w.cell? ⟨N, 2, none⟩ = some (.int .i64 s.least) ∧ w.cell? ⟨N, 3, none⟩ = some v ∧ (∀ j, w.frozen? ⟨N, j, none⟩ = false) :=
  ⟨cell_of_row _ _ 0 _ _ _ h.rd, cell_of_row _ _ 1 _ _ _ h.rd, cell_of_row _ _ 2 _ _ _ h.rd, cell_of_row _ _ 3 _ _ _ h.rd, fun j => frozen_of_row _ _ j _ _ h.rd⟩
/-- its memory behind something that leaves it alone -/
theorem TSt.below {A : Nat → Prop} {N : Nat} {w w' : World} {wa : Option Addr} {wn wc : Nat} {ws : List Wd} {v : Value} {s : Tk} {ms : List PM} (h : TSt A N w wa wn wc ws v s ms) (hb : Below w.heap.size w w') : TSt A N w' wa wn wc ws v s ms :=
  ⟨(hb.block _ h.low).trans h.rd, own_below h.own hb, h.words.keep (hb.mono (Nat.le_of_lt h.low)), h.are, h.one,
   fun m hm p hp => by
    obtain ⟨h1, h2, sa, sc, h3, h4, h5⟩ := h.lefts m hm p hp
    exact ⟨Nat.lt_of_lt_of_le h1 hb.size, h2, sa, sc, (hb.block _ h1).trans h3, h4, h5.keep hb⟩,
   h.pos, h.few, h.least⟩
theorem own_setT {w : World} {N : Nat} {e : TypeId} {size : Nat} {v : Value} {n : Nat} {xs : List Value} (h : w.ownsRow (N + 1) e size v n xs) (j : Nat) (x : Value) : (w.setCell ⟨N, j, none⟩ x).ownsRow (N + 1) e size v n xs := by
  refine ⟨h.1, ?_⟩
  rcases h.2 with h0 | ⟨g, cap, cur, a, b, hg, r⟩
  · exact .inl h0
  · refine .inr ⟨g, cap, cur, a, b, ?_, r⟩
    rw [heap_setCell_other _ _ _ _ (by show g ≠ N; omega)]
    exact hg
/-- what it holds besides its own cells, behind a store into these -/
theorem TSt.restN {A : Nat → Prop} {N : Nat} {w : World} {wa : Option Addr} {wn wc : Nat} {ws : List Wd} {v : Value} {s : Tk} {ms : List PM} (h : TSt A N w wa wn wc ws v s ms) (j : Nat) (x : Value) :
    WsB N (w.setCell ⟨N, j, none⟩ x) wa wn ws ∧ ∀ m ∈ ms, ∀ p, m.1.left = [p] → m.2 < (w.setCell ⟨N, j, none⟩ x).heap.size ∧ TQ A N v m.2 ∧ ∃ sa sc, PtAt (w.setCell ⟨N, j, none⟩ x) m.2 p sa sc ∧ PRg p sa sc ∧ EL (w.setCell ⟨N, j, none⟩ x) (TQ A N v) sa p.e.parts := by
  have t := (TTo.refl N v w).setN j x
  refine ⟨h.words.keep t.below, fun m hm p hp => ?_⟩
  obtain ⟨h1, h2, sa, sc, h3, h4, h5⟩ := h.lefts m hm p hp
  exact ⟨Nat.lt_of_lt_of_le h1 t.below.size, h2, sa, sc, (t.block _ h1 h2.2.1 h2.2.2).trans h3, h4, h5.toT t⟩
theorem TSt.adv {A : Nat → Prop} {N : Nat} {w : World} {wa : Option Addr} {wn wc : Nat} {ws : List Wd} {v : Value} {s : Tk} {ms : List PM} (h : TSt A N w wa wn wc ws v s ms) (hp : s.pos < wn) (u : Int) (hu : u = (s.pos : Int) + 1) : TSt A N (w.setCell ⟨N, 1, none⟩ (.int .i64 u)) wa wn wc ws v (adv s) ms := by
  subst hu
  have hr := h.restN 1 (.int .i64 ((s.pos : Int) + 1))
  exact ⟨Go.heap_setCell_same w N 1 _ _ _ h.rd, own_setT h.own _ _, hr.1, h.are, h.one, hr.2, hp, Nat.le_succ_of_le h.few, h.least⟩
theorem TSt.drew {A : Nat → Prop} {N : Nat} {w : World} {wa : Option Addr} {wn wc : Nat} {ws : List Wd} {v : Value} {s : Tk} {ms : List PM} (h : TSt A N w wa wn wc ws v s ms) : TSt A N w.drew wa wn wc ws v s ms := h.below (Below.refl _ _).drew
/-- the same, with other blocks allowed -/
theorem TSt.mono {A A' : Nat → Prop} {N : Nat} {w : World} {wa : Option Addr} {wn wc : Nat} {ws : List Wd} {v : Value} {s : Tk} {ms : List PM} (h : TSt A N w wa wn wc ws v s ms) (hA : ∀ b, A b → b < w.heap.size → A' b) : TSt A' N w wa wn wc ws v s ms :=
  ⟨h.rd, h.own, h.words, h.are, h.one, fun m hm p hp => by
    obtain ⟨h1, h2, sa, sc, h3, h4, h5⟩ := h.lefts m hm p hp
    exact ⟨h1, ⟨hA _ h2.1 h1, h2.2⟩, sa, sc, h3, h4, h5.mono (fun b hb hlt => ⟨hA b hb.1 hlt, hb.2⟩)⟩, h.pos, h.few, h.least⟩
theorem PV.mono {Q Q' : Nat → Prop} {w : World} {u : Value} {p : Pt} (h : PV w Q u p) (hq : ∀ b, Q b → b < w.heap.size → Q' b) : PV w Q' u p := by
  obtain ⟨sa, sc, h1, h2, h3⟩ := h
  exact ⟨sa, sc, h1, h2, h3.mono hq⟩
/-- a store into a block that is none of its own -/
theorem TSt.far {A : Nat → Prop} {N : Nat} {w w' : World} {wa : Option Addr} {wn wc : Nat} {ws : List Wd} {v : Value} {s : Tk} {ms : List PM} (h : TSt A N w wa wn wc ws v s ms) {R : Nat} (hR : N < R) (hA : ¬ A R) (ho : v.ownBlock ≠ some R) (hs : w'.heap.size = w.heap.size) (ht : w'.os = w.os ∧ w'.tape = w.tape ∧ w'.output = w.output) (hb : ∀ i, i ≠ R → w'.heap[i]? = w.heap[i]?) : TSt A N w' wa wn wc ws v s ms := by
  have hbN : Below N w w' := ⟨ht.1, ht.2.1, ht.2.2, Nat.le_of_eq hs.symm, fun i hi => hb i (by omega)⟩
  refine ⟨(hb N (by omega)).trans h.rd, ?_, h.words.keep hbN, h.are, h.one, fun m hm p hp => ?_, h.pos, h.few, h.least⟩
  · refine ⟨h.own.1, ?_⟩
    rcases h.own.2 with h0 | ⟨g, cap, cur, rfl, b, hg, r⟩
    · exact .inl h0
    · exact .inr ⟨g, cap, cur, rfl, b, (hb g (fun e => ho (by rw [e]; rfl))).trans hg, r⟩
  · obtain ⟨h1, h2, sa, sc, h3, h4, h5⟩ := h.lefts m hm p hp
    exact ⟨by rw [hs]; exact h1, h2, sa, sc, (hb _ (fun e => hA (e ▸ h2.1))).trans h3, h4, h5.far (Nat.le_of_eq hs.symm) (fun b hq _ => hb b (fun e => hA (e ▸ hq.1)))⟩
end Go.Proofs.YtknhphcfcpjhiaaGreatDoor
namespace Go.Proofs.YtknhphcfcpjhiaaGreatDoor
open Go.RowKit
set_option linter.unusedVariables false
set_option linter.unusedSimpArgs false
set_option maxRecDepth 100000
theorem bs_list (t : Bs) : (bs t).toList = t := by rw [ByteArray.toList_eq]; simp [bs]
def TakesP (A : Nat → Prop) (N : Nat) (w : World) (wa : Option Addr) (wn wc : Nat) (ws : List Wd) (v : Value) (s : Tk) (ms : List PM) (b : Bool) (e : Ending) (w' : World) : Prop :=
  e = .returned (.bool b) ∧ TSt A N w' wa wn wc ws v (if b = true then adv s else s) ms ∧ TTo N v v w w'
theorem drewT (w : World) (k : Nat) : Below w.heap.size w (w.drewN k) := ⟨rfl, rfl, rfl, Nat.le_refl _, fun _ _ => rfl⟩
theorem cellN {w : World} {p : Addr} {u : Value} (h : w.cell? p = some u) : ∀ k, (w.drewN k).cell? p = some u := fun k => h
theorem TSt.drewN {A : Nat → Prop} {N : Nat} {w : World} {wa : Option Addr} {wn wc : Nat} {ws : List Wd} {v : Value} {s : Tk} {ms : List PM} (h : TSt A N w wa wn wc ws v s ms) (k : Nat) : TSt A N (w.drewN k) wa wn wc ws v s ms := h.below (drewT w k)
theorem TTo.drewN {N : Nat} {v v' : Value} {a b : World} (h : TTo N v v' a b) (k : Nat) : TTo N v v' a (b.drewN k) := ⟨⟨h.below.os, h.below.tape, h.below.output, h.below.size, h.below.block⟩, h.block, h.own⟩
set_option maxHeartbeats 3200000 in
theorem takes_any (kind : Int) (t : Bs) (A : Nat → Prop) (N : Nat) (w : World) (wa : Option Addr) (wn wc : Nat) (ws : List Wd) (v : Value) (s : Tk) (ms : List PM) (h : TSt A N w wa wn wc ws v s ms) :
    Calls Tryz.prog 217 #[.pointer (some ⟨N, 0, none⟩), .int .i64 kind, .string (bs t)] w (TakesP A N w wa wn wc ws v s ms (isW ws s.pos kind t)) := by
  obtain ⟨c0, c1, -, -, fz⟩ := h.cells
  obtain ⟨hl, hn, hc⟩ := h.words
  have hN := h.low
  have HS := Lib.hid h
  have f0 := cellN c0
  have f1 := cellN c1
  obtain ⟨tx, htx⟩ : ∃ tx, tx = bs t := ⟨_, rfl⟩
  have HTx := Lib.hid (show tx.toList = t by rw [htx, bs_list])
  rw [← htx]
  clear htx fz
  by_cases hp : s.pos < wn
  rotate_left
  · have he : s.pos = wn := by have := h.pos; omega
    have HR := Lib.hid (show isW ws s.pos kind t = false by unfold isW; rw [decide_eq_false (by omega)]; rfl)
    have ht1 : ((s.pos : Int) == (wn : Int)) = true := by simp [he]
    clear hl hc h c0 c1
    go_enter Tryz.func217, Tryz.ntmps217
    go_upto_region 1 with (fail)
    go_quiet (fail)
    go_wp2
    go_ret
    rw [HR.out]
    exact ⟨rfl, HS.out.drewN nq, (TTo.refl _ _ _).drewN nq⟩
  obtain ⟨b, off, rfl, hbN, hb, hw⟩ := hc.resolve_left (by omega)
  obtain ⟨q0, q1, -⟩ := hw s.pos hp
  have ht1 : ((s.pos : Int) == (wn : Int)) = false := by simp; omega
  have hp0 : (0 : Int) ≤ (s.pos : Int) := by omega
  have hp1 : (s.pos : Int) < (wn : Int) := by omega
  obtain ⟨k, hk⟩ : ∃ k, k = (wdAt ws s.pos).1 := ⟨_, rfl⟩
  obtain ⟨x, hx⟩ : ∃ x, x = bs (wdAt ws s.pos).2.1 := ⟨_, rfl⟩
  have HIs := Lib.hid (show isW ws s.pos kind t = (k == kind && x.toList == tx.toList) by
    unfold isW
    rw [decide_eq_true (by omega), hk, hx, bs_list, HTx.out]; simp)
  rw [← hk] at q0
  rw [← hx] at q1
  have g0 := cellN q0
  have g1 := cellN q1
  have HPn := Lib.hid hp
  clear hk hx hw hc hl h c0 c1 q0 q1
  by_cases hkk : k = kind
  rotate_left
  · have ht2 : (k != kind) = true := by simp [hkk]
    have ht3 : (k == kind) = false := by simp [hkk]
    go_enter Tryz.func217, Tryz.ntmps217
    go_upto_region 1 with (fail)
    go_quiet (fail)
    go_wp2
    go_ret
    rw [HIs.out, ht3]
    exact ⟨rfl, HS.out.drewN nq, (TTo.refl _ _ _).drewN nq⟩
  subst hkk
  by_cases htt : x.toList = tx.toList
  rotate_left
  · have ht2 : (x.toList != tx.toList) = true := by simp [htt]
    have ht3 : (x.toList == tx.toList) = false := by simp [htt]
    go_enter Tryz.func217, Tryz.ntmps217
    go_upto_region 1 with (fail)
    go_quiet (fail)
    go_wp2
    go_ret
    rw [HIs.out, ht3, Bool.and_false]
    exact ⟨rfl, HS.out.drewN nq, (TTo.refl _ _ _).drewN nq⟩
  have ht2 : (x.toList != tx.toList) = false := by simp [htt]
  have ht3 : (x.toList == tx.toList) = true := by simp [htt]
  have hw1 : wrap64 ((s.pos : Int) + 1) = (s.pos : Int) + 1 := by unfold wrap64; omega
  have hw2 : IntKind.i64.wrap ((s.pos : Int) + 1) = (s.pos : Int) + 1 := by rw [IntKind.wrap_i64]; omega
  go_enter Tryz.func217, Tryz.ntmps217
  go_upto_region 1 with (fail)
  go_quiet (fail)
  have H2 := Lib.hid (HS.out.drewN nq)
  have HT := Lib.hid ((TTo.refl N v w).drewN nq)
  generalize w.drewN nq = w2 at *
  clear f0 f1 g0 g1
  obtain ⟨c0, c1, -, -, fz⟩ := H2.out.cells
  have hN2 := H2.out.low
  go_wp2
  go_ret
  rw [HIs.out, ht3]
  refine ⟨by simp, ?_, ?_⟩
  · simp only [beq_self_eq_true, Bool.and_self, if_pos]
    exact H2.out.adv HPn.out _ rfl
  · exact HT.out.setN 1 _
end Go.Proofs.YtknhphcfcpjhiaaGreatDoor
namespace Go.Proofs.YtknhphcfcpjhiaaGreatDoor
open Go.RowKit
set_option linter.unusedVariables false
set_option linter.unusedSimpArgs false
set_option maxRecDepth 100000

theorem infoE : (Tryz.prog.info? 82).map (fun i => (i.zero, i.size, i.bytes)) = some (some (.agg #[.int .i64 0, .string ⟨#[]⟩, .int .i64 0, .int .i64 0, .string ⟨#[]⟩, .string ⟨#[]⟩, .string ⟨#[]⟩, .slice none 0 0]), 8, 112) := by kernel_rfl
/-- parts that were made, with where their own parts lie -/
def plOf (pl : List (ET × Option Addr × Nat)) : List Value := pl.flatMap fun q => etX q.1 q.2.1 q.2.2
theorem plOf_append (a b : List (ET × Option Addr × Nat)) : plOf (a ++ b) = plOf a ++ plOf b := by unfold plOf; rw [List.flatMap_append]
theorem plOf_at : ∀ (pl : List (ET × Option Addr × Nat)) (i j : Nat) (h : i < pl.length), j < 8 → (plOf pl)[i * 8 + j]? = (etX (pl[i]).1 (pl[i]).2.1 (pl[i]).2.2)[j]?
  | q :: pl, 0, j, _, hj => by
    show (etX q.1 q.2.1 q.2.2 ++ plOf pl)[0 * 8 + j]? = _
    rw [Nat.zero_mul, Nat.zero_add, List.getElem?_append_left (by rw [etX_length]; exact hj)]
    rfl
  | q :: pl, i + 1, j, h, hj => by
    show (etX q.1 q.2.1 q.2.2 ++ plOf pl)[(i + 1) * 8 + j]? = _
    rw [List.getElem?_append_right (by rw [etX_length]; omega), etX_length, show (i + 1) * 8 + j - 8 = i * 8 + j by omega, plOf_at pl i j (by simpa using h) hj]
    rfl
theorem own_el {w : World} {B : Nat} {Q : Nat → Prop} {v : Value} {pl : List (ET × Option Addr × Nat)} (h : w.ownsRow B 82 8 v pl.length (plOf pl)) (hq : ∀ b, v.ownBlock = some b → Q b) (hs : ∀ q ∈ pl, ERg q.1 q.2.1 q.2.2 ∧ EL w Q q.2.1 q.1.parts) :
    ∃ a cap, v = .slice a pl.length cap ∧ EL w Q a (pl.map (·.1)) ∧ (a = none → pl.length = 0 ∧ cap = 0) ∧ pl.length ≤ cap ∧ cap ≤ maxLen := by
  rcases h.2 with ⟨rfl, h0⟩ | ⟨g, cap, cur, rfl, hB, hg, h1, h2, hsz, ht⟩
  · have hz := List.eq_nil_of_length_eq_zero h0
    subst hz
    exact ⟨none, 0, rfl, .nil _, fun _ => ⟨rfl, rfl⟩, Nat.le_refl _, Nat.zero_le _⟩
  · refine ⟨_, cap, rfl, ?_, fun h => (by cases h), h1, h2⟩
    have hl : (pl.map (·.1)).length = pl.length := List.length_map _
    refine .row g 0 _ (fun i => (pl.getD i (default, none, 0)).2.1) (fun i => (pl.getD i (default, none, 0)).2.2) (hq g rfl) (Array.getElem?_eq_some_iff.1 hg).1 (fun i hi => ?_) (fun i hi => ?_) (fun i hi => ?_)
    all_goals
      have hip : i < pl.length := by rw [← hl]; exact hi
      have hgd : pl.getD i (default, none, 0) = pl[i] := by rw [List.getD_eq_getElem?_getD, List.getElem?_eq_getElem hip]; rfl
      simp only [hgd, List.getElem_map]
    · have e : ∀ j, j < 8 → w.cell? ⟨g, 0 + i * 8 + j, none⟩ = (etX (pl[i]).1 (pl[i]).2.1 (pl[i]).2.2)[j]? := fun j hj => by
        rw [Nat.zero_add, h.cellAt (i * 8 + j) (by omega), plOf_at pl i j hip hj]
      exact ⟨e 0 (by omega), e 1 (by omega), e 2 (by omega), e 3 (by omega), e 4 (by omega), e 5 (by omega), e 6 (by omega), e 7 (by omega)⟩
    · exact (hs _ (List.getElem_mem hip)).1
    · exact (hs _ (List.getElem_mem hip)).2
section
variable {W : World} {ops : Array Oper} {rest : List Oper} {o : Oper} {a : Act} {K : Act → World → Prop} {Q : Exit → Act → World → Prop} {E : Prop}
end
theorem alloc_old (w : World) (o : Obj) {i : Nat} (hi : i < w.heap.size) : (w.alloc o).heap[i]? = w.heap[i]? := (World.grownBy_alloc w o none).block i hi (fun e => by cases e)
/-- an expression's cells, its parts in v -/
def etC (e : ET) (v : Value) : Array Value := #[.int .i64 e.kind, .string e.op, .int .i64 e.vk, .int .i64 e.vn, .string e.vs, .string e.tab, .string e.col, v]
/-- within Theirs -/
structure ThRel (w : World) (e : ET) (sa : Option Addr) (n sc : Nat) (pl : List (ET × Option Addr × Nat)) (v : Value) (wr : World) : Prop where
  below : Below w.heap.size w wr
  size : w.heap.size + 3 ≤ wr.heap.size
  arg : wr.heap[w.heap.size]? = some (.cells (etC e (.slice sa n sc)) 61 (0, 0))
  res : wr.heap[w.heap.size + 1]? = some (.cells #[.int .i64 0, .string ⟨#[]⟩, .int .i64 0, .int .i64 0, .string ⟨#[]⟩, .string ⟨#[]⟩, .string ⟨#[]⟩, .slice none 0 0] 82 (0, 0))
  out : wr.heap[w.heap.size + 1 + 1]? = some (.cells (etC e v) 82 (0, 0))
  row : wr.ownsRow (w.heap.size + 3) 82 8 v pl.length (plOf pl)
  sub : ∀ q ∈ pl, ERg q.1 q.2.1 q.2.2 ∧ EL wr (fun b => w.heap.size + 3 ≤ b ∧ v.ownBlock ≠ some b) q.2.1 q.1.parts
/-- a part more: behind the call, the new part's block, the append and the store -/
theorem ThRel.next {w wr w3 w4 : World} {e : ET} {sa : Option Addr} {n sc g cap : Nat} {pl : List (ET × Option Addr × Nat)} {v : Value} {y : ET × Option Addr × Nat} {o : Obj} (h : ThRel w e sa n sc pl v wr) (hb3 : Below wr.heap.size wr w3) (hrg : ERg y.1 y.2.1 y.2.2) (hel : EL w3 (fun b => wr.heap.size ≤ b) y.2.1 y.1.parts)
    (hown : w4.ownsRow (w.heap.size + 3) 82 8 (.slice (some ⟨g, 0, none⟩) (pl.length + 1) cap) (pl ++ [y]).length (plOf (pl ++ [y]))) (hg : (w3.alloc o).grownBy w4 v.ownBlock) (hat : v.ownBlock = some g ∨ g = (w3.alloc o).heap.size) :
    ThRel w e sa n sc (pl ++ [y]) (.slice (some ⟨g, 0, none⟩) (pl.length + 1) cap) (w4.setCell ⟨w.heap.size + 1 + 1, 7, none⟩ (.slice (some ⟨g, 0, none⟩) (pl.length + 1) cap)) := by
  have ha : (w3.alloc o).heap.size = w3.heap.size + 1 := by simp
  have hao : ∀ i, i < w3.heap.size → (w3.alloc o).heap[i]? = w3.heap[i]? := fun i hi => (World.grownBy_alloc w3 o none).block i hi (fun e => by cases e)
  have hlt : ∀ b, v.ownBlock = some b → w.heap.size + 3 ≤ b := fun b hb => (h.row.lt b hb).1
  have hs3 := hb3.size
  have hsz := h.size
  have hs4 := hg.size
  have hgw : wr.heap.size ≤ w4.heap.size := by omega
  have k1 : ∀ i, i < wr.heap.size → v.ownBlock ≠ some i → w4.heap[i]? = wr.heap[i]? := fun i hi hn => (hg.block i (by omega) (fun e => hn e.symm)).trans ((hao i (by omega)).trans (hb3.block i hi))
  have low : ∀ i, i < w.heap.size + 3 → w4.heap[i]? = wr.heap[i]? := fun i hi => k1 i (by omega) (fun e => by have := hlt i e; omega)
  have st : ∀ i, i ≠ w.heap.size + 1 + 1 → (w4.setCell ⟨w.heap.size + 1 + 1, 7, none⟩ (.slice (some ⟨g, 0, none⟩) (pl.length + 1) cap)).heap[i]? = w4.heap[i]? := fun i hi => heap_setCell_other _ _ _ _ hi
  have hx := Go.heap_setCell_same w4 (w.heap.size + 1 + 1) 7 _ _ (.slice (some ⟨g, 0, none⟩) (pl.length + 1) cap) ((low _ (by omega)).trans h.out)
  have hgb : w.heap.size + 3 ≤ g := by
    rcases hat with hat | hat
    · exact hlt g hat
    · omega
  refine ⟨?_, by simpa using Nat.le_trans hsz hgw, (st _ (by omega)).trans ((low _ (by omega)).trans h.arg), (st _ (by omega)).trans ((low _ (by omega)).trans h.res), hx, ?_, fun q hq => ?_⟩
  · have hb := h.below
    exact ⟨hg.os.trans (hb3.os.trans hb.os), hg.tape.trans (hb3.tape.trans hb.tape), hg.output.trans (hb3.output.trans hb.output), by simpa using Nat.le_trans hb.size hgw, fun i hi => (st i (by omega)).trans ((low i (by omega)).trans (hb.block i hi))⟩
  · refine ⟨hown.1, ?_⟩
    rcases hown.2 with ⟨e, _⟩ | ⟨g', c', cur, e, hb, hg', r⟩
    · cases e
    · exact .inr ⟨g', c', cur, e, hb, (st g' (by omega)).trans hg', r⟩
  · have far : ∀ b, w.heap.size + 3 ≤ b → b < w3.heap.size → v.ownBlock ≠ some b → (w4.setCell ⟨w.heap.size + 1 + 1, 7, none⟩ (.slice (some ⟨g, 0, none⟩) (pl.length + 1) cap)).heap[b]? = w3.heap[b]? := fun b h1 h2 h3 => (st b (by omega)).trans ((hg.block b (by omega) (fun e => h3 e.symm)).trans (hao b h2))
    have hgn : ∀ b, b < w3.heap.size → v.ownBlock ≠ some b → (Value.slice (some ⟨g, 0, none⟩) (pl.length + 1) cap).ownBlock ≠ some b := fun b h2 h3 e => by
      have e : g = b := by simpa [Value.ownBlock] using e
      subst e
      rcases hat with hat | hat
      · exact h3 hat
      · omega
    have hsz4 : w3.heap.size ≤ (w4.setCell ⟨w.heap.size + 1 + 1, 7, none⟩ (.slice (some ⟨g, 0, none⟩) (pl.length + 1) cap)).heap.size := by simp; omega
    rcases List.mem_append.1 hq with hq | hq
    · obtain ⟨q1, q2⟩ := h.sub q hq
      have q3 : EL w3 (fun b => (w.heap.size + 3 ≤ b ∧ v.ownBlock ≠ some b) ∧ b < wr.heap.size) q.2.1 q.1.parts := (q2.mono (Q' := fun b => (w.heap.size + 3 ≤ b ∧ v.ownBlock ≠ some b) ∧ b < wr.heap.size) (fun b hb hlt => ⟨hb, hlt⟩)).keep hb3
      have q4 := q3.far hsz4 (fun b hb hlt => far b hb.1.1 hlt hb.1.2)
      exact ⟨q1, q4.mono (fun b hb _ => ⟨hb.1.1, hgn b (by omega) hb.1.2⟩)⟩
    · obtain rfl := List.mem_singleton.1 hq
      have hnb : ∀ b, wr.heap.size ≤ b → v.ownBlock ≠ some b := fun b hb e => by have := (h.row.lt b e).2; omega
      have q3 := (hel.mono (Q' := fun b => wr.heap.size ≤ b ∧ b < w3.heap.size) (fun b hb hlt => ⟨hb, hlt⟩)).far hsz4 (fun b hb hlt => far b (by omega) hlt (hnb b hb.1))
      exact ⟨hrg, q3.mono (fun b hb _ => ⟨by omega, hgn b hb.2 (hnb b hb.1)⟩)⟩
def setLe (w : World) (B : Nat) : Nat → List Value → World
  | _, [] => w
  | k, v :: vs => setLe (w.setCell ⟨B, k, none⟩ v) B (k + 1) vs
theorem setLe_other {B M : Nat} (hM : M ≠ B) : ∀ (vs : List Value) (k : Nat) (w : World), (setLe w B k vs).heap[M]? = w.heap[M]?
  | [], k, w => rfl
  | v :: vs, k, w => (setLe_other hM vs (k + 1) _).trans (heap_setCell_other _ _ _ _ (by exact hM))
theorem setLe_size {B : Nat} : ∀ (vs : List Value) (k : Nat) (w : World), (setLe w B k vs).heap.size = w.heap.size
  | [], k, w => rfl
  | v :: vs, k, w => (setLe_size vs (k + 1) _).trans (by simp)
theorem setLe_below {w0 : World} {K B : Nat} (hK : K ≤ B) : ∀ (vs : List Value) (k : Nat) (w : World), Below K w0 w → Below K w0 (setLe w B k vs)
  | [], k, w, h => h
  | v :: vs, k, w, h => setLe_below hK vs (k + 1) _ (h.setCell (p := ⟨B, k, none⟩) hK v)
theorem etX_arr (e : ET) (sa : Option Addr) (sc : Nat) : (etX e sa sc).toArray = #[.int .i64 e.kind, .string e.op, .int .i64 e.vk, .int .i64 e.vn, .string e.vs, .string e.tab, .string e.col, .slice sa e.parts.length sc] := rfl
end Go.Proofs.YtknhphcfcpjhiaaGreatDoor
