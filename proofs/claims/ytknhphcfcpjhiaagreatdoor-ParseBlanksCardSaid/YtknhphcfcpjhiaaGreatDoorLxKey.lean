/- Contracts of the document's names and keywords: every text. -/
import Derived.Test.YtknhphcfcpjhiaaGreatDoorEtTh
import Derived.Test.YtknhphcfcpjhiaaGreatDoorTkBuild
import Derived.Deep.RegionHeld3
import Derived.Deep.RegionLawGrows
import Derived.Test.YtknhphcfcpjhiaaGreatDoorProg
import Derived.Test.YtknhphcfcpjhiaaGreatDoorLwPure
import Derived.Laws.RangeAny
import Derived.Laws.RangeString
import Derived.Outline
import Derived.Laws.Strings
import Derived.Laws.Strings2
import Derived.Laws.DeepStrings4
import Derived.Deep.DeepCutAuto
namespace Go.Proofs.YtknhphcfcpjhiaaGreatDoor
open Go.RowKit
set_option linter.unusedVariables false
set_option linter.unusedSimpArgs false
set_option maxRecDepth 100000
theorem sign_any (t : Bs) (A : Nat → Prop) (N : Nat) (w : World) (wa : Option Addr) (wn wc : Nat) (ws : List Wd) (v : Value) (s : Tk) (ms : List PM) (h : TSt A N w wa wn wc ws v s ms) :
    Calls Tryz.prog 191 #[.pointer (some ⟨N, 0, none⟩), .string (bs t)] w (TakesP A N w wa wn wc ws v s ms (isW ws s.pos 4 t)) := by
  have HS := Lib.hid h
  clear h
  go_enter Tryz.func191, Tryz.ntmps191
  go_wp2_with fail
  refine (takes_any 4 t A N _ wa wn wc ws v s ms HS.out).mono ?_
  rintro e w1 ⟨rfl, hs, ht⟩
  have H1 := Lib.hid hs
  have HT := Lib.hid ht
  clear hs ht
  go_wp2
  go_ret
  exact ⟨rfl, H1.out, HT.out⟩
theorem kword_any (t : Bs) (A : Nat → Prop) (N : Nat) (w : World) (wa : Option Addr) (wn wc : Nat) (ws : List Wd) (v : Value) (s : Tk) (ms : List PM) (h : TSt A N w wa wn wc ws v s ms) :
    Calls Tryz.prog 190 #[.pointer (some ⟨N, 0, none⟩), .string (bs t)] w (TakesP A N w wa wn wc ws v s ms (isW ws s.pos 1 t)) := by
  have HS := Lib.hid h
  clear h
  go_enter Tryz.func190, Tryz.ntmps190
  go_wp2_with fail
  refine (takes_any 1 t A N _ wa wn wc ws v s ms HS.out).mono ?_
  rintro e w1 ⟨rfl, hs, ht⟩
  have H1 := Lib.hid hs
  have HT := Lib.hid ht
  clear hs ht
  go_wp2
  go_ret
  exact ⟨rfl, H1.out, HT.out⟩
set_option maxHeartbeats 3200000 in
theorem leftLevel_any (l : Int) (w : World) : Calls Tryz.prog 166 #[.int .i64 l] w fun e w' => e = .returned (.int .i64 (leftL l)) ∧ w' = w := by
  unfold leftL
  go_enter Tryz.func166, Tryz.ntmps166
  by_cases h : l = 4
  · subst h
    go_wp2
    go_ret
    exact ⟨rfl, rfl⟩
  · go_wp2
    go_ret
    exact ⟨rfl, rfl⟩
theorem lev_other {t : Bs} (h1 : t ≠ [79, 82]) (h2 : t ≠ [65, 78, 68]) (h3 : t ≠ [61]) (h4 : t ≠ [60, 62]) (h5 : t ≠ [60]) (h6 : t ≠ [60, 61]) (h7 : t ≠ [62]) (h8 : t ≠ [62, 61]) (h9 : t ≠ [43]) (h10 : t ≠ [45]) (h11 : t ≠ [42]) : levB t = 0 := by
  simp [levB, h1, h2, h3, h4, h5, h6, h7, h8, h9, h10, h11]
set_option maxHeartbeats 12800000 in
theorem binaryLevel_any (t : Bs) (w : World) : Calls Tryz.prog 193 #[.string (bs t)] w fun e w' => e = .returned (.int .i64 (levB t)) ∧ w' = w := by
  have one : ∀ (u : Bs), t = u → (∀ W : World, Calls Tryz.prog 193 #[.string ⟨u.toArray⟩] W fun e w' => e = .returned (.int .i64 (levB u)) ∧ w' = W) → Calls Tryz.prog 193 #[.string (bs t)] w fun e w' => e = .returned (.int .i64 (levB t)) ∧ w' = w := fun u hu h => by rw [hu]; exact h w
  by_cases h1 : t = [79, 82]
  · exact one _ h1 (fun W => by go_enter Tryz.func193, Tryz.ntmps193; go_wp2; go_ret; exact ⟨rfl, rfl⟩)
  by_cases h2 : t = [65, 78, 68]
  · exact one _ h2 (fun W => by go_enter Tryz.func193, Tryz.ntmps193; go_wp2; go_ret; exact ⟨rfl, rfl⟩)
  by_cases h3 : t = [61]
  · exact one _ h3 (fun W => by go_enter Tryz.func193, Tryz.ntmps193; go_wp2; go_ret; exact ⟨rfl, rfl⟩)
  by_cases h4 : t = [60, 62]
  · exact one _ h4 (fun W => by go_enter Tryz.func193, Tryz.ntmps193; go_wp2; go_ret; exact ⟨rfl, rfl⟩)
  by_cases h5 : t = [60]
  · exact one _ h5 (fun W => by go_enter Tryz.func193, Tryz.ntmps193; go_wp2; go_ret; exact ⟨rfl, rfl⟩)
  by_cases h6 : t = [60, 61]
  · exact one _ h6 (fun W => by go_enter Tryz.func193, Tryz.ntmps193; go_wp2; go_ret; exact ⟨rfl, rfl⟩)
  by_cases h7 : t = [62]
  · exact one _ h7 (fun W => by go_enter Tryz.func193, Tryz.ntmps193; go_wp2; go_ret; exact ⟨rfl, rfl⟩)
  by_cases h8 : t = [62, 61]
  · exact one _ h8 (fun W => by go_enter Tryz.func193, Tryz.ntmps193; go_wp2; go_ret; exact ⟨rfl, rfl⟩)
  by_cases h9 : t = [43]
  · exact one _ h9 (fun W => by go_enter Tryz.func193, Tryz.ntmps193; go_wp2; go_ret; exact ⟨rfl, rfl⟩)
  by_cases h10 : t = [45]
  · exact one _ h10 (fun W => by go_enter Tryz.func193, Tryz.ntmps193; go_wp2; go_ret; exact ⟨rfl, rfl⟩)
  by_cases h11 : t = [42]
  · exact one _ h11 (fun W => by go_enter Tryz.func193, Tryz.ntmps193; go_wp2; go_ret; exact ⟨rfl, rfl⟩)
  rw [lev_other h1 h2 h3 h4 h5 h6 h7 h8 h9 h10 h11]
  obtain ⟨x, hx⟩ : ∃ x, x = bs t := ⟨_, rfl⟩
  have hl : x.toList = t := by rw [hx, bs_list]
  rw [← hx]
  have e1 : (x.toList == [79, 82]) = false := by rw [hl]; simp [h1]
  have e2 : (x.toList == [65, 78, 68]) = false := by rw [hl]; simp [h2]
  have e3 : (x.toList == [61]) = false := by rw [hl]; simp [h3]
  have e4 : (x.toList == [60, 62]) = false := by rw [hl]; simp [h4]
  have e5 : (x.toList == [60]) = false := by rw [hl]; simp [h5]
  have e6 : (x.toList == [60, 61]) = false := by rw [hl]; simp [h6]
  have e7 : (x.toList == [62]) = false := by rw [hl]; simp [h7]
  have e8 : (x.toList == [62, 61]) = false := by rw [hl]; simp [h8]
  have e9 : (x.toList == [43]) = false := by rw [hl]; simp [h9]
  have e10 : (x.toList == [45]) = false := by rw [hl]; simp [h10]
  have e11 : (x.toList == [42]) = false := by rw [hl]; simp [h11]
  clear hl hx h1 h2 h3 h4 h5 h6 h7 h8 h9 h10 h11 one
  go_enter Tryz.func193, Tryz.ntmps193
  go_wp2
  go_ret
  exact ⟨rfl, rfl⟩
set_option maxHeartbeats 6400000 in
theorem aggWord_any (t : Bs) (w : World) : Calls Tryz.prog 196 #[.string (bs t)] w fun e w' => e = .returned (.bool (aggB t)) ∧ w' = w := by
  have one : ∀ (u : Bs), t = u → (∀ W : World, Calls Tryz.prog 196 #[.string ⟨u.toArray⟩] W fun e w' => e = .returned (.bool (aggB u)) ∧ w' = W) → Calls Tryz.prog 196 #[.string (bs t)] w fun e w' => e = .returned (.bool (aggB t)) ∧ w' = w := fun u hu h => by rw [hu]; exact h w
  by_cases h1 : t = [67, 79, 85, 78, 84]
  · exact one _ h1 (fun W => by go_enter Tryz.func196, Tryz.ntmps196; go_wp2; go_ret; exact ⟨rfl, rfl⟩)
  by_cases h2 : t = [83, 85, 77]
  · exact one _ h2 (fun W => by go_enter Tryz.func196, Tryz.ntmps196; go_wp2; go_ret; exact ⟨rfl, rfl⟩)
  by_cases h3 : t = [77, 73, 78]
  · exact one _ h3 (fun W => by go_enter Tryz.func196, Tryz.ntmps196; go_wp2; go_ret; exact ⟨rfl, rfl⟩)
  by_cases h4 : t = [77, 65, 88]
  · exact one _ h4 (fun W => by go_enter Tryz.func196, Tryz.ntmps196; go_wp2; go_ret; exact ⟨rfl, rfl⟩)
  rw [show aggB t = false by simp [aggB, h1, h2, h3, h4]]
  obtain ⟨x, hx⟩ : ∃ x, x = bs t := ⟨_, rfl⟩
  have hl : x.toList = t := by rw [hx, bs_list]
  rw [← hx]
  have e1 : (x.toList == [67, 79, 85, 78, 84]) = false := by rw [hl]; simp [h1]
  have e2 : (x.toList == [83, 85, 77]) = false := by rw [hl]; simp [h2]
  have e3 : (x.toList == [77, 73, 78]) = false := by rw [hl]; simp [h3]
  have e4 : (x.toList == [77, 65, 88]) = false := by rw [hl]; simp [h4]
  clear hl hx h1 h2 h3 h4 one
  go_enter Tryz.func196, Tryz.ntmps196
  go_wp2
  go_ret
  exact ⟨rfl, rfl⟩
end Go.Proofs.YtknhphcfcpjhiaaGreatDoor
namespace Go.Proofs.YtknhphcfcpjhiaaGreatDoor
open Go.RowKit
set_option linter.unusedVariables false
set_option linter.unusedSimpArgs false
set_option maxRecDepth 100000
theorem infoPm : (Tryz.prog.info? 225).map (fun i => (i.zero, i.size, i.bytes)) = some (some (.agg #[.int .i64 0, .string ⟨#[]⟩, .int .i64 0, .int .i64 0, .string ⟨#[]⟩, .string ⟨#[]⟩, .string ⟨#[]⟩, .slice none 0 0, .int .i64 0, .slice none 0 0, .bool false, .int .i64 0]), 12, 160) := by kernel_rfl
section
variable {W : World} {ops : Array Oper} {rest : List Oper} {o : Oper} {a : Act} {K : Act → World → Prop} {Q : Exit → Act → World → Prop} {E : Prop}
theorem step_pm (hgd : o.guard = none) (s x : Operand) (ho : o.op = .call { callee := .builtin .append, args := #[s, x], argTypes := #[198, 198] })
    (B : Nat) (v : Value) (ms : List PM) (b : Nat) (m : PM) (hs : a.eval s = v) (hx : a.eval x = .slice (some ⟨b, 0, none⟩) 1 1)
    (hown : W.ownsRow B 225 12 v ms.length (pmsX ms)) (hc : W.heap[b]? = some (.cells (pmX m).toArray 225 (0, 0))) (hlen : ms.length ≤ 100000) (hbase : B ≤ W.heap.size)
    (h : ∀ g cap w', w'.ownsRow B 225 12 (.slice (some ⟨g, 0, none⟩) (ms.length + 1) cap) (ms.length + 1) (pmsX (ms ++ [m])) → W.grownBy w' v.ownBlock → (v.ownBlock = some g ∨ g = W.heap.size) → K (a.put o.dst (.slice (some ⟨g, 0, none⟩) (ms.length + 1) cap)) w') :
    if Region.wanted o (yielded ops a.tmps) = true then Oper.wp Tryz.prog o a W K Q else E := by
  have hw : Region.wanted o (yielded ops a.tmps) = true := by simp [Region.wanted, hgd]
  rw [if_pos hw]
  obtain ⟨i0, hi, hz0, hz1, hz2⟩ := info_parts infoPm
  refine wp_append_lies W s x 198 ho B 225 i0 _ 12 160 Tryz.underlying198 hi hz0 hz1 hz2 rfl (by decide) v ms.length _ hs hown ⟨b, 0, none⟩ 1 1 (pmX m) hx rfl ?_ ?_ (by omega) (by unfold maxLen; omega) (by omega) hbase _ rfl ?_
  · exact World.news_of_block hc
  · intro u hu
    simp only [pmX, List.mem_cons, List.not_mem_nil, or_false] at hu
    rcases hu with rfl | rfl | rfl | rfl | rfl | rfl | rfl | rfl | rfl | rfl | rfl | rfl
    all_goals first | rfl | (split <;> rfl)
  · intro g cap w' h1 h2 h3 h4
    refine h g cap w' ?_ h2 h3
    rw [pmsX_snoc]
    exact h1
end
theorem TTo.grown {N : Nat} {v : Value} {w W w' : World} {g n c : Nat} (hl : ∀ k, v.ownBlock = some k → N + 1 ≤ k) (h : TTo N v v w W) (hN : N ≤ W.heap.size) (hg : W.grownBy w' v.ownBlock) (hor : v.ownBlock = some g ∨ g = W.heap.size) : TTo N v (.slice (some ⟨g, 0, none⟩) n c) w w' :=
  ⟨h.below.trans ((Below.refl N W).grown hg hN (fun k hk => by have := hl k hk; omega)), fun i hi hn hv => (hg.block i (Nat.lt_of_lt_of_le hi h.below.size) (fun e => hv e.symm)).trans (h.block i hi hn hv),
   fun i e => by
    have : g = i := by simpa [Value.ownBlock] using e
    subst this
    exact hor.imp id (fun e => by rw [e]; exact h.below.size)⟩
/-- the state behind a push -/
theorem TSt.push {A : Nat → Prop} {N : Nat} {w W w4 : World} {wa : Option Addr} {wn wc g cap : Nat} {ws : List Wd} {v : Value} {s : Tk} {ms : List PM} (h : TSt A N w wa wn wc ws v s ms) (m : PM) (hW : Below w.heap.size w W) (hg : W.grownBy w4 v.ownBlock) (hor : v.ownBlock = some g ∨ g = W.heap.size)
    (hown : w4.ownsRow (N + 1) 225 12 (.slice (some ⟨g, 0, none⟩) (ms.length + 1) cap) (ms.length + 1) (pmsX (ms ++ [m]))) (hm1 : m.1.left.length ≤ 1)
    (hl : ∀ p, m.1.left = [p] → m.2 < w.heap.size ∧ TQ A N v m.2 ∧ ∃ sa sc, PtAt w m.2 p sa sc ∧ PRg p sa sc ∧ EL w (TQ A N v) sa p.e.parts) (hfew : s.op.length + 1 ≤ s.pos) :
    TSt A N (w4.setCell ⟨N, 3, none⟩ (.slice (some ⟨g, 0, none⟩) (ms.length + 1) cap)) wa wn wc ws (.slice (some ⟨g, 0, none⟩) (ms.length + 1) cap) ⟨s.pos, s.least, s.op ++ [m.1]⟩ (ms ++ [m]) ∧ TTo N v (.slice (some ⟨g, 0, none⟩) (ms.length + 1) cap) w (w4.setCell ⟨N, 3, none⟩ (.slice (some ⟨g, 0, none⟩) (ms.length + 1) cap)) ∧ w4.heap[N]? = w.heap[N]? := by
  have hNl := h.low
  have hNs : N ≤ W.heap.size := Nat.le_trans (Nat.le_of_lt hNl) hW.size
  have t4 : TTo N v (.slice (some ⟨g, 0, none⟩) (ms.length + 1) cap) w w4 := TTo.grown (fun k hk => (h.own.lt k hk).1) (.of_below hW (Nat.le_of_lt hNl)) hNs hg hor
  have hN4 : w4.heap[N]? = w.heap[N]? := (hg.block N (Nat.lt_of_lt_of_le hNl hW.size) (fun e => by
    have := (h.own.lt N e.symm).1
    omega)).trans (hW.block N hNl)
  have t5 := t4.setN 3 (.slice (some ⟨g, 0, none⟩) (ms.length + 1) cap)
  refine ⟨⟨?_, ?_, ?_, ?_, ?_, ?_, h.pos, ?_, h.least⟩, t5, hN4⟩
  · exact Go.heap_setCell_same w4 N 3 _ _ _ (hN4.trans h.rd)
  · rw [List.length_append]
    exact own_setT hown _ _
  · exact h.words.keep t5.below
  · rw [List.map_append, h.are]; rfl
  · intro m' hm
    rcases List.mem_append.1 hm with hm | hm
    · exact h.one m' hm
    · obtain rfl := List.mem_singleton.1 hm
      exact hm1
  · intro m' hm p hp
    have hx : m'.2 < w.heap.size ∧ TQ A N v m'.2 ∧ ∃ sa sc, PtAt w m'.2 p sa sc ∧ PRg p sa sc ∧ EL w (TQ A N v) sa p.e.parts := by
      rcases List.mem_append.1 hm with hm | hm
      · exact h.lefts m' hm p hp
      · obtain rfl := List.mem_singleton.1 hm
        exact hl p hp
    obtain ⟨h1, h2, sa, sc, h3, h4, h5⟩ := hx
    refine ⟨Nat.lt_of_lt_of_le h1 t5.below.size, ⟨h2.1, h2.2.1, fun e => (t5.own _ e).elim h2.2.2 (fun hge => absurd h1 (Nat.not_lt.2 hge))⟩, sa, sc, (t5.block _ h1 h2.2.1 h2.2.2).trans h3, h4, h5.toT t5⟩
  · show (s.op ++ [m.1]).length ≤ s.pos
    rw [List.length_append]
    exact hfew
theorem TSt.setLeast {A : Nat → Prop} {N : Nat} {w : World} {wa : Option Addr} {wn wc : Nat} {ws : List Wd} {v : Value} {s : Tk} {ms : List PM} (h : TSt A N w wa wn wc ws v s ms) (l : Int) (hl : InR l) : TSt A N (w.setCell ⟨N, 2, none⟩ (.int .i64 l)) wa wn wc ws v ⟨s.pos, l, s.op⟩ ms := by
  have hr := h.restN 2 (.int .i64 l)
  exact ⟨Go.heap_setCell_same w N 2 _ _ _ h.rd, own_setT h.own _ _, hr.1, h.are, h.one, hr.2, h.pos, h.few, hl⟩
end Go.Proofs.YtknhphcfcpjhiaaGreatDoor
namespace Go.Proofs.YtknhphcfcpjhiaaGreatDoor
open Go.RowKit
set_option linter.unusedVariables false
set_option linter.unusedSimpArgs false
set_option maxRecDepth 100000
theorem row12 {w : World} {N : Nat} {x0 x1 x2 x3 x4 x5 x6 x7 x8 x9 x10 x11 : Value} {T : TypeId} (h : w.heap[N]? = some (.cells #[x0, x1, x2, x3, x4, x5, x6, x7, x8, x9, x10, x11] T (0, 0))) :
    w.cell? ⟨N, 0, none⟩ = some x0 ∧ w.cell? ⟨N, 1, none⟩ = some x1 ∧ w.cell? ⟨N, 2, none⟩ = some x2 ∧ w.cell? ⟨N, 3, none⟩ = some x3 ∧ w.cell? ⟨N, 4, none⟩ = some x4 ∧ w.cell? ⟨N, 5, none⟩ = some x5 ∧ w.cell? ⟨N, 6, none⟩ = some x6 ∧ w.cell? ⟨N, 7, none⟩ = some x7 ∧ w.cell? ⟨N, 8, none⟩ = some x8 ∧ w.cell? ⟨N, 9, none⟩ = some x9 ∧ w.cell? ⟨N, 10, none⟩ = some x10 ∧ w.cell? ⟨N, 11, none⟩ = some x11 ∧ (∀ j, w.frozen? ⟨N, j, none⟩ = false) ∧ N < w.heap.size :=
  ⟨cell_of_row _ _ 0 _ _ _ h, cell_of_row _ _ 1 _ _ _ h, cell_of_row _ _ 2 _ _ _ h, cell_of_row _ _ 3 _ _ _ h, cell_of_row _ _ 4 _ _ _ h, cell_of_row _ _ 5 _ _ _ h, cell_of_row _ _ 6 _ _ _ h, cell_of_row _ _ 7 _ _ _ h, cell_of_row _ _ 8 _ _ _ h, cell_of_row _ _ 9 _ _ _ h, cell_of_row _ _ 10 _ _ _ h, cell_of_row _ _ 11 _ _ _ h, fun j => frozen_of_row _ _ j _ _ h, (Array.getElem?_eq_some_iff.1 h).1⟩
theorem own_sliceT {w : World} {B n size : Nat} {e : TypeId} {v : Value} {xs : List Value} (h : w.ownsRow B e size v n xs) : ∃ a c, v = .slice a n c := by
  rcases h.2 with ⟨rfl, h0⟩ | ⟨g, cap, cur, rfl, _⟩
  · exact ⟨none, 0, by rw [h0]⟩
  · exact ⟨_, _, rfl⟩
def WaitP (A : Nat → Prop) (N : Nat) (w : World) (wa : Option Addr) (wn wc : Nat) (ws : List Wd) (v : Value) (s' : Tk) (ms' : List PM) (e : Ending) (w' : World) : Prop :=
  e = .returned (.tuple #[]) ∧ ∃ v', TSt A N w' wa wn wc ws v' s' ms' ∧ TTo N v v' w w'
set_option maxHeartbeats 12800000 in
theorem wait_any (p : Pd) (la : Nat) (l : Int) (hl : InR l) (A : Nat → Prop) (N : Nat) (w : World) (wa : Option Addr) (wn wc : Nat) (ws : List Wd) (v : Value) (s : Tk) (ms : List PM) (h : TSt A N w wa wn wc ws v s ms) (h1 : p.left.length ≤ 1)
    (hp : ∀ q, p.left = [q] → la < w.heap.size ∧ TQ A N v la ∧ ∃ sa sc, PtAt w la q sa sc ∧ PRg q sa sc ∧ EL w (TQ A N v) sa q.e.parts) (hfew : s.op.length + 1 ≤ s.pos) :
    Calls Tryz.prog 168 #[.pointer (some ⟨N, 0, none⟩), .agg (pmX (p, la)).toArray, .int .i64 l] w (WaitP A N w wa wn wc ws v (waitP s p l) (ms ++ [({ p with least := s.least }, la)])) := by
  obtain ⟨la', n', c', hlf⟩ : ∃ la' n' c', (if p.left = [] then Value.slice none 0 0 else .slice (some ⟨la, 0, none⟩) 1 1) = .slice la' n' c' := by
    by_cases hh : p.left = []
    · exact ⟨_, _, _, if_pos hh⟩
    · exact ⟨_, _, _, if_neg hh⟩
  have hX : (pmX (p, la)).toArray = #[.int .i64 p.kind, .string p.op, .int .i64 0, .int .i64 0, .string ⟨#[]⟩, .string ⟨#[]⟩, .string ⟨#[]⟩, .slice none 0 0, .int .i64 p.lv, .slice la' n' c', .bool p.closes, .int .i64 p.least] := by
    simp only [pmX, hlf]
  have HX2 := Lib.hid (show (pmX ({ p with least := s.least }, la)).toArray = #[.int .i64 p.kind, .string p.op, .int .i64 0, .int .i64 0, .string ⟨#[]⟩, .string ⟨#[]⟩, .string ⟨#[]⟩, .slice none 0 0, .int .i64 p.lv, .slice la' n' c', .bool p.closes, .int .i64 s.least] by
    simp only [pmX, hlf])
  rw [hX]
  have hlow := h.low
  have hB1 := bel0 (.cells #[.int .i64 p.kind, .string p.op, .int .i64 0, .int .i64 0, .string ⟨#[]⟩, .string ⟨#[]⟩, .string ⟨#[]⟩, .slice none 0 0, .int .i64 p.lv, .slice la' n' c', .bool p.closes, .int .i64 p.least] 225) (Below.refl w.heap.size w)
  have hx1 := Go.heap_alloc_new w (.cells #[.int .i64 p.kind, .string p.op, .int .i64 0, .int .i64 0, .string ⟨#[]⟩, .string ⟨#[]⟩, .string ⟨#[]⟩, .slice none 0 0, .int .i64 p.lv, .slice la' n' c', .bool p.closes, .int .i64 p.least] 225 (0, 0))
  have HS := Lib.hid h
  have HP := Lib.hid hp
  have H1 := Lib.hid h1
  have HFw := Lib.hid hfew
  have HL := Lib.hid hl
  have hfew2 := h.few
  have hpos2 := h.pos
  have hwn := h.words.2.1
  have hms : ms.length = s.op.length := by rw [← h.are, List.length_map]
  have HMs := Lib.hid (show ms.length ≤ 100000 by omega)
  clear hX hlf h hp h1 hfew hl
  go_enter Tryz.func168, Tryz.ntmps168
  go_upto_region 1 with (fail)
  generalize w.alloc (.cells #[.int .i64 p.kind, .string p.op, .int .i64 0, .int .i64 0, .string ⟨#[]⟩, .string ⟨#[]⟩, .string ⟨#[]⟩, .slice none 0 0, .int .i64 p.lv, .slice la' n' c', .bool p.closes, .int .i64 p.least] 225) = w1 at *
  have HB1 := Lib.hid hB1
  have HX1 := Lib.hid hx1
  have HT1 := Lib.hid (HS.out.below hB1)
  obtain ⟨b0, b1, b2, b3, b4, b5, b6, b7, b8, b9, b10, b11, bz, bN⟩ := row12 hx1
  obtain ⟨c0, c1, c2, c3, fz⟩ := HT1.out.cells
  have hN1 := HT1.out.low
  clear hB1 hx1 hfew2 hpos2 hwn hms
  go_upto_region 2 with (fail)
  have hne : N ≠ w.heap.size := by omega
  have HB2 := Lib.hid (show Below w.heap.size w (w1.setCell ⟨w.heap.size, 11, none⟩ (.int .i64 s.least)) from HB1.out.setCell (p := ⟨w.heap.size, 11, none⟩) (Nat.le_refl _) _)
  have HS2 := Lib.hid ((HS.out.below HB2.out).setLeast l HL.out)
  have HT2 := Lib.hid ((TTo.of_below (v := v) HB2.out (Nat.le_of_lt hlow)).setN 2 (.int .i64 l))
  have hx2 : ((w1.setCell ⟨w.heap.size, 11, none⟩ (.int .i64 s.least)).setCell ⟨N, 2, none⟩ (.int .i64 l)).heap[w.heap.size]? = some (.cells #[.int .i64 p.kind, .string p.op, .int .i64 0, .int .i64 0, .string ⟨#[]⟩, .string ⟨#[]⟩, .string ⟨#[]⟩, .slice none 0 0, .int .i64 p.lv, .slice la' n' c', .bool p.closes, .int .i64 s.least] 225 (0, 0)) := by
    rw [heap_setCell_other _ _ _ _ (by exact hne.symm)]
    exact Go.heap_setCell_same w1 _ 11 _ _ _ HX1.out
  generalize ((w1.setCell ⟨w.heap.size, 11, none⟩ (.int .i64 s.least)).setCell ⟨N, 2, none⟩ (.int .i64 l)) = w2 at *
  clear b0 b1 b2 b3 b4 b5 b6 b7 b8 b9 b10 b11 bz bN c0 c1 c2 c3 fz hN1
  obtain ⟨b0, b1, b2, b3, b4, b5, b6, b7, b8, b9, b10, b11, -, bN⟩ := row12 hx2
  obtain ⟨c0, c1, c2, c3, fz⟩ := HS2.out.cells
  have hN2 := HS2.out.low
  have HN2 := Lib.hid hN2
  have HLf := Lib.hid (show ∀ q, p.left = [q] → la < w2.heap.size ∧ TQ A N v la ∧ ∃ sa sc, PtAt w2 la q sa sc ∧ PRg q sa sc ∧ EL w2 (TQ A N v) sa q.e.parts from fun q hq => by
    obtain ⟨g1, g2, sa, sc, g3, g4, g5⟩ := HP.out q hq
    exact ⟨Nat.lt_of_lt_of_le g1 HT2.out.below.size, g2, sa, sc, (HT2.out.block _ g1 g2.2.1 g2.2.2).trans g3, g4, g5.toT HT2.out⟩)
  obtain ⟨va, vc, hv⟩ := own_sliceT HS2.out.own
  have HV := Lib.hid hv
  have HPush := Lib.hid (fun (W w4 : World) (g cap : Nat) (hW : Below w2.heap.size w2 W) (hg : W.grownBy w4 v.ownBlock) (hor : v.ownBlock = some g ∨ g = W.heap.size) (hown : w4.ownsRow (N + 1) 225 12 (.slice (some ⟨g, 0, none⟩) (ms.length + 1) cap) (ms.length + 1) (pmsX (ms ++ [({ p with least := s.least }, la)]))) =>
    HS2.out.push ({ p with least := s.least }, la) hW hg hor hown H1.out HLf.out HFw.out)
  have HRow := Lib.hid HS2.out.own
  rw [hv] at c3 HRow
  clear hx2 hv hlow
  go_region_law ((refine step_pm rfl (.tmp 19) (.tmp 21) rfl (N + 1) (.slice va ms.length vc) ms w2.heap.size ({ p with least := s.least }, la) rfl rfl (by exact own_below HRow.out (by repeat (first | exact Below.refl _ _ | refine bel0 _ ?_ | refine Below.drew ?_))) (by rw [HX2.out]; exact Go.heap_alloc_new _ _) HMs.out (by have := HN2.out; simp; omega) ?_; intro g cap w4 hown hgrow hor; rw [← HV.out] at hgrow hor; obtain ⟨hs4, ht4, hn4⟩ := HPush.out _ w4 g cap (by repeat (first | exact Below.refl _ _ | refine bel0 _ ?_ | refine Below.drew ?_)) hgrow hor hown; have HS4 := Lib.hid hs4; have HT4 := Lib.hid ht4; have d3 := cell_of_row _ _ 3 _ _ _ (hn4.trans HS2.out.rd); have dz := frozen_of_row _ _ 3 _ _ (hn4.trans HS2.out.rd); have dN := (Array.getElem?_eq_some_iff.1 (hn4.trans HS2.out.rd)).1; clear hown hgrow hor hs4 ht4 hn4))
  all_goals
    go_wp2
  all_goals
    go_end0
    refine ⟨rfl, .slice (some ⟨g, 0, none⟩) (ms.length + 1) cap, ?_, ?_⟩
    · repeat (first | exact HS4.out | refine TSt.drew ?_)
    · repeat (first | exact HT2.out.trans HT4.out | refine TTo.drew ?_)
end Go.Proofs.YtknhphcfcpjhiaaGreatDoor
namespace Go.Proofs.YtknhphcfcpjhiaaGreatDoor
open Go.RowKit
set_option linter.unusedVariables false
set_option linter.unusedSimpArgs false
set_option maxRecDepth 100000

set_option maxHeartbeats 1600000 in
theorem letter_any (r : Int) (w : World) : Calls Tryz.prog 94 #[.int .i32 r] w fun e w' => e = .returned (.bool (letZ r)) ∧ w' = w := by
  obtain ⟨b, hb⟩ : ∃ b, b = letZ r := ⟨_, rfl⟩
  rw [← hb]
  have HB := Lib.hid hb
  clear hb
  go_enter Tryz.func94, Tryz.ntmps94
  go_wp2
  all_goals go_ret
  all_goals
    refine ⟨?_, rfl⟩
    rw [HB.out]
    simp [letZ]
    try (rw [Bool.eq_iff_iff]; simp only [Bool.or_eq_true, Bool.and_eq_true, decide_eq_true_eq, beq_iff_eq]; omega)
    try omega
set_option maxHeartbeats 1600000 in
theorem digit_any (r : Int) (w : World) : Calls Tryz.prog 113 #[.int .i32 r] w fun e w' => e = .returned (.bool (digZ r)) ∧ w' = w := by
  obtain ⟨b, hb⟩ : ∃ b, b = digZ r := ⟨_, rfl⟩
  rw [← hb]
  have HB := Lib.hid hb
  clear hb
  go_enter Tryz.func113, Tryz.ntmps113
  go_wp2
  all_goals go_ret
  all_goals
    refine ⟨?_, rfl⟩
    rw [HB.out]
    simp [digZ]
    try (rw [Bool.eq_iff_iff]; simp only [Bool.or_eq_true, Bool.and_eq_true, decide_eq_true_eq, beq_iff_eq]; omega)
    try omega
set_option maxHeartbeats 1600000 in
theorem runes_any (s : ByteArray) (w : World) (hs : s.size ≤ 9223372036854775807) : Calls Tryz.prog 97 #[.string s] w fun e w' => e = .returned (.int .i64 (Lib.runeCount s)) ∧ ∃ pos, w' = w.iter s pos := by
  go_enter Tryz.func97, Tryz.ntmps97
  go_wp2
  go_loopw [2] (fun n w' => ∃ (pos b acc : Nat), w' = w.iter s pos ∧ n = .int .i64 acc ∧ acc + Lib.runeCountFrom s b pos = Lib.runeCount s ∧ s.size ≤ pos + b ∧ acc ≤ pos) (fun _ w' => s.size - w'.iterPos w.heap.size)
  case atStart => exact ⟨0, s.size, 0, rfl, rfl, by simp [Lib.runeCount], by omega, Nat.le_refl _⟩
  case round =>
    obtain ⟨pos, b, acc, rfl, rfl, hc, hb, ha⟩ := hrel
    by_cases hp : pos < s.size
    · have hnx : ∀ ty, (Instr.next (.pointer (some ⟨w.heap.size, 0, none⟩)) true ty).run Tryz.prog (w.iter s pos) = _ := fun ty => run_next_any w s pos ty hp
      have hwd := Lib.decode_width_pos s pos hp
      go_wp2
      go_roundw
      case rel =>
        cases b with
        | zero => omega
        | succ b =>
          refine ⟨pos + (Utf8.decode s pos).2, b, acc + 1, rfl, by go_num, ?_, by omega, by omega⟩
          rw [← hc]
          simp [Lib.runeCountFrom, hp]
          omega
      case measure =>
        simp
        omega
    · have hnx : ∀ ty, (Instr.next (.pointer (some ⟨w.heap.size, 0, none⟩)) true ty).run Tryz.prog (w.iter s pos) = _ := fun ty => run_next_end w s pos ty hp
      go_wp2
      go_ret
      rw [Lib.runeCountFrom_end s b pos hp, Nat.add_zero] at hc
      subst hc
      exact ⟨rfl, _, rfl⟩

/-- every rune of a text is one of the machine's -/
theorem rune_step (s : ByteArray) (pos : Nat) (w : World) (hp : pos < s.size) : ∃ (r : Int) (n : Nat), r = (Utf8.decode s pos).1 ∧ n = (Utf8.decode s pos).2 ∧ 1 ≤ n ∧
    ∀ ty, (Instr.next (.pointer (some ⟨w.heap.size, 0, none⟩)) true ty).run Tryz.prog (w.iter s pos) = .ok (.tuple #[.bool true, .int .i64 pos, .int .i32 r]) (w.iter s (pos + n)) :=
  ⟨_, _, rfl, rfl, Lib.decode_width_pos s pos hp, fun ty => run_next_any w s pos ty hp⟩
end Go.Proofs.YtknhphcfcpjhiaaGreatDoor
namespace Go.Proofs.YtknhphcfcpjhiaaGreatDoor
open Go.RowKit
set_option linter.unusedVariables false
set_option linter.unusedSimpArgs false
set_option maxRecDepth 100000

set_option maxHeartbeats 3200000 in
theorem keyword_any (s : ByteArray) (w : World) : Calls Tryz.prog 114 #[.string s] w fun e w' => e = .returned (.bool (kwB s)) ∧ w' = w := by
  obtain ⟨b, hb⟩ : ∃ b, b = kwB s := ⟨_, rfl⟩
  rw [← hb]
  have HB := Lib.hid hb
  clear hb
  go_enter Tryz.func114, Tryz.ntmps114
  go_wp2
  all_goals go_ret
  all_goals first
    | (rename_i h1 h2; rw [h1] at h2; exact absurd h2 (by decide))
    | (have hk : kwB s = true := by
        unfold kwB
        rw [← ByteArray.toList_eq, eq_of_beq ‹(s.toList == _) = true›]
        decide +kernel
       exact ⟨by rw [HB.out, hk]; rfl, rfl⟩)
    | (have hk : kwB s = false := by
        unfold kwB
        rw [← ByteArray.toList_eq]
        unfold kws
        simp only [List.contains_cons, List.contains_nil, *, Bool.or_false]
       exact ⟨by rw [HB.out, hk]; rfl, rfl⟩)

set_option maxHeartbeats 3200000 in
theorem name_any (s : ByteArray) (w : World) (hs : s.size ≤ 9223372036854775807) : Calls Tryz.prog 62 #[.string s] w fun e w' => e = .returned (.bool (nmB s)) ∧ Below w.heap.size w w' := by
  have HB := Lib.hid (show ∀ p, Below w.heap.size w (w.iter s p) from fun p => bel0 _ (Below.refl _ _))
  have HS := Lib.hid hs
  obtain ⟨b, hb⟩ : ∃ b, b = nmB s := ⟨_, rfl⟩
  rw [← hb]
  have HN := Lib.hid hb
  clear hb hs
  go_enter Tryz.func62, Tryz.ntmps62
  go_wp2
  go_loopw [2] (fun n wr => ∃ pos c : Nat, wr = w.iter s pos ∧ n = .bool false ∧ Hid (okFrom s c pos = okAll s ∧ s.size ≤ pos + c)) (fun _ wr => s.size - wr.iterPos w.heap.size)
  case atStart => exact ⟨0, s.size, rfl, rfl, Lib.hid ⟨rfl, by omega⟩⟩
  case round =>
    obtain ⟨pos, c, rfl, rfl, HR⟩ := hrel
    by_cases hp : pos < s.size
    · obtain ⟨r, n, hr, hn, hn1, hnx⟩ := rune_step s pos w hp
      have HP := Lib.hid hp
      have HD := Lib.hid (show r = (Utf8.decode s pos).1 ∧ n = (Utf8.decode s pos).2 ∧ 1 ≤ n from ⟨hr, hn, hn1⟩)
      have HG := Lib.hid (show (letZ r = true ∨ (pos ≠ 0 ∧ digZ r = true)) → ∃ c', okFrom s c' (pos + n) = okAll s ∧ s.size ≤ pos + n + c' from fun h => by
        have hc := HR.out
        cases c with
        | zero => omega
        | succ c => exact ⟨c, by rw [← hc.1, hn, okFrom_good hp (by rw [← hr]; exact h)], by omega⟩)
      have HX := Lib.hid (show letZ r = false → (pos = 0 ∨ digZ r = false) → nmB s = false from fun h1 h2 => by
        unfold nmB
        rw [← HR.out.1, okFrom_bad hp (by rw [← hr]; exact h1) (by rw [← hr]; exact h2) HR.out.2]; rfl)
      clear hr hn hn1 hp
      go_wp2_with fail
      refine (letter_any _ _).mono ?_
      rintro e w1 ⟨rfl, hw⟩
      subst hw
      by_cases hl : letZ r = true
      · obtain ⟨c', h1, h2⟩ := HG.out (.inl hl)
        have HC := Lib.hid (show okFrom s c' (pos + n) = okAll s ∧ s.size ≤ pos + n + c' from ⟨h1, h2⟩)
        rw [hl]
        clear hl h1 h2
        go_wp2
        go_roundw
        case rel => exact ⟨pos + n, c', rfl, rfl, HC⟩
        case measure => have := HD.out; have := HP.out; simp; omega
      · have hl' : letZ r = false := by simpa using hl
        have HL := Lib.hid hl'
        rw [hl']
        clear hl hl'
        by_cases h0 : pos = 0
        · have HF := Lib.hid (HX.out HL.out (.inl h0))
          subst h0
          go_wp2
          go_ret
          exact ⟨by rw [HN.out, HF.out]; rfl, HB.out _⟩
        · have hp0 : ((pos : Int) == 0) = false := by rw [beq_eq_false_iff_ne]; omega
          have H0 := Lib.hid h0
          clear h0
          go_wp2_with fail
          refine (digit_any _ _).mono ?_
          rintro e w1 ⟨rfl, hw⟩
          subst hw
          by_cases hd : digZ r = true
          · obtain ⟨c', h1, h2⟩ := HG.out (.inr ⟨H0.out, hd⟩)
            have HC := Lib.hid (show okFrom s c' (pos + n) = okAll s ∧ s.size ≤ pos + n + c' from ⟨h1, h2⟩)
            rw [hd]
            clear hd h1 h2
            go_wp2
            go_roundw
            case rel => exact ⟨pos + n, c', rfl, rfl, HC⟩
            case measure => have := HD.out; have := HP.out; simp; omega
          · have hd' : digZ r = false := by simpa using hd
            have HF := Lib.hid (HX.out HL.out (.inr hd'))
            rw [hd']
            clear hd hd'
            go_wp2
            go_ret
            exact ⟨by rw [HN.out, HF.out]; rfl, HB.out _⟩
    · have hnx : ∀ ty, (Instr.next (.pointer (some ⟨w.heap.size, 0, none⟩)) true ty).run Tryz.prog (w.iter s pos) = .ok (.tuple #[.bool false]) (w.iter s pos) := fun ty => run_next_end w s pos ty hp
      have HO := Lib.hid (show okAll s = true by rw [← HR.out.1, okFrom_end s c pos hp])
      clear hp
      by_cases h0 : s.size = 0
      · have HF := Lib.hid (show nmB s = false by unfold nmB; rw [h0]; simp)
        have hst : s = ⟨#[]⟩ := by
          apply ByteArray.ext
          exact Array.eq_empty_of_size_eq_zero h0
        have hse : (s.toList == []) = true := by rw [hst]; decide +kernel
        clear h0 hst
        go_wp2
        go_ret
        exact ⟨by rw [HN.out, HF.out]; rfl, HB.out _⟩
      · have hse : (s.toList == []) = false := by
          rw [ByteArray.toList_eq, beq_eq_false_iff_ne]
          intro h
          exact h0 (by show s.data.size = 0; rw [← Array.length_toList, h]; rfl)
        have H0 := Lib.hid (show 0 < s.size by omega)
        clear h0
        go_wp2_with fail
        refine (runes_any s _ HS.out).mono ?_
        rintro e w1 ⟨rfl, q, hw⟩
        have HB1 := Lib.hid (show Below w.heap.size w w1 by rw [hw]; exact bel0 _ (HB.out _))
        clear hw
        by_cases hc : Lib.runeCount s ≤ 16
        · have hci : (Lib.runeCount s : Int) ≤ 16 := by omega
          have HF := Lib.hid (show nmB s = !kwB s by unfold nmB; rw [HO.out, decide_eq_true H0.out, decide_eq_true hc]; rfl)
          clear hc
          go_wp2_with fail
          refine (keyword_any s _).mono ?_
          rintro e w2 ⟨rfl, hw⟩
          subst hw
          go_wp2
          go_ret
          exact ⟨by rw [HN.out, HF.out]; rfl, HB1.out⟩
        · have hci : ¬ (Lib.runeCount s : Int) ≤ 16 := by omega
          have HF := Lib.hid (show nmB s = false by unfold nmB; rw [decide_eq_false hc]; simp)
          clear hc
          go_wp2
          go_ret
          exact ⟨by rw [HN.out, HF.out]; rfl, HB1.out⟩
end Go.Proofs.YtknhphcfcpjhiaaGreatDoor
namespace Go.Proofs.YtknhphcfcpjhiaaGreatDoor
open Go.RowKit
set_option linter.unusedVariables false
set_option linter.unusedSimpArgs false
set_option maxRecDepth 100000

def nmdB (s : ByteArray) : Bool := okAll s && (decide (0 < Lib.runeCount s) && decide (Lib.runeCount s ≤ 16))
theorem nmB_eq (s : ByteArray) : nmB s = (nmdB s && !kwB s) := by
  unfold nmB nmdB
  by_cases h : s.size = 0
  · rw [runes_zero h, h]; simp
  · have := runes_pos (s := s) (by omega)
    rw [decide_eq_true this, decide_eq_true (show 0 < s.size by omega)]
    simp

end Go.Proofs.YtknhphcfcpjhiaaGreatDoor
