/- The package's taker: wait: what waits lies behind the others. -/
import Derived.Test.YtpinalpigefenaaGreatDoorTkTak
import Derived.Test.YtpinalpigefenaaGreatDoorTkBuild
import Derived.Deep.RegionHeld3
import Derived.Deep.RegionLawGrows
namespace Go.Proofs.YtpinalpigefenaaGreatDoor
open Go.RowKit
set_option linter.unusedVariables false
set_option linter.unusedSimpArgs false
set_option maxRecDepth 100000
theorem sign_any (t : Bs) (A : Nat → Prop) (N : Nat) (w : World) (wa : Option Addr) (wn wc : Nat) (ws : List Wd) (v : Value) (s : Tk) (ms : List PM) (h : TSt A N w wa wn wc ws v s ms) :
    Calls Tryz.prog 268 #[.pointer (some ⟨N, 0, none⟩), .string (bs t)] w (TakesP A N w wa wn wc ws v s ms (isW ws s.pos 4 t)) := by
  have HS := Lib.hid h
  clear h
  go_enter Tryz.func268, Tryz.ntmps268
  go_wp2_with fail
  refine (takes_any 4 t A N _ wa wn wc ws v s ms HS.out).mono ?_
  rintro e w1 ⟨rfl, hs, ht⟩
  have H1 := Lib.hid hs
  have HT := Lib.hid ht
  clear hs ht
  go_wp2
  go_ret
  exact ⟨rfl, H1.out, HT.out⟩
theorem kword_any (t : Bs) (A : Nat → Prop) (N : Nat) (w : World) (wa : Option Addr) (wn wc : Nat) (ws : List Wd) (v : Value) (s : Tk) (ms : List PM) (h : TSt A N w wa wn wc ws v s ms) :
    Calls Tryz.prog 267 #[.pointer (some ⟨N, 0, none⟩), .string (bs t)] w (TakesP A N w wa wn wc ws v s ms (isW ws s.pos 1 t)) := by
  have HS := Lib.hid h
  clear h
  go_enter Tryz.func267, Tryz.ntmps267
  go_wp2_with fail
  refine (takes_any 1 t A N _ wa wn wc ws v s ms HS.out).mono ?_
  rintro e w1 ⟨rfl, hs, ht⟩
  have H1 := Lib.hid hs
  have HT := Lib.hid ht
  clear hs ht
  go_wp2
  go_ret
  exact ⟨rfl, H1.out, HT.out⟩
set_option maxHeartbeats 3200000 in
theorem leftLevel_any (l : Int) (w : World) : Calls Tryz.prog 90 #[.int .i64 l] w fun e w' => e = .returned (.int .i64 (leftL l)) ∧ w' = w := by
  unfold leftL
  go_enter Tryz.func90, Tryz.ntmps90
  by_cases h : l = 4
  · subst h
    go_wp2
    go_ret
    exact ⟨rfl, rfl⟩
  · go_wp2
    go_ret
    exact ⟨rfl, rfl⟩
theorem lev_other {t : Bs} (h1 : t ≠ [79, 82]) (h2 : t ≠ [65, 78, 68]) (h3 : t ≠ [61]) (h4 : t ≠ [60, 62]) (h5 : t ≠ [60]) (h6 : t ≠ [60, 61]) (h7 : t ≠ [62]) (h8 : t ≠ [62, 61]) (h9 : t ≠ [43]) (h10 : t ≠ [45]) (h11 : t ≠ [42]) : levB t = 0 := by
  simp [levB, h1, h2, h3, h4, h5, h6, h7, h8, h9, h10, h11]
set_option maxHeartbeats 12800000 in
theorem binaryLevel_any (t : Bs) (w : World) : Calls Tryz.prog 168 #[.string (bs t)] w fun e w' => e = .returned (.int .i64 (levB t)) ∧ w' = w := by
  have one : ∀ (u : Bs), t = u → (∀ W : World, Calls Tryz.prog 168 #[.string ⟨u.toArray⟩] W fun e w' => e = .returned (.int .i64 (levB u)) ∧ w' = W) → Calls Tryz.prog 168 #[.string (bs t)] w fun e w' => e = .returned (.int .i64 (levB t)) ∧ w' = w := fun u hu h => by rw [hu]; exact h w
  by_cases h1 : t = [79, 82]
  · exact one _ h1 (fun W => by go_enter Tryz.func168, Tryz.ntmps168; go_wp2; go_ret; exact ⟨rfl, rfl⟩)
  by_cases h2 : t = [65, 78, 68]
  · exact one _ h2 (fun W => by go_enter Tryz.func168, Tryz.ntmps168; go_wp2; go_ret; exact ⟨rfl, rfl⟩)
  by_cases h3 : t = [61]
  · exact one _ h3 (fun W => by go_enter Tryz.func168, Tryz.ntmps168; go_wp2; go_ret; exact ⟨rfl, rfl⟩)
  by_cases h4 : t = [60, 62]
  · exact one _ h4 (fun W => by go_enter Tryz.func168, Tryz.ntmps168; go_wp2; go_ret; exact ⟨rfl, rfl⟩)
  by_cases h5 : t = [60]
  · exact one _ h5 (fun W => by go_enter Tryz.func168, Tryz.ntmps168; go_wp2; go_ret; exact ⟨rfl, rfl⟩)
  by_cases h6 : t = [60, 61]
  · exact one _ h6 (fun W => by go_enter Tryz.func168, Tryz.ntmps168; go_wp2; go_ret; exact ⟨rfl, rfl⟩)
  by_cases h7 : t = [62]
  · exact one _ h7 (fun W => by go_enter Tryz.func168, Tryz.ntmps168; go_wp2; go_ret; exact ⟨rfl, rfl⟩)
  by_cases h8 : t = [62, 61]
  · exact one _ h8 (fun W => by go_enter Tryz.func168, Tryz.ntmps168; go_wp2; go_ret; exact ⟨rfl, rfl⟩)
  by_cases h9 : t = [43]
  · exact one _ h9 (fun W => by go_enter Tryz.func168, Tryz.ntmps168; go_wp2; go_ret; exact ⟨rfl, rfl⟩)
  by_cases h10 : t = [45]
  · exact one _ h10 (fun W => by go_enter Tryz.func168, Tryz.ntmps168; go_wp2; go_ret; exact ⟨rfl, rfl⟩)
  by_cases h11 : t = [42]
  · exact one _ h11 (fun W => by go_enter Tryz.func168, Tryz.ntmps168; go_wp2; go_ret; exact ⟨rfl, rfl⟩)
  rw [lev_other h1 h2 h3 h4 h5 h6 h7 h8 h9 h10 h11]
  obtain ⟨x, hx⟩ : ∃ x, x = bs t := ⟨_, rfl⟩
  have hl : x.toList = t := by rw [hx, bs_list]
  rw [← hx]
  have e1 : (x.toList == [79, 82]) = false := by rw [hl]; simp [h1]
  have e2 : (x.toList == [65, 78, 68]) = false := by rw [hl]; simp [h2]
  have e3 : (x.toList == [61]) = false := by rw [hl]; simp [h3]
  have e4 : (x.toList == [60, 62]) = false := by rw [hl]; simp [h4]
  have e5 : (x.toList == [60]) = false := by rw [hl]; simp [h5]
  have e6 : (x.toList == [60, 61]) = false := by rw [hl]; simp [h6]
  have e7 : (x.toList == [62]) = false := by rw [hl]; simp [h7]
  have e8 : (x.toList == [62, 61]) = false := by rw [hl]; simp [h8]
  have e9 : (x.toList == [43]) = false := by rw [hl]; simp [h9]
  have e10 : (x.toList == [45]) = false := by rw [hl]; simp [h10]
  have e11 : (x.toList == [42]) = false := by rw [hl]; simp [h11]
  clear hl hx h1 h2 h3 h4 h5 h6 h7 h8 h9 h10 h11 one
  go_enter Tryz.func168, Tryz.ntmps168
  go_wp2
  go_ret
  exact ⟨rfl, rfl⟩
set_option maxHeartbeats 6400000 in
theorem aggWord_any (t : Bs) (w : World) : Calls Tryz.prog 260 #[.string (bs t)] w fun e w' => e = .returned (.bool (aggB t)) ∧ w' = w := by
  have one : ∀ (u : Bs), t = u → (∀ W : World, Calls Tryz.prog 260 #[.string ⟨u.toArray⟩] W fun e w' => e = .returned (.bool (aggB u)) ∧ w' = W) → Calls Tryz.prog 260 #[.string (bs t)] w fun e w' => e = .returned (.bool (aggB t)) ∧ w' = w := fun u hu h => by rw [hu]; exact h w
  by_cases h1 : t = [67, 79, 85, 78, 84]
  · exact one _ h1 (fun W => by go_enter Tryz.func260, Tryz.ntmps260; go_wp2; go_ret; exact ⟨rfl, rfl⟩)
  by_cases h2 : t = [83, 85, 77]
  · exact one _ h2 (fun W => by go_enter Tryz.func260, Tryz.ntmps260; go_wp2; go_ret; exact ⟨rfl, rfl⟩)
  by_cases h3 : t = [77, 73, 78]
  · exact one _ h3 (fun W => by go_enter Tryz.func260, Tryz.ntmps260; go_wp2; go_ret; exact ⟨rfl, rfl⟩)
  by_cases h4 : t = [77, 65, 88]
  · exact one _ h4 (fun W => by go_enter Tryz.func260, Tryz.ntmps260; go_wp2; go_ret; exact ⟨rfl, rfl⟩)
  rw [show aggB t = false by simp [aggB, h1, h2, h3, h4]]
  obtain ⟨x, hx⟩ : ∃ x, x = bs t := ⟨_, rfl⟩
  have hl : x.toList = t := by rw [hx, bs_list]
  rw [← hx]
  have e1 : (x.toList == [67, 79, 85, 78, 84]) = false := by rw [hl]; simp [h1]
  have e2 : (x.toList == [83, 85, 77]) = false := by rw [hl]; simp [h2]
  have e3 : (x.toList == [77, 73, 78]) = false := by rw [hl]; simp [h3]
  have e4 : (x.toList == [77, 65, 88]) = false := by rw [hl]; simp [h4]
  clear hl hx h1 h2 h3 h4 one
  go_enter Tryz.func260, Tryz.ntmps260
  go_wp2
  go_ret
  exact ⟨rfl, rfl⟩
end Go.Proofs.YtpinalpigefenaaGreatDoor
namespace Go.Proofs.YtpinalpigefenaaGreatDoor
open Go.RowKit
set_option linter.unusedVariables false
set_option linter.unusedSimpArgs false
set_option maxRecDepth 100000
theorem infoPm : (Tryz.prog.info? 292).map (fun i => (i.zero, i.size, i.bytes)) = some (some (.agg #[.int .i64 0, .string ⟨#[]⟩, .int .i64 0, .int .i64 0, .string ⟨#[]⟩, .string ⟨#[]⟩, .string ⟨#[]⟩, .slice none 0 0, .int .i64 0, .slice none 0 0, .bool false, .int .i64 0]), 12, 160) := by kernel_rfl
section
variable {W : World} {ops : Array Oper} {rest : List Oper} {o : Oper} {a : Act} {K : Act → World → Prop} {Q : Exit → Act → World → Prop} {E : Prop}
theorem step_pm (hgd : o.guard = none) (s x : Operand) (ho : o.op = .call { callee := .builtin .append, args := #[s, x], argTypes := #[179, 179] })
    (B : Nat) (v : Value) (ms : List PM) (b : Nat) (m : PM) (hs : a.eval s = v) (hx : a.eval x = .slice (some ⟨b, 0, none⟩) 1 1)
    (hown : W.ownsRow B 292 12 v ms.length (pmsX ms)) (hc : W.heap[b]? = some (.cells (pmX m).toArray 292 (0, 0))) (hlen : ms.length ≤ 100000) (hbase : B ≤ W.heap.size)
    (h : ∀ g cap w', w'.ownsRow B 292 12 (.slice (some ⟨g, 0, none⟩) (ms.length + 1) cap) (ms.length + 1) (pmsX (ms ++ [m])) → W.grownBy w' v.ownBlock → (v.ownBlock = some g ∨ g = W.heap.size) → K (a.put o.dst (.slice (some ⟨g, 0, none⟩) (ms.length + 1) cap)) w') :
    if Region.wanted o (yielded ops a.tmps) = true then Oper.wp Tryz.prog o a W K Q else E := by
  have hw : Region.wanted o (yielded ops a.tmps) = true := by simp [Region.wanted, hgd]
  rw [if_pos hw]
  obtain ⟨i0, hi, hz0, hz1, hz2⟩ := info_parts infoPm
  refine wp_append_lies W s x 179 ho B 292 i0 _ 12 160 Tryz.underlying179 hi hz0 hz1 hz2 rfl (by decide) v ms.length _ hs hown ⟨b, 0, none⟩ 1 1 (pmX m) hx rfl ?_ ?_ (by omega) (by unfold maxLen; omega) (by omega) hbase _ rfl ?_
  · exact World.news_of_block hc
  · intro u hu
    simp only [pmX, List.mem_cons, List.not_mem_nil, or_false] at hu
    rcases hu with rfl | rfl | rfl | rfl | rfl | rfl | rfl | rfl | rfl | rfl | rfl | rfl
    all_goals first | rfl | (split <;> rfl)
  · intro g cap w' h1 h2 h3 h4
    refine h g cap w' ?_ h2 h3
    rw [pmsX_snoc]
    exact h1
end
theorem TTo.grown {N : Nat} {v : Value} {w W w' : World} {g n c : Nat} (hl : ∀ k, v.ownBlock = some k → N + 1 ≤ k) (h : TTo N v v w W) (hN : N ≤ W.heap.size) (hg : W.grownBy w' v.ownBlock) (hor : v.ownBlock = some g ∨ g = W.heap.size) : TTo N v (.slice (some ⟨g, 0, none⟩) n c) w w' :=
  ⟨h.below.trans ((Below.refl N W).grown hg hN (fun k hk => by have := hl k hk; omega)), fun i hi hn hv => (hg.block i (Nat.lt_of_lt_of_le hi h.below.size) (fun e => hv e.symm)).trans (h.block i hi hn hv),
   fun i e => by
    have : g = i := by simpa [Value.ownBlock] using e
    subst this
    exact hor.imp id (fun e => by rw [e]; exact h.below.size)⟩
/-- the state behind a push -/
theorem TSt.push {A : Nat → Prop} {N : Nat} {w W w4 : World} {wa : Option Addr} {wn wc g cap : Nat} {ws : List Wd} {v : Value} {s : Tk} {ms : List PM} (h : TSt A N w wa wn wc ws v s ms) (m : PM) (hW : Below w.heap.size w W) (hg : W.grownBy w4 v.ownBlock) (hor : v.ownBlock = some g ∨ g = W.heap.size)
    (hown : w4.ownsRow (N + 1) 292 12 (.slice (some ⟨g, 0, none⟩) (ms.length + 1) cap) (ms.length + 1) (pmsX (ms ++ [m]))) (hm1 : m.1.left.length ≤ 1)
    (hl : ∀ p, m.1.left = [p] → m.2 < w.heap.size ∧ TQ A N v m.2 ∧ ∃ sa sc, PtAt w m.2 p sa sc ∧ PRg p sa sc ∧ EL w (TQ A N v) sa p.e.parts) (hfew : s.op.length + 1 ≤ s.pos) :
    TSt A N (w4.setCell ⟨N, 3, none⟩ (.slice (some ⟨g, 0, none⟩) (ms.length + 1) cap)) wa wn wc ws (.slice (some ⟨g, 0, none⟩) (ms.length + 1) cap) ⟨s.pos, s.least, s.op ++ [m.1]⟩ (ms ++ [m]) ∧ TTo N v (.slice (some ⟨g, 0, none⟩) (ms.length + 1) cap) w (w4.setCell ⟨N, 3, none⟩ (.slice (some ⟨g, 0, none⟩) (ms.length + 1) cap)) ∧ w4.heap[N]? = w.heap[N]? := by
  have hNl := h.low
  have hNs : N ≤ W.heap.size := Nat.le_trans (Nat.le_of_lt hNl) hW.size
  have t4 : TTo N v (.slice (some ⟨g, 0, none⟩) (ms.length + 1) cap) w w4 := TTo.grown (fun k hk => (h.own.lt k hk).1) (.of_below hW (Nat.le_of_lt hNl)) hNs hg hor
  have hN4 : w4.heap[N]? = w.heap[N]? := (hg.block N (Nat.lt_of_lt_of_le hNl hW.size) (fun e => by
    have := (h.own.lt N e.symm).1
    omega)).trans (hW.block N hNl)
  have t5 := t4.setN 3 (.slice (some ⟨g, 0, none⟩) (ms.length + 1) cap)
  refine ⟨⟨?_, ?_, ?_, ?_, ?_, ?_, h.pos, ?_, h.least⟩, t5, hN4⟩
  · exact Go.heap_setCell_same w4 N 3 _ _ _ (hN4.trans h.rd)
  · rw [List.length_append]
    exact own_setT hown _ _
  · exact h.words.keep t5.below
  · rw [List.map_append, h.are]; rfl
  · intro m' hm
    rcases List.mem_append.1 hm with hm | hm
    · exact h.one m' hm
    · obtain rfl := List.mem_singleton.1 hm
      exact hm1
  · intro m' hm p hp
    have hx : m'.2 < w.heap.size ∧ TQ A N v m'.2 ∧ ∃ sa sc, PtAt w m'.2 p sa sc ∧ PRg p sa sc ∧ EL w (TQ A N v) sa p.e.parts := by
      rcases List.mem_append.1 hm with hm | hm
      · exact h.lefts m' hm p hp
      · obtain rfl := List.mem_singleton.1 hm
        exact hl p hp
    obtain ⟨h1, h2, sa, sc, h3, h4, h5⟩ := hx
    refine ⟨Nat.lt_of_lt_of_le h1 t5.below.size, ⟨h2.1, h2.2.1, fun e => (t5.own _ e).elim h2.2.2 (fun hge => absurd h1 (Nat.not_lt.2 hge))⟩, sa, sc, (t5.block _ h1 h2.2.1 h2.2.2).trans h3, h4, h5.toT t5⟩
  · show (s.op ++ [m.1]).length ≤ s.pos
    rw [List.length_append]
    exact hfew
theorem TSt.setLeast {A : Nat → Prop} {N : Nat} {w : World} {wa : Option Addr} {wn wc : Nat} {ws : List Wd} {v : Value} {s : Tk} {ms : List PM} (h : TSt A N w wa wn wc ws v s ms) (l : Int) (hl : InR l) : TSt A N (w.setCell ⟨N, 2, none⟩ (.int .i64 l)) wa wn wc ws v ⟨s.pos, l, s.op⟩ ms := by
  have hr := h.restN 2 (.int .i64 l)
  exact ⟨Go.heap_setCell_same w N 2 _ _ _ h.rd, own_setT h.own _ _, hr.1, h.are, h.one, hr.2, h.pos, h.few, hl⟩
end Go.Proofs.YtpinalpigefenaaGreatDoor
