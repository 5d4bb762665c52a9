/- Contracts of Formed (the program's and the document's), of the document's ints and texts, Order, Rows: by walks; no conditions. -/
import Derived.Test.YtafhgilikcablaaIns
import Derived.Test.YtafhgilikcablaaProg
import Derived.Deep.Upon
import Derived.Deep.AppendSrc
import Derived.Laws.IdiomCopy
import Derived.Deep.AppendLies
import Derived.Lib.AppendStr
import Derived.Deep.RegionLawGrows
import Derived.Outline
import Derived.WalkKit
import Derived.WalkLawsBesides
import Derived.WalkSpells
import Derived.BigQuiet
import Derived.Deep.QuietTactic
import Derived.Deep.RegionHeld3
import Derived.LoopTactic
import Derived.Lib.Hide
import Derived.RowKit
import Derived.IntWalk
import Derived.StillTailTactics
namespace Go.Proofs.Ytafhgilikcablaa
open Go.RowKit
set_option linter.unusedVariables false
set_option linter.unusedSimpArgs false
set_option maxRecDepth 100000

theorem infoI : (Try.prog.info? 138).map (fun i => (i.zero, i.size, i.bytes)) = some (some (.agg #[.string ⟨#[]⟩, .int .i64 0, .int .i64 0, .int .i64 0, .int .i64 0, .int .i64 0, .string ⟨#[]⟩]), 7, 72) := by kernel_rfl

theorem own_isI {w : World} {B : Nat} {v : Value} {xs : List Ins} (h : w.ownsRow B 138 7 v xs.length (insOf xs)) : ∃ a cap, v = .slice a xs.length cap ∧ IsI w a xs.length xs := by
  rcases h.2 with ⟨rfl, h0⟩ | ⟨g, cap, cur, rfl, hB, hg, h1, h2, hs, ht⟩
  · have hz := List.eq_nil_of_length_eq_zero h0
    subst hz
    exact ⟨none, 0, rfl, rfl, by simp, .inl rfl⟩
  · unfold maxLen at h2
    refine ⟨_, cap, rfl, rfl, by omega, .inr ⟨g, 0, rfl, (Array.getElem?_eq_some_iff.1 hg).1, fun i hi => ?_⟩⟩
    have e : ∀ j, j < 7 → w.cell? ⟨g, 0 + i * 7 + j, none⟩ = (insX (xs.getD i noI))[j]? := fun j hj => by
      rw [Nat.zero_add, h.cellAt (i * 7 + j) (by omega), insOf_at xs i j hi hj]
    exact ⟨e 0 (by omega), e 1 (by omega), e 2 (by omega), e 3 (by omega), e 4 (by omega), e 5 (by omega), e 6 (by omega)⟩

section
variable {W : World} {ops : Array Oper} {rest : List Oper} {o : Oper} {a : Act} {K : Act → World → Prop} {Q : Exit → Act → World → Prop} {E : Prop}
theorem step_insL (hgd : o.guard = none) (s x : Operand) (ho : o.op = .call { callee := .builtin .append, args := #[s, x], argTypes := #[74, 74] })
    (B : Nat) (v : Value) (xs : List Ins) (b : Nat) (y : Ins) (hs : a.eval s = v) (hx : a.eval x = .slice (some ⟨b, 0, none⟩) 1 1)
    (n : Nat) (hown : W.ownsRow B 138 7 v n (insOf xs)) (hc : Cells7 W b 0 y) (hlen : n ≤ 100000) (hbase : B ≤ W.heap.size)
    (h : ∀ g cap w', w'.ownsRow B 138 7 (.slice (some ⟨g, 0, none⟩) (n + 1) cap) (n + 1) (insOf (xs ++ [y])) → W.grownBy w' v.ownBlock → (v.ownBlock = some g ∨ g = W.heap.size) → K (a.put o.dst (.slice (some ⟨g, 0, none⟩) (n + 1) cap)) w') :
    if Region.wanted o (yielded ops a.tmps) = true then Oper.wp Try.prog o a W K Q else E := by
  have hw : Region.wanted o (yielded ops a.tmps) = true := by simp [Region.wanted, hgd]
  rw [if_pos hw]
  obtain ⟨i0, hi, hz0, hz1, hz2⟩ := info_parts infoI
  obtain ⟨c0, c1, c2, c3, c4, c5, c6⟩ := hc
  refine wp_append_lies W s x 74 ho B 138 i0 _ 7 72 Try.underlying74 hi hz0 hz1 hz2 rfl (by decide) v n _ hs hown ⟨b, 0, none⟩ 1 1 (insX y) hx rfl ?_ ?_ (by omega) (by unfold maxLen; omega) (by omega) hbase _ rfl ?_
  · intro j u hu
    match j, hu with
    | 0, hu => simp [insX] at hu; subst hu; exact c0
    | 1, hu => simp [insX] at hu; subst hu; exact c1
    | 2, hu => simp [insX] at hu; subst hu; exact c2
    | 3, hu => simp [insX] at hu; subst hu; exact c3
    | 4, hu => simp [insX] at hu; subst hu; exact c4
    | 5, hu => simp [insX] at hu; subst hu; exact c5
    | 6, hu => simp [insX] at hu; subst hu; exact c6
    | j + 7, hu => simp [insX] at hu
  · intro u hu; simp [insX] at hu; rcases hu with rfl | rfl | rfl | rfl | rfl | rfl | rfl <;> rfl
  · intro g cap w' h1 h2 h3 h4
    refine h g cap w' ?_ h2 h3
    rw [insOf_append]
    simpa [insOf] using h1
end

theorem own_set_low {w : World} {B n size : Nat} {e : TypeId} {v : Value} {xs : List Value} (h : w.ownsRow B e size v n xs) {p : Addr} (hp : p.block < B) (u : Value) : (w.setCell p u).ownsRow B e size v n xs := by
  refine ⟨h.1, ?_⟩
  rcases h.2 with h | ⟨g, cap, cur, a, b, hg, r⟩
  · exact .inl h
  · refine .inr ⟨g, cap, cur, a, b, ?_, r⟩
    have : (w.setCell p u).heap[g]? = w.heap[g]? := Below.heap_setCell w p u g (by omega)
    rw [this]; exact hg

theorem cells7_new (w : World) (x : Ins) (T : TypeId) : Cells7 (w.alloc (.cells #[.string x.op, .int .i64 x.a, .int .i64 x.b, .int .i64 x.c, .int .i64 x.v.1, .int .i64 x.v.2.1, .string x.v.2.2] T)) w.heap.size 0 x := by
  refine ⟨?_, ?_, ?_, ?_, ?_, ?_, ?_⟩ <;> simp [go_sem]

theorem take_ins {xs : List Ins} {k : Nat} (h : k < xs.length) : xs.take (k + 1) = xs.take k ++ [xs.getD k noI] := by
  rw [List.take_succ_eq_append_getElem h, List.getD_eq_getElem?_getD, List.getElem?_eq_getElem h]; rfl

theorem insOf_set (C : Int) : ∀ (xs : List Ins) (j : Nat), j < xs.length → insOf (xs.set j { xs.getD j noI with c := C }) = (insOf xs).set (j * 7 + 3) (.int .i64 C)
  | x :: xs, 0, _ => rfl
  | x :: xs, j + 1, h => by
    have ih := insOf_set C xs j (by simpa using h)
    show insX x ++ insOf (xs.set j { xs.getD j noI with c := C }) = (insX x ++ insOf xs).set ((j + 1) * 7 + 3) (.int .i64 C)
    rw [ih, show (j + 1) * 7 + 3 = (j * 7 + 3) + 7 by omega]
    rfl
theorem own_setI {w : World} {B g n cap : Nat} {xs : List Ins} (h : w.ownsRow B 138 7 (.slice (some ⟨g, 0, none⟩) n cap) n (insOf xs)) (j : Nat) (hj : j < xs.length) (C : Int) :
    (w.setCell ⟨g, j * 7 + 3, none⟩ (.int .i64 C)).ownsRow B 138 7 (.slice (some ⟨g, 0, none⟩) n cap) n (insOf (xs.set j { xs.getD j noI with c := C })) := by
  have hlen := h.1
  rw [insOf_set C xs j hj]
  refine ⟨by simpa using hlen, .inr ?_⟩
  rcases h.2 with ⟨h', _⟩ | ⟨g', cap', cur, he, hb, hg, h1, h2, hs, ht⟩
  · cases h'
  · simp only [Value.slice.injEq, Option.some.injEq, Addr.mk.injEq] at he
    obtain ⟨⟨rfl, _⟩, _, rfl⟩ := he
    refine ⟨g, cap, cur.setIfInBounds (j * 7 + 3) (.int .i64 C), rfl, hb, heap_setCell_same w g (j * 7 + 3) cur _ _ hg, h1, h2, by simpa using hs, ?_⟩
    rw [Array.toList_setIfInBounds, List.take_set, ht]
end Go.Proofs.Ytafhgilikcablaa
namespace Go.Proofs.Ytafhgilikcablaa
open Go.RowKit
set_option linter.unusedVariables false
set_option linter.unusedSimpArgs false
set_option maxRecDepth 100000

theorem fB0 {k n : Int} {s : ByteArray} (hk : (k == 0) = true) (hn : n = 0) : s.toList.isEmpty = formedB k n s := by
  have := eq_of_beq hk; subst this hn
  unfold formedB; rw [Bool.eq_iff_iff]; simp
theorem fB0n {k n : Int} {s : ByteArray} (hk : (k == 0) = true) (hn : ¬ n = 0) : false = formedB k n s := by
  have := eq_of_beq hk; subst this
  unfold formedB; symm; rw [decide_eq_false_iff_not]; simp [hn]
theorem fB1 {k n : Int} {s : ByteArray} (hk : (k == 1) = true) : s.toList.isEmpty = formedB k n s := by
  have := eq_of_beq hk; subst this
  unfold formedB; rw [Bool.eq_iff_iff]; simp
theorem fB2 {k n : Int} {s : ByteArray} (hk : (k == 2) = true) (hn : n = 0) : decide ((s.size : Int) ≤ 100) = formedB k n s := by
  have := eq_of_beq hk; subst this hn
  unfold formedB; rw [Bool.eq_iff_iff]; simp; omega
theorem fB2n {k n : Int} {s : ByteArray} (hk : (k == 2) = true) (hn : ¬ n = 0) : false = formedB k n s := by
  have := eq_of_beq hk; subst this
  unfold formedB; symm; rw [decide_eq_false_iff_not]; simp [hn]
theorem fBn {k n : Int} {s : ByteArray} (h0 : (k == 0) = false) (h1 : (k == 1) = false) (h2 : (k == 2) = false) : false = formedB k n s := by
  unfold formedB; symm; rw [decide_eq_false_iff_not]
  have a := beq_eq_false_iff_ne.1 h0; have b := beq_eq_false_iff_ne.1 h1; have c := beq_eq_false_iff_ne.1 h2
  simp [a, b, c]

theorem formed_any (k n : Int) (s : ByteArray) (w : World) : Calls Try.prog 122 #[.agg #[.int .i64 k, .int .i64 n, .string s]] w fun e w' => e = .returned (.bool (formedB k n s)) ∧ w.alloc (.cells #[.int .i64 k, .int .i64 n, .string s] 38) = w' := by
  go_enter Try.func122, Try.ntmps122
  go_wp2
  all_goals go_ret
  all_goals first
    | exact ⟨ret_bool (fB0 ‹_› ‹_›), by subst_vars; rfl⟩
    | exact ⟨ret_bool (fB0 ‹_› rfl), rfl⟩
    | exact ⟨ret_bool (fB0n ‹_› ‹_›), rfl⟩
    | exact ⟨ret_bool (fB1 ‹_›), rfl⟩
    | exact ⟨ret_bool (fB2 ‹_› ‹_›), by subst_vars; rfl⟩
    | exact ⟨ret_bool (fB2n ‹_› ‹_›), rfl⟩
    | exact ⟨ret_bool (fBn ‹_› ‹_› ‹_›), rfl⟩

theorem rformed_any (k n : Int) (s : ByteArray) (w : World) : Calls Try.prog 139 #[.agg #[.int .i64 k, .int .i64 n, .string s]] w fun e w' => e = .returned (.bool (formedB k n s)) ∧ w.alloc (.cells #[.int .i64 k, .int .i64 n, .string s] 38) = w' := by
  go_enter Try.func139, Try.ntmps139
  go_wp2
  all_goals go_ret
  all_goals first
    | exact ⟨ret_bool (fB0 ‹_› ‹_›), by subst_vars; rfl⟩
    | exact ⟨ret_bool (fB0 ‹_› rfl), rfl⟩
    | exact ⟨ret_bool (fB0n ‹_› ‹_›), rfl⟩
    | exact ⟨ret_bool (fB1 ‹_›), rfl⟩
    | exact ⟨ret_bool (fB2 ‹_› ‹_›), by subst_vars; rfl⟩
    | exact ⟨ret_bool (fB2n ‹_› ‹_›), rfl⟩
    | exact ⟨ret_bool (fBn ‹_› ‹_› ‹_›), rfl⟩

end Go.Proofs.Ytafhgilikcablaa
namespace Go.Proofs.Ytafhgilikcablaa
open Go.RowKit
set_option linter.unusedVariables false
set_option linter.unusedSimpArgs false
set_option maxRecDepth 100000

def andI (a b : Int) : Int := if a = 0 ∨ b = 0 then 0 else if a = 1 ∧ b = 1 then 1 else 2
def notI (a : Int) : Int := if a = 0 then 1 else if a = 1 then 0 else 2
def orI (a b : Int) : Int := notI (andI (notI a) (notI b))
end Go.Proofs.Ytafhgilikcablaa
namespace Go.Proofs.Ytafhgilikcablaa
open Go.RowKit
set_option linter.unusedVariables false
set_option linter.unusedSimpArgs false
set_option maxRecDepth 100000

def cleanI (a : Int) : Int := if a = 0 then 0 else if a = 1 then 1 else 2
theorem clean_any (a : Int) (w : World) : Calls Try.prog 143 #[.int .i64 a] w fun e w' => e = .returned (.int .i64 (cleanI a)) ∧ w = w' := by
  by_cases h0 : a = 0
  · subst h0
    go_enter Try.func143, Try.ntmps143
    go_wp2
    go_ret
    exact ⟨rfl, rfl⟩
  · by_cases h1 : a = 1
    · subst h1
      go_enter Try.func143, Try.ntmps143
      go_wp2
      go_ret
      exact ⟨rfl, rfl⟩
    · have e0 : (a == 0) = false := beq_eq_false_iff_ne.2 h0
      have e1 : (a == 1) = false := beq_eq_false_iff_ne.2 h1
      have hn : cleanI a = 2 := by unfold cleanI; rw [if_neg h0, if_neg h1]
      rw [hn]
      clear hn
      go_enter Try.func143, Try.ntmps143
      go_wp2
      go_ret
      exact ⟨rfl, rfl⟩
theorem rnot_any (a : Int) (w : World) : Calls Try.prog 110 #[.int .i64 a] w fun e w' => e = .returned (.int .i64 (notI a)) ∧ w = w' := by
  by_cases h0 : a = 0
  · subst h0
    go_enter Try.func110, Try.ntmps110
    go_wp2_with fail
    refine (clean_any _ _).mono ?_
    rintro e w' ⟨rfl, rfl⟩
    have hc : cleanI 0 = 0 := rfl
    rw [hc]; clear hc
    go_wp2
    go_ret
    exact ⟨rfl, rfl⟩
  · by_cases h1 : a = 1
    · subst h1
      go_enter Try.func110, Try.ntmps110
      go_wp2_with fail
      refine (clean_any _ _).mono ?_
      rintro e w' ⟨rfl, rfl⟩
      have hc : cleanI 1 = 1 := rfl
      rw [hc]; clear hc
      go_wp2
      go_ret
      exact ⟨rfl, rfl⟩
    · have hc : cleanI a = 2 := by unfold cleanI; rw [if_neg h0, if_neg h1]
      have hn : notI a = 2 := by unfold notI; rw [if_neg h0, if_neg h1]
      have HC := Lib.hid hc
      rw [hn]; clear hc hn
      go_enter Try.func110, Try.ntmps110
      go_wp2_with fail
      refine (clean_any _ _).mono ?_
      rintro e w' ⟨rfl, rfl⟩
      rw [HC.out]
      go_wp2
      go_ret
      exact ⟨rfl, rfl⟩
theorem rand_any (a b : Int) (w : World) : Calls Try.prog 147 #[.int .i64 a, .int .i64 b] w fun e w' => e = .returned (.int .i64 (andI a b)) ∧ w = w' := by
  by_cases h0 : a = 0 ∨ b = 0
  · have hn : andI a b = 0 := by unfold andI; rw [if_pos h0]
    rw [hn]; clear hn
    by_cases ha : a = 0
    · subst ha
      clear h0
      go_enter Try.func147, Try.ntmps147
      go_wp2
      go_ret
      exact ⟨rfl, rfl⟩
    · obtain rfl : b = 0 := by rcases h0 with h | h; exact absurd h ha; exact h
      have e0 : (a == 0) = false := beq_eq_false_iff_ne.2 ha
      clear h0
      go_enter Try.func147, Try.ntmps147
      go_wp2
      go_ret
      exact ⟨rfl, rfl⟩
  · have h0a : ¬ a = 0 := fun h => h0 (.inl h)
    have h0b : ¬ b = 0 := fun h => h0 (.inr h)
    have e0 : (a == 0) = false := beq_eq_false_iff_ne.2 h0a
    have e1 : (b == 0) = false := beq_eq_false_iff_ne.2 h0b
    by_cases h1 : a = 1
    · by_cases h2 : b = 1
      · subst h1 h2
        clear h0 h0a h0b e0 e1
        go_enter Try.func147, Try.ntmps147
        go_wp2
        go_ret
        exact ⟨rfl, rfl⟩
      · have hn : andI a b = 2 := by unfold andI; rw [if_neg h0, if_neg (fun h => h2 h.2)]
        rw [hn]; clear hn
        have e3 : (b == 1) = false := beq_eq_false_iff_ne.2 h2
        subst h1
        clear h0 h0a h0b e0
        go_enter Try.func147, Try.ntmps147
        go_wp2
        go_ret
        exact ⟨rfl, rfl⟩
    · have hn : andI a b = 2 := by unfold andI; rw [if_neg h0, if_neg (fun h => h1 h.1)]
      rw [hn]; clear hn
      have e3 : (a == 1) = false := beq_eq_false_iff_ne.2 h1
      clear h0 h0a h0b
      go_enter Try.func147, Try.ntmps147
      go_wp2
      go_ret
      exact ⟨rfl, rfl⟩
theorem orI_cases (a b : Int) : orI a b = if a = 1 ∨ b = 1 then 1 else if a = 0 ∧ b = 0 then 0 else 2 := by
  unfold orI notI andI
  by_cases a0 : a = 0 <;> by_cases a1 : a = 1 <;> by_cases b0 : b = 0 <;> by_cases b1 : b = 1 <;> simp_all
theorem ror_any (a b : Int) (w : World) : Calls Try.prog 148 #[.int .i64 a, .int .i64 b] w fun e w' => e = .returned (.int .i64 (orI a b)) ∧ w = w' := by
  by_cases h0 : a = 1 ∨ b = 1
  · have hn : orI a b = 1 := by rw [orI_cases, if_pos h0]
    rw [hn]; clear hn
    by_cases ha : a = 1
    · subst ha
      clear h0
      go_enter Try.func148, Try.ntmps148
      go_wp2
      go_ret
      exact ⟨rfl, rfl⟩
    · obtain rfl : b = 1 := by rcases h0 with h | h; exact absurd h ha; exact h
      have e0 : (a == 1) = false := beq_eq_false_iff_ne.2 ha
      clear h0
      go_enter Try.func148, Try.ntmps148
      go_wp2
      go_ret
      exact ⟨rfl, rfl⟩
  · have h0a : ¬ a = 1 := fun h => h0 (.inl h)
    have h0b : ¬ b = 1 := fun h => h0 (.inr h)
    have e0 : (a == 1) = false := beq_eq_false_iff_ne.2 h0a
    have e1 : (b == 1) = false := beq_eq_false_iff_ne.2 h0b
    by_cases h1 : a = 0
    · by_cases h2 : b = 0
      · subst h1 h2
        clear h0 h0a h0b e0 e1
        go_enter Try.func148, Try.ntmps148
        go_wp2
        go_ret
        exact ⟨rfl, rfl⟩
      · have hn : orI a b = 2 := by rw [orI_cases, if_neg h0, if_neg (fun h => h2 h.2)]
        rw [hn]; clear hn
        have e3 : (b == 0) = false := beq_eq_false_iff_ne.2 h2
        subst h1
        clear h0 h0a h0b e0
        go_enter Try.func148, Try.ntmps148
        go_wp2
        go_ret
        exact ⟨rfl, rfl⟩
    · have hn : orI a b = 2 := by rw [orI_cases, if_neg h0, if_neg (fun h => h1 h.1)]
      rw [hn]; clear hn
      have e3 : (a == 0) = false := beq_eq_false_iff_ne.2 h1
      clear h0 h0a h0b
      go_enter Try.func148, Try.ntmps148
      go_wp2
      go_ret
      exact ⟨rfl, rfl⟩
end Go.Proofs.Ytafhgilikcablaa
namespace Go.Proofs.Ytafhgilikcablaa
open Go.RowKit
set_option linter.unusedVariables false
set_option linter.unusedSimpArgs false

theorem oI_lt {a b : Int} (h : a < b) : (-1 : Int) = ordI a b := by unfold ordI; rw [if_pos h]
theorem oI_gt {a b : Int} (h : b < a) : (1 : Int) = ordI a b := by unfold ordI; rw [if_neg (by omega), if_pos h]
theorem oI_eq {a b : Int} (h1 : ¬ a < b) (h : ¬ b < a) : (0 : Int) = ordI a b := by unfold ordI; rw [if_neg h1, if_neg h]

theorem ints_any (a b : Int) (w : World) : Calls Try.prog 169 #[.int .i64 a, .int .i64 b] w fun e w' => e = .returned (.int .i64 (ordI a b)) ∧ w = w' := by
  by_cases h1 : a < b
  · rw [← oI_lt h1]
    go_enter Try.func169, Try.ntmps169
    go_wp2
    go_ret
    exact ⟨rfl, rfl⟩
  · by_cases h2 : b < a
    · rw [← oI_gt h2]
      go_enter Try.func169, Try.ntmps169
      go_wp2
      go_ret
      exact ⟨rfl, rfl⟩
    · rw [← oI_eq h1 h2]
      go_enter Try.func169, Try.ntmps169
      go_wp2
      go_ret
      exact ⟨rfl, rfl⟩

theorem oS_lt {a b : ByteArray} (h : Op.bytesLess a.toList b.toList = true) : (-1 : Int) = ordS a b := by unfold ordS; rw [if_pos h]
theorem oS_eq {a b : ByteArray} (h : Op.bytesLess a.toList b.toList = false) (h2 : (a.toList == b.toList) = true) : (0 : Int) = ordS a b := by
  unfold ordS; rw [if_neg (by rw [h]; exact Bool.false_ne_true), if_pos (eq_of_beq h2)]
theorem oS_gt {a b : ByteArray} (h : Op.bytesLess a.toList b.toList = false) (h2 : (a.toList == b.toList) = false) : (1 : Int) = ordS a b := by
  unfold ordS; rw [if_neg (by rw [h]; exact Bool.false_ne_true), if_neg (beq_eq_false_iff_ne.1 h2)]

theorem texts_any (a b : ByteArray) (w : World) : Calls Try.prog 170 #[.string a, .string b] w fun e w' => e = .returned (.int .i64 (ordS a b)) ∧ w = w' := by
  rcases Bool.eq_false_or_eq_true (Op.bytesLess a.toList b.toList) with h1 | h1
  · rw [← oS_lt h1]
    go_enter Try.func170, Try.ntmps170
    go_wp2
    go_ret
    exact ⟨rfl, rfl⟩
  · rcases Bool.eq_false_or_eq_true (a.toList == b.toList) with h2 | h2
    · rw [← oS_eq h1 h2]
      go_enter Try.func170, Try.ntmps170
      go_wp2
      go_ret
      exact ⟨rfl, rfl⟩
    · rw [← oS_gt h1 h2]
      go_enter Try.func170, Try.ntmps170
      go_wp2
      go_ret
      exact ⟨rfl, rfl⟩
theorem rorder_any (ka na : Int) (sa : ByteArray) (kb nb : Int) (sb : ByteArray) (w : World) :
    Calls Try.prog 141 #[.agg #[.int .i64 ka, .int .i64 na, .string sa], .agg #[.int .i64 kb, .int .i64 nb, .string sb]] w fun e w' => e = .returned (.int .i64 (ordV ka na sa kb nb sb)) ∧ ((w.alloc (.cells #[.int .i64 ka, .int .i64 na, .string sa] 38)).alloc (.cells #[.int .i64 kb, .int .i64 nb, .string sb] 38)) = w' := by
  by_cases hk : ka = kb
  · subst hk
    by_cases hn : na = nb
    · subst hn
      rw [← oV_s]
      go_enter Try.func141, Try.ntmps141
      go_wp2_with (go_at_call 170; refine (texts_any _ _ _).mono ?_; rintro e w' ⟨rfl, rfl⟩)
      go_ret
      exact ⟨rfl, rfl⟩
    · have e1 : (na != nb) = true := bne_iff_ne.2 hn
      rw [← oV_n e1]
      go_enter Try.func141, Try.ntmps141
      go_wp2_with (go_at_call 169; refine (ints_any _ _ _).mono ?_; rintro e w' ⟨rfl, rfl⟩)
      go_ret
      exact ⟨rfl, rfl⟩
  · have e1 : (ka != kb) = true := bne_iff_ne.2 hk
    rw [← oV_k e1]
    go_enter Try.func141, Try.ntmps141
    go_wp2_with (go_at_call 169; refine (ints_any _ _ _).mono ?_; rintro e w' ⟨rfl, rfl⟩)
    go_ret
    exact ⟨rfl, rfl⟩
end Go.Proofs.Ytafhgilikcablaa
