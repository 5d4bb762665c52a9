/- Reckon: plain mathematics. (Turned from round 1.) -/
import Derived.Test.YtpinalpigefenaaGreatDoorBkRead
import Derived.Test.YtpinalpigefenaaGreatDoorValPure
import Derived.Test.YtpinalpigefenaaGreatDoorLxPure
import Derived.StillTail
import Derived.BigQuiet
import Derived.Deep.RegionHeld3
import Derived.Below
import Derived.RowKit
import Derived.IntWalk
import Derived.WalkKit
import Derived.WalkLawsBesides
import Derived.WalkSpells
import Derived.Outline
import Derived.Deep.QuietTactic
import Derived.StillTailTactics
import Derived.LoopTactic
import Derived.Lib.Hide
namespace Go.Proofs.YtpinalpigefenaaGreatDoor
open Go.RowKit
set_option linter.unusedVariables false
set_option linter.unusedSimpArgs false
set_option maxRecDepth 100000
theorem kws_no : NmOk nmB := by
  intro t h
  unfold nmB at h
  simp only [Bool.and_eq_true, Bool.not_eq_true', kwB] at h
  have h2 := h.2
  refine ⟨?_, ?_, ?_⟩
  · intro e; rw [e] at h2; revert h2; decide
  · intro e; rw [e] at h2; revert h2; decide
  · cases ha : aggB t.data.toList with
    | false => rfl
    | true =>
      unfold aggB at ha
      simp only [Bool.or_eq_true, beq_iff_eq] at ha
      rcases ha with ((e | e) | e) | e <;> (rw [e] at h2; revert h2; decide)
theorem tl_eq {s : ByteArray} {l : List UInt8} (h : s.toList = l) : s = ⟨l.toArray⟩ := by subst h; rw [ByteArray.toList_eq]
theorem inB_mem {s : ByteArray} : ∀ {l : List ByteArray}, inB s l = true → s ∈ l
  | [], h => by cases h
  | x :: l, h => by
    unfold inB at h
    split at h
    · rename_i hx
      have : x.toList = s.toList := eq_of_beq hx
      rw [ByteArray.toList_eq, ByteArray.toList_eq] at this
      have hxs : x = s := by cases x; cases s; simp_all
      rw [hxs]
      exact List.mem_cons_self
    · exact List.mem_cons_of_mem _ (inB_mem h)
/-- what is sound is formed -/
theorem fm_of : ∀ (n : Nat) (e : ET), sndB (shD nmB formedB) n e = true → FmE nmB n e
  | 0, e, h => by cases h
  | n + 1, .mk k op vk vn vs tab col ps, h => by
    unfold sndB at h
    rw [Bool.and_eq_true] at h
    obtain ⟨h1, h2⟩ := h
    have hps : ∀ p ∈ ps, FmE nmB n p := fun p hp => fm_of n p (List.all_eq_true.1 h2 p hp)
    replace h1 : (if k = 1 then decide (ps.length = 0) && decide (tab.toList = []) && decide (col.toList = []) && decide (op.toList = []) && formedB vk vn vs && decide (0 ≤ vn) else if k = 2 then decide (ps.length = 0) && decide (vk = 0) && decide (vn = 0) && decide (vs.toList = []) && decide (op.toList = []) && nmB col && (decide (tab.toList = []) || nmB tab) else if k = 3 then decide (ps.length = 1) && decide (tab.toList = []) && decide (col.toList = []) && decide (vk = 0) && decide (vn = 0) && decide (vs.toList = []) && inB op [⟨#[78, 79, 84]⟩, ⟨#[45]⟩] else if k = 4 then decide (ps.length = 2) && decide (tab.toList = []) && decide (col.toList = []) && decide (vk = 0) && decide (vn = 0) && decide (vs.toList = []) && inB op [⟨#[79, 82]⟩, ⟨#[65, 78, 68]⟩, ⟨#[61]⟩, ⟨#[60, 62]⟩, ⟨#[60]⟩, ⟨#[60, 61]⟩, ⟨#[62]⟩, ⟨#[62, 61]⟩, ⟨#[43]⟩, ⟨#[45]⟩, ⟨#[42]⟩] else if k = 5 then decide (ps.length = 1) && decide (tab.toList = []) && decide (col.toList = []) && decide (vk = 0) && decide (vn = 0) && decide (vs.toList = []) && inB op [⟨#[73, 83, 32, 78, 85, 76, 76]⟩, ⟨#[73, 83, 32, 78, 79, 84, 32, 78, 85, 76, 76]⟩] else if k = 6 then decide (tab.toList = []) && decide (col.toList = []) && decide (vk = 0) && decide (vn = 0) && decide (vs.toList = []) && inB op [⟨#[67, 79, 85, 78, 84]⟩, ⟨#[83, 85, 77]⟩, ⟨#[77, 73, 78]⟩, ⟨#[77, 65, 88]⟩] && (decide (ps.length = 1) || decide (ps.length = 0) && decide (op.toList = [67, 79, 85, 78, 84])) else false) = true := h1
    by_cases k1 : k = 1
    · rw [if_pos k1] at h1
      subst k1
      simp only [Bool.and_eq_true, decide_eq_true_eq] at h1
      obtain ⟨⟨⟨⟨⟨a1, a2⟩, a3⟩, a4⟩, a5⟩, a6⟩ := h1
      obtain rfl := List.eq_nil_of_length_eq_zero a1
      obtain rfl := tl_eq a2
      obtain rfl := tl_eq a3
      obtain rfl := tl_eq a4
      refine .lit ?_
      unfold formedB at a5
      rw [decide_eq_true_eq] at a5
      rcases a5 with ⟨b1, b2, b3⟩ | ⟨b1, b3⟩ | ⟨b1, b2, b3⟩
      · exact .inl ⟨b1, b2, tl_eq b3⟩
      · exact .inr (.inl ⟨b1, a6, tl_eq b3⟩)
      · exact .inr (.inr ⟨b1, b2, b3⟩)
    rw [if_neg k1] at h1
    by_cases k2 : k = 2
    · rw [if_pos k2] at h1
      subst k2
      simp only [Bool.and_eq_true, Bool.or_eq_true, decide_eq_true_eq] at h1
      obtain ⟨⟨⟨⟨⟨⟨a1, a2⟩, a3⟩, a4⟩, a5⟩, a6⟩, a7⟩ := h1
      obtain rfl := List.eq_nil_of_length_eq_zero a1
      subst a2 a3
      obtain rfl := tl_eq a4
      obtain rfl := tl_eq a5
      exact .col a6 (a7.imp tl_eq id)
    rw [if_neg k2] at h1
    by_cases k3 : k = 3
    · rw [if_pos k3] at h1
      subst k3
      simp only [Bool.and_eq_true, decide_eq_true_eq] at h1
      obtain ⟨⟨⟨⟨⟨⟨a1, a2⟩, a3⟩, a4⟩, a5⟩, a6⟩, a7⟩ := h1
      obtain ⟨p, rfl⟩ := List.length_eq_one_iff.1 a1
      subst a4 a5
      obtain rfl := tl_eq a2
      obtain rfl := tl_eq a3
      obtain rfl := tl_eq a6
      have hm := inB_mem a7
      simp only [List.mem_cons, List.not_mem_nil, or_false] at hm
      exact .una hm (hps p List.mem_cons_self)
    rw [if_neg k3] at h1
    by_cases k4 : k = 4
    · rw [if_pos k4] at h1
      subst k4
      simp only [Bool.and_eq_true, decide_eq_true_eq] at h1
      obtain ⟨⟨⟨⟨⟨⟨a1, a2⟩, a3⟩, a4⟩, a5⟩, a6⟩, a7⟩ := h1
      obtain ⟨p, q, rfl⟩ : ∃ p q, ps = [p, q] := by
        match ps, a1 with
        | [p, q], _ => exact ⟨p, q, rfl⟩
      subst a4 a5
      obtain rfl := tl_eq a2
      obtain rfl := tl_eq a3
      obtain rfl := tl_eq a6
      have hm := inB_mem a7
      simp only [List.mem_cons, List.not_mem_nil, or_false] at hm
      refine .bin ?_ (hps p List.mem_cons_self) (hps q (List.mem_cons_of_mem _ List.mem_cons_self))
      rcases hm with rfl | rfl | rfl | rfl | rfl | rfl | rfl | rfl | rfl | rfl | rfl <;> decide
    rw [if_neg k4] at h1
    by_cases k5 : k = 5
    · rw [if_pos k5] at h1
      subst k5
      simp only [Bool.and_eq_true, decide_eq_true_eq] at h1
      obtain ⟨⟨⟨⟨⟨⟨a1, a2⟩, a3⟩, a4⟩, a5⟩, a6⟩, a7⟩ := h1
      obtain ⟨p, rfl⟩ := List.length_eq_one_iff.1 a1
      subst a4 a5
      obtain rfl := tl_eq a2
      obtain rfl := tl_eq a3
      obtain rfl := tl_eq a6
      have hm := inB_mem a7
      simp only [List.mem_cons, List.not_mem_nil, or_false] at hm
      exact .tst hm (hps p List.mem_cons_self)
    rw [if_neg k5] at h1
    by_cases k6 : k = 6
    · rw [if_pos k6] at h1
      subst k6
      simp only [Bool.and_eq_true, Bool.or_eq_true, decide_eq_true_eq] at h1
      obtain ⟨⟨⟨⟨⟨⟨a2, a3⟩, a4⟩, a5⟩, a6⟩, a7⟩, a8⟩ := h1
      subst a4 a5
      obtain rfl := tl_eq a2
      obtain rfl := tl_eq a3
      obtain rfl := tl_eq a6
      have hm := inB_mem a7
      simp only [List.mem_cons, List.not_mem_nil, or_false] at hm
      rcases a8 with a8 | ⟨a8, a9⟩
      · obtain ⟨p, rfl⟩ := List.length_eq_one_iff.1 a8
        refine .agg ?_ (hps p List.mem_cons_self)
        rcases hm with rfl | rfl | rfl | rfl <;> decide
      · obtain rfl := List.eq_nil_of_length_eq_zero a8
        obtain rfl := tl_eq a9
        exact .cnt
    rw [if_neg k6] at h1
    cases h1
end Go.Proofs.YtpinalpigefenaaGreatDoor
namespace Go.Proofs.YtpinalpigefenaaGreatDoor
open Go.RowKit
set_option linter.unusedVariables false
set_option linter.unusedSimpArgs false

/-- a later world: blocks that were there are as they were -/
structure Fut (w : World) where
  «to» : World
  bel : Below w.heap.size w «to»
instance (w : World) : Nonempty (Fut w) := ⟨⟨w, Below.refl _ _⟩⟩
theorem Fut.drew (w : World) : ∃ s : Fut w, w.drew = s.to := ⟨⟨w.drew, (Below.refl _ _).drew⟩, rfl⟩
theorem Fut.cell {w : World} {p : Addr} {v : Value} (h : w.cell? p = some v) (s : Fut w) : s.to.cell? p = some v := (s.bel.cell (World.block_lt_of_cell? w _ h)).trans h
/-- a callee that answers so in every later world, and makes memory at most -/
theorem calls_fut {P : Program} {f : FuncId} {args : Array Value} {w : World} {s : Fut w} {v : Value} (h : Calls P f args s.to fun e w' => e = .returned v ∧ Below s.to.heap.size s.to w') :
    Calls P f args s.to fun e w'' => e = .returned v ∧ ∃ s' : Fut w, w'' = s'.to :=
  h.mono fun _ _ ⟨he, hb⟩ => ⟨he, ⟨_, ⟨s.bel.os ▸ hb.os, s.bel.tape ▸ hb.tape, s.bel.output ▸ hb.output, Nat.le_trans s.bel.size hb.size, fun i hi => (hb.block i (Nat.lt_of_lt_of_le hi s.bel.size)).trans (s.bel.block i hi)⟩⟩, rfl⟩
section
variable {P : Program} {ops : Array Oper} {md : Region.Mode} {C : World → Prop}

/-- the head's walk: whatever may come up belongs to the head -/
def headQ (P : Program) (md : Region.Mode) (ops : Array Oper) (C : World → Prop) (n : Nat) (L : Array Bool → Act → Prop) : Nat → Array Bool → Act → Prop
  | 0, listed, a => L listed a
  | f + 1, listed, a => Region.ready md ops listed ≠ [] ∧ ∀ i ∈ Region.ready md ops listed, i < n ∧ qOp P ops C i (headQ P md ops C n L f (listed.setIfInBounds i true)) a

theorem any_of_headQ {n g : Nat} {L : Array Bool → Act → Prop} {Q' : Exit → Act → World → Prop} (hL : ∀ listed a w, C w → L listed a → wpAny P md ops Q' g listed a w) (f : Nat) :
    ∀ (listed : Array Bool) (a : Act) (w : World), C w → headQ P md ops C n L f listed a → wpAny P md ops Q' (f + g) listed a w := by
  induction f with
  | zero => intro listed a w hw h; rw [Nat.zero_add]; exact hL _ _ _ hw h
  | succ f ih =>
    intro listed a w hw h
    have e : f + 1 + g = (f + g) + 1 := by omega
    rw [e]
    refine ⟨fun h0 => absurd h0 h.1, fun i hi => ?_⟩
    exact wpOp_of_qOp hw (fun a' w' hw' h' => ih _ a' w' hw' h') (h.2 i hi).2

theorem headQ_first {n i : Nat} {oi : Oper} {v : Value} {L : Array Bool → Act → Prop} (hi : ops[i]? = some oi) (hsel : ∀ (j : Nat) (o : Oper) cs b, ops[j]? = some o → o.op ≠ .select cs b)
    (hs : Region.sinkB md ops n = true) (hc : Region.chainB md ops n = true) (hn : n < ops.size) (hin : i < n) (hdone : ∀ listed a, L listed a → ∀ j ∈ Region.ready md ops listed, n ≤ j) (f : Nat) :
    ∀ (listed : Array Bool) (a : Act), HeadInv md ops n listed →
      (∀ j oj, ops[j]? = some oj → j ≠ i → listed.getD j true = false → (∀ e ∈ oj.after, Region.binds md e = true → e.on ≠ i) → oi.apart ops oj = true) →
      i ∈ Region.ready md ops listed → YieldsIn P ops C oi v a →
      headQ P md ops C n L f (listed.setIfInBounds i true) (a.put oi.dst v) → headQ P md ops C n L (f + 1) listed a := by
  have low : ∀ listed, HeadInv md ops n listed → i ∈ Region.ready md ops listed → ∀ j ∈ Region.ready md ops listed, j < n := fun listed inv hr j hj => by
    rcases Nat.lt_or_ge j n with h | h
    · exact h
    · exact absurd hj (tail_waits hs hc hn inv _ i rfl hin (mem_ready.1 hr).1 j h)
  have some_ : ∀ listed, i ∈ Region.ready md ops listed → Region.ready md ops listed ≠ [] := fun listed hr h0 => by rw [h0] at hr; cases hr
  induction f with
  | zero =>
    intro listed a inv _ hr hy H
    refine ⟨some_ _ hr, fun j hj => ⟨low _ inv hr j hj, ?_⟩⟩
    by_cases hji : j = i
    · subst hji
      exact hy.qOp hi H
    · have h1 := hdone _ _ H j (ready_mono hj hji)
      have h2 := low _ inv hr j hj
      omega
  | succ f ih =>
    intro listed a inv hfree hr hy H
    refine ⟨some_ _ hr, fun j hj => ⟨low _ inv hr j hj, ?_⟩⟩
    by_cases hji : j = i
    · subst hji
      exact hy.qOp hi H
    obtain ⟨hjun, oj, hoj, hall⟩ := mem_ready.1 hj
    have hno : ∀ e ∈ oj.after, Region.binds md e = true → e.on ≠ i := fun e he hb heq => by
      have h1 := hall e he hb
      rw [heq, getD_both (mem_ready.1 hr).1] at h1
      cases h1
    have h2 := qOp_put hoj (hfree j oj hoj hji hjun hno) (fun cs b => hsel i oi cs b hi) (fun cs b => hsel j oj cs b hoj) hy (H.2 j (ready_mono hj hji)).2
    have hfree' : ∀ k ok, ops[k]? = some ok → k ≠ i → (listed.setIfInBounds j true).getD k true = false → (∀ e ∈ ok.after, Region.binds md e = true → e.on ≠ i) → oi.apart ops ok = true := fun k ok hk hki hun hno' => by
      by_cases hjk : j = k
      · exact hfree k ok hk hki (by rw [← hjk]; exact hjun) hno'
      · exact hfree k ok hk hki (by rwa [getD_set_ne true hjk] at hun) hno'
    refine qOp_mono (fun a' h3 => ?_) h2
    refine ih _ a' (inv.set hj (low _ inv hr j hj)) hfree' (ready_mono hr (Ne.symm hji)) h3.1 ?_
    rw [Array.setIfInBounds_comm _ _ hji]
    exact h3.2

theorem headQ_lex {n g : Nat} {Lq : Act → Prop} (hsel : Region.noSelect ops = true) (hs : Region.sinkB md ops n = true) (hc : Region.chainB md ops n = true) (hn : n < ops.size) (l : List Oper) :
    ∀ (k : Nat) (listed : Array Bool) (a : Act), (∀ j, j < l.length → l[j]? = ops[k + j]?) → k + l.length = n → HeadInv md ops n listed →
    Region.lexHead md ops g l.length k listed = true → wpQuiet P ops C Lq l a → headQ P md ops C n (fun listed' a' => Region.seqB md ops g n listed' = true ∧ Lq a') l.length listed a := by
  induction l with
  | nil =>
    intro k listed a _ hk inv hB h
    obtain rfl : k = n := by simpa using hk
    exact ⟨by simpa [Region.lexHead] using hB, h⟩
  | cons o l ih =>
    intro k listed a hl hk inv hB h
    have h0 : ops[k]? = some o := by simpa using (hl 0 (by simp)).symm
    simp only [List.length_cons, Region.lexHead, Bool.and_eq_true] at hB
    have hkn : k < n := by simp only [List.length_cons] at hk; omega
    have hr : k ∈ Region.ready md ops listed := by simpa using hB.1.1
    have hst : qOp P ops C k (wpQuiet P ops C Lq l) a := by unfold qOp; simp only [h0]; exact h
    obtain ⟨v, hy, hK⟩ := yieldsIn_of_qOp h0 hst
    refine headQ_first h0 (Region.noSelect_spec hsel) hs hc hn hkn (fun listed' a' hL => seqB_ready hL.1) l.length listed a inv (Region.free_spec h0 hB.1.2) hr hy ?_
    refine ih (k + 1) _ _ (fun j hj => ?_) (by simp only [List.length_cons] at hk; omega) (inv.set hr hkn) hB.2 hK
    have := hl (j + 1) (by simp; omega)
    simpa [Nat.add_assoc, Nat.add_comm 1 j] using this

/-- the theorem: the class is 'later worlds' -/
theorem wp_region_fut_tail {id : Nat} {Q : Exit → Act → World → Prop} {a : Act} {w : World} {l : List Oper} (n : Nat) (hm : P.follows .mixedOrders = true) (hB : Region.lexTailB .any l.toArray n = true)
    (h : wpQuiet P l.toArray (fun w' => ∃ s : Fut w, w' = s.to) (fun a' => ∀ s : Fut w, wpList P l.toArray Q (l.drop n) a' s.to) (l.take n) a) : (Code.region id l.toArray true).wp P Q a w := by
  simp only [Region.lexTailB, Bool.and_eq_true, decide_eq_true_eq] at hB
  obtain ⟨⟨⟨⟨hsel, hn⟩, hs⟩, hc⟩, hlex⟩ := hB
  have htl : (l.take n).length = n := by
    have : n < l.length := by simpa using hn
    simp; omega
  have hdl : (l.drop n).length = l.toArray.size - n := by simp
  have inv0 : HeadInv .any l.toArray n (Array.replicate l.toArray.size false) := ⟨by simp, fun j oj _ hl => (by rw [getD_replicate_false] at hl; cases hl), fun t _ ht => getD_in (by simpa using ht) (getD_replicate_false _ _)⟩
  have H := headQ_lex (md := .any) (g := l.toArray.size - n) hsel hs hc hn (l.take n) 0 _ a (fun j hj => by
    rw [htl] at hj
    simp [hj]) (by simpa using htl) inv0 (by rw [htl]; exact hlex) h
  refine wp_region_any hm ?_
  have h9 := any_of_headQ (C := fun w' => ∃ s : Fut w, w' = s.to) (Q' := Q) (g := l.toArray.size - n) (fun listed a' w' hw' hL => by
    obtain ⟨s, rfl⟩ := hw'
    have := wpAny_of_seq (md := .any) (Q' := Q) (l.drop n) n listed a' s.to (fun j => by simp [List.getElem?_drop]) (by rw [hdl]; exact hL.1) (hL.2 s)
    rwa [hdl] at this) _ _ _ _ (Fut.drew w) H
  rw [htl, show n + (l.toArray.size - n) = l.toArray.size by omega] at h9
  exact h9
/-- .. without a tail -/
theorem wp_region_fut {id : Nat} {Q : Exit → Act → World → Prop} {a : Act} {w : World} {l : List Oper} (hm : P.follows .mixedOrders = true) (hB : Region.lexB .any l.toArray = true)
    (h : wpQuiet P l.toArray (fun w' => ∃ s : Fut w, w' = s.to) (fun a' => ∀ w', (∃ s : Fut w, w' = s.to) → Q .normal a' w') l a) : (Code.region id l.toArray true).wp P Q a w :=
  wp_region_quiet (C := fun w' => ∃ s : Fut w, w' = s.to) hm hB (Fut.drew w) (by simpa using h)

/-! where an operation of the head may come behind the first that writes: one that needs no world ('floating') -/
end
end Go.Proofs.YtpinalpigefenaaGreatDoor
namespace Go.Proofs.YtpinalpigefenaaGreatDoor
open Go.RowKit Go.IntWalk
set_option linter.unusedVariables false
set_option linter.unusedSimpArgs false
set_option maxRecDepth 100000

def InR (r : Int) : Prop := -9223372036854775808 ≤ r ∧ r ≤ 9223372036854775807
end Go.Proofs.YtpinalpigefenaaGreatDoor
