/- A region that draws its order: all but its last operations only read, or call what may make memory but answers alike in every later world; the last ones write, in one forced order. One walk of the text's order serves every order. Over any program. -/
import Derived.StillTail
import Derived.BigQuiet
import Derived.Deep.RegionHeld3
import Derived.Below
import Derived.RowKit
namespace Go.Proofs.Ytafhgilikcablaa
open Go.RowKit
set_option linter.unusedVariables false
set_option linter.unusedSimpArgs false

/-- a later world: blocks that were there are as they were -/
structure Fut (w : World) where
  to : World
  bel : Below w.heap.size w to
instance (w : World) : Nonempty (Fut w) := ⟨⟨w, Below.refl _ _⟩⟩
theorem Fut.drew (w : World) : ∃ s : Fut w, w.drew = s.to := ⟨⟨w.drew, (Below.refl _ _).drew⟩, rfl⟩
theorem Fut.cell {w : World} {p : Addr} {v : Value} (h : w.cell? p = some v) (s : Fut w) : s.to.cell? p = some v := (s.bel.cell (World.block_lt_of_cell? w _ h)).trans h
/-- a callee that answers so in every later world, and makes memory at most -/
theorem calls_fut {P : Program} {f : FuncId} {args : Array Value} {w : World} {s : Fut w} {v : Value} (h : Calls P f args s.to fun e w' => e = .returned v ∧ Below s.to.heap.size s.to w') :
    Calls P f args s.to fun e w'' => e = .returned v ∧ ∃ s' : Fut w, w'' = s'.to :=
  h.mono fun _ _ ⟨he, hb⟩ => ⟨he, ⟨_, ⟨s.bel.os ▸ hb.os, s.bel.tape ▸ hb.tape, s.bel.output ▸ hb.output, Nat.le_trans s.bel.size hb.size, fun i hi => (hb.block i (Nat.lt_of_lt_of_le hi s.bel.size)).trans (s.bel.block i hi)⟩⟩, rfl⟩
section
variable {P : Program} {ops : Array Oper} {md : Region.Mode} {C : World → Prop}

/-- the head's walk: whatever may come up belongs to the head -/
def headQ (P : Program) (md : Region.Mode) (ops : Array Oper) (C : World → Prop) (n : Nat) (L : Array Bool → Act → Prop) : Nat → Array Bool → Act → Prop
  | 0, listed, a => L listed a
  | f + 1, listed, a => Region.ready md ops listed ≠ [] ∧ ∀ i ∈ Region.ready md ops listed, i < n ∧ qOp P ops C i (headQ P md ops C n L f (listed.setIfInBounds i true)) a

theorem any_of_headQ {n g : Nat} {L : Array Bool → Act → Prop} {Q' : Exit → Act → World → Prop} (hL : ∀ listed a w, C w → L listed a → wpAny P md ops Q' g listed a w) (f : Nat) :
    ∀ (listed : Array Bool) (a : Act) (w : World), C w → headQ P md ops C n L f listed a → wpAny P md ops Q' (f + g) listed a w := by
  induction f with
  | zero => intro listed a w hw h; rw [Nat.zero_add]; exact hL _ _ _ hw h
  | succ f ih =>
    intro listed a w hw h
    have e : f + 1 + g = (f + g) + 1 := by omega
    rw [e]
    refine ⟨fun h0 => absurd h0 h.1, fun i hi => ?_⟩
    exact wpOp_of_qOp hw (fun a' w' hw' h' => ih _ a' w' hw' h') (h.2 i hi).2

theorem headQ_first {n i : Nat} {oi : Oper} {v : Value} {L : Array Bool → Act → Prop} (hi : ops[i]? = some oi) (hsel : ∀ (j : Nat) (o : Oper) cs b, ops[j]? = some o → o.op ≠ .select cs b)
    (hs : Region.sinkB md ops n = true) (hc : Region.chainB md ops n = true) (hn : n < ops.size) (hin : i < n) (hdone : ∀ listed a, L listed a → ∀ j ∈ Region.ready md ops listed, n ≤ j) (f : Nat) :
    ∀ (listed : Array Bool) (a : Act), HeadInv md ops n listed →
      (∀ j oj, ops[j]? = some oj → j ≠ i → listed.getD j true = false → (∀ e ∈ oj.after, Region.binds md e = true → e.on ≠ i) → oi.apart ops oj = true) →
      i ∈ Region.ready md ops listed → YieldsIn P ops C oi v a →
      headQ P md ops C n L f (listed.setIfInBounds i true) (a.put oi.dst v) → headQ P md ops C n L (f + 1) listed a := by
  have low : ∀ listed, HeadInv md ops n listed → i ∈ Region.ready md ops listed → ∀ j ∈ Region.ready md ops listed, j < n := fun listed inv hr j hj => by
    rcases Nat.lt_or_ge j n with h | h
    · exact h
    · exact absurd hj (tail_waits hs hc hn inv _ i rfl hin (mem_ready.1 hr).1 j h)
  have some_ : ∀ listed, i ∈ Region.ready md ops listed → Region.ready md ops listed ≠ [] := fun listed hr h0 => by rw [h0] at hr; cases hr
  induction f with
  | zero =>
    intro listed a inv _ hr hy H
    refine ⟨some_ _ hr, fun j hj => ⟨low _ inv hr j hj, ?_⟩⟩
    by_cases hji : j = i
    · subst hji
      exact hy.qOp hi H
    · have h1 := hdone _ _ H j (ready_mono hj hji)
      have h2 := low _ inv hr j hj
      omega
  | succ f ih =>
    intro listed a inv hfree hr hy H
    refine ⟨some_ _ hr, fun j hj => ⟨low _ inv hr j hj, ?_⟩⟩
    by_cases hji : j = i
    · subst hji
      exact hy.qOp hi H
    obtain ⟨hjun, oj, hoj, hall⟩ := mem_ready.1 hj
    have hno : ∀ e ∈ oj.after, Region.binds md e = true → e.on ≠ i := fun e he hb heq => by
      have h1 := hall e he hb
      rw [heq, getD_both (mem_ready.1 hr).1] at h1
      cases h1
    have h2 := qOp_put hoj (hfree j oj hoj hji hjun hno) (fun cs b => hsel i oi cs b hi) (fun cs b => hsel j oj cs b hoj) hy (H.2 j (ready_mono hj hji)).2
    have hfree' : ∀ k ok, ops[k]? = some ok → k ≠ i → (listed.setIfInBounds j true).getD k true = false → (∀ e ∈ ok.after, Region.binds md e = true → e.on ≠ i) → oi.apart ops ok = true := fun k ok hk hki hun hno' => by
      by_cases hjk : j = k
      · exact hfree k ok hk hki (by rw [← hjk]; exact hjun) hno'
      · exact hfree k ok hk hki (by rwa [getD_set_ne true hjk] at hun) hno'
    refine qOp_mono (fun a' h3 => ?_) h2
    refine ih _ a' (inv.set hj (low _ inv hr j hj)) hfree' (ready_mono hr (Ne.symm hji)) h3.1 ?_
    rw [Array.setIfInBounds_comm _ _ hji]
    exact h3.2

theorem headQ_lex {n g : Nat} {Lq : Act → Prop} (hsel : Region.noSelect ops = true) (hs : Region.sinkB md ops n = true) (hc : Region.chainB md ops n = true) (hn : n < ops.size) (l : List Oper) :
    ∀ (k : Nat) (listed : Array Bool) (a : Act), (∀ j, j < l.length → l[j]? = ops[k + j]?) → k + l.length = n → HeadInv md ops n listed →
    Region.lexHead md ops g l.length k listed = true → wpQuiet P ops C Lq l a → headQ P md ops C n (fun listed' a' => Region.seqB md ops g n listed' = true ∧ Lq a') l.length listed a := by
  induction l with
  | nil =>
    intro k listed a _ hk inv hB h
    obtain rfl : k = n := by simpa using hk
    exact ⟨by simpa [Region.lexHead] using hB, h⟩
  | cons o l ih =>
    intro k listed a hl hk inv hB h
    have h0 : ops[k]? = some o := by simpa using (hl 0 (by simp)).symm
    simp only [List.length_cons, Region.lexHead, Bool.and_eq_true] at hB
    have hkn : k < n := by simp only [List.length_cons] at hk; omega
    have hr : k ∈ Region.ready md ops listed := by simpa using hB.1.1
    have hst : qOp P ops C k (wpQuiet P ops C Lq l) a := by unfold qOp; simp only [h0]; exact h
    obtain ⟨v, hy, hK⟩ := yieldsIn_of_qOp h0 hst
    refine headQ_first h0 (Region.noSelect_spec hsel) hs hc hn hkn (fun listed' a' hL => seqB_ready hL.1) l.length listed a inv (Region.free_spec h0 hB.1.2) hr hy ?_
    refine ih (k + 1) _ _ (fun j hj => ?_) (by simp only [List.length_cons] at hk; omega) (inv.set hr hkn) hB.2 hK
    have := hl (j + 1) (by simp; omega)
    simpa [Nat.add_assoc, Nat.add_comm 1 j] using this

/-- the theorem: the class is 'later worlds' -/
theorem wp_region_fut_tail {id : Nat} {Q : Exit → Act → World → Prop} {a : Act} {w : World} {l : List Oper} (n : Nat) (hm : P.follows .mixedOrders = true) (hB : Region.lexTailB .any l.toArray n = true)
    (h : wpQuiet P l.toArray (fun w' => ∃ s : Fut w, w' = s.to) (fun a' => ∀ s : Fut w, wpList P l.toArray Q (l.drop n) a' s.to) (l.take n) a) : (Code.region id l.toArray true).wp P Q a w := by
  simp only [Region.lexTailB, Bool.and_eq_true, decide_eq_true_eq] at hB
  obtain ⟨⟨⟨⟨hsel, hn⟩, hs⟩, hc⟩, hlex⟩ := hB
  have htl : (l.take n).length = n := by
    have : n < l.length := by simpa using hn
    simp; omega
  have hdl : (l.drop n).length = l.toArray.size - n := by simp
  have inv0 : HeadInv .any l.toArray n (Array.replicate l.toArray.size false) := ⟨by simp, fun j oj _ hl => (by rw [getD_replicate_false] at hl; cases hl), fun t _ ht => getD_in (by simpa using ht) (getD_replicate_false _ _)⟩
  have H := headQ_lex (md := .any) (g := l.toArray.size - n) hsel hs hc hn (l.take n) 0 _ a (fun j hj => by
    rw [htl] at hj
    simp [hj]) (by simpa using htl) inv0 (by rw [htl]; exact hlex) h
  refine wp_region_any hm ?_
  have h9 := any_of_headQ (C := fun w' => ∃ s : Fut w, w' = s.to) (Q' := Q) (g := l.toArray.size - n) (fun listed a' w' hw' hL => by
    obtain ⟨s, rfl⟩ := hw'
    have := wpAny_of_seq (md := .any) (Q' := Q) (l.drop n) n listed a' s.to (fun j => by simp [List.getElem?_drop]) (by rw [hdl]; exact hL.1) (hL.2 s)
    rwa [hdl] at this) _ _ _ _ (Fut.drew w) H
  rw [htl, show n + (l.toArray.size - n) = l.toArray.size by omega] at h9
  exact h9
/-- .. without a tail -/
theorem wp_region_fut {id : Nat} {Q : Exit → Act → World → Prop} {a : Act} {w : World} {l : List Oper} (hm : P.follows .mixedOrders = true) (hB : Region.lexB .any l.toArray = true)
    (h : wpQuiet P l.toArray (fun w' => ∃ s : Fut w, w' = s.to) (fun a' => ∀ w', (∃ s : Fut w, w' = s.to) → Q .normal a' w') l a) : (Code.region id l.toArray true).wp P Q a w :=
  wp_region_quiet (C := fun w' => ∃ s : Fut w, w' = s.to) hm hB (Fut.drew w) (by simpa using h)

/-! where an operation of the head may come behind the first that writes: one that needs no world ('floating') -/
/-- all others of the head reach the first of the tail -/
def sinkF (md : Region.Mode) (ops : Array Oper) (n : Nat) (fl : List Nat) : Bool :=
  (List.range n).all fun i => fl.contains i || (List.range (n + 1)).any fun j => decide (i < j) && !fl.contains j && Region.waitsFor md ops j i
theorem tail_waitsF {n : Nat} {fl : List Nat} {listed : Array Bool} (hs : sinkF md ops n fl = true) (hc : Region.chainB md ops n = true) (inv : HeadInv md ops n listed) :
    ∀ (d i : Nat), n - i = d → i < n → fl.contains i = false → listed.getD i true = false → ∀ t, n ≤ t → t ∉ Region.ready md ops listed := by
  intro d
  induction d using Nat.strongRecOn with
  | _ d ih =>
    intro i hd hi hfi hun t ht hr
    obtain ⟨_, ot, hot, hall⟩ := mem_ready.1 hr
    have htlt : t < ops.size := (Array.getElem?_eq_some_iff.1 hot).1
    by_cases htn : n < t
    · have h1 := List.all_eq_true.1 hc t (List.mem_range.2 htlt)
      rw [Bool.or_eq_true, decide_eq_true_eq] at h1
      obtain ⟨o', ho', e, he, hb, hon⟩ := Region.waitsFor_spec (h1.resolve_left (by omega))
      obtain rfl : o' = ot := Option.some.inj (ho'.symm.trans hot)
      have h2 := hall e he hb
      rw [hon, getD_both (inv.tail (t - 1) (by omega) (by omega))] at h2
      cases h2
    obtain rfl : t = n := by omega
    have h1 := List.all_eq_true.1 hs i (List.mem_range.2 hi)
    rw [hfi, Bool.false_or] at h1
    obtain ⟨j, hj, hj2⟩ := List.any_eq_true.1 h1
    simp only [Bool.and_eq_true, decide_eq_true_eq, Bool.not_eq_true'] at hj2
    obtain ⟨⟨hij, hfj⟩, hw⟩ := hj2
    obtain ⟨oj, hoj, e, he, hb, hon⟩ := Region.waitsFor_spec hw
    have hjle := List.mem_range.1 hj
    by_cases hjt : j = t
    · subst hjt
      obtain rfl : oj = ot := Option.some.inj (hoj.symm.trans hot)
      have h2 := hall e he hb
      rw [hon, getD_both hun] at h2
      cases h2
    · cases hl : listed.getD j false with
      | true =>
        have h2 := inv.closed j oj hoj hl e he hb
        rw [hon, getD_both hun] at h2
        cases h2
      | false => exact ih (t - j) (by omega) j rfl (by omega) hfj (getD_in (by rw [inv.size]; omega) hl) t (Nat.le_refl _) hr

def headX (P : Program) (md : Region.Mode) (ops : Array Oper) (C : World → Prop) (Q' : Exit → Act → World → Prop) (n g : Nat) (L : Array Bool → Act → Prop) : Nat → Array Bool → Act → Prop
  | 0, listed, a => L listed a
  | f + 1, listed, a => Region.ready md ops listed ≠ [] ∧ ∀ i ∈ Region.ready md ops listed,
      (i < n ∧ qOp P ops C i (headX P md ops C Q' n g L f (listed.setIfInBounds i true)) a) ∨ (n ≤ i ∧ ∀ w, C w → wpOp P ops Q' i (wpAny P md ops Q' (f + g) (listed.setIfInBounds i true)) a w)

theorem any_of_headX {n g : Nat} {L : Array Bool → Act → Prop} {Q' : Exit → Act → World → Prop} (hL : ∀ listed a w, C w → L listed a → wpAny P md ops Q' g listed a w) (f : Nat) :
    ∀ (listed : Array Bool) (a : Act) (w : World), C w → headX P md ops C Q' n g L f listed a → wpAny P md ops Q' (f + g) listed a w := by
  induction f with
  | zero => intro listed a w hw h; rw [Nat.zero_add]; exact hL _ _ _ hw h
  | succ f ih =>
    intro listed a w hw h
    have e : f + 1 + g = (f + g) + 1 := by omega
    rw [e]
    refine ⟨fun h0 => absurd h0 h.1, fun i hi => ?_⟩
    rcases h.2 i hi with ⟨_, h2⟩ | ⟨_, h2⟩
    · exact wpOp_of_qOp hw (fun a' w' hw' h' => ih _ a' w' hw' h') h2
    · exact h2 w hw

theorem headX_first {n g i : Nat} {fl : List Nat} {oi : Oper} {v : Value} {L : Array Bool → Act → Prop} {Q' : Exit → Act → World → Prop} (hi : ops[i]? = some oi) (hsel : ∀ (j : Nat) (o : Oper) cs b, ops[j]? = some o → o.op ≠ .select cs b)
    (hs : sinkF md ops n fl = true) (hc : Region.chainB md ops n = true) (hin : i < n) (hdone : ∀ listed a, L listed a → ∀ j ∈ Region.ready md ops listed, n ≤ j)
    (hL : ∀ listed a w, C w → L listed a → wpAny P md ops Q' (g + 1) listed a w) (hQ : ∀ c (d : Option Tmp) a v w, Q' (.panic c) (a.put d v) w → Q' (.panic c) a w) (f : Nat) :
    ∀ (listed : Array Bool) (a : Act), HeadInv md ops n listed →
      (∀ j oj, ops[j]? = some oj → j ≠ i → listed.getD j true = false → (∀ e ∈ oj.after, Region.binds md e = true → e.on ≠ i) → oi.apart ops oj = true) →
      i ∈ Region.ready md ops listed → YieldsIn P ops C oi v a → (fl.contains i = true → Yields P ops oi v a) →
      headX P md ops C Q' n (g + 1) L f (listed.setIfInBounds i true) (a.put oi.dst v) → headX P md ops C Q' n (g + 1) L (f + 1) listed a := by
  have some_ : ∀ listed, i ∈ Region.ready md ops listed → Region.ready md ops listed ≠ [] := fun listed hr h0 => by rw [h0] at hr; cases hr
  have noT : ∀ listed, HeadInv md ops n listed → i ∈ Region.ready md ops listed → ∀ j ∈ Region.ready md ops listed, n ≤ j → fl.contains i = true := fun listed inv hr j hj hnj => by
    cases hfi : fl.contains i with
    | true => rfl
    | false => exact absurd hj (tail_waitsF hs hc inv _ i rfl hin hfi (mem_ready.1 hr).1 j hnj)
  -- facts on another operation that may come up
  have facts : ∀ (listed : Array Bool) (j : Nat), i ∈ Region.ready md ops listed → j ∈ Region.ready md ops listed → j ≠ i →
      (∀ k ok, ops[k]? = some ok → k ≠ i → listed.getD k true = false → (∀ e ∈ ok.after, Region.binds md e = true → e.on ≠ i) → oi.apart ops ok = true) →
      ∃ oj, ops[j]? = some oj ∧ oi.apart ops oj = true ∧ (∀ k ok, ops[k]? = some ok → k ≠ i → (listed.setIfInBounds j true).getD k true = false → (∀ e ∈ ok.after, Region.binds md e = true → e.on ≠ i) → oi.apart ops ok = true) := fun listed j hr hj hji hfree => by
    obtain ⟨hjun, oj, hoj, hall⟩ := mem_ready.1 hj
    refine ⟨oj, hoj, hfree j oj hoj hji hjun (fun e he hb heq => ?_), fun k ok hk hki hun hno => ?_⟩
    · have h1 := hall e he hb
      rw [heq, getD_both (mem_ready.1 hr).1] at h1
      cases h1
    · by_cases hjk : j = k
      · exact hfree k ok hk hki (by rw [← hjk]; exact hjun) hno
      · exact hfree k ok hk hki (by rwa [getD_set_ne true hjk] at hun) hno
  induction f with
  | zero =>
    intro listed a inv hfree hr hy hyf H
    refine ⟨some_ _ hr, fun j hj => ?_⟩
    by_cases hji : j = i
    · subst hji
      exact .inl ⟨hin, hy.qOp hi H⟩
    have hnj := hdone _ _ H j (ready_mono hj hji)
    refine .inr ⟨hnj, fun w hw => ?_⟩
    obtain ⟨oj, hoj, hap, hfree'⟩ := facts listed j hr hj hji hfree
    have h1 := (hL _ _ w hw H).2 j (ready_mono hj hji)
    have h2 := wpOp_put hoj hap (fun cs b => hsel i oi cs b hi) (fun cs b => hsel j oj cs b hoj) (fun c a w => hQ c oi.dst a v w) (hyf (noT _ inv hr j hj hnj)) h1
    refine wpOp_mono (fun a' w' h3 => ?_) h2
    rw [Nat.zero_add]
    refine wpAny_first hi hsel (fun c a w => hQ c oi.dst a v w) g _ a' w' hfree' (ready_mono hr (Ne.symm hji)) h3.1 ?_
    rw [Array.setIfInBounds_comm _ _ hji]
    exact h3.2
  | succ f ih =>
    intro listed a inv hfree hr hy hyf H
    refine ⟨some_ _ hr, fun j hj => ?_⟩
    by_cases hji : j = i
    · subst hji
      exact .inl ⟨hin, hy.qOp hi H⟩
    obtain ⟨oj, hoj, hap, hfree'⟩ := facts listed j hr hj hji hfree
    rcases H.2 j (ready_mono hj hji) with ⟨hjn, h1⟩ | ⟨hnj, h1⟩
    · refine .inl ⟨hjn, ?_⟩
      have h2 := qOp_put hoj hap (fun cs b => hsel i oi cs b hi) (fun cs b => hsel j oj cs b hoj) hy h1
      -- where the floating one waits, its value stays what it is
      have h2' : qOp P ops C j (fun a' => (YieldsIn P ops C oi v a' ∧ (fl.contains i = true → Yields P ops oi v a')) ∧ headX P md ops C Q' n (g + 1) L f ((listed.setIfInBounds i true).setIfInBounds j true) (a'.put oi.dst v)) a := by
        unfold qOp at h2 ⊢
        simp only [hoj] at h2 ⊢
        have keep : ∀ u, (fl.contains i = true → Yields P ops oi v (a.put oj.dst u)) := fun u hf => by
          obtain ⟨_, _, h3⟩ := Oper.apart_spec hap
          exact (hyf hf).of_same (execOp_put oi (fun cs b => hsel i oi cs b hi) a oj.dst u h3) (wanted_put oi a oj.dst u h3)
        split
        · rename_i hw
          simp only [hw, if_true] at h2
          obtain ⟨u, hu, hy', hK⟩ := h2
          exact ⟨u, hu, ⟨hy', keep u⟩, hK⟩
        · rename_i hw
          simp only [hw] at h2
          exact ⟨⟨h2.1, keep _⟩, h2.2⟩
      refine qOp_mono (fun a' h3 => ?_) h2'
      refine ih _ a' (inv.set hj hjn) hfree' (ready_mono hr (Ne.symm hji)) h3.1.1 h3.1.2 ?_
      rw [Array.setIfInBounds_comm _ _ hji]
      exact h3.2
    · refine .inr ⟨hnj, fun w hw => ?_⟩
      have h2 := wpOp_put hoj hap (fun cs b => hsel i oi cs b hi) (fun cs b => hsel j oj cs b hoj) (fun c a w => hQ c oi.dst a v w) (hyf (noT _ inv hr j hj hnj)) (h1 w hw)
      refine wpOp_mono (fun a' w' h3 => ?_) h2
      rw [show f + 1 + (g + 1) = (f + (g + 1)) + 1 by omega]
      refine wpAny_first hi hsel (fun c a w => hQ c oi.dst a v w) (f + (g + 1)) _ a' w' hfree' (ready_mono hr (Ne.symm hji)) h3.1 ?_
      rw [Array.setIfInBounds_comm _ _ hji]
      exact h3.2

/-- the floating ones are extracts -/
def floatB (ops : Array Oper) (fl : List Nat) : Bool := fl.all fun k => match ops[k]? with
  | some o => (match o.op with
    | .extract _ _ => true
    | _ => false)
  | none => false
theorem extract_yields {o : Oper} {v : Value} {a : Act} {x : Operand} {k : Nat} (ho : o.op = .extract x k) (hC : ∃ w, C w) (h : YieldsIn P ops C o v a) : Yields P ops o v a := by
  rcases h with ⟨h1, h2⟩ | h
  · refine .inl ⟨h1, fun w => ?_⟩
    obtain ⟨w0, hw0⟩ := hC
    have h3 := h2 w0 hw0
    unfold Oper.quietAt at h3
    unfold execOp at h3 ⊢
    simp only [ho] at h3 ⊢
    revert h3
    generalize a.eval x = t
    cases t <;> simp [go_sem, Oper.quietUpon]
    rename_i vs
    cases vs[k]? <;> simp [go_sem, Result.andThen]
  · exact .inr h

theorem headX_lex {n g : Nat} {fl : List Nat} {Lq : Act → Prop} {Q' : Exit → Act → World → Prop} (hsel : Region.noSelect ops = true) (hs : sinkF md ops n fl = true) (hc : Region.chainB md ops n = true) (hf : floatB ops fl = true) (hC : ∃ w, C w)
    (hL : ∀ listed a w, C w → (Region.seqB md ops (g + 1) n listed = true ∧ Lq a) → wpAny P md ops Q' (g + 1) listed a w) (hQ : ∀ c (d : Option Tmp) a v w, Q' (.panic c) (a.put d v) w → Q' (.panic c) a w) (l : List Oper) :
    ∀ (k : Nat) (listed : Array Bool) (a : Act), (∀ j, j < l.length → l[j]? = ops[k + j]?) → k + l.length = n → HeadInv md ops n listed →
    Region.lexHead md ops (g + 1) l.length k listed = true → wpQuiet P ops C Lq l a → headX P md ops C Q' n (g + 1) (fun listed' a' => Region.seqB md ops (g + 1) n listed' = true ∧ Lq a') l.length listed a := by
  induction l with
  | nil =>
    intro k listed a _ hk inv hB h
    obtain rfl : k = n := by simpa using hk
    exact ⟨by simpa [Region.lexHead] using hB, h⟩
  | cons o l ih =>
    intro k listed a hl hk inv hB h
    have h0 : ops[k]? = some o := by simpa using (hl 0 (by simp)).symm
    simp only [List.length_cons, Region.lexHead, Bool.and_eq_true] at hB
    have hkn : k < n := by simp only [List.length_cons] at hk; omega
    have hr : k ∈ Region.ready md ops listed := by simpa using hB.1.1
    have hst : qOp P ops C k (wpQuiet P ops C Lq l) a := by unfold qOp; simp only [h0]; exact h
    obtain ⟨v, hy, hK⟩ := yieldsIn_of_qOp h0 hst
    refine headX_first h0 (Region.noSelect_spec hsel) hs hc hkn (fun listed' a' hL' => seqB_ready hL'.1) hL hQ l.length listed a inv (Region.free_spec h0 hB.1.2) hr hy (fun hfk => ?_) ?_
    · have h1 := List.all_eq_true.1 hf k (by simpa using hfk)
      simp only [h0] at h1
      cases ho : o.op <;> rw [ho] at h1 <;> first | exact extract_yields ho hC hy | cases h1
    · refine ih (k + 1) _ _ (fun j hj => ?_) (by simp only [List.length_cons] at hk; omega) (inv.set hr hkn) hB.2 hK
      have := hl (j + 1) (by simp; omega)
      simpa [Nat.add_assoc, Nat.add_comm 1 j] using this
def lexFloatB (md : Region.Mode) (ops : Array Oper) (n : Nat) (fl : List Nat) : Bool :=
  Region.noSelect ops && decide (n < ops.size) && sinkF md ops n fl && Region.chainB md ops n && floatB ops fl && Region.lexHead md ops (ops.size - n) n 0 (Array.replicate ops.size false)

/-- the theorem, with floating ones; the region must not panic -/
theorem wp_region_fut_float {id : Nat} {Q0 : Exit → Act → World → Prop} {a : Act} {w : World} {l : List Oper} (n : Nat) (fl : List Nat) (hm : P.follows .mixedOrders = true) (hB : lexFloatB .any l.toArray n fl = true)
    (h : wpQuiet P l.toArray (fun w' => ∃ s : Fut w, w' = s.to) (fun a' => ∀ s : Fut w, wpList P l.toArray (NoPanic Q0) (l.drop n) a' s.to) (l.take n) a) : (Code.region id l.toArray true).wp P Q0 a w := by
  refine wp_region_noPanic ?_
  have hQ : ∀ c (d : Option Tmp) a v w, NoPanic Q0 (.panic c) (a.put d v) w → NoPanic Q0 (.panic c) a w := fun _ _ _ _ _ h => h
  generalize NoPanic Q0 = Q at *
  simp only [lexFloatB, Bool.and_eq_true, decide_eq_true_eq] at hB
  obtain ⟨⟨⟨⟨⟨hsel, hn⟩, hs⟩, hc⟩, hf⟩, hlex⟩ := hB
  have hn' : n < l.length := by simpa using hn
  have htl : (l.take n).length = n := by simp; omega
  obtain ⟨g, hg⟩ : ∃ g, l.toArray.size - n = g + 1 := ⟨l.length - n - 1, by simp; omega⟩
  have hdl : (l.drop n).length = g + 1 := by rw [← hg]; simp
  rw [hg] at hlex
  have inv0 : HeadInv .any l.toArray n (Array.replicate l.toArray.size false) := ⟨by simp, fun j oj _ hl => (by rw [getD_replicate_false] at hl; cases hl), fun t _ ht => getD_in (by simpa using ht) (getD_replicate_false _ _)⟩
  have hL : ∀ listed a' w', (∃ s : Fut w, w' = s.to) → (Region.seqB .any l.toArray (g + 1) n listed = true ∧ (fun a' => ∀ s : Fut w, wpList P l.toArray Q (l.drop n) a' s.to) a') → wpAny P .any l.toArray Q (g + 1) listed a' w' := fun listed a' w' hw' hL => by
    obtain ⟨s, rfl⟩ := hw'
    have := wpAny_of_seq (md := .any) (Q' := Q) (l.drop n) n listed a' s.to (fun j => by simp [List.getElem?_drop]) (by rw [hdl]; exact hL.1) (hL.2 s)
    rwa [hdl] at this
  have H := headX_lex (md := .any) (g := g) hsel hs hc hf ⟨_, Fut.drew w⟩ hL hQ (l.take n) 0 _ a (fun j hj => by
    rw [htl] at hj
    simp [hj]) (by simpa using htl) inv0 (by rw [htl]; exact hlex) h
  refine wp_region_any hm ?_
  have h9 := any_of_headX (C := fun w' => ∃ s : Fut w, w' = s.to) (Q' := Q) (g := g + 1) hL _ _ _ _ (Fut.drew w) H
  rw [htl, show n + (g + 1) = l.toArray.size by simp at hg ⊢; omega] at h9
  exact h9
end
end Go.Proofs.Ytafhgilikcablaa
