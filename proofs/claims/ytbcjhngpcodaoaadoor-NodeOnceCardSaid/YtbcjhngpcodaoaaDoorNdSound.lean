/- Bytes that are decoded as a node are the node's bytes, with noughts behind. Plain mathematics. -/
import Derived.Test.YtbcjhngpcodaoaaDoorNdBack
import Derived.Test.YtbcjhngpcodaoaaDoorRecPure
namespace Go.Proofs.YtbcjhngpcodaoaaDoor
open Go.RowKit
set_option linter.unusedVariables false

theorem numS_sound {most : Int} {l : List Int} {ok : Bool} (hb : ∀ z ∈ l, 0 ≤ z ∧ z ≤ 255) (h : (numS most l ok).2.2 = true) : ok = true ∧ l = enc (numS most l ok).1 ++ (numS most l ok).2.1 := by
  by_cases hg : ok = true ∧ (takeR l).2.2 = 0 ∧ (takeR l).1 ≤ most
  · refine ⟨hg.1, ?_⟩
    rw [numS_good hg]
    obtain ⟨n, k, e⟩ : ∃ n k, takeR l = (n, k, 0) := ⟨_, _, by rw [← hg.2.1]⟩
    obtain ⟨hc, _⟩ := take_canon hb e
    rw [e]
    show l = enc n ++ l.drop k.toNat
    rw [← hc, List.take_append_drop]
  · rw [numS_bad hg] at h; cases h
theorem bytS_sound {l : List Int} {ok : Bool} (hb : ∀ z ∈ l, 0 ≤ z ∧ z ≤ 255) (h : (bytS l ok).2.2 = true) : ok = true ∧ l = pieceB (bytS l ok).1 ++ (bytS l ok).2.1 := by
  have hbd := numS_bd (most := 160) (ok := ok) (by omega) hb
  unfold bytS at h ⊢
  by_cases hl : ((numS 160 l ok).2.1.length : Int) < (numS 160 l ok).1
  · rw [if_pos hl] at h; cases h
  · rw [if_neg hl] at h ⊢
    obtain ⟨h1, h2⟩ := numS_sound hb h
    refine ⟨h1, ?_⟩
    show l = pieceB ((numS 160 l ok).2.1.take (numS 160 l ok).1.toNat) ++ (numS 160 l ok).2.1.drop (numS 160 l ok).1.toNat
    unfold pieceB
    have e : ((((numS 160 l ok).2.1.take (numS 160 l ok).1.toNat).length : Nat) : Int) = (numS 160 l ok).1 := by rw [List.length_take]; omega
    rw [e, List.append_assoc, List.take_append_drop]
    exact h2
theorem loop_ok {lf : Bool} : ∀ {k : Nat} {s : NSt}, (loopS lf k s).ok = true → s.ok = true
  | 0, s, h => h
  | k + 1, s, h => by
    unfold loopS at h
    by_cases hs : s.ok = true
    · exact hs
    · rw [if_neg hs] at h; exact h
theorem getD_mid {α : Type} (xs ys : List α) (x d : α) : ((xs ++ [x]) ++ ys).getD xs.length d = x := by simp [List.getD]
theorem entsF_congr {lf : Bool} {ks vs : List (List Int)} {is : List Int} {ks' vs' : List (List Int)} {is' : List Int} {i k : Nat} (h1 : ks = ks') (h2 : vs = vs') (h3 : is = is') : entsF lf ks vs is i k = entsF lf ks' vs' is' i k := by rw [h1, h2, h3]
theorem loop_sound_leaf (is0 : List Int) : ∀ (k : Nat) (s : NSt), (∀ z ∈ s.l, 0 ≤ z ∧ z ≤ 255) → s.vs.length = s.ks.length → (loopS true k s).ok = true →
    ∃ K V, (loopS true k s).ks = s.ks ++ K ∧ (loopS true k s).vs = s.vs ++ V ∧ (loopS true k s).is = s.is ∧ K.length = k ∧ V.length = k ∧ s.l = entsF true (s.ks ++ K) (s.vs ++ V) is0 s.ks.length k ++ (loopS true k s).l
  | 0, s, hb, hv, h => ⟨[], [], by simp [loopS], by simp [loopS], rfl, rfl, rfl, by simp [loopS, entsF]⟩
  | k + 1, s, hb, hv, h => by
    have hs : s.ok = true := loop_ok h
    have hstep : loopS true (k + 1) s = loopS true k (stepS true s) := by
      show (if s.ok = true then _ else _) = _
      rw [if_pos hs]
    rw [hstep] at h ⊢
    obtain ⟨e1, e2, e3, e4, e5⟩ : (stepS true s).ks = s.ks ++ [(bytS s.l s.ok).1] ∧ (stepS true s).vs = s.vs ++ [(bytS (bytS s.l s.ok).2.1 (bytS s.l s.ok).2.2).1] ∧ (stepS true s).is = s.is ∧ (stepS true s).l = (bytS (bytS s.l s.ok).2.1 (bytS s.l s.ok).2.2).2.1 ∧ (stepS true s).ok = (bytS (bytS s.l s.ok).2.1 (bytS s.l s.ok).2.2).2.2 := ⟨rfl, rfl, rfl, rfl, rfl⟩
    have hok := loop_ok h
    rw [e5] at hok
    obtain ⟨f1, f2⟩ := bytS_sound (bytS_mem hb) hok
    obtain ⟨_, g2⟩ := bytS_sound hb f1
    obtain ⟨K, V, h1, h2, h3, h4, h5, h6⟩ := loop_sound_leaf is0 k (stepS true s) (by rw [e4]; exact bytS_mem (bytS_mem hb)) (by rw [e1, e2]; simp [hv]) h
    generalize (bytS s.l s.ok).1 = x at *
    generalize (bytS (bytS s.l s.ok).2.1 (bytS s.l s.ok).2.2).1 = y at *
    rw [e1] at h1 h6
    rw [e2] at h2 h6
    rw [e3] at h3
    rw [e4] at h6
    refine ⟨x :: K, y :: V, by rw [h1]; simp, by rw [h2]; simp, h3, by simp [h4], by simp [h5], ?_⟩
    rw [entsF_succ]
    have hk : (s.ks ++ x :: K).getD s.ks.length [] = x := by simp
    have hvv : (s.vs ++ y :: V).getD s.ks.length [] = y := by rw [← hv]; simp
    unfold entB
    rw [if_pos rfl, hk, hvv, List.append_assoc, List.append_assoc]
    have hl : (s.ks ++ [x]).length = s.ks.length + 1 := by simp
    rw [hl, List.append_assoc, List.append_assoc] at h6
    rw [show [x] ++ K = x :: K from rfl, show [y] ++ V = y :: V from rfl] at h6
    rw [← h6, ← f2]
    exact g2
theorem loop_sound_inner (vs0 : List (List Int)) : ∀ (k : Nat) (s : NSt), (∀ z ∈ s.l, 0 ≤ z ∧ z ≤ 255) → s.is.length = s.ks.length + 1 → (loopS false k s).ok = true →
    ∃ K I, (loopS false k s).ks = s.ks ++ K ∧ (loopS false k s).is = s.is ++ I ∧ (loopS false k s).vs = s.vs ∧ K.length = k ∧ I.length = k ∧ s.l = entsF false (s.ks ++ K) vs0 (s.is ++ I) s.ks.length k ++ (loopS false k s).l
  | 0, s, hb, hv, h => ⟨[], [], by simp [loopS], by simp [loopS], rfl, rfl, rfl, by simp [loopS, entsF]⟩
  | k + 1, s, hb, hv, h => by
    have hs : s.ok = true := loop_ok h
    have hstep : loopS false (k + 1) s = loopS false k (stepS false s) := by
      show (if s.ok = true then _ else _) = _
      rw [if_pos hs]
    rw [hstep] at h ⊢
    obtain ⟨e1, e2, e3, e4, e5⟩ : (stepS false s).ks = s.ks ++ [(bytS s.l s.ok).1] ∧ (stepS false s).is = s.is ++ [(numS 10000 (bytS s.l s.ok).2.1 (bytS s.l s.ok).2.2).1] ∧ (stepS false s).vs = s.vs ∧ (stepS false s).l = (numS 10000 (bytS s.l s.ok).2.1 (bytS s.l s.ok).2.2).2.1 ∧ (stepS false s).ok = (numS 10000 (bytS s.l s.ok).2.1 (bytS s.l s.ok).2.2).2.2 := ⟨rfl, rfl, rfl, rfl, rfl⟩
    have hok := loop_ok h
    rw [e5] at hok
    obtain ⟨f1, f2⟩ := numS_sound (bytS_mem hb) hok
    obtain ⟨_, g2⟩ := bytS_sound hb f1
    obtain ⟨K, I, h1, h2, h3, h4, h5, h6⟩ := loop_sound_inner vs0 k (stepS false s) (by rw [e4]; exact numS_mem (bytS_mem hb)) (by rw [e1, e2]; simp [hv]) h
    generalize (bytS s.l s.ok).1 = x at *
    generalize (numS 10000 (bytS s.l s.ok).2.1 (bytS s.l s.ok).2.2).1 = y at *
    rw [e1] at h1 h6
    rw [e2] at h2 h6
    rw [e3] at h3
    rw [e4] at h6
    refine ⟨x :: K, y :: I, by rw [h1]; simp, by rw [h2]; simp, h3, by simp [h4], by simp [h5], ?_⟩
    rw [entsF_succ]
    have hk : (s.ks ++ x :: K).getD s.ks.length [] = x := by simp
    have hvv : (s.is ++ y :: I).getD (s.ks.length + 1) 0 = y := by rw [← hv]; simp
    unfold entB
    rw [if_neg (by decide), hk, hvv, List.append_assoc, List.append_assoc]
    have hl : (s.ks ++ [x]).length = s.ks.length + 1 := by simp
    rw [hl, List.append_assoc, List.append_assoc] at h6
    rw [show [x] ++ K = x :: K from rfl, show [y] ++ I = y :: I from rfl] at h6
    rw [← h6, ← f2]
    exact g2
theorem nodeS_sound {lf : Bool} {l : List Int} (hb : ∀ z ∈ l, 0 ≤ z ∧ z ≤ 255) (h : (nodeS lf l).ok = true) : (if lf then 1 else 2) :: l = nodeB lf (nodeS lf l).ks (nodeS lf l).vs (nodeS lf l).is ++ (nodeS lf l).l := by
  have hbd := numS_bd (most := (l.length : Int)) (ok := true) (by omega) hb
  have hc : ((countS l : Nat) : Int) = (numS (l.length : Int) l true).1 := by unfold countS; omega
  have hh := loop_ok (k := countS l) (s := headS lf l) h
  cases lf with
  | true =>
    obtain ⟨K, V, h1, h2, h3, h4, h5, h6⟩ := loop_sound_leaf (nodeS true l).is (countS l) (headS true l) (NBd.head hb).1.l rfl h
    have e1 : (headS true l).ks = [] := rfl
    have e2 : (headS true l).vs = [] := rfl
    rw [e1] at h1 h6
    rw [e2] at h2 h6
    change (nodeS true l).ks = _ at h1
    change (nodeS true l).vs = _ at h2
    change _ = _ ++ (nodeS true l).l at h6
    obtain ⟨_, g⟩ := numS_sound (most := (l.length : Int)) (ok := true) hb hh
    unfold nodeB headB
    rw [entsB_F, h1, h2, List.nil_append, List.nil_append, if_pos rfl, if_pos rfl, h4, hc]
    rw [List.nil_append, List.nil_append, List.length_nil] at h6
    show _ = 1 :: (enc _ ++ [] ++ _ ++ _)
    rw [List.append_nil, List.append_assoc, ← show (headS true l).l = _ from h6]
    congr 1
  | false =>
    obtain ⟨K, I, h1, h2, h3, h4, h5, h6⟩ := loop_sound_inner (nodeS false l).vs (countS l) (headS false l) (NBd.head hb).1.l rfl h
    have e1 : (headS false l).ks = [] := rfl
    have e2 : (headS false l).is = [(numS 10000 (numS (l.length : Int) l true).2.1 (numS (l.length : Int) l true).2.2).1] := rfl
    rw [e1] at h1 h6
    change (nodeS false l).ks = _ at h1
    change (nodeS false l).is = _ at h2
    change _ = _ ++ (nodeS false l).l at h6
    obtain ⟨g1, g⟩ := numS_sound (most := 10000) (numS_mem (most := (l.length : Int)) (ok := true) hb) hh
    obtain ⟨_, g'⟩ := numS_sound (most := (l.length : Int)) (ok := true) hb g1
    have e3 : (nodeS false l).is.getD 0 0 = (numS 10000 (numS (l.length : Int) l true).2.1 (numS (l.length : Int) l true).2.2).1 := by rw [h2, e2]; rfl
    unfold nodeB headB
    rw [entsB_F, e3, h1, h2, List.nil_append, if_neg (by decide), if_neg (by decide), h4, hc]
    rw [List.nil_append, List.length_nil] at h6
    show _ = 2 :: (enc _ ++ enc _ ++ _ ++ _)
    rw [List.append_assoc, List.append_assoc, ← show (headS false l).l = _ from h6]
    congr 1
    rw [show (headS false l).l = (numS 10000 (numS (l.length : Int) l true).2.1 (numS (l.length : Int) l true).2.2).2.1 from rfl, ← g]
    exact g'
theorem entsF_two (lf : Bool) (ks vs : List (List Int)) (is : List Int) : ∀ k i, 2 * k ≤ (entsF lf ks vs is i k).length
  | 0, i => Nat.zero_le _
  | k + 1, i => by
    rw [entsF_succ, List.length_append]
    have := entsF_two lf ks vs is k (i + 1)
    have h2 : 2 ≤ (entB lf ks vs is i).length := by
      unfold entB pieceB
      rw [List.length_append, List.length_append]
      have := enc_pos (ks.getD i []).length
      have h3 := enc_pos (vs.getD i []).length
      have h4 := enc_pos (is.getD (i + 1) 0)
      split
      · rw [List.length_append]; omega
      · omega
    omega
theorem nodeB_two (lf : Bool) (ks vs : List (List Int)) (is : List Int) : 2 * ks.length ≤ (nodeB lf ks vs is).length ∧ 1 ≤ (nodeB lf ks vs is).length := by
  unfold nodeB headB
  rw [entsB_F, List.length_append, List.length_cons]
  have := entsF_two lf ks vs is ks.length 0
  omega
/-- what is decoded without an error -/
theorem ofS_sound {lf : Bool} {s : NSt} (h : (ofS lf s).er = 0) : s.ok = true ∧ zl s.l = true ∧ nFormB lf s.ks s.vs s.is = true ∧ ofS lf s = ⟨lf, s.ks, s.vs, s.is, 0⟩ := by
  unfold ofS at h ⊢
  by_cases hc : (s.ok && zl s.l && nFormB lf s.ks s.vs s.is) = true
  · rw [if_pos hc]
    simp only [Bool.and_eq_true] at hc
    exact ⟨hc.1.1, hc.1.2, hc.2, rfl⟩
  · rw [if_neg hc] at h; cases h
theorem decA_sound {l : List Int} (hb : ∀ z ∈ l, 0 ≤ z ∧ z ≤ 255) (h : (decA l).er = 0) : ∃ rest, l = nodeB (decA l).lf (decA l).ks (decA l).vs (decA l).is ++ rest ∧ zl rest = true ∧ nFormB (decA l).lf (decA l).ks (decA l).vs (decA l).is = true := by
  have hd : ∀ z ∈ l.drop 1, 0 ≤ z ∧ z ≤ 255 := fun z hz => hb z (List.mem_of_mem_drop hz)
  by_cases h0 : l = []
  · unfold decA at h; rw [if_pos h0] at h; cases h
  have hl : ∀ x, l.getD 0 0 = x → l = x :: l.drop 1 := fun x hx => by
    cases l with
    | nil => exact absurd rfl h0
    | cons y r => have : y = x := hx; subst this; rfl
  by_cases h1 : l.getD 0 0 = 1
  · have e : decA l = ofS true (nodeS true (l.drop 1)) := by unfold decA; rw [if_neg h0, if_pos h1]
    rw [e] at h ⊢
    obtain ⟨k1, k2, k3, k4⟩ := ofS_sound h
    rw [k4]
    have := nodeS_sound hd k1
    rw [if_pos rfl] at this
    exact ⟨_, (hl 1 h1).trans this, k2, k3⟩
  by_cases h2 : l.getD 0 0 = 2
  · have e : decA l = ofS false (nodeS false (l.drop 1)) := by unfold decA; rw [if_neg h0, if_neg h1, if_pos h2]
    rw [e] at h ⊢
    obtain ⟨k1, k2, k3, k4⟩ := ofS_sound h
    rw [k4]
    have := nodeS_sound hd k1
    rw [if_neg (by decide)] at this
    exact ⟨_, (hl 2 h2).trans this, k2, k3⟩
  · unfold decA at h; rw [if_neg h0, if_neg h1, if_neg h2] at h; cases h
theorem decA_er (l : List Int) : (decA l).er = 0 ∨ (decA l).er = 2 := by
  have ho : ∀ lf s, (ofS lf s).er = 0 ∨ (ofS lf s).er = 2 := fun lf s => by unfold ofS; split; exact .inl rfl; exact .inr rfl
  unfold decA
  split
  · exact .inr rfl
  · split
    · exact ho _ _
    · split
      · exact ho _ _
      · exact .inr rfl
theorem zl_get {l : List Int} (h : zl l = true) (i : Nat) : l.getD i 0 = 0 := by
  by_cases hi : i < l.length
  · unfold zl at h
    have := List.all_eq_true.1 h (l.getD i 0) (by rw [List.getD_eq_getElem?_getD, List.getElem?_eq_getElem hi]; exact List.getElem_mem _)
    simpa using this
  · rw [List.getD_eq_getElem?_getD, List.getElem?_eq_none (by omega)]; rfl
/-- what is decoded is bounded -/
theorem decA_bd {l : List Int} (hb : ∀ z ∈ l, 0 ≤ z ∧ z ≤ 255) : (∀ x ∈ (decA l).ks, x.length ≤ 160) ∧ ∀ x ∈ (decA l).vs, x.length ≤ 160 := by
  have hd : ∀ z ∈ l.drop 1, 0 ≤ z ∧ z ≤ 255 := fun z hz => hb z (List.mem_of_mem_drop hz)
  have ho : ∀ lf, (∀ x ∈ (ofS lf (nodeS lf (l.drop 1))).ks, x.length ≤ 160) ∧ ∀ x ∈ (ofS lf (nodeS lf (l.drop 1))).vs, x.length ≤ 160 := fun lf => by
    have := (nodeS_bd (lf := lf) hd).1
    unfold ofS
    split
    · exact ⟨this.k, this.v⟩
    · exact ⟨by simp [noNode], by simp [noNode]⟩
  unfold decA
  split
  · exact ⟨by simp [noNode], by simp [noNode]⟩
  · split
    · exact ho _
    · split
      · exact ho _
      · exact ⟨by simp [noNode], by simp [noNode]⟩
end Go.Proofs.YtbcjhngpcodaoaaDoor
