/- A node's bytes, with noughts behind, are decoded as the node. Plain mathematics. -/
import Derived.Test.YtbcjhngpcodaoaaDoorNdDecP
namespace Go.Proofs.YtbcjhngpcodaoaaDoor
open Go.RowKit
set_option linter.unusedVariables false

theorem numS_enc {most n : Int} {more : List Int} (h0 : 0 ≤ n) (h1 : n ≤ 18446744073709551615) (hm : n ≤ most) : numS most (enc n ++ more) true = (n, more, true) := by
  have ht := enc_take n h0 h1 more
  rw [numS_good ⟨rfl, by rw [ht], by rw [ht]; exact hm⟩, ht]
  have hg : (groups n : Int).toNat = (enc n).length := by rw [enc_length]; rfl
  rw [hg, List.drop_left]
theorem bytS_piece {b more : List Int} (h : b.length ≤ 160) : bytS (pieceB b ++ more) true = (b, more, true) := by
  have hn := numS_enc (most := 160) (n := (b.length : Int)) (more := b ++ more) (by omega) (by omega) (by omega)
  unfold bytS pieceB
  rw [List.append_assoc, hn]
  rw [if_neg (by rw [List.length_append]; show ¬ ((b.length + more.length : Nat) : Int) < (b.length : Int); omega)]
  simp
/-- from the i-th on -/
def entsF (lf : Bool) (ks vs : List (List Int)) (is : List Int) (i k : Nat) : List Int := (List.range' i k).flatMap (entB lf ks vs is)
theorem entsF_succ (lf : Bool) (ks vs : List (List Int)) (is : List Int) (i k : Nat) : entsF lf ks vs is i (k + 1) = entB lf ks vs is i ++ entsF lf ks vs is (i + 1) k := by
  unfold entsF
  rw [List.range'_succ, List.flatMap_cons]
theorem entsB_F (lf : Bool) (ks vs : List (List Int)) (is : List Int) (k : Nat) : entsB lf ks vs is k = entsF lf ks vs is 0 k := by
  unfold entsB entsF
  rw [List.range_eq_range']
theorem take_getD {α : Type} {xs : List α} {i : Nat} (d : α) (h : i < xs.length) : xs.take i ++ [xs.getD i d] = xs.take (i + 1) := by
  rw [List.take_add_one, List.getElem?_eq_getElem h, List.getD_eq_getElem?_getD, List.getElem?_eq_getElem h]
  rfl
theorem loop_leaf {ks vs : List (List Int)} {is zs : List Int} (hv : vs.length = ks.length) (hk : ∀ i, i < ks.length → (ks.getD i []).length ≤ 160 ∧ (vs.getD i []).length ≤ 160) :
    ∀ (k i : Nat), i + k = ks.length → loopS true k ⟨ks.take i, vs.take i, [], entsF true ks vs is i k ++ zs, true⟩ = ⟨ks, vs, [], zs, true⟩
  | 0, i, h => by
    show (⟨_, _, _, _, _⟩ : NSt) = _
    rw [List.take_of_length_le (by omega), List.take_of_length_le (by omega)]
    rfl
  | k + 1, i, h => by
    have hi : i < ks.length := by omega
    obtain ⟨h1, h2⟩ := hk i hi
    show (if true = true then loopS true k (stepS true _) else _) = _
    rw [if_pos rfl]
    have hs : stepS true ⟨ks.take i, vs.take i, [], entsF true ks vs is i (k + 1) ++ zs, true⟩ = ⟨ks.take (i + 1), vs.take (i + 1), [], entsF true ks vs is (i + 1) k ++ zs, true⟩ := by
      unfold stepS
      rw [if_pos rfl]
      dsimp only
      rw [entsF_succ]
      unfold entB
      rw [if_pos rfl, List.append_assoc, List.append_assoc, bytS_piece h1]
      dsimp only
      rw [bytS_piece h2, take_getD [] hi, take_getD [] (by omega)]
    rw [hs]
    exact loop_leaf hv hk k (i + 1) (by omega)
theorem loop_inner {ks vs : List (List Int)} {is zs : List Int} (hv : is.length = ks.length + 1) (hk : ∀ i, i < ks.length → (ks.getD i []).length ≤ 160) (hz : ∀ i, i < is.length → 1 ≤ is.getD i 0 ∧ is.getD i 0 ≤ 9999) :
    ∀ (k i : Nat), i + k = ks.length → loopS false k ⟨ks.take i, [], is.take (i + 1), entsF false ks vs is i k ++ zs, true⟩ = ⟨ks, [], is, zs, true⟩
  | 0, i, h => by
    show (⟨_, _, _, _, _⟩ : NSt) = _
    rw [List.take_of_length_le (by omega), List.take_of_length_le (by omega)]
    rfl
  | k + 1, i, h => by
    have hi : i < ks.length := by omega
    have h1 := hk i hi
    have h2 := hz (i + 1) (by omega)
    show (if true = true then loopS false k (stepS false _) else _) = _
    rw [if_pos rfl]
    have hs : stepS false ⟨ks.take i, [], is.take (i + 1), entsF false ks vs is i (k + 1) ++ zs, true⟩ = ⟨ks.take (i + 1), [], is.take (i + 1 + 1), entsF false ks vs is (i + 1) k ++ zs, true⟩ := by
      unfold stepS
      rw [if_neg (by decide)]
      dsimp only
      rw [entsF_succ]
      unfold entB
      rw [if_neg (by decide), List.append_assoc, List.append_assoc, bytS_piece h1]
      dsimp only
      rw [numS_enc (by omega) (by omega) (by omega), take_getD [] hi, take_getD 0 (by omega)]
    rw [hs]
    exact loop_inner hv hk hz k (i + 1) (by omega)
theorem enc_pos (n : Int) : 1 ≤ (enc n).length := by rw [enc_length]; exact (groups_bd n).1
theorem entsF_pos (lf : Bool) (ks vs : List (List Int)) (is : List Int) : ∀ k i, k ≤ (entsF lf ks vs is i k).length
  | 0, i => Nat.zero_le _
  | k + 1, i => by
    rw [entsF_succ, List.length_append]
    have := entsF_pos lf ks vs is k (i + 1)
    have h2 : 1 ≤ (entB lf ks vs is i).length := by
      unfold entB pieceB
      rw [List.length_append, List.length_append]
      have := enc_pos (ks.getD i []).length
      omega
    omega
theorem formed_keys {lf : Bool} {ks vs : List (List Int)} {is : List Int} (h : nFormB lf ks vs is = true) : ∀ i, i < ks.length → (ks.getD i []).length ≤ 120 ∧ (lf = true → (vs.getD i []).length ≤ 160) := by
  intro i hi
  unfold nFormB at h
  rw [Bool.and_eq_true] at h
  have hk := range_all h.1 hi
  unfold keyOk at hk
  simp only [Bool.and_eq_true, decide_eq_true_eq] at hk
  refine ⟨by omega, fun hl => ?_⟩
  have h2 := h.2
  rw [if_pos hl, Bool.and_eq_true] at h2
  have h3 := h2.2
  unfold cellsOk at h3
  rw [Bool.and_eq_true, decide_eq_true_eq] at h3
  have := range_all h3.2 (j := i) (by omega)
  unfold cellOk at this
  rw [decide_eq_true_eq] at this
  omega
theorem nodeS_back {lf : Bool} {ks vs : List (List Int)} {is zs : List Int} (h : nFormB lf ks vs is = true) (hk : ks.length ≤ 1000000) : nodeS lf ((nodeB lf ks vs is).drop 1 ++ zs) = ⟨ks, vs, is, zs, true⟩ := by
  have hfk := formed_keys h
  have hp := entsF_pos lf ks vs is ks.length 0
  cases lf with
  | true =>
    obtain ⟨e1, e2⟩ := formed_cells h
    obtain rfl := List.eq_nil_of_length_eq_zero e1
    have hd : (nodeB true ks vs []).drop 1 ++ zs = enc ks.length ++ (entsF true ks vs [] 0 ks.length ++ zs) := by
      unfold nodeB headB
      rw [if_pos rfl, if_pos rfl, entsB_F]
      simp
    rw [hd]
    have hn := numS_enc (most := ((enc ks.length ++ (entsF true ks vs [] 0 ks.length ++ zs)).length : Int)) (n := (ks.length : Int)) (more := entsF true ks vs [] 0 ks.length ++ zs) (by omega) (by omega) (by rw [List.length_append, List.length_append]; omega)
    unfold nodeS countS headS
    rw [if_pos rfl, hn]
    have := loop_leaf (is := []) (zs := zs) e2 (fun i hi => ⟨by have := (hfk i hi).1; omega, (hfk i hi).2 rfl⟩) ks.length 0 (by omega)
    simpa using this
  | false =>
    obtain ⟨e1, e2, e3, e4⟩ := formed_kids h
    obtain rfl := List.eq_nil_of_length_eq_zero e3
    have hd : (nodeB false ks [] is).drop 1 ++ zs = enc ks.length ++ (enc (is.getD 0 0) ++ (entsF false ks [] is 0 ks.length ++ zs)) := by
      unfold nodeB headB
      rw [if_neg (by decide), if_neg (by decide), entsB_F]
      simp
    rw [hd]
    have hn := numS_enc (most := ((enc ks.length ++ (enc (is.getD 0 0) ++ (entsF false ks [] is 0 ks.length ++ zs))).length : Int)) (n := (ks.length : Int)) (more := enc (is.getD 0 0) ++ (entsF false ks [] is 0 ks.length ++ zs)) (by omega) (by omega) (by rw [List.length_append, List.length_append, List.length_append]; omega)
    have h0 := e4 0 (by omega)
    have hn2 := numS_enc (most := 10000) (n := is.getD 0 0) (more := entsF false ks [] is 0 ks.length ++ zs) (by omega) (by omega) (by omega)
    unfold nodeS countS headS
    rw [if_neg (by decide), hn]
    dsimp only
    rw [hn2]
    have := loop_inner (vs := []) (zs := zs) e1 (fun i hi => by have := (hfk i hi).1; omega) e4 ks.length 0 (by omega)
    have ht : is.take 1 = [is.getD 0 0] := by rw [show (1 : Nat) = 0 + 1 from rfl, ← take_getD 0 (by omega)]; rfl
    rw [ht] at this
    simpa using this
/-- the bytes, with noughts behind, are decoded as the node -/
theorem decA_back {lf : Bool} {ks vs : List (List Int)} {is zs : List Int} (h : nFormB lf ks vs is = true) (hk : ks.length ≤ 1000000) (hz : zl zs = true) : decA (nodeB lf ks vs is ++ zs) = ⟨lf, ks, vs, is, 0⟩ := by
  have hb := nodeS_back (zs := zs) h hk
  have hne : nodeB lf ks vs is ++ zs ≠ [] := by unfold nodeB headB; simp
  have hd : (nodeB lf ks vs is ++ zs).drop 1 = (nodeB lf ks vs is).drop 1 ++ zs := by unfold nodeB headB; simp
  have h0 : (nodeB lf ks vs is ++ zs).getD 0 0 = if lf then 1 else 2 := by unfold nodeB headB; simp
  unfold decA
  rw [if_neg hne, hd, h0]
  cases lf with
  | true => simp only [if_true]; rw [hb]; unfold ofS; simp [h, hz]
  | false => rw [if_neg (show ¬ (if false = true then (1 : Int) else 2) = 1 by decide), if_pos (by decide), hb]; unfold ofS; simp [h, hz]
end Go.Proofs.YtbcjhngpcodaoaaDoor
