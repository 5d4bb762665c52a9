/- Plain definitions and lemmas: a row's key, and the row of a key; the order of keys. No program. -/
import Derived.Test.YtplgkblahmndoaaValPure
import Derived.Test.YtplgkblahmndoaaBase
namespace Go.Proofs.Ytplgkblahmndoaa
open Go.RowKit
set_option linter.unusedVariables false

/-- a number's k lowest bytes, the highest one first -/
def beN (n : Int) : Nat → List Int
  | 0 => []
  | k + 1 => (n / 2 ^ (8 * k)) % 256 :: beN n k
theorem beN_length (n : Int) (k : Nat) : (beN n k).length = k := by induction k with | zero => rfl | succ k ih => simp [beN, ih]
theorem beN_range (n : Int) (k : Nat) : ∀ z ∈ beN n k, 0 ≤ z ∧ z ≤ 255 := by
  induction k with
  | zero => intro z hz; cases hz
  | succ k ih =>
    intro z hz
    rcases List.mem_cons.1 hz with rfl | hz
    · omega
    · exact ih z hz
/-- the number whose bytes they are -/
def num (N : Int) : List Int → Int
  | [] => N
  | z :: l => num (N * 256 + z) l
theorem be_step (n : Int) (k : Nat) : n / 2 ^ (8 * (k + 1)) = n / 2 ^ (8 * k) / 256 := by
  rw [Int.ediv_ediv_of_nonneg (Int.pow_nonneg (by omega)), show 8 * (k + 1) = 8 * k + 8 by omega, Int.pow_add]; rfl
theorem num_be (n : Int) : ∀ k, num (n / 2 ^ (8 * k)) (beN n k) = n
  | 0 => by simp [num, beN]
  | k + 1 => by
    simp only [beN, num]
    have e := be_step n k
    rw [e, show n / 2 ^ (8 * k) / 256 * 256 + n / 2 ^ (8 * k) % 256 = n / 2 ^ (8 * k) by omega]
    exact num_be n k
theorem num_be0 (n : Int) (k : Nat) (h0 : 0 ≤ n) (h1 : n < 2 ^ (8 * k)) : num 0 (beN n k) = n := by
  have := num_be n k
  rwa [Int.ediv_eq_zero_of_lt h0 h1] at this
theorem num_bd : ∀ (l : List Int) (N : Int), 0 ≤ N → (∀ z ∈ l, 0 ≤ z ∧ z ≤ 255) → 0 ≤ num N l ∧ num N l < (N + 1) * 256 ^ l.length
  | [], N, h, _ => by simp [num]; omega
  | z :: l, N, h, hb => by
    have hz := hb z (by simp)
    obtain ⟨a, b⟩ := num_bd l (N * 256 + z) (by omega) (fun x hx => hb x (by simp [hx]))
    refine ⟨a, Int.lt_of_lt_of_le b ?_⟩
    have e : (N + 1) * 256 ^ (l.length + 1) = ((N + 1) * 256) * 256 ^ l.length := by rw [Int.pow_succ, Int.mul_comm _ (256 : Int), Int.mul_assoc]
    rw [List.length_cons, e]
    exact Int.mul_le_mul_of_nonneg_right (by omega) (Int.pow_nonneg (by omega))

/-- a text's bytes, each nought with a byte behind it -/
def esc : List Int → List Int
  | [] => []
  | z :: l => if z = 0 then 0 :: 255 :: esc l else z :: esc l
def keyV (v : Val) : List Int :=
  if v.1 = 1 then 16 :: beN (v.2.1 + 9223372036854775808) 8 else if v.1 = 2 then 32 :: (esc (txt v.2.2) ++ [0, 0]) else [5]
def keyVs : List Val → List Int
  | [] => []
  | v :: l => keyV v ++ keyVs l
theorem keyVs_append (a b : List Val) : keyVs (a ++ b) = keyVs a ++ keyVs b := by
  induction a with
  | nil => rfl
  | cons v l ih => simp [keyVs, ih]
theorem esc_append (a b : List Int) : esc (a ++ b) = esc a ++ esc b := by
  induction a with
  | nil => rfl
  | cons z l ih => by_cases hz : z = 0 <;> simp [esc, hz, ih]
theorem esc_len (l : List Int) : (esc l).length ≤ 2 * l.length := by
  induction l with
  | nil => simp [esc]
  | cons z l ih => unfold esc; split <;> simp <;> omega
theorem esc_range {l : List Int} (h : ∀ z ∈ l, 0 ≤ z ∧ z ≤ 255) : ∀ z ∈ esc l, 0 ≤ z ∧ z ≤ 255 := by
  induction l with
  | nil => intro z hz; cases hz
  | cons y l ih =>
    have hy := h y (by simp)
    have ih := ih (fun z hz => h z (by simp [hz]))
    intro z hz
    unfold esc at hz
    split at hz
    · rcases List.mem_cons.1 hz with rfl | hz
      · omega
      · rcases List.mem_cons.1 hz with rfl | hz
        · omega
        · exact ih z hz
    · rcases List.mem_cons.1 hz with rfl | hz
      · exact hy
      · exact ih z hz
theorem keyV_range (v : Val) : ∀ z ∈ keyV v, 0 ≤ z ∧ z ≤ 255 := by
  intro z hz
  unfold keyV at hz
  split at hz
  · rcases List.mem_cons.1 hz with rfl | hz
    · omega
    · exact beN_range _ _ z hz
  · split at hz
    · rcases List.mem_cons.1 hz with rfl | hz
      · omega
      · rcases List.mem_append.1 hz with hz | hz
        · exact esc_range (txt_range _) z hz
        · simp at hz; omega
    · simp at hz; omega
theorem keyVs_range (l : List Val) : ∀ z ∈ keyVs l, 0 ≤ z ∧ z ≤ 255 := by
  induction l with
  | nil => intro z hz; cases hz
  | cons v l ih =>
    intro z hz
    rcases List.mem_append.1 hz with hz | hz
    · exact keyV_range v z hz
    · exact ih z hz

theorem keyV_len (v : Val) (h : formedV v = true) : 1 ≤ (keyV v).length ∧ (keyV v).length ≤ 203 := by
  rcases formed_cases h with rfl | ⟨n, rfl⟩ | ⟨s, rfl, hs⟩
  · simp [keyV]
  · simp [keyV, beN_length]
  · have := esc_len (txt s)
    rw [txt_length] at this
    simp [keyV]; omega

/-- a text's bytes that a key's text begins with, and how many bytes it has with its end -/
def takeT : List Int → Option (List Int × Nat)
  | [] => none
  | z :: l => if z = 0 then (match l with
      | [] => none
      | y :: l' => if y = 0 then some ([], 2) else if y = 255 then (takeT l').map fun p => (0 :: p.1, p.2 + 2) else none)
    else (takeT l).map fun p => (z :: p.1, p.2 + 1)
theorem takeT_esc : ∀ (l rest : List Int), takeT (esc l ++ 0 :: 0 :: rest) = some (l, (esc l).length + 2)
  | [], rest => by simp [esc, takeT]
  | z :: l, rest => by
    by_cases hz : z = 0
    · subst hz
      simp [esc, takeT, takeT_esc l rest]
    · have e : esc (z :: l) = z :: esc l := by simp [esc, hz]
      have e2 : takeT (z :: (esc l ++ 0 :: 0 :: rest)) = (takeT (esc l ++ 0 :: 0 :: rest)).map fun p => (z :: p.1, p.2 + 1) := by
        conv => lhs; unfold takeT
        rw [if_neg hz]
      rw [e, List.cons_append, e2, takeT_esc l rest]
      simp

/-- the value that a key begins with, and how many bytes it has -/
def takeC (y : Int) (l : List Int) : Option (Val × Nat) :=
  if y = 5 then some (noV, 1)
  else if y = 16 then (if l.length < 8 then none else some ((1, num 0 (l.take 8) - 9223372036854775808, ⟨#[]⟩), 9))
  else if y = 32 then (match takeT l with
    | none => none
    | some (t, u) => if t.length ≤ 100 then some ((2, 0, strOfNums t), u + 1) else none)
  else none
def takeV : List Int → Option (Val × Nat)
  | [] => none
  | y :: l => takeC y l
theorem takeV_key (v : Val) (hv : okV v) (rest : List Int) : takeV (keyV v ++ rest) = some (v, (keyV v).length) := by
  obtain ⟨hf, h0, h1⟩ := hv
  rcases formed_cases hf with rfl | ⟨n, rfl⟩ | ⟨s, rfl, hs⟩
  · rfl
  · have hl := beN_length (n + 9223372036854775808) 8
    have hn := num_be0 (n + 9223372036854775808) 8 (by dsimp only at h0; omega) (by dsimp only at h1; omega)
    show takeC 16 (beN (n + 9223372036854775808) 8 ++ rest) = _
    unfold takeC
    rw [if_neg (by decide), if_pos rfl, if_neg (by rw [List.length_append]; omega), take_app hl.symm, hn]
    simp [keyV, hl]
  · have ht := takeT_esc (txt s) rest
    have e : keyV (2, 0, s) ++ rest = 32 :: (esc (txt s) ++ 0 :: 0 :: rest) := by simp [keyV]
    rw [e]
    show takeC 32 _ = _
    unfold takeC
    rw [if_neg (by decide), if_neg (by decide), if_pos rfl, ht]
    dsimp only
    rw [if_pos (by rw [txt_length]; exact hs), txt_back]
    simp [keyV]

theorem takeV_le {l : List Int} {v : Val} {u : Nat} (h : takeV l = some (v, u)) : 1 ≤ u ∧ u ≤ l.length := by
  have key : ∀ (n : Nat) (l : List Int), l.length ≤ n → ∀ t u, takeT l = some (t, u) → u ≤ l.length := by
    intro n
    induction n with
    | zero => intro l hl t u h; obtain rfl := List.eq_nil_of_length_eq_zero (Nat.le_zero.1 hl); simp [takeT] at h
    | succ n ih =>
      intro l hl t u h
      cases l with
      | nil => simp [takeT] at h
      | cons z l =>
        unfold takeT at h
        split at h
        · cases l with
          | nil => simp at h
          | cons y l' =>
            dsimp only at h
            split at h
            · simp at h; simp; omega
            · split at h
              · cases e : takeT l' with
                | none => rw [e] at h; simp at h
                | some p =>
                  rw [e] at h
                  simp at h
                  have := ih l' (by simp at hl; omega) p.1 p.2 (by rw [e])
                  simp; omega
              · simp at h
        · cases e : takeT l with
          | none => rw [e] at h; simp at h
          | some p =>
            rw [e] at h
            simp at h
            have := ih l (by simp at hl; omega) p.1 p.2 (by rw [e])
            simp; omega
  cases l with
  | nil => simp [takeV] at h
  | cons y l =>
    replace h : takeC y l = some (v, u) := h
    unfold takeC at h
    split at h
    · simp at h; simp; omega
    · split at h
      · split at h
        · simp at h
        · simp at h; simp; omega
      · split at h
        · cases e : takeT l with
          | none => rw [e] at h; simp at h
          | some p =>
            obtain ⟨t, u'⟩ := p
            rw [e] at h
            dsimp only at h
            split at h
            · simp at h
              have := key l.length l (Nat.le_refl _) t u' e
              simp; omega
            · simp at h
        · simp at h

/-- the row whose key it is: at most so many values -/
def rowF : Nat → List Int → Option (List Val)
  | _, [] => some []
  | 0, _ :: _ => none
  | n + 1, y :: l => match takeV (y :: l) with
    | none => none
    | some (v, u) => (rowF n ((y :: l).drop u)).map (v :: ·)
def rowK (l : List Int) : Option (List Val) := rowF l.length l
theorem rowF_more : ∀ (n m : Nat) (l : List Int), l.length ≤ n → n ≤ m → rowF n l = rowF m l
  | n, m, [], _, _ => by cases n <;> cases m <;> rfl
  | 0, _, _ :: _, h, _ => by simp at h
  | n + 1, 0, _ :: _, _, h => by omega
  | n + 1, m + 1, y :: l, h, h2 => by
    unfold rowF
    cases e : takeV (y :: l) with
    | none => rfl
    | some p =>
      obtain ⟨v, u⟩ := p
      dsimp only
      have hu := takeV_le e
      rw [rowF_more n m _ (by rw [List.length_drop]; simp at h hu ⊢; omega) (by omega)]
theorem rowK_nil : rowK [] = some [] := rfl
theorem rowK_none {l : List Int} (h0 : l ≠ []) (h : takeV l = none) : rowK l = none := by
  cases l with
  | nil => exact absurd rfl h0
  | cons y l => unfold rowK rowF; simp only [List.length_cons, h]
theorem rowK_some {l : List Int} {v : Val} {u : Nat} (h : takeV l = some (v, u)) : rowK l = (rowK (l.drop u)).map (v :: ·) := by
  cases l with
  | nil => simp [takeV] at h
  | cons y l =>
    have hu := takeV_le h
    unfold rowK
    conv => lhs; unfold rowF
    simp only [List.length_cons, h]
    rw [rowF_more ((y :: l).drop u).length l.length _ (Nat.le_refl _) (by rw [List.length_drop]; simp at hu ⊢; omega)]
theorem rowK_key : ∀ (vs : List Val) (hv : ∀ v ∈ vs, okV v), rowK (keyVs vs) = some vs
  | [], _ => rfl
  | v :: vs, hv => by
    have h := takeV_key v (hv v (by simp)) (keyVs vs)
    have e : keyVs (v :: vs) = keyV v ++ keyVs vs := rfl
    rw [e, rowK_some h, List.drop_left, rowK_key vs fun x hx => hv x (by simp [hx])]
    rfl
end Go.Proofs.Ytplgkblahmndoaa
