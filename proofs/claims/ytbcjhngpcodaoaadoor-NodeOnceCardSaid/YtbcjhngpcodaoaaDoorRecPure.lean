/- Plain definitions and lemmas: a row's bytes, and the row of bytes. No program. -/
import Derived.Test.YtbcjhngpcodaoaaDoorNumPure
import Derived.Test.YtbcjhngpcodaoaaDoorValPure
namespace Go.Proofs.YtbcjhngpcodaoaaDoor
open Go.RowKit
set_option linter.unusedVariables false

def encV (v : Val) : List Int :=
  if v.1 = 1 then 1 :: enc (zz v.2.1) else if v.1 = 2 then 2 :: (enc v.2.2.size ++ txt v.2.2) else [0]
def encVs : List Val → List Int
  | [] => []
  | v :: l => encV v ++ encVs l
def encR (vs : List Val) : List Int := enc vs.length ++ encVs vs

theorem encVs_append (a b : List Val) : encVs (a ++ b) = encVs a ++ encVs b := by
  induction a with
  | nil => rfl
  | cons v l ih => simp [encVs, ih]
theorem encV_pos (v : Val) : 1 ≤ (encV v).length := by
  unfold encV; split
  · simp
  · split <;> simp
theorem encVs_len (l : List Val) : l.length ≤ (encVs l).length := by
  induction l with
  | nil => simp
  | cons v l ih => have := encV_pos v; simp [encVs]; omega

/-- the value that bytes begin with, and how many bytes it has -/
def takeC (y : Int) (l : List Int) : Option (Val × Nat) :=
    if y = 0 then some (noV, 1)
    else if y = 1 then (if (takeR l).2.2 = 0 then some ((1, sgF (takeR l).1, ⟨#[]⟩), 1 + (takeR l).2.1.toNat) else none)
    else if y = 2 then
      (if (takeR l).2.2 = 0 then
        (if (takeR l).1 ≤ 100 ∧ (takeR l).1 ≤ (l.drop (takeR l).2.1.toNat).length then
          some ((2, 0, strOfNums ((l.drop (takeR l).2.1.toNat).take (takeR l).1.toNat)), 1 + (takeR l).2.1.toNat + (takeR l).1.toNat) else none) else none)
    else none
def takeV : List Int → Option (Val × Nat)
  | [] => none
  | y :: l => takeC y l
/-- so many values that bytes begin with, and what is behind -/
def takeVs : Nat → List Int → Option (List Val × List Int)
  | 0, l => some ([], l)
  | n + 1, l => match takeV l with
    | none => none
    | some (v, u) => match takeVs n (l.drop u) with
      | none => none
      | some (vs, r) => some (v :: vs, r)
def decS (zs : List Int) : Option (List Val × List Int) :=
  if (takeR zs).2.2 = 0 then
    (if (takeR zs).1 ≤ (zs.drop (takeR zs).2.1.toNat).length then takeVs (takeR zs).1.toNat (zs.drop (takeR zs).2.1.toNat) else none) else none
def decR (zs : List Int) : Option (List Val) :=
  match decS zs with
  | some (vs, []) => some vs
  | _ => none

theorem takeV_enc (v : Val) (hv : okV v) (rest : List Int) : takeV (encV v ++ rest) = some (v, (encV v).length) := by
  obtain ⟨hf, h0, h1⟩ := hv
  rcases formed_cases hf with rfl | ⟨n, rfl⟩ | ⟨s, rfl, hs⟩
  · rfl
  · have hz := zz_bd n h0 h1
    have ht := enc_take (zz n) hz.1 hz.2 rest
    show takeC 1 (enc (zz n) ++ rest) = _
    unfold takeC
    rw [ht]
    simp [sgF_zz, enc_length, encV]; omega
  · have ht := enc_take (s.size : Int) (by omega) (by omega) (txt s ++ rest)
    have hl := txt_length s
    have hd : ((enc (s.size : Int)) ++ (txt s ++ rest)).drop (groups (s.size : Int)) = txt s ++ rest := drop_app (by rw [enc_length])
    have he : encV (2, 0, s) ++ rest = 2 :: (enc s.size ++ (txt s ++ rest)) := by simp [encV]
    have he2 : (encV (2, 0, s)).length = 1 + groups (s.size : Int) + s.size := by simp [encV, enc_length, hl]; omega
    rw [he, he2]
    show takeC 2 (enc s.size ++ (txt s ++ rest)) = _
    unfold takeC
    rw [ht]
    dsimp only
    rw [Int.toNat_natCast, hd, if_neg (by decide), if_neg (by decide), if_pos rfl, if_pos rfl, if_pos ⟨by omega, by rw [List.length_append, hl]; omega⟩, Int.toNat_natCast, take_app hl.symm, txt_back]

theorem takeVs_enc : ∀ (vs : List Val) (hv : ∀ v ∈ vs, okV v) (rest : List Int), takeVs vs.length (encVs vs ++ rest) = some (vs, rest)
  | [], _, rest => rfl
  | v :: vs, hv, rest => by
    have h1 := takeV_enc v (hv v (by simp)) (encVs vs ++ rest)
    have h2 := takeVs_enc vs (fun x hx => hv x (by simp [hx])) rest
    simp only [List.length_cons, takeVs, encVs, List.append_assoc, h1, List.drop_left, h2]

theorem decS_enc (vs : List Val) (hv : ∀ v ∈ vs, okV v) (hl : vs.length ≤ 1000000) (rest : List Int) : decS (encR vs ++ rest) = some (vs, rest) := by
  have ht := enc_take (vs.length : Int) (by omega) (by omega) (encVs vs ++ rest)
  have hd : ((enc (vs.length : Int)) ++ (encVs vs ++ rest)).drop (groups (vs.length : Int)) = encVs vs ++ rest := drop_app (by rw [enc_length])
  have h2 := takeVs_enc vs hv rest
  have h3 := encVs_len vs
  unfold decS encR
  rw [List.append_assoc, ht]
  dsimp only
  rw [Int.toNat_natCast, hd, if_pos rfl, if_pos (by rw [List.length_append]; omega), Int.toNat_natCast, h2]
theorem decR_enc (vs : List Val) (hv : ∀ v ∈ vs, okV v) (hl : vs.length ≤ 1000000) : decR (encR vs) = some vs := by
  have := decS_enc vs hv hl []
  rw [List.append_nil] at this
  unfold decR; rw [this]

/-- a number's bytes are the only ones -/
theorem tk_canon : ∀ (l : List Int) (i : Nat) (N n : Int) (k : Int), 0 ≤ N → (∀ z ∈ l, 0 ≤ z ∧ z ≤ 255) → tk i N l = (n, k, 0) →
    ∃ j : Nat, k = i + j + 1 ∧ j < l.length ∧ l.take (j + 1) = dl n j ++ [n % 128] ∧ n / 2 ^ (7 * (j + 1)) = N
  | [], _, _, _, _, _, _, h => by simp [tk] at h
  | y :: l, i, N, n, k, hN, hb, h => by
    unfold tk at h
    by_cases hc : 10 ≤ i ∨ 144115188075855872 ≤ N
    · rw [if_pos hc] at h; simp at h
    · rw [if_neg hc] at h
      have hy := hb y (by simp)
      have hs := stepN_eq N y hN (by omega) hy.1 hy.2
      by_cases h2 : y < 128
      · rw [if_pos h2] at h
        simp only [Prod.mk.injEq] at h
        obtain ⟨h3, h4, _⟩ := h
        refine ⟨0, by omega, by simp, ?_, ?_⟩
        · simp [dl]; omega
        · simp; omega
      · rw [if_neg h2] at h
        obtain ⟨j, a, b, c, d⟩ := tk_canon l (i + 1) _ n k (by omega) (fun z hz => hb z (by simp [hz])) h
        refine ⟨j + 1, by omega, by simp; omega, ?_, ?_⟩
        · rw [List.take_succ_cons, c]
          simp only [dl, List.cons_append]
          rw [d, hs, show 128 + (N * 128 + y % 128) % 128 = y by omega]
        · have e := div_step n (j + 1)
          rw [e, d, hs]; omega

theorem take_canon {zs : List Int} {n k : Int} (hb : ∀ z ∈ zs, 0 ≤ z ∧ z ≤ 255) (h : takeR zs = (n, k, 0)) : zs.take k.toNat = enc n ∧ k = groups n := by
  have hbd := takeR_bd hb
  rw [h] at hbd
  unfold takeR at h
  by_cases h1 : zs.getD 0 0 = 128
  · rw [if_pos h1] at h; simp at h
  rw [if_neg h1] at h
  have hn0 : 0 ≤ n ∧ n ≤ 18446744073709551615 := by
    rcases hbd with hbd | hbd
    · exact ⟨hbd.2.1, hbd.2.2.1⟩
    · simp at hbd
  obtain ⟨j, a, b, c, d⟩ := tk_canon zs 0 0 n k (by omega) hb h
  have hg : groups n = j + 1 := by
    refine groups_eq n hn0.1 hn0.2 j d ?_
    rcases Nat.eq_zero_or_pos j with hj | hj
    · exact .inl hj
    · right
      obtain ⟨m, rfl⟩ : ∃ m, j = m + 1 := ⟨j - 1, by omega⟩
      have e : zs.getD 0 0 = 128 + (n / 2 ^ (7 * (m + 1))) % 128 := by
        cases zs with
        | nil => simp at b
        | cons z zs =>
          rw [List.take_succ_cons] at c
          simp only [dl, List.cons_append, List.cons.injEq] at c
          simp [c.1]
      have := (div_le n hn0.1 (m + 1)).1
      omega
  rw [enc_dl n j hg, ← c, hg]
  exact ⟨by congr 1; omega, by omega⟩

theorem sgF_bd (n : Int) (h0 : 0 ≤ n) (h1 : n ≤ 18446744073709551615) : -9223372036854775808 ≤ sgF n ∧ sgF n ≤ 9223372036854775807 := by unfold sgF; split <;> omega
theorem zz_sgF (n : Int) (h0 : 0 ≤ n) : zz (sgF n) = n := by unfold zz sgF; split <;> split <;> omega

theorem takeV_canon {l : List Int} {v : Val} {u : Nat} (hb : ∀ z ∈ l, 0 ≤ z ∧ z ≤ 255) (h : takeV l = some (v, u)) : okV v ∧ l.take u = encV v ∧ u ≤ l.length ∧ 1 ≤ u := by
  cases l with
  | nil => simp [takeV] at h
  | cons y l =>
    have hb' : ∀ z ∈ l, 0 ≤ z ∧ z ≤ 255 := fun z hz => hb z (by simp [hz])
    replace h : takeC y l = some (v, u) := h
    unfold takeC at h
    by_cases h0 : y = 0
    · rw [if_pos h0] at h
      simp only [Option.some.injEq, Prod.mk.injEq] at h
      obtain ⟨rfl, rfl⟩ := h
      exact ⟨⟨formed_null, by simp [noV], by simp [noV]⟩, by simp [encV, noV, h0], by simp, by omega⟩
    rw [if_neg h0] at h
    rcases takeR_bd hb' with ⟨e0, e1, e2, e3, e4, e5⟩ | hno
    · obtain ⟨n, k, e⟩ : ∃ n k, takeR l = (n, k, 0) := ⟨_, _, by rw [← e0]⟩
      rw [e] at h e1 e2 e3 e4 e5
      dsimp only at h e1 e2 e3 e4 e5
      obtain ⟨hc, hk⟩ := take_canon hb' e
      by_cases h1 : y = 1
      · rw [if_pos h1, if_pos rfl] at h
        simp only [Option.some.injEq, Prod.mk.injEq] at h
        obtain ⟨rfl, rfl⟩ := h
        refine ⟨⟨formed_int _, (sgF_bd n e1 e2).1, (sgF_bd n e1 e2).2⟩, ?_, by simp; omega, by omega⟩
        rw [Nat.add_comm, List.take_succ_cons, hc]
        simp [encV, zz_sgF n e1, h1]
      · rw [if_neg h1] at h
        by_cases h2 : y = 2
        · rw [if_pos h2, if_pos rfl] at h
          by_cases h3 : n ≤ 100 ∧ n ≤ (l.drop k.toNat).length
          · rw [if_pos h3] at h
            simp only [Option.some.injEq, Prod.mk.injEq] at h
            obtain ⟨rfl, rfl⟩ := h
            have hl : ((l.drop k.toNat).take n.toNat).length = n.toNat := by rw [List.length_take]; omega
            have hr : ∀ z ∈ (l.drop k.toNat).take n.toNat, 0 ≤ z ∧ z ≤ 255 := fun z hz => hb' z (List.mem_of_mem_drop (List.mem_of_mem_take hz))
            have hsz : (strOfNums ((l.drop k.toNat).take n.toNat)).size = n.toNat := by rw [numBytes_size, hl]
            have h4 := h3.2
            rw [List.length_drop] at h4
            refine ⟨⟨formed_text (by rw [hsz]; omega), by simp, by simp⟩, ?_, by simp; omega, by omega⟩
            · simp only [encV]
              rw [if_neg (by decide), if_pos trivial, hsz, back_txt _ hr, show 1 + k.toNat + n.toNat = (k.toNat + n.toNat) + 1 by omega, List.take_succ_cons, List.take_add, hc, show ((n.toNat : Nat) : Int) = n by omega, h2]
          · rw [if_neg h3] at h; simp at h
        · rw [if_neg h2] at h; simp at h
    · rw [hno] at h
      simp at h

theorem takeVs_canon : ∀ (n : Nat) (l : List Int) (vs : List Val) (r : List Int), (∀ z ∈ l, 0 ≤ z ∧ z ≤ 255) → takeVs n l = some (vs, r) → vs.length = n ∧ (∀ v ∈ vs, okV v) ∧ l = encVs vs ++ r
  | 0, l, vs, r, _, h => by
    simp only [takeVs, Option.some.injEq, Prod.mk.injEq] at h
    obtain ⟨rfl, rfl⟩ := h
    exact ⟨rfl, by simp, rfl⟩
  | n + 1, l, vs, r, hb, h => by
    unfold takeVs at h
    cases e : takeV l with
    | none => rw [e] at h; simp at h
    | some p =>
      obtain ⟨v, u⟩ := p
      rw [e] at h
      dsimp only at h
      cases e2 : takeVs n (l.drop u) with
      | none => rw [e2] at h; simp at h
      | some p =>
        obtain ⟨ws, r'⟩ := p
        rw [e2] at h
        simp only [Option.some.injEq, Prod.mk.injEq] at h
        obtain ⟨rfl, rfl⟩ := h
        obtain ⟨a1, a2, a3, a4⟩ := takeV_canon hb e
        obtain ⟨b1, b2, b3⟩ := takeVs_canon n (l.drop u) ws r' (fun z hz => hb z (List.mem_of_mem_drop hz)) e2
        refine ⟨by simp [b1], fun x hx => ?_, ?_⟩
        · rcases List.mem_cons.1 hx with rfl | hx
          · exact a1
          · exact b2 x hx
        · simp only [encVs, List.append_assoc]
          rw [← b3, ← a2, List.take_append_drop]

theorem decS_canon {zs : List Int} {vs : List Val} {r : List Int} (hb : ∀ z ∈ zs, 0 ≤ z ∧ z ≤ 255) (h : decS zs = some (vs, r)) : (∀ v ∈ vs, okV v) ∧ zs = encR vs ++ r := by
  unfold decS at h
  rcases takeR_bd hb with ⟨e0, e1, e2, e3, e4, e5⟩ | hno
  · obtain ⟨n, k, e⟩ : ∃ n k, takeR zs = (n, k, 0) := ⟨_, _, by rw [← e0]⟩
    obtain ⟨hc, hk⟩ := take_canon hb e
    rw [e] at h e1
    dsimp only at h e1
    rw [if_pos rfl] at h
    by_cases h2 : n ≤ (zs.drop k.toNat).length
    · rw [if_pos h2] at h
      obtain ⟨a1, a2, a3⟩ := takeVs_canon _ _ _ _ (fun z hz => hb z (List.mem_of_mem_drop hz)) h
      refine ⟨a2, ?_⟩
      unfold encR
      rw [a1, List.append_assoc, ← a3, show ((n.toNat : Nat) : Int) = n by omega, ← hc, List.take_append_drop]
    · rw [if_neg h2] at h; simp at h
  · rw [hno] at h; simp at h
theorem decR_canon {zs : List Int} {vs : List Val} (hb : ∀ z ∈ zs, 0 ≤ z ∧ z ≤ 255) (h : decR zs = some vs) : (∀ v ∈ vs, okV v) ∧ zs = encR vs := by
  unfold decR at h
  split at h
  · rename_i ws he
    simp only [Option.some.injEq] at h
    subst h
    have := decS_canon hb he
    simpa using this
  · simp at h

theorem encV_range (v : Val) : ∀ z ∈ encV v, 0 ≤ z ∧ z ≤ 255 := by
  intro z hz
  unfold encV at hz
  have hzz : 0 ≤ zz v.2.1 := by unfold zz; split <;> omega
  split at hz
  · rcases List.mem_cons.1 hz with rfl | hz
    · omega
    · exact enc_range _ hzz z hz
  · split at hz
    · rcases List.mem_cons.1 hz with rfl | hz
      · omega
      · rcases List.mem_append.1 hz with hz | hz
        · exact enc_range _ (by omega) z hz
        · exact txt_range _ z hz
    · simp at hz; omega
theorem encVs_range (l : List Val) : ∀ z ∈ encVs l, 0 ≤ z ∧ z ≤ 255 := by
  induction l with
  | nil => intro z hz; cases hz
  | cons v l ih =>
    intro z hz
    rcases List.mem_append.1 hz with hz | hz
    · exact encV_range v z hz
    · exact ih z hz
theorem encR_range (l : List Val) : ∀ z ∈ encR l, 0 ≤ z ∧ z ≤ 255 := by
  intro z hz
  rcases List.mem_append.1 hz with hz | hz
  · exact enc_range _ (by omega) z hz
  · exact encVs_range l z hz

/-- cut off, a row's bytes are none -/
theorem decR_cut (vs : List Val) (hv : ∀ v ∈ vs, okV v) (hl : (encR vs).length ≤ 1000000) (c : Nat) (hc : c < (encR vs).length) : decR ((encR vs).take c) = none := by
  have g0 := encVs_len vs
  have g1 : (encVs vs).length ≤ (encR vs).length := by unfold encR; rw [List.length_append]; omega
  cases e : decR ((encR vs).take c) with
  | none => rfl
  | some ws =>
    obtain ⟨h1, h2⟩ := decR_canon (fun z hz => encR_range vs z (List.mem_of_mem_take hz)) e
    have h3 := encVs_len ws
    have h4 : (encVs ws).length ≤ (encR ws).length := by unfold encR; rw [List.length_append]; omega
    have h5 : (encR ws).length = c := by rw [← h2, List.length_take]; omega
    have h6 := decS_enc ws h1 (by omega) ((encR vs).drop c)
    rw [← h2, List.take_append_drop] at h6
    have h7 := decS_enc vs hv (by omega) []
    rw [List.append_nil, h6] at h7
    simp only [Option.some.injEq, Prod.mk.injEq] at h7
    have h8 := congrArg List.length h7.2
    simp at h8
    omega
theorem decR_more (vs : List Val) (hv : ∀ v ∈ vs, okV v) (hl : vs.length ≤ 1000000) (more : List Int) (hm : more ≠ []) : decR (encR vs ++ more) = none := by
  unfold decR
  rw [decS_enc vs hv hl more]
  cases more with
  | nil => exact absurd rfl hm
  | cons z l => rfl
end Go.Proofs.YtbcjhngpcodaoaaDoor
