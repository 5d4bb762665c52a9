/- A text of words and blanks has these words. Plain mathematics. -/
import Derived.Test.YtpinalpigefenaaGreatDoorLwAgain
import Derived.Test.YtpinalpigefenaaGreatDoorLxPure
import Derived.Lib.ItoaNum
namespace Go.Proofs.YtpinalpigefenaaGreatDoor
open Go.Lib
set_option linter.unusedVariables false
set_option linter.unusedSimpArgs false
set_option maxRecDepth 100000

/-- a word, or a blank -/
abbrev Tok := Option Wd
def tokT : Tok → Bs
  | none => [32]
  | some x => wrW x
def textK (l : List Tok) : Bs := l.flatMap tokT
def wordsK (l : List Tok) : List Wd := l.filterMap id
def addAll (ws : List Wd) : List Wd → An (List Wd)
  | [] => .ok ws
  | x :: l => (addM ws x).bind fun y => addAll y l
/-- the word is read, whatever it is that stands behind it -/
def Rdw (x : Wd) (r : Bs) : Prop := ∃ b t, wrW x ++ r = b :: t ∧ ¬ (b = 32 ∨ b = 9 ∨ b = 10) ∧ ¬ (b = 45 ∧ t.head? = some 45) ∧ wordD (b :: t) = some (x, r)
/-- each word is read where it stands -/
def OkK : List Tok → Bs → Prop
  | [], _ => True
  | none :: l, r => OkK l r
  | some x :: l, r => Rdw x (textK l ++ r) ∧ OkK l r
theorem textK_cons (t : Tok) (l : List Tok) : textK (t :: l) = tokT t ++ textK l := rfl
theorem textK_app (a b : List Tok) : textK (a ++ b) = textK a ++ textK b := by unfold textK; rw [List.flatMap_append]
theorem wordsK_app (a b : List Tok) : wordsK (a ++ b) = wordsK a ++ wordsK b := by unfold wordsK; rw [List.filterMap_append]
theorem okK_app {r : Bs} {b : List Tok} (hb : OkK b r) : ∀ {a : List Tok}, OkK a (textK b ++ r) → OkK (a ++ b) r
  | [], _ => hb
  | none :: a, h => okK_app hb (a := a) h
  | some x :: a, h => ⟨by show Rdw x (textK (a ++ b) ++ r); rw [textK_app, List.append_assoc]; exact h.1, okK_app hb h.2⟩
theorem run_toks (r : Bs) : ∀ (l : List Tok) (ws : List Wd), OkK l r → run (0, [], ws) (textK l ++ r) = (addAll ws (wordsK l)).bind fun y => run (0, [], y) r
  | [], ws, _ => rfl
  | none :: l, ws, h => by
    rw [textK_cons, List.append_assoc]
    show run (0, [], ws) (32 :: (textK l ++ r)) = _
    rw [run_blank _ _ _ _ (.inl rfl), run_toks r l ws h]
    rfl
  | some x :: l, ws, h => by
    obtain ⟨⟨b, t, e, h1, h2, h3⟩, h4⟩ := h
    rw [textK_cons, List.append_assoc]
    show run (0, [], ws) (wrW x ++ (textK l ++ r)) = _
    rw [e, run_word ws b t h1 h2, h3]
    show (addM ws x).bind (fun y => run (0, [], y) (textK l ++ r)) = ((addM ws x).bind fun y => addAll y (wordsK l)).bind fun y => run (0, [], y) r
    cases addM ws x with
    | no e => rfl
    | ok y => exact run_toks r l y h4
/-- what is added is there, or it is too much -/
theorem addAll_is : ∀ (l : List Wd) (ws : List Wd), addAll ws l = .no eL ∨ addAll ws l = .ok (ws ++ l)
  | [], ws => .inr (by rw [List.append_nil]; rfl)
  | x :: l, ws => by
    show (addM ws x).bind (fun y => addAll y l) = _ ∨ (addM ws x).bind (fun y => addAll y l) = _
    unfold addM
    split
    · exact .inl rfl
    · have := addAll_is l (ws ++ [x])
      rw [List.append_assoc] at this
      exact this
theorem run_text_of (l : List Tok) (h : OkK l []) : run (0, [], []) (textK l) = .no eL ∨ run (0, [], []) (textK l) = .ok (wordsK l) := by
  have e := run_toks [] l [] h
  rw [List.append_nil] at e
  rw [e]
  rcases addAll_is (wordsK l) [] with h | h
  · rw [h]; exact .inl rfl
  · rw [h]
    exact .inr (run_nil (0, [], wordsK l))

/-- nothing there that goes on with letters and digits -/
def Sp (r : Bs) : Prop := span r = ([], r)
theorem sp_nil : Sp [] := span_nil
theorem sp_low {b : UInt8} (t : Bs) (h : b.toNat < 128) (hn : ndL b.toNat = false) : Sp (b :: t) := span_no (by rw [dec_low b t h]; exact hn)
theorem span_ok : ∀ (n : Nat) (l p : Bs) (c : Nat) (r : Bs), l.length ≤ n → l.length ≤ c → Sp r → okFrom ⟨(p ++ l).toArray⟩ c p.length = true → span (l ++ r) = (l, r)
  | n, [], p, c, r, _, _, hr, _ => hr
  | 0, b :: t, p, c, r, h, _, _, _ => by simp at h
  | n + 1, b :: t, p, c, r, hn, hc, hr, ho => by
    have hw := dec_wd (b :: t) (by simp)
    have hdec : Utf8.decode ⟨(p ++ (b :: t)).toArray⟩ p.length = decodeL (b :: t) := by
      rw [dec_list]
      simp only [List.drop_left]
    obtain ⟨c, rfl⟩ : ∃ c', c = c' + 1 := ⟨c - 1, by simp at hc; omega⟩
    unfold okFrom at ho
    rw [if_pos (by simp [ByteArray.size]), hdec, Bool.and_eq_true] at ho
    obtain ⟨h1, h2⟩ := ho
    have hnd : ndL (decodeL (b :: t)).1 = true := by
      unfold ndL letL digL
      rw [Bool.or_eq_true] at h1 ⊢
      exact h1.imp id (fun h => by rw [Bool.and_eq_true] at h; exact h.2)
    have hpl : (p ++ (b :: t).take (decodeL (b :: t)).2).length = p.length + (decodeL (b :: t)).2 := by rw [List.length_append, List.length_take]; omega
    have ih := span_ok n ((b :: t).drop (decodeL (b :: t)).2) (p ++ (b :: t).take (decodeL (b :: t)).2) c r (by rw [List.length_drop]; simp at hn ⊢; omega) (by rw [List.length_drop]; simp at hc ⊢; omega) hr (by rw [hpl, List.append_assoc, List.take_append_drop]; exact h2)
    have hd := nd_chunk b t ((b :: t).drop (decodeL (b :: t)).2 ++ r) hnd
    rw [← List.append_assoc, List.take_append_drop] at hd
    rw [span_yes (by simp) (by rw [hd]; exact hnd), hd, List.take_append_of_le_length hw.2, List.drop_append_of_le_length hw.2, ih, List.take_append_drop]
/-- letters and digits, a letter ahead -/
theorem rdw_ok {c : ByteArray} (ho : okAll c = true) (h0 : 0 < c.size) (hc : Lib.runeCount c ≤ 16) {r : Bs} (hr : Sp r) : Rdw (1, c.data.toList, 0) r := by
  have hs := span_ok c.size c.data.toList [] c.size r (by rw [Array.length_toList]; exact Nat.le_refl _) (by rw [Array.length_toList]; exact Nat.le_refl _) hr (by exact ho)
  rw [← runeCountL_eq] at hc
  have hl : letL (decodeL c.data.toList).1 = true := by
    unfold okAll at ho
    obtain ⟨m, hm⟩ : ∃ m, c.size = m + 1 := ⟨c.size - 1, by omega⟩
    rw [hm] at ho
    unfold okFrom at ho
    rw [if_pos (by omega), dec_list, List.drop_zero, Bool.and_eq_true] at ho
    unfold letL
    simpa using ho.1
  have hlen : 0 < c.data.toList.length := by rw [Array.length_toList]; exact h0
  show ∃ b t, c.data.toList ++ r = b :: t ∧ _
  generalize c.data.toList = l at *
  match l, hlen with
  | b :: t, _ =>
    have hn : ndL (decodeL (b :: t)).1 = true := by unfold ndL; rw [hl]; rfl
    have hd := nd_chunk b t ((b :: t).drop (decodeL (b :: t)).2 ++ r) hn
    rw [← List.append_assoc, List.take_append_drop] at hd
    have hb : ¬ (b = 32 ∨ b = 9 ∨ b = 10) ∧ b ≠ 45 ∧ b ≠ 39 := by
      refine ⟨fun h => ?_, fun h => ?_, fun h => ?_⟩
      · rcases h with rfl | rfl | rfl <;> (rw [dec_low _ t (by decide)] at hl; revert hl; decide)
      · subst h; rw [dec_low _ t (by decide)] at hl; revert hl; decide
      · subst h; rw [dec_low _ t (by decide)] at hl; revert hl; decide
    refine ⟨b, t ++ r, rfl, hb.1, fun h => hb.2.1 h.1, ?_⟩
    unfold wordD
    rw [if_neg (by simpa using hb.2.2)]
    rw [List.cons_append] at hd hs
    rw [hd, if_pos hl, hs, if_neg (by simp only; omega)]
theorem nm_parts {c : ByteArray} (h : nmB c = true) : okAll c = true ∧ 0 < c.size ∧ Lib.runeCount c ≤ 16 := by
  unfold nmB at h
  simp only [Bool.and_eq_true, decide_eq_true_eq] at h
  exact ⟨h.1.1.1, h.1.1.2, h.1.2⟩
theorem rdw_name {c : ByteArray} (h : nmB c = true) {r : Bs} (hr : Sp r) : Rdw (1, c.data.toList, 0) r := rdw_ok (nm_parts h).1 (nm_parts h).2.1 (nm_parts h).2.2 hr
/-- a keyword -/
theorem rdw_kw {l : Bs} (h : (kws.contains l) = true) {r : Bs} (hr : Sp r) : Rdw (1, l, 0) r := by
  have key : (kws.all fun l => okAll ⟨l.toArray⟩ && decide (0 < (⟨l.toArray⟩ : ByteArray).size) && decide (Lib.runeCount ⟨l.toArray⟩ ≤ 16)) = true := by decide +kernel
  have := List.all_eq_true.1 key l (List.contains_iff_mem.1 h)
  simp only [Bool.and_eq_true, decide_eq_true_eq] at this
  exact rdw_ok (c := ⟨l.toArray⟩) this.1.1 this.1.2 this.2 hr
/-- digits -/
theorem span_dig (r : Bs) (hr : Sp r) : ∀ l : Bs, allD l = true → span (l ++ r) = (l, r)
  | [], _ => hr
  | b :: t, h => by
    unfold allD at h
    rw [List.all_cons, Bool.and_eq_true] at h
    have hb := allD_byte h.1
    have ih := span_dig r hr t h.2
    have hd := dec_low b (t ++ r) (by omega)
    rw [List.cons_append, span_yes (by simp) (by rw [hd]; unfold ndL; rw [h.1, Bool.or_true]), hd]
    simp only [List.take_succ_cons, List.take_zero, List.drop_succ_cons, List.drop_zero, ih]
    rfl
theorem dig_of (d : Nat) (h : d < 10) : (UInt8.ofNat (48 + d)).toNat = 48 + d := by
  rw [UInt8.toNat_ofNat']
  omega
theorem digs (n : Nat) : allD (decDigits n) = true ∧ decV (decDigits n) = n ∧ decDigits n ≠ [] ∧ ((decDigits n).head? = some 48 → n = 0 ∧ decDigits n = [48]) := by
  induction n using Nat.strongRecOn with
  | _ n ih =>
    by_cases h : n < 10
    · rw [decDigits, dif_pos h]
      refine ⟨?_, ?_, by simp, fun e => ?_⟩
      · unfold allD
        rw [List.all_cons, List.all_nil, Bool.and_true]
        unfold digL digZ
        rw [decide_eq_true_eq, dig_of n h]
        omega
      · show 10 * 0 + ((UInt8.ofNat (48 + n)).toNat - 48) = n
        rw [dig_of n h]
        omega
      · simp only [List.head?_cons, Option.some.injEq] at e
        have := congrArg UInt8.toNat e
        rw [dig_of n h] at this
        have h0 : n = 0 := by simpa using this
        subst h0
        exact ⟨rfl, rfl⟩
    · rw [decDigits, dif_neg h]
      obtain ⟨a1, a2, a3, a4⟩ := ih (n / 10) (by omega)
      refine ⟨?_, ?_, by simp, fun e => ?_⟩
      · unfold allD at a1 ⊢
        rw [List.all_append, a1, List.all_cons, List.all_nil, Bool.and_true, Bool.true_and]
        unfold digL digZ
        rw [decide_eq_true_eq, dig_of (n % 10) (by omega)]
        omega
      · rw [decV_snoc, a2, dig_of (n % 10) (by omega)]
        omega
      · have e2 : (decDigits (n / 10)).head? = some 48 := by
          cases hd : decDigits (n / 10) with
          | nil => exact absurd hd a3
          | cons x t => rw [hd] at e; simpa using e
        have := (a4 e2).1
        omega
theorem rdw_num {n : Int} (h0 : 0 ≤ n) (h1 : n ≤ 9223372036854775807) {r : Bs} (hr : Sp r) : Rdw (2, decDigits n.toNat, n) r := by
  obtain ⟨a1, a2, a3, a4⟩ := digs n.toNat
  have hs := span_dig r hr _ a1
  have hok : numOk (decDigits n.toNat) = true := by
    unfold numOk
    rw [a2, decide_eq_true (by omega), Bool.true_and, Bool.not_eq_true', Bool.and_eq_false_iff]
    by_cases h48 : (decDigits n.toNat).head? = some 48
    · left
      rw [(a4 h48).2]
      rfl
    · right
      exact beq_eq_false_iff_ne.2 h48
  show ∃ b t, decDigits n.toNat ++ r = b :: t ∧ _
  generalize decDigits n.toNat = l at *
  match l, a3 with
  | b :: t, _ =>
    have hb := a1
    unfold allD at hb
    rw [List.all_cons, Bool.and_eq_true] at hb
    have hd := allD_byte hb.1
    have hdec := dec_low b (t ++ r) (by omega)
    have hne : ∀ x : UInt8, x.toNat < 48 → b ≠ x := fun x hx e => by subst e; omega
    refine ⟨b, t ++ r, rfl, fun h => ?_, fun h => hne 45 (by decide) h.1, ?_⟩
    · rcases h with h | h | h
      · exact hne 32 (by decide) h
      · exact hne 9 (by decide) h
      · exact hne 10 (by decide) h
    · rw [List.cons_append] at hs
      unfold wordD
      rw [if_neg (by simpa using hne 39 (by decide)), hdec, if_neg (by rw [let_dig hb.1]; simp), if_pos hb.1, hs, if_pos (by rw [a1, hok]; rfl), a2]
      rw [show ((n.toNat : Nat) : Int) = n by omega]
/-- a text -/
theorem quo_dbl2 {r : Bs} (hr : r.head? ≠ some 39) : ∀ x : Bs, quo (dbl x ++ 39 :: r) = some (x, r)
  | [] => by
    cases r with
    | nil => simp [dbl, quo]
    | cons c r =>
      have : c ≠ 39 := by simpa using hr
      simp [dbl, quo, this]
  | b :: t => by
    have ih := quo_dbl2 hr t
    by_cases hb : b = 39
    · subst hb
      have e : dbl (39 :: t) ++ 39 :: r = 39 :: 39 :: (dbl t ++ 39 :: r) := by simp [dbl]
      rw [e]
      conv => lhs; unfold quo
      rw [if_neg (by simp), if_pos rfl, ih]
      rfl
    · have e : dbl (b :: t) ++ 39 :: r = b :: (dbl t ++ 39 :: r) := by simp [dbl, hb]
      rw [e, quo_cons hb, ih]
      rfl
theorem rdw_text {x : Bs} (h : x.length ≤ 100) {r : Bs} (hr : r.head? ≠ some 39) : Rdw (3, x, 0) r := by
  refine ⟨39, dbl x ++ 39 :: r, by simp [wrW], by decide, fun h => absurd h.1 (by decide), ?_⟩
  unfold wordD
  rw [if_pos (show (39 :: (dbl x ++ 39 :: r)).head? = some (39 : UInt8) from rfl), List.tail_cons, quo_dbl2 hr]
  simp only [Option.bind_some]
  rw [if_neg (by omega)]
/-- a sign of one byte, no other one behind it that goes on with it -/
theorem rdw_sign {b : UInt8} (hb : (signs.any fun x => x == b) = true) {r : Bs} (h1 : b = 45 → r.head? ≠ some 45) (h2 : b = 60 → r.head? ≠ some 62 ∧ r.head? ≠ some 61) (h3 : b = 62 → r.head? ≠ some 61) : Rdw (4, [b], 0) r := by
  have hlow : b.toNat < 128 ∧ letL b.toNat = false ∧ digL b.toNat = false ∧ b ≠ 39 ∧ ¬ (b = 32 ∨ b = 9 ∨ b = 10) := by
    simp only [signs, List.any_cons, List.any_nil, Bool.or_false, Bool.or_eq_true, beq_iff_eq] at hb
    rcases hb with rfl | rfl | rfl | rfl | rfl | rfl | rfl | rfl | rfl | rfl | rfl <;> decide
  have hd := dec_low b r hlow.1
  refine ⟨b, r, rfl, hlow.2.2.2.2, fun h => h1 h.1 h.2, ?_⟩
  unfold wordD
  rw [if_neg (by simpa using hlow.2.2.2.1), hd, if_neg (by rw [hlow.2.1]; simp), if_neg (by rw [hlow.2.2.1]; simp), if_neg, if_pos]
  · rfl
  · rw [List.any_eq_true] at hb ⊢
    obtain ⟨x, hx, e⟩ := hb
    exact ⟨x, hx, by rw [eq_of_beq e]; simp⟩
  · intro h
    cases r with
    | nil => simp [twoS] at h
    | cons c r =>
      simp [twoS] at h
      simp at h2 h3
      rcases h with (⟨e, h⟩ | ⟨e, h⟩) | ⟨e, h⟩
      · exact (h2 e).1 h
      · exact (h2 e).2 h
      · exact h3 e h
/-- a sign of two bytes -/
theorem rdw_two {a b : UInt8} (h : (a = 60 ∧ b = 62) ∨ (a = 60 ∧ b = 61) ∨ (a = 62 ∧ b = 61)) (r : Bs) : Rdw (4, [a, b], 0) r := by
  have hlow : a.toNat < 128 ∧ letL a.toNat = false ∧ digL a.toNat = false ∧ a ≠ 39 ∧ ¬ (a = 32 ∨ a = 9 ∨ a = 10) ∧ a ≠ 45 := by
    rcases h with ⟨rfl, -⟩ | ⟨rfl, -⟩ | ⟨rfl, -⟩ <;> decide
  have hd := dec_low a (b :: r) hlow.1
  refine ⟨a, b :: r, rfl, hlow.2.2.2.2.1, fun h => hlow.2.2.2.2.2 h.1, ?_⟩
  unfold wordD
  rw [if_neg (by simpa using hlow.2.2.2.1), hd, if_neg (by rw [hlow.2.1]; simp), if_neg (by rw [hlow.2.2.1]; simp), if_pos]
  · rfl
  · rcases h with ⟨rfl, rfl⟩ | ⟨rfl, rfl⟩ | ⟨rfl, rfl⟩ <;> simp [twoS]
end Go.Proofs.YtpinalpigefenaaGreatDoor
