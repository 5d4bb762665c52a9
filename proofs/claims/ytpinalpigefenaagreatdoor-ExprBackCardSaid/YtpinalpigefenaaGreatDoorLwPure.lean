/- The lexer's words, by a machine that goes rune by rune, and by the document's way: both the same. Plain mathematics. -/
import Derived.Test.YtpinalpigefenaaGreatDoorLxPure
import Derived.Lib.SpaceUEq
import Derived.Lib.TrimUEq
namespace Go.Proofs.YtpinalpigefenaaGreatDoor
open Go.Lib
set_option linter.unusedVariables false
set_option linter.unusedSimpArgs false

abbrev Bs := List UInt8
theorem dec_low (b : UInt8) (t : Bs) (h : b.toNat < 128) : decodeL (b :: t) = (b.toNat, 1) := by
  rw [decodeL_N]
  simp only [List.getD_cons_zero]
  unfold decodeN
  rw [if_pos (by first | exact h | simpa using h)]
theorem decN_high (n b0 b1 b2 b3 : Nat) (h : 128 ≤ b0) : 128 ≤ (decodeN n b0 b1 b2 b3).1 ∧ 1 ≤ (decodeN n b0 b1 b2 b3).2 := by
  unfold decodeN
  repeat' split
  all_goals (simp only; omega)
/-- a rune that isn't ASCII: none of its bytes is -/
theorem dec_high (b : UInt8) (t : Bs) (h : 128 ≤ b.toNat) : 128 ≤ (decodeL (b :: t)).1 ∧ 1 ≤ (decodeL (b :: t)).2 ∧ (decodeL (b :: t)).2 ≤ (b :: t).length ∧ ∀ x ∈ (b :: t).take (decodeL (b :: t)).2, 128 ≤ x.toNat := by
  have hc := decodeN_conts (b :: t).length ((b :: t).getD 0 0).toNat ((b :: t).getD 1 0).toNat ((b :: t).getD 2 0).toNat ((b :: t).getD 3 0).toNat
  have hh := decN_high (b :: t).length ((b :: t).getD 0 0).toNat ((b :: t).getD 1 0).toNat ((b :: t).getD 2 0).toNat ((b :: t).getD 3 0).toNat (by simpa using h)
  rw [← decodeL_N] at hc hh
  obtain ⟨c2, c3, c4, c5⟩ := hc
  generalize decodeL (b :: t) = d at *
  obtain ⟨r, n⟩ := d
  simp only at *
  have hl : 1 ≤ (b :: t).length := by simp
  refine ⟨hh.1, hh.2, by omega, fun x hx => ?_⟩
  obtain ⟨i, hi, rfl⟩ := List.mem_iff_getElem.1 hx
  have hin : i < n := by
    have := hi
    rw [List.length_take] at this
    omega
  have hil : i < (b :: t).length := by
    have := hi
    rw [List.length_take] at this
    omega
  rw [List.getElem_take]
  have hg : (b :: t)[i] = (b :: t).getD i 0 := by rw [List.getD_eq_getElem?_getD, List.getElem?_eq_getElem hil]; rfl
  rw [hg]
  rcases (show i = 0 ∨ i = 1 ∨ i = 2 ∨ i = 3 by omega) with rfl | rfl | rfl | rfl
  · simpa using h
  · have := (c2 (by omega)).1; omega
  · have := (c3 (by omega)).1; omega
  · have := (c4 (by omega)).1; omega
/-- any rune: at least a byte, and no more than there are -/
theorem dec_wd (l : Bs) (h : l ≠ []) : 1 ≤ (decodeL l).2 ∧ (decodeL l).2 ≤ l.length := by
  cases l with
  | nil => exact absurd rfl h
  | cons b t =>
    by_cases hb : b.toNat < 128
    · rw [dec_low b t hb]; simp
    · have := dec_high b t (by omega)
      exact ⟨this.2.1, this.2.2.1⟩

/-- a word: its kind, its text, its number -/
abbrev Wd := Int × Bs × Int
abbrev eS : Int := 3
abbrev eL : Int := 5
/-- what is answered: an error, or words -/
inductive An (α : Type) where
  | no (e : Int)
  | ok (x : α)
def An.bind {α β : Type} : An α → (α → An β) → An β
  | .no e, _ => .no e
  | .ok x, f => f x
def letL (r : Nat) : Bool := letZ (r : Int)
def digL (r : Nat) : Bool := digZ (r : Int)
def ndL (r : Nat) : Bool := letL r || digL r
def pairL (cur : Bs) (r : Nat) : Bool := (cur == [60] && (r == 61 || r == 62)) || (cur == [62] && r == 61)
/-- does a rune go on with what is open, and what is open then -/
def goes (md : Nat) (cur : Bs) (r : Nat) : Option Nat :=
  match md with
  | 1 => if ndL r then some 1 else none
  | 2 => if digL r then some 2 else none
  | 3 => some (if r = 39 then 4 else 3)
  | 4 => if r = 39 then some 3 else none
  | 5 => if (cur == [45] && r == 45) then some 6 else if pairL cur r then some 5 else none
  | 6 => if r = 10 then none else some 6
  | _ => none
def addM (ws : List Wd) (x : Wd) : An (List Wd) := if ws.length = 600 then .no eL else .ok (ws ++ [x])
/-- what digits are worth -/
def decV (l : Bs) : Nat := l.foldl (fun n b => 10 * n + (b.toNat - 48)) 0
def numOk (cur : Bs) : Bool := decide (decV cur ≤ 9223372036854775807) && !(decide (1 < cur.length) && cur.head? == some 48)
def numM (cur : Bs) (ws : List Wd) : An (List Wd) := if numOk cur then addM ws (2, cur, (decV cur : Int)) else .no eS
/-- two quotes are one -/
def unq : Bs → Bs
  | [] => []
  | [a] => [a]
  | a :: b :: t => if a = 39 ∧ b = 39 then 39 :: unq t else a :: unq (b :: t)
def textM (cur : Bs) (ws : List Wd) : An (List Wd) := if 100 < (unq cur).length then .no eS else addM ws (3, unq cur, 0)
/-- what is open ends -/
def endM (md : Nat) (cur : Bs) (ws : List Wd) : An (List Wd) :=
  match md with
  | 1 => if 16 < runeCountL cur then .no eS else addM ws (1, cur, 0)
  | 2 => numM cur ws
  | 3 => .no eS
  | 4 => textM ((cur.drop 1).dropLast) ws
  | 5 => addM ws (4, cur, 0)
  | _ => .ok ws
def signs : Bs := [40, 41, 44, 46, 59, 42, 43, 45, 61, 60, 62]
def signL (r : Nat) : Bool := signs.any fun b => b.toNat == r
/-- what a rune opens -/
def beginM (r : Nat) : An Nat :=
  if r = 32 ∨ r = 9 ∨ r = 10 then .ok 0 else if letL r then .ok 1 else if digL r then .ok 2 else if r = 39 then .ok 3 else if signL r then .ok 5 else .no eS
/-- where a reader is -/
abbrev Rd := Nat × Bs × List Wd
def stepM (x : Rd) (r : Nat) (c : Bs) : An Rd :=
  if x.1 = 2 ∧ letL r = true then .no eS else
  match goes x.1 x.2.1 r with
  | some md => .ok (md, x.2.1 ++ c, x.2.2)
  | none => (endM x.1 x.2.1 x.2.2).bind fun ws => (beginM r).bind fun md => .ok (md, c, ws)
def runM : Nat → Rd → Bs → An (List Wd)
  | 0, x, _ => endM x.1 x.2.1 x.2.2
  | f + 1, x, l => if l = [] then endM x.1 x.2.1 x.2.2 else (stepM x (decodeL l).1 (l.take (decodeL l).2)).bind fun y => runM f y (l.drop (decodeL l).2)

theorem runM_nil (f : Nat) (x : Rd) : runM f x [] = endM x.1 x.2.1 x.2.2 := by cases f <;> simp [runM]
/-- more fuel than bytes is enough -/
theorem runM_fuel : ∀ (f g : Nat) (x : Rd) (l : Bs), l.length ≤ f → l.length ≤ g → runM f x l = runM g x l
  | 0, g, x, l, hf, hg => by
    obtain rfl : l = [] := List.eq_nil_of_length_eq_zero (by omega)
    rw [runM_nil, runM_nil]
  | f + 1, 0, x, l, hf, hg => by
    obtain rfl : l = [] := List.eq_nil_of_length_eq_zero (by omega)
    rw [runM_nil, runM_nil]
  | f + 1, g + 1, x, l, hf, hg => by
    unfold runM
    by_cases h : l = []
    · rw [if_pos h, if_pos h]
    · rw [if_neg h, if_neg h]
      have hw := dec_wd l h
      cases hs : stepM x (decodeL l).1 (l.take (decodeL l).2) with
      | no e => rfl
      | ok y =>
        simp only [An.bind]
        exact runM_fuel f g y _ (by rw [List.length_drop]; omega) (by rw [List.length_drop]; omega)
/-- the machine, with as much fuel as it wants -/
def run (x : Rd) (l : Bs) : An (List Wd) := runM l.length x l
theorem run_nil (x : Rd) : run x [] = endM x.1 x.2.1 x.2.2 := runM_nil _ _
theorem run_step (x : Rd) (l : Bs) (h : l ≠ []) : run x l = (stepM x (decodeL l).1 (l.take (decodeL l).2)).bind fun y => run y (l.drop (decodeL l).2) := by
  have hw := dec_wd l h
  obtain ⟨m, hm⟩ : ∃ m, l.length = m + 1 := ⟨l.length - 1, by omega⟩
  unfold run
  rw [hm]
  conv => lhs; unfold runM
  rw [if_neg h]
  cases hs : stepM x (decodeL l).1 (l.take (decodeL l).2) with
  | no e => rfl
  | ok y =>
    simp only [An.bind]
    exact runM_fuel m (l.drop (decodeL l).2).length y (l.drop (decodeL l).2) (by rw [List.length_drop]; omega) (Nat.le_refl _)
/-- an ASCII byte -/
theorem run_low (x : Rd) (b : UInt8) (t : Bs) (h : b.toNat < 128) : run x (b :: t) = (stepM x b.toNat [b]).bind fun y => run y t := by
  have e := run_step x (b :: t) (List.cons_ne_nil b t)
  have d := dec_low b t h
  generalize decodeL (b :: t) = z at e d
  subst d
  simpa only [List.take_succ_cons, List.take_zero, List.drop_succ_cons, List.drop_zero] using e
theorem step_blank (cur : Bs) (ws : List Wd) (r : Nat) (c : Bs) : stepM (0, cur, ws) r c = (beginM r).bind fun md => .ok (md, c, ws) := by
  unfold stepM
  rw [if_neg (fun h => absurd (show (0 : Nat) = 2 from h.1) (by decide))]
  simp only [goes, endM, An.bind]
/-- with nothing open it is no matter what was -/
theorem blank_any (cur cur' : Bs) (ws : List Wd) (l : Bs) : run (0, cur, ws) l = run (0, cur', ws) l := by
  by_cases h : l = []
  · subst h; simp only [run_nil, endM]
  · rw [run_step _ l h, run_step _ l h, step_blank, step_blank]
/-- what doesn't go on ends first -/
theorem run_end (x : Rd) (l : Bs) (h : l ≠ []) (h2 : ¬ (x.1 = 2 ∧ letL (decodeL l).1 = true)) (hg : goes x.1 x.2.1 (decodeL l).1 = none) : run x l = (endM x.1 x.2.1 x.2.2).bind fun ws => run (0, [], ws) l := by
  rw [run_step x l h]
  unfold stepM
  rw [if_neg h2, hg]
  simp only
  cases he : endM x.1 x.2.1 x.2.2 with
  | no e => rfl
  | ok ws =>
    simp only [An.bind]
    rw [run_step (0, [], ws) l h, step_blank]
    cases beginM (decodeL l).1 <;> rfl

theorem An.bind_ok {α : Type} (x : An α) : (x.bind fun y => .ok y) = x := by cases x <;> rfl
theorem let_high {r : Nat} (h : 128 ≤ r) (h2 : letL r = true) : 945 ≤ r ∧ r ≤ 969 := by
  unfold letL letZ at h2
  simp only [Bool.or_eq_true, decide_eq_true_eq] at h2
  omega
theorem dig_low {r : Nat} (h : digL r = true) : 48 ≤ r ∧ r ≤ 57 := by
  unfold digL digZ at h
  simp only [decide_eq_true_eq] at h
  omega
/-- a blank -/
theorem run_blank (cur : Bs) (ws : List Wd) (b : UInt8) (t : Bs) (h : b = 32 ∨ b = 9 ∨ b = 10) : run (0, cur, ws) (b :: t) = run (0, [], ws) t := by
  have hb : b.toNat < 128 := by rcases h with rfl | rfl | rfl <;> decide
  rw [run_low _ _ _ hb]
  have : beginM b.toNat = .ok 0 := by rcases h with rfl | rfl | rfl <;> rfl
  rw [step_blank, this]
  exact blank_any _ _ _ _
/-- letters and digits that a text begins with, and what is behind them -/
def spanND : Nat → Bs → Bs × Bs
  | 0, l => ([], l)
  | f + 1, l => if l = [] then ([], []) else if ndL (decodeL l).1 = true then (l.take (decodeL l).2 ++ (spanND f (l.drop (decodeL l).2)).1, (spanND f (l.drop (decodeL l).2)).2) else ([], l)
def span (l : Bs) : Bs × Bs := spanND l.length l
theorem spanND_fuel : ∀ (f g : Nat) (l : Bs), l.length ≤ f → l.length ≤ g → spanND f l = spanND g l
  | 0, 0, l, hf, hg => rfl
  | 0, g + 1, l, hf, hg => by
    obtain rfl : l = [] := List.eq_nil_of_length_eq_zero (by omega)
    simp [spanND]
  | f + 1, 0, l, hf, hg => by
    obtain rfl : l = [] := List.eq_nil_of_length_eq_zero (by omega)
    simp [spanND]
  | f + 1, g + 1, l, hf, hg => by
    unfold spanND
    by_cases h : l = []
    · rw [if_pos h, if_pos h]
    · rw [if_neg h, if_neg h]
      have hw := dec_wd l h
      rw [spanND_fuel f g (l.drop (decodeL l).2) (by rw [List.length_drop]; omega) (by rw [List.length_drop]; omega)]
theorem span_nil : span [] = ([], []) := rfl
theorem span_yes {l : Bs} (h : l ≠ []) (hn : ndL (decodeL l).1 = true) : span l = (l.take (decodeL l).2 ++ (span (l.drop (decodeL l).2)).1, (span (l.drop (decodeL l).2)).2) := by
  have hw := dec_wd l h
  obtain ⟨m, hm⟩ : ∃ m, l.length = m + 1 := ⟨l.length - 1, by omega⟩
  unfold span
  rw [hm]
  conv => lhs; unfold spanND
  rw [if_neg h, if_pos hn, spanND_fuel m (l.drop (decodeL l).2).length (l.drop (decodeL l).2) (by rw [List.length_drop]; omega) (Nat.le_refl _)]
theorem span_no {l : Bs} (hn : ndL (decodeL l).1 = false) : span l = ([], l) := by
  unfold span
  cases h : l.length with
  | zero => rfl
  | succ m =>
    unfold spanND
    rw [if_neg (fun e => by rw [e] at h; simp at h), if_neg (by rw [hn]; simp)]
/-- a name -/
theorem run_name : ∀ (n : Nat) (cur : Bs) (ws : List Wd) (l : Bs), l.length ≤ n → run (1, cur, ws) l = (endM 1 (cur ++ (span l).1) ws).bind fun ws => run (0, [], ws) (span l).2
  | n, cur, ws, [], h => by
    rw [span_nil, run_nil]
    simp only [List.append_nil, run_nil]
    exact (An.bind_ok _).symm
  | 0, cur, ws, b :: t, h => by simp at h
  | n + 1, cur, ws, b :: t, h => by
    have hw := dec_wd (b :: t) (by simp)
    cases hn : ndL (decodeL (b :: t)).1 with
    | false =>
      rw [span_no hn, run_end _ _ (by simp) (by simp) (by unfold goes; simp only; rw [if_neg (by rw [hn]; simp)])]
      simp only [List.append_nil]
    | true =>
      rw [span_yes (by simp) hn, run_step _ _ (by simp)]
      have hg : goes 1 cur (decodeL (b :: t)).1 = some 1 := by unfold goes; simp only; rw [if_pos hn]
      unfold stepM
      simp only [hg, Nat.reduceEqDiff, false_and, if_false, An.bind]
      rw [run_name n _ ws _ (by rw [List.length_drop]; simp at h ⊢; omega), List.append_assoc]
      rfl
/-- are all of them digits -/
def allD (l : Bs) : Bool := l.all fun b => digL b.toNat
theorem letL_chunk {b : UInt8} {t : Bs} (h : letL (decodeL (b :: t)).1 = true) : allD ((b :: t).take (decodeL (b :: t)).2) = false := by
  have hw := dec_wd (b :: t) (by simp)
  have hb : digL b.toNat = false := by
    by_cases hl : b.toNat < 128
    · rw [dec_low b t hl] at h
      simp only at h
      unfold letL letZ at h
      unfold digL digZ
      simp only [Bool.or_eq_true, decide_eq_true_eq] at h
      rw [decide_eq_false_iff_not]
      omega
    · unfold digL digZ
      rw [decide_eq_false_iff_not]
      omega
  obtain ⟨m, hm⟩ : ∃ m, (decodeL (b :: t)).2 = m + 1 := ⟨(decodeL (b :: t)).2 - 1, by omega⟩
  rw [hm, List.take_succ_cons]
  unfold allD
  rw [List.all_cons, hb]
  rfl
theorem dig_byte {b : UInt8} {t : Bs} (h : digL (decodeL (b :: t)).1 = true) : b.toNat < 128 := by
  have := dig_low h
  apply Classical.byContradiction
  intro hn
  have := dec_high b t (by omega)
  omega
/-- a number -/
theorem run_num : ∀ (n : Nat) (cur : Bs) (ws : List Wd) (l : Bs), l.length ≤ n → run (2, cur, ws) l = if allD (span l).1 = true then (endM 2 (cur ++ (span l).1) ws).bind fun ws => run (0, [], ws) (span l).2 else .no eS
  | n, cur, ws, [], h => by
    rw [span_nil, run_nil, if_pos (show allD [] = true from rfl)]
    simp only [List.append_nil, run_nil]
    exact (An.bind_ok _).symm
  | 0, cur, ws, b :: t, h => by simp at h
  | n + 1, cur, ws, b :: t, h => by
    have hw := dec_wd (b :: t) (by simp)
    cases hn : ndL (decodeL (b :: t)).1 with
    | false =>
      have hn2 := hn
      unfold ndL at hn2
      rw [Bool.or_eq_false_iff] at hn2
      rw [span_no hn, run_end _ _ (by simp) (by rw [hn2.1]; simp) (by unfold goes; simp only; rw [if_neg (by rw [hn2.2]; simp)]), if_pos (show allD [] = true from rfl)]
      simp only [List.append_nil]
    | true =>
      rw [span_yes (by simp) hn]
      by_cases hl : letL (decodeL (b :: t)).1 = true
      · have ha := letL_chunk hl
        rw [run_step _ _ (by simp)]
        unfold stepM
        rw [if_pos ⟨rfl, hl⟩, if_neg]
        · rfl
        · simp only [allD, List.all_append] at ha ⊢
          rw [ha]
          simp
      · have hd : digL (decodeL (b :: t)).1 = true := by
          unfold ndL at hn
          rw [Bool.or_eq_true] at hn
          exact hn.resolve_left hl
        have hb := dig_byte hd
        have hdl := dec_low b t hb
        rw [hdl] at hd hl hw ⊢
        rw [run_low _ _ _ hb]
        have hg : goes 2 cur b.toNat = some 2 := by unfold goes; simp only; rw [if_pos hd]
        unfold stepM
        rw [if_neg (fun h => hl h.2)]
        simp only [hg, An.bind]
        have ih := run_num n (cur ++ [b]) ws t (by simp at h; omega)
        simp only [List.take_succ_cons, List.take_zero, List.drop_succ_cons, List.drop_zero]
        rw [ih, List.append_assoc]
        have e : allD ([b] ++ (span t).1) = allD (span t).1 := by
          unfold allD
          rw [List.all_append, List.all_cons, hd]
          simp
        rw [e]
        rfl
/-- a text's letters as they are written, with the quote that ends it, and what is behind it -/
def quoR : Bs → Option (Bs × Bs)
  | [] => none
  | [b] => if b = 39 then some ([39], []) else none
  | b :: c :: t => if b ≠ 39 then (quoR (c :: t)).map fun x => (b :: x.1, x.2) else if c = 39 then (quoR t).map fun x => (39 :: 39 :: x.1, x.2) else some ([39], c :: t)
/-- a text's letters, and what is behind it -/
def quo : Bs → Option (Bs × Bs)
  | [] => none
  | [b] => if b = 39 then some ([], []) else none
  | b :: c :: t => if b ≠ 39 then (quo (c :: t)).map fun x => (b :: x.1, x.2) else if c = 39 then (quo t).map fun x => (39 :: x.1, x.2) else some ([], c :: t)
theorem quoR_cons {b : UInt8} (h : b ≠ 39) (t : Bs) : quoR (b :: t) = (quoR t).map fun x => (b :: x.1, x.2) := by
  cases t with
  | nil => simp [quoR, h]
  | cons c t => conv => lhs; unfold quoR
                rw [if_pos h]
theorem quo_cons {b : UInt8} (h : b ≠ 39) (t : Bs) : quo (b :: t) = (quo t).map fun x => (b :: x.1, x.2) := by
  cases t with
  | nil => simp [quo, h]
  | cons c t => conv => lhs; unfold quo
                rw [if_pos h]
theorem quoR_take : ∀ (n : Nat) (l : Bs), (∀ x ∈ l.take n, x ≠ 39) → n ≤ l.length → quoR l = (quoR (l.drop n)).map fun x => (l.take n ++ x.1, x.2)
  | 0, l, _, _ => by
    simp only [List.drop_zero, List.take_zero, List.nil_append]
    cases quoR l <;> rfl
  | n + 1, [], _, h => by simp at h
  | n + 1, b :: t, h, hl => by
    rw [quoR_cons (h b (by simp)), quoR_take n t (fun x hx => h x (by simp [hx])) (by simp at hl; omega)]
    simp only [List.drop_succ_cons, List.take_succ_cons, Option.map_map]
    rfl
/-- each text as it is written ends in a quote; without it, two quotes one, it is the text -/
theorem quoR_some : ∀ (n : Nat) (l a r : Bs), l.length ≤ n → quoR l = some (a, r) → ∃ body, a = body ++ [39] ∧ quo l = some (unq body, r) ∧ a ++ r = l
  | n, [], a, r, _, h => by simp [quoR] at h
  | n, [b], a, r, _, h => by
    unfold quoR at h
    split at h
    · rename_i hb
      cases h
      exact ⟨[], rfl, by simp [quo, hb, unq], by simp [hb]⟩
    · cases h
  | 0, b :: c :: t, a, r, hl, h => by simp at hl
  | n + 1, b :: c :: t, a, r, hl, h => by
    by_cases hb : b = 39
    · subst hb
      unfold quoR at h
      rw [if_neg (by simp)] at h
      by_cases hc : c = 39
      · subst hc
        rw [if_pos rfl] at h
        cases hq : quoR t with
        | none => rw [hq] at h; cases h
        | some x =>
          obtain ⟨a', r'⟩ := x
          rw [hq] at h
          simp only [Option.map_some, Option.some.injEq, Prod.mk.injEq] at h
          obtain ⟨rfl, rfl⟩ := h
          obtain ⟨body, e1, e2, e3⟩ := quoR_some n t a' r' (by simp at hl; omega) hq
          refine ⟨39 :: 39 :: body, by rw [e1]; rfl, ?_, by simp [e3]⟩
          simp [quo, e2, unq]
      · rw [if_neg hc] at h
        cases h
        exact ⟨[], rfl, by simp [quo, hc, unq], by simp⟩
    · rw [quoR_cons hb] at h
      cases hq : quoR (c :: t) with
      | none => rw [hq] at h; cases h
      | some x =>
        obtain ⟨a', r'⟩ := x
        rw [hq] at h
        simp only [Option.map_some, Option.some.injEq, Prod.mk.injEq] at h
        obtain ⟨rfl, rfl⟩ := h
        obtain ⟨body, e1, e2, e3⟩ := quoR_some n (c :: t) a' r' (by simp at hl ⊢; omega) hq
        refine ⟨b :: body, by rw [e1]; rfl, ?_, by simp [e3]⟩
        rw [quo_cons hb, e2]
        cases body with
        | nil => rfl
        | cons d body =>
          conv => rhs; unfold unq
          rw [if_neg (fun h => hb h.1)]
          rfl
theorem quoR_none : ∀ (n : Nat) (l : Bs), l.length ≤ n → quoR l = none → quo l = none
  | n, [], _, h => rfl
  | n, [b], _, h => by
    unfold quoR at h
    split at h
    · cases h
    · rename_i hb; simp [quo, hb]
  | 0, b :: c :: t, hl, h => by simp at hl
  | n + 1, b :: c :: t, hl, h => by
    by_cases hb : b = 39
    · subst hb
      unfold quoR at h
      rw [if_neg (by simp)] at h
      by_cases hc : c = 39
      · subst hc
        rw [if_pos rfl] at h
        have := quoR_none n t (by simp at hl; omega) (Option.map_eq_none_iff.1 h)
        simp [quo, this]
      · rw [if_neg hc] at h; cases h
    · rw [quoR_cons hb] at h
      have := quoR_none n (c :: t) (by simp at hl ⊢; omega) (Option.map_eq_none_iff.1 h)
      rw [quo_cons hb, this]; rfl
/-- a text -/
theorem run_text : ∀ (n : Nat) (cur : Bs) (ws : List Wd) (l : Bs), l.length ≤ n → run (3, cur, ws) l = match quoR l with
    | none => .no eS
    | some x => (endM 4 (cur ++ x.1) ws).bind fun ws => run (0, [], ws) x.2
  | n, cur, ws, [], h => by rw [run_nil]; rfl
  | 0, cur, ws, b :: t, h => by simp at h
  | n + 1, cur, ws, b :: t, h => by
    have hlt : t.length ≤ n := by simp at h; omega
    by_cases hb : b = 39
    · subst hb
      have hs : run (3, cur, ws) (39 :: t) = run (4, cur ++ [39], ws) t := by
        rw [run_low _ _ _ (by decide)]; rfl
      rw [hs]
      match t, hlt with
      | [], _ =>
        rw [run_nil]
        simp only [quoR, if_true]
        simp only [run_nil]
        exact (An.bind_ok _).symm
      | c :: t, hlt =>
        by_cases hc : c = 39
        · subst hc
          have hs2 : run (4, cur ++ [39], ws) (39 :: t) = run (3, cur ++ [39] ++ [39], ws) t := by
            rw [run_low _ _ _ (by decide)]; rfl
          rw [hs2, run_text n _ ws t (by simp at hlt; omega)]
          conv => rhs; unfold quoR
          rw [if_neg (by simp), if_pos rfl]
          cases quoR t with
          | none => rfl
          | some x => simp only [Option.map_some, List.append_assoc]; rfl
        · have hr : (decodeL (c :: t)).1 ≠ 39 := by
            by_cases hl : c.toNat < 128
            · rw [dec_low c t hl]
              exact fun e => hc (UInt8.toNat_inj.1 (by simpa using e))
            · have := (dec_high c t (by omega)).1
              omega
          rw [run_end _ _ (by simp) (by simp) (by unfold goes; simp only; rw [if_neg hr])]
          conv => rhs; unfold quoR
          rw [if_neg (by simp), if_neg hc]
    · by_cases hl : b.toNat < 128
      · have hs : run (3, cur, ws) (b :: t) = run (3, cur ++ [b], ws) t := by
          rw [run_low _ _ _ hl]
          have : ¬ b.toNat = 39 := fun e => hb (UInt8.toNat_inj.1 (by rw [e]; rfl))
          unfold stepM
          simp only [goes, if_neg this, Nat.reduceEqDiff, false_and, if_false, An.bind]
        rw [hs, run_text n _ ws t hlt, quoR_cons hb]
        cases quoR t with
        | none => rfl
        | some x => simp only [Option.map_some, List.append_assoc]; rfl
      · have hh := dec_high b t (by omega)
        have hs : run (3, cur, ws) (b :: t) = run (3, cur ++ (b :: t).take (decodeL (b :: t)).2, ws) ((b :: t).drop (decodeL (b :: t)).2) := by
          rw [run_step _ _ (by simp)]
          unfold stepM
          simp only [goes, if_neg (show ¬ (decodeL (b :: t)).1 = 39 by omega), Nat.reduceEqDiff, false_and, if_false, An.bind]
        rw [hs, run_text n _ ws _ (by rw [List.length_drop]; simp at h ⊢; omega), quoR_take (decodeL (b :: t)).2 (b :: t) (fun x hx e => by
          have := hh.2.2.2 x hx
          rw [e] at this
          simp at this) hh.2.2.1]
        cases quoR ((b :: t).drop (decodeL (b :: t)).2) with
        | none => rfl
        | some x => simp only [Option.map_some, List.append_assoc]
end Go.Proofs.YtpinalpigefenaaGreatDoor
