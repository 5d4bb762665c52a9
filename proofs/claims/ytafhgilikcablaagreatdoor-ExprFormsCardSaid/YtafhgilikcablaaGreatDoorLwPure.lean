/- The lexer's words, by a machine that goes rune by rune, and by the document's way: both the same. Plain mathematics. -/
import Derived.Test.YtafhgilikcablaaGreatDoorLxPure
import Derived.Lib.SpaceUEq
import Derived.Lib.TrimUEq
namespace Go.Proofs.YtafhgilikcablaaGreatDoor
open Go.Lib
set_option linter.unusedVariables false
set_option linter.unusedSimpArgs false

abbrev Bs := List UInt8
theorem dec_low (b : UInt8) (t : Bs) (h : b.toNat < 128) : decodeL (b :: t) = (b.toNat, 1) := by
  rw [decodeL_N]
  simp only [List.getD_cons_zero]
  unfold decodeN
  rw [if_pos (by first | exact h | simpa using h)]
theorem decN_high (n b0 b1 b2 b3 : Nat) (h : 128 ≤ b0) : 128 ≤ (decodeN n b0 b1 b2 b3).1 ∧ 1 ≤ (decodeN n b0 b1 b2 b3).2 := by
  unfold decodeN
  repeat' split
  all_goals (simp only; omega)
/-- a rune that isn't ASCII: none of its bytes is -/
theorem dec_high (b : UInt8) (t : Bs) (h : 128 ≤ b.toNat) : 128 ≤ (decodeL (b :: t)).1 ∧ 1 ≤ (decodeL (b :: t)).2 ∧ (decodeL (b :: t)).2 ≤ (b :: t).length ∧ ∀ x ∈ (b :: t).take (decodeL (b :: t)).2, 128 ≤ x.toNat := by
  have hc := decodeN_conts (b :: t).length ((b :: t).getD 0 0).toNat ((b :: t).getD 1 0).toNat ((b :: t).getD 2 0).toNat ((b :: t).getD 3 0).toNat
  have hh := decN_high (b :: t).length ((b :: t).getD 0 0).toNat ((b :: t).getD 1 0).toNat ((b :: t).getD 2 0).toNat ((b :: t).getD 3 0).toNat (by simpa using h)
  rw [← decodeL_N] at hc hh
  obtain ⟨c2, c3, c4, c5⟩ := hc
  generalize decodeL (b :: t) = d at *
  obtain ⟨r, n⟩ := d
  simp only at *
  have hl : 1 ≤ (b :: t).length := by simp
  refine ⟨hh.1, hh.2, by omega, fun x hx => ?_⟩
  obtain ⟨i, hi, rfl⟩ := List.mem_iff_getElem.1 hx
  have hin : i < n := by
    have := hi
    rw [List.length_take] at this
    omega
  have hil : i < (b :: t).length := by
    have := hi
    rw [List.length_take] at this
    omega
  rw [List.getElem_take]
  have hg : (b :: t)[i] = (b :: t).getD i 0 := by rw [List.getD_eq_getElem?_getD, List.getElem?_eq_getElem hil]; rfl
  rw [hg]
  rcases (show i = 0 ∨ i = 1 ∨ i = 2 ∨ i = 3 by omega) with rfl | rfl | rfl | rfl
  · simpa using h
  · have := (c2 (by omega)).1; omega
  · have := (c3 (by omega)).1; omega
  · have := (c4 (by omega)).1; omega
/-- any rune: at least a byte, and no more than there are -/
theorem dec_wd (l : Bs) (h : l ≠ []) : 1 ≤ (decodeL l).2 ∧ (decodeL l).2 ≤ l.length := by
  cases l with
  | nil => exact absurd rfl h
  | cons b t =>
    by_cases hb : b.toNat < 128
    · rw [dec_low b t hb]; simp
    · have := dec_high b t (by omega)
      exact ⟨this.2.1, this.2.2.1⟩

/-- a word: its kind, its text, its number -/
abbrev Wd := Int × Bs × Int
abbrev eS : Int := 3
abbrev eL : Int := 5
/-- what is answered: an error, or words -/
inductive An (α : Type) where
  | no (e : Int)
  | ok (x : α)
def An.bind {α β : Type} : An α → (α → An β) → An β
  | .no e, _ => .no e
  | .ok x, f => f x
def letL (r : Nat) : Bool := letZ (r : Int)
def digL (r : Nat) : Bool := digZ (r : Int)
def ndL (r : Nat) : Bool := letL r || digL r
def pairL (cur : Bs) (r : Nat) : Bool := (cur == [60] && (r == 61 || r == 62)) || (cur == [62] && r == 61)
/-- does a rune go on with what is open, and what is open then -/
def goes (md : Nat) (cur : Bs) (r : Nat) : Option Nat :=
  match md with
  | 1 => if ndL r then some 1 else none
  | 2 => if digL r then some 2 else none
  | 3 => some (if r = 39 then 4 else 3)
  | 4 => if r = 39 then some 3 else none
  | 5 => if (cur == [45] && r == 45) then some 6 else if pairL cur r then some 5 else none
  | 6 => if r = 10 then none else some 6
  | _ => none
def addM (ws : List Wd) (x : Wd) : An (List Wd) := if ws.length = 600 then .no eL else .ok (ws ++ [x])
/-- what digits are worth -/
def decV (l : Bs) : Nat := l.foldl (fun n b => 10 * n + (b.toNat - 48)) 0
def numOk (cur : Bs) : Bool := decide (decV cur ≤ 9223372036854775807) && !(decide (1 < cur.length) && cur.head? == some 48)
def numM (cur : Bs) (ws : List Wd) : An (List Wd) := if numOk cur then addM ws (2, cur, (decV cur : Int)) else .no eS
/-- two quotes are one -/
def unq : Bs → Bs
  | [] => []
  | [a] => [a]
  | a :: b :: t => if a = 39 ∧ b = 39 then 39 :: unq t else a :: unq (b :: t)
def textM (cur : Bs) (ws : List Wd) : An (List Wd) := if 100 < (unq cur).length then .no eS else addM ws (3, unq cur, 0)
/-- what is open ends -/
def endM (md : Nat) (cur : Bs) (ws : List Wd) : An (List Wd) :=
  match md with
  | 1 => if 16 < runeCountL cur then .no eS else addM ws (1, cur, 0)
  | 2 => numM cur ws
  | 3 => .no eS
  | 4 => textM ((cur.drop 1).dropLast) ws
  | 5 => addM ws (4, cur, 0)
  | _ => .ok ws
def signs : Bs := [40, 41, 44, 46, 59, 42, 43, 45, 61, 60, 62]
def signL (r : Nat) : Bool := signs.any fun b => b.toNat == r
/-- what a rune opens -/
def beginM (r : Nat) : An Nat :=
  if r = 32 ∨ r = 9 ∨ r = 10 then .ok 0 else if letL r then .ok 1 else if digL r then .ok 2 else if r = 39 then .ok 3 else if signL r then .ok 5 else .no eS
/-- where a reader is -/
abbrev Rd := Nat × Bs × List Wd
def stepM (x : Rd) (r : Nat) (c : Bs) : An Rd :=
  if x.1 = 2 ∧ letL r = true then .no eS else
  match goes x.1 x.2.1 r with
  | some md => .ok (md, x.2.1 ++ c, x.2.2)
  | none => (endM x.1 x.2.1 x.2.2).bind fun ws => (beginM r).bind fun md => .ok (md, c, ws)
def runM : Nat → Rd → Bs → An (List Wd)
  | 0, x, _ => endM x.1 x.2.1 x.2.2
  | f + 1, x, l => if l = [] then endM x.1 x.2.1 x.2.2 else (stepM x (decodeL l).1 (l.take (decodeL l).2)).bind fun y => runM f y (l.drop (decodeL l).2)

theorem runM_nil (f : Nat) (x : Rd) : runM f x [] = endM x.1 x.2.1 x.2.2 := by cases f <;> simp [runM]
/-- more fuel than bytes is enough -/
theorem runM_fuel : ∀ (f g : Nat) (x : Rd) (l : Bs), l.length ≤ f → l.length ≤ g → runM f x l = runM g x l
  | 0, g, x, l, hf, hg => by
    obtain rfl : l = [] := List.eq_nil_of_length_eq_zero (by omega)
    rw [runM_nil, runM_nil]
  | f + 1, 0, x, l, hf, hg => by
    obtain rfl : l = [] := List.eq_nil_of_length_eq_zero (by omega)
    rw [runM_nil, runM_nil]
  | f + 1, g + 1, x, l, hf, hg => by
    unfold runM
    by_cases h : l = []
    · rw [if_pos h, if_pos h]
    · rw [if_neg h, if_neg h]
      have hw := dec_wd l h
      cases hs : stepM x (decodeL l).1 (l.take (decodeL l).2) with
      | no e => rfl
      | ok y =>
        simp only [An.bind]
        exact runM_fuel f g y _ (by rw [List.length_drop]; omega) (by rw [List.length_drop]; omega)
/-- the machine, with as much fuel as it wants -/
def run (x : Rd) (l : Bs) : An (List Wd) := runM l.length x l
theorem run_nil (x : Rd) : run x [] = endM x.1 x.2.1 x.2.2 := runM_nil _ _
theorem run_step (x : Rd) (l : Bs) (h : l ≠ []) : run x l = (stepM x (decodeL l).1 (l.take (decodeL l).2)).bind fun y => run y (l.drop (decodeL l).2) := by
  have hw := dec_wd l h
  obtain ⟨m, hm⟩ : ∃ m, l.length = m + 1 := ⟨l.length - 1, by omega⟩
  unfold run
  rw [hm]
  conv => lhs; unfold runM
  rw [if_neg h]
  cases hs : stepM x (decodeL l).1 (l.take (decodeL l).2) with
  | no e => rfl
  | ok y =>
    simp only [An.bind]
    exact runM_fuel m (l.drop (decodeL l).2).length y (l.drop (decodeL l).2) (by rw [List.length_drop]; omega) (Nat.le_refl _)
theorem dig_low {r : Nat} (h : digL r = true) : 48 ≤ r ∧ r ≤ 57 := by
  unfold digL digZ at h
  simp only [decide_eq_true_eq] at h
  omega
/-- are all of them digits -/
def allD (l : Bs) : Bool := l.all fun b => digL b.toNat
theorem dig_byte {b : UInt8} {t : Bs} (h : digL (decodeL (b :: t)).1 = true) : b.toNat < 128 := by
  have := dig_low h
  apply Classical.byContradiction
  intro hn
  have := dec_high b t (by omega)
  omega
/-- a text's letters, and what is behind it -/
def quo : Bs → Option (Bs × Bs)
  | [] => none
  | [b] => if b = 39 then some ([], []) else none
  | b :: c :: t => if b ≠ 39 then (quo (c :: t)).map fun x => (b :: x.1, x.2) else if c = 39 then (quo t).map fun x => (39 :: x.1, x.2) else some ([], c :: t)
end Go.Proofs.YtafhgilikcablaaGreatDoor
