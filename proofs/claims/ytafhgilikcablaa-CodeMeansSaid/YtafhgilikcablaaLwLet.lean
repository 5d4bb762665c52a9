/- Contracts of the lexer's and the document's letters and digits: every rune; how many runes a text has. -/
import Derived.Test.YtafhgilikcablaaFormV
import Derived.Test.YtafhgilikcablaaIns
import Derived.Test.YtafhgilikcablaaVRecR
import Derived.Laws.Rows
import Derived.Deep.DeepCutAuto
import Derived.Deep.RegionLaw
import Derived.BigRegion
import Derived.Lib.RuneCount
import Derived.Test.YtafhgilikcablaaProg
import Derived.Laws.RangeAny
import Derived.Laws.RangeString
import Derived.Outline
namespace Go.Proofs.Ytafhgilikcablaa
open Go.RowKit
set_option linter.unusedVariables false
set_option linter.unusedSimpArgs false
set_option maxRecDepth 100000

/-- a value that stands in a row, and the error -/
def colF (R : List (List Val)) (i j : Int) : Val × Int :=
  if 0 ≤ i ∧ 0 ≤ j ∧ i.toNat < R.length ∧ j.toNat < (R.getD i.toNat []).length ∧ formedV ((R.getD i.toNat []).getD j.toNat noV) = true then ((R.getD i.toNat []).getD j.toNat noV, 0) else (noV, 1)
/-- a register: a value, a truth -/
abbrev Reg := Val × Int
def noR : Reg := (noV, 2)
/-- one step: the registers, the error, where to go on -/
def stepR (R : List (List Val)) (x : Ins) (rs : List Reg) (i : Nat) : List Reg × Int × Nat :=
  let A := x.a.toNat
  let a := rs.getD A noR
  let b := rs.getD x.b.toNat noR
  let c := rs.getD x.c.toNat noR
  let op := x.op.toList
  if op = [99, 111, 110, 115, 116] then (rs.set A (x.v, a.2), 0, i + 1)
  else if op = [99, 111, 108] then (rs.set A ((colF R x.b x.c).1, a.2), (colF R x.b x.c).2, i + 1)
  else if op = [110, 101, 103] then let y := recF ⟨#[45]⟩ 1 0 ⟨#[]⟩ b.1.1 b.1.2.1 b.1.2.2; (rs.set A ((y.1, y.2.1, ⟨#[]⟩), a.2), y.2.2, i + 1)
  else if op = [43] ∨ op = [45] ∨ op = [42] then let y := recF x.op b.1.1 b.1.2.1 b.1.2.2 c.1.1 c.1.2.1 c.1.2.2; (rs.set A ((y.1, y.2.1, ⟨#[]⟩), a.2), y.2.2, i + 1)
  else if op = [110, 117, 108, 108] then (rs.set A (a.1, truthI (b.1.1 == 0)), 0, i + 1)
  else if op = [115, 111, 109, 101] then (rs.set A (a.1, truthI (b.1.1 != 0)), 0, i + 1)
  else if op = [110, 111, 116] then (rs.set A (a.1, notI b.2), 0, i + 1)
  else if op = [97, 110, 100] then (rs.set A (a.1, andI b.2 c.2), 0, i + 1)
  else if op = [111, 114] then (rs.set A (a.1, orI b.2 c.2), 0, i + 1)
  else if op = [99, 111, 112, 121] then (rs.set A b, 0, i + 1)
  else if op = [102, 97, 108, 115, 101] ∨ op = [116, 114, 117, 101] then (rs, 0, if b.2 = truthI (op == [116, 114, 117, 101]) then x.c.toNat else i + 1)
  else let y := cmpF x.op b.1.1 b.1.2.1 b.1.2.2 c.1.1 c.1.2.1 c.1.2.2; (rs.set A (a.1, y.1), y.2, i + 1)
/-- what is answered from a place on: the value, the truth, the error (fuel: a jump goes forward) -/
def runR (R : List (List Val)) (xs : List Ins) : Nat → Nat → List Reg → Val × Int × Int
  | 0, _, _ => (noV, 0, 0)
  | f + 1, i, rs =>
    if xs.length ≤ i then ((rs.getD 0 noR).1, (rs.getD 0 noR).2, 0)
    else if (stepR R (xs.getD i noI) rs i).2.1 = 0 then runR R xs f (stepR R (xs.getD i noI) rs i).2.2 (stepR R (xs.getD i noI) rs i).1
    else (noV, 0, (stepR R (xs.getD i noI) rs i).2.1)
/-- rows in memory that came in -/
def IsRR (w : World) (a : Option Addr) (len : Nat) (R : List (List Val)) : Prop :=
  R.length = len ∧ len ≤ 9223372036854775807 ∧ (len = 0 ∨ ∃ b off, a = some ⟨b, off, none⟩ ∧ b < w.heap.size ∧ ∀ i, i < len → ∃ ra rl rc, w.cell? ⟨b, off + i, none⟩ = some (.slice ra rl rc) ∧ IsV w ra rl (R.getD i []))
theorem IsRR.below {w w' : World} {a : Option Addr} {len : Nat} {R : List (List Val)} (h : IsRR w a len R) (hb : Below w.heap.size w w') : IsRR w' a len R := by
  obtain ⟨h1, h2, h3⟩ := h
  refine ⟨h1, h2, ?_⟩
  rcases h3 with h0 | ⟨b, off, rfl, hlt, hc⟩
  · exact .inl h0
  · refine .inr ⟨b, off, rfl, Nat.lt_of_lt_of_le hlt hb.size, fun i hi => ?_⟩
    obtain ⟨ra, rl, rc, h4, h5⟩ := hc i hi
    exact ⟨ra, rl, rc, (hb.cell (p := ⟨b, off + i, none⟩) hlt).trans h4, h5.below hb⟩
def valV (v : Val) : Value := .agg #[.int .i64 v.1, .int .i64 v.2.1, .string v.2.2]
theorem results_val {fn : Func} {p u : Tmp} (h : fn.results = #[.cell p 38, .tmp u]) (tmps : Array Value) (w : World) (g : Nat) (v : Val)
    (hp : tmps.getD p undef = .pointer (some ⟨g, 0, none⟩)) (hg : w.heap[g]? = some (.cells #[.int .i64 v.1, .int .i64 v.2.1, .string v.2.2] 38 (0, 0))) :
    (results fn tmps).run Try.prog w = .ok (.tuple #[valV v, tmps.getD u undef]) w := by
  have hp' : tmps[p]?.getD undef = .pointer (some ⟨g, 0, none⟩) := by simpa using hp
  have hl := run_loadVar_row (P := Try.prog) w g 38 38 #[.int .i64 v.1, .int .i64 v.2.1, .string v.2.2] (0, 0) _ hg Try.underlying38 rfl (by
    have : (Try.prog.info? 38).map (·.size) = some 3 := by kernel_rfl
    exact this)
  simp [results, h, hp', asAddr, hl, valV]
theorem vbox3 {w : World} {N : Nat} {x y z : Value} {T : TypeId} (h : w.heap[N]? = some (.cells #[x, y, z] T (0, 0))) (a b c : Value) : (((w.setCell ⟨N, 0, none⟩ a).setCell ⟨N, 1, none⟩ b).setCell ⟨N, 2, none⟩ c).heap[N]? = some (.cells #[a, b, c] T (0, 0)) :=
  Go.heap_setCell_same _ N 2 _ _ _ (Go.heap_setCell_same _ N 1 _ _ _ (Go.heap_setCell_same w N 0 _ _ _ h))
def ColP (w : World) (y : Val × Int) (e : Ending) (w' : World) : Prop := e = .returned (.tuple #[valV y.1, .int .i64 y.2]) ∧ Below w.heap.size w w'
theorem vrtruth_any (b : Bool) (w : World) : Calls Try.prog 113 #[.bool b] w fun e w' => e = .returned (.int .i64 (truthI b)) ∧ w = w' := by
  cases b <;> (
    go_enter Try.func113, Try.ntmps113
    go_wp2
    go_ret
    exact ⟨rfl, rfl⟩)
end Go.Proofs.Ytafhgilikcablaa
namespace Go.Proofs.Ytafhgilikcablaa
set_option linter.unusedVariables false
set_option linter.unusedSimpArgs false

def letZ (r : Int) : Bool := decide (97 ≤ r ∧ r ≤ 122) || decide (65 ≤ r ∧ r ≤ 90) || decide (945 ≤ r ∧ r ≤ 969) || decide (r = 95)
def digZ (r : Int) : Bool := decide (48 ≤ r ∧ r ≤ 57)
/-- from a place on every rune may stand in a name -/
def okFrom (s : ByteArray) : Nat → Nat → Bool
  | 0, _ => true
  | b + 1, pos => if pos < s.size then (letZ (Utf8.decode s pos).1 || (decide (pos ≠ 0) && digZ (Utf8.decode s pos).1)) && okFrom s b (pos + (Utf8.decode s pos).2) else true
def okAll (s : ByteArray) : Bool := okFrom s s.size 0
theorem okFrom_end (s : ByteArray) (b pos : Nat) (h : ¬ pos < s.size) : okFrom s b pos = true := by
  cases b <;> simp [okFrom, h]
theorem okFrom_bad {s : ByteArray} {b pos : Nat} (h : pos < s.size) (h1 : letZ (Utf8.decode s pos).1 = false) (h2 : pos = 0 ∨ digZ (Utf8.decode s pos).1 = false) (hb : s.size ≤ pos + b) : okFrom s b pos = false := by
  cases b with
  | zero => omega
  | succ b =>
    unfold okFrom
    rw [if_pos h, h1]
    rcases h2 with rfl | h2
    · simp
    · rw [h2]; simp
theorem okFrom_good {s : ByteArray} {b pos : Nat} (h : pos < s.size) (h1 : letZ (Utf8.decode s pos).1 = true ∨ (pos ≠ 0 ∧ digZ (Utf8.decode s pos).1 = true)) : okFrom s (b + 1) pos = okFrom s b (pos + (Utf8.decode s pos).2) := by
  conv => lhs; unfold okFrom
  rw [if_pos h]
  rcases h1 with h1 | ⟨h0, h1⟩
  · rw [h1]; simp
  · rw [h1]; simp [h0]
theorem runes_pos {s : ByteArray} (h : 0 < s.size) : 0 < Lib.runeCount s := by
  unfold Lib.runeCount
  obtain ⟨m, hm⟩ : ∃ m, s.size = m + 1 := ⟨s.size - 1, by omega⟩
  rw [hm]
  unfold Lib.runeCountFrom
  rw [if_pos h]; omega
theorem runes_zero {s : ByteArray} (h : s.size = 0) : Lib.runeCount s = 0 := by
  unfold Lib.runeCount
  rw [h]; rfl

/-- the keywords -/
def kws : List (List UInt8) := [[67, 82, 69, 65, 84, 69],
  [84, 65, 66, 76, 69],
  [73, 78, 68, 69, 88],
  [85, 78, 73, 81, 85, 69],
  [77, 65, 84, 69, 82, 73, 65, 76, 73, 90, 69, 68],
  [86, 73, 69, 87],
  [68, 82, 79, 80],
  [73, 78, 83, 69, 82, 84],
  [73, 78, 84, 79],
  [86, 65, 76, 85, 69, 83],
  [85, 80, 68, 65, 84, 69],
  [83, 69, 84],
  [68, 69, 76, 69, 84, 69],
  [70, 82, 79, 77],
  [83, 69, 76, 69, 67, 84],
  [68, 73, 83, 84, 73, 78, 67, 84],
  [87, 72, 69, 82, 69],
  [71, 82, 79, 85, 80],
  [66, 89],
  [79, 82, 68, 69, 82],
  [65, 83, 67],
  [68, 69, 83, 67],
  [76, 73, 77, 73, 84],
  [74, 79, 73, 78],
  [79, 78],
  [65, 83],
  [65, 78, 68],
  [79, 82],
  [78, 79, 84],
  [73, 83],
  [78, 85, 76, 76],
  [73, 78, 84],
  [84, 69, 88, 84],
  [66, 69, 71, 73, 78],
  [67, 79, 77, 77, 73, 84],
  [82, 79, 76, 76, 66, 65, 67, 75],
  [67, 79, 85, 78, 84],
  [83, 85, 77],
  [77, 73, 78],
  [77, 65, 88]]
/-- the keywords, each between blanks -/
def kwT : List UInt8 := 32 :: kws.flatMap fun l => l ++ [32]
def kwB (s : ByteArray) : Bool := kws.contains s.data.toList
/-- a name -/
def nmB (s : ByteArray) : Bool := okAll s && decide (0 < s.size) && decide (Lib.runeCount s ≤ 16) && !kwB s

theorem kw_all : (kws.all fun l => (List.range 223).any fun i => decide (i + (l.length + 2) ≤ 223) && ((kwT.drop i).take (l.length + 2) == 32 :: (l ++ [32]))) = true := by decide +kernel
theorem kw_next : ((List.range 223).all fun i => kws.contains ((kwT.drop (i + 1)).takeWhile (· != 32)) || ((kwT.drop (i + 1)).takeWhile (· != 32)).isEmpty || decide (kwT[i]? ≠ some 32)) = true := by decide +kernel
theorem kw_small : (kws.all fun l => l.all fun b => b != 32) = true := by decide +kernel
theorem takeWhile_mid : ∀ (l r : List UInt8), (∀ b ∈ l, b ≠ 32) → (l ++ 32 :: r).takeWhile (· != 32) = l
  | [], r, _ => by simp [List.takeWhile]
  | a :: l, r, h => by
    have h1 : a ≠ 32 := h a (by simp)
    simp [List.takeWhile, h1, takeWhile_mid l r (fun b hb => h b (by simp [hb]))]
/-- a text without blanks stands between blanks just if it is one of the words -/
theorem kw_at {s : ByteArray} (h0 : 0 < s.size) (hb : ∀ b ∈ s.data.toList, b ≠ 32) : kwB s = true ↔ ∃ i, i + (s.size + 2) ≤ 223 ∧ (kwT.drop i).take (s.size + 2) = 32 :: (s.data.toList ++ [32]) := by
  have hsz : s.data.toList.length = s.size := by rw [Array.length_toList]; rfl
  unfold kwB
  generalize s.data.toList = l at *
  rw [← hsz]
  constructor
  · intro h
    have := List.all_eq_true.1 kw_all l (List.contains_iff_mem.1 h)
    obtain ⟨i, hi, h2⟩ := List.any_eq_true.1 this
    rw [Bool.and_eq_true] at h2
    exact ⟨i, of_decide_eq_true h2.1, eq_of_beq h2.2⟩
  · rintro ⟨i, hi, h⟩
    have hk : i < 223 := by omega
    have h1 := List.all_eq_true.1 kw_next i (List.mem_range.2 hk)
    have hd : kwT.drop i = 32 :: (l ++ 32 :: (kwT.drop i).drop (l.length + 2)) := by
      conv => lhs; rw [← List.take_append_drop (l.length + 2) (kwT.drop i), h]
      simp
    have hd1 : kwT.drop (i + 1) = l ++ 32 :: (kwT.drop i).drop (l.length + 2) := by
      rw [← List.drop_drop, hd]; simp
    have hi0 : kwT[i]? = some 32 := by
      have : (kwT.drop i)[0]? = some 32 := by rw [hd]; rfl
      rw [List.getElem?_drop] at this
      simpa using this
    rw [hd1, takeWhile_mid _ _ hb, hi0] at h1
    simp only [ne_eq, not_true, decide_false, Bool.or_false, Bool.or_eq_true] at h1
    rcases h1 with h1 | h1
    · exact h1
    · rw [List.isEmpty_iff] at h1
      subst h1
      simp at hsz
      omega
end Go.Proofs.Ytafhgilikcablaa
namespace Go.Proofs.Ytafhgilikcablaa
open Go.RowKit
set_option linter.unusedVariables false
set_option linter.unusedSimpArgs false
set_option maxRecDepth 100000

set_option maxHeartbeats 1600000 in
theorem rletter_any (r : Int) (w : World) : Calls Try.prog 201 #[.int .i32 r] w fun e w' => e = .returned (.bool (letZ r)) ∧ w' = w := by
  obtain ⟨b, hb⟩ : ∃ b, b = letZ r := ⟨_, rfl⟩
  rw [← hb]
  have HB := Lib.hid hb
  clear hb
  go_enter Try.func201, Try.ntmps201
  go_wp2
  all_goals go_ret
  all_goals
    refine ⟨?_, rfl⟩
    rw [HB.out]
    simp [letZ]
    try (rw [Bool.eq_iff_iff]; simp only [Bool.or_eq_true, Bool.and_eq_true, decide_eq_true_eq, beq_iff_eq]; omega)
    try omega
set_option maxHeartbeats 1600000 in
theorem rdigit_any (r : Int) (w : World) : Calls Try.prog 202 #[.int .i32 r] w fun e w' => e = .returned (.bool (digZ r)) ∧ w' = w := by
  obtain ⟨b, hb⟩ : ∃ b, b = digZ r := ⟨_, rfl⟩
  rw [← hb]
  have HB := Lib.hid hb
  clear hb
  go_enter Try.func202, Try.ntmps202
  go_wp2
  all_goals go_ret
  all_goals
    refine ⟨?_, rfl⟩
    rw [HB.out]
    simp [digZ]
    try (rw [Bool.eq_iff_iff]; simp only [Bool.or_eq_true, Bool.and_eq_true, decide_eq_true_eq, beq_iff_eq]; omega)
    try omega

/-- every rune of a text is one of the machine's -/
theorem rune_step (s : ByteArray) (pos : Nat) (w : World) (hp : pos < s.size) : ∃ (r : Int) (n : Nat), r = (Utf8.decode s pos).1 ∧ n = (Utf8.decode s pos).2 ∧ 1 ≤ n ∧
    ∀ ty, (Instr.next (.pointer (some ⟨w.heap.size, 0, none⟩)) true ty).run Try.prog (w.iter s pos) = .ok (.tuple #[.bool true, .int .i64 pos, .int .i32 r]) (w.iter s (pos + n)) :=
  ⟨_, _, rfl, rfl, Lib.decode_width_pos s pos hp, fun ty => run_next_any w s pos ty hp⟩
end Go.Proofs.Ytafhgilikcablaa
