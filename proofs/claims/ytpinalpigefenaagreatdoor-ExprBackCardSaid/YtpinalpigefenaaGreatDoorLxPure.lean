/- LexerNames: letters, names and keywords. Plain mathematics. -/
import Derived.Test.YtpinalpigefenaaGreatDoorAggIn
import Derived.Deep.Slices
import Derived.Deep.Strs
import Derived.Deep.Fields
import Derived.ProofKit
import Derived.OpenShut
import Derived.Lib.RuneCount
namespace Go.Proofs.YtpinalpigefenaaGreatDoor
open Go.ChangeShapes Go.WideShapes Go.Deep Go.RowKit
set_option linter.unusedVariables false
set_option linter.unusedSimpArgs false

/-- an expression -/
inductive ET where
  | mk (kind : Int) (op : ByteArray) (vk vn : Int) (vs tab col : ByteArray) (parts : List ET)
instance etInh : Inhabited ET := ⟨.mk 0 ByteArray.empty 0 0 ByteArray.empty ByteArray.empty ByteArray.empty []⟩
def ET.kind : ET → Int | .mk k _ _ _ _ _ _ _ => k
def ET.op : ET → ByteArray | .mk _ o _ _ _ _ _ _ => o
def ET.vk : ET → Int | .mk _ _ k _ _ _ _ _ => k
def ET.vn : ET → Int | .mk _ _ _ n _ _ _ _ => n
def ET.vs : ET → ByteArray | .mk _ _ _ _ s _ _ _ => s
def ET.tab : ET → ByteArray | .mk _ _ _ _ _ t _ _ => t
def ET.col : ET → ByteArray | .mk _ _ _ _ _ _ c _ => c
def ET.parts : ET → List ET | .mk _ _ _ _ _ _ _ p => p
/-- its eight cells -/
def etX (e : ET) (sa : Option Addr) (sc : Nat) : List Value := [.int .i64 e.kind, .string e.op, .int .i64 e.vk, .int .i64 e.vn, .string e.vs, .string e.tab, .string e.col, .slice sa e.parts.length sc]
theorem etX_length (e : ET) (sa : Option Addr) (sc : Nat) : (etX e sa sc).length = 8 := rfl
structure EAt (w : World) (b o : Nat) (e : ET) (sa : Option Addr) (sc : Nat) : Prop where
  c0 : w.cell? ⟨b, o, none⟩ = some (.int .i64 e.kind)
  c1 : w.cell? ⟨b, o + 1, none⟩ = some (.string e.op)
  c2 : w.cell? ⟨b, o + 2, none⟩ = some (.int .i64 e.vk)
  c3 : w.cell? ⟨b, o + 3, none⟩ = some (.int .i64 e.vn)
  c4 : w.cell? ⟨b, o + 4, none⟩ = some (.string e.vs)
  c5 : w.cell? ⟨b, o + 5, none⟩ = some (.string e.tab)
  c6 : w.cell? ⟨b, o + 6, none⟩ = some (.string e.col)
  c7 : w.cell? ⟨b, o + 7, none⟩ = some (.slice sa e.parts.length sc)
/-- its numbers are of their kinds -/
structure ERg (e : ET) (sa : Option Addr) (sc : Nat) : Prop where
  k : (Lit.int .i64 e.kind).wf = true
  a : (Lit.int .i64 e.vk).wf = true
  n : (Lit.int .i64 e.vn).wf = true
  o : e.op.size ≤ maxLen
  s : e.vs.size ≤ maxLen
  t : e.tab.size ≤ maxLen
  c : e.col.size ≤ maxLen
  nil : sa = none → e.parts.length = 0 ∧ sc = 0
  le : e.parts.length ≤ sc
  cap : sc ≤ maxLen
/-- a slice of expressions; its blocks are of Q -/
inductive EL (w : World) (Q : Nat → Prop) : Option Addr → List ET → Prop
  | nil (a : Option Addr) : EL w Q a []
  | row (b off : Nat) (l : List ET) (sa : Nat → Option Addr) (sc : Nat → Nat) (hq : Q b) (hb : b < w.heap.size) (hc : ∀ i (h : i < l.length), EAt w b (off + i * 8) (l[i]) (sa i) (sc i)) (hr : ∀ i (h : i < l.length), ERg (l[i]) (sa i) (sc i)) (hs : ∀ i (h : i < l.length), EL w Q (sa i) (l[i]).parts) : EL w Q (some ⟨b, off, none⟩) l
theorem EAt.below {w w' : World} {b o : Nat} {e : ET} {sa : Option Addr} {sc : Nat} (h : EAt w b o e sa sc) (hlt : b < w.heap.size) (hb : Below w.heap.size w w') : EAt w' b o e sa sc :=
  ⟨(hb.cell (p := ⟨b, o, none⟩) hlt).trans h.c0, (hb.cell (p := ⟨b, o + 1, none⟩) hlt).trans h.c1, (hb.cell (p := ⟨b, o + 2, none⟩) hlt).trans h.c2, (hb.cell (p := ⟨b, o + 3, none⟩) hlt).trans h.c3, (hb.cell (p := ⟨b, o + 4, none⟩) hlt).trans h.c4, (hb.cell (p := ⟨b, o + 5, none⟩) hlt).trans h.c5, (hb.cell (p := ⟨b, o + 6, none⟩) hlt).trans h.c6, (hb.cell (p := ⟨b, o + 7, none⟩) hlt).trans h.c7⟩
theorem EL.keep {w w' : World} {Q : Nat → Prop} {a : Option Addr} {l : List ET} (h : EL w Q a l) (hb : Below w.heap.size w w') : EL w' Q a l := by
  induction h with
  | nil a => exact .nil a
  | row b off l sa sc hq hlt hc hr hs ih => exact .row b off l sa sc hq (Nat.lt_of_lt_of_le hlt hb.size) (fun i h => (hc i h).below hlt hb) hr (fun i h => ih i h)
theorem EAt.far {w w' : World} {b o : Nat} {e : ET} {sa : Option Addr} {sc : Nat} (h : EAt w b o e sa sc) (hb : w'.heap[b]? = w.heap[b]?) : EAt w' b o e sa sc :=
  ⟨(World.cell?_of_block (by exact hb)).trans h.c0, (World.cell?_of_block (by exact hb)).trans h.c1, (World.cell?_of_block (by exact hb)).trans h.c2, (World.cell?_of_block (by exact hb)).trans h.c3, (World.cell?_of_block (by exact hb)).trans h.c4, (World.cell?_of_block (by exact hb)).trans h.c5, (World.cell?_of_block (by exact hb)).trans h.c6, (World.cell?_of_block (by exact hb)).trans h.c7⟩
/-- its blocks were not touched -/
theorem EL.far {w w' : World} {Q : Nat → Prop} {a : Option Addr} {l : List ET} (h : EL w Q a l) (hs : w.heap.size ≤ w'.heap.size) (hb : ∀ b, Q b → b < w.heap.size → w'.heap[b]? = w.heap[b]?) : EL w' Q a l := by
  induction h with
  | nil a => exact .nil a
  | row b off l sa sc hq hlt hc hr _ ih => exact .row b off l sa sc hq (Nat.lt_of_lt_of_le hlt hs) (fun i h => (hc i h).far (hb b hq hlt)) hr (fun i h => ih i h)
theorem EL.mono {w : World} {Q Q' : Nat → Prop} {a : Option Addr} {l : List ET} (h : EL w Q a l) (hq : ∀ b, Q b → b < w.heap.size → Q' b) : EL w Q' a l := by
  induction h with
  | nil a => exact .nil a
  | row b off l sa sc hb hlt hc hr _ ih => exact .row b off l sa sc (hq b hb hlt) hlt hc hr (fun i h => ih i h)
/-- an expression by value -/
def EV (w : World) (Q : Nat → Prop) (v : Value) (e : ET) : Prop := ∃ sa sc, v = .agg (etX e sa sc).toArray ∧ ERg e sa sc ∧ EL w Q sa e.parts
theorem EV.keep {w w' : World} {Q : Nat → Prop} {v : Value} {e : ET} (h : EV w Q v e) (hb : Below w.heap.size w w') : EV w' Q v e := by
  obtain ⟨sa, sc, h1, h2, h3⟩ := h
  exact ⟨sa, sc, h1, h2, h3.keep hb⟩
/-- a part of a slice of them -/
theorem EL.at {w : World} {Q : Nat → Prop} {a : Option Addr} {l : List ET} (h : EL w Q a l) {i : Nat} (hi : i < l.length) : ∃ b off sa sc, a = some ⟨b, off, none⟩ ∧ b < w.heap.size ∧ EAt w b (off + i * 8) (l[i]) sa sc ∧ ERg (l[i]) sa sc ∧ EL w Q sa (l[i]).parts := by
  cases h with
  | nil a => simp at hi
  | row b off l sa sc hq hlt hc hr hs => exact ⟨b, off, sa i, sc i, rfl, hlt, hc i hi, hr i hi, hs i hi⟩

section
variable {H : Type} {enc : TypeId × Value → H} {P : Program} {w : World} {base : Nat} {spare : Nat → Bool} {held : Bool}
/-- eight cells that read as an expression -/
theorem open_et {t e : TypeId} {f0 f1 f2 f3 f4 f5 g0 g1 g2 : Field} {fuel : Nat} {cs : List Value} {x : DataW H × List MemPlace} (he : P.underlying e = some (.struct #[f0, f1, f2, f3, f4, f5])) (hC : P.cellsOf e = 8)
    (o0 : f0.offset = 0) (o1 : f1.offset = 1) (o2 : f2.offset = 2) (o3 : f3.offset = 5) (o4 : f4.offset = 6) (o5 : f5.offset = 7) (k0 : P.cellsOf f0.type = 1) (k1 : P.cellsOf f1.type = 1) (k2 : P.cellsOf f2.type = 3) (k3 : P.cellsOf f3.type = 1) (k4 : P.cellsOf f4.type = 1) (k5 : P.cellsOf f5.type = 1)
    (u0 : P.underlying f0.type = some (.int .i64)) (u1 : P.underlying f1.type = some .string) (u2 : P.underlying f2.type = some (.struct #[g0, g1, g2])) (u3 : P.underlying f3.type = some .string) (u4 : P.underlying f4.type = some .string) (u5 : f5.type = t)
    (p0 : g0.offset = 0) (p1 : g1.offset = 1) (p2 : g2.offset = 2) (l0 : P.cellsOf g0.type = 1) (l1 : P.cellsOf g1.type = 1) (l2 : P.cellsOf g2.type = 1)
    (v0 : P.underlying g0.type = some (.int .i64)) (v1 : P.underlying g1.type = some (.int .i64)) (v2 : P.underlying g2.type = some .string)
    (IH : ∀ n, n < fuel → ∀ v x, DataW.trod enc P w base spare held n t [v] = some x → ∃ a len cap l, v = .slice a len cap ∧ l.length = len ∧ EL w (fun _ => True) a l ∧ (a = none → len = 0 ∧ cap = 0) ∧ len ≤ cap ∧ cap ≤ maxLen)
    (h : DataW.trod enc P w base spare held fuel e cs = some x) : ∃ y sa sc, cs = etX y sa sc ∧ ERg y sa sc ∧ EL w (fun _ => True) sa y.parts := by
  obtain ⟨ys, n', hfu, _, hcl, hyl, hf⟩ := DataW.trod_struct he h
  rw [hC] at hcl
  match cs, hcl with
  | [c0, c1, c2, c3, c4, c5, c6, c7], _ =>
    have t0 := hf 0 f0 rfl
    have t1 := hf 1 f1 rfl
    have t2 := hf 2 f2 rfl
    have t3 := hf 3 f3 rfl
    have t4 := hf 4 f4 rfl
    have t5 := hf 5 f5 rfl
    rw [o0, k0] at t0
    rw [o1, k1] at t1
    rw [o2, k2] at t2
    rw [o3, k3] at t3
    rw [o4, k4] at t4
    rw [o5, k5, u5] at t5
    match ys, hyl with
    | [y0, y1, y2, y3, y4, y5], _ =>
      obtain ⟨a0, r0, _, q0⟩ := DataW.trod_int u0 (show DataW.trod enc P w base spare held n' f0.type [c0] = some y0 from t0)
      obtain ⟨s1, r1, _, q1⟩ := DataW.trod_string u1 (show DataW.trod enc P w base spare held n' f1.type [c1] = some y1 from t1)
      obtain ⟨z0, z1, z2, n2, _, _, w0, w1, w2⟩ := trod_struct3 u2 (show DataW.trod enc P w base spare held n' f2.type [c2, c3, c4] = some y2 from t2)
      obtain ⟨s3, r5, _, q5⟩ := DataW.trod_string u3 (show DataW.trod enc P w base spare held n' f3.type [c5] = some y3 from t3)
      obtain ⟨s4, r6, _, q6⟩ := DataW.trod_string u4 (show DataW.trod enc P w base spare held n' f4.type [c6] = some y4 from t4)
      obtain ⟨a, len, cap, l, r7, hl, hE, hn, hle, hcap⟩ := IH n' (by omega) c7 y5 (show DataW.trod enc P w base spare held n' t [c7] = some y5 from t5)
      rw [p0, l0] at w0
      rw [p1, l1] at w1
      rw [p2, l2] at w2
      obtain ⟨b0, r2, _, q2⟩ := DataW.trod_int v0 (show DataW.trod enc P w base spare held n2 g0.type [c2] = some z0 from w0)
      obtain ⟨b1, r3, _, q3⟩ := DataW.trod_int v1 (show DataW.trod enc P w base spare held n2 g1.type [c3] = some z1 from w1)
      obtain ⟨b2, r4, _, q4⟩ := DataW.trod_string v2 (show DataW.trod enc P w base spare held n2 g2.type [c4] = some z2 from w2)
      simp only [List.cons.injEq, and_true] at r0 r1 r2 r3 r4 r5 r6
      subst r0 r1 r2 r3 r4 r5 r6 r7 hl
      exact ⟨.mk a0 s1 b0 b1 b2 s3 s4 l, a, cap, rfl, ⟨q0, q2, q3, q1, q4, q5, q6, hn, hle, hcap⟩, hE⟩
theorem open_el {t e : TypeId} {f0 f1 f2 f3 f4 f5 g0 g1 g2 : Field} (ht : P.underlying t = some (.slice e)) (he : P.underlying e = some (.struct #[f0, f1, f2, f3, f4, f5])) (hC : P.cellsOf e = 8)
    (o0 : f0.offset = 0) (o1 : f1.offset = 1) (o2 : f2.offset = 2) (o3 : f3.offset = 5) (o4 : f4.offset = 6) (o5 : f5.offset = 7) (k0 : P.cellsOf f0.type = 1) (k1 : P.cellsOf f1.type = 1) (k2 : P.cellsOf f2.type = 3) (k3 : P.cellsOf f3.type = 1) (k4 : P.cellsOf f4.type = 1) (k5 : P.cellsOf f5.type = 1)
    (u0 : P.underlying f0.type = some (.int .i64)) (u1 : P.underlying f1.type = some .string) (u2 : P.underlying f2.type = some (.struct #[g0, g1, g2])) (u3 : P.underlying f3.type = some .string) (u4 : P.underlying f4.type = some .string) (u5 : f5.type = t)
    (p0 : g0.offset = 0) (p1 : g1.offset = 1) (p2 : g2.offset = 2) (l0 : P.cellsOf g0.type = 1) (l1 : P.cellsOf g1.type = 1) (l2 : P.cellsOf g2.type = 1)
    (v0 : P.underlying g0.type = some (.int .i64)) (v1 : P.underlying g1.type = some (.int .i64)) (v2 : P.underlying g2.type = some .string) :
    ∀ N fuel, fuel ≤ N → ∀ v x, DataW.trod enc P w base spare held fuel t [v] = some x → ∃ a len cap l, v = .slice a len cap ∧ l.length = len ∧ EL w (fun _ => True) a l ∧ (a = none → len = 0 ∧ cap = 0) ∧ len ≤ cap ∧ cap ≤ maxLen := by
  intro N
  induction N with
  | zero =>
    intro fuel hf v x h
    obtain rfl : fuel = 0 := by omega
    simp [DataW.trod] at h
  | succ N ih =>
    intro fuel hf v x h
    rcases DataW.trod_slice ht h with ⟨h0, _⟩ | ⟨a, len, cap, elems, rest, n, hfu, hcs, _, hb, hl, hm, hlen, hel, _, _⟩
    · simp at h0
      subst h0
      exact ⟨none, 0, 0, [], rfl, rfl, .nil _, fun _ => ⟨rfl, rfl⟩, Nat.le_refl _, Nat.zero_le _⟩
    simp at hcs
    subst hcs
    have key : ∀ i, i < len → ∃ y : ET × Option Addr × Nat, (∀ j u, (etX y.1 y.2.1 y.2.2)[j]? = some u → w.cell? (a.add (i * 8 + j)) = some u) ∧ ERg y.1 y.2.1 y.2.2 ∧ EL w (fun _ => True) y.2.1 y.1.parts := by
      intro i hi
      have hk := hel i hi
      rw [List.getElem?_eq_getElem (by omega)] at hk
      obtain ⟨cs', hc, ht'⟩ := Option.bind_eq_some_iff.1 hk
      rw [hC] at hc
      obtain ⟨_, hcl, hat⟩ := World.cells?_some hc
      obtain ⟨y, sa, sc, hcs', hrg, hE⟩ := open_et he hC o0 o1 o2 o3 o4 o5 k0 k1 k2 k3 k4 k5 u0 u1 u2 u3 u4 u5 p0 p1 p2 l0 l1 l2 v0 v1 v2 (fun n' hn' v x h => ih n' (by omega) v x h) ht'
      refine ⟨(y, sa, sc), fun j u hu => ?_, hrg, hE⟩
      have hj : j < 8 := by
        rcases Nat.lt_or_ge j 8 with h | h
        · exact h
        · rw [List.getElem?_eq_none (by rw [etX_length]; exact h)] at hu; cases hu
      have h1 := hat j (by simpa using hj)
      rw [add_add] at h1
      rw [h1, hcs']
      exact hu
    obtain ⟨F, hF⟩ := choose_lt (α := ET × Option Addr × Nat) (p := fun i y => (∀ j u, (etX y.1 y.2.1 y.2.2)[j]? = some u → w.cell? (a.add (i * 8 + j)) = some u) ∧ ERg y.1 y.2.1 y.2.2 ∧ EL w (fun _ => True) y.2.1 y.1.parts) key
    refine ⟨some a, len, cap, (List.range len).map fun i => (F i).1, rfl, by simp, ?_, fun h => (by cases h), hl, hm⟩
    by_cases h0 : len = 0
    · subst h0
      exact .nil _
    have hspot : a.spot = none := by
      have := (hF 0 (by omega)).1 0 _ rfl
      simp [Addr.add] at this
      exact World.cell?_spot this
    obtain ⟨b, off, spot⟩ := a
    dsimp only at hspot
    subst hspot
    have hlt : b < w.heap.size := by
      have := World.block_lt_of_cell? w _ ((hF 0 (by omega)).1 0 _ rfl)
      simpa [Addr.add] using this
    refine .row b off _ (fun i => (F i).2.1) (fun i => (F i).2.2) trivial hlt (fun i hi => ?_) (fun i hi => ?_) (fun i hi => ?_)
    · have hil : i < len := by simpa using hi
      have e : ∀ j u, (etX (F i).1 (F i).2.1 (F i).2.2)[j]? = some u → w.cell? ⟨b, off + i * 8 + j, none⟩ = some u := fun j u hu => by
        have := (hF i hil).1 j u hu
        rw [Addr.add_lit, ← Nat.add_assoc] at this
        exact this
      rw [List.getElem_map, List.getElem_range]
      exact ⟨e 0 _ rfl, e 1 _ rfl, e 2 _ rfl, e 3 _ rfl, e 4 _ rfl, e 5 _ rfl, e 6 _ rfl, e 7 _ rfl⟩
    · rw [List.getElem_map, List.getElem_range]
      exact (hF i (by simpa using hi)).2.1
    · rw [List.getElem_map, List.getElem_range]
      exact (hF i (by simpa using hi)).2.2
end
end Go.Proofs.YtpinalpigefenaaGreatDoor
namespace Go.Proofs.YtpinalpigefenaaGreatDoor
set_option linter.unusedVariables false
set_option linter.unusedSimpArgs false

def letZ (r : Int) : Bool := decide (97 ≤ r ∧ r ≤ 122) || decide (65 ≤ r ∧ r ≤ 90) || decide (945 ≤ r ∧ r ≤ 969) || decide (r = 95)
def digZ (r : Int) : Bool := decide (48 ≤ r ∧ r ≤ 57)
/-- from a place on every rune may stand in a name -/
def okFrom (s : ByteArray) : Nat → Nat → Bool
  | 0, _ => true
  | b + 1, pos => if pos < s.size then (letZ (Utf8.decode s pos).1 || (decide (pos ≠ 0) && digZ (Utf8.decode s pos).1)) && okFrom s b (pos + (Utf8.decode s pos).2) else true
def okAll (s : ByteArray) : Bool := okFrom s s.size 0
theorem okFrom_end (s : ByteArray) (b pos : Nat) (h : ¬ pos < s.size) : okFrom s b pos = true := by
  cases b <;> simp [okFrom, h]
theorem okFrom_bad {s : ByteArray} {b pos : Nat} (h : pos < s.size) (h1 : letZ (Utf8.decode s pos).1 = false) (h2 : pos = 0 ∨ digZ (Utf8.decode s pos).1 = false) (hb : s.size ≤ pos + b) : okFrom s b pos = false := by
  cases b with
  | zero => omega
  | succ b =>
    unfold okFrom
    rw [if_pos h, h1]
    rcases h2 with rfl | h2
    · simp
    · rw [h2]; simp
theorem okFrom_good {s : ByteArray} {b pos : Nat} (h : pos < s.size) (h1 : letZ (Utf8.decode s pos).1 = true ∨ (pos ≠ 0 ∧ digZ (Utf8.decode s pos).1 = true)) : okFrom s (b + 1) pos = okFrom s b (pos + (Utf8.decode s pos).2) := by
  conv => lhs; unfold okFrom
  rw [if_pos h]
  rcases h1 with h1 | ⟨h0, h1⟩
  · rw [h1]; simp
  · rw [h1]; simp [h0]
theorem runes_pos {s : ByteArray} (h : 0 < s.size) : 0 < Lib.runeCount s := by
  unfold Lib.runeCount
  obtain ⟨m, hm⟩ : ∃ m, s.size = m + 1 := ⟨s.size - 1, by omega⟩
  rw [hm]
  unfold Lib.runeCountFrom
  rw [if_pos h]; omega
theorem runes_zero {s : ByteArray} (h : s.size = 0) : Lib.runeCount s = 0 := by
  unfold Lib.runeCount
  rw [h]; rfl

/-- the keywords -/
def kws : List (List UInt8) := [[67, 82, 69, 65, 84, 69],
  [84, 65, 66, 76, 69],
  [73, 78, 68, 69, 88],
  [85, 78, 73, 81, 85, 69],
  [77, 65, 84, 69, 82, 73, 65, 76, 73, 90, 69, 68],
  [86, 73, 69, 87],
  [68, 82, 79, 80],
  [73, 78, 83, 69, 82, 84],
  [73, 78, 84, 79],
  [86, 65, 76, 85, 69, 83],
  [85, 80, 68, 65, 84, 69],
  [83, 69, 84],
  [68, 69, 76, 69, 84, 69],
  [70, 82, 79, 77],
  [83, 69, 76, 69, 67, 84],
  [68, 73, 83, 84, 73, 78, 67, 84],
  [87, 72, 69, 82, 69],
  [71, 82, 79, 85, 80],
  [66, 89],
  [79, 82, 68, 69, 82],
  [65, 83, 67],
  [68, 69, 83, 67],
  [76, 73, 77, 73, 84],
  [74, 79, 73, 78],
  [79, 78],
  [65, 83],
  [65, 78, 68],
  [79, 82],
  [78, 79, 84],
  [73, 83],
  [78, 85, 76, 76],
  [73, 78, 84],
  [84, 69, 88, 84],
  [66, 69, 71, 73, 78],
  [67, 79, 77, 77, 73, 84],
  [82, 79, 76, 76, 66, 65, 67, 75],
  [67, 79, 85, 78, 84],
  [83, 85, 77],
  [77, 73, 78],
  [77, 65, 88]]
def kwB (s : ByteArray) : Bool := kws.contains s.data.toList
/-- a name -/
def nmB (s : ByteArray) : Bool := okAll s && decide (0 < s.size) && decide (Lib.runeCount s ≤ 16) && !kwB s

end Go.Proofs.YtpinalpigefenaaGreatDoor
