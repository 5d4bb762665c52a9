/- Plain definitions and lemmas on values and rows of values: order, formed. No program. -/
import Derived.Below
import Derived.WalkLawsBesides
import Derived.OwnWalk
import Derived.Laws.Rows
import Derived.WalkSpells
namespace Go.Proofs.Ytafhgilikcablaa

/-- the order of two numbers -/
def ordI (a b : Int) : Int := if a < b then -1 else if b < a then 1 else 0
/-- the order of two texts -/
def ordS (s t : ByteArray) : Int := if Op.bytesLess s.toList t.toList = true then -1 else if s.toList = t.toList then 0 else 1
/-- the order of two values -/
def ordV (ka na : Int) (sa : ByteArray) (kb nb : Int) (sb : ByteArray) : Int :=
  if ordI ka kb = 0 then (if ordI na nb = 0 then ordS sa sb else ordI na nb) else ordI ka kb
/-- is a value formed? -/
def formedB (k n : Int) (s : ByteArray) : Bool := decide ((k = 0 ∧ n = 0 ∧ s.toList = []) ∨ (k = 1 ∧ s.toList = []) ∨ (k = 2 ∧ n = 0 ∧ s.size ≤ 100))

theorem ret_int {k : IntKind} {a b : Int} (h : a = b) : Ending.returned (.int k a) = .returned (.int k b) := by rw [h]
theorem ret_bool {a b : Bool} (h : a = b) : Ending.returned (.bool a) = .returned (.bool b) := by rw [h]
/-- a value: kind, number, text -/
abbrev Val := Int × Int × ByteArray
def noV : Val := (0, 0, ⟨#[]⟩)
def ordX (x y : Val) : Int := ordV x.1 x.2.1 x.2.2 y.1 y.2.1 y.2.2
def rowsF : List Val → List Val → Int
  | [], [] => 0
  | [], _ :: _ => -1
  | _ :: _, [] => 1
  | x :: xs, y :: ys => if ordX x y = 0 then rowsF xs ys else ordX x y

theorem vdrop_cons {vs : List Val} {k : Nat} (h : k < vs.length) : vs.drop k = vs.getD k noV :: vs.drop (k + 1) := by
  rw [List.drop_eq_getElem_cons h]; simp [h]
theorem rows_ne {xs ys : List Val} {k : Nat} (h1 : k < xs.length) (h2 : k < ys.length) (ho : ¬ ordX (xs.getD k noV) (ys.getD k noV) = 0) : rowsF (xs.drop k) (ys.drop k) = ordX (xs.getD k noV) (ys.getD k noV) := by
  rw [vdrop_cons h1, vdrop_cons h2]; unfold rowsF; rw [if_neg ho]
theorem rows_eq {xs ys : List Val} {k : Nat} (h1 : k < xs.length) (h2 : k < ys.length) (ho : ordX (xs.getD k noV) (ys.getD k noV) = 0) : rowsF (xs.drop k) (ys.drop k) = rowsF (xs.drop (k + 1)) (ys.drop (k + 1)) := by
  rw [vdrop_cons h1, vdrop_cons h2]; conv => lhs; unfold rowsF
  rw [if_pos ho]
theorem rows_left {xs ys : List Val} {k : Nat} (h1 : xs.length ≤ k) (h2 : k < ys.length) : rowsF (xs.drop k) (ys.drop k) = -1 := by
  rw [List.drop_eq_nil_of_le h1, vdrop_cons h2]; unfold rowsF; rfl
theorem rows_right {xs ys : List Val} {k : Nat} (h1 : k < xs.length) (h2 : ys.length ≤ k) : rowsF (xs.drop k) (ys.drop k) = 1 := by
  rw [List.drop_eq_nil_of_le h2, vdrop_cons h1]; unfold rowsF; rfl
theorem rows_both {xs ys : List Val} {k : Nat} (h1 : xs.length ≤ k) (h2 : ys.length ≤ k) : rowsF (xs.drop k) (ys.drop k) = 0 := by
  rw [List.drop_eq_nil_of_le h1, List.drop_eq_nil_of_le h2]; rfl

/-- a slice of values: what it reads as -/
def IsV (w : World) (a : Option Addr) (len : Nat) (vs : List Val) : Prop :=
  vs.length = len ∧ len ≤ 9223372036854775807 ∧ (len = 0 ∨ ∃ b off, a = some ⟨b, off, none⟩ ∧ b < w.heap.size ∧ ∀ i, i < len →
    w.cell? ⟨b, off + i * 3, none⟩ = some (.int .i64 (vs.getD i noV).1) ∧ w.cell? ⟨b, off + i * 3 + 1, none⟩ = some (.int .i64 (vs.getD i noV).2.1) ∧ w.cell? ⟨b, off + i * 3 + 2, none⟩ = some (.string (vs.getD i noV).2.2))

theorem IsV.below {w w' : World} {a : Option Addr} {len : Nat} {vs : List Val} (h : IsV w a len vs) (hb : RowKit.Below w.heap.size w w') : IsV w' a len vs := by
  obtain ⟨h1, h2, h3⟩ := h
  refine ⟨h1, h2, ?_⟩
  rcases h3 with h3 | ⟨b, off, rfl, hlt, hc⟩
  · exact .inl h3
  · refine .inr ⟨b, off, rfl, Nat.lt_of_lt_of_le hlt hb.size, fun i hi => ?_⟩
    rw [hb.cell (p := ⟨b, off + i * 3, none⟩) hlt, hb.cell (p := ⟨b, off + i * 3 + 1, none⟩) hlt, hb.cell (p := ⟨b, off + i * 3 + 2, none⟩) hlt]
    exact hc i hi

theorem ordI_neg (a b : Int) : ordI b a = -ordI a b := by unfold ordI; split <;> split <;> (try split) <;> omega
theorem ordI_bd (a b : Int) : ordI a b = -1 ∨ ordI a b = 0 ∨ ordI a b = 1 := by unfold ordI; split; simp; split <;> simp

def formedV (v : Val) : Bool := formedB v.1 v.2.1 v.2.2
def valsX (v : Val) : List Value := [.int .i64 v.1, .int .i64 v.2.1, .string v.2.2]
theorem oI_self (a : Int) : ordI a a = 0 := by unfold ordI; simp
theorem oV_k {ka na kb nb : Int} {sa sb : ByteArray} (h : (ka != kb) = true) : ordI ka kb = ordV ka na sa kb nb sb := by
  have h := bne_iff_ne.1 h
  have : ordI ka kb ≠ 0 := by unfold ordI; split; omega; split <;> omega
  unfold ordV; rw [if_neg this]
theorem oV_n {ka na nb : Int} {sa sb : ByteArray} (h : (na != nb) = true) : ordI na nb = ordV ka na sa ka nb sb := by
  have h := bne_iff_ne.1 h
  have : ordI na nb ≠ 0 := by unfold ordI; split; omega; split <;> omega
  unfold ordV; rw [oI_self, if_pos rfl, if_neg this]
theorem oV_s {ka na : Int} {sa sb : ByteArray} : ordS sa sb = ordV ka na sa ka na sb := by
  unfold ordV; rw [oI_self, oI_self, if_pos rfl, if_pos rfl]
theorem ordI_zero {a b : Int} (h : ordI a b = 0) : a = b := by unfold ordI at h; split at h; omega; split at h <;> omega
theorem ordS_self (s : ByteArray) : ordS s s = 0 := by
  unfold ordS
  rw [if_neg, if_pos rfl]
  have : ∀ l : List UInt8, Op.bytesLess l l = false := fun l => by
    induction l with
    | nil => rfl
    | cons x l ih => simp [Op.bytesLess, ih]
  rw [this]; simp
theorem ordS_zero {s t : ByteArray} (h : ordS s t = 0) : s = t := by
  unfold ordS at h
  split at h
  · omega
  · split at h
    · rename_i h2
      rw [ByteArray.toList_eq, ByteArray.toList_eq] at h2
      exact ByteArray.ext (Array.ext' h2)
    · omega
theorem ordX_zero {x y : Val} (h : ordX x y = 0) : x = y := by
  obtain ⟨a, b, c⟩ := x
  obtain ⟨a', b', c'⟩ := y
  unfold ordX ordV at h
  dsimp only at h
  split at h
  · rename_i h1
    split at h
    · rename_i h2
      rw [ordI_zero h1, ordI_zero h2, ordS_zero h]
    · rename_i h2; exact absurd h h2
  · rename_i h1; exact absurd h h1
theorem ordX_self (x : Val) : ordX x x = 0 := by unfold ordX; rw [← oV_s, ordS_self]
theorem rowsF_self (l : List Val) : rowsF l l = 0 := by
  induction l with
  | nil => rfl
  | cons x l ih => unfold rowsF; rw [if_pos (ordX_self x)]; exact ih
theorem rowsF_zero : ∀ {l m : List Val}, rowsF l m = 0 → l = m
  | [], [], _ => rfl
  | [], _ :: _, h => by simp [rowsF] at h
  | _ :: _, [], h => by simp [rowsF] at h
  | x :: l, y :: m, h => by
    unfold rowsF at h
    by_cases he : ordX x y = 0
    · rw [if_pos he] at h; rw [ordX_zero he, rowsF_zero h]
    · rw [if_neg he] at h; exact absurd h he

/-- a new row of m values, of which the first ones are written -/
def RowV (w : World) (e : TypeId) (g m : Nat) (vs : List Val) : Prop :=
  ∃ cur : Array Value, w.heap[g]? = some (.cells cur e (0, 0)) ∧ cur.size = m * 3 ∧ ∀ i, i < vs.length → cur[i * 3]? = some (.int .i64 (vs.getD i noV).1) ∧ cur[i * 3 + 1]? = some (.int .i64 (vs.getD i noV).2.1) ∧ cur[i * 3 + 2]? = some (.string (vs.getD i noV).2.2)
theorem RowV.made {w : World} {B g n cap : Nat} {e : TypeId} {xs : List Value} (h : w.ownsRow B e 3 (.slice (some ⟨g, 0, none⟩) n cap) n xs) (hc : cap = n) : RowV w e g n [] := by
  rcases h.2 with ⟨h, _⟩ | ⟨g', cap', cur, he, _, hg, _, _, hs, _⟩
  · cases h
  · simp only [Value.slice.injEq, Option.some.injEq, Addr.mk.injEq] at he
    obtain ⟨⟨rfl, _⟩, _, rfl⟩ := he
    exact ⟨cur, hg, by rw [hs, hc], fun i hi => by simp at hi⟩
theorem RowV.lt {w : World} {e : TypeId} {g m : Nat} {vs : List Val} (h : RowV w e g m vs) : g < w.heap.size := by
  obtain ⟨cur, hg, _⟩ := h
  exact (Array.getElem?_eq_some_iff.1 hg).1
theorem RowV.below {w w' : World} {e : TypeId} {g m : Nat} {vs : List Val} (h : RowV w e g m vs) (hb : RowKit.Below w.heap.size w w') : RowV w' e g m vs := by
  have hlt := h.lt
  obtain ⟨cur, hg, h⟩ := h
  exact ⟨cur, (hb.block g hlt).trans hg, h⟩
theorem RowV.there {w : World} {e : TypeId} {g m : Nat} {vs : List Val} (h : RowV w e g m vs) {j : Nat} (hj : j < m) : ∃ u0 u1 u2, w.cell? ⟨g, j * 3, none⟩ = some u0 ∧ w.cell? ⟨g, j * 3 + 1, none⟩ = some u1 ∧ w.cell? ⟨g, j * 3 + 2, none⟩ = some u2 ∧ ∀ k, w.frozen? ⟨g, k, none⟩ = false := by
  obtain ⟨cur, hg, hs, h⟩ := h
  refine ⟨cur[j * 3]'(by omega), cur[j * 3 + 1]'(by omega), cur[j * 3 + 2]'(by omega), ?_, ?_, ?_, fun k => frozen_of_row w g k cur e hg⟩
  · rw [cell_of_row w g _ cur e _ hg, Array.getElem?_eq_getElem]
  · rw [cell_of_row w g _ cur e _ hg, Array.getElem?_eq_getElem]
  · rw [cell_of_row w g _ cur e _ hg, Array.getElem?_eq_getElem]
theorem RowV.set {w : World} {e : TypeId} {g m j : Nat} {vs : List Val} (h : RowV w e g m vs) (hl : vs.length = j) (hj : j < m) (v : Val) :
    RowV (((w.setCell ⟨g, j * 3, none⟩ (.int .i64 v.1)).setCell ⟨g, j * 3 + 1, none⟩ (.int .i64 v.2.1)).setCell ⟨g, j * 3 + 2, none⟩ (.string v.2.2)) e g m (vs ++ [v]) := by
  obtain ⟨cur, hg, hs, h⟩ := h
  have h1 := heap_setCell_same w g (j * 3) cur e (.int .i64 v.1) hg
  have h2 := heap_setCell_same _ g (j * 3 + 1) _ e (.int .i64 v.2.1) h1
  have h3 := heap_setCell_same _ g (j * 3 + 2) _ e (.string v.2.2) h2
  refine ⟨_, h3, by simp [hs], fun i hi => ?_⟩
  simp only [List.length_append, List.length_cons, List.length_nil] at hi
  by_cases hij : i < vs.length
  · have e1 : (vs ++ [v]).getD i noV = vs.getD i noV := by
      rw [List.getD_eq_getElem?_getD, List.getD_eq_getElem?_getD, List.getElem?_append_left hij]
    obtain ⟨a, b, c⟩ := h i hij
    rw [e1]
    refine ⟨?_, ?_, ?_⟩ <;> (repeat rw [Array.getElem?_setIfInBounds_ne (by omega)]) <;> assumption
  · obtain rfl : i = j := by omega
    have e1 : (vs ++ [v]).getD i noV = v := by
      rw [List.getD_eq_getElem?_getD, List.getElem?_append_right (by omega)]
      simp [hl]
    rw [e1]
    refine ⟨?_, ?_, ?_⟩
    · rw [Array.getElem?_setIfInBounds_ne (by omega), Array.getElem?_setIfInBounds_ne (by omega), Array.getElem?_setIfInBounds_self_of_lt (by omega)]
    · rw [Array.getElem?_setIfInBounds_ne (by omega), Array.getElem?_setIfInBounds_self_of_lt (by simp; omega)]
    · rw [Array.getElem?_setIfInBounds_self_of_lt (by simp; omega)]
theorem RowV.isV {w : World} {e : TypeId} {g m : Nat} {vs : List Val} (h : RowV w e g m vs) (hl : vs.length = m) (hm : m ≤ 9223372036854775807) : IsV w (some ⟨g, 0, none⟩) m vs := by
  have hlt := h.lt
  obtain ⟨cur, hg, hs, h⟩ := h
  refine ⟨hl, hm, .inr ⟨g, 0, rfl, hlt, fun i hi => ?_⟩⟩
  obtain ⟨a, b, c⟩ := h i (by omega)
  rw [Nat.zero_add, cell_of_row w g _ cur e _ hg, cell_of_row w g _ cur e _ hg, cell_of_row w g _ cur e _ hg]
  exact ⟨a, b, c⟩
def okV (v : Val) : Prop := formedV v = true ∧ -9223372036854775808 ≤ v.2.1 ∧ v.2.1 ≤ 9223372036854775807
theorem noS : (⟨#[]⟩ : ByteArray).toList = [] := by rw [ByteArray.toList_eq]
theorem formed_null : formedV noV = true := decide_eq_true (.inl ⟨rfl, rfl, noS⟩)
theorem formed_int (n : Int) : formedV (1, n, ⟨#[]⟩) = true := decide_eq_true (.inr (.inl ⟨rfl, noS⟩))
theorem formed_text {s : ByteArray} (h : s.size ≤ 100) : formedV (2, 0, s) = true := decide_eq_true (.inr (.inr ⟨rfl, rfl, h⟩))
theorem formed_cases {v : Val} (h : formedV v = true) : v = (0, 0, ⟨#[]⟩) ∨ (∃ n, v = (1, n, ⟨#[]⟩)) ∨ (∃ s, v = (2, 0, s) ∧ s.size ≤ 100) := by
  obtain ⟨k, n, s⟩ := v
  have h' := of_decide_eq_true h
  have e : s.toList = [] → s = ⟨#[]⟩ := fun h => by rw [ByteArray.toList_eq] at h; exact ByteArray.ext (Array.ext' h)
  rcases h' with ⟨h1, h2, h3⟩ | ⟨h1, h3⟩ | ⟨h1, h2, h3⟩
  · left; simp at h1 h2 h3; rw [h1, h2, e h3]
  · right; left; simp at h1 h3; exact ⟨n, by rw [h1, e h3]⟩
  · right; right; simp at h1 h2 h3; exact ⟨s, by rw [h1, h2], h3⟩

def allF (l : List Val) : Bool := l.all formedV
theorem allF_take {vs : List Val} {k : Nat} (h : k < vs.length) (ha : allF (vs.take k) = true) (hf : formedV (vs.getD k noV) = true) : allF (vs.take (k + 1)) = true := by
  unfold allF at *
  rw [List.take_succ_eq_append_getElem h, List.all_append, ha]
  rw [List.getD_eq_getElem?_getD, List.getElem?_eq_getElem h] at hf
  simpa using hf
theorem allF_no {vs : List Val} {k : Nat} (h : k < vs.length) (hf : ¬ formedV (vs.getD k noV) = true) : allF vs = false := by
  unfold allF
  rw [Bool.eq_false_iff, ne_eq, List.all_eq_true]
  intro hh
  refine hf (hh _ ?_)
  rw [List.getD_eq_getElem?_getD, List.getElem?_eq_getElem h]
  exact List.getElem_mem h
theorem allF_at {vs : List Val} {k : Nat} (h : k < vs.length) (ha : allF vs = true) : formedV (vs.getD k noV) = true := by
  unfold allF at ha
  rw [List.all_eq_true] at ha
  refine ha _ ?_
  rw [List.getD_eq_getElem?_getD, List.getElem?_eq_getElem h]
  exact List.getElem_mem h

/-- the three cells of the k-th value -/
theorem IsV.at {w wr : World} {a : Option Addr} {len : Nat} {vs : List Val} (h : IsV w a len vs) (hb : RowKit.Below w.heap.size w wr) {k : Nat} (hk : k < len) :
    ∃ b off, a = some ⟨b, off, none⟩ ∧ b < w.heap.size ∧ wr.cell? ⟨b, off + k * 3, none⟩ = some (.int .i64 (vs.getD k noV).1) ∧ wr.cell? ⟨b, off + k * 3 + 1, none⟩ = some (.int .i64 (vs.getD k noV).2.1) ∧ wr.cell? ⟨b, off + k * 3 + 2, none⟩ = some (.string (vs.getD k noV).2.2) := by
  obtain ⟨_, _, h⟩ := h
  rcases h with h | ⟨b, off, rfl, hlt, hc⟩
  · omega
  · refine ⟨b, off, rfl, hlt, ?_⟩
    rw [hb.cell (p := ⟨b, off + k * 3, none⟩) hlt, hb.cell (p := ⟨b, off + k * 3 + 1, none⟩) hlt, hb.cell (p := ⟨b, off + k * 3 + 2, none⟩) hlt]
    exact hc k hk

theorem okV_all {vs : List Val} (ha : allF vs = true) (hr : ∀ v ∈ vs, -9223372036854775808 ≤ v.2.1 ∧ v.2.1 ≤ 9223372036854775807) : ∀ v ∈ vs, okV v := by
  intro v hv
  unfold allF at ha
  rw [List.all_eq_true] at ha
  exact ⟨ha v hv, hr v hv⟩
theorem okV_no : okV noV := ⟨formed_null, by simp [noV], by simp [noV]⟩
/-- the three cells of a value's box -/
def Box (w : World) (b : Nat) (x : Val) : Prop := w.cell? ⟨b, 0, none⟩ = some (.int .i64 x.1) ∧ w.cell? ⟨b, 1, none⟩ = some (.int .i64 x.2.1) ∧ w.cell? ⟨b, 2, none⟩ = some (.string x.2.2)
theorem Box.grown {w w' : World} {b : Nat} {x : Val} {row : Option Nat} (h : Box w b x) (hg : w.grownBy w' row) (hne : some b ≠ row) : Box w' b x :=
  ⟨hg.cell h.1 hne, hg.cell h.2.1 hne, hg.cell h.2.2 hne⟩
theorem Box.below {w w' : World} {b : Nat} {x : Val} (h : Box w b x) (hb : RowKit.Below w.heap.size w w') : Box w' b x :=
  ⟨cell_later hb h.1, cell_later hb h.2.1, cell_later hb h.2.2⟩
end Go.Proofs.Ytafhgilikcablaa
