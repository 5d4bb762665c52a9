/- Where a column stands among columns, a table among tables: the program's IndexFunc, the document's position and Find. -/
import Derived.Test.YtafhgilikcablaaEt
import Derived.Test.YtafhgilikcablaaProg
import Derived.Test.YtafhgilikcablaaIns
import Derived.Deep.Upon
import Derived.Deep.AppendSrc
import Derived.Laws.IdiomCopy
import Derived.Deep.DeepCutAuto
namespace Go.Proofs.Ytafhgilikcablaa
open Go.ChangeShapes Go.WideShapes Go.Deep Go.RowKit
set_option linter.unusedVariables false
set_option linter.unusedSimpArgs false

/-- a column -/
structure CO where
  name : ByteArray
  kind : Int
  nn : Bool
  un : Bool
/-- a table -/
structure TB where
  name : ByteArray
  view : Bool
  cols : List CO
def coX (c : CO) : List Value := [.string c.name, .int .i64 c.kind, .bool c.nn, .bool c.un]
structure COAt (w : World) (b o : Nat) (c : CO) : Prop where
  c0 : w.cell? ⟨b, o, none⟩ = some (.string c.name)
  c1 : w.cell? ⟨b, o + 1, none⟩ = some (.int .i64 c.kind)
  c2 : w.cell? ⟨b, o + 2, none⟩ = some (.bool c.nn)
  c3 : w.cell? ⟨b, o + 3, none⟩ = some (.bool c.un)
/-- a slice of columns -/
def ColsAt (w : World) (a : Option Addr) (l : List CO) : Prop := l = [] ∨ ∃ b off, a = some ⟨b, off, none⟩ ∧ b < w.heap.size ∧ ∀ i (h : i < l.length), COAt w b (off + i * 4) (l[i])
structure TBAt (w : World) (b o : Nat) (t : TB) (ca : Option Addr) (cc : Nat) : Prop where
  c0 : w.cell? ⟨b, o, none⟩ = some (.string t.name)
  c1 : w.cell? ⟨b, o + 1, none⟩ = some (.bool t.view)
  c2 : w.cell? ⟨b, o + 2, none⟩ = some (.slice ca t.cols.length cc)
  cols : ColsAt w ca t.cols
  le : t.cols.length ≤ 9223372036854775807
/-- a slice of tables -/
def TabsAt (w : World) (a : Option Addr) (l : List TB) : Prop := l = [] ∨ ∃ b off, a = some ⟨b, off, none⟩ ∧ b < w.heap.size ∧ ∀ i (h : i < l.length), ∃ ca cc, TBAt w b (off + i * 3) (l[i]) ca cc
/-- a slice of numbers -/
def IntsAt (w : World) (a : Option Addr) (l : List Int) : Prop := l = [] ∨ ∃ b off, a = some ⟨b, off, none⟩ ∧ b < w.heap.size ∧ ∀ i (h : i < l.length), w.cell? ⟨b, off + i, none⟩ = some (.int .i64 (l[i]))
/-- a slice of texts -/
def StrsAt (w : World) (a : Option Addr) (l : List ByteArray) : Prop := l = [] ∨ ∃ b off, a = some ⟨b, off, none⟩ ∧ b < w.heap.size ∧ ∀ i (h : i < l.length), w.cell? ⟨b, off + i, none⟩ = some (.string (l[i]))
theorem COAt.below {w w' : World} {b o : Nat} {c : CO} (h : COAt w b o c) (hlt : b < w.heap.size) (hb : Below w.heap.size w w') : COAt w' b o c :=
  ⟨(hb.cell (p := ⟨b, o, none⟩) hlt).trans h.c0, (hb.cell (p := ⟨b, o + 1, none⟩) hlt).trans h.c1, (hb.cell (p := ⟨b, o + 2, none⟩) hlt).trans h.c2, (hb.cell (p := ⟨b, o + 3, none⟩) hlt).trans h.c3⟩
theorem ColsAt.keep {w w' : World} {a : Option Addr} {l : List CO} (h : ColsAt w a l) (hb : Below w.heap.size w w') : ColsAt w' a l := by
  rcases h with h | ⟨b, off, rfl, hlt, hc⟩
  · exact .inl h
  · exact .inr ⟨b, off, rfl, Nat.lt_of_lt_of_le hlt hb.size, fun i h => (hc i h).below hlt hb⟩
theorem TBAt.below {w w' : World} {b o : Nat} {t : TB} {ca : Option Addr} {cc : Nat} (h : TBAt w b o t ca cc) (hlt : b < w.heap.size) (hb : Below w.heap.size w w') : TBAt w' b o t ca cc :=
  ⟨(hb.cell (p := ⟨b, o, none⟩) hlt).trans h.c0, (hb.cell (p := ⟨b, o + 1, none⟩) hlt).trans h.c1, (hb.cell (p := ⟨b, o + 2, none⟩) hlt).trans h.c2, h.cols.keep hb, h.le⟩
theorem TabsAt.keep {w w' : World} {a : Option Addr} {l : List TB} (h : TabsAt w a l) (hb : Below w.heap.size w w') : TabsAt w' a l := by
  rcases h with h | ⟨b, off, rfl, hlt, hc⟩
  · exact .inl h
  · exact .inr ⟨b, off, rfl, Nat.lt_of_lt_of_le hlt hb.size, fun i h => by obtain ⟨ca, cc, hh⟩ := hc i h; exact ⟨ca, cc, hh.below hlt hb⟩⟩
theorem IntsAt.keep {w w' : World} {a : Option Addr} {l : List Int} (h : IntsAt w a l) (hb : Below w.heap.size w w') : IntsAt w' a l := by
  rcases h with h | ⟨b, off, rfl, hlt, hc⟩
  · exact .inl h
  · exact .inr ⟨b, off, rfl, Nat.lt_of_lt_of_le hlt hb.size, fun i h => (hb.cell (p := ⟨b, off + i, none⟩) hlt).trans (hc i h)⟩
theorem StrsAt.keep {w w' : World} {a : Option Addr} {l : List ByteArray} (h : StrsAt w a l) (hb : Below w.heap.size w w') : StrsAt w' a l := by
  rcases h with h | ⟨b, off, rfl, hlt, hc⟩
  · exact .inl h
  · exact .inr ⟨b, off, rfl, Nat.lt_of_lt_of_le hlt hb.size, fun i h => (hb.cell (p := ⟨b, off + i, none⟩) hlt).trans (hc i h)⟩
theorem ColsAt.at {w : World} {a : Option Addr} {l : List CO} (h : ColsAt w a l) {i : Nat} (hi : i < l.length) : ∃ b off, a = some ⟨b, off, none⟩ ∧ b < w.heap.size ∧ COAt w b (off + i * 4) (l[i]) := by
  rcases h with rfl | ⟨b, off, rfl, hlt, hc⟩
  · simp at hi
  · exact ⟨b, off, rfl, hlt, hc i hi⟩
theorem TabsAt.at {w : World} {a : Option Addr} {l : List TB} (h : TabsAt w a l) {i : Nat} (hi : i < l.length) : ∃ b off ca cc, a = some ⟨b, off, none⟩ ∧ b < w.heap.size ∧ TBAt w b (off + i * 3) (l[i]) ca cc := by
  rcases h with rfl | ⟨b, off, rfl, hlt, hc⟩
  · simp at hi
  · obtain ⟨ca, cc, hh⟩ := hc i hi
    exact ⟨b, off, ca, cc, rfl, hlt, hh⟩
theorem IntsAt.at {w : World} {a : Option Addr} {l : List Int} (h : IntsAt w a l) {i : Nat} (hi : i < l.length) : ∃ b off, a = some ⟨b, off, none⟩ ∧ b < w.heap.size ∧ w.cell? ⟨b, off + i, none⟩ = some (.int .i64 (l[i])) := by
  rcases h with rfl | ⟨b, off, rfl, hlt, hc⟩
  · simp at hi
  · exact ⟨b, off, rfl, hlt, hc i hi⟩
theorem StrsAt.at {w : World} {a : Option Addr} {l : List ByteArray} (h : StrsAt w a l) {i : Nat} (hi : i < l.length) : ∃ b off, a = some ⟨b, off, none⟩ ∧ b < w.heap.size ∧ w.cell? ⟨b, off + i, none⟩ = some (.string (l[i])) := by
  rcases h with rfl | ⟨b, off, rfl, hlt, hc⟩
  · simp at hi
  · exact ⟨b, off, rfl, hlt, hc i hi⟩
/-- an element of a slice that is the call's own, numbers or texts: a row of one cell each -/
theorem own_strs {w : World} {e : TypeId} {B n cap : Nat} {a : Option Addr} {l : List ByteArray} (h : w.ownsRow B e 1 (.slice a n cap) n (l.map Value.string)) : StrsAt w a l := by
  rcases h.2 with ⟨h0, h1⟩ | ⟨g, cap', cur, h0, hB, hg, h1, h2, hsz, ht⟩
  · cases l with
    | nil => exact .inl rfl
    | cons x l => have := h.1; simp at this; omega
  · cases h0
    refine .inr ⟨g, 0, rfl, (Array.getElem?_eq_some_iff.1 hg).1, fun i hi => ?_⟩
    have hn : n = l.length := by have := h.1; simp at this; omega
    rw [Nat.zero_add, h.cellAt i (by rw [hn]; omega), List.getElem?_map, List.getElem?_eq_getElem hi]
    rfl
theorem own_ints {w : World} {e : TypeId} {B n cap : Nat} {a : Option Addr} {l : List Int} (h : w.ownsRow B e 1 (.slice a n cap) n (l.map (Value.int .i64))) : IntsAt w a l := by
  rcases h.2 with ⟨h0, h1⟩ | ⟨g, cap', cur, h0, hB, hg, h1, h2, hsz, ht⟩
  · cases l with
    | nil => exact .inl rfl
    | cons x l => have := h.1; simp at this; omega
  · cases h0
    refine .inr ⟨g, 0, rfl, (Array.getElem?_eq_some_iff.1 hg).1, fun i hi => ?_⟩
    have hn : n = l.length := by have := h.1; simp at this; omega
    rw [Nat.zero_add, h.cellAt i (by rw [hn]; omega), List.getElem?_map, List.getElem?_eq_getElem hi]
    rfl

section
variable {H : Type} {enc : TypeId × Value → H} {P : Program} {w : World} {base : Nat} {spare : Nat → Bool} {held : Bool}
theorem open_co {e : TypeId} {f0 f1 f2 f3 : Field} {fuel : Nat} {cs : List Value} {x : DataW H × List MemPlace} (he : P.underlying e = some (.struct #[f0, f1, f2, f3])) (hC : P.cellsOf e = 4)
    (o0 : f0.offset = 0) (o1 : f1.offset = 1) (o2 : f2.offset = 2) (o3 : f3.offset = 3) (k0 : P.cellsOf f0.type = 1) (k1 : P.cellsOf f1.type = 1) (k2 : P.cellsOf f2.type = 1) (k3 : P.cellsOf f3.type = 1)
    (u0 : P.underlying f0.type = some .string) (u1 : P.underlying f1.type = some (.int .i64)) (u2 : P.underlying f2.type = some .bool) (u3 : P.underlying f3.type = some .bool)
    (h : DataW.trod enc P w base spare held fuel e cs = some x) : ∃ c : CO, cs = coX c := by
  obtain ⟨ys, n', hfu, _, hcl, hyl, hf⟩ := DataW.trod_struct he h
  rw [hC] at hcl
  match cs, hcl with
  | [c0, c1, c2, c3], _ =>
    have t0 := hf 0 f0 rfl
    have t1 := hf 1 f1 rfl
    have t2 := hf 2 f2 rfl
    have t3 := hf 3 f3 rfl
    rw [o0, k0] at t0
    rw [o1, k1] at t1
    rw [o2, k2] at t2
    rw [o3, k3] at t3
    match ys, hyl with
    | [y0, y1, y2, y3], _ =>
      obtain ⟨s0, r0, _, q0⟩ := DataW.trod_string u0 (show DataW.trod enc P w base spare held n' f0.type [c0] = some y0 from t0)
      obtain ⟨a1, r1, _, q1⟩ := DataW.trod_int u1 (show DataW.trod enc P w base spare held n' f1.type [c1] = some y1 from t1)
      obtain ⟨b2, r2, _⟩ := DataW.trod_bool u2 (show DataW.trod enc P w base spare held n' f2.type [c2] = some y2 from t2)
      obtain ⟨b3, r3, _⟩ := DataW.trod_bool u3 (show DataW.trod enc P w base spare held n' f3.type [c3] = some y3 from t3)
      simp only [List.cons.injEq, and_true] at r0 r1 r2 r3
      subst r0 r1 r2 r3
      exact ⟨⟨s0, a1, b2, b3⟩, rfl⟩
/-- a slice whose elements are read, each by p -/
theorem open_sl {α : Type} [Inhabited α] {t e : TypeId} {fuel k : Nat} {v : Value} {x : DataW H × List MemPlace} (cellsX : α → List Value) (ht : P.underlying t = some (.slice e)) (hC : P.cellsOf e = k) (hk : 0 < k) (hl : ∀ y, (cellsX y).length = k) (p : α → Prop)
    (hp : ∀ n, n < fuel → ∀ cs x, DataW.trod enc P w base spare held n e cs = some x → ∃ y : α, cs = cellsX y ∧ p y)
    (h : DataW.trod enc P w base spare held fuel t [v] = some x) :
    ∃ a len cap, ∃ l : List α, v = .slice a len cap ∧ l.length = len ∧ len ≤ cap ∧ cap ≤ maxLen ∧ (a = none → len = 0 ∧ cap = 0) ∧ (l = [] ∨ ∃ b off, a = some ⟨b, off, none⟩ ∧ b < w.heap.size ∧ ∀ i (h : i < l.length), p (l[i]) ∧ ∀ j u, (cellsX (l[i]))[j]? = some u → w.cell? ⟨b, off + i * k + j, none⟩ = some u) := by
  rcases DataW.trod_slice ht h with ⟨h0, _⟩ | ⟨a, len, cap, elems, rest, n, hfu, hcs, _, hb, hle, hm, hlen, hel, _, _⟩
  · simp at h0
    subst h0
    exact ⟨none, 0, 0, [], rfl, rfl, Nat.le_refl _, Nat.zero_le _, fun _ => ⟨rfl, rfl⟩, .inl rfl⟩
  simp at hcs
  subst hcs
  have key : ∀ i, i < len → ∃ y : α, (∀ j u, (cellsX y)[j]? = some u → w.cell? (a.add (i * k + j)) = some u) ∧ p y := by
    intro i hi
    have hk' := hel i hi
    rw [List.getElem?_eq_getElem (by omega)] at hk'
    obtain ⟨cs', hc, ht'⟩ := Option.bind_eq_some_iff.1 hk'
    rw [hC] at hc
    obtain ⟨_, hcl, hat⟩ := World.cells?_some hc
    obtain ⟨y, hcs', hpy⟩ := hp n (by omega) _ _ ht'
    refine ⟨y, fun j u hu => ?_, hpy⟩
    have hj : j < k := by
      rcases Nat.lt_or_ge j k with h | h
      · exact h
      · rw [List.getElem?_eq_none (by rw [hl]; exact h)] at hu; cases hu
    have h1 := hat j (by simpa using hj)
    rw [add_add] at h1
    rw [h1, hcs']
    exact hu
  obtain ⟨F, hF⟩ := choose_lt (α := α) (p := fun i y => (∀ j u, (cellsX y)[j]? = some u → w.cell? (a.add (i * k + j)) = some u) ∧ p y) key
  refine ⟨some a, len, cap, (List.range len).map F, rfl, by simp, hle, hm, fun h => (by cases h), ?_⟩
  by_cases h0 : len = 0
  · subst h0
    exact .inl rfl
  obtain ⟨u0, hu0⟩ : ∃ u, (cellsX (F 0))[0]? = some u := ⟨_, List.getElem?_eq_getElem (by rw [hl]; exact hk)⟩
  have hspot : a.spot = none := by
    have := (hF 0 (by omega)).1 0 _ hu0
    simp [Addr.add] at this
    exact World.cell?_spot this
  obtain ⟨b, off, spot⟩ := a
  dsimp only at hspot
  subst hspot
  have hlt : b < w.heap.size := by
    have := World.block_lt_of_cell? w _ ((hF 0 (by omega)).1 0 _ hu0)
    simpa [Addr.add] using this
  refine .inr ⟨b, off, rfl, hlt, fun i hi => ?_⟩
  have hil : i < len := by simpa using hi
  rw [List.getElem_map, List.getElem_range]
  refine ⟨(hF i hil).2, fun j u hu => ?_⟩
  have := (hF i hil).1 j u hu
  rw [Addr.add_lit, ← Nat.add_assoc] at this
  exact this
theorem open_cols {t e : TypeId} {f0 f1 f2 f3 : Field} {fuel : Nat} {v : Value} {x : DataW H × List MemPlace} (ht : P.underlying t = some (.slice e)) (he : P.underlying e = some (.struct #[f0, f1, f2, f3])) (hC : P.cellsOf e = 4)
    (o0 : f0.offset = 0) (o1 : f1.offset = 1) (o2 : f2.offset = 2) (o3 : f3.offset = 3) (k0 : P.cellsOf f0.type = 1) (k1 : P.cellsOf f1.type = 1) (k2 : P.cellsOf f2.type = 1) (k3 : P.cellsOf f3.type = 1)
    (u0 : P.underlying f0.type = some .string) (u1 : P.underlying f1.type = some (.int .i64)) (u2 : P.underlying f2.type = some .bool) (u3 : P.underlying f3.type = some .bool)
    (h : DataW.trod enc P w base spare held fuel t [v] = some x) : ∃ a cap, ∃ l : List CO, v = .slice a l.length cap ∧ ColsAt w a l ∧ l.length ≤ cap ∧ cap ≤ maxLen := by
  haveI : Inhabited CO := ⟨⟨ByteArray.empty, 0, false, false⟩⟩
  obtain ⟨a, len, cap, l, rfl, hl, hle, hm, _, hh⟩ := open_sl (α := CO) coX ht hC (by decide) (fun _ => rfl) (fun _ => True) (fun n _ cs x hx => by obtain ⟨c, hc⟩ := open_co he hC o0 o1 o2 o3 k0 k1 k2 k3 u0 u1 u2 u3 hx; exact ⟨c, hc, trivial⟩) h
  subst hl
  refine ⟨a, cap, l, rfl, ?_, hle, hm⟩
  rcases hh with hh | ⟨b, off, rfl, hlt, hc⟩
  · exact .inl hh
  · exact .inr ⟨b, off, rfl, hlt, fun i hi => ⟨(hc i hi).2 0 _ rfl, (hc i hi).2 1 _ rfl, (hc i hi).2 2 _ rfl, (hc i hi).2 3 _ rfl⟩⟩
def tbX (q : TB × Option Addr × Nat) : List Value := [.string q.1.name, .bool q.1.view, .slice q.2.1 q.1.cols.length q.2.2]
theorem open_tabs {t e tc ec : TypeId} {f0 f1 f2 g0 g1 g2 g3 : Field} {fuel : Nat} {v : Value} {x : DataW H × List MemPlace} (ht : P.underlying t = some (.slice e)) (he : P.underlying e = some (.struct #[f0, f1, f2])) (hC : P.cellsOf e = 3)
    (o0 : f0.offset = 0) (o1 : f1.offset = 1) (o2 : f2.offset = 2) (k0 : P.cellsOf f0.type = 1) (k1 : P.cellsOf f1.type = 1) (k2 : P.cellsOf f2.type = 1) (u0 : P.underlying f0.type = some .string) (u1 : P.underlying f1.type = some .bool) (u2 : f2.type = tc)
    (htc : P.underlying tc = some (.slice ec)) (hec : P.underlying ec = some (.struct #[g0, g1, g2, g3])) (hCc : P.cellsOf ec = 4)
    (p0 : g0.offset = 0) (p1 : g1.offset = 1) (p2 : g2.offset = 2) (p3 : g3.offset = 3) (l0 : P.cellsOf g0.type = 1) (l1 : P.cellsOf g1.type = 1) (l2 : P.cellsOf g2.type = 1) (l3 : P.cellsOf g3.type = 1)
    (v0 : P.underlying g0.type = some .string) (v1 : P.underlying g1.type = some (.int .i64)) (v2 : P.underlying g2.type = some .bool) (v3 : P.underlying g3.type = some .bool)
    (h : DataW.trod enc P w base spare held fuel t [v] = some x) : ∃ a cap, ∃ l : List TB, v = .slice a l.length cap ∧ TabsAt w a l ∧ l.length ≤ cap ∧ cap ≤ maxLen := by
  haveI : Inhabited (TB × Option Addr × Nat) := ⟨⟨⟨ByteArray.empty, false, []⟩, none, 0⟩⟩
  obtain ⟨a, len, cap, l, rfl, hl, hle, hm, _, hh⟩ := open_sl (α := TB × Option Addr × Nat) tbX ht hC (by decide) (fun _ => rfl) (fun q => ColsAt w q.2.1 q.1.cols ∧ q.1.cols.length ≤ q.2.2 ∧ q.2.2 ≤ maxLen) (fun n _ cs x hx => by
    obtain ⟨ys, n', hfu, _, hcl, hyl, hf⟩ := DataW.trod_struct he hx
    rw [hC] at hcl
    match cs, hcl with
    | [c0, c1, c2], _ =>
      have t0 := hf 0 f0 rfl
      have t1 := hf 1 f1 rfl
      have t2 := hf 2 f2 rfl
      rw [o0, k0] at t0
      rw [o1, k1] at t1
      rw [o2, k2, u2] at t2
      match ys, hyl with
      | [y0, y1, y2], _ =>
        obtain ⟨s0, r0, _, q0⟩ := DataW.trod_string u0 (show DataW.trod enc P w base spare held n' f0.type [c0] = some y0 from t0)
        obtain ⟨b1, r1, _⟩ := DataW.trod_bool u1 (show DataW.trod enc P w base spare held n' f1.type [c1] = some y1 from t1)
        obtain ⟨a, cap, l, r2, hc, hle, hm⟩ := open_cols htc hec hCc p0 p1 p2 p3 l0 l1 l2 l3 v0 v1 v2 v3 (show DataW.trod enc P w base spare held n' tc [c2] = some y2 from t2)
        simp only [List.cons.injEq, and_true] at r0 r1
        subst r0 r1 r2
        exact ⟨(⟨s0, b1, l⟩, a, cap), rfl, hc, hle, hm⟩) h
  subst hl
  refine ⟨a, cap, l.map (·.1), by rw [List.length_map], ?_, by rw [List.length_map]; exact hle, hm⟩
  rcases hh with hh | ⟨b, off, rfl, hlt, hc⟩
  · exact .inl (by rw [hh]; rfl)
  · refine .inr ⟨b, off, rfl, hlt, fun i hi => ?_⟩
    have hi' : i < l.length := by simpa using hi
    obtain ⟨⟨q1, q2, q3⟩, hq⟩ := hc i hi'
    rw [List.getElem_map]
    exact ⟨(l[i]).2.1, (l[i]).2.2, hq 0 _ rfl, hq 1 _ rfl, hq 2 _ rfl, q1, by unfold maxLen at q3; omega⟩
end
end Go.Proofs.Ytafhgilikcablaa
namespace Go.Proofs.Ytafhgilikcablaa
open Go.RowKit
set_option linter.unusedVariables false
set_option linter.unusedSimpArgs false
set_option maxRecDepth 100000

/-- the first place where p holds; -1: nowhere -/
def posI {α : Type} (p : α → Bool) (l : List α) : Int := match l.findIdx? p with | some i => (i : Int) | none => -1
theorem posI_hit {α : Type} {p : α → Bool} {l : List α} {k : Nat} (hk : k < l.length) (h0 : (l.take k).any p = false) (h : p (l[k]) = true) : posI p l = (k : Int) := by
  have : l.findIdx? p = some k := by
    rw [List.findIdx?_eq_some_iff_getElem]
    refine ⟨hk, h, fun j hj => ?_⟩
    have h1 := List.any_eq_false.1 h0 (l[j]'(by omega)) (List.mem_take_iff_getElem.2 ⟨j, by omega, rfl⟩)
    simpa using h1
  unfold posI
  rw [this]
theorem posI_none {α : Type} {p : α → Bool} {l : List α} (h0 : l.any p = false) : posI p l = -1 := by
  have : l.findIdx? p = none := by
    rw [List.findIdx?_eq_none_iff]
    exact fun x hx => by have := List.any_eq_false.1 h0 x hx; simpa using this
  unfold posI
  rw [this]
theorem any_more {α : Type} {p : α → Bool} {l : List α} {k : Nat} (hk : k < l.length) (h0 : (l.take k).any p = false) (h : p (l[k]) = false) : (l.take (k + 1)).any p = false := by
  rw [List.take_succ_eq_append_getElem hk, List.any_append, h0]
  simp [h]
theorem posI_lt {α : Type} {p : α → Bool} {l : List α} : -1 ≤ posI p l ∧ posI p l < l.length := by
  unfold posI
  cases h : l.findIdx? p with
  | none => simp; omega
  | some i =>
    have := (List.findIdx?_eq_some_iff_getElem.1 h).1
    simp
    omega
def coP (s : ByteArray) (c : CO) : Bool := c.name.toList == s.toList
set_option maxHeartbeats 1600000 in
theorem position_any (w : World) (a : Option Addr) (l : List CO) (cap n : Nat) (hn : n = l.length) (s : ByteArray) (hl : ColsAt w a l) (hlen : l.length ≤ 9223372036854775807) :
    Calls Try.prog 137 #[.slice a n cap, .string s] w fun e w' => e = .returned (.int .i64 (posI (coP s) l)) ∧ Below w.heap.size w w' := by
  have HL := Lib.hid hl
  have HN := Lib.hid hn
  have hlen' : n ≤ 9223372036854775807 := by omega
  clear hl hlen hn
  go_enter Try.func137, Try.ntmps137
  go_wp2
  go_loopw [8] (fun i wr => ∃ (k : Nat), k ≤ n ∧ i = .int .i64 (k : Int) ∧ Hid ((l.take k).any (coP s) = false ∧ Below w.heap.size w wr)) (fun i _ => n - (intOf i).toNat)
  case atStart => exact ⟨0, by omega, rfl, Lib.hid ⟨rfl, Below.refl _ _⟩⟩
  case round =>
    obtain ⟨k, hk, rfl, HR⟩ := hrel
    have hk0 : (0 : Int) ≤ (k : Int) := by omega
    by_cases hlt : k < n
    · have hki : (k : Int) < (n : Int) := by omega
      have hkl : k < l.length := by rw [← HN.out]; exact hlt
      have HLt := Lib.hid hlt
      obtain ⟨b, off, rfl, hbl, hat⟩ := (HL.out.keep HR.out.2).at hkl
      have q0 := hat.c0
      have q1 := hat.c1
      have q2 := hat.c2
      have q3 := hat.c3
      have HP := Lib.hid (show coP s (l[k]) = true → posI (coP s) l = (k : Int) from fun h => posI_hit hkl HR.out.1 h)
      have HM := Lib.hid (show coP s (l[k]) = false → (l.take (k + 1)).any (coP s) = false from fun h => any_more hkl HR.out.1 h)
      obtain ⟨c, hc⟩ : ∃ c, c = l[k] := ⟨_, rfl⟩
      rw [← hc] at q0 q1 q2 q3 HP HM
      clear hat hc hkl hlt hk
      cases hr : coP s c with
      | true =>
        have HQ := Lib.hid (HP.out hr)
        have hr' : (c.name.toList == s.toList) = true := hr
        have HB3 := Lib.hid HR.out.2
        clear hr
        go_wp2
        go_ret
        rw [HQ.out]
        exact ⟨rfl, HB3.out⟩
      | false =>
        have HQ := Lib.hid (HM.out hr)
        have hr' : (c.name.toList == s.toList) = false := hr
        have HB3 := Lib.hid HR.out.2
        clear hr
        go_wp2
        go_roundw
        case rel => exact ⟨k + 1, HLt.out, by go_num, Lib.hid ⟨HQ.out, HB3.out⟩⟩
        case measure => have := HLt.out; simp [intOf]; omega
    · have hkk : ¬ ((k : Int) < (n : Int)) := by omega
      have HQ := Lib.hid (show posI (coP s) l = -1 from posI_none (by
        have h1 := HR.out.1
        rw [List.take_of_length_le (by rw [← HN.out]; omega)] at h1
        exact h1))
      go_wp2
      go_ret
      rw [HQ.out]
      exact ⟨rfl, HR.out.2⟩
theorem box_cell (w : World) (v : Value) (t : TypeId) {n : Nat} (h : n = w.heap.size) : (w.alloc (.cells #[v] t)).cell? ⟨n, 0, none⟩ = some v := by
  subst h
  exact cell_of_row _ _ 0 _ _ _ (Go.heap_alloc_new w _)
end Go.Proofs.Ytafhgilikcablaa
