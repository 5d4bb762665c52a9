/- What node's reader has read so far: rows of the call's own. -/
import Derived.Test.YtbcjhngpcodaoaaDoorNdRd
import Derived.Test.YtbcjhngpcodaoaaDoorApp2
namespace Go.Proofs.YtbcjhngpcodaoaaDoor
open Go.RowKit
set_option linter.unusedVariables false

theorem nd_block {W : World} {B n size : Nat} {e : TypeId} {v : Value} {xs : List Value} (h : W.ownsRow B e size v n xs) {g : Nat} (hg : v.ownBlock = some g) : ∃ cur, W.heap[g]? = some (.cells cur e (0, 0)) := by
  rcases h.2 with ⟨rfl, _⟩ | ⟨g', cap, cur, rfl, _, hgg, _⟩
  · cases hg
  · have : g' = g := by simpa [Value.ownBlock] using hg
    subst this
    exact ⟨cur, hgg⟩
/-- every block of bytes stays -/
def Keep8 (w w' : World) : Prop := ∀ (k : Nat) (cs : Array Value), w.heap[k]? = some (.cells cs 5 (0, 0)) → w'.heap[k]? = some (.cells cs 5 (0, 0))
theorem keep8_below {w w' : World} (h : Below w.heap.size w w') : Keep8 w w' := fun k cs e => (h.block k (Array.getElem?_eq_some_iff.1 e).1).trans e
theorem keep8_grown {w w' : World} {row : Option Nat} (h : w.grownBy w' row) (hr : ∀ K, row = some K → ∀ cs, w.heap[K]? ≠ some (.cells cs 5 (0, 0))) : Keep8 w w' := fun k cs e =>
  (h.block k (Array.getElem?_eq_some_iff.1 e).1 (fun e2 => hr k e2.symm cs e)).trans e
/-- a slice of bytes of the call's own, or nil -/
def El (w : World) (a : Option Addr) (L c : Nat) (d : List Int) : Prop :=
  IsB w a L d ∧ (a = none → L = 0 ∧ c = 0) ∧ ∀ x, a = some x → ∃ cs, w.heap[x.block]? = some (.cells cs 5 (0, 0))
theorem El.keep {w w' : World} {a : Option Addr} {L c : Nat} {d : List Int} (h : El w a L c d) (hk : Keep8 w w') : El w' a L c d := by
  obtain ⟨⟨h1, h2, h3, h4⟩, h5, h6⟩ := h
  refine ⟨⟨h1, h2, ?_, h4⟩, h5, fun x hx => ?_⟩
  · rcases h3 with h3 | ⟨b, off, rfl, hc⟩
    · exact .inl h3
    · obtain ⟨cs, hcs⟩ := h6 _ rfl
      refine .inr ⟨b, off, rfl, fun i hi => ?_⟩
      rw [World.cell?_of_block (w' := w') (w := w) (by rw [hk b cs hcs]; exact hcs.symm)]
      exact hc i hi
  · obtain ⟨cs, hcs⟩ := h6 x hx
    exact ⟨cs, hk _ _ hcs⟩
theorem El.of {w : World} {B : Nat} {v : Value} {d : List Int} (h : w.ownsRow B 5 1 v d.length (d.map (Value.int .u8))) (hr : ∀ z ∈ d, 0 ≤ z ∧ z ≤ 255) : ∃ a L c, v = .slice a L c ∧ El w a L c d := by
  obtain ⟨a, L, c, rfl, hL, hI, _, hn, _, _⟩ := own_any h hr
  refine ⟨a, L, c, rfl, hI, hn, fun x hx => ?_⟩
  rcases h.2 with ⟨he, _⟩ | ⟨g, cap, cur, he, _, hg, _⟩
  · cases he; cases hx
  · cases he; cases hx
    exact ⟨cur, hg⟩
/-- a row of slices of bytes of the call's own -/
def SS (w : World) (B : Nat) (v : Value) (ds : List (List Int)) (xs : List Value) : Prop :=
  w.ownsRow B 29 1 v ds.length xs ∧ xs.length = ds.length ∧ ∀ i, i < ds.length → ∃ a L c, xs[i]? = some (.slice a L c) ∧ El w a L c (ds.getD i [])
theorem SS.nil (w : World) (B : Nat) : SS w B (.slice none 0 0) [] [] := ⟨World.ownsRow_nil _ _ _ _, rfl, fun i hi => absurd hi (Nat.not_lt_zero _)⟩
theorem SS.keep {w w' : World} {B : Nat} {v : Value} {ds : List (List Int)} {xs : List Value} (h : SS w B v ds xs) (hk : Keep8 w w') (ho : w'.ownsRow B 29 1 v ds.length xs) : SS w' B v ds xs :=
  ⟨ho, h.2.1, fun i hi => by obtain ⟨a, L, c, h1, h2⟩ := h.2.2 i hi; exact ⟨a, L, c, h1, h2.keep hk⟩⟩
theorem SS.app {w w' : World} {B : Nat} {v v' : Value} {ds : List (List Int)} {xs : List Value} {a : Option Addr} {L c : Nat} {d : List Int} (h : SS w B v ds xs) (hk : Keep8 w w') (he : El w a L c d) (ho : w'.ownsRow B 29 1 v' (ds.length + 1) (xs ++ [.slice a L c])) : SS w' B v' (ds ++ [d]) (xs ++ [.slice a L c]) := by
  refine ⟨by simpa using ho, by simp [h.2.1], fun i hi => ?_⟩
  rcases Nat.lt_or_ge i ds.length with hi' | hi'
  · obtain ⟨a', L', c', h1, h2⟩ := h.2.2 i hi'
    refine ⟨a', L', c', ?_, ?_⟩
    · rw [List.getElem?_append_left (by rw [h.2.1]; exact hi')]; exact h1
    · rw [List.getD_eq_getElem?_getD, List.getElem?_append_left hi', ← List.getD_eq_getElem?_getD]
      exact h2.keep hk
  · have hi2 : i = ds.length := by simp at hi; omega
    subst hi2
    refine ⟨a, L, c, ?_, ?_⟩
    · rw [List.getElem?_append_right (by rw [h.2.1]; exact Nat.le_refl _), h.2.1]; simp
    · rw [List.getD_eq_getElem?_getD, List.getElem?_append_right (Nat.le_refl _)]
      simp only [Nat.sub_self, List.getElem?_cons_zero, Option.getD_some]
      exact he.keep hk
theorem SS.isBs {w : World} {B : Nat} {v : Value} {ds : List (List Int)} {xs : List Value} (h : SS w B v ds xs) : ∃ a L c, v = .slice a L c ∧ L ≤ c ∧ IsBs w a L ds ∧ (a = none → L = 0 ∧ c = 0) := by
  obtain ⟨h1, h2, h3⟩ := h
  rcases h1.2 with ⟨rfl, h0⟩ | ⟨g, cap, cur, rfl, hB, hg, hn, hm, hs, ht⟩
  · refine ⟨none, 0, 0, rfl, Nat.le_refl _, ⟨by omega, by omega, .inl rfl⟩, fun _ => ⟨rfl, rfl⟩⟩
  · unfold maxLen at hm
    refine ⟨_, _, _, rfl, hn, ⟨rfl, by omega, .inr ⟨g, 0, rfl, (Array.getElem?_eq_some_iff.1 hg).1, fun i hi => ?_⟩⟩, fun h => by cases h⟩
    obtain ⟨a, L, c, k1, k2, k3, k4⟩ := h3 i hi
    refine ⟨a, L, c, ?_, k2, k3, fun x hx hy => ?_⟩
    · rw [Nat.zero_add, h1.cellAt i (by omega)]
      exact k1
    · obtain ⟨cs, hcs⟩ := k4 x hy
      exact (Array.getElem?_eq_some_iff.1 hcs).1

/-- a node's three rows -/
structure Nr (w : World) (B : Nat) (v1 v2 v3 : Value) (ks vs : List (List Int)) (is : List Int) (xs ys : List Value) : Prop where
  o1 : SS w B v1 ks xs
  o2 : SS w B v2 vs ys
  o3 : w.ownsRow B 3 1 v3 is.length (is.map (Value.int .i64))
  ne : ∀ K, v1.ownBlock = some K → v2.ownBlock ≠ some K
theorem Nr.nil (w : World) (B : Nat) : Nr w B (.slice none 0 0) (.slice none 0 0) (.slice none 0 0) [] [] [] [] [] :=
  ⟨SS.nil _ _, SS.nil _ _, World.ownsRow_nil _ _ _ _, fun K h => by cases h⟩
theorem Nr.below {w w' : World} {B : Nat} {v1 v2 v3 : Value} {ks vs : List (List Int)} {is : List Int} {xs ys : List Value} (h : Nr w B v1 v2 v3 ks vs is xs ys) (hb : Below w.heap.size w w') : Nr w' B v1 v2 v3 ks vs is xs ys :=
  ⟨h.o1.keep (keep8_below hb) (own_below h.o1.1 hb), h.o2.keep (keep8_below hb) (own_below h.o2.1 hb), own_below h.o3 hb, h.ne⟩
theorem own_not {w : World} {B : Nat} {e : TypeId} {size : Nat} {v : Value} {n : Nat} {xs : List Value} (h : w.ownsRow B e size v n xs) {R : Nat} (hR : R < B) : v.ownBlock = none ∨ v.ownBlock ≠ some R := by
  right; intro e; have := (h.lt R e).1; omega
/-- a box below the rows is stored to -/
theorem Nr.grown {w w' : World} {B R : Nat} {v1 v2 v3 : Value} {ks vs : List (List Int)} {is : List Int} {xs ys : List Value} (h : Nr w B v1 v2 v3 ks vs is xs ys) (hg : w.grownBy w' (some R)) (hR : R < B) {cs : Array Value} {T : TypeId} (hb : w.heap[R]? = some (.cells cs T (0, 0))) (hT : T ≠ 5) : Nr w' B v1 v2 v3 ks vs is xs ys := by
  have hk : Keep8 w w' := keep8_grown hg (fun K hK cs' e => by
    cases hK
    rw [hb] at e
    simp only [Option.some.injEq, Obj.cells.injEq] at e
    exact hT e.2.1)
  exact ⟨h.o1.keep hk (h.o1.1.kept hg (own_not h.o1.1 hR)), h.o2.keep hk (h.o2.1.kept hg (own_not h.o2.1 hR)), h.o3.kept hg (own_not h.o3 hR), h.ne⟩
theorem keep8_own {w w' : World} {B n size : Nat} {e : TypeId} {v : Value} {xs : List Value} (h : w.ownsRow B e size v n xs) (he : e ≠ 5) (hg : w.grownBy w' v.ownBlock) : Keep8 w w' :=
  keep8_grown hg (fun K hK cs e2 => by
    obtain ⟨cur, hc⟩ := nd_block h hK
    rw [e2] at hc
    simp only [Option.some.injEq, Obj.cells.injEq] at hc
    exact he hc.2.1.symm)
theorem own_other {w : World} {B B' n m size size' : Nat} {e e' : TypeId} {v v' : Value} {xs xs' : List Value} (h : w.ownsRow B e size v n xs) (h' : w.ownsRow B' e' size' v' m xs') (hne : e ≠ e') : v.ownBlock = none ∨ v.ownBlock ≠ v'.ownBlock := by
  by_cases hn : v.ownBlock = none
  · exact .inl hn
  · right
    intro e2
    obtain ⟨K, hK⟩ := Option.ne_none_iff_exists'.1 hn
    obtain ⟨c1, h1⟩ := nd_block h hK
    obtain ⟨c2, h2⟩ := nd_block h' (e2 ▸ hK)
    rw [h1] at h2
    simp only [Option.some.injEq, Obj.cells.injEq] at h2
    exact hne h2.2.1
theorem ne_flip {v1 v2 : Value} (h : ∀ K, v1.ownBlock = some K → v2.ownBlock ≠ some K) : v2.ownBlock = none ∨ v2.ownBlock ≠ v1.ownBlock := by
  by_cases hn : v2.ownBlock = none
  · exact .inl hn
  · right
    intro e
    obtain ⟨K, hK⟩ := Option.ne_none_iff_exists'.1 hn
    exact h K (by rw [← e, hK]) hK
theorem ne_flip1 {v1 v2 : Value} (h : ∀ K, v1.ownBlock = some K → v2.ownBlock ≠ some K) : v1.ownBlock = none ∨ v1.ownBlock ≠ v2.ownBlock := by
  by_cases hn : v1.ownBlock = none
  · exact .inl hn
  · right
    intro e
    obtain ⟨K, hK⟩ := Option.ne_none_iff_exists'.1 hn
    exact h K hK (by rw [← e, hK])
theorem Nr.app1 {w w' : World} {B g cap : Nat} {v1 v2 v3 : Value} {ks vs : List (List Int)} {is : List Int} {xs ys : List Value} {a : Option Addr} {L c : Nat} {d : List Int} (h : Nr w B v1 v2 v3 ks vs is xs ys) (he : El w a L c d) (hg : w.grownBy w' v1.ownBlock) (hor : v1.ownBlock = some g ∨ g = w.heap.size)
    (ho : w'.ownsRow B 29 1 (.slice (some ⟨g, 0, none⟩) (ks.length + 1) cap) (ks.length + 1) (xs ++ [.slice a L c])) : Nr w' B (.slice (some ⟨g, 0, none⟩) (ks.length + 1) cap) v2 v3 (ks ++ [d]) vs is (xs ++ [.slice a L c]) ys := by
  have hk := keep8_own h.o1.1 (by decide) hg
  refine ⟨h.o1.app hk he ho, h.o2.keep hk (h.o2.1.kept hg (ne_flip h.ne)), h.o3.kept hg (own_other h.o3 h.o1.1 (by decide)), fun K hK e => ?_⟩
  have hgK : g = K := by simpa [Value.ownBlock] using hK
  subst hgK
  rcases hor with h1 | h1
  · exact h.ne g h1 e
  · have := (h.o2.1.lt g e).2; omega
theorem Nr.app2 {w w' : World} {B g cap : Nat} {v1 v2 v3 : Value} {ks vs : List (List Int)} {is : List Int} {xs ys : List Value} {a : Option Addr} {L c : Nat} {d : List Int} (h : Nr w B v1 v2 v3 ks vs is xs ys) (he : El w a L c d) (hg : w.grownBy w' v2.ownBlock) (hor : v2.ownBlock = some g ∨ g = w.heap.size)
    (ho : w'.ownsRow B 29 1 (.slice (some ⟨g, 0, none⟩) (vs.length + 1) cap) (vs.length + 1) (ys ++ [.slice a L c])) : Nr w' B v1 (.slice (some ⟨g, 0, none⟩) (vs.length + 1) cap) v3 ks (vs ++ [d]) is xs (ys ++ [.slice a L c]) := by
  have hk := keep8_own h.o2.1 (by decide) hg
  refine ⟨h.o1.keep hk (h.o1.1.kept hg (ne_flip1 h.ne)), h.o2.app hk he ho, h.o3.kept hg (own_other h.o3 h.o2.1 (by decide)), fun K hK e => ?_⟩
  have hgK : g = K := by simpa [Value.ownBlock] using e
  subst hgK
  rcases hor with h1 | h1
  · exact h.ne g hK h1
  · have := (h.o1.1.lt g hK).2; omega
theorem Nr.app3 {w w' : World} {B g cap : Nat} {v1 v2 v3 : Value} {ks vs : List (List Int)} {is : List Int} {xs ys : List Value} {z : Int} (h : Nr w B v1 v2 v3 ks vs is xs ys) (hg : w.grownBy w' v3.ownBlock)
    (ho : w'.ownsRow B 3 1 (.slice (some ⟨g, 0, none⟩) (is.length + 1) cap) (is.length + 1) (is.map (Value.int .i64) ++ [.int .i64 z])) : Nr w' B v1 v2 (.slice (some ⟨g, 0, none⟩) (is.length + 1) cap) ks vs (is ++ [z]) xs ys := by
  have hk := keep8_own h.o3 (by decide) hg
  exact ⟨h.o1.keep hk (h.o1.1.kept hg (own_other h.o1.1 h.o3 (by decide))), h.o2.keep hk (h.o2.1.kept hg (own_other h.o2.1 h.o3 (by decide))), by simpa using ho, h.ne⟩
end Go.Proofs.YtbcjhngpcodaoaaDoor
