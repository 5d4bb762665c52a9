/- What has been read so far: numbers and rows of the call's own; appended to. -/
import Derived.Test.YtbcjhngpcodaoaaJPure
import Derived.Test.YtbcjhngpcodaoaaApp2
namespace Go.Proofs.Ytbcjhngpcodaoaa
open Go.RowKit
set_option linter.unusedVariables false

theorem own_slice {w : World} {B n size : Nat} {e : TypeId} {v : Value} {xs : List Value} (h : w.ownsRow B e size v n xs) : ∃ a m c, v = .slice a m c := by
  rcases h.2 with ⟨h, _⟩ | ⟨_, _, _, h, _⟩
  · exact ⟨_, _, _, h⟩
  · exact ⟨_, _, _, h⟩
structure Got (F : Nat) (W : World) (v1 v2 : Value) (ns : List Int) (ds : List (List Int)) (xs : List Value) : Prop where
  own1 : W.ownsRow (F + 1) 3 1 v1 ns.length (ns.map (Value.int .i64))
  own2 : W.ownsRow (F + 1) 26 1 v2 ds.length xs
  len : xs.length = ds.length
  data : ∀ i, i < ds.length → ∃ g c, xs[i]? = some (.slice (some ⟨g, 0, none⟩) 512 c) ∧ IsB W (some ⟨g, 0, none⟩) 512 (ds.getD i []) ∧ F < g ∧ g < W.heap.size ∧ v1.ownBlock ≠ some g ∧ v2.ownBlock ≠ some g
  ne : ∀ K, v1.ownBlock = some K → v2.ownBlock ≠ some K
theorem Got.nil (F : Nat) (W : World) : Got F W (.slice none 0 0) (.slice none 0 0) [] [] [] :=
  ⟨World.ownsRow_nil _ _ _ _, World.ownsRow_nil _ _ _ _, rfl, fun i hi => absurd hi (Nat.not_lt_zero _), fun K h => by cases h⟩
theorem Got.below {F : Nat} {W W' : World} {v1 v2 : Value} {ns : List Int} {ds : List (List Int)} {xs : List Value} (h : Got F W v1 v2 ns ds xs) (hb : Below W.heap.size W W') : Got F W' v1 v2 ns ds xs :=
  ⟨own_below h.own1 hb, own_below h.own2 hb, h.len, fun i hi => by
    obtain ⟨g, c, h1, h2, h3, h4, h5⟩ := h.data i hi
    exact ⟨g, c, h1, h2.below hb (fun x _ hx => by cases hx; exact h4), h3, Nat.lt_of_lt_of_le h4 hb.size, h5⟩, h.ne⟩
theorem isB_kept {W w' : World} {row : Option Nat} {g n : Nat} {zs : List Int} (h : IsB W (some ⟨g, 0, none⟩) n zs) (hg : W.grownBy w' row) (hlt : g < W.heap.size) (hne : row ≠ some g) : IsB w' (some ⟨g, 0, none⟩) n zs := by
  obtain ⟨h1, h2, h3, h4⟩ := h
  refine ⟨h1, h2, ?_, h4⟩
  rcases h3 with h3 | ⟨b, off, he, hc⟩
  · exact .inl h3
  · obtain ⟨rfl, rfl⟩ : g = b ∧ 0 = off := by cases he; exact ⟨rfl, rfl⟩
    exact .inr ⟨g, 0, rfl, fun i hi => by rw [World.cell?_of_block (hg.block g hlt (fun e => hne e.symm))]; exact hc i hi⟩
theorem Got.app1 {F : Nat} {W w' : World} {v1 v2 : Value} {ns : List Int} {ds : List (List Int)} {xs : List Value} (h : Got F W v1 v2 ns ds xs) {y : Int} {g c : Nat}
    (hown : w'.ownsRow (F + 1) 3 1 (.slice (some ⟨g, 0, none⟩) (ns.length + 1) c) (ns.length + 1) (ns.map (Value.int .i64) ++ [.int .i64 y])) (hgr : W.grownBy w' v1.ownBlock) (hor : v1.ownBlock = some g ∨ g = W.heap.size) :
    Got F w' (.slice (some ⟨g, 0, none⟩) (ns.length + 1) c) v2 (ns ++ [y]) ds xs := by
  have hv2 : v2.ownBlock ≠ some g := by
    rcases hor with h1 | h1
    · exact h.ne g h1
    · intro e; have := (h.own2.lt g e).2; omega
  refine ⟨by simpa using hown, h.own2.kept hgr ?_, h.len, fun i hi => ?_, fun K hK => ?_⟩
  · by_cases hn : v2.ownBlock = none
    · exact .inl hn
    · right
      intro e
      obtain ⟨K, hK⟩ := Option.ne_none_iff_exists'.1 hn
      exact h.ne K (by rw [← e, hK]) hK
  · obtain ⟨gi, ci, h1, h2, h3, h4, h5, h6⟩ := h.data i hi
    refine ⟨gi, ci, h1, isB_kept h2 hgr h4 h5, h3, Nat.lt_of_lt_of_le h4 hgr.size, ?_, h6⟩
    show (some g : Option Nat) ≠ some gi
    intro e
    cases e
    rcases hor with h7 | h7
    · exact h5 h7
    · omega
  · have : g = K := by simpa [Value.ownBlock] using hK
    rw [← this]; exact hv2
theorem Got.app2 {F : Nat} {W w' : World} {v1 v2 : Value} {ns : List Int} {ds : List (List Int)} {xs : List Value} (h : Got F W v1 v2 ns ds xs) {d : List Int} {gd cd g c : Nat}
    (hd : IsB W (some ⟨gd, 0, none⟩) 512 d) (hF : F < gd) (hlt : gd < W.heap.size) (hn1 : v1.ownBlock ≠ some gd) (hn2 : v2.ownBlock ≠ some gd)
    (hown : w'.ownsRow (F + 1) 26 1 (.slice (some ⟨g, 0, none⟩) (ds.length + 1) c) (ds.length + 1) (xs ++ [.slice (some ⟨gd, 0, none⟩) 512 cd])) (hgr : W.grownBy w' v2.ownBlock) (hor : v2.ownBlock = some g ∨ g = W.heap.size) :
    Got F w' v1 (.slice (some ⟨g, 0, none⟩) (ds.length + 1) c) ns (ds ++ [d]) (xs ++ [.slice (some ⟨gd, 0, none⟩) 512 cd]) := by
  have hv1 : v1.ownBlock ≠ some g := by
    rcases hor with h1 | h1
    · intro e; exact h.ne g e h1
    · intro e; have := (h.own1.lt g e).2; omega
  have hl := h.len
  refine ⟨h.own1.kept hgr ?_, by simpa using hown, by simp [hl], fun i hi => ?_, fun K hK => ?_⟩
  · by_cases hn : v1.ownBlock = none
    · exact .inl hn
    · right
      intro e
      obtain ⟨K, hK⟩ := Option.ne_none_iff_exists'.1 hn
      exact h.ne K hK (by rw [← e, hK])
  · have hg' : ∀ gi, gi < W.heap.size → v2.ownBlock ≠ some gi → (Value.slice (some ⟨g, 0, none⟩) (ds.length + 1) c).ownBlock ≠ some gi := by
      intro gi hlt' hne e
      have : g = gi := by simpa [Value.ownBlock] using e
      subst this
      rcases hor with h7 | h7
      · exact hne h7
      · omega
    rcases Nat.lt_or_ge i ds.length with hi' | hi'
    · obtain ⟨gi, ci, h1, h2, h3, h4, h5, h6⟩ := h.data i hi'
      refine ⟨gi, ci, ?_, ?_, h3, Nat.lt_of_lt_of_le h4 hgr.size, h5, hg' gi h4 h6⟩
      · rw [List.getElem?_append_left (by omega)]; exact h1
      · rw [List.getD_eq_getElem?_getD, List.getElem?_append_left hi', ← List.getD_eq_getElem?_getD]
        exact isB_kept h2 hgr h4 h6
    · have hi2 : i = ds.length := by simp at hi; omega
      subst hi2
      refine ⟨gd, cd, ?_, ?_, hF, Nat.lt_of_lt_of_le hlt hgr.size, hn1, hg' gd hlt hn2⟩
      · rw [List.getElem?_append_right (by omega), hl]; simp
      · rw [List.getD_eq_getElem?_getD, List.getElem?_append_right (by omega)]
        simp only [Nat.sub_self, List.getElem?_cons_zero, Option.getD_some]
        exact isB_kept hd hgr hlt hn2
  · intro e
    have : g = K := by simpa [Value.ownBlock] using e
    subst this
    exact hv1 hK
theorem Got.app1_data {F : Nat} {W w' : World} {v1 v2 : Value} {ns : List Int} {ds : List (List Int)} {xs : List Value} (h : Got F W v1 v2 ns ds xs) {d : List Int} {gd g m c : Nat}
    (hd : IsB W (some ⟨gd, 0, none⟩) 512 d) (hlt : gd < W.heap.size) (hn1 : v1.ownBlock ≠ some gd) (hgr : W.grownBy w' v1.ownBlock) (hor : v1.ownBlock = some g ∨ g = W.heap.size) :
    IsB w' (some ⟨gd, 0, none⟩) 512 d ∧ gd < w'.heap.size ∧ (Value.slice (some ⟨g, 0, none⟩) m c).ownBlock ≠ some gd := by
  refine ⟨isB_kept hd hgr hlt hn1, Nat.lt_of_lt_of_le hlt hgr.size, fun e => ?_⟩
  have : g = gd := by simpa [Value.ownBlock] using e
  subst this
  rcases hor with h7 | h7
  · exact hn1 h7
  · omega
/-- the boxes up to F stay where a row of the call's own is appended to -/
def Kept (F : Nat) (w wr W : World) : Prop := (∀ K, K ≤ F → W.heap[K]? = wr.heap[K]?) ∧ Below w.heap.size w W ∧ F < W.heap.size
theorem Kept.start {F : Nat} {w wr : World} (hB : Below w.heap.size w wr) (hF : F < wr.heap.size) : Kept F w wr wr := ⟨fun _ _ => rfl, hB, hF⟩
theorem Kept.below {F : Nat} {w wr W W' : World} (h : Kept F w wr W) (hb : Below W.heap.size W W') : Kept F w wr W' :=
  ⟨fun K hK => (hb.block K (Nat.lt_of_le_of_lt hK h.2.2)).trans (h.1 K hK), bt h.2.1 hb, Nat.lt_of_lt_of_le h.2.2 hb.size⟩
theorem Kept.app {F : Nat} {w wr W W' : World} {row : Option Nat} (h : Kept F w wr W) (hwF : w.heap.size ≤ F) (hgr : W.grownBy W' row) (hrow : ∀ K, row = some K → F < K) : Kept F w wr W' :=
  ⟨fun K hK => (hgr.block K (Nat.lt_of_le_of_lt hK h.2.2) (fun e => by have := hrow K e.symm; omega)).trans (h.1 K hK), h.2.1.grown hgr (by have := h.2.2; omega) (fun K hK => by have := hrow K hK; omega), Nat.lt_of_lt_of_le h.2.2 hgr.size⟩
theorem Got.row1 {F : Nat} {W : World} {v1 v2 : Value} {ns : List Int} {ds : List (List Int)} {xs : List Value} (h : Got F W v1 v2 ns ds xs) : ∀ K, v1.ownBlock = some K → F < K := fun K hK => (h.own1.lt K hK).1
theorem Got.row2 {F : Nat} {W : World} {v1 v2 : Value} {ns : List Int} {ds : List (List Int)} {xs : List Value} (h : Got F W v1 v2 ns ds xs) : ∀ K, v2.ownBlock = some K → F < K := fun K hK => (h.own2.lt K hK).1
/-- .. handed back -/
theorem Got.found {F B : Nat} {W : World} {v1 v2 : Value} {s p : Int} {ns : List Int} {ds : List (List Int)} {xs : List Value} (h : Got F W v1 v2 ns ds xs) (hB : B ≤ F) : FoundIs W B (.agg #[.int .u64 s, .int .i64 p, v1, v2]) s p ns ds :=
  ⟨v1, v2, xs, rfl, ownsRow_base h.own1 (by omega), ownsRow_base h.own2 (by omega), h.len, fun i hi => by
    obtain ⟨g, c, h1, h2, h3, h4, _⟩ := h.data i hi
    exact ⟨g, c, h1, h2, by omega, h4⟩⟩
theorem Got.n2 {F : Nat} {W : World} {v1 v2 : Value} {ns : List Int} {ds : List (List Int)} {xs : List Value} (h : Got F W v1 v2 ns ds xs) {K : Nat} (hK : W.heap.size ≤ K ∨ K ≤ F) : v1.ownBlock ≠ some K ∧ v2.ownBlock ≠ some K := by
  constructor
  · intro e; have := h.own1.lt K e; omega
  · intro e; have := h.own2.lt K e; omega
theorem grown_set (w : World) (F j : Nat) (v : Value) : w.grownBy (w.setCell ⟨F, j, none⟩ v) (some F) :=
  have hb := (Below.refl 0 w).setCell (p := ⟨F, j, none⟩) (Nat.zero_le _) v
  ⟨hb.os, hb.tape, hb.output, hb.size, fun k hk hne => heap_setCell_other _ _ _ _ (fun e => hne (by rw [e]))⟩
theorem Got.setK {F : Nat} {W : World} {v1 v2 : Value} {ns : List Int} {ds : List (List Int)} {xs : List Value} (h : Got F W v1 v2 ns ds xs) {K : Nat} (hK : K ≤ F) (j : Nat) (v : Value) : Got F (W.setCell ⟨K, j, none⟩ v) v1 v2 ns ds xs := by
  have hg := grown_set W K j v
  refine ⟨h.own1.kept hg (.inr (h.n2 (.inr hK)).1), h.own2.kept hg (.inr (h.n2 (.inr hK)).2), h.len, fun i hi => ?_, h.ne⟩
  obtain ⟨g, c, h1, h2, h3, h4, h5⟩ := h.data i hi
  exact ⟨g, c, h1, isB_kept h2 hg h4 (fun e => by cases e; omega), h3, by simpa using h4, h5⟩
theorem Got.set {F : Nat} {W : World} {v1 v2 : Value} {ns : List Int} {ds : List (List Int)} {xs : List Value} (h : Got F W v1 v2 ns ds xs) (j : Nat) (v : Value) : Got F (W.setCell ⟨F, j, none⟩ v) v1 v2 ns ds xs := h.setK (Nat.le_refl _) j v
end Go.Proofs.Ytbcjhngpcodaoaa
