/- The document's bag in memory; what is written beside rows leaves them. -/
import Derived.Test.YtplgkblahmndoaaBrJn
import Derived.Test.YtplgkblahmndoaaBoEs
import Derived.Test.YtplgkblahmndoaaRow2
import Derived.Laws.AppendOwnNone
namespace Go.Proofs.Ytplgkblahmndoaa
open Go.RowKit
set_option linter.unusedVariables false
set_option maxRecDepth 100000

def noE : EntD := ⟨none, 0, 0, [], 0⟩
def entOf (x : EntD) : Ent := (x.rv, x.n)
def entX (x : EntD) : List Value := [.slice x.ra x.rl x.rc, .int .i64 x.n]
/-- all cells of entries -/
def flatE (S : List EntD) : List Value := S.flatMap entX
theorem flatE_length (S : List EntD) : (flatE S).length = S.length * 2 := by
  unfold flatE
  induction S with
  | nil => rfl
  | cons v r ih => rw [List.flatMap_cons, List.length_append, ih]; simp [entX]; omega
theorem flatE_append (S T : List EntD) : flatE (S ++ T) = flatE S ++ flatE T := by simp [flatE]
theorem flatE_one (S : List EntD) : ∀ u ∈ flatE S, u.oneCell' = true := fun u hu => by
  unfold flatE at hu
  obtain ⟨v, _, hv⟩ := List.mem_flatMap.1 hu
  simp [entX] at hv
  rcases hv with rfl | rfl <;> rfl
theorem flatE_get : ∀ (S : List EntD) (i : Nat), i < S.length → (flatE S)[i * 2]? = some (.slice (S.getD i noE).ra (S.getD i noE).rl (S.getD i noE).rc) ∧ (flatE S)[i * 2 + 1]? = some (.int .i64 (S.getD i noE).n)
  | [], i, h => by simp at h
  | v :: r, 0, h => by simp [flatE, entX]
  | v :: r, i + 1, h => by
    obtain ⟨h1, h2⟩ := flatE_get r i (by simp at h; omega)
    have e : flatE (v :: r) = entX v ++ flatE r := by simp [flatE]
    have hl : (entX v).length = 2 := rfl
    rw [e]
    refine ⟨?_, ?_⟩
    · rw [List.getElem?_append_right (by omega), hl, show (i + 1) * 2 - 2 = i * 2 by omega, h1]; simp
    · rw [List.getElem?_append_right (by omega), hl, show (i + 1) * 2 + 1 - 2 = i * 2 + 1 by omega, h2]; simp
theorem flatE_at (S : List EntD) (j : Nat) (u : Value) (h : (flatE S)[j]? = some u) : j / 2 < S.length ∧ (j % 2 = 0 ∧ u = .slice (S.getD (j / 2) noE).ra (S.getD (j / 2) noE).rl (S.getD (j / 2) noE).rc ∨ j % 2 = 1 ∧ u = .int .i64 (S.getD (j / 2) noE).n) := by
  have hj := (List.getElem?_eq_some_iff.1 h).1
  rw [flatE_length] at hj
  have hi : j / 2 < S.length := by omega
  obtain ⟨h1, h2⟩ := flatE_get S (j / 2) hi
  refine ⟨hi, ?_⟩
  have hm : j % 2 = 0 ∨ j % 2 = 1 := by omega
  rcases hm with e | e
  · rw [show j / 2 * 2 = j by omega, h] at h1
    exact .inl ⟨e, Option.some.inj h1⟩
  · rw [show j / 2 * 2 + 1 = j by omega, h] at h2
    exact .inr ⟨e, Option.some.inj h2⟩
/-- an entry's row lies there -/
structure RowE (w : World) (x : EntD) : Prop where
  row : IsV w x.ra x.rl x.rv
  rg : ∀ v ∈ x.rv, -9223372036854775808 ≤ v.2.1 ∧ v.2.1 ≤ 9223372036854775807
  nil : x.ra = none → x.rl = 0 ∧ x.rc = 0
  num : -9223372036854775808 ≤ x.n ∧ x.n ≤ 9223372036854775807
/-- a list of entries in memory -/
def IsS (w : World) (a : Option Addr) (l : Nat) (S : List EntD) : Prop := S.length = l ∧ IsEs w a l (fun i => S.getD i noE)
theorem IsS.below {w w' : World} {a : Option Addr} {l : Nat} {S : List EntD} (h : IsS w a l S) (hb : Below w.heap.size w w') : IsS w' a l S := ⟨h.1, h.2.below hb⟩
theorem RowE.below {w w' : World} {x : EntD} (h : RowE w x) (hb : Below w.heap.size w w') : RowE w' x := ⟨h.row.below hb, h.rg, h.nil, h.num⟩
theorem EsAt.rowE {w : World} {b o : Nat} {x : EntD} (h : EsAt w b o x) : RowE w x := ⟨h.row, h.rg, h.nil, h.num⟩
theorem IsS.nil (w : World) (a : Option Addr) : IsS w a 0 [] := ⟨rfl, by omega, .inl rfl⟩
theorem getD_mem {S : List EntD} {i : Nat} (h : i < S.length) : S.getD i noE ∈ S := by
  rw [List.getD_eq_getElem?_getD, List.getElem?_eq_getElem h]
  exact List.getElem_mem h
theorem IsS.rows {w : World} {a : Option Addr} {l : Nat} {S : List EntD} (h : IsS w a l S) : ∀ x ∈ S, RowE w x := by
  intro x hx
  obtain ⟨i, hi, rfl⟩ := List.getElem_of_mem hx
  rcases h.2.2 with h0 | ⟨b, off, _, _, hc⟩
  · have := h.1; omega
  · have h1 : RowE w (S.getD i noE) := (hc i (by have := h.1; omega)).rowE
    have h2 : S.getD i noE = S[i] := by rw [List.getD_eq_getElem?_getD, List.getElem?_eq_getElem hi]; rfl
    rw [h2] at h1
    exact h1
theorem IsS.cells {w : World} {b off l : Nat} {S : List EntD} (h : IsS w (some ⟨b, off, none⟩) l S) : ∀ j u, (flatE S)[j]? = some u → w.cell? ((⟨b, off, none⟩ : Addr).add j) = some u := by
  intro j u hu
  obtain ⟨hi, hu⟩ := flatE_at S j u hu
  rcases h.2.2 with h0 | ⟨b', off', he, _, hc⟩
  · have := h.1; omega
  · cases he
    have hx := hc (j / 2) (by have := h.1; omega)
    rw [Addr.add_lit]
    rcases hu with ⟨e, rfl⟩ | ⟨e, rfl⟩
    · rw [show off + j = off + j / 2 * 2 by omega]
      exact hx.c0
    · rw [show off + j = off + j / 2 * 2 + 1 by omega]
      exact hx.c1
theorem IsS.of_cells {w : World} {b off l : Nat} {S : List EntD} (hl : S.length = l) (hm : l ≤ 9223372036854775807) (hb : b < w.heap.size) (hc : ∀ j u, (flatE S)[j]? = some u → w.cell? ⟨b, off + j, none⟩ = some u) (hr : ∀ x ∈ S, RowE w x) : IsS w (some ⟨b, off, none⟩) l S := by
  refine ⟨hl, hm, .inr ⟨b, off, rfl, hb, fun i hi => ?_⟩⟩
  obtain ⟨h1, h2⟩ := flatE_get S i (by omega)
  have hx := hr _ (getD_mem (S := S) (i := i) (by omega))
  exact ⟨hc _ _ h1, by have := hc _ _ h2; rwa [← Nat.add_assoc] at this, hx.row, hx.rg, hx.nil, hx.num⟩
theorem IsS.take {w : World} {a : Option Addr} {l i : Nat} {S : List EntD} (h : IsS w a l S) (hi : i ≤ l) : IsS w a i (S.take i) := by
  have h1 := h.1
  have h2 := h.2.1
  refine ⟨by simp; omega, by omega, ?_⟩
  rcases h.2.2 with h0 | ⟨b, off, rfl, hb, hc⟩
  · exact .inl (by omega)
  · refine .inr ⟨b, off, rfl, hb, fun j hj => ?_⟩
    have := hc j (by omega)
    have e : (S.take i).getD j noE = S.getD j noE := by
      rw [List.getD_eq_getElem?_getD, List.getD_eq_getElem?_getD, List.getElem?_take, if_pos hj]
    show EsAt w b (off + j * 2) ((S.take i).getD j noE)
    rw [e]; exact this
theorem IsS.drop {w : World} {b off l i : Nat} {S : List EntD} (h : IsS w (some ⟨b, off, none⟩) l S) (hi : i ≤ l) : IsS w (some ⟨b, off + i * 2, none⟩) (l - i) (S.drop i) := by
  have h1 := h.1
  have h2 := h.2.1
  refine ⟨by simp; omega, by omega, ?_⟩
  rcases h.2.2 with h0 | ⟨b', off', he, hb, hc⟩
  · exact .inl (by omega)
  · cases he
    refine .inr ⟨b, off + i * 2, rfl, hb, fun j hj => ?_⟩
    have := hc (i + j) (by omega)
    have e : (S.drop i).getD j noE = S.getD (i + j) noE := by
      rw [List.getD_eq_getElem?_getD, List.getD_eq_getElem?_getD, List.getElem?_drop]
    show EsAt w b (off + i * 2 + j * 2) ((S.drop i).getD j noE)
    rw [e, show off + i * 2 + j * 2 = off + (i + j) * 2 by omega]; exact this
/-- where a call's own row of entries lies -/
theorem es_of_own {w : World} {B n : Nat} {e : TypeId} {v : Value} {S : List EntD} (h : w.ownsRow B e 2 v n (flatE S)) (hr : ∀ x ∈ S, RowE w x) : ∃ a c, v = .slice a n c ∧ IsS w a n S ∧ n ≤ c ∧ ((a = none ∧ n = 0 ∧ c = 0) ∨ ∃ g, a = some ⟨g, 0, none⟩ ∧ B ≤ g ∧ g < w.heap.size) := by
  obtain ⟨hl, h⟩ := h
  rw [flatE_length] at hl
  have hn : S.length = n := by omega
  rcases h with ⟨rfl, rfl⟩ | ⟨g, cap, cur, rfl, hB, hg, h1, h2, hs, ht⟩
  · exact ⟨none, 0, rfl, ⟨hn, by omega, .inl rfl⟩, Nat.le_refl _, .inl ⟨rfl, rfl, rfl⟩⟩
  · have hlt := (Array.getElem?_eq_some_iff.1 hg).1
    unfold maxLen at h2
    refine ⟨some ⟨g, 0, none⟩, cap, rfl, IsS.of_cells hn (by omega) hlt (fun j u hu => ?_) hr, h1, .inr ⟨g, rfl, hB, hlt⟩⟩
    have hj := (List.getElem?_eq_some_iff.1 hu).1
    rw [flatE_length, hn] at hj
    rw [cell_of_row w g _ _ _ _ hg, Nat.zero_add, ← Array.getElem?_toList, ← hu, ← ht, List.getElem?_take, if_pos hj]
theorem flatE_len0 {S : List EntD} (h : S.length = 0) : flatE S = [] := by
  rw [List.eq_nil_of_length_eq_zero h]; rfl
/-- the type of entries, and what it has -/
structure EntT (t e : TypeId) : Prop where
  ut : Try.prog.underlying t = some (.slice e)
  info : (Try.prog.info? e).map (fun i => (i.zero, i.size, i.bytes)) = some (some (.agg #[.slice none 0 0, .int .i64 0]), 2, 32)
/-- entries behind the call's own ones -/
theorem wpList_append_es (w : World) {ops : Array Oper} {rest : List Oper} {o : Oper} {a : Act} {Q : Exit → Act → World → Prop} (hgd : o.guard = none) (s x : Operand) (t e : TypeId) (hT : EntT t e)
    (ho : o.op = .call { callee := .builtin .append, args := #[s, x], argTypes := #[t, t] })
    (base : Nat) (v : Value) (n : Nat) (xs : List Value) (hs : a.eval s = v) (hown : w.ownsRow base e 2 v n xs)
    (sa : Option Addr) (m c : Nat) (T : List EntD) (hx : a.eval x = .slice sa m c) (hI : IsS w sa m T) (hnil : sa = none → m = 0 ∧ c = 0) (hnm : n + m ≤ 100000) (hbase : base ≤ w.heap.size)
    (h : ∀ v' w', w'.ownsRow base e 2 v' (n + m) (xs ++ flatE T) → w.grownBy w' v.ownBlock → wpList Try.prog ops Q rest (a.put o.dst v') w') : wpList Try.prog ops Q (o :: rest) a w := by
  obtain ⟨i0, hi, hz0, hz1, hz2⟩ := info_parts hT.info
  cases sa with
  | none =>
    obtain ⟨rfl, rfl⟩ := hnil rfl
    refine wpList_append_own_none hgd s x t ho base e i0 2 hT.ut hi v n xs hs hown hx (h v w ?_ ⟨rfl, rfl, rfl, Nat.le_refl _, fun _ _ _ => rfl⟩)
    rw [flatE_len0 hI.1, List.append_nil, Nat.add_zero]
    exact hown
  | some ad =>
    refine wpList_append_own w hgd s x t ho base e i0 (.agg #[.slice none 0 0, .int .i64 0]) 2 32 hT.ut hi hz0 hz1 hz2 rfl (by decide) v n xs hs hown ad m c (flatE T) hx (by rw [flatE_length, hI.1]) ?_ (flatE_one T) (by unfold maxLen; omega) (by omega) hbase (fun v' w' h1 h2 _ => h v' w' h1 h2)
    intro j u hu
    rcases hI.2.2 with h0 | ⟨b, off, he, _⟩
    · have h1 := hI.1
      have := (List.getElem?_eq_some_iff.1 hu).1
      rw [flatE_length] at this
      omega
    · cases he
      exact hI.cells j u hu
/-- a row's values behind the call's own ones -/
theorem wpList_append_vals (w : World) {ops : Array Oper} {rest : List Oper} {o : Oper} {a : Act} {Q : Exit → Act → World → Prop} (hgd : o.guard = none) (s x : Operand)
    (ho : o.op = .call { callee := .builtin .append, args := #[s, x], argTypes := #[23, 23] })
    (base : Nat) (v : Value) (n : Nat) (xs : List Value) (hs : a.eval s = v) (hown : w.ownsRow base 46 3 v n xs)
    (sa : Option Addr) (m c : Nat) (vs : List Val) (hx : a.eval x = .slice sa m c) (hI : IsV w sa m vs) (hnil : sa = none → m = 0 ∧ c = 0) (hnm : n + m ≤ 100000) (hbase : base ≤ w.heap.size)
    (h : ∀ v' w', w'.ownsRow base 46 3 v' (n + m) (xs ++ flatX vs) → w.grownBy w' v.ownBlock → wpList Try.prog ops Q rest (a.put o.dst v') w') : wpList Try.prog ops Q (o :: rest) a w := by
  obtain ⟨i0, hi, hz0, hz1, hz2⟩ := info_parts info0V
  cases sa with
  | none =>
    obtain ⟨rfl, rfl⟩ := hnil rfl
    refine wpList_append_own_none hgd s x 23 ho base 46 i0 3 Try.underlying23 hi v n xs hs hown hx (h v w ?_ ⟨rfl, rfl, rfl, Nat.le_refl _, fun _ _ _ => rfl⟩)
    rw [show vs = [] from List.eq_nil_of_length_eq_zero hI.1]
    simpa [flatX] using hown
  | some ad =>
    refine wpList_append_own w hgd s x 23 ho base 46 i0 (.agg #[.int .i64 0, .int .i64 0, .string ⟨#[]⟩]) 3 32 Try.underlying23 hi hz0 hz1 hz2 rfl (by decide) v n xs hs hown ad m c (flatX vs) hx (by rw [flatX_length, hI.1]) ?_ (flatX_one vs) (by unfold maxLen; omega) (by omega) hbase (fun v' w' h1 h2 _ => h v' w' h1 h2)
    intro j u hu
    rcases hI.2.2 with h0 | ⟨b, off, he, _⟩
    · have h1 := hI.1
      have := (List.getElem?_eq_some_iff.1 hu).1
      rw [flatX_length] at this
      omega
    · cases he
      exact flatX_cells hI j u hu

/-- a block that is no row: of one cell, or a map -/
def Sole (w : World) (i : Nat) : Prop := (∃ v ty q, w.heap[i]? = some (.cells #[v] ty q)) ∨ ∃ es c, w.heap[i]? = some (.map es c)
theorem two_cells {w : World} {b o : Nat} {x y : Value} (hx : w.cell? ⟨b, o, none⟩ = some x) (hy : w.cell? ⟨b, o + 1, none⟩ = some y) : ¬ Sole w b := by
  rintro (⟨v, ty, q, h⟩ | ⟨es, c, h⟩)
  · rw [cell_of_row w b (o + 1) _ _ _ h] at hy
    have := (Array.getElem?_eq_some_iff.1 hy).1
    simp at this
  · unfold World.cell? at hx
    simp only [h] at hx
    cases hx
theorem IsV.sole {P : Nat → Prop} {w w' : World} {a : Option Addr} {l : Nat} {vs : List Val} (h : IsV w a l vs) (ho : Only P w w') (hP : ∀ i, P i → Sole w i) : IsV w' a l vs := by
  obtain ⟨h1, h2, h3⟩ := h
  refine ⟨h1, h2, ?_⟩
  by_cases h0 : l = 0
  · exact .inl h0
  rcases h3 with h3 | ⟨b, off, rfl, hb, hc⟩
  · exact .inl h3
  · obtain ⟨c0, c1, _⟩ := hc 0 (by omega)
    have e := ho.block b hb (fun hS => two_cells c0 c1 (hP b hS))
    refine .inr ⟨b, off, rfl, Nat.lt_of_lt_of_le hb ho.size, fun i hi => ?_⟩
    obtain ⟨q1, q2, q3⟩ := hc i hi
    exact ⟨(World.cell?_of_block e).trans q1, (World.cell?_of_block e).trans q2, (World.cell?_of_block e).trans q3⟩
theorem IsEs.sole {P : Nat → Prop} {w w' : World} {a : Option Addr} {l : Nat} {f : Nat → EntD} (h : IsEs w a l f) (ho : Only P w w') (hP : ∀ i, P i → Sole w i) : IsEs w' a l f := by
  refine ⟨h.1, ?_⟩
  by_cases h0 : l = 0
  · exact .inl h0
  rcases h.2 with h3 | ⟨b, off, rfl, hb, hc⟩
  · exact .inl h3
  · have e := ho.block b hb (fun hS => two_cells (hc 0 (by omega)).c0 (hc 0 (by omega)).c1 (hP b hS))
    refine .inr ⟨b, off, rfl, Nat.lt_of_lt_of_le hb ho.size, fun i hi => ?_⟩
    have q := hc i hi
    exact ⟨(World.cell?_of_block e).trans q.c0, (World.cell?_of_block e).trans q.c1, q.row.sole ho hP, q.rg, q.nil, q.num⟩
theorem IsS.sole {P : Nat → Prop} {w w' : World} {a : Option Addr} {l : Nat} {S : List EntD} (h : IsS w a l S) (ho : Only P w w') (hP : ∀ i, P i → Sole w i) : IsS w' a l S := ⟨h.1, h.2.sole ho hP⟩
theorem RowAt.sole {P : Nat → Prop} {w w' : World} {B : Nat} {x : SlN} {r : List Val} (h : RowAt w B x r) (ho : Only P w w') (hP : ∀ i, P i → Sole w i) : RowAt w' B x r := ⟨h.1.sole ho hP, h.2.1, fun b o e => ⟨(h.2.2 b o e).1, Nat.lt_of_lt_of_le (h.2.2 b o e).2 ho.size⟩⟩
theorem BagR.soles {w : World} {D B n : Nat} {mo : Option Nat} {Dm : DataW Unit} {t : Lit → Option SlN} {L : List Ent} (h : BagR w D B n mo Dm t L) : ∀ i, bagS D mo i → Sole w i := by
  rintro i (rfl | e)
  · exact .inl ⟨_, _, _, h.box⟩
  · rcases h.mp with ⟨e0, _⟩ | ⟨M, e0, _, ho⟩
    · rw [e0] at e; cases e
    · rw [e0] at e; cases e
      obtain ⟨es, c, hb, _⟩ := ho
      exact .inr ⟨es, c, hb⟩
theorem BagR.other {P : Nat → Prop} {w w' : World} {D B n : Nat} {mo : Option Nat} {Dm : DataW Unit} {t : Lit → Option SlN} {L : List Ent} (h : BagR w D B n mo Dm t L) (ho : Only P w w') (hP : ∀ i, P i → Sole w i) (hD : ¬ P D) (hM : ∀ M, mo = some M → ¬ P M) : BagR w' D B n mo Dm t L :=
  ⟨(ho.block D (Array.getElem?_eq_some_iff.1 h.box).1 hD).trans h.box, h.lt, Nat.le_trans h.le ho.size, h.bal, h.mp.imp id (fun ⟨M, e, b, o⟩ => ⟨M, e, b, ownsMap_only o ho (hM M e)⟩), h.sort, h.nz, h.okr, fun e he => by
    obtain ⟨x, h1, h2, h3⟩ := h.ent e he
    exact ⟨x, h1, h2, h3.sole ho hP⟩, h.all⟩
/-- the document's bag: its box, its entries -/
structure DocB (w : World) (E : Nat) (S : List EntD) : Prop where
  bx : ∃ a l c, w.heap[E]? = some (.cells #[.slice a l c] 108 (0, 0)) ∧ IsS w a l S ∧ l ≤ c ∧ ((a = none ∧ l = 0 ∧ c = 0) ∨ ∃ g, a = some ⟨g, 0, none⟩)
  ok : OkL (S.map entOf)
theorem DocB.lt {w : World} {E : Nat} {S : List EntD} (h : DocB w E S) : E < w.heap.size := by
  obtain ⟨a, l, c, hb, _⟩ := h.bx
  exact (Array.getElem?_eq_some_iff.1 hb).1
theorem DocB.sole {w : World} {E : Nat} {S : List EntD} (h : DocB w E S) : ∀ i, i = E → Sole w i := by
  rintro i rfl
  obtain ⟨a, l, c, hb, _⟩ := h.bx
  exact .inl ⟨_, _, _, hb⟩
theorem DocB.other {P : Nat → Prop} {w w' : World} {E : Nat} {S : List EntD} (h : DocB w E S) (ho : Only P w w') (hP : ∀ i, P i → Sole w i) (hE : ¬ P E) : DocB w' E S := by
  obtain ⟨a, l, c, hb, hI, hlc, hn⟩ := h.bx
  exact ⟨⟨a, l, c, (ho.block E h.lt hE).trans hb, hI.sole ho hP, hlc, hn⟩, h.ok⟩
theorem DocB.below {w w' : World} {E : Nat} {S : List EntD} (h : DocB w E S) (hb : Below w.heap.size w w') : DocB w' E S := h.other (only_below hb) (fun _ => False.elim) id
/-- a bag's box is none of the document's -/
theorem DocB.not_bag {w : World} {E D B n : Nat} {S : List EntD} {mo : Option Nat} {Dm : DataW Unit} {t : Lit → Option SlN} {L : List Ent} (h : DocB w E S) (k : BagR w D B n mo Dm t L) : ¬ bagS D mo E ∧ E ≠ D ∧ ∀ M, mo = some M → M ≠ E := by
  obtain ⟨a, l, c, hb, _⟩ := h.bx
  have h1 : E ≠ D := fun e => by
    have := k.box
    rw [← e, hb] at this
    simp at this
  have h2 : ∀ M, mo = some M → M ≠ E := fun M e e2 => by
    rcases k.mp with ⟨e0, _⟩ | ⟨M', e0, _, ho⟩
    · rw [e0] at e; cases e
    · rw [e0] at e; cases e
      subst e2
      exact ownsMap_cells ho hb
  refine ⟨?_, h1, h2⟩
  rintro (e | e)
  · exact h1 e
  · exact h2 E e rfl
end Go.Proofs.Ytplgkblahmndoaa
