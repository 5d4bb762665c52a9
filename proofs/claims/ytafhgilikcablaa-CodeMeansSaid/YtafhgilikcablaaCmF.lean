/- Code that a cell is compiled to is formed; what it answers, run. No program. -/
import Derived.Test.YtafhgilikcablaaCmR
import Derived.Test.YtafhgilikcablaaVmMach
namespace Go.Proofs.Ytafhgilikcablaa
open Go.RowKit
set_option linter.unusedVariables false
set_option linter.unusedSimpArgs false
set_option maxRecDepth 100000
theorem tNo : (noV.2.2).toList = [] := by kernel_rfl
theorem has_nat {a : Nat} {Rg : Int} (h : (a : Int) < Rg) : hasB Rg (a : Int) = true := by
  unfold hasB; exact decide_eq_true ⟨by omega, h⟩
theorem ok_2 {op : ByteArray} (h : opClass op = 2) {N Rg i : Int} {a b : Nat} (ha : (a : Int) < Rg) (hb : (b : Int) < Rg) : okI N Rg i ⟨op, (a : Nat), (b : Nat), 0, noV⟩ = true := by
  simp only [okI, bareB, fitsB, h, has_nat ha, has_nat hb, tNo]; rfl
theorem ok_3 {op : ByteArray} (h : opClass op = 3) {N Rg i : Int} {a b c : Nat} (ha : (a : Int) < Rg) (hb : (b : Int) < Rg) (hc : (c : Int) < Rg) : okI N Rg i ⟨op, (a : Nat), (b : Nat), (c : Nat), noV⟩ = true := by
  simp only [okI, bareB, fitsB, h, has_nat ha, has_nat hb, has_nat hc, tNo]; rfl
theorem ok_4 {op : ByteArray} (h : opClass op = 4) {N Rg i : Int} {b : Nat} {c : Int} (hb : (b : Int) < Rg) (hc : i < c) (hn : c ≤ N) : okI N Rg i ⟨op, 0, (b : Nat), c, noV⟩ = true := by
  simp only [okI, bareB, fitsB, h, has_nat hb, tNo, decide_eq_true hc, decide_eq_true hn]; rfl
theorem ok_const {N Rg i : Int} {a : Nat} {v : Val} (ha : (a : Int) < Rg) (hv : formedV v = true) : okI N Rg i ⟨oConst, (a : Nat), 0, 0, v⟩ = true := by
  have h : opClass oConst = 0 := by simp [opClass, opLits, tConst]
  simp only [okI, bareB, fitsB, h, has_nat ha, hv]; rfl
theorem ok_col {N Rg i : Int} {a s c : Nat} (ha : (a : Int) < Rg) : okI N Rg i ⟨oCol, (a : Nat), (s : Nat), (c : Nat), noV⟩ = true := by
  have h : opClass oCol = 1 := by simp [opClass, opLits, tCol]
  have h1 : (0 : Int) ≤ s := by omega
  have h2 : (0 : Int) ≤ c := by omega
  simp only [okI, bareB, fitsB, h, has_nat ha, tNo, decide_eq_true h1, decide_eq_true h2]; rfl
/-- instructions that are right at their places -/
def OkL (N Rg : Int) (i : Nat) (l : List Ins) : Prop := ∀ j, j < l.length → okI N Rg ((i + j : Nat) : Int) (l.getD j noI) = true
theorem OkL.app {N Rg : Int} {i : Nat} {a b : List Ins} (ha : OkL N Rg i a) (hb : OkL N Rg (i + a.length) b) : OkL N Rg i (a ++ b) := by
  intro j hj
  by_cases h : j < a.length
  · have := ha j h
    rwa [show (a ++ b).getD j noI = a.getD j noI by simp [List.getD_eq_getElem?_getD, List.getElem?_append_left h]]
  · rw [List.length_append] at hj
    have := hb (j - a.length) (by omega)
    rw [show i + a.length + (j - a.length) = i + j by omega] at this
    rwa [show (a ++ b).getD j noI = b.getD (j - a.length) noI by simp [List.getD_eq_getElem?_getD, List.getElem?_append_right (show a.length ≤ j by omega)]]
theorem OkL.one {N Rg : Int} {i : Nat} {x : Ins} (h : okI N Rg (i : Int) x = true) : OkL N Rg i [x] := by
  intro j hj
  obtain rfl : j = 0 := by simpa using hj
  simpa using h
/-- what is to be known of the form of code -/
def FormC (r i n : Nat) (l : List Ins) : Prop :=
  l.length ≤ 2 * n ∧ (∀ x ∈ l, 0 ≤ x.a ∧ x.a ≤ ((r + 2 * n : Nat) : Int)) ∧ ∀ Rg : Int, (∀ x ∈ l, x.a < Rg) → (r : Int) < Rg ∧ ∀ N : Nat, i + l.length ≤ N → OkL N Rg i l
theorem FormC.one {r i n : Nat} {x : Ins} (hn : 1 ≤ n) (hx : x.a = (r : Nat)) (h : ∀ (N Rg : Int), (r : Int) < Rg → okI N Rg (i : Int) x = true) : FormC r i n [x] := by
  refine ⟨by simp; omega, ?_, ?_⟩
  · intro y hy
    obtain rfl := List.mem_singleton.1 hy
    rw [hx]; omega
  · intro Rg hR
    have := lc hR
    rw [hx] at this
    exact ⟨this, fun N hN => .one (h N Rg this)⟩
theorem FormC.snoc {r s i n m : Nat} {l : List Ins} {x : Ins} (hl : FormC s i n l) (hm : n + 1 ≤ m) (hs : s ≤ r + 1) (hx : x.a = (r : Nat)) (h : ∀ (j : Nat) (N Rg : Int), (r : Int) < Rg → (s : Int) < Rg → okI N Rg (j : Int) x = true) : FormC r i m (l ++ [x]) := by
  obtain ⟨h1, h2, h3⟩ := hl
  refine ⟨by simp; omega, ?_, ?_⟩
  · intro y hy
    rcases List.mem_append.1 hy with hy | hy
    · have := h2 y hy; omega
    · obtain rfl := List.mem_singleton.1 hy
      rw [hx]; omega
  · intro Rg hR
    have hr := lc (lb hR)
    rw [hx] at hr
    obtain ⟨h4, h5⟩ := h3 Rg (la hR)
    refine ⟨hr, fun N hN => ?_⟩
    rw [List.length_append] at hN
    exact (h5 N (by simp at hN; omega)).app (.one (h _ N Rg hr h4))
theorem FormC.two {r s t i n n2 m : Nat} {a b : List Ins} {x : Ins} (ha : FormC s i n a) (hb : FormC t (i + a.length) n2 b) (hm : n + n2 + 1 ≤ m) (hs : s ≤ r + 2) (ht : t ≤ r + 2) (hx : x.a = (r : Nat)) (h : ∀ (j : Nat) (N Rg : Int), (r : Int) < Rg → (s : Int) < Rg → (t : Int) < Rg → okI N Rg (j : Int) x = true) : FormC r i m (a ++ (b ++ [x])) := by
  obtain ⟨h1, h2, h3⟩ := ha
  obtain ⟨g1, g2, g3⟩ := hb
  refine ⟨by simp; omega, ?_, ?_⟩
  · intro y hy
    rcases List.mem_append.1 hy with hy | hy
    · have := h2 y hy; omega
    rcases List.mem_append.1 hy with hy | hy
    · have := g2 y hy; omega
    · obtain rfl := List.mem_singleton.1 hy
      rw [hx]; omega
  · intro Rg hR
    have hr := lc (lb (lb hR))
    rw [hx] at hr
    obtain ⟨h4, h5⟩ := h3 Rg (la hR)
    obtain ⟨g4, g5⟩ := g3 Rg (la (lb hR))
    refine ⟨hr, fun N hN => ?_⟩
    simp only [List.length_append, List.length_cons, List.length_nil] at hN
    exact (h5 N (by omega)).app ((g5 N (by omega)).app (.one (h _ N Rg hr h4 g4)))
theorem FormC.join {r i n n2 m : Nat} {a b : List Ins} {o p : ByteArray} (ho : opClass o = 4) (hp : opClass p = 3) (ha : FormC r i n a) (hb : FormC (r + 1) (i + a.length + 1) n2 b) (hm : n + n2 + 1 ≤ m) : FormC r i m (joinC o p a b r i) := by
  obtain ⟨h1, h2, h3⟩ := ha
  obtain ⟨g1, g2, g3⟩ := hb
  unfold joinC
  refine ⟨by simp; omega, ?_, ?_⟩
  · intro y hy
    rcases List.mem_append.1 hy with hy | hy
    · have := h2 y hy; omega
    rcases List.mem_cons.1 hy with rfl | hy
    · dsimp only; omega
    rcases List.mem_append.1 hy with hy | hy
    · have := g2 y hy; omega
    · obtain rfl := List.mem_singleton.1 hy
      dsimp only; omega
  · intro Rg hR
    have hr : (r : Int) < Rg := lc (P := fun x : Ins => x.a < Rg) (lb (ld (lb hR)))
    obtain ⟨h4, h5⟩ := h3 Rg (la hR)
    obtain ⟨g4, g5⟩ := g3 Rg (la (ld (lb hR)))
    refine ⟨hr, fun N hN => ?_⟩
    simp only [List.length_append, List.length_cons, List.length_nil] at hN
    refine (h5 N (by omega)).app (OkL.app (a := [_]) (.one (ok_4 ho hr (by omega) (by omega))) ?_)
    exact (g5 N (by omega)).app (.one (ok_3 hp hr hr g4))
theorem form_cm {c : CT} {k : Int} (h : Wk c k) : ∀ (r i : Nat), FormC r i (ctSz c) (cmpC c r i) := by
  induction h with
  | lit vk vn vs hf hn =>
    intro r i
    rw [cmp_lit]
    exact .one (by simp [ctSz]) rfl (fun N Rg hr => ok_const hr hf)
  | col s c k hk =>
    intro r i
    rw [cmp_col]
    exact .one (by simp [ctSz]) rfl (fun N Rg hr => ok_col hr)
  | not op p ho hp ih =>
    intro r i
    rw [cmp_not ho]
    exact (ih r i).snoc (by simp [ctSz, clSz]; omega) (by omega) rfl (fun j N Rg hr hs => ok_2 (by simp [opClass, opLits, tNot]) hr hr)
  | neg op p k ho hk3 hp ih =>
    intro r i
    rw [cmp_neg ho]
    exact (ih r i).snoc (by simp [ctSz, clSz]; omega) (by omega) rfl (fun j N Rg hr hs => ok_2 (by simp [opClass, opLits, tNeg]) hr hr)
  | test op p k ho hk3 hp ih =>
    intro r i
    rcases ho with ho | ho
    · rw [cmp_null ho]
      exact (ih (r + 1) i).snoc (by simp [ctSz, clSz]; omega) (by omega) rfl (fun j N Rg hr hs => ok_2 (by simp [opClass, opLits, tNull]) hr hs)
    · rw [cmp_some ho]
      exact (ih (r + 1) i).snoc (by simp [ctSz, clSz]; omega) (by omega) rfl (fun j N Rg hr hs => ok_2 (by simp [opClass, opLits, tSome]) hr hs)
  | reck op p q k l ho hk3 hl3 hp hq ihp ihq =>
    intro r i
    rw [cmp_reck ho]
    have hc : opClass op = 3 := by rcases ho with ho | ho | ho <;> simp [opClass, opLits, ho]
    exact (ihp r i).two (ihq (r + 1) _) (by simp [ctSz, clSz]; omega) (by omega) (by omega) rfl (fun j N Rg hr hs ht => ok_3 hc hr hr ht)
  | cmp op p q k l ho hk3 hl3 hp hq ihp ihq =>
    intro r i
    rw [cmp_cmp ho]
    have hc : opClass op = 3 := by rcases ho with ho | ho | ho | ho | ho | ho <;> simp [opClass, opLits, ho]
    exact (ihp (r + 1) i).two (ihq (r + 2) _) (by simp [ctSz, clSz]; omega) (by omega) (by omega) rfl (fun j N Rg hr hs ht => ok_3 hc hr hs ht)
  | and op p q ho hp hq ihp ihq =>
    intro r i
    rw [cmp_and ho]
    exact FormC.join (by simp [opClass, opLits, tFalse]) (by simp [opClass, opLits, tAnd]) (ihp r i) (ihq (r + 1) _) (by simp [ctSz, clSz]; omega)
  | or op p q ho hp hq ihp ihq =>
    intro r i
    rw [cmp_or ho]
    exact FormC.join (by simp [opClass, opLits, tTrue]) (by simp [opClass, opLits, tOr]) (ihp r i) (ihq (r + 1) _) (by simp [ctSz, clSz]; omega)
/-- the registers that code works on -/
def regsF (n : Int) (l : List Ins) : Int := l.foldl (fun n x => max n (x.a + 1)) n
theorem regsF_ge : ∀ (l : List Ins) (n : Int), n ≤ regsF n l ∧ ∀ x ∈ l, x.a < regsF n l
  | [], n => ⟨Int.le_refl _, fun _ h => by simp at h⟩
  | y :: l, n => by
    obtain ⟨h1, h2⟩ := regsF_ge l (max n (y.a + 1))
    have e : regsF n (y :: l) = regsF (max n (y.a + 1)) l := rfl
    rw [e]
    refine ⟨by omega, fun x hx => ?_⟩
    rcases List.mem_cons.1 hx with rfl | hx
    · omega
    · exact h2 x hx
theorem regsF_le : ∀ (l : List Ins) (n m : Int), n ≤ m → (∀ x ∈ l, x.a < m) → regsF n l ≤ m
  | [], n, m, h, _ => h
  | y :: l, n, m, h, ha => regsF_le l (max n (y.a + 1)) m (by have := lc ha; omega) (ld ha)
theorem regsF_app (a b : List Ins) (n : Int) : regsF n (a ++ b) = regsF (regsF n a) b := List.foldl_append
theorem formed_cm {c : CT} {k : Int} (h : Wk c k) (hs : ctSz c ≤ 300) : formedP (regsF 0 (cmpC c 0 0)) (cmpC c 0 0) = true := by
  obtain ⟨h1, h2, h3⟩ := form_cm h 0 0
  obtain ⟨h4, h5⟩ := h3 _ (regsF_ge (cmpC c 0 0) 0).2
  have h6 : regsF 0 (cmpC c 0 0) ≤ 1000 := regsF_le _ 0 1000 (by omega) (fun x hx => by have := (h2 x hx).2; omega)
  have h7 : 1 ≤ (cmpC c 0 0).length := by
    refine Nat.pos_of_ne_zero fun h0 => ?_
    obtain ⟨g4, _⟩ := h3 0 (fun x hx => by rw [List.length_eq_zero_iff.1 h0] at hx; simp at hx)
    simp at g4
  refine formedP_all ⟨h7, by omega, by have : ((0 : Nat) : Int) < _ := h4; omega, h6⟩ (fun j hj => ?_)
  have := h5 (cmpC c 0 0).length (by omega) j hj
  rwa [Nat.zero_add] at this
/-- run, it does what the cell is worth -/
theorem runP_cm (R : List (List Val)) {c : CT} {k : Int} (h : Wk c k) (hs : ctSz c ≤ 300) :
    ((askV R c).2.2 = 0 ∧ (runP R (regsF 0 (cmpC c 0 0)) (cmpC c 0 0)).2.2 = 0 ∧ (k ≠ 3 → (runP R (regsF 0 (cmpC c 0 0)) (cmpC c 0 0)).1 = (askV R c).1) ∧ (k = 3 → (runP R (regsF 0 (cmpC c 0 0)) (cmpC c 0 0)).2.1 = (askV R c).2.1)) ∨
    ((askV R c).2.2 ≠ 0 ∧ ∃ e, e ≠ 0 ∧ unfE e = (askV R c).2.2 ∧ runP R (regsF 0 (cmpC c 0 0)) (cmpC c 0 0) = (noV, 0, e)) := by
  obtain ⟨h1, h2, h3⟩ := form_cm h 0 0
  have hg := (regsF_ge (cmpC c 0 0) 0).2
  have hst : Stands (cmpC c 0 0) 0 (cmpC c 0 0) := ⟨by omega, fun j _ => by rw [Nat.zero_add]⟩
  have hd := run_cm R (cmpC c 0 0) h 0 0 (List.replicate (regsF 0 (cmpC c 0 0)).toNat noR) hst (fun x hx => by
    rw [List.length_replicate]
    have := hg x hx
    have := (h2 x hx).1
    omega)
  unfold runP
  rw [if_pos (formed_cm h hs)]
  rcases hd with ⟨h0, rs', hR, hl, _, hv, ht⟩ | ⟨h0, e, he, hu, hF⟩
  · obtain ⟨f', hf, hr⟩ := hR ((cmpC c 0 0).length + 1) (by omega)
    cases f' with
    | zero => omega
    | succ f =>
      rw [hr]
      unfold runR
      rw [if_pos (by omega)]
      exact .inl ⟨h0, rfl, hv, ht⟩
  · exact .inr ⟨h0, e, he, hu, hF _ (by omega)⟩
end Go.Proofs.Ytafhgilikcablaa
