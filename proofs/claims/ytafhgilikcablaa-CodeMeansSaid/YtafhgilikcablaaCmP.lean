/- What a cell is compiled to, and what that does on the machine. No program. -/
import Derived.Test.YtafhgilikcablaaAwD
namespace Go.Proofs.Ytafhgilikcablaa
open Go.RowKit
set_option linter.unusedVariables false
set_option linter.unusedSimpArgs false
set_option maxRecDepth 100000
abbrev Wr := Nat → Nat → List Ins
def noWr : Wr := fun _ _ => []
def oConst : ByteArray := ⟨#[99, 111, 110, 115, 116]⟩
def oCol : ByteArray := ⟨#[99, 111, 108]⟩
def oNeg : ByteArray := ⟨#[110, 101, 103]⟩
def oNull : ByteArray := ⟨#[110, 117, 108, 108]⟩
def oSome : ByteArray := ⟨#[115, 111, 109, 101]⟩
def oNot : ByteArray := ⟨#[110, 111, 116]⟩
def oAnd : ByteArray := ⟨#[97, 110, 100]⟩
def oOr : ByteArray := ⟨#[111, 114]⟩
def oFalse : ByteArray := ⟨#[102, 97, 108, 115, 101]⟩
def oTrue : ByteArray := ⟨#[116, 114, 117, 101]⟩
theorem tConst : oConst.toList = [99, 111, 110, 115, 116] := by kernel_rfl
theorem tCol : oCol.toList = [99, 111, 108] := by kernel_rfl
theorem tNeg : oNeg.toList = [110, 101, 103] := by kernel_rfl
theorem tNull : oNull.toList = [110, 117, 108, 108] := by kernel_rfl
theorem tSome : oSome.toList = [115, 111, 109, 101] := by kernel_rfl
theorem tNot : oNot.toList = [110, 111, 116] := by kernel_rfl
theorem tAnd : oAnd.toList = [97, 110, 100] := by kernel_rfl
theorem tOr : oOr.toList = [111, 114] := by kernel_rfl
theorem tFalse : oFalse.toList = [102, 97, 108, 115, 101] := by kernel_rfl
theorem tTrue : oTrue.toList = [116, 114, 117, 101] := by kernel_rfl
/-- an AND or an OR -/
def joinC (settles op : ByteArray) (x y : List Ins) (r i : Nat) : List Ins :=
  x ++ (⟨settles, 0, (r : Nat), ((i + x.length + 1 + y.length + 1 : Nat) : Int), noV⟩ :: (y ++ [⟨op, (r : Nat), (r : Nat), ((r + 1 : Nat) : Int), noV⟩]))
def cmpH (k : Int) (op : ByteArray) (v : Val) (s c : Int) (fs : List Wr) (r i : Nat) : List Ins :=
  if k = 1 then [⟨oConst, (r : Nat), 0, 0, v⟩]
  else if k = 2 then [⟨oCol, (r : Nat), s, c, noV⟩]
  else if k = 3 then (if op.toList = [78, 79, 84] then fs.getD 0 noWr r i ++ [⟨oNot, (r : Nat), (r : Nat), 0, noV⟩] else fs.getD 0 noWr r i ++ [⟨oNeg, (r : Nat), (r : Nat), 0, noV⟩])
  else if k = 5 then fs.getD 0 noWr (r + 1) i ++ [⟨if op.toList = [73, 83, 32, 78, 79, 84, 32, 78, 85, 76, 76] then oSome else oNull, (r : Nat), ((r + 1 : Nat) : Int), 0, noV⟩]
  else if op.toList = [65, 78, 68] then joinC oFalse oAnd (fs.getD 0 noWr r i) (fs.getD 1 noWr (r + 1) (i + (fs.getD 0 noWr r i).length + 1)) r i
  else if op.toList = [79, 82] then joinC oTrue oOr (fs.getD 0 noWr r i) (fs.getD 1 noWr (r + 1) (i + (fs.getD 0 noWr r i).length + 1)) r i
  else if reckB op = true then fs.getD 0 noWr r i ++ (fs.getD 1 noWr (r + 1) (i + (fs.getD 0 noWr r i).length) ++ [⟨op, (r : Nat), (r : Nat), ((r + 1 : Nat) : Int), noV⟩])
  else fs.getD 0 noWr (r + 1) i ++ (fs.getD 1 noWr (r + 2) (i + (fs.getD 0 noWr (r + 1) i).length) ++ [⟨op, (r : Nat), ((r + 1 : Nat) : Int), ((r + 2 : Nat) : Int), noV⟩])
mutual
/-- what a cell is compiled to: for a register, from a place on -/
def cmpC : CT → Wr
  | .mk k op vk vn vs s c ps => cmpH k op (vk, vn, vs) s c (cmpL ps)
def cmpL : List CT → List Wr
  | [] => []
  | p :: ps => cmpC p :: cmpL ps
end
/-- does a cell say a truth? -/
theorem cmp_lit (vk vn : Int) (vs op : ByteArray) (s c : Int) (ps : List CT) (r i : Nat) : cmpC (.mk 1 op vk vn vs s c ps) r i = [⟨oConst, (r : Nat), 0, 0, (vk, vn, vs)⟩] := by
  simp [cmpC, cmpH]
theorem cmp_col (vk vn : Int) (vs op : ByteArray) (s c : Int) (ps : List CT) (r i : Nat) : cmpC (.mk 2 op vk vn vs s c ps) r i = [⟨oCol, (r : Nat), s, c, noV⟩] := by
  simp [cmpC, cmpH]
theorem cmp_not {op : ByteArray} (ho : op.toList = [78, 79, 84]) (p : CT) (r i : Nat) : cmpC (.mk 3 op 0 0 ⟨#[]⟩ 0 0 [p]) r i = cmpC p r i ++ [⟨oNot, (r : Nat), (r : Nat), 0, noV⟩] := by
  simp [cmpC, cmpH, cmpL, ho]
theorem cmp_neg {op : ByteArray} (ho : op.toList = [45]) (p : CT) (r i : Nat) : cmpC (.mk 3 op 0 0 ⟨#[]⟩ 0 0 [p]) r i = cmpC p r i ++ [⟨oNeg, (r : Nat), (r : Nat), 0, noV⟩] := by
  simp [cmpC, cmpH, cmpL, ho]
theorem cmp_null {op : ByteArray} (ho : op.toList = [73, 83, 32, 78, 85, 76, 76]) (p : CT) (r i : Nat) : cmpC (.mk 5 op 0 0 ⟨#[]⟩ 0 0 [p]) r i = cmpC p (r + 1) i ++ [⟨oNull, (r : Nat), ((r + 1 : Nat) : Int), 0, noV⟩] := by
  simp [cmpC, cmpH, cmpL, ho]
theorem cmp_some {op : ByteArray} (ho : op.toList = [73, 83, 32, 78, 79, 84, 32, 78, 85, 76, 76]) (p : CT) (r i : Nat) : cmpC (.mk 5 op 0 0 ⟨#[]⟩ 0 0 [p]) r i = cmpC p (r + 1) i ++ [⟨oSome, (r : Nat), ((r + 1 : Nat) : Int), 0, noV⟩] := by
  simp [cmpC, cmpH, cmpL, ho]
theorem cmp_and {op : ByteArray} (ho : op.toList = [65, 78, 68]) (p q : CT) (r i : Nat) : cmpC (.mk 4 op 0 0 ⟨#[]⟩ 0 0 [p, q]) r i = joinC oFalse oAnd (cmpC p r i) (cmpC q (r + 1) (i + (cmpC p r i).length + 1)) r i := by
  simp [cmpC, cmpH, cmpL, ho]
theorem cmp_or {op : ByteArray} (ho : op.toList = [79, 82]) (p q : CT) (r i : Nat) : cmpC (.mk 4 op 0 0 ⟨#[]⟩ 0 0 [p, q]) r i = joinC oTrue oOr (cmpC p r i) (cmpC q (r + 1) (i + (cmpC p r i).length + 1)) r i := by
  simp [cmpC, cmpH, cmpL, ho]
theorem cmp_reck {op : ByteArray} (ho : op.toList = [43] ∨ op.toList = [45] ∨ op.toList = [42]) (p q : CT) (r i : Nat) : cmpC (.mk 4 op 0 0 ⟨#[]⟩ 0 0 [p, q]) r i = cmpC p r i ++ (cmpC q (r + 1) (i + (cmpC p r i).length) ++ [⟨op, (r : Nat), (r : Nat), ((r + 1 : Nat) : Int), noV⟩]) := by
  rcases ho with ho | ho | ho <;> simp [cmpC, cmpH, cmpL, ho, reckB]
theorem cmp_cmp {op : ByteArray} (ho : op.toList = [61] ∨ op.toList = [60, 62] ∨ op.toList = [60] ∨ op.toList = [60, 61] ∨ op.toList = [62] ∨ op.toList = [62, 61]) (p q : CT) (r i : Nat) : cmpC (.mk 4 op 0 0 ⟨#[]⟩ 0 0 [p, q]) r i = cmpC p (r + 1) i ++ (cmpC q (r + 2) (i + (cmpC p (r + 1) i).length) ++ [⟨op, (r : Nat), ((r + 1 : Nat) : Int), ((r + 2 : Nat) : Int), noV⟩]) := by
  rcases ho with ho | ho | ho | ho | ho | ho <;> simp [cmpC, cmpH, cmpL, ho, reckB]

/-- code that stands at a place -/
def Stands (xs : List Ins) (i : Nat) (l : List Ins) : Prop := i + l.length ≤ xs.length ∧ ∀ j, j < l.length → xs.getD (i + j) noI = l.getD j noI
theorem Stands.left {xs a b : List Ins} {i : Nat} (h : Stands xs i (a ++ b)) : Stands xs i a := by
  obtain ⟨h1, h2⟩ := h
  rw [List.length_append] at h1 h2
  refine ⟨by omega, fun j hj => ?_⟩
  rw [h2 j (by omega)]
  simp [List.getD_eq_getElem?_getD, List.getElem?_append_left hj]
theorem Stands.right {xs a b : List Ins} {i : Nat} (h : Stands xs i (a ++ b)) : Stands xs (i + a.length) b := by
  obtain ⟨h1, h2⟩ := h
  rw [List.length_append] at h1 h2
  refine ⟨by omega, fun j hj => ?_⟩
  rw [Nat.add_assoc, h2 (a.length + j) (by omega)]
  simp [List.getD_eq_getElem?_getD, List.getElem?_append_right (show a.length ≤ a.length + j by omega)]
theorem Stands.head {xs b : List Ins} {x : Ins} {i : Nat} (h : Stands xs i (x :: b)) : i < xs.length ∧ xs.getD i noI = x := by
  obtain ⟨h1, h2⟩ := h
  have := h2 0 (Nat.succ_pos _)
  simp only [List.length_cons] at h1
  refine ⟨by omega, ?_⟩
  simpa using this
theorem Stands.tail {xs b : List Ins} {x : Ins} {i : Nat} (h : Stands xs i (x :: b)) : Stands xs (i + 1) b := Stands.right (a := [x]) (b := b) h

/-- a run comes from a place to another -/
def Reach (R : List (List Val)) (xs : List Ins) (i : Nat) (rs : List Reg) (i' : Nat) (rs' : List Reg) : Prop :=
  ∀ f, xs.length < i + f → ∃ f', xs.length < i' + f' ∧ runR R xs f i rs = runR R xs f' i' rs'
def Fails (R : List (List Val)) (xs : List Ins) (i : Nat) (rs : List Reg) (e : Int) : Prop :=
  ∀ f, xs.length < i + f → runR R xs f i rs = (noV, 0, e)
theorem Reach.trans {R : List (List Val)} {xs : List Ins} {i j k : Nat} {a b c : List Reg} (h : Reach R xs i a j b) (g : Reach R xs j b k c) : Reach R xs i a k c := by
  intro f hf
  obtain ⟨f1, h1, h2⟩ := h f hf
  obtain ⟨f2, g1, g2⟩ := g f1 h1
  exact ⟨f2, g1, h2.trans g2⟩
theorem Reach.fails {R : List (List Val)} {xs : List Ins} {i j : Nat} {a b : List Reg} {e : Int} (h : Reach R xs i a j b) (g : Fails R xs j b e) : Fails R xs i a e := by
  intro f hf
  obtain ⟨f1, h1, h2⟩ := h f hf
  exact h2.trans (g f1 h1)
theorem Reach.step {R : List (List Val)} {xs : List Ins} {i n : Nat} {rs rs' : List Reg} {x : Ins} (hi : i < xs.length ∧ xs.getD i noI = x) (h : stepR R x rs i = (rs', 0, n)) (hn : i < n) : Reach R xs i rs n rs' := by
  intro f hf
  cases f with
  | zero => omega
  | succ f =>
    refine ⟨f, by omega, ?_⟩
    conv => lhs; unfold runR
    rw [if_neg (by omega), hi.2, h, if_pos rfl]
theorem Fails.step {R : List (List Val)} {xs : List Ins} {i n : Nat} {rs rs' : List Reg} {x : Ins} {e : Int} (hi : i < xs.length ∧ xs.getD i noI = x) (h : stepR R x rs i = (rs', e, n)) (he : e ≠ 0) : Fails R xs i rs e := by
  intro f hf
  cases f with
  | zero => omega
  | succ f =>
    unfold runR
    rw [if_neg (by omega), hi.2, h, if_neg he]
theorem set_same {l : List Reg} {A : Nat} (h : A < l.length) (v d : Reg) : (l.set A v).getD A d = v := by
  simp [List.getD_eq_getElem?_getD, h]
theorem set_far {l : List Reg} {A j : Nat} (h : j ≠ A) (v d : Reg) : (l.set A v).getD j d = l.getD j d := by
  simp [List.getD_eq_getElem?_getD, List.getElem?_set, Ne.symm h]
theorem unfE_zero {e : Int} : unfE e = 0 ↔ e = 0 := by
  unfold unfE; split <;> omega

theorem st_const (R : List (List Val)) (r i : Nat) (v : Val) (rs : List Reg) : stepR R ⟨oConst, (r : Nat), 0, 0, v⟩ rs i = (rs.set r (v, (rs.getD r noR).2), 0, i + 1) := by
  simp [stepR, tConst]
theorem st_col (R : List (List Val)) (r i : Nat) (s c : Int) (rs : List Reg) : stepR R ⟨oCol, (r : Nat), s, c, noV⟩ rs i = (rs.set r ((colF R s c).1, (rs.getD r noR).2), (colF R s c).2, i + 1) := by
  simp [stepR, tCol]
theorem st_neg (R : List (List Val)) (r b i : Nat) (rs : List Reg) : stepR R ⟨oNeg, (r : Nat), (b : Nat), 0, noV⟩ rs i = (rs.set r (recV ⟨#[45]⟩ (1, 0, ⟨#[]⟩) (rs.getD b noR).1, (rs.getD r noR).2), recX ⟨#[45]⟩ (1, 0, ⟨#[]⟩) (rs.getD b noR).1, i + 1) := by
  simp [stepR, tNeg, recV, recX]
theorem st_null (R : List (List Val)) (r b i : Nat) (rs : List Reg) : stepR R ⟨oNull, (r : Nat), (b : Nat), 0, noV⟩ rs i = (rs.set r ((rs.getD r noR).1, truthI ((rs.getD b noR).1.1 == 0)), 0, i + 1) := by
  simp [stepR, tNull]
theorem st_some (R : List (List Val)) (r b i : Nat) (rs : List Reg) : stepR R ⟨oSome, (r : Nat), (b : Nat), 0, noV⟩ rs i = (rs.set r ((rs.getD r noR).1, truthI ((rs.getD b noR).1.1 != 0)), 0, i + 1) := by
  simp [stepR, tSome]
theorem st_not (R : List (List Val)) (r b i : Nat) (rs : List Reg) : stepR R ⟨oNot, (r : Nat), (b : Nat), 0, noV⟩ rs i = (rs.set r ((rs.getD r noR).1, notI (rs.getD b noR).2), 0, i + 1) := by
  simp [stepR, tNot]
theorem st_and (R : List (List Val)) (r b c i : Nat) (rs : List Reg) : stepR R ⟨oAnd, (r : Nat), (b : Nat), (c : Nat), noV⟩ rs i = (rs.set r ((rs.getD r noR).1, andI (rs.getD b noR).2 (rs.getD c noR).2), 0, i + 1) := by
  simp [stepR, tAnd]
theorem st_or (R : List (List Val)) (r b c i : Nat) (rs : List Reg) : stepR R ⟨oOr, (r : Nat), (b : Nat), (c : Nat), noV⟩ rs i = (rs.set r ((rs.getD r noR).1, orI (rs.getD b noR).2 (rs.getD c noR).2), 0, i + 1) := by
  simp [stepR, tOr]
theorem st_false (R : List (List Val)) (b c i : Nat) (rs : List Reg) : stepR R ⟨oFalse, 0, (b : Nat), (c : Nat), noV⟩ rs i = (rs, 0, if (rs.getD b noR).2 = 0 then c else i + 1) := by
  simp [stepR, tFalse, truthI]
theorem st_true (R : List (List Val)) (b c i : Nat) (rs : List Reg) : stepR R ⟨oTrue, 0, (b : Nat), (c : Nat), noV⟩ rs i = (rs, 0, if (rs.getD b noR).2 = 1 then c else i + 1) := by
  simp [stepR, tTrue, truthI]
theorem st_reck {op : ByteArray} (ho : op.toList = [43] ∨ op.toList = [45] ∨ op.toList = [42]) (R : List (List Val)) (r b c i : Nat) (rs : List Reg) : stepR R ⟨op, (r : Nat), (b : Nat), (c : Nat), noV⟩ rs i = (rs.set r (recV op (rs.getD b noR).1 (rs.getD c noR).1, (rs.getD r noR).2), recX op (rs.getD b noR).1 (rs.getD c noR).1, i + 1) := by
  rcases ho with ho | ho | ho <;> simp [stepR, ho, recV, recX]
theorem st_cmp {op : ByteArray} (ho : op.toList = [61] ∨ op.toList = [60, 62] ∨ op.toList = [60] ∨ op.toList = [60, 61] ∨ op.toList = [62] ∨ op.toList = [62, 61]) (R : List (List Val)) (r b c i : Nat) (rs : List Reg) : stepR R ⟨op, (r : Nat), (b : Nat), (c : Nat), noV⟩ rs i = (rs.set r ((rs.getD r noR).1, (cmpV op (rs.getD b noR).1 (rs.getD c noR).1).1), (cmpV op (rs.getD b noR).1 (rs.getD c noR).1).2, i + 1) := by
  rcases ho with ho | ho | ho | ho | ho | ho <;> simp [stepR, ho, cmpV]

/-- what code does that a cell is compiled to -/
def Does (R : List (List Val)) (xs : List Ins) (c : CT) (k : Int) (r i n : Nat) (rs : List Reg) : Prop :=
  ((askV R c).2.2 = 0 ∧ ∃ rs', Reach R xs i rs n rs' ∧ rs'.length = rs.length ∧ (∀ j, j < r → rs'.getD j noR = rs.getD j noR) ∧ (k ≠ 3 → (rs'.getD r noR).1 = (askV R c).1) ∧ (k = 3 → (rs'.getD r noR).2 = (askV R c).2.1)) ∨
  ((askV R c).2.2 ≠ 0 ∧ ∃ e, e ≠ 0 ∧ unfE e = (askV R c).2.2 ∧ Fails R xs i rs e)
/-- the last step of one: a register is set -/
theorem Does.set {R : List (List Val)} {xs : List Ins} {c : CT} {k : Int} {r i m : Nat} {rs rs1 : List Reg} {x : Ins} {v : Reg} {e : Int} (h1 : Reach R xs i rs m rs1) (hl : rs1.length = rs.length) (hr : r < rs.length) (hk : ∀ j, j < r → rs1.getD j noR = rs.getD j noR)
    (hx : m < xs.length ∧ xs.getD m noI = x) (hs : stepR R x rs1 m = (rs1.set r v, e, m + 1)) (he : (askV R c).2.2 = unfE e) (hv : e = 0 → (k ≠ 3 → v.1 = (askV R c).1) ∧ (k = 3 → v.2 = (askV R c).2.1)) : Does R xs c k r i (m + 1) rs := by
  by_cases h0 : e = 0
  · subst h0
    refine .inl ⟨he.trans (unfE_zero.2 rfl), rs1.set r v, h1.trans (.step hx hs (Nat.lt_succ_self _)), by rw [List.length_set, hl], fun j hj => ?_, fun h => ?_, fun h => ?_⟩
    · rw [set_far (by omega), hk j hj]
    · rw [set_same (by omega)]; exact (hv rfl).1 h
    · rw [set_same (by omega)]; exact (hv rfl).2 h
  · exact .inr ⟨fun h => h0 (unfE_zero.1 (he.symm.trans h)), e, h0, he.symm, h1.fails (.step hx hs h0)⟩
theorem Reach.refl (R : List (List Val)) (xs : List Ins) (i : Nat) (rs : List Reg) : Reach R xs i rs i rs := fun f hf => ⟨f, hf, rfl⟩
theorem colF_e (R : List (List Val)) (s c : Int) : (colF R s c).2 = unfE (colF R s c).2 := by
  unfold colF; split <;> rfl
theorem argF_e (v : Val) (t e : Int) : (argF v t e).2.2 = unfE e := by
  unfold argF; split
  · rfl
  · next h => simp at h; exact h.symm
end Go.Proofs.Ytafhgilikcablaa
