/- The machine of registers, plain: a run's end, a step of each word, numbers that are int64s. -/
import Derived.Test.YtplgkblahmndoaaVmReg
import Derived.Test.YtplgkblahmndoaaCForm
import Derived.Test.YtplgkblahmndoaaVRecV
import Derived.Lib.Hide
namespace Go.Proofs.Ytplgkblahmndoaa
open Go.RowKit
set_option linter.unusedVariables false

/-- what a program does -/
def runP (R : List (List Val)) (k : Int) (xs : List Ins) : Val × Int × Int :=
  if formedP k xs = true then runR R xs (xs.length + 1) 0 (List.replicate k.toNat noR) else (noV, 0, 1)
theorem runR_end {R : List (List Val)} {xs : List Ins} {f i : Nat} {rs : List Reg} {fin : Val × Int × Int} (h : runR R xs (f + 1) i rs = fin) (hi : xs.length ≤ i) : fin = ((rs.getD 0 noR).1, (rs.getD 0 noR).2, 0) := by
  rw [← h]; unfold runR; rw [if_pos hi]
theorem runR_step {R : List (List Val)} {xs : List Ins} {f i : Nat} {rs rs' : List Reg} {e : Int} {n : Nat} {fin : Val × Int × Int} (h : runR R xs (f + 1) i rs = fin) (hi : i < xs.length)
    (hs : stepR R (xs.getD i noI) rs i = (rs', e, n)) : (e = 0 → runR R xs f n rs' = fin) ∧ (e ≠ 0 → fin = (noV, 0, e)) := by
  unfold runR at h
  rw [if_neg (by omega), hs] at h
  constructor
  · intro he; rw [if_pos he] at h; exact h
  · intro he; rw [if_neg he] at h; exact h.symm
/-- numbers that are int64s -/
def RegR (rs : List Reg) : Prop := ∀ r ∈ rs, InR r.1.2.1
theorem RegR.set {rs : List Reg} {r : Reg} (h : RegR rs) (hr : InR r.1.2.1) (i : Nat) : RegR (rs.set i r) := fun x hx => by
  rcases List.mem_or_eq_of_mem_set hx with h' | rfl
  · exact h x h'
  · exact hr
theorem InR.zero : InR 0 := ⟨by omega, by omega⟩
theorem RegR.get {rs : List Reg} (h : RegR rs) (i : Nat) : InR (rs.getD i noR).1.2.1 := by
  by_cases hi : i < rs.length
  · rw [List.getD_eq_getElem?_getD, List.getElem?_eq_getElem hi]
    exact h _ (List.getElem_mem hi)
  · rw [List.getD_eq_getElem?_getD, List.getElem?_eq_none (by omega)]
    exact InR.zero
theorem RegR.setT {rs : List Reg} (h : RegR rs) (i : Nat) (t : Int) : RegR (rs.set i ((rs.getD i noR).1, t)) := h.set (r := ((rs.getD i noR).1, t)) (h.get i) i
theorem RegR.rep (n : Nat) : RegR (List.replicate n noR) := fun r hr => by
  rw [(List.mem_replicate.1 hr).2]; exact InR.zero
theorem recF_inR (op : ByteArray) (ka na : Int) (sa : ByteArray) (kb nb : Int) (sb : ByteArray) : InR (recF op ka na sa kb nb sb).2.1 := by
  unfold recF
  split
  · exact InR.zero
  · split
    · exact InR.zero
    · split
      · exact InR.zero
      · split
        · rename_i h; exact (fitB_iff _).1 h
        · exact InR.zero
def RowsR (R : List (List Val)) : Prop := ∀ l ∈ R, ∀ v ∈ l, InR v.2.1
theorem colF_inR {R : List (List Val)} (h : RowsR R) (i j : Int) : InR (colF R i j).1.2.1 := by
  unfold colF
  split
  · rename_i hc
    obtain ⟨_, _, hi, hj, _⟩ := hc
    have e1 : R.getD i.toNat [] = R[i.toNat] := by rw [List.getD_eq_getElem?_getD, List.getElem?_eq_getElem hi]; rfl
    rw [e1] at hj ⊢
    have e2 : (R[i.toNat]).getD j.toNat noV = (R[i.toNat])[j.toNat] := by rw [List.getD_eq_getElem?_getD, List.getElem?_eq_getElem hj]; rfl
    show InR ((R[i.toNat]).getD j.toNat noV).2.1
    rw [e2]
    exact h _ (List.getElem_mem hi) _ (List.getElem_mem hj)
  · exact InR.zero

section
variable (R : List (List Val)) (a b c : Int) (v : Val) (rs : List Reg) (i : Nat)
theorem step_const : stepR R ⟨⟨#[99, 111, 110, 115, 116]⟩, a, b, c, v⟩ rs i = (rs.set a.toNat (v, (rs.getD a.toNat noR).2), 0, i + 1) := by
  unfold stepR; simp only [ByteArray.toList_eq]; rfl
theorem step_col : stepR R ⟨⟨#[99, 111, 108]⟩, a, b, c, v⟩ rs i = (rs.set a.toNat ((colF R b c).1, (rs.getD a.toNat noR).2), (colF R b c).2, i + 1) := by
  unfold stepR; simp only [ByteArray.toList_eq]; rfl
theorem step_neg : stepR R ⟨⟨#[110, 101, 103]⟩, a, b, c, v⟩ rs i = (rs.set a.toNat (((recF ⟨#[45]⟩ 1 0 ⟨#[]⟩ (rs.getD b.toNat noR).1.1 (rs.getD b.toNat noR).1.2.1 (rs.getD b.toNat noR).1.2.2).1, (recF ⟨#[45]⟩ 1 0 ⟨#[]⟩ (rs.getD b.toNat noR).1.1 (rs.getD b.toNat noR).1.2.1 (rs.getD b.toNat noR).1.2.2).2.1, ⟨#[]⟩), (rs.getD a.toNat noR).2), (recF ⟨#[45]⟩ 1 0 ⟨#[]⟩ (rs.getD b.toNat noR).1.1 (rs.getD b.toNat noR).1.2.1 (rs.getD b.toNat noR).1.2.2).2.2, i + 1) := by
  unfold stepR; simp only [ByteArray.toList_eq]; rfl
theorem step_rec (op : ByteArray) (h : op = ⟨#[43]⟩ ∨ op = ⟨#[45]⟩ ∨ op = ⟨#[42]⟩) : stepR R ⟨op, a, b, c, v⟩ rs i = (rs.set a.toNat (((recF op (rs.getD b.toNat noR).1.1 (rs.getD b.toNat noR).1.2.1 (rs.getD b.toNat noR).1.2.2 (rs.getD c.toNat noR).1.1 (rs.getD c.toNat noR).1.2.1 (rs.getD c.toNat noR).1.2.2).1, (recF op (rs.getD b.toNat noR).1.1 (rs.getD b.toNat noR).1.2.1 (rs.getD b.toNat noR).1.2.2 (rs.getD c.toNat noR).1.1 (rs.getD c.toNat noR).1.2.1 (rs.getD c.toNat noR).1.2.2).2.1, ⟨#[]⟩), (rs.getD a.toNat noR).2), (recF op (rs.getD b.toNat noR).1.1 (rs.getD b.toNat noR).1.2.1 (rs.getD b.toNat noR).1.2.2 (rs.getD c.toNat noR).1.1 (rs.getD c.toNat noR).1.2.1 (rs.getD c.toNat noR).1.2.2).2.2, i + 1) := by
  rcases h with rfl | rfl | rfl <;> (unfold stepR; simp only [ByteArray.toList_eq]; rfl)
theorem step_null : stepR R ⟨⟨#[110, 117, 108, 108]⟩, a, b, c, v⟩ rs i = (rs.set a.toNat ((rs.getD a.toNat noR).1, truthI ((rs.getD b.toNat noR).1.1 == 0)), 0, i + 1) := by
  unfold stepR; simp only [ByteArray.toList_eq]; rfl
theorem step_some' : stepR R ⟨⟨#[115, 111, 109, 101]⟩, a, b, c, v⟩ rs i = (rs.set a.toNat ((rs.getD a.toNat noR).1, truthI ((rs.getD b.toNat noR).1.1 != 0)), 0, i + 1) := by
  unfold stepR; simp only [ByteArray.toList_eq]; rfl
theorem step_not : stepR R ⟨⟨#[110, 111, 116]⟩, a, b, c, v⟩ rs i = (rs.set a.toNat ((rs.getD a.toNat noR).1, notI (rs.getD b.toNat noR).2), 0, i + 1) := by
  unfold stepR; simp only [ByteArray.toList_eq]; rfl
theorem step_and : stepR R ⟨⟨#[97, 110, 100]⟩, a, b, c, v⟩ rs i = (rs.set a.toNat ((rs.getD a.toNat noR).1, andI (rs.getD b.toNat noR).2 (rs.getD c.toNat noR).2), 0, i + 1) := by
  unfold stepR; simp only [ByteArray.toList_eq]; rfl
theorem step_or : stepR R ⟨⟨#[111, 114]⟩, a, b, c, v⟩ rs i = (rs.set a.toNat ((rs.getD a.toNat noR).1, orI (rs.getD b.toNat noR).2 (rs.getD c.toNat noR).2), 0, i + 1) := by
  unfold stepR; simp only [ByteArray.toList_eq]; rfl
theorem step_copy : stepR R ⟨⟨#[99, 111, 112, 121]⟩, a, b, c, v⟩ rs i = (rs.set a.toNat (rs.getD b.toNat noR), 0, i + 1) := by
  unfold stepR; simp only [ByteArray.toList_eq]; rfl
theorem step_false : stepR R ⟨⟨#[102, 97, 108, 115, 101]⟩, a, b, c, v⟩ rs i = (rs, 0, if (rs.getD b.toNat noR).2 = 0 then c.toNat else i + 1) := by
  unfold stepR; simp only [ByteArray.toList_eq]; rfl
theorem step_true : stepR R ⟨⟨#[116, 114, 117, 101]⟩, a, b, c, v⟩ rs i = (rs, 0, if (rs.getD b.toNat noR).2 = 1 then c.toNat else i + 1) := by
  unfold stepR; simp only [ByteArray.toList_eq]; rfl
theorem step_cmp (op : ByteArray) (h : op = ⟨#[61]⟩ ∨ op = ⟨#[60, 62]⟩ ∨ op = ⟨#[60]⟩ ∨ op = ⟨#[60, 61]⟩ ∨ op = ⟨#[62]⟩ ∨ op = ⟨#[62, 61]⟩) : stepR R ⟨op, a, b, c, v⟩ rs i = (rs.set a.toNat ((rs.getD a.toNat noR).1, (cmpF op (rs.getD b.toNat noR).1.1 (rs.getD b.toNat noR).1.2.1 (rs.getD b.toNat noR).1.2.2 (rs.getD c.toNat noR).1.1 (rs.getD c.toNat noR).1.2.1 (rs.getD c.toNat noR).1.2.2).1), (cmpF op (rs.getD b.toNat noR).1.1 (rs.getD b.toNat noR).1.2.1 (rs.getD b.toNat noR).1.2.2 (rs.getD c.toNat noR).1.1 (rs.getD c.toNat noR).1.2.1 (rs.getD c.toNat noR).1.2.2).2, i + 1) := by
  rcases h with rfl | rfl | rfl | rfl | rfl | rfl <;> (unfold stepR; simp only [ByteArray.toList_eq]; rfl)
end
/-- what is told of a formed program's instruction -/
theorem formed_at {k : Int} {xs : List Ins} (h : formedP k xs = true) : (1 ≤ xs.length ∧ xs.length ≤ 1000 ∧ 1 ≤ k ∧ k ≤ 1000) ∧ ∀ j, j < xs.length → okI xs.length k j (xs.getD j noI) = true := by
  unfold formedP at h
  rw [Bool.and_eq_true, decide_eq_true_iff, List.all_eq_true] at h
  exact ⟨h.1, fun j hj => h.2 j (List.mem_range.2 hj)⟩
end Go.Proofs.Ytplgkblahmndoaa
