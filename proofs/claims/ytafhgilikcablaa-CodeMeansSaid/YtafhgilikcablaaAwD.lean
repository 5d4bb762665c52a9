/- What a cell is worth, the document's: argued; what Ask is to answer. Written by genask.py. -/
import Derived.Test.YtafhgilikcablaaLwLet
import Derived.Test.YtafhgilikcablaaSvVa
import Derived.Test.YtafhgilikcablaaVmDoc
import Derived.Test.YtafhgilikcablaaSvBx
import Derived.Test.YtafhgilikcablaaSvR1
import Derived.Test.YtafhgilikcablaaQTail
namespace Go.Proofs.Ytafhgilikcablaa
open Go.RowKit
set_option linter.unusedVariables false
set_option linter.unusedSimpArgs false
set_option maxRecDepth 100000
/-- a type's error is one of what was handed in -/
def unfE (e : Int) : Int := if e = 7 then 1 else e
def argF (v : Val) (t e : Int) : Val × Int × Int := if unfE e ≠ 0 then (noV, 0, unfE e) else (v, t, 0)
def recV (op : ByteArray) (a b : Val) : Val := ((recF op a.1 a.2.1 a.2.2 b.1 b.2.1 b.2.2).1, (recF op a.1 a.2.1 a.2.2 b.1 b.2.1 b.2.2).2.1, ⟨#[]⟩)
def recX (op : ByteArray) (a b : Val) : Int := (recF op a.1 a.2.1 a.2.2 b.1 b.2.1 b.2.2).2.2
def cmpV (op : ByteArray) (a b : Val) : Int × Int := cmpF op a.1 a.2.1 a.2.2 b.1 b.2.1 b.2.2
abbrev Wo := Val × Int × Int
def noW : Wo := (noV, 0, 1)
def askH (R : List (List Val)) (k : Int) (op : ByteArray) (v : Val) (s c : Int) (rs : List Wo) : Wo :=
  if k = 1 then (v, 0, 0) else if k = 2 then ((colF R s c).1, 0, (colF R s c).2)
  else if (rs.getD 0 noW).2.2 ≠ 0 then (noV, 0, (rs.getD 0 noW).2.2)
  else if k = 3 then (if op.toList = [78, 79, 84] then (noV, notI (rs.getD 0 noW).2.1, 0) else argF (recV ⟨#[45]⟩ (1, 0, ⟨#[]⟩) (rs.getD 0 noW).1) 0 (recX ⟨#[45]⟩ (1, 0, ⟨#[]⟩) (rs.getD 0 noW).1))
  else if k = 5 then (noV, truthI (((rs.getD 0 noW).1.1 == 0) == (op.toList == [73, 83, 32, 78, 85, 76, 76])), 0)
  else if (op.toList = [65, 78, 68] ∧ (rs.getD 0 noW).2.1 = 0) ∨ (op.toList = [79, 82] ∧ (rs.getD 0 noW).2.1 = 1) then (noV, (rs.getD 0 noW).2.1, 0)
  else if (rs.getD 1 noW).2.2 ≠ 0 then (noV, 0, (rs.getD 1 noW).2.2)
  else if reckB op = true then argF (recV op (rs.getD 0 noW).1 (rs.getD 1 noW).1) 0 (recX op (rs.getD 0 noW).1 (rs.getD 1 noW).1)
  else if op.toList = [65, 78, 68] then (noV, andI (rs.getD 0 noW).2.1 (rs.getD 1 noW).2.1, 0)
  else if op.toList = [79, 82] then (noV, orI (rs.getD 0 noW).2.1 (rs.getD 1 noW).2.1, 0)
  else argF noV (cmpV op (rs.getD 0 noW).1 (rs.getD 1 noW).1).1 (cmpV op (rs.getD 0 noW).1 (rs.getD 1 noW).1).2
mutual
def askV (R : List (List Val)) : CT → Wo
  | .mk k op vk vn vs s c ps => askH R k op (vk, vn, vs) s c (askL R ps)
def askL (R : List (List Val)) : List CT → List Wo
  | [] => []
  | p :: ps => askV R p :: askL R ps
end
/-- a cell of a kind: kinds fit, and there is no aggregate -/
inductive Wk : CT → Int → Prop
  | lit (vk vn : Int) (vs : ByteArray) (hf : formedB vk vn vs = true) (hn : InR vn) : Wk (.mk 1 ⟨#[]⟩ vk vn vs 0 0 []) vk
  | col (s c : Nat) (k : Int) (hk : 0 ≤ k ∧ k ≤ 2) : Wk (.mk 2 ⟨#[]⟩ 0 0 ⟨#[]⟩ s c []) k
  | not (op : ByteArray) (p : CT) (ho : op.toList = [78, 79, 84]) (hp : Wk p 3) : Wk (.mk 3 op 0 0 ⟨#[]⟩ 0 0 [p]) 3
  | neg (op : ByteArray) (p : CT) (k : Int) (ho : op.toList = [45]) (hk : k ≠ 3) (hp : Wk p k) : Wk (.mk 3 op 0 0 ⟨#[]⟩ 0 0 [p]) 1
  | test (op : ByteArray) (p : CT) (k : Int) (ho : op.toList = [73, 83, 32, 78, 85, 76, 76] ∨ op.toList = [73, 83, 32, 78, 79, 84, 32, 78, 85, 76, 76]) (hk : k ≠ 3) (hp : Wk p k) : Wk (.mk 5 op 0 0 ⟨#[]⟩ 0 0 [p]) 3
  | reck (op : ByteArray) (p q : CT) (k l : Int) (ho : op.toList = [43] ∨ op.toList = [45] ∨ op.toList = [42]) (hk : k ≠ 3) (hl : l ≠ 3) (hp : Wk p k) (hq : Wk q l) : Wk (.mk 4 op 0 0 ⟨#[]⟩ 0 0 [p, q]) 1
  | and (op : ByteArray) (p q : CT) (ho : op.toList = [65, 78, 68]) (hp : Wk p 3) (hq : Wk q 3) : Wk (.mk 4 op 0 0 ⟨#[]⟩ 0 0 [p, q]) 3
  | or (op : ByteArray) (p q : CT) (ho : op.toList = [79, 82]) (hp : Wk p 3) (hq : Wk q 3) : Wk (.mk 4 op 0 0 ⟨#[]⟩ 0 0 [p, q]) 3
  | cmp (op : ByteArray) (p q : CT) (k l : Int) (ho : op.toList = [61] ∨ op.toList = [60, 62] ∨ op.toList = [60] ∨ op.toList = [60, 61] ∨ op.toList = [62] ∨ op.toList = [62, 61]) (hk : k ≠ 3) (hl : l ≠ 3) (hp : Wk p k) (hq : Wk q l) : Wk (.mk 4 op 0 0 ⟨#[]⟩ 0 0 [p, q]) 3
theorem finV_ok {k : Int} {op : ByteArray} {may : Bool} {rs : List (CT × Int × Int)} (h : (finV k op may rs).2.2 = 0) : (∀ r ∈ rs, r.2.2 = 0) ∧ (((k == 6) && !may) || !(fitD k op (rs.map (·.2.1))).2) = false ∧ finV k op may rs = (.mk k op 0 0 ⟨#[]⟩ 0 0 (rs.map (·.1)), (fitD k op (rs.map (·.2.1))).1, 0) := by
  unfold finV at h ⊢
  cases hf : rs.find? (fun r => r.2.2 != 0) with
  | some r =>
    rw [hf] at h
    have := List.find?_some hf
    simp at this
    exact absurd h this
  | none =>
    rw [hf] at h
    have h0 : ∀ r ∈ rs, r.2.2 = 0 := fun r hr => by
      have := List.find?_eq_none.1 hf r hr
      simpa using this
    dsimp only at h ⊢
    cases hb : (((k == 6) && !may) || !(fitD k op (rs.map (·.2.1))).2) with
    | true => rw [hb, if_pos rfl] at h; exact absurd h (by decide)
    | false => exact ⟨h0, rfl, rfl⟩
/-- tables whose columns have kinds of values -/
def KindsOk (tabs : List TB) : Prop := ∀ t ∈ tabs, ∀ c ∈ t.cols, 0 ≤ c.kind ∧ c.kind ≤ 2
theorem colR_wk {F : FnD} (hF : KindsOk F.tabs) (hok : ∀ s ∈ F.srcs, s < F.tabs.length) {col : ByteArray} {i : Nat} (hi : i < F.srcs.length) (h : (colR F col i).2.2 = 0) : Wk (colR F col i).1 (colR F col i).2.1 := by
  by_cases hn : posI (coP col) (F.tab i).cols < 0
  · rw [colR_neg hn] at h; exact absurd h (by decide)
  · obtain ⟨n, hp⟩ : ∃ n : Nat, posI (coP col) (F.tab i).cols = (n : Int) := ⟨(posI (coP col) (F.tab i).cols).toNat, by omega⟩
    have hl := (posI_lt (p := coP col) (l := (F.tab i).cols)).2
    rw [hp] at hl
    have hnl : n < (F.tab i).cols.length := by omega
    rw [colR_pos hp]
    have ht : F.tab i ∈ F.tabs := by
      have hm := hok _ (List.getElem_mem hi)
      have : F.tab i = F.tabs[F.srcs[i]] := by
        unfold FnD.tab
        rw [List.getD_eq_getElem?_getD, List.getD_eq_getElem?_getD, List.getElem?_eq_getElem hi]
        show (F.tabs[F.srcs[i]]?).getD default = _
        rw [List.getElem?_eq_getElem hm]
        rfl
      rw [this]
      exact List.getElem_mem _
    refine Wk.col i n _ (hF _ ht _ ?_)
    rw [List.getD_eq_getElem?_getD, List.getElem?_eq_getElem hnl]
    exact List.getElem_mem _
theorem oneOf_mem : ∀ {l : List Nat} {i : Nat}, oneOf l = some i → i ∈ l
  | [a], i, h => by
    have h : some a = some i := h
    cases h
    exact List.mem_singleton.2 rfl
theorem colI_lt {F : FnD} {t col : ByteArray} {i : Nat} (hn : F.names.length = F.srcs.length) (h : colI F t col = some i) : i < F.srcs.length := by
  unfold colI at h
  split at h
  · have := (List.mem_filter.1 (oneOf_mem h)).1
    exact List.mem_range.1 this
  · have := (List.findIdx?_eq_some_iff_getElem.1 h).1
    omega
theorem colV_wk {F : FnD} (hF : KindsOk F.tabs) (hok : ∀ s ∈ F.srcs, s < F.tabs.length) (hn : F.names.length = F.srcs.length) {t col : ByteArray} (h : (colV F t col).2.2 = 0) : Wk (colV F t col).1 (colV F t col).2.1 := by
  cases hc : colI F t col with
  | none => rw [colV_none hc] at h; exact absurd h (by decide)
  | some i => rw [colV_hit hc] at h ⊢; exact colR_wk hF hok (colI_lt hn hc) h
end Go.Proofs.Ytafhgilikcablaa
namespace Go.Proofs.Ytafhgilikcablaa
open Go.RowKit
set_option linter.unusedVariables false
set_option linter.unusedSimpArgs false
set_option maxRecDepth 100000
theorem wf_inR {n : Int} (h : (Lit.int .i64 n).wf = true) : InR n := bounds_i64 h
mutual
def RgE : ET → Prop
  | .mk _ _ _ vn _ _ _ ps => InR vn ∧ RgEL ps
def RgEL : List ET → Prop
  | [] => True
  | p :: ps => RgE p ∧ RgEL ps
end
theorem RgE_is (e : ET) : RgE e = (InR e.vn ∧ RgEL e.parts) := by cases e; rfl
theorem RgEL_mem {p : ET} : ∀ {l : List ET}, RgEL l → p ∈ l → RgE p
  | q :: l, h, hp => by
    rcases List.mem_cons.1 hp with rfl | hp
    · exact h.1
    · exact RgEL_mem h.2 hp
theorem RgEL_all : ∀ {l : List ET}, (∀ i (h : i < l.length), RgE (l[i])) → RgEL l
  | [], _ => trivial
  | p :: l, h => ⟨h 0 (Nat.succ_pos _), RgEL_all (fun i hi => h (i + 1) (Nat.succ_lt_succ hi))⟩
theorem EL.rg {w : World} {Q : Nat → Prop} {a : Option Addr} {l : List ET} (h : EL w Q a l) : RgEL l := by
  induction h with
  | nil a => trivial
  | row b off l sa sc hq hb hc hr hs ih =>
    exact RgEL_all (fun i hi => by rw [RgE_is]; exact ⟨wf_inR (hr i hi).n, ih i hi⟩)
theorem EV.rg {w : World} {Q : Nat → Prop} {v : Value} {e : ET} (h : EV w Q v e) : RgE e := by
  obtain ⟨sa, sc, rfl, hr, hl⟩ := h
  rw [RgE_is]
  exact ⟨wf_inR hr.n, hl.rg⟩
theorem numB_ne {a : Int} (h : numB a = true) : a ≠ 3 := by
  unfold numB at h
  simp at h
  omega
theorem shD_lit {nm : ByteArray → Bool} {fm : Int → Int → ByteArray → Bool} {e : ET} (h : shD nm fm e = true) (h1 : e.kind = 1) : fm e.vk e.vn e.vs = true := by
  unfold shD at h
  rw [if_pos h1] at h
  simp only [Bool.and_eq_true] at h
  exact h.1.2
theorem len1' {α : Type} {l : List α} (h : l.length = 1) : ∃ a, l = [a] := List.length_eq_one_iff.1 h
theorem resV_wk (F : FnD) (hF : KindsOk F.tabs) (hok : ∀ s ∈ F.srcs, s < F.tabs.length) (hn : F.names.length = F.srcs.length) (nm : ByteArray → Bool) : ∀ (N : Nat) (e : ET) (d : Nat), etSz e ≤ N → RgE e → sndB (shD nm formedB) d e = true → (resV F false e).2.2 = 0 → Wk (resV F false e).1 (resV F false e).2.1 := by
  intro N
  induction N with
  | zero => intro e d h; rw [etSz_is] at h; omega
  | succ N ih =>
    intro e d h hr hs h0
    rw [RgE_is] at hr
    by_cases h1 : e.kind = 1
    · rw [resV_1 F false e h1]
      exact Wk.lit _ _ _ (shD_lit (snd_top hs) h1) hr.1
    by_cases h2 : e.kind = 2
    · rw [resV_2 F false e h2] at h0 ⊢
      exact colV_wk hF hok hn h0
    have hok2 := shD_ok (snd_top hs) h1 h2
    have hIH : ∀ p ∈ e.parts, (resV F false p).2.2 = 0 → Wk (resV F false p).1 (resV F false p).2.1 := fun p hp => ih p (d - 1) (by have := etSz_part hp; omega) (RgEL_mem hr.2 hp) (snd_part hs hp)
    rw [resV_n F false e h1 h2, Bool.false_and] at h0 ⊢
    obtain ⟨hz, hb, he⟩ := finV_ok h0
    rw [he]
    simp only [List.map_map] at hb ⊢
    have hz : ∀ p ∈ e.parts, (resV F false p).2.2 = 0 := fun p hp => hz _ (List.mem_map_of_mem hp)
    rcases hok2 with ⟨k3, hl, ho⟩ | ⟨k3, hl, ho⟩ | ⟨k3, hl, ho⟩ | ⟨k3, hl, ho⟩ | ⟨k3, hl, ho⟩
    · obtain ⟨p, hp⟩ := len1' hl
      rw [hp] at hb hIH hz ⊢
      have w1 := hIH p List.mem_cons_self (hz p List.mem_cons_self)
      rw [k3] at hb ⊢
      rcases ho with ho | ho
      · simp [fitD, ho] at hb
        rw [show (fitD 3 e.op ([p].map ((fun x => x.2.1) ∘ resV F false))).1 = 3 by simp [fitD, ho]]
        refine Wk.not e.op _ ho ?_
        rw [hb] at w1
        exact w1
      · simp [fitD, ho] at hb
        rw [show (fitD 3 e.op ([p].map ((fun x => x.2.1) ∘ resV F false))).1 = 1 by simp [fitD, ho]]
        exact Wk.neg e.op _ _ ho (numB_ne hb) w1
    · obtain ⟨p, q, hp⟩ := len2 hl
      rw [hp] at hb hIH hz ⊢
      have w1 := hIH p List.mem_cons_self (hz p List.mem_cons_self)
      have w2 := hIH q (List.mem_cons_of_mem _ List.mem_cons_self) (hz q (List.mem_cons_of_mem _ List.mem_cons_self))
      rw [k3] at hb ⊢
      have key : (e.op.toList = [79, 82] ∨ e.op.toList = [65, 78, 68]) ∨ (e.op.toList = [61] ∨ e.op.toList = [60, 62] ∨ e.op.toList = [60] ∨ e.op.toList = [60, 61] ∨ e.op.toList = [62] ∨ e.op.toList = [62, 61]) ∨ (e.op.toList = [43] ∨ e.op.toList = [45] ∨ e.op.toList = [42]) := by
        rcases ho with h | h | h | h | h | h | h | h | h | h | h <;> simp [h]
      rcases key with hx | hx | hx
      · have hre : reckB e.op = false := by unfold reckB; rcases hx with h | h <;> simp [h]
        have ho2 : e.op.toList = [65, 78, 68] ∨ e.op.toList = [79, 82] := hx.symm
        simp [fitD, hre, ho2] at hb
        rw [show (fitD 4 e.op ([p, q].map ((fun x => x.2.1) ∘ resV F false))).1 = 3 by simp [fitD, hre, ho2]]
        rw [hb.1] at w1
        rw [hb.2] at w2
        rcases hx with h | h
        · exact Wk.or e.op _ _ h w1 w2
        · exact Wk.and e.op _ _ h w1 w2
      · have hre : reckB e.op = false := by unfold reckB; rcases hx with h | h | h | h | h | h <;> simp [h]
        have ho2 : ¬ (e.op.toList = [65, 78, 68] ∨ e.op.toList = [79, 82]) := by rcases hx with h | h | h | h | h | h <;> simp [h]
        simp [fitD, hre, ho2] at hb
        rw [show (fitD 4 e.op ([p, q].map ((fun x => x.2.1) ∘ resV F false))).1 = 3 by simp [fitD, hre, ho2]]
        exact Wk.cmp e.op _ _ _ _ hx hb.1.1 hb.1.2 w1 w2
      · have hre : reckB e.op = true := by unfold reckB; rcases hx with h | h | h <;> simp [h]
        simp [fitD, hre] at hb
        rw [show (fitD 4 e.op ([p, q].map ((fun x => x.2.1) ∘ resV F false))).1 = 1 by simp [fitD, hre]]
        exact Wk.reck e.op _ _ _ _ hx (numB_ne hb.1) (numB_ne hb.2) w1 w2
    · obtain ⟨p, hp⟩ := len1' hl
      rw [hp] at hb hIH hz ⊢
      have w1 := hIH p List.mem_cons_self (hz p List.mem_cons_self)
      rw [k3] at hb ⊢
      simp [fitD] at hb
      rw [show (fitD 5 e.op ([p].map ((fun x => x.2.1) ∘ resV F false))).1 = 3 by simp [fitD]]
      exact Wk.test e.op _ _ ho hb w1
    · rw [k3] at hb; simp at hb
    · rw [k3] at hb; simp at hb
end Go.Proofs.Ytafhgilikcablaa
namespace Go.Proofs.Ytafhgilikcablaa
open Go.RowKit
set_option linter.unusedVariables false
set_option linter.unusedSimpArgs false
set_option maxRecDepth 100000

theorem results_v3 {fn : Func} {p u t : Tmp} (h : fn.results = #[.cell p 38, .tmp u, .tmp t]) (tmps : Array Value) (w : World) (g : Nat) (x y z : Value)
    (hp : tmps.getD p undef = .pointer (some ⟨g, 0, none⟩)) (hg : w.heap[g]? = some (.cells #[x, y, z] 38 (0, 0))) :
    (results fn tmps).run Try.prog w = .ok (.tuple #[.agg #[x, y, z], tmps.getD u undef, tmps.getD t undef]) w := by
  have hp' : tmps[p]?.getD undef = .pointer (some ⟨g, 0, none⟩) := by simpa using hp
  have hl := run_loadVar_row (P := Try.prog) w g 38 38 #[x, y, z] (0, 0) _ hg Try.underlying38 rfl (by
    have : (Try.prog.info? 38).map (·.size) = some 3 := by kernel_rfl
    exact this)
  simp [results, h, hp', asAddr, hl]
def AskP (w : World) (y : Wo) (e : Ending) (w' : World) : Prop := e = .returned (.tuple #[.agg #[.int .i64 y.1.1, .int .i64 y.1.2.1, .string y.1.2.2], .int .i64 y.2.1, .int .i64 y.2.2]) ∧ Below w.heap.size w w'
theorem v3_below {w w1 : World} {N K : Nat} (hK : K ≤ N) (h : Below K w w1) (a b c : Value) : Below K w (((w1.setCell ⟨N, 0, none⟩ a).setCell ⟨N, 1, none⟩ b).setCell ⟨N, 2, none⟩ c) := ((h.setCell hK _).setCell hK _).setCell hK _
theorem v3 {w : World} {N : Nat} {x y z : Value} {T : TypeId} (h : w.heap[N]? = some (.cells #[x, y, z] T (0, 0))) : w.cell? ⟨N, 0, none⟩ = some x ∧ w.cell? ⟨N, 1, none⟩ = some y ∧ w.cell? ⟨N, 2, none⟩ = some z ∧ w.frozen? ⟨N, 0, none⟩ = false ∧ w.frozen? ⟨N, 1, none⟩ = false ∧ w.frozen? ⟨N, 2, none⟩ = false ∧ N < w.heap.size :=
  ⟨cell_of_row w _ 0 _ _ _ h, cell_of_row w _ 1 _ _ _ h, cell_of_row w _ 2 _ _ _ h, frozen_of_row w _ 0 _ _ h, frozen_of_row w _ 1 _ _ h, frozen_of_row w _ 2 _ _ h, (Array.getElem?_eq_some_iff.1 h).1⟩
set_option maxHeartbeats 3200000 in
theorem argued_any (v : Val) (t e : Int) (w : World) : Calls Try.prog 112 #[.agg #[.int .i64 v.1, .int .i64 v.2.1, .string v.2.2], .int .i64 t, .int .i64 e] w (AskP w (argF v t e)) := by
  have HB := Lib.hid (bel0 (.cells #[.int .i64 0, .int .i64 0, .string ⟨#[]⟩] 38) (bel0 (.cells #[.int .i64 v.1, .int .i64 v.2.1, .string v.2.2] 38) (Below.refl w.heap.size w)))
  have HBX := Lib.hid (boxes2 w (.cells #[.int .i64 v.1, .int .i64 v.2.1, .string v.2.2] 38 (0, 0)) (.cells #[.int .i64 0, .int .i64 0, .string ⟨#[]⟩] 38 (0, 0)))
  obtain ⟨y, hy⟩ : ∃ y, y = argF v t e := ⟨_, rfl⟩
  have HY := Lib.hid hy
  rw [← hy]
  clear hy
  have key : ∀ (W : World), Below w.heap.size w W → W.heap[w.heap.size + 1]? = some (.cells #[.int .i64 0, .int .i64 0, .string ⟨#[]⟩] 38 (0, 0)) → True := fun _ _ _ => trivial
  clear key
  go_enter Try.func112, Try.ntmps112
  go_upto_region 1 with (fail)
  generalize ((w.alloc (.cells #[.int .i64 v.1, .int .i64 v.2.1, .string v.2.2] 38)).alloc (.cells #[.int .i64 0, .int .i64 0, .string ⟨#[]⟩] 38)) = w1 at *
  obtain ⟨⟨h0, h1⟩, -⟩ := HBX.out
  obtain ⟨a0, a1, a2, a3, a4, a5, a6⟩ := v3 h0
  obtain ⟨b0, b1, b2, b3, b4, b5, b6⟩ := v3 h1
  have HX0 := Lib.hid (vbox3 h1 (.int .i64 0) (.int .i64 0) (.string ⟨#[]⟩))
  have HX1 := Lib.hid (vbox3 h1 (.int .i64 v.1) (.int .i64 v.2.1) (.string v.2.2))
  have HB0 := Lib.hid (v3_below (K := w.heap.size) (N := w.heap.size + 1) (by omega) HB.out (.int .i64 0) (.int .i64 0) (.string ⟨#[]⟩))
  have HB1 := Lib.hid (v3_below (K := w.heap.size) (N := w.heap.size + 1) (by omega) HB.out (.int .i64 v.1) (.int .i64 v.2.1) (.string v.2.2))
  clear h0 h1 HBX
  by_cases h7 : e = 7
  · have HQ := Lib.hid (show y = (noV, 0, 1) by rw [HY.out]; unfold argF unfE; rw [if_pos h7]; rfl)
    subst h7
    go_wp2
    refine bodyPost_ret (results_v3 rfl _ _ (w.heap.size + 1) _ _ _ rfl HX0.out) rfl ?_
    rw [HQ.out]
    exact ⟨rfl, HB0.out⟩
  · by_cases h0 : e = 0
    · have HQ := Lib.hid (show y = (v, t, 0) by rw [HY.out]; unfold argF unfE; rw [if_neg h7, if_neg (by rw [h0]; decide)])
      subst h0
      go_wp2
      refine bodyPost_ret (results_v3 rfl _ _ (w.heap.size + 1) _ _ _ rfl HX1.out) rfl ?_
      rw [HQ.out]
      exact ⟨rfl, HB1.out⟩
    · have HQ := Lib.hid (show y = (noV, 0, e) by rw [HY.out]; unfold argF unfE; rw [if_neg h7, if_pos h0])
      go_wp2
      refine bodyPost_ret (results_v3 rfl _ _ (w.heap.size + 1) _ _ _ rfl HX0.out) rfl ?_
      rw [HQ.out]
      exact ⟨rfl, HB0.out⟩
/-- Ask of a cell, whatever the world -/
def AskI (R : List (List Val)) (c : CT) : Prop := ∀ (w : World) (Wb : Nat) (a : Option Addr) (len cap : Nat) (Q : Nat → Prop) (v : Value), IsRR w a len R → w.heap[Wb]? = some (.cells #[.slice a len cap, .slice none 0 0, .slice none 0 0, .slice none 0 0, .bool false] 134 (0, 0)) → CV w Q v c →
  Calls Try.prog 71 #[.pointer (some ⟨Wb, 0, none⟩), v] w (AskP w (askV R c))
theorem worthy5 {w : World} {N : Nat} {T : TypeId} {x y z u v : Value} (h : w.heap[N]? = some (.cells #[x, y, z, u, v] T (0, 0))) : w.cell? ⟨N, 0, none⟩ = some x ∧ w.cell? ⟨N, 4, none⟩ = some v ∧ N < w.heap.size :=
  ⟨cell_of_row w _ 0 _ _ _ h, cell_of_row w _ 4 _ _ _ h, (Array.getElem?_eq_some_iff.1 h).1⟩
end Go.Proofs.Ytafhgilikcablaa
