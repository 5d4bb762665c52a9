/- ExprBack, pure: the taker reads an expression's words. -/
import Derived.Test.YtpinalpigefenaaGreatDoorTkPure
import Derived.Lib.ItoaNum
set_option linter.unusedVariables false
set_option linter.unusedSimpArgs false
set_option maxRecDepth 100000
namespace Go.Proofs.YtpinalpigefenaaGreatDoor
open Go.RowKit
/-- how strong an expression is -/
def lvlE (e : ET) : Int :=
  if e.kind = 3 then (if e.op = bs [78, 79, 84] then 3 else 7) else if e.kind = 4 then levB e.op.data.toList else if e.kind = 5 then 4 else 8
/-- an operator's kind of word -/
def opK (t : Bs) : Int := if t = [79, 82] ∨ t = [65, 78, 68] then 1 else 4
/-- a number's digits -/
def dgt (n : Int) : Bs := Lib.decDigits n.toNat
/-- the words of an expression's text -/
def wT : Nat → ET → List Wd
  | 0, _ => []
  | n + 1, e =>
    if e.kind = 1 then (if e.vk = 1 then [(2, dgt e.vn, e.vn)] else if e.vk = 2 then [(3, e.vs.data.toList, 0)] else [(1, [78, 85, 76, 76], 0)])
    else if e.kind = 2 then (if e.tab = ⟨#[]⟩ then [(1, e.col.data.toList, 0)] else [(1, e.tab.data.toList, 0), (4, [46], 0), (1, e.col.data.toList, 0)])
    else match e.parts with
      | [] => [(1, e.op.data.toList, 0), (4, [40], 0), (4, [42], 0), (4, [41], 0)]
      | p :: r =>
        if e.kind = 6 then (1, e.op.data.toList, 0) :: (4, [40], 0) :: (wT n p ++ [(4, [41], 0)])
        else if e.kind = 3 then (if e.op = bs [78, 79, 84] then (1, [78, 79, 84], 0) :: (if 3 ≤ lvlE p then wT n p else (4, [40], 0) :: (wT n p ++ [(4, [41], 0)]))
          else (4, [45], 0) :: (if 8 ≤ lvlE p then wT n p else (4, [40], 0) :: (wT n p ++ [(4, [41], 0)])))
        else if e.kind = 5 then (if 5 ≤ lvlE p then wT n p else (4, [40], 0) :: (wT n p ++ [(4, [41], 0)])) ++ (1, [73, 83], 0) :: (if e.op = bs [73, 83, 32, 78, 85, 76, 76] then [(1, [78, 85, 76, 76], 0)] else [(1, [78, 79, 84], 0), (1, [78, 85, 76, 76], 0)])
        else match r with
          | [] => []
          | q :: _ => (if leftL (lvlE e) ≤ lvlE p then wT n p else (4, [40], 0) :: (wT n p ++ [(4, [41], 0)])) ++ (opK e.op.data.toList, e.op.data.toList, 0) :: (if lvlE e + 1 ≤ lvlE q then wT n q else (4, [40], 0) :: (wT n q ++ [(4, [41], 0)]))
/-- one round of take's loop -/
def Rnd (nm : ByteArray → Bool) (ws : List Wd) (a b : Pt × Bool × Tk) : Prop := ∀ n, takeP nm ws (n + 1) a.1 a.2.1 a.2.2 = takeP nm ws n b.1 b.2.1 b.2.2
/-- some rounds -/
def Rnds (nm : ByteArray → Bool) (ws : List Wd) (k : Nat) (a b : Pt × Bool × Tk) : Prop := ∀ n, takeP nm ws (n + k) a.1 a.2.1 a.2.2 = takeP nm ws n b.1 b.2.1 b.2.2
theorem Rnds.zero (nm : ByteArray → Bool) (ws : List Wd) (a : Pt × Bool × Tk) : Rnds nm ws 0 a a := fun _ => rfl
theorem Rnds.trans {nm : ByteArray → Bool} {ws : List Wd} {j k : Nat} {a b c : Pt × Bool × Tk} (h : Rnds nm ws j a b) (h' : Rnds nm ws k b c) : Rnds nm ws (j + k) a c := fun n => by
  rw [show n + (j + k) = n + k + j by omega, h, h']
theorem Rnd.one {nm : ByteArray → Bool} {ws : List Wd} {a b : Pt × Bool × Tk} (h : Rnd nm ws a b) : Rnds nm ws 1 a b := h
/-- the words l stand at i -/
def AtW (ws : List Wd) (i : Nat) (l : List Wd) : Prop := ∀ k (h : k < l.length), i + k < ws.length ∧ wdAt ws (i + k) = l[k]
theorem AtW.app {ws : List Wd} {i : Nat} {l m : List Wd} (h : AtW ws i (l ++ m)) : AtW ws i l ∧ AtW ws (i + l.length) m := by
  refine ⟨fun k hk => ?_, fun k hk => ?_⟩
  · have := h k (by rw [List.length_append]; omega)
    rw [List.getElem_append_left hk] at this
    exact this
  · have := h (l.length + k) (by rw [List.length_append]; omega)
    rw [List.getElem_append_right (by omega)] at this
    simpa [Nat.add_assoc] using this
theorem AtW.head {ws : List Wd} {i : Nat} {x : Wd} {l : List Wd} (h : AtW ws i (x :: l)) : i < ws.length ∧ wdAt ws i = x ∧ AtW ws (i + 1) l := by
  refine ⟨(h 0 (by simp)).1, (h 0 (by simp)).2, fun k hk => ?_⟩
  have := h (k + 1) (by simp; omega)
  rw [show i + (k + 1) = i + 1 + k by omega] at this
  simpa using this
theorem isW_at {ws : List Wd} {i : Nat} {x : Wd} (h : i < ws.length) (hx : wdAt ws i = x) (k : Int) (t : Bs) : isW ws i k t = (x.1 == k && x.2.1 == t) := by
  unfold isW
  rw [hx, decide_eq_true h, Bool.true_and]
/-- formed, and so deep at most -/
inductive FmE (nm : ByteArray → Bool) : Nat → ET → Prop
  | lit {n : Nat} {vk vn : Int} {vs : ByteArray} (h : (vk = 0 ∧ vn = 0 ∧ vs = ⟨#[]⟩) ∨ (vk = 1 ∧ 0 ≤ vn ∧ vs = ⟨#[]⟩) ∨ (vk = 2 ∧ vn = 0 ∧ vs.size ≤ 100)) : FmE nm (n + 1) (.mk 1 ⟨#[]⟩ vk vn vs ⟨#[]⟩ ⟨#[]⟩ [])
  | col {n : Nat} {t c : ByteArray} (h : nm c = true) (h2 : t = ⟨#[]⟩ ∨ nm t = true) : FmE nm (n + 1) (.mk 2 ⟨#[]⟩ 0 0 ⟨#[]⟩ t c [])
  | una {n : Nat} {op : ByteArray} {p : ET} (h : op = bs [78, 79, 84] ∨ op = bs [45]) (hp : FmE nm n p) : FmE nm (n + 1) (.mk 3 op 0 0 ⟨#[]⟩ ⟨#[]⟩ ⟨#[]⟩ [p])
  | bin {n : Nat} {op : ByteArray} {p q : ET} (h : levB op.data.toList ≠ 0) (hp : FmE nm n p) (hq : FmE nm n q) : FmE nm (n + 1) (.mk 4 op 0 0 ⟨#[]⟩ ⟨#[]⟩ ⟨#[]⟩ [p, q])
  | tst {n : Nat} {op : ByteArray} {p : ET} (h : op = bs [73, 83, 32, 78, 85, 76, 76] ∨ op = bs [73, 83, 32, 78, 79, 84, 32, 78, 85, 76, 76]) (hp : FmE nm n p) : FmE nm (n + 1) (.mk 5 op 0 0 ⟨#[]⟩ ⟨#[]⟩ ⟨#[]⟩ [p])
  | agg {n : Nat} {op : ByteArray} {p : ET} (h : aggB op.data.toList = true) (hp : FmE nm n p) : FmE nm (n + 1) (.mk 6 op 0 0 ⟨#[]⟩ ⟨#[]⟩ ⟨#[]⟩ [p])
  | cnt {n : Nat} : FmE nm (n + 1) (.mk 6 (bs [67, 79, 85, 78, 84]) 0 0 ⟨#[]⟩ ⟨#[]⟩ ⟨#[]⟩ [])
/-- the level of the operator that stands there -/
def nxL (ws : List Wd) (i : Nat) : Int := (optrP ws ⟨i, 0, []⟩).2
/-- e's words, read -/
def RdE (nm : ByteArray → Bool) (ws : List Wd) (l : List Wd) (e : ET) (lv : Int) (N : Nat) (s : Tk) : Prop :=
  ∃ k, ∃ d : Int, k + 1 ≤ 2 * l.length ∧ 1 ≤ d ∧ d ≤ N ∧ ∀ F, ws.length < F + s.pos → Rnds nm ws k (operP nm ws F s) (⟨e, lv, d⟩, true, ⟨s.pos + l.length, s.least, s.op⟩)
theorem bs_back (b : ByteArray) : bs b.data.toList = b := by cases b; rfl
theorem rd_lit {nm : ByteArray → Bool} {ws : List Wd} {n : Nat} {vk vn : Int} {vs : ByteArray} (h : (vk = 0 ∧ vn = 0 ∧ vs = ⟨#[]⟩) ∨ (vk = 1 ∧ 0 ≤ vn ∧ vs = ⟨#[]⟩) ∨ (vk = 2 ∧ vn = 0 ∧ vs.size ≤ 100)) (s : Tk)
    (ha : AtW ws s.pos (wT (n + 1) (.mk 1 ⟨#[]⟩ vk vn vs ⟨#[]⟩ ⟨#[]⟩ []))) : RdE nm ws (wT (n + 1) (.mk 1 ⟨#[]⟩ vk vn vs ⟨#[]⟩ ⟨#[]⟩ [])) (.mk 1 ⟨#[]⟩ vk vn vs ⟨#[]⟩ ⟨#[]⟩ []) 8 (n + 1) s := by
  have hb := bs_back vs
  rcases h with ⟨rfl, rfl, rfl⟩ | ⟨rfl, h0, rfl⟩ | ⟨rfl, rfl, h0⟩
  all_goals
    have hw := ha
    simp only [wT, ET.kind, ET.vk, ET.vn, ET.vs, if_true, if_false, reduceIte, (by decide : ¬ (0 : Int) = 1), (by decide : ¬ (0 : Int) = 2), (by decide : ¬ (2 : Int) = 1)] at hw ⊢
    obtain ⟨hl, hx, -⟩ := hw.head
    refine ⟨0, 1, by simp, by omega, by omega, fun F hF => ?_⟩
    obtain ⟨F, rfl⟩ : ∃ G, F = G + 1 := ⟨F - 1, by omega⟩
    intro m
    simp_all [operP, wordP, isW_at hl hx, Nat.not_le.2 hl, buildP, maxD, adv, aggB]
/-- what a name isn't -/
def NmOk (nm : ByteArray → Bool) : Prop := ∀ t : ByteArray, nm t = true → t.data.toList ≠ [78, 79, 84] ∧ t.data.toList ≠ [78, 85, 76, 76] ∧ aggB t.data.toList = false
theorem rd_col {nm : ByteArray → Bool} (hnm : NmOk nm) {ws : List Wd} {n : Nat} {t c : ByteArray} (h : nm c = true) (h2 : t = ⟨#[]⟩ ∨ nm t = true) (s : Tk)
    (ha : AtW ws s.pos (wT (n + 1) (.mk 2 ⟨#[]⟩ 0 0 ⟨#[]⟩ t c []))) (hx : ∀ i, i = s.pos + (wT (n + 1) (.mk 2 ⟨#[]⟩ 0 0 ⟨#[]⟩ t c [])).length → isW ws i 4 [46] = false) : RdE nm ws (wT (n + 1) (.mk 2 ⟨#[]⟩ 0 0 ⟨#[]⟩ t c [])) (.mk 2 ⟨#[]⟩ 0 0 ⟨#[]⟩ t c []) 8 (n + 1) s := by
  have hc := bs_back c
  have ht := bs_back t
  obtain ⟨c1, c2, c3⟩ := hnm c h
  by_cases h0 : t = ⟨#[]⟩
  · subst h0
    have hw := ha
    simp only [wT, ET.kind, ET.tab, ET.col, if_true, if_false, reduceIte, (by decide : ¬ (2 : Int) = 1)] at hw hx ⊢
    obtain ⟨hl, hw0, -⟩ := hw.head
    have hd := hx (s.pos + 1) (by simp)
    refine ⟨0, 1, by simp, by omega, by omega, fun F hF => ?_⟩
    obtain ⟨F, rfl⟩ : ∃ G, F = G + 1 := ⟨F - 1, by omega⟩
    intro m
    simp_all [operP, wordP, colP, nameP, isW_at hl hw0, Nat.not_le.2 hl, buildP, maxD, adv]
  · have h3 := h2.resolve_left h0
    obtain ⟨t1, t2, t3⟩ := hnm t h3
    have hw := ha
    simp only [wT, ET.kind, ET.tab, ET.col, if_true, if_false, reduceIte, (by decide : ¬ (2 : Int) = 1), h0] at hw hx ⊢
    obtain ⟨hl, hw0, hw⟩ := hw.head
    obtain ⟨hl1, hw1, hw⟩ := hw.head
    obtain ⟨hl2, hw2, -⟩ := hw.head
    refine ⟨0, 1, by simp, by omega, by omega, fun F hF => ?_⟩
    obtain ⟨F, rfl⟩ : ∃ G, F = G + 1 := ⟨F - 1, by omega⟩
    intro m
    simp_all [operP, wordP, colP, nameP, isW_at hl hw0, isW_at hl1 hw1, Nat.not_le.2 hl, buildP, maxD, adv]
theorem lev_vals (t : Bs) : levB t = 0 ∨ levB t = 1 ∨ levB t = 2 ∨ levB t = 4 ∨ levB t = 5 ∨ levB t = 6 := by
  unfold levB
  repeat' split
  all_goals simp
theorem nx_vals (ws : List Wd) (i : Nat) : nxL ws i = 0 ∨ nxL ws i = 1 ∨ nxL ws i = 2 ∨ nxL ws i = 4 ∨ nxL ws i = 5 ∨ nxL ws i = 6 := by
  unfold nxL optrP
  dsimp only
  repeat' split
  all_goals first | exact lev_vals _ | simp
/-- what waits is closed -/
theorem rd_pop (nm : ByteArray → Bool) (ws : List Wd) (l : Pt) (s : Tk) (p : Pd) (R : List Pd) (hs : s.op = R ++ [p]) (hn : ¬ (s.least ≤ nxL ws s.pos ∧ leftL (nxL ws s.pos) ≤ l.lv)) :
    Rnds nm ws 1 (l, true, s) (closeP ws l s p R) := by
  intro n
  have h1 : ¬ (s.least ≤ (optrP ws s).2 ∧ leftL (optrP ws s).2 ≤ l.lv) := hn
  show takeP nm ws (n + 1) l true s = _
  rw [takeP]
  have h2 : ¬ (s.least ≤ (optrP ws s).2 ∧ leftL (optrP ws s).2 ≤ l.lv ∧ (optrP ws s).1 = [73, 83]) := fun h => h1 ⟨h.1, h.2.1⟩
  simp [h1, h2, hs]
theorem nx_at {ws : List Wd} {i : Nat} {x : Wd} (h : i < ws.length) (hx : wdAt ws i = x) : nxL ws i = if x.1 = 1 then (if x.2.1 = [73, 83] then 4 else if x.2.1 = [79, 82] ∨ x.2.1 = [65, 78, 68] then levB x.2.1 else 0) else if x.1 = 4 then levB x.2.1 else 0 := by
  unfold nxL optrP
  rw [if_neg (Nat.not_le.2 h)]
  dsimp only
  rw [hx]
  repeat' split
  all_goals first | rfl | simp_all
def parW (l : List Wd) : List Wd := (4, [40], 0) :: (l ++ [(4, [41], 0)])
theorem rd_par {nm : ByteArray → Bool} {ws : List Wd} {l : List Wd} {e : ET} {lv : Int} {N : Nat} {s : Tk} (ha : AtW ws s.pos (parW l))
    (h : RdE nm ws l e lv N ⟨s.pos + 1, 1, s.op ++ [⟨0, ⟨#[]⟩, 0, [], true, s.least⟩]⟩) : RdE nm ws (parW l) e 8 N s := by
  obtain ⟨hl, hw0, hr⟩ := ha.head
  obtain ⟨hin, hout⟩ := hr.app
  obtain ⟨hl2, hw2, -⟩ := hout.head
  obtain ⟨k, d, h1, h2, h3, h4⟩ := h
  have hlen : (parW l).length = l.length + 2 := by simp [parW]
  refine ⟨k + 1, d, by rw [hlen]; omega, h2, h3, fun F hF => ?_⟩
  obtain ⟨F, rfl⟩ : ∃ G, F = G + 1 := ⟨F - 1, by omega⟩
  have ho : operP nm ws (F + 1) s = operP nm ws F ⟨s.pos + 1, 1, s.op ++ [⟨0, ⟨#[]⟩, 0, [], true, s.least⟩]⟩ := by
    rw [operP]
    simp [isW_at hl hw0, waitP, adv]
  rw [ho]
  have hp := rd_pop nm ws ⟨e, lv, d⟩ ⟨s.pos + 1 + l.length, 1, s.op ++ [⟨0, ⟨#[]⟩, 0, [], true, s.least⟩]⟩ ⟨0, ⟨#[]⟩, 0, [], true, s.least⟩ s.op rfl (fun hh => by
    have h0 : nxL ws (s.pos + 1 + l.length) = 0 := by rw [nx_at hl2 hw2]; decide
    have h1 : (1 : Int) ≤ nxL ws (s.pos + 1 + l.length) := hh.1
    omega)
  have hc : closeP ws ⟨e, lv, d⟩ ⟨s.pos + 1 + l.length, 1, s.op ++ [⟨0, ⟨#[]⟩, 0, [], true, s.least⟩]⟩ ⟨0, ⟨#[]⟩, 0, [], true, s.least⟩ s.op = (⟨e, 8, d⟩, true, ⟨s.pos + (parW l).length, s.least, s.op⟩) := by
    unfold closeP
    simp [isW_at hl2 hw2, adv, hlen]
    omega
  rw [hc] at hp
  exact (h4 F (by show ws.length < F + (s.pos + 1); omega)).trans hp
/-- what may stand behind -/
def Fol (ws : List Wd) (i : Nat) (lv : Int) : Prop := nxL ws i ≤ lv ∧ isW ws i 4 [46] = false
/-- e's words are read as e, wherever they stand -/
def RdOk (nm : ByteArray → Bool) (ws : List Wd) (n : Nat) (e : ET) : Prop := ∀ s : Tk, AtW ws s.pos (wT n e) → s.least ≤ lvlE e → Fol ws (s.pos + (wT n e).length) (lvlE e) → RdE nm ws (wT n e) e (lvlE e) n s
def prW (n : Nat) (p : ET) (least : Int) : List Wd := if least ≤ lvlE p then wT n p else parW (wT n p)
theorem fol_close {ws : List Wd} {i : Nat} (h : i < ws.length) (hx : wdAt ws i = (4, [41], 0)) {lv : Int} (h1 : 1 ≤ lv) : Fol ws i lv := by
  refine ⟨?_, ?_⟩
  · rw [nx_at h hx]
    have : (levB [41] : Int) = 0 := by decide
    simp [this]
    omega
  · rw [isW_at h hx]
    rfl
theorem rd_part {nm : ByteArray → Bool} {ws : List Wd} {n : Nat} {p : ET} (h : RdOk nm ws n p) (h1 : 1 ≤ lvlE p) {least : Int} (hl8 : least ≤ 8) (s : Tk) (ha : AtW ws s.pos (prW n p least)) (hs : s.least ≤ least) (hf : Fol ws (s.pos + (prW n p least).length) least) :
    ∃ lv, least ≤ lv ∧ RdE nm ws (prW n p least) p lv n s := by
  unfold prW at ha hf ⊢
  by_cases hc : least ≤ lvlE p
  · rw [if_pos hc] at ha hf ⊢
    exact ⟨lvlE p, hc, h s ha (by omega) ⟨by have := hf.1; omega, hf.2⟩⟩
  · rw [if_neg hc] at ha hf ⊢
    obtain ⟨hl, hw0, hr⟩ := ha.head
    obtain ⟨hin, hout⟩ := hr.app
    obtain ⟨hl2, hw2, -⟩ := hout.head
    exact ⟨8, hl8, rd_par ha (h ⟨s.pos + 1, 1, s.op ++ [⟨0, ⟨#[]⟩, 0, [], true, s.least⟩]⟩ hin h1 (fol_close hl2 hw2 h1))⟩
theorem lvl_pos {nm : ByteArray → Bool} {n : Nat} {e : ET} (h : FmE nm n e) : 1 ≤ lvlE e ∧ lvlE e ≤ 8 := by
  cases h with
  | bin h0 hp hq =>
    rename_i m op p q
    have := lev_vals op.data.toList
    have e0 : lvlE (.mk 4 op 0 0 ⟨#[]⟩ ⟨#[]⟩ ⟨#[]⟩ [p, q]) = levB op.data.toList := rfl
    rw [e0]
    omega
  | una h0 hp =>
    rename_i m op p
    have e0 : lvlE (.mk 3 op 0 0 ⟨#[]⟩ ⟨#[]⟩ ⟨#[]⟩ [p]) = if op = bs [78, 79, 84] then 3 else 7 := rfl
    rw [e0]
    split <;> omega
  | _ => simp [lvlE, ET.kind]
/-- one part beneath a head -/
theorem build1 (kind : Int) (op : ByteArray) (lv : Int) (e : ET) (l d : Int) (h1 : 1 ≤ d) (h8 : d + 1 ≤ 8) : buildP kind op 0 0 ⟨#[]⟩ ⟨#[]⟩ ⟨#[]⟩ lv [⟨e, l, d⟩] = ⟨.mk kind op 0 0 ⟨#[]⟩ ⟨#[]⟩ ⟨#[]⟩ [e], lv, d + 1⟩ := by
  have hm : maxD [⟨e, l, d⟩] = d := by show max 0 d = d; omega
  unfold buildP
  rw [hm, if_neg (by omega)]
  rfl
theorem build2 (kind : Int) (op : ByteArray) (lv : Int) (e f : ET) (l d l' d' : Int) (h1 : 1 ≤ d) (h8 : d + 1 ≤ 8) (h1' : 1 ≤ d') (h8' : d' + 1 ≤ 8) : buildP kind op 0 0 ⟨#[]⟩ ⟨#[]⟩ ⟨#[]⟩ lv [⟨e, l, d⟩, ⟨f, l', d'⟩] = ⟨.mk kind op 0 0 ⟨#[]⟩ ⟨#[]⟩ ⟨#[]⟩ [e, f], lv, max d d' + 1⟩ := by
  have hm : maxD [⟨e, l, d⟩, ⟨f, l', d'⟩] = max d d' := by show max (max 0 d) d' = max d d'; omega
  unfold buildP
  rw [hm, if_neg (by omega)]
  rfl
/-- a sign or NOT ahead of a part -/
theorem rd_una {nm : ByteArray → Bool} {ws : List Wd} {n : Nat} {op : ByteArray} {p : ET} (h : op = bs [78, 79, 84] ∨ op = bs [45]) (hn : n + 1 ≤ 8) (hp : FmE nm n p) (ih : RdOk nm ws n p) : RdOk nm ws (n + 1) (.mk 3 op 0 0 ⟨#[]⟩ ⟨#[]⟩ ⟨#[]⟩ [p]) := by
  have hlp := (lvl_pos hp).1
  obtain ⟨t, lv, le, ht, hlv, hw⟩ : ∃ (t : Bs) (lv le : Int), op = bs t ∧ ((t = [78, 79, 84] ∧ lv = 3 ∧ le = 3) ∨ (t = [45] ∧ lv = 7 ∧ le = 8)) ∧ (lvlE (.mk 3 op 0 0 ⟨#[]⟩ ⟨#[]⟩ ⟨#[]⟩ [p]) = lv ∧ wT (n + 1) (.mk 3 op 0 0 ⟨#[]⟩ ⟨#[]⟩ ⟨#[]⟩ [p]) = ((if lv = 3 then 1 else 4 : Int), t, 0) :: prW n p le) := by
    rcases h with rfl | rfl
    · exact ⟨_, 3, 3, rfl, .inl ⟨rfl, rfl, rfl⟩, rfl, rfl⟩
    · exact ⟨_, 7, 8, rfl, .inr ⟨rfl, rfl, rfl⟩, rfl, rfl⟩
  obtain ⟨hlv1, hw1⟩ := hw
  intro s ha hs hf
  rw [hlv1] at hs hf ⊢
  rw [hw1] at ha hf ⊢
  obtain ⟨hl, hx, hr⟩ := ha.head
  have hlen : s.pos + (((if lv = 3 then 1 else 4 : Int), t, 0) :: prW n p le).length = s.pos + 1 + (prW n p le).length := by simp; omega
  rw [hlen] at hf
  have hnx := nx_vals ws (s.pos + 1 + (prW n p le).length)
  obtain ⟨lv', hle, k, d, h1, h2, h3, h4⟩ := rd_part ih hlp (least := le) (by omega) ⟨s.pos + 1, lv, s.op ++ [⟨3, op, lv, [], false, s.least⟩]⟩ hr (by show lv ≤ le; omega) ⟨by have := hf.1; show nxL ws (s.pos + 1 + _) ≤ le; omega, hf.2⟩
  refine ⟨k + 1, d + 1, by simp; omega, by omega, by omega, fun F hF => ?_⟩
  obtain ⟨F, rfl⟩ : ∃ G, F = G + 1 := ⟨F - 1, by omega⟩
  have ho : operP nm ws (F + 1) s = operP nm ws F ⟨s.pos + 1, lv, s.op ++ [⟨3, op, lv, [], false, s.least⟩]⟩ := by
    rw [operP]
    rcases hlv with ⟨rfl, rfl, rfl⟩ | ⟨rfl, rfl, rfl⟩
    · simp [isW_at hl hx, waitP, adv, hs, ht]
    · simp [isW_at hl hx, waitP, adv, ht]
  rw [ho]
  have hpp := rd_pop nm ws ⟨p, lv', d⟩ ⟨s.pos + 1 + (prW n p le).length, lv, s.op ++ [⟨3, op, lv, [], false, s.least⟩]⟩ ⟨3, op, lv, [], false, s.least⟩ s.op rfl (fun hh => by
    have h1 : lv ≤ nxL ws (s.pos + 1 + (prW n p le).length) := hh.1
    have h2 := hf.1
    omega)
  have hc : closeP ws ⟨p, lv', d⟩ ⟨s.pos + 1 + (prW n p le).length, lv, s.op ++ [⟨3, op, lv, [], false, s.least⟩]⟩ ⟨3, op, lv, [], false, s.least⟩ s.op = (⟨.mk 3 op 0 0 ⟨#[]⟩ ⟨#[]⟩ ⟨#[]⟩ [p], lv, d + 1⟩, true, ⟨s.pos + 1 + (prW n p le).length, s.least, s.op⟩) := by
    unfold closeP
    simp [build1 3 op lv p lv' d h2 (by omega)]
  rw [hc] at hpp
  rw [hlen]
  exact (h4 F (by show ws.length < F + (s.pos + 1); omega)).trans hpp
theorem lev_sign {t : Bs} (h : levB t ≠ 0) : t ≠ [73, 83] ∧ t ≠ [46] ∧ ((t = [79, 82] ∨ t = [65, 78, 68]) ∨ ¬ (t = [79, 82] ∨ t = [65, 78, 68])) := by
  refine ⟨?_, ?_, Classical.em _⟩
  · rintro rfl; exact h (by decide)
  · rintro rfl; exact h (by decide)
/-- an operator stands there -/
theorem optr_op {ws : List Wd} {i : Nat} {t : Bs} (h : i < ws.length) (hx : wdAt ws i = (opK t, t, 0)) (hl : levB t ≠ 0) (s : Tk) (hs : s.pos = i) : optrP ws s = (t, levB t) := by
  subst hs
  obtain ⟨h1, h2, h3⟩ := lev_sign hl
  unfold optrP
  rw [if_neg (Nat.not_le.2 h)]
  dsimp only
  rw [hx]
  rcases h3 with h3 | h3
  · simp [opK, h3, h1]
  · simp [opK, h3]
theorem rd_bin {nm : ByteArray → Bool} {ws : List Wd} {n : Nat} {op : ByteArray} {p q : ET} (h : levB op.data.toList ≠ 0) (hn : n + 1 ≤ 8) (hp : FmE nm n p) (hq : FmE nm n q) (ih : RdOk nm ws n p) (ihq : RdOk nm ws n q) :
    RdOk nm ws (n + 1) (.mk 4 op 0 0 ⟨#[]⟩ ⟨#[]⟩ ⟨#[]⟩ [p, q]) := by
  have hlp := (lvl_pos hp).1
  have hlq := (lvl_pos hq).1
  have hob := bs_back op
  obtain ⟨t, ht⟩ : ∃ t, t = op.data.toList := ⟨_, rfl⟩
  have hlv1 : lvlE (.mk 4 op 0 0 ⟨#[]⟩ ⟨#[]⟩ ⟨#[]⟩ [p, q]) = levB t := by rw [ht]; rfl
  have hw1 : wT (n + 1) (.mk 4 op 0 0 ⟨#[]⟩ ⟨#[]⟩ ⟨#[]⟩ [p, q]) = prW n p (leftL (levB t)) ++ (opK t, t, 0) :: prW n q (levB t + 1) := by rw [ht]; rfl
  rw [← ht] at h hob
  have hv := lev_vals t
  obtain ⟨own, hown⟩ : ∃ own, own = levB t := ⟨_, rfl⟩
  rw [← hown] at hlv1 hw1 h hv
  have hll : own ≤ leftL own ∧ leftL own ≤ 8 := by unfold leftL; split <;> omega
  intro s ha hs hf
  rw [hlv1] at hs hf ⊢
  rw [hw1] at ha hf ⊢
  obtain ⟨hA, hO⟩ := ha.app
  obtain ⟨hl, hx, hB⟩ := hO.head
  obtain ⟨h5, h6, -⟩ := lev_sign (t := t) (by rw [← hown]; exact h)
  have hopt := optr_op hl hx (by rw [← hown]; exact h)
  have hnx0 : nxL ws (s.pos + (prW n p (leftL own)).length) = own := by
    unfold nxL
    rw [hopt ⟨_, 0, []⟩ rfl, hown]
  have hd0 : isW ws (s.pos + (prW n p (leftL own)).length) 4 [46] = false := by
    rw [isW_at hl hx]
    simp [h6]
  obtain ⟨lv0, hle0, k0, d0, a1, a2, a3, a4⟩ := rd_part ih hlp hll.2 s hA (by omega) ⟨by rw [hnx0]; exact hll.1, hd0⟩
  have hlen : s.pos + (prW n p (leftL own) ++ (opK t, t, 0) :: prW n q (own + 1)).length = s.pos + (prW n p (leftL own)).length + 1 + (prW n q (own + 1)).length := by simp; omega
  rw [hlen] at hf
  obtain ⟨i0, hi0⟩ : ∃ i0, i0 = s.pos + (prW n p (leftL own)).length := ⟨_, rfl⟩
  rw [← hi0] at hl hx hB hnx0 hf hlen hopt
  have hA4 := fun F hF => a4 F hF
  rw [← hi0] at hA4
  obtain ⟨lv1, hle1, k1, d1, b1, b2, b3, b4⟩ := rd_part ihq hlq (least := own + 1) (by omega) ⟨i0 + 1, own + 1, s.op ++ [⟨4, op, own, [⟨p, lv0, d0⟩], false, s.least⟩]⟩ hB (Int.le_refl _) ⟨by have := hf.1; show nxL ws (i0 + 1 + _) ≤ _; omega, hf.2⟩
  refine ⟨k0 + 1 + k1 + 1, max d0 d1 + 1, by simp; omega, by omega, by omega, fun F hF => ?_⟩
  have hr : Rnds nm ws 1 (⟨p, lv0, d0⟩, true, ⟨i0, s.least, s.op⟩) (operP nm ws (ws.length + 1) ⟨i0 + 1, own + 1, s.op ++ [⟨4, op, own, [⟨p, lv0, d0⟩], false, s.least⟩]⟩) := by
    intro m
    show takeP nm ws (m + 1) _ _ _ = _
    rw [takeP]
    have e1 : optrP ws ⟨i0, s.least, s.op⟩ = (t, own) := by rw [hopt ⟨i0, s.least, s.op⟩ rfl, hown]
    simp [e1, hs, hle0, h5, waitP, adv, hob]
  have hpp := rd_pop nm ws ⟨q, lv1, d1⟩ ⟨i0 + 1 + (prW n q (own + 1)).length, own + 1, s.op ++ [⟨4, op, own, [⟨p, lv0, d0⟩], false, s.least⟩]⟩ ⟨4, op, own, [⟨p, lv0, d0⟩], false, s.least⟩ s.op rfl (fun hh => by
    have h1 : own + 1 ≤ nxL ws (i0 + 1 + (prW n q (own + 1)).length) := hh.1
    have h2 := hf.1
    omega)
  have hc : closeP ws ⟨q, lv1, d1⟩ ⟨i0 + 1 + (prW n q (own + 1)).length, own + 1, s.op ++ [⟨4, op, own, [⟨p, lv0, d0⟩], false, s.least⟩]⟩ ⟨4, op, own, [⟨p, lv0, d0⟩], false, s.least⟩ s.op = (⟨.mk 4 op 0 0 ⟨#[]⟩ ⟨#[]⟩ ⟨#[]⟩ [p, q], own, max d0 d1 + 1⟩, true, ⟨i0 + 1 + (prW n q (own + 1)).length, s.least, s.op⟩) := by
    unfold closeP
    simp [build2 4 op own p q lv0 d0 lv1 d1 a2 (by omega) b2 (by omega)]
  rw [hc] at hpp
  rw [hlen]
  exact (((hA4 F hF).trans hr).trans (b4 (ws.length + 1) (by show ws.length < ws.length + 1 + (i0 + 1); omega))).trans hpp
theorem rd_tst {nm : ByteArray → Bool} {ws : List Wd} {n : Nat} {op : ByteArray} {p : ET} (h : op = bs [73, 83, 32, 78, 85, 76, 76] ∨ op = bs [73, 83, 32, 78, 79, 84, 32, 78, 85, 76, 76]) (hn : n + 1 ≤ 8) (hp : FmE nm n p) (ih : RdOk nm ws n p) :
    RdOk nm ws (n + 1) (.mk 5 op 0 0 ⟨#[]⟩ ⟨#[]⟩ ⟨#[]⟩ [p]) := by
  have hlp := (lvl_pos hp).1
  intro s ha hs hf
  have hlv1 : lvlE (.mk 5 op 0 0 ⟨#[]⟩ ⟨#[]⟩ ⟨#[]⟩ [p]) = 4 := rfl
  obtain ⟨tl, htl, hw1⟩ : ∃ tl : List Wd, ((op = bs [73, 83, 32, 78, 85, 76, 76] ∧ tl = [(1, [78, 85, 76, 76], 0)]) ∨ (op = bs [73, 83, 32, 78, 79, 84, 32, 78, 85, 76, 76] ∧ tl = [(1, [78, 79, 84], 0), (1, [78, 85, 76, 76], 0)])) ∧ wT (n + 1) (.mk 5 op 0 0 ⟨#[]⟩ ⟨#[]⟩ ⟨#[]⟩ [p]) = prW n p 5 ++ (1, [73, 83], 0) :: tl := by
    rcases h with rfl | rfl
    · exact ⟨_, .inl ⟨rfl, rfl⟩, rfl⟩
    · exact ⟨_, .inr ⟨rfl, rfl⟩, rfl⟩
  rw [hlv1] at hs hf ⊢
  rw [hw1] at ha hf ⊢
  obtain ⟨hA, hO⟩ := ha.app
  obtain ⟨hl, hx, hB⟩ := hO.head
  have hnx0 : nxL ws (s.pos + (prW n p 5).length) = 4 := by rw [nx_at hl hx]; rfl
  have hd0 : isW ws (s.pos + (prW n p 5).length) 4 [46] = false := by rw [isW_at hl hx]; rfl
  obtain ⟨lv0, hle0, k0, d0, a1, a2, a3, a4⟩ := rd_part ih hlp (least := 5) (by omega) s hA (by omega) ⟨by rw [hnx0]; omega, hd0⟩
  obtain ⟨i0, hi0⟩ : ∃ i0, i0 = s.pos + (prW n p 5).length := ⟨_, rfl⟩
  rw [← hi0] at hl hx hB hnx0 a4
  have e1 : optrP ws ⟨i0, s.least, s.op⟩ = ([73, 83], 4) := by
    unfold optrP
    rw [if_neg (Nat.not_le.2 hl)]
    dsimp only
    rw [hx]
    rfl
  have hr : Rnds nm ws 1 (⟨p, lv0, d0⟩, true, ⟨i0, s.least, s.op⟩) (testP ws ⟨p, lv0, d0⟩ ⟨i0 + 1, s.least, s.op⟩) := by
    intro m
    show takeP nm ws (m + 1) _ _ _ = _
    rw [takeP]
    have hle : leftL 4 ≤ lv0 := by show (5 : Int) ≤ lv0; exact hle0
    simp [e1, hs, hle, adv]
  refine ⟨k0 + 1, d0 + 1, by simp; omega, by omega, by omega, fun F hF => ?_⟩
  have ht : testP ws ⟨p, lv0, d0⟩ ⟨i0 + 1, s.least, s.op⟩ = (⟨.mk 5 op 0 0 ⟨#[]⟩ ⟨#[]⟩ ⟨#[]⟩ [p], 4, d0 + 1⟩, true, ⟨s.pos + (prW n p 5 ++ (1, [73, 83], 0) :: tl).length, s.least, s.op⟩) := by
    rcases htl with ⟨rfl, rfl⟩ | ⟨rfl, rfl⟩
    · obtain ⟨hl1, hx1, -⟩ := hB.head
      unfold testP
      simp [isW_at hl1 hx1, adv, build1 5 _ 4 p lv0 d0 a2 (by omega)]
      omega
    · obtain ⟨hl1, hx1, hB⟩ := hB.head
      obtain ⟨hl2, hx2, -⟩ := hB.head
      unfold testP
      simp [isW_at hl1 hx1, isW_at hl2 hx2, adv, build1 5 _ 4 p lv0 d0 a2 (by omega)]
      omega
  rw [ht] at hr
  exact (a4 F hF).trans hr
/-- the first of an expression's words isn't a star -/
theorem wT_head {nm : ByteArray → Bool} {n : Nat} {e : ET} (h : FmE nm n e) : ∃ x l, wT n e = x :: l ∧ ¬ (x.1 = 4 ∧ x.2.1 = [42]) := by
  have hpr : ∀ {m : Nat} {p : ET} (le : Int), (∃ x l, wT m p = x :: l ∧ ¬ (x.1 = 4 ∧ x.2.1 = [42])) → ∃ x l, prW m p le = x :: l ∧ ¬ (x.1 = 4 ∧ x.2.1 = [42]) := by
    intro m p le hh
    unfold prW
    split
    · exact hh
    · exact ⟨_, _, rfl, by simp⟩
  induction h with
  | lit h =>
    rcases h with ⟨rfl, rfl, rfl⟩ | ⟨rfl, h0, rfl⟩ | ⟨rfl, rfl, h0⟩
    · exact ⟨_, _, rfl, by decide⟩
    · exact ⟨_, _, rfl, by simp⟩
    · exact ⟨_, _, rfl, by simp⟩
  | col h h2 =>
    rename_i n t c
    by_cases h0 : t = ⟨#[]⟩
    · subst h0; exact ⟨_, _, rfl, by simp⟩
    · refine ⟨(1, t.data.toList, 0), [(4, [46], 0), (1, c.data.toList, 0)], ?_, by simp⟩
      simp [wT, ET.kind, ET.tab, ET.col, h0]
  | una h hp ih =>
    rcases h with rfl | rfl
    · exact ⟨_, _, rfl, by simp⟩
    · exact ⟨_, _, rfl, by simp⟩
  | bin h hp hq ih ihq =>
    rename_i n op p q
    obtain ⟨x, l, h1, h2⟩ := hpr (leftL (levB op.data.toList)) ih
    exact ⟨x, l ++ (opK op.data.toList, op.data.toList, 0) :: prW n q (levB op.data.toList + 1), by rw [← List.cons_append, ← h1]; rfl, h2⟩
  | tst h hp ih =>
    rename_i n op p
    obtain ⟨x, l, h1, h2⟩ := hpr 5 ih
    refine ⟨x, l ++ (1, [73, 83], 0) :: (if op = bs [73, 83, 32, 78, 85, 76, 76] then [(1, [78, 85, 76, 76], 0)] else [(1, [78, 79, 84], 0), (1, [78, 85, 76, 76], 0)]), by rw [← List.cons_append, ← h1]; rfl, h2⟩
  | agg h hp ih => exact ⟨_, _, rfl, by simp⟩
  | cnt => exact ⟨_, _, rfl, by decide⟩
theorem agg_no {t : Bs} (h : aggB t = true) : t ≠ [78, 79, 84] ∧ t ≠ [78, 85, 76, 76] := by
  refine ⟨?_, ?_⟩
  · rintro rfl; exact absurd h (by decide)
  · rintro rfl; exact absurd h (by decide)
theorem rd_cnt {nm : ByteArray → Bool} {ws : List Wd} {n : Nat} : RdOk nm ws (n + 1) (.mk 6 (bs [67, 79, 85, 78, 84]) 0 0 ⟨#[]⟩ ⟨#[]⟩ ⟨#[]⟩ []) := by
  intro s ha hs hf
  have hw1 : wT (n + 1) (.mk 6 (bs [67, 79, 85, 78, 84]) 0 0 ⟨#[]⟩ ⟨#[]⟩ ⟨#[]⟩ []) = [(1, [67, 79, 85, 78, 84], 0), (4, [40], 0), (4, [42], 0), (4, [41], 0)] := rfl
  rw [hw1] at ha ⊢
  obtain ⟨hl, hx, ha⟩ := ha.head
  obtain ⟨hl1, hx1, ha⟩ := ha.head
  obtain ⟨hl2, hx2, ha⟩ := ha.head
  obtain ⟨hl3, hx3, -⟩ := ha.head
  have hlv1 : lvlE (.mk 6 (bs [67, 79, 85, 78, 84]) 0 0 ⟨#[]⟩ ⟨#[]⟩ ⟨#[]⟩ []) = 8 := rfl
  rw [hlv1]
  refine ⟨0, 1, by simp, by omega, by omega, fun F hF => ?_⟩
  obtain ⟨F, rfl⟩ : ∃ G, F = G + 1 := ⟨F - 1, by omega⟩
  intro m
  simp [operP, wordP, agP, isW_at hl hx, isW_at hl1 hx1, isW_at hl2 hx2, isW_at hl3 hx3, Nat.not_le.2 hl, hx, buildP, maxD, adv, aggB]
theorem rd_agg {nm : ByteArray → Bool} {ws : List Wd} {n : Nat} {op : ByteArray} {p : ET} (h : aggB op.data.toList = true) (hn : n + 1 ≤ 8) (hp : FmE nm n p) (ih : RdOk nm ws n p) :
    RdOk nm ws (n + 1) (.mk 6 op 0 0 ⟨#[]⟩ ⟨#[]⟩ ⟨#[]⟩ [p]) := by
  have hlp := (lvl_pos hp).1
  have hob := bs_back op
  obtain ⟨t, ht⟩ : ∃ t, t = op.data.toList := ⟨_, rfl⟩
  have hw1 : wT (n + 1) (.mk 6 op 0 0 ⟨#[]⟩ ⟨#[]⟩ ⟨#[]⟩ [p]) = (1, t, 0) :: (4, [40], 0) :: (wT n p ++ [(4, [41], 0)]) := by rw [ht]; rfl
  have hlv1 : lvlE (.mk 6 op 0 0 ⟨#[]⟩ ⟨#[]⟩ ⟨#[]⟩ [p]) = 8 := rfl
  rw [← ht] at h hob
  obtain ⟨t1, t2⟩ := agg_no h
  intro s ha hs hf
  rw [hlv1]
  rw [hw1] at ha ⊢
  obtain ⟨hl, hx, ha⟩ := ha.head
  obtain ⟨hl1, hx1, ha⟩ := ha.head
  obtain ⟨hin, hout⟩ := ha.app
  obtain ⟨hl2, hx2, -⟩ := hout.head
  obtain ⟨y, yl, hy, hy2⟩ := wT_head hp
  have hst : isW ws (s.pos + 1 + 1) 4 [42] = false := by
    have := hin
    rw [hy] at this
    obtain ⟨m1, m2, -⟩ := this.head
    rw [isW_at m1 m2]
    cases hc : (y.1 == 4 && y.2.1 == [42]) with
    | false => rfl
    | true =>
      rw [Bool.and_eq_true, beq_iff_eq, beq_iff_eq] at hc
      exact absurd hc hy2
  obtain ⟨k, d, h1, h2, h3, h4⟩ := ih ⟨s.pos + 1 + 1, 1, s.op ++ [⟨6, op, 8, [], true, s.least⟩]⟩ hin hlp (fol_close hl2 hx2 hlp)
  have hlen : s.pos + ((1, t, 0) :: (4, [40], 0) :: (wT n p ++ [(4, [41], 0)]) : List Wd).length = s.pos + 1 + 1 + (wT n p).length + 1 := by simp; omega
  refine ⟨k + 1, d + 1, by simp; omega, by omega, by omega, fun F hF => ?_⟩
  obtain ⟨F, rfl⟩ : ∃ G, F = G + 1 := ⟨F - 1, by omega⟩
  have ho : operP nm ws (F + 1) s = operP nm ws F ⟨s.pos + 1 + 1, 1, s.op ++ [⟨6, op, 8, [], true, s.least⟩]⟩ := by
    rw [operP]
    simp [wordP, agP, isW_at hl hx, isW_at hl1 hx1, hst, Nat.not_le.2 hl, hx, waitP, adv, h, t1, t2, hob]
  rw [ho]
  have hpp := rd_pop nm ws ⟨p, lvlE p, d⟩ ⟨s.pos + 1 + 1 + (wT n p).length, 1, s.op ++ [⟨6, op, 8, [], true, s.least⟩]⟩ ⟨6, op, 8, [], true, s.least⟩ s.op rfl (fun hh => by
    have h0 : nxL ws (s.pos + 1 + 1 + (wT n p).length) = 0 := by rw [nx_at hl2 hx2]; decide
    have h1 : (1 : Int) ≤ nxL ws (s.pos + 1 + 1 + (wT n p).length) := hh.1
    omega)
  have hc : closeP ws ⟨p, lvlE p, d⟩ ⟨s.pos + 1 + 1 + (wT n p).length, 1, s.op ++ [⟨6, op, 8, [], true, s.least⟩]⟩ ⟨6, op, 8, [], true, s.least⟩ s.op = (⟨.mk 6 op 0 0 ⟨#[]⟩ ⟨#[]⟩ ⟨#[]⟩ [p], 8, d + 1⟩, true, ⟨s.pos + 1 + 1 + (wT n p).length + 1, s.least, s.op⟩) := by
    unfold closeP
    simp [isW_at hl2 hx2, adv, build1 6 op 8 p (lvlE p) d h2 (by omega)]
  rw [hc] at hpp
  rw [hlen]
  exact (h4 F (by show ws.length < F + (s.pos + 1 + 1); omega)).trans hpp
/-- an expression's words are read as the expression -/
theorem read_all {nm : ByteArray → Bool} (hnm : NmOk nm) (ws : List Wd) {n : Nat} {e : ET} (h : FmE nm n e) : n ≤ 8 → RdOk nm ws n e := by
  induction h with
  | lit h => exact fun _ s ha hs hf => rd_lit h s ha
  | col h h2 => exact fun _ s ha hs hf => rd_col hnm h h2 s ha (fun i hi => by rw [hi]; exact hf.2)
  | una h hp ih => exact fun hn => rd_una h hn hp (ih (by omega))
  | bin h hp hq ih ihq => exact fun hn => rd_bin h hn hp hq (ih (by omega)) (ihq (by omega))
  | tst h hp ih => exact fun hn => rd_tst h hn hp (ih (by omega))
  | agg h hp ih => exact fun hn => rd_agg h hn hp (ih (by omega))
  | cnt => exact fun _ => rd_cnt
/-- all the words of a formed expression: the expression, all words used, no error -/
theorem take_back {nm : ByteArray → Bool} (hnm : NmOk nm) {e : ET} (h : FmE nm 8 e) : TakeP nm (wT 8 e) = (e, (wT 8 e).length, 0) := by
  have hend : Fol (wT 8 e) (0 + (wT 8 e).length) (lvlE e) := by
    have h1 := (lvl_pos h).1
    refine ⟨?_, ?_⟩
    · unfold nxL optrP
      simp
      omega
    · unfold isW
      simp
  obtain ⟨k, d, h1, h2, h3, h4⟩ := read_all hnm (wT 8 e) h (Nat.le_refl _) tk0 (fun k hk => ⟨by show 0 + k < _; omega, by
    show wdAt _ (0 + k) = _
    unfold wdAt
    rw [Nat.zero_add, List.getD_eq_getElem?_getD, List.getElem?_eq_getElem hk]
    rfl⟩) (lvl_pos h).1 hend
  have hr := h4 ((wT 8 e).length + 1) (by show _ < _ + 0; omega)
  have hm := hr (2 * (wT 8 e).length + 2 - k)
  rw [show 2 * (wT 8 e).length + 2 - k + k = 2 * (wT 8 e).length + 2 by omega] at hm
  obtain ⟨j, hj⟩ : ∃ j, 2 * (wT 8 e).length + 2 - k = j + 1 := ⟨2 * (wT 8 e).length + 1 - k, by omega⟩
  rw [hj] at hm
  have hp0 : (⟨tk0.pos + (wT 8 e).length, tk0.least, tk0.op⟩ : Tk) = ⟨(wT 8 e).length, 1, []⟩ := by simp [tk0]
  rw [hp0] at hm
  have hz : takeP nm (wT 8 e) (j + 1) ⟨e, lvlE e, d⟩ true ⟨(wT 8 e).length, 1, []⟩ = (⟨e, lvlE e, d⟩, true, ⟨(wT 8 e).length, 1, []⟩) := by
    rw [takeP]
    have e1 : optrP (wT 8 e) ⟨(wT 8 e).length, 1, []⟩ = ([], 0) := by
      unfold optrP
      simp
    simp [e1]
  unfold TakeP
  dsimp only
  rw [hm, hz]
  simp
  omega
end Go.Proofs.YtpinalpigefenaaGreatDoor
