/- The package's taker, as a machine over words. No program. -/
import Derived.Test.YtpinalpigefenaaGreatDoorLxPure
import Derived.Test.YtpinalpigefenaaGreatDoorLwPure
namespace Go.Proofs.YtpinalpigefenaaGreatDoor
open Go.RowKit
set_option linter.unusedVariables false
set_option linter.unusedSimpArgs false
set_option maxRecDepth 100000
def zET : ET := .mk 0 ⟨#[]⟩ 0 0 ⟨#[]⟩ ⟨#[]⟩ ⟨#[]⟩ []
/-- an expression that was read, how strong and how deep it is -/
structure Pt where
  e : ET
  lv : Int
  dp : Int
def zPt : Pt := ⟨zET, 0, 0⟩
/-- what waits: a head without parts, its level, its left part, does a bracket close it, what was asked before -/
structure Pd where
  kind : Int
  op : ByteArray
  lv : Int
  left : List Pt
  closes : Bool
  least : Int
structure Tk where
  pos : Nat
  least : Int
  op : List Pd
def wdAt (ws : List Wd) (i : Nat) : Wd := ws.getD i (0, [], 0)
def maxD (ps : List Pt) : Int := ps.foldl (fun d p => max d p.dp) 0
/-- build: parts beneath a head -/
def buildP (kind : Int) (op : ByteArray) (vk vn : Int) (vs tab col : ByteArray) (lv : Int) (ps : List Pt) : Pt :=
  if 8 < maxD ps + 1 then ⟨zET, lv, maxD ps + 1⟩ else ⟨.mk kind op vk vn vs tab col (ps.map (·.e)), lv, maxD ps + 1⟩
def isW (ws : List Wd) (i : Nat) (k : Int) (t : Bs) : Bool := decide (i < ws.length) && (wdAt ws i).1 == k && (wdAt ws i).2.1 == t
def adv (s : Tk) : Tk := { s with pos := s.pos + 1 }
def waitP (s : Tk) (p : Pd) (least : Int) : Tk := ⟨s.pos, least, s.op ++ [{ p with least := s.least }]⟩
def aggB (t : Bs) : Bool := t == [67, 79, 85, 78, 84] || t == [83, 85, 77] || t == [77, 73, 78] || t == [77, 65, 88]
def levB (t : Bs) : Int :=
  if t = [79, 82] then 1 else if t = [65, 78, 68] then 2
  else if t = [61] ∨ t = [60, 62] ∨ t = [60] ∨ t = [60, 61] ∨ t = [62] ∨ t = [62, 61] then 4
  else if t = [43] ∨ t = [45] then 5 else if t = [42] then 6 else 0
def leftL (l : Int) : Int := if l = 4 then 5 else l
def bs (t : Bs) : ByteArray := ⟨t.toArray⟩
/-- a name -/
def nameP (nm : ByteArray → Bool) (ws : List Wd) (s : Tk) : ByteArray × Bool × Tk :=
  if s.pos < ws.length ∧ (wdAt ws s.pos).1 = 1 ∧ nm (bs (wdAt ws s.pos).2.1) = true then (bs (wdAt ws s.pos).2.1, true, adv s) else (⟨#[]⟩, false, s)
def colP (nm : ByteArray → Bool) (ws : List Wd) (s : Tk) : Pt × Bool × Tk :=
  let a := nameP nm ws s
  if a.2.1 = false then (zPt, false, a.2.2)
  else if isW ws a.2.2.pos 4 [46] = true then
    let b := nameP nm ws (adv a.2.2)
    (buildP 2 ⟨#[]⟩ 0 0 ⟨#[]⟩ a.1 b.1 8 [], b.2.1, b.2.2)
  else (buildP 2 ⟨#[]⟩ 0 0 ⟨#[]⟩ ⟨#[]⟩ a.1 8 [], true, a.2.2)
/-- a part, is it whole, is it right -/
def agP (ws : List Wd) (t : Bs) (s : Tk) : Pt × Bool × Bool × Tk :=
  if isW ws s.pos 4 [40] = false then (zPt, false, false, s)
  else if t = [67, 79, 85, 78, 84] ∧ isW ws (s.pos + 1) 4 [42] = true then
    if isW ws (s.pos + 2) 4 [41] = true then (buildP 6 (bs t) 0 0 ⟨#[]⟩ ⟨#[]⟩ ⟨#[]⟩ 8 [], true, true, adv (adv (adv s)))
    else (buildP 6 (bs t) 0 0 ⟨#[]⟩ ⟨#[]⟩ ⟨#[]⟩ 8 [], true, false, adv (adv s))
  else (zPt, false, true, waitP (adv s) ⟨6, bs t, 8, [], true, 0⟩ 1)
def wordP (nm : ByteArray → Bool) (ws : List Wd) (s : Tk) : Pt × Bool × Bool × Tk :=
  if ws.length ≤ s.pos then (zPt, false, false, s)
  else
    let w := wdAt ws s.pos
    if w.1 = 2 ∧ 0 ≤ w.2.2 then (buildP 1 ⟨#[]⟩ 1 w.2.2 ⟨#[]⟩ ⟨#[]⟩ ⟨#[]⟩ 8 [], true, true, adv s)
    else if w.1 = 3 ∧ w.2.1.length ≤ 100 then (buildP 1 ⟨#[]⟩ 2 0 (bs w.2.1) ⟨#[]⟩ ⟨#[]⟩ 8 [], true, true, adv s)
    else if isW ws s.pos 1 [78, 85, 76, 76] = true then (buildP 1 ⟨#[]⟩ 0 0 ⟨#[]⟩ ⟨#[]⟩ ⟨#[]⟩ 8 [], true, true, adv s)
    else if w.1 = 1 ∧ aggB w.2.1 = true then agP ws w.2.1 (adv s)
    else ((colP nm ws s).1, true, (colP nm ws s).2.1, (colP nm ws s).2.2)
def operP (nm : ByteArray → Bool) (ws : List Wd) : Nat → Tk → Pt × Bool × Tk
  | 0, s => (zPt, false, s)
  | n + 1, s =>
    if s.least ≤ 3 ∧ isW ws s.pos 1 [78, 79, 84] = true then operP nm ws n (waitP (adv s) ⟨3, bs [78, 79, 84], 3, [], false, 0⟩ 3)
    else if isW ws s.pos 4 [45] = true then operP nm ws n (waitP (adv s) ⟨3, bs [45], 7, [], false, 0⟩ 7)
    else if isW ws s.pos 4 [40] = true then operP nm ws n (waitP (adv s) ⟨0, ⟨#[]⟩, 0, [], true, 0⟩ 1)
    else
      let r := wordP nm ws s
      if r.2.1 = true ∨ r.2.2.1 = false then (r.1, r.2.2.1, r.2.2.2) else operP nm ws n r.2.2.2
/-- the operator that stands there, and its level -/
def optrP (ws : List Wd) (s : Tk) : Bs × Int :=
  if ws.length ≤ s.pos then ([], 0)
  else
    let w := wdAt ws s.pos
    if w.1 = 1 then (if w.2.1 = [73, 83] then (w.2.1, 4) else if w.2.1 = [79, 82] ∨ w.2.1 = [65, 78, 68] then (w.2.1, levB w.2.1) else ([], 0))
    else if w.1 = 4 then (w.2.1, levB w.2.1) else ([], 0)
def testP (ws : List Wd) (l : Pt) (s : Tk) : Pt × Bool × Tk :=
  let b := isW ws s.pos 1 [78, 79, 84]
  let s1 := if b = true then adv s else s
  if isW ws s1.pos 1 [78, 85, 76, 76] = true then
    (buildP 5 (if b = true then bs [73, 83, 32, 78, 79, 84, 32, 78, 85, 76, 76] else bs [73, 83, 32, 78, 85, 76, 76]) 0 0 ⟨#[]⟩ ⟨#[]⟩ ⟨#[]⟩ 4 [l], true, adv s1)
  else (zPt, false, s1)
def closeP (ws : List Wd) (l : Pt) (s : Tk) (p : Pd) (rest : List Pd) : Pt × Bool × Tk :=
  let s0 : Tk := ⟨s.pos, p.least, rest⟩
  if p.closes = true ∧ isW ws s.pos 4 [41] = false then (zPt, false, s0)
  else
    let s1 := if p.closes = true then adv s0 else s0
    if p.kind = 0 then ({ l with lv := 8 }, true, s1)
    else (buildP p.kind p.op 0 0 ⟨#[]⟩ ⟨#[]⟩ ⟨#[]⟩ p.lv (p.left ++ [l]), true, s1)
def takeP (nm : ByteArray → Bool) (ws : List Wd) : Nat → Pt → Bool → Tk → Pt × Bool × Tk
  | 0, l, ok, s => (zPt, false, s)
  | n + 1, l, ok, s =>
    if ok = false then (zPt, false, s)
    else
      let o := optrP ws s
      if s.least ≤ o.2 ∧ leftL o.2 ≤ l.lv ∧ o.1 = [73, 83] then
        let r := testP ws l (adv s)
        takeP nm ws n r.1 r.2.1 r.2.2
      else if s.least ≤ o.2 ∧ leftL o.2 ≤ l.lv then
        let r := operP nm ws (ws.length + 1) (waitP (adv s) ⟨4, bs o.1, o.2, [l], false, 0⟩ (o.2 + 1))
        takeP nm ws n r.1 r.2.1 r.2.2
      else match s.op.getLast? with
        | none => (l, true, s)
        | some p =>
          let r := closeP ws l s p s.op.dropLast
          takeP nm ws n r.1 r.2.1 r.2.2
def tk0 : Tk := ⟨0, 1, []⟩
/-- expr.Take: the expression, how many words, the error -/
def TakeP (nm : ByteArray → Bool) (ws : List Wd) : ET × Nat × Int :=
  let a := operP nm ws (ws.length + 1) tk0
  let r := takeP nm ws (2 * ws.length + 2) a.1 a.2.1 a.2.2
  if r.2.1 = false then (zET, r.2.2.pos, 3) else if 8 < r.1.dp then (zET, 0, 4) else (r.1.e, r.2.2.pos, 0)
end Go.Proofs.YtpinalpigefenaaGreatDoor
