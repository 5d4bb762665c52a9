/- Reckon: plain mathematics. (Turned from round 1.) -/
import Derived.Test.YtknhphcfcpjhiaaGreatDoorLwPure
import Derived.Test.YtknhphcfcpjhiaaGreatDoorProg
import Derived.Deep.Upon
import Derived.Deep.AppendSrc
import Derived.Laws.IdiomCopy
import Derived.Deep.DeepCutAuto
import Derived.StillTail
import Derived.BigQuiet
import Derived.Deep.RegionHeld3
import Derived.Below
import Derived.RowKit
import Derived.WalkLawsBesides
import Derived.OwnWalk
import Derived.Laws.Rows
import Derived.WalkSpells
import Derived.IntWalk
import Derived.WalkKit
import Derived.Outline
import Derived.Deep.QuietTactic
import Derived.StillTailTactics
import Derived.LoopTactic
import Derived.Lib.Hide
namespace Go.Proofs.YtknhphcfcpjhiaaGreatDoor
open Go.RowKit
set_option linter.unusedVariables false
set_option linter.unusedSimpArgs false
set_option maxRecDepth 100000
def zET : ET := .mk 0 ⟨#[]⟩ 0 0 ⟨#[]⟩ ⟨#[]⟩ ⟨#[]⟩ []
/-- an expression that was read, how strong and how deep it is -/
structure Pt where
  e : ET
  lv : Int
  dp : Int
def zPt : Pt := ⟨zET, 0, 0⟩
/-- what waits: a head without parts, its level, its left part, does a bracket close it, what was asked before -/
structure Pd where
  kind : Int
  op : ByteArray
  lv : Int
  left : List Pt
  closes : Bool
  least : Int
structure Tk where
  pos : Nat
  least : Int
  op : List Pd
def wdAt (ws : List Wd) (i : Nat) : Wd := ws.getD i (0, [], 0)
def maxD (ps : List Pt) : Int := ps.foldl (fun d p => max d p.dp) 0
/-- build: parts beneath a head -/
def buildP (kind : Int) (op : ByteArray) (vk vn : Int) (vs tab col : ByteArray) (lv : Int) (ps : List Pt) : Pt :=
  if 8 < maxD ps + 1 then ⟨zET, lv, maxD ps + 1⟩ else ⟨.mk kind op vk vn vs tab col (ps.map (·.e)), lv, maxD ps + 1⟩
def isW (ws : List Wd) (i : Nat) (k : Int) (t : Bs) : Bool := decide (i < ws.length) && (wdAt ws i).1 == k && (wdAt ws i).2.1 == t
def adv (s : Tk) : Tk := { s with pos := s.pos + 1 }
def waitP (s : Tk) (p : Pd) (least : Int) : Tk := ⟨s.pos, least, s.op ++ [{ p with least := s.least }]⟩
def aggB (t : Bs) : Bool := t == [67, 79, 85, 78, 84] || t == [83, 85, 77] || t == [77, 73, 78] || t == [77, 65, 88]
def levB (t : Bs) : Int :=
  if t = [79, 82] then 1 else if t = [65, 78, 68] then 2
  else if t = [61] ∨ t = [60, 62] ∨ t = [60] ∨ t = [60, 61] ∨ t = [62] ∨ t = [62, 61] then 4
  else if t = [43] ∨ t = [45] then 5 else if t = [42] then 6 else 0
def leftL (l : Int) : Int := if l = 4 then 5 else l
def bs (t : Bs) : ByteArray := ⟨t.toArray⟩
/-- a name -/
def nameP (nm : ByteArray → Bool) (ws : List Wd) (s : Tk) : ByteArray × Bool × Tk :=
  if s.pos < ws.length ∧ (wdAt ws s.pos).1 = 1 ∧ nm (bs (wdAt ws s.pos).2.1) = true then (bs (wdAt ws s.pos).2.1, true, adv s) else (⟨#[]⟩, false, s)
def colP (nm : ByteArray → Bool) (ws : List Wd) (s : Tk) : Pt × Bool × Tk :=
  let a := nameP nm ws s
  if a.2.1 = false then (zPt, false, a.2.2)
  else if isW ws a.2.2.pos 4 [46] = true then
    let b := nameP nm ws (adv a.2.2)
    (buildP 2 ⟨#[]⟩ 0 0 ⟨#[]⟩ a.1 b.1 8 [], b.2.1, b.2.2)
  else (buildP 2 ⟨#[]⟩ 0 0 ⟨#[]⟩ ⟨#[]⟩ a.1 8 [], true, a.2.2)
/-- a part, is it whole, is it right -/
def agP (ws : List Wd) (t : Bs) (s : Tk) : Pt × Bool × Bool × Tk :=
  if isW ws s.pos 4 [40] = false then (zPt, false, false, s)
  else if t = [67, 79, 85, 78, 84] ∧ isW ws (s.pos + 1) 4 [42] = true then
    if isW ws (s.pos + 2) 4 [41] = true then (buildP 6 (bs t) 0 0 ⟨#[]⟩ ⟨#[]⟩ ⟨#[]⟩ 8 [], true, true, adv (adv (adv s)))
    else (buildP 6 (bs t) 0 0 ⟨#[]⟩ ⟨#[]⟩ ⟨#[]⟩ 8 [], true, false, adv (adv s))
  else (zPt, false, true, waitP (adv s) ⟨6, bs t, 8, [], true, 0⟩ 1)
def wordP (nm : ByteArray → Bool) (ws : List Wd) (s : Tk) : Pt × Bool × Bool × Tk :=
  if ws.length ≤ s.pos then (zPt, false, false, s)
  else
    let w := wdAt ws s.pos
    if w.1 = 2 ∧ 0 ≤ w.2.2 then (buildP 1 ⟨#[]⟩ 1 w.2.2 ⟨#[]⟩ ⟨#[]⟩ ⟨#[]⟩ 8 [], true, true, adv s)
    else if w.1 = 3 ∧ w.2.1.length ≤ 100 then (buildP 1 ⟨#[]⟩ 2 0 (bs w.2.1) ⟨#[]⟩ ⟨#[]⟩ 8 [], true, true, adv s)
    else if isW ws s.pos 1 [78, 85, 76, 76] = true then (buildP 1 ⟨#[]⟩ 0 0 ⟨#[]⟩ ⟨#[]⟩ ⟨#[]⟩ 8 [], true, true, adv s)
    else if w.1 = 1 ∧ aggB w.2.1 = true then agP ws w.2.1 (adv s)
    else ((colP nm ws s).1, true, (colP nm ws s).2.1, (colP nm ws s).2.2)
def operP (nm : ByteArray → Bool) (ws : List Wd) : Nat → Tk → Pt × Bool × Tk
  | 0, s => (zPt, false, s)
  | n + 1, s =>
    if s.least ≤ 3 ∧ isW ws s.pos 1 [78, 79, 84] = true then operP nm ws n (waitP (adv s) ⟨3, bs [78, 79, 84], 3, [], false, 0⟩ 3)
    else if isW ws s.pos 4 [45] = true then operP nm ws n (waitP (adv s) ⟨3, bs [45], 7, [], false, 0⟩ 7)
    else if isW ws s.pos 4 [40] = true then operP nm ws n (waitP (adv s) ⟨0, ⟨#[]⟩, 0, [], true, 0⟩ 1)
    else
      let r := wordP nm ws s
      if r.2.1 = true ∨ r.2.2.1 = false then (r.1, r.2.2.1, r.2.2.2) else operP nm ws n r.2.2.2
/-- the operator that stands there, and its level -/
def optrP (ws : List Wd) (s : Tk) : Bs × Int :=
  if ws.length ≤ s.pos then ([], 0)
  else
    let w := wdAt ws s.pos
    if w.1 = 1 then (if w.2.1 = [73, 83] then (w.2.1, 4) else if w.2.1 = [79, 82] ∨ w.2.1 = [65, 78, 68] then (w.2.1, levB w.2.1) else ([], 0))
    else if w.1 = 4 then (w.2.1, levB w.2.1) else ([], 0)
def testP (ws : List Wd) (l : Pt) (s : Tk) : Pt × Bool × Tk :=
  let b := isW ws s.pos 1 [78, 79, 84]
  let s1 := if b = true then adv s else s
  if isW ws s1.pos 1 [78, 85, 76, 76] = true then
    (buildP 5 (if b = true then bs [73, 83, 32, 78, 79, 84, 32, 78, 85, 76, 76] else bs [73, 83, 32, 78, 85, 76, 76]) 0 0 ⟨#[]⟩ ⟨#[]⟩ ⟨#[]⟩ 4 [l], true, adv s1)
  else (zPt, false, s1)
def closeP (ws : List Wd) (l : Pt) (s : Tk) (p : Pd) (rest : List Pd) : Pt × Bool × Tk :=
  let s0 : Tk := ⟨s.pos, p.least, rest⟩
  if p.closes = true ∧ isW ws s.pos 4 [41] = false then (zPt, false, s0)
  else
    let s1 := if p.closes = true then adv s0 else s0
    if p.kind = 0 then ({ l with lv := 8 }, true, s1)
    else (buildP p.kind p.op 0 0 ⟨#[]⟩ ⟨#[]⟩ ⟨#[]⟩ p.lv (p.left ++ [l]), true, s1)
def takeP (nm : ByteArray → Bool) (ws : List Wd) : Nat → Pt → Bool → Tk → Pt × Bool × Tk
  | 0, l, ok, s => (zPt, false, s)
  | n + 1, l, ok, s =>
    if ok = false then (zPt, false, s)
    else
      let o := optrP ws s
      if s.least ≤ o.2 ∧ leftL o.2 ≤ l.lv ∧ o.1 = [73, 83] then
        let r := testP ws l (adv s)
        takeP nm ws n r.1 r.2.1 r.2.2
      else if s.least ≤ o.2 ∧ leftL o.2 ≤ l.lv then
        let r := operP nm ws (ws.length + 1) (waitP (adv s) ⟨4, bs o.1, o.2, [l], false, 0⟩ (o.2 + 1))
        takeP nm ws n r.1 r.2.1 r.2.2
      else match s.op.getLast? with
        | none => (l, true, s)
        | some p =>
          let r := closeP ws l s p s.op.dropLast
          takeP nm ws n r.1 r.2.1 r.2.2
def tk0 : Tk := ⟨0, 1, []⟩
/-- expr.Take: the expression, how many words, the error -/
def TakeP (nm : ByteArray → Bool) (ws : List Wd) : ET × Nat × Int :=
  let a := operP nm ws (ws.length + 1) tk0
  let r := takeP nm ws (2 * ws.length + 2) a.1 a.2.1 a.2.2
  if r.2.1 = false then (zET, r.2.2.pos, 3) else if 8 < r.1.dp then (zET, 0, 4) else (r.1.e, r.2.2.pos, 0)
end Go.Proofs.YtknhphcfcpjhiaaGreatDoor
namespace Go.Proofs.YtknhphcfcpjhiaaGreatDoor
open Go.RowKit
set_option linter.unusedVariables false
set_option linter.unusedSimpArgs false
set_option maxRecDepth 100000
/-- a column, a source, an item, an order, a query, an assignment, a statement -/
structure Co where
  name : ByteArray
  kind : Int
  nn : Bool
  un : Bool
structure So where
  tab : ByteArray
  name : ByteArray
  on : ET
structure It where
  e : ET
  name : ByteArray
structure Od where
  e : ET
  desc : Bool
structure As where
  col : ByteArray
  e : ET
structure QT where
  dist : Bool
  star : Bool
  items : List It
  src : List So
  whr : List ET
  group : List ET
  ord : List Od
  lim : Int
structure ST where
  kind : Int
  name : ByteArray
  on : ByteArray
  uniq : Bool
  cols : List Co
  keys : List ByteArray
  rows : List (List ET)
  sets : List As
  whr : List ET
  q : QT
def eB : ByteArray := ⟨#[]⟩
def zQ : QT := ⟨false, false, [], [], [], [], [], 0⟩
def zST : ST := ⟨0, eB, eB, false, [], [], [], [], [], zQ⟩
/-- where a reader is, and the error that it has met -/
abbrev PS := Nat × Int
def fl (e : Int) (s : PS) : PS := if s.2 = 0 then (s.1, e) else s
def tkS (ws : List Wd) (k : Int) (t : Bs) (s : PS) : Bool := decide (s.2 = 0) && isW ws s.1 k t
def goS (b : Bool) (s : PS) : PS := if b = true then (s.1 + 1, s.2) else s
/-- a keyword, or a sign: is it there -/
def takeR (ws : List Wd) (k : Int) (t : Bs) (s : PS) : Bool × PS := (tkS ws k t s, goS (tkS ws k t s) s)
def mustK (ws : List Wd) : List Bs → PS → PS
  | [], s => s
  | k :: l, s => mustK ws l (if tkS ws 1 k s = true then goS true s else fl 3 s)
def mustG (ws : List Wd) (t : Bs) (s : PS) : PS := if tkS ws 4 t s = true then goS true s else fl 3 s
def nameR (ws : List Wd) (s : PS) : ByteArray × PS :=
  if s.2 = 0 ∧ s.1 < ws.length ∧ (wdAt ws s.1).1 = 1 ∧ nmB (bs (wdAt ws s.1).2.1) = true then (bs (wdAt ws s.1).2.1, (s.1 + 1, s.2)) else (eB, fl 3 s)
def numR (ws : List Wd) (s : PS) : Int × PS := if s.2 = 0 ∧ s.1 < ws.length ∧ (wdAt ws s.1).1 = 2 then ((wdAt ws s.1).2.2, (s.1 + 1, s.2)) else (0, fl 3 s)
def exprR (ws : List Wd) (s : PS) : ET × PS :=
  if s.2 ≠ 0 then (zET, s) else if (TakeP nmB (ws.drop s.1)).2.2 ≠ 0 then (zET, fl (TakeP nmB (ws.drop s.1)).2.2 s) else ((TakeP nmB (ws.drop s.1)).1, (s.1 + (TakeP nmB (ws.drop s.1)).2.1, s.2))
def moreR {α : Type} (ws : List Wd) (one : PS → α × PS) : Nat → List α → PS → List α × PS
  | 0, l, s => (l, s)
  | f + 1, l, s => if tkS ws 4 [44] s = true then moreR ws one f (l ++ [(one (goS true s)).1]) (one (goS true s)).2 else (l, s)
def listR {α : Type} (ws : List Wd) (one : PS → α × PS) (s : PS) : List α × PS := moreR ws one (ws.length + 1) [(one s).1] (one s).2
def brackR {α : Type} (ws : List Wd) (one : PS → α × PS) (s : PS) : List α × PS :=
  ((listR ws one (mustG ws [40] s)).1, mustG ws [41] (listR ws one (mustG ws [40] s)).2)
-- the keywords
def kINT : Bs := [73, 78, 84]
def kTEXT : Bs := [84, 69, 88, 84]
def kNOT : Bs := [78, 79, 84]
def kNULL : Bs := [78, 85, 76, 76]
def kUNIQUE : Bs := [85, 78, 73, 81, 85, 69]
def kWHERE : Bs := [87, 72, 69, 82, 69]
def kDISTINCT : Bs := [68, 73, 83, 84, 73, 78, 67, 84]
def kFROM : Bs := [70, 82, 79, 77]
def kGROUP : Bs := [71, 82, 79, 85, 80]
def kBY : Bs := [66, 89]
def kORDER : Bs := [79, 82, 68, 69, 82]
def kLIMIT : Bs := [76, 73, 77, 73, 84]
def kAS : Bs := [65, 83]
def kJOIN : Bs := [74, 79, 73, 78]
def kON : Bs := [79, 78]
def kDESC : Bs := [68, 69, 83, 67]
def kASC : Bs := [65, 83, 67]
def kTABLE : Bs := [84, 65, 66, 76, 69]
def kINDEX : Bs := [73, 78, 68, 69, 88]
def kVIEW : Bs := [86, 73, 69, 87]
def kMATERIALIZED : Bs := [77, 65, 84, 69, 82, 73, 65, 76, 73, 90, 69, 68]
def kSELECT : Bs := [83, 69, 76, 69, 67, 84]
def kCREATE : Bs := [67, 82, 69, 65, 84, 69]
def kDROP : Bs := [68, 82, 79, 80]
def kINSERT : Bs := [73, 78, 83, 69, 82, 84]
def kINTO : Bs := [73, 78, 84, 79]
def kVALUES : Bs := [86, 65, 76, 85, 69, 83]
def kUPDATE : Bs := [85, 80, 68, 65, 84, 69]
def kSET : Bs := [83, 69, 84]
def kDELETE : Bs := [68, 69, 76, 69, 84, 69]
def kBEGIN : Bs := [66, 69, 71, 73, 78]
def kCOMMIT : Bs := [67, 79, 77, 77, 73, 84]
def kROLLBACK : Bs := [82, 79, 76, 76, 66, 65, 67, 75]
def columnR (ws : List Wd) (s : PS) : Co × PS :=
  let a := nameR ws s
  let b := takeR ws 1 kINT a.2
  let s1 := if b.1 = true then b.2 else mustK ws [kTEXT] b.2
  let c := takeR ws 1 kNOT s1
  let s2 := if c.1 = true then mustK ws [kNULL] c.2 else c.2
  let d := takeR ws 1 kUNIQUE s2
  (⟨a.1, if b.1 = true then 1 else 2, c.1, d.1⟩, d.2)
def assignR (ws : List Wd) (s : PS) : As × PS :=
  let a := nameR ws s
  let e := exprR ws (mustG ws [61] a.2)
  (⟨a.1, e.1⟩, e.2)
def whereR (ws : List Wd) (s : PS) : List ET × PS :=
  let a := takeR ws 1 kWHERE s
  if a.1 = true then ([(exprR ws a.2).1], (exprR ws a.2).2) else ([], a.2)
def itemR (ws : List Wd) (s : PS) : It × PS :=
  let e := exprR ws s
  let a := takeR ws 1 kAS e.2
  if a.1 = true then (⟨e.1, (nameR ws a.2).1⟩, (nameR ws a.2).2) else (⟨e.1, eB⟩, a.2)
def sourceR (ws : List Wd) (s : PS) : So × PS :=
  let n := nameR ws s
  let a := takeR ws 1 kAS n.2
  if a.1 = true then (⟨n.1, (nameR ws a.2).1, zET⟩, (nameR ws a.2).2) else (⟨n.1, n.1, zET⟩, a.2)
def joinsR (ws : List Wd) : Nat → List So → PS → List So × PS
  | 0, l, s => (l, s)
  | f + 1, l, s =>
    if tkS ws 1 kJOIN s = true then
      let a := sourceR ws (goS true s)
      let e := exprR ws (mustK ws [kON] a.2)
      joinsR ws f (l ++ [{ a.1 with on := e.1 }]) e.2
    else (l, s)
def sourcesR (ws : List Wd) (s : PS) : List So × PS := joinsR ws (ws.length + 1) [(sourceR ws s).1] (sourceR ws s).2
def orderR (ws : List Wd) (s : PS) : Od × PS :=
  let e := exprR ws s
  let d := takeR ws 1 kDESC e.2
  if d.1 = true then (⟨e.1, true⟩, d.2) else (⟨e.1, false⟩, (takeR ws 1 kASC d.2).2)
def queryR (ws : List Wd) (s : PS) : QT × PS :=
  let d := takeR ws 1 kDISTINCT s
  let t := takeR ws 4 [42] d.2
  let i := if t.1 = true then (([] : List It), t.2) else listR ws (itemR ws) t.2
  let f := sourcesR ws (mustK ws [kFROM] i.2)
  let w := whereR ws f.2
  let g := takeR ws 1 kGROUP w.2
  let gl := if g.1 = true then listR ws (exprR ws) (mustK ws [kBY] g.2) else (([] : List ET), g.2)
  let o := takeR ws 1 kORDER gl.2
  let ol := if o.1 = true then listR ws (orderR ws) (mustK ws [kBY] o.2) else (([] : List Od), o.2)
  let l := takeR ws 1 kLIMIT ol.2
  let n := if l.1 = true then numR ws l.2 else (-1, l.2)
  (⟨d.1, t.1, i.1, f.1, w.1, gl.1, ol.1, n.1⟩, n.2)
def dropR (ws : List Wd) (s : PS) : ST × PS :=
  let a := takeR ws 1 kTABLE s
  if a.1 = true then ({ zST with kind := 4, name := (nameR ws a.2).1 }, (nameR ws a.2).2)
  else
    let b := takeR ws 1 kINDEX a.2
    if b.1 = true then ({ zST with kind := 5, name := (nameR ws b.2).1 }, (nameR ws b.2).2)
    else ({ zST with kind := 6, name := (nameR ws (mustK ws [kVIEW] b.2)).1 }, (nameR ws (mustK ws [kVIEW] b.2)).2)
def createR (ws : List Wd) (s : PS) : ST × PS :=
  let a := takeR ws 1 kTABLE s
  if a.1 = true then
    let n := nameR ws a.2
    let c := brackR ws (columnR ws) n.2
    ({ zST with kind := 1, name := n.1, cols := c.1 }, c.2)
  else
    let b := takeR ws 1 kMATERIALIZED a.2
    if b.1 = true then
      let n := nameR ws (mustK ws [kVIEW] b.2)
      let q := queryR ws (mustK ws [kAS, kSELECT] n.2)
      ({ zST with kind := 3, name := n.1, q := q.1 }, q.2)
    else
      let u := takeR ws 1 kUNIQUE b.2
      let n := nameR ws (mustK ws [kINDEX] u.2)
      let o := nameR ws (mustK ws [kON] n.2)
      let k := brackR ws (nameR ws) o.2
      ({ zST with kind := 2, uniq := u.1, name := n.1, on := o.1, keys := k.1 }, k.2)
def statementR (ws : List Wd) (s : PS) : ST × PS :=
  let c := takeR ws 1 kCREATE s
  if c.1 = true then createR ws c.2 else
  let d := takeR ws 1 kDROP c.2
  if d.1 = true then dropR ws d.2 else
  let i := takeR ws 1 kINSERT d.2
  if i.1 = true then
    let n := nameR ws (mustK ws [kINTO] i.2)
    let r := listR ws (brackR ws (exprR ws)) (mustK ws [kVALUES] n.2)
    ({ zST with kind := 7, name := n.1, rows := r.1 }, r.2)
  else
  let u := takeR ws 1 kUPDATE i.2
  if u.1 = true then
    let n := nameR ws u.2
    let l := listR ws (assignR ws) (mustK ws [kSET] n.2)
    let w := whereR ws l.2
    ({ zST with kind := 8, name := n.1, sets := l.1, whr := w.1 }, w.2)
  else
  let x := takeR ws 1 kDELETE u.2
  if x.1 = true then
    let n := nameR ws (mustK ws [kFROM] x.2)
    let w := whereR ws n.2
    ({ zST with kind := 9, name := n.1, whr := w.1 }, w.2)
  else
  let q := takeR ws 1 kSELECT x.2
  if q.1 = true then ({ zST with kind := 10, q := (queryR ws q.2).1 }, (queryR ws q.2).2) else
  let b := takeR ws 1 kBEGIN q.2
  if b.1 = true then ({ zST with kind := 11 }, b.2) else
  let m := takeR ws 1 kCOMMIT b.2
  if m.1 = true then ({ zST with kind := 12 }, m.2) else
  let r := takeR ws 1 kROLLBACK m.2
  if r.1 = true then ({ zST with kind := 13 }, r.2) else (zST, fl 3 r.2)
/-- has it more of something than it may -/
def longR (s : ST) : Bool :=
  s.rows.any (fun r => decide (8 < r.length)) || (decide (8 < s.cols.length) || decide (8 < s.keys.length) || decide (8 < s.q.items.length) || decide (8 < s.q.group.length) || decide (8 < s.q.ord.length) || decide (3 < s.q.src.length) || decide (10 < s.rows.length) || decide (8 < s.sets.length))
/-- parse.Read of words -/
def ReadW (ws : List Wd) : ST × Int :=
  let r := statementR ws (0, 0)
  let c := (takeR ws 4 [59] r.2).2
  let m := if c.1 < ws.length then fl 3 c else c
  if m.2 ≠ 0 then (zST, m.2) else if longR r.1 = true then (zST, 5) else (r.1, 0)
end Go.Proofs.YtknhphcfcpjhiaaGreatDoor
namespace Go.Proofs.YtknhphcfcpjhiaaGreatDoor
open Go.RowKit
set_option linter.unusedVariables false
set_option linter.unusedSimpArgs false
set_option maxRecDepth 100000

mutual
def etSz : ET → Nat
  | .mk _ _ _ _ _ _ _ ps => 1 + elSz ps
def elSz : List ET → Nat
  | [] => 0
  | p :: ps => etSz p + elSz ps
end
theorem etSz_is (e : ET) : etSz e = 1 + elSz e.parts := by cases e; rfl
theorem elSz_mem {p : ET} : ∀ {l : List ET}, p ∈ l → etSz p ≤ elSz l
  | q :: l, h => by
    show _ ≤ etSz q + elSz l
    rcases List.mem_cons.1 h with rfl | h
    · omega
    · have := elSz_mem h; omega
theorem etSz_part {e p : ET} (h : p ∈ e.parts) : etSz p < etSz e := by
  rw [etSz_is e]
  have := elSz_mem h
  omega
end Go.Proofs.YtknhphcfcpjhiaaGreatDoor
namespace Go.Proofs.YtknhphcfcpjhiaaGreatDoor
open Go.RowKit
set_option linter.unusedVariables false
set_option linter.unusedSimpArgs false
set_option maxRecDepth 100000

end Go.Proofs.YtknhphcfcpjhiaaGreatDoor
namespace Go.Proofs.YtknhphcfcpjhiaaGreatDoor
open Go.RowKit
set_option linter.unusedVariables false
set_option linter.unusedSimpArgs false

/-- a later world: blocks that were there are as they were -/
structure Fut (w : World) where
  «to» : World
  bel : Below w.heap.size w «to»
instance (w : World) : Nonempty (Fut w) := ⟨⟨w, Below.refl _ _⟩⟩
theorem Fut.drew (w : World) : ∃ s : Fut w, w.drew = s.to := ⟨⟨w.drew, (Below.refl _ _).drew⟩, rfl⟩
theorem Fut.cell {w : World} {p : Addr} {v : Value} (h : w.cell? p = some v) (s : Fut w) : s.to.cell? p = some v := (s.bel.cell (World.block_lt_of_cell? w _ h)).trans h
/-- a callee that answers so in every later world, and makes memory at most -/
theorem calls_fut {P : Program} {f : FuncId} {args : Array Value} {w : World} {s : Fut w} {v : Value} (h : Calls P f args s.to fun e w' => e = .returned v ∧ Below s.to.heap.size s.to w') :
    Calls P f args s.to fun e w'' => e = .returned v ∧ ∃ s' : Fut w, w'' = s'.to :=
  h.mono fun _ _ ⟨he, hb⟩ => ⟨he, ⟨_, ⟨s.bel.os ▸ hb.os, s.bel.tape ▸ hb.tape, s.bel.output ▸ hb.output, Nat.le_trans s.bel.size hb.size, fun i hi => (hb.block i (Nat.lt_of_lt_of_le hi s.bel.size)).trans (s.bel.block i hi)⟩⟩, rfl⟩
section
variable {P : Program} {ops : Array Oper} {md : Region.Mode} {C : World → Prop}

/-- the head's walk: whatever may come up belongs to the head -/
def headQ (P : Program) (md : Region.Mode) (ops : Array Oper) (C : World → Prop) (n : Nat) (L : Array Bool → Act → Prop) : Nat → Array Bool → Act → Prop
  | 0, listed, a => L listed a
  | f + 1, listed, a => Region.ready md ops listed ≠ [] ∧ ∀ i ∈ Region.ready md ops listed, i < n ∧ qOp P ops C i (headQ P md ops C n L f (listed.setIfInBounds i true)) a

theorem any_of_headQ {n g : Nat} {L : Array Bool → Act → Prop} {Q' : Exit → Act → World → Prop} (hL : ∀ listed a w, C w → L listed a → wpAny P md ops Q' g listed a w) (f : Nat) :
    ∀ (listed : Array Bool) (a : Act) (w : World), C w → headQ P md ops C n L f listed a → wpAny P md ops Q' (f + g) listed a w := by
  induction f with
  | zero => intro listed a w hw h; rw [Nat.zero_add]; exact hL _ _ _ hw h
  | succ f ih =>
    intro listed a w hw h
    have e : f + 1 + g = (f + g) + 1 := by omega
    rw [e]
    refine ⟨fun h0 => absurd h0 h.1, fun i hi => ?_⟩
    exact wpOp_of_qOp hw (fun a' w' hw' h' => ih _ a' w' hw' h') (h.2 i hi).2

theorem headQ_first {n i : Nat} {oi : Oper} {v : Value} {L : Array Bool → Act → Prop} (hi : ops[i]? = some oi) (hsel : ∀ (j : Nat) (o : Oper) cs b, ops[j]? = some o → o.op ≠ .select cs b)
    (hs : Region.sinkB md ops n = true) (hc : Region.chainB md ops n = true) (hn : n < ops.size) (hin : i < n) (hdone : ∀ listed a, L listed a → ∀ j ∈ Region.ready md ops listed, n ≤ j) (f : Nat) :
    ∀ (listed : Array Bool) (a : Act), HeadInv md ops n listed →
      (∀ j oj, ops[j]? = some oj → j ≠ i → listed.getD j true = false → (∀ e ∈ oj.after, Region.binds md e = true → e.on ≠ i) → oi.apart ops oj = true) →
      i ∈ Region.ready md ops listed → YieldsIn P ops C oi v a →
      headQ P md ops C n L f (listed.setIfInBounds i true) (a.put oi.dst v) → headQ P md ops C n L (f + 1) listed a := by
  have low : ∀ listed, HeadInv md ops n listed → i ∈ Region.ready md ops listed → ∀ j ∈ Region.ready md ops listed, j < n := fun listed inv hr j hj => by
    rcases Nat.lt_or_ge j n with h | h
    · exact h
    · exact absurd hj (tail_waits hs hc hn inv _ i rfl hin (mem_ready.1 hr).1 j h)
  have some_ : ∀ listed, i ∈ Region.ready md ops listed → Region.ready md ops listed ≠ [] := fun listed hr h0 => by rw [h0] at hr; cases hr
  induction f with
  | zero =>
    intro listed a inv _ hr hy H
    refine ⟨some_ _ hr, fun j hj => ⟨low _ inv hr j hj, ?_⟩⟩
    by_cases hji : j = i
    · subst hji
      exact hy.qOp hi H
    · have h1 := hdone _ _ H j (ready_mono hj hji)
      have h2 := low _ inv hr j hj
      omega
  | succ f ih =>
    intro listed a inv hfree hr hy H
    refine ⟨some_ _ hr, fun j hj => ⟨low _ inv hr j hj, ?_⟩⟩
    by_cases hji : j = i
    · subst hji
      exact hy.qOp hi H
    obtain ⟨hjun, oj, hoj, hall⟩ := mem_ready.1 hj
    have hno : ∀ e ∈ oj.after, Region.binds md e = true → e.on ≠ i := fun e he hb heq => by
      have h1 := hall e he hb
      rw [heq, getD_both (mem_ready.1 hr).1] at h1
      cases h1
    have h2 := qOp_put hoj (hfree j oj hoj hji hjun hno) (fun cs b => hsel i oi cs b hi) (fun cs b => hsel j oj cs b hoj) hy (H.2 j (ready_mono hj hji)).2
    have hfree' : ∀ k ok, ops[k]? = some ok → k ≠ i → (listed.setIfInBounds j true).getD k true = false → (∀ e ∈ ok.after, Region.binds md e = true → e.on ≠ i) → oi.apart ops ok = true := fun k ok hk hki hun hno' => by
      by_cases hjk : j = k
      · exact hfree k ok hk hki (by rw [← hjk]; exact hjun) hno'
      · exact hfree k ok hk hki (by rwa [getD_set_ne true hjk] at hun) hno'
    refine qOp_mono (fun a' h3 => ?_) h2
    refine ih _ a' (inv.set hj (low _ inv hr j hj)) hfree' (ready_mono hr (Ne.symm hji)) h3.1 ?_
    rw [Array.setIfInBounds_comm _ _ hji]
    exact h3.2

theorem headQ_lex {n g : Nat} {Lq : Act → Prop} (hsel : Region.noSelect ops = true) (hs : Region.sinkB md ops n = true) (hc : Region.chainB md ops n = true) (hn : n < ops.size) (l : List Oper) :
    ∀ (k : Nat) (listed : Array Bool) (a : Act), (∀ j, j < l.length → l[j]? = ops[k + j]?) → k + l.length = n → HeadInv md ops n listed →
    Region.lexHead md ops g l.length k listed = true → wpQuiet P ops C Lq l a → headQ P md ops C n (fun listed' a' => Region.seqB md ops g n listed' = true ∧ Lq a') l.length listed a := by
  induction l with
  | nil =>
    intro k listed a _ hk inv hB h
    obtain rfl : k = n := by simpa using hk
    exact ⟨by simpa [Region.lexHead] using hB, h⟩
  | cons o l ih =>
    intro k listed a hl hk inv hB h
    have h0 : ops[k]? = some o := by simpa using (hl 0 (by simp)).symm
    simp only [List.length_cons, Region.lexHead, Bool.and_eq_true] at hB
    have hkn : k < n := by simp only [List.length_cons] at hk; omega
    have hr : k ∈ Region.ready md ops listed := by simpa using hB.1.1
    have hst : qOp P ops C k (wpQuiet P ops C Lq l) a := by unfold qOp; simp only [h0]; exact h
    obtain ⟨v, hy, hK⟩ := yieldsIn_of_qOp h0 hst
    refine headQ_first h0 (Region.noSelect_spec hsel) hs hc hn hkn (fun listed' a' hL => seqB_ready hL.1) l.length listed a inv (Region.free_spec h0 hB.1.2) hr hy ?_
    refine ih (k + 1) _ _ (fun j hj => ?_) (by simp only [List.length_cons] at hk; omega) (inv.set hr hkn) hB.2 hK
    have := hl (j + 1) (by simp; omega)
    simpa [Nat.add_assoc, Nat.add_comm 1 j] using this

/-- the theorem: the class is 'later worlds' -/
theorem wp_region_fut_tail {id : Nat} {Q : Exit → Act → World → Prop} {a : Act} {w : World} {l : List Oper} (n : Nat) (hm : P.follows .mixedOrders = true) (hB : Region.lexTailB .any l.toArray n = true)
    (h : wpQuiet P l.toArray (fun w' => ∃ s : Fut w, w' = s.to) (fun a' => ∀ s : Fut w, wpList P l.toArray Q (l.drop n) a' s.to) (l.take n) a) : (Code.region id l.toArray true).wp P Q a w := by
  simp only [Region.lexTailB, Bool.and_eq_true, decide_eq_true_eq] at hB
  obtain ⟨⟨⟨⟨hsel, hn⟩, hs⟩, hc⟩, hlex⟩ := hB
  have htl : (l.take n).length = n := by
    have : n < l.length := by simpa using hn
    simp; omega
  have hdl : (l.drop n).length = l.toArray.size - n := by simp
  have inv0 : HeadInv .any l.toArray n (Array.replicate l.toArray.size false) := ⟨by simp, fun j oj _ hl => (by rw [getD_replicate_false] at hl; cases hl), fun t _ ht => getD_in (by simpa using ht) (getD_replicate_false _ _)⟩
  have H := headQ_lex (md := .any) (g := l.toArray.size - n) hsel hs hc hn (l.take n) 0 _ a (fun j hj => by
    rw [htl] at hj
    simp [hj]) (by simpa using htl) inv0 (by rw [htl]; exact hlex) h
  refine wp_region_any hm ?_
  have h9 := any_of_headQ (C := fun w' => ∃ s : Fut w, w' = s.to) (Q' := Q) (g := l.toArray.size - n) (fun listed a' w' hw' hL => by
    obtain ⟨s, rfl⟩ := hw'
    have := wpAny_of_seq (md := .any) (Q' := Q) (l.drop n) n listed a' s.to (fun j => by simp [List.getElem?_drop]) (by rw [hdl]; exact hL.1) (hL.2 s)
    rwa [hdl] at this) _ _ _ _ (Fut.drew w) H
  rw [htl, show n + (l.toArray.size - n) = l.toArray.size by omega] at h9
  exact h9
/-- .. without a tail -/
theorem wp_region_fut {id : Nat} {Q : Exit → Act → World → Prop} {a : Act} {w : World} {l : List Oper} (hm : P.follows .mixedOrders = true) (hB : Region.lexB .any l.toArray = true)
    (h : wpQuiet P l.toArray (fun w' => ∃ s : Fut w, w' = s.to) (fun a' => ∀ w', (∃ s : Fut w, w' = s.to) → Q .normal a' w') l a) : (Code.region id l.toArray true).wp P Q a w :=
  wp_region_quiet (C := fun w' => ∃ s : Fut w, w' = s.to) hm hB (Fut.drew w) (by simpa using h)

/-! where an operation of the head may come behind the first that writes: one that needs no world ('floating') -/
end
end Go.Proofs.YtknhphcfcpjhiaaGreatDoor
namespace Go.Proofs.YtknhphcfcpjhiaaGreatDoor

/-- a value: kind, number, text -/
abbrev Val := Int × Int × ByteArray
def noV : Val := (0, 0, ⟨#[]⟩)
/-- a slice of values: what it reads as -/
def IsV (w : World) (a : Option Addr) (len : Nat) (vs : List Val) : Prop :=
  vs.length = len ∧ len ≤ 9223372036854775807 ∧ (len = 0 ∨ ∃ b off, a = some ⟨b, off, none⟩ ∧ b < w.heap.size ∧ ∀ i, i < len →
    w.cell? ⟨b, off + i * 3, none⟩ = some (.int .i64 (vs.getD i noV).1) ∧ w.cell? ⟨b, off + i * 3 + 1, none⟩ = some (.int .i64 (vs.getD i noV).2.1) ∧ w.cell? ⟨b, off + i * 3 + 2, none⟩ = some (.string (vs.getD i noV).2.2))

theorem IsV.below {w w' : World} {a : Option Addr} {len : Nat} {vs : List Val} (h : IsV w a len vs) (hb : RowKit.Below w.heap.size w w') : IsV w' a len vs := by
  obtain ⟨h1, h2, h3⟩ := h
  refine ⟨h1, h2, ?_⟩
  rcases h3 with h3 | ⟨b, off, rfl, hlt, hc⟩
  · exact .inl h3
  · refine .inr ⟨b, off, rfl, Nat.lt_of_lt_of_le hlt hb.size, fun i hi => ?_⟩
    rw [hb.cell (p := ⟨b, off + i * 3, none⟩) hlt, hb.cell (p := ⟨b, off + i * 3 + 1, none⟩) hlt, hb.cell (p := ⟨b, off + i * 3 + 2, none⟩) hlt]
    exact hc i hi

/-- a new row of m values, of which the first ones are written -/
def RowV (w : World) (e : TypeId) (g m : Nat) (vs : List Val) : Prop :=
  ∃ cur : Array Value, w.heap[g]? = some (.cells cur e (0, 0)) ∧ cur.size = m * 3 ∧ ∀ i, i < vs.length → cur[i * 3]? = some (.int .i64 (vs.getD i noV).1) ∧ cur[i * 3 + 1]? = some (.int .i64 (vs.getD i noV).2.1) ∧ cur[i * 3 + 2]? = some (.string (vs.getD i noV).2.2)
theorem RowV.lt {w : World} {e : TypeId} {g m : Nat} {vs : List Val} (h : RowV w e g m vs) : g < w.heap.size := by
  obtain ⟨cur, hg, _⟩ := h
  exact (Array.getElem?_eq_some_iff.1 hg).1
theorem RowV.below {w w' : World} {e : TypeId} {g m : Nat} {vs : List Val} (h : RowV w e g m vs) (hb : RowKit.Below w.heap.size w w') : RowV w' e g m vs := by
  have hlt := h.lt
  obtain ⟨cur, hg, h⟩ := h
  exact ⟨cur, (hb.block g hlt).trans hg, h⟩
theorem RowV.there {w : World} {e : TypeId} {g m : Nat} {vs : List Val} (h : RowV w e g m vs) {j : Nat} (hj : j < m) : ∃ u0 u1 u2, w.cell? ⟨g, j * 3, none⟩ = some u0 ∧ w.cell? ⟨g, j * 3 + 1, none⟩ = some u1 ∧ w.cell? ⟨g, j * 3 + 2, none⟩ = some u2 ∧ ∀ k, w.frozen? ⟨g, k, none⟩ = false := by
  obtain ⟨cur, hg, hs, h⟩ := h
  refine ⟨cur[j * 3]'(by omega), cur[j * 3 + 1]'(by omega), cur[j * 3 + 2]'(by omega), ?_, ?_, ?_, fun k => frozen_of_row w g k cur e hg⟩
  · rw [cell_of_row w g _ cur e _ hg, Array.getElem?_eq_getElem]
  · rw [cell_of_row w g _ cur e _ hg, Array.getElem?_eq_getElem]
  · rw [cell_of_row w g _ cur e _ hg, Array.getElem?_eq_getElem]
theorem RowV.set {w : World} {e : TypeId} {g m j : Nat} {vs : List Val} (h : RowV w e g m vs) (hl : vs.length = j) (hj : j < m) (v : Val) :
    RowV (((w.setCell ⟨g, j * 3, none⟩ (.int .i64 v.1)).setCell ⟨g, j * 3 + 1, none⟩ (.int .i64 v.2.1)).setCell ⟨g, j * 3 + 2, none⟩ (.string v.2.2)) e g m (vs ++ [v]) := by
  obtain ⟨cur, hg, hs, h⟩ := h
  have h1 := heap_setCell_same w g (j * 3) cur e (.int .i64 v.1) hg
  have h2 := heap_setCell_same _ g (j * 3 + 1) _ e (.int .i64 v.2.1) h1
  have h3 := heap_setCell_same _ g (j * 3 + 2) _ e (.string v.2.2) h2
  refine ⟨_, h3, by simp [hs], fun i hi => ?_⟩
  simp only [List.length_append, List.length_cons, List.length_nil] at hi
  by_cases hij : i < vs.length
  · have e1 : (vs ++ [v]).getD i noV = vs.getD i noV := by
      rw [List.getD_eq_getElem?_getD, List.getD_eq_getElem?_getD, List.getElem?_append_left hij]
    obtain ⟨a, b, c⟩ := h i hij
    rw [e1]
    refine ⟨?_, ?_, ?_⟩ <;> (repeat rw [Array.getElem?_setIfInBounds_ne (by omega)]) <;> assumption
  · obtain rfl : i = j := by omega
    have e1 : (vs ++ [v]).getD i noV = v := by
      rw [List.getD_eq_getElem?_getD, List.getElem?_append_right (by omega)]
      simp [hl]
    rw [e1]
    refine ⟨?_, ?_, ?_⟩
    · rw [Array.getElem?_setIfInBounds_ne (by omega), Array.getElem?_setIfInBounds_ne (by omega), Array.getElem?_setIfInBounds_self_of_lt (by omega)]
    · rw [Array.getElem?_setIfInBounds_ne (by omega), Array.getElem?_setIfInBounds_self_of_lt (by simp; omega)]
    · rw [Array.getElem?_setIfInBounds_self_of_lt (by simp; omega)]
/-- the three cells of the k-th value -/
theorem IsV.at {w wr : World} {a : Option Addr} {len : Nat} {vs : List Val} (h : IsV w a len vs) (hb : RowKit.Below w.heap.size w wr) {k : Nat} (hk : k < len) :
    ∃ b off, a = some ⟨b, off, none⟩ ∧ b < w.heap.size ∧ wr.cell? ⟨b, off + k * 3, none⟩ = some (.int .i64 (vs.getD k noV).1) ∧ wr.cell? ⟨b, off + k * 3 + 1, none⟩ = some (.int .i64 (vs.getD k noV).2.1) ∧ wr.cell? ⟨b, off + k * 3 + 2, none⟩ = some (.string (vs.getD k noV).2.2) := by
  obtain ⟨_, _, h⟩ := h
  rcases h with h | ⟨b, off, rfl, hlt, hc⟩
  · omega
  · refine ⟨b, off, rfl, hlt, ?_⟩
    rw [hb.cell (p := ⟨b, off + k * 3, none⟩) hlt, hb.cell (p := ⟨b, off + k * 3 + 1, none⟩) hlt, hb.cell (p := ⟨b, off + k * 3 + 2, none⟩) hlt]
    exact hc k hk

/-- the three cells of a value's box -/
def Box (w : World) (b : Nat) (x : Val) : Prop := w.cell? ⟨b, 0, none⟩ = some (.int .i64 x.1) ∧ w.cell? ⟨b, 1, none⟩ = some (.int .i64 x.2.1) ∧ w.cell? ⟨b, 2, none⟩ = some (.string x.2.2)
theorem Box.grown {w w' : World} {b : Nat} {x : Val} {row : Option Nat} (h : Box w b x) (hg : w.grownBy w' row) (hne : some b ≠ row) : Box w' b x :=
  ⟨hg.cell h.1 hne, hg.cell h.2.1 hne, hg.cell h.2.2 hne⟩
theorem Box.below {w w' : World} {b : Nat} {x : Val} (h : Box w b x) (hb : RowKit.Below w.heap.size w w') : Box w' b x :=
  ⟨cell_later hb h.1, cell_later hb h.2.1, cell_later hb h.2.2⟩
end Go.Proofs.YtknhphcfcpjhiaaGreatDoor
namespace Go.Proofs.YtknhphcfcpjhiaaGreatDoor
open Go.RowKit Go.IntWalk
set_option linter.unusedVariables false
set_option linter.unusedSimpArgs false
set_option maxRecDepth 100000

def InR (r : Int) : Prop := -9223372036854775808 ≤ r ∧ r ≤ 9223372036854775807
end Go.Proofs.YtknhphcfcpjhiaaGreatDoor
