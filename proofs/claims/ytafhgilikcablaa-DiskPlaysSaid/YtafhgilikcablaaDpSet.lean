/- Contract: settle of a file that was synced before. -/
import Derived.Test.YtafhgilikcablaaDkS
import Derived.Test.YtafhgilikcablaaDkC
import Derived.Test.YtafhgilikcablaaDpCopy
import Derived.Test.YtafhgilikcablaaQTail
namespace Go.Proofs.Ytafhgilikcablaa
open Go.RowKit Go.Maps
set_option linter.unusedVariables false
set_option maxRecDepth 100000

/-- behind settle -/
def SetP (w : World) (D off B : Nat) (cs : Array Value) (T : TypeId) (s : Value) (zs : List Int) (w' : World) : Prop :=
  ∃ s', w'.ownsRow B 5 1 s' zs.length (zs.map (Value.int .u8)) ∧ w'.heap[D]? = some (.cells ((cs.setIfInBounds (off + 1) s').setIfInBounds (off + 2) (.map none)) T (0, 0)) ∧ Only (fun i => i = D ∨ s.ownBlock = some i) w w' ∧
    (s'.ownBlock = s.ownBlock ∨ ∃ K, s'.ownBlock = some K ∧ w.heap.size ≤ K)
/-- within the loop: bytes of sectors that were seen are as written -/
structure SIn (w : World) (D off B : Nat) (cs : Array Value) (T : TypeId) (v m s : Value) (zs : List Int) (L : List Lit) (left : Lit → Bool) (y : List Int) (wr : World) : Prop where
  box : wr.heap[D]? = some (.cells cs T (0, 0))
  now : FSt wr B zs L v m
  syn : wr.ownsRow B 5 1 s y.length (y.map (Value.int .u8))
  on : Only (fun i => s.ownBlock = some i) w wr
  seen : ∀ i, i < y.length → left (sk (i / 64)) = false → y.getD i 0 = zs.getD i 0

theorem SIn.draw {w wr : World} {D off B : Nat} {cs : Array Value} {T : TypeId} {v m s : Value} {zs y : List Int} {L : List Lit} {left : Lit → Bool} (h : SIn w D off B cs T v m s zs L left y wr) (k : Nat) : SIn w D off B cs T v m s zs L left y (wr.drewN k) :=
  ⟨h.box, ⟨h.now.own, h.now.rg, h.now.mp⟩, h.syn, ⟨h.on.os, h.on.tape, h.on.output, h.on.size, h.on.block⟩, h.seen⟩
theorem SIn.below {w wr w' : World} {D off B : Nat} {cs : Array Value} {T : TypeId} {v m s : Value} {zs y : List Int} {L : List Lit} {left : Lit → Bool} (h : SIn w D off B cs T v m s zs L left y wr) (hb : Below wr.heap.size wr w') : SIn w D off B cs T v m s zs L left y w' :=
  ⟨(hb.block D (Array.getElem?_eq_some_iff.1 h.box).1).trans h.box, h.now.below hb, own_only h.syn (Only.below hb) (fun _ _ => id), h.on.trans ((Only.below hb).mono (fun _ => False.elim)), h.seen⟩
/-- all seen: the rest behind them is what was written -/
theorem all_seen {zs y : List Int} (hle : y.length ≤ zs.length) (h : ∀ i, i < y.length → y.getD i 0 = zs.getD i 0) : y ++ zs.drop y.length = zs := by
  have e : y = zs.take y.length := by
    apply ext_getD
    · rw [List.length_take]; omega
    · intro i hi
      rw [h i hi, List.getD_eq_getElem?_getD, List.getD_eq_getElem?_getD, List.getElem?_take, if_pos hi]
  conv => lhs; arg 1; rw [e]
  exact List.take_append_drop _ _
theorem sk_same (a b : Nat) : (sk a).sameKey (sk b) = decide (a = b) := by
  unfold sk Lit.sameKey
  simp
  omega
/-- a sector more -/
theorem SIn.copied {w wr w' : World} {D off B sc : Nat} {cs : Array Value} {T : TypeId} {v m s : Value} {zs y : List Int} {L : List Lit} {left : Lit → Bool} (h : SIn w D off B cs T v m s zs L left y wr) {g : Nat} (hs : s.ownBlock = some g) (hle : y.length ≤ zs.length)
    (hfc : min (sc * 64) zs.length < min (min (sc * 64 + 64) zs.length) y.length) (hDB : D < B) (hap : ∀ g, v.ownBlock = some g → s.ownBlock ≠ some g)
    (hown : w'.ownsRow B 5 1 s y.length ((midB y ((zs.drop (min (sc * 64) zs.length)).take (min (min (sc * 64 + 64) zs.length) y.length - min (sc * 64) zs.length)) (min (sc * 64) zs.length)).map (Value.int .u8))) (hg : wr.grownBy w' (some g)) :
    SIn w D off B cs T v m s zs L (fun z => left z && !z.sameKey (sk sc)) (midB y ((zs.drop (min (sc * 64) zs.length)).take (min (min (sc * 64 + 64) zs.length) y.length - min (sc * 64) zs.length)) (min (sc * 64) zs.length)) w' := by
  obtain ⟨p, hp⟩ : ∃ p, p = min (sc * 64) zs.length := ⟨_, rfl⟩
  obtain ⟨q, hq⟩ : ∃ q, q = min (min (sc * 64 + 64) zs.length) y.length := ⟨_, rfl⟩
  rw [← hp, ← hq] at hfc hown ⊢
  obtain ⟨b, hb⟩ : ∃ b, b = (zs.drop p).take (q - p) := ⟨_, rfl⟩
  rw [← hb] at hown ⊢
  have hbl : b.length = q - p := by rw [hb, List.length_take, List.length_drop]; omega
  have hfit : p + b.length ≤ y.length := by omega
  have hml := midB_length hfit
  have hgB : B ≤ g := by
    obtain ⟨_, _, hc⟩ := own_at h.syn hs
    exact (own_at h.syn hs).1
  have hon : Only (fun i => s.ownBlock = some i) wr w' := Only.of hg (fun K hK => by cases hK; exact hs)
  have hDlt : D < wr.heap.size := (Array.getElem?_eq_some_iff.1 h.box).1
  refine ⟨(hon.block D hDlt (fun e => by have := hs.symm.trans e; cases this; omega)).trans h.box, h.now.only hon (fun g' hg' e => hap g' hg' e) (fun g' hg' e => ?_), by rw [hml]; exact hown, h.on.trans hon, fun i hi hl => ?_⟩
  · obtain ⟨_, cur, hc⟩ := own_at h.syn e
    rcases h.now.mp with ⟨e0, _⟩ | ⟨M, e0, _, hss⟩
    · rw [hg'] at e0; cases e0
    · rw [hg'] at e0; cases e0
      exact hss.not_cells hc
  · rw [hml] at hi
    rw [midB_at hfit hi]
    by_cases hin : p ≤ i ∧ i < p + b.length
    · rw [if_pos hin, hb, List.getD_eq_getElem?_getD, List.getElem?_take, if_pos (by omega), List.getElem?_drop, List.getD_eq_getElem?_getD]
      congr 2
      omega
    · rw [if_neg hin]
      apply h.seen i hi
      rw [sk_same] at hl
      have hne : i / 64 ≠ sc := fun e => hin (by omega)
      simpa [hne] using hl
/-- the iterator moved -/
theorem SIn.iter {w wr w' : World} {D off B r : Nat} {cs : Array Value} {T : TypeId} {v m s : Value} {zs y : List Int} {L : List Lit} {left : Lit → Bool} (h : SIn w D off B cs T v m s zs L left y wr) (hg : wr.grownBy w' (some r)) (hr : w.heap.size ≤ r) (hD : D < w.heap.size)
    (hv : ∀ g, v.ownBlock = some g → g < w.heap.size) (hs : ∀ g, s.ownBlock = some g → g < w.heap.size) (hm : ∀ g, m = .map (some g) → g < w.heap.size) : SIn w D off B cs T v m s zs L left y w' := by
  have hon : Only (fun i => i = r) wr w' := Only.of hg (fun K hK => by cases hK; rfl)
  refine ⟨(hon.block D (Array.getElem?_eq_some_iff.1 h.box).1 (fun e => by omega)).trans h.box, h.now.only hon (fun g hg' e => by have := hv g hg'; omega) (fun g hg' e => by have := hm g hg'; omega), own_only h.syn hon (fun g hg' e => by have := hs g hg'; omega), ?_, h.seen⟩
  exact ⟨hon.os.trans h.on.os, hon.tape.trans h.on.tape, hon.output.trans h.on.output, Nat.le_trans h.on.size hon.size, fun i hi hn => (hon.block i (Nat.lt_of_lt_of_le hi h.on.size) (fun e => by omega)).trans (h.on.block i hi hn)⟩
/-- a sector of which nothing was synced -/
theorem SIn.skipped {w wr : World} {D off B sc : Nat} {cs : Array Value} {T : TypeId} {v m s : Value} {zs y : List Int} {L : List Lit} {left : Lit → Bool} (h : SIn w D off B cs T v m s zs L left y wr) (hle : y.length ≤ zs.length)
    (hfc : ¬ min (sc * 64) zs.length < min (min (sc * 64 + 64) zs.length) y.length) : SIn w D off B cs T v m s zs L (fun z => left z && !z.sameKey (sk sc)) y wr :=
  ⟨h.box, h.now, h.syn, h.on, fun i hi hl => by
    apply h.seen i hi
    rw [sk_same] at hl
    have hne : i / 64 ≠ sc := fun e => hfc (by omega)
    simpa [hne] using hl⟩
end Go.Proofs.Ytafhgilikcablaa
