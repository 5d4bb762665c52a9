/- A bag's state, its rows with it. -/
import Derived.Test.YtplgkblahmndoaaBoAdd
import Derived.Test.YtplgkblahmndoaaBrMap
import Derived.Test.YtplgkblahmndoaaSrtS
namespace Go.Proofs.Ytplgkblahmndoaa
open Go.RowKit Go.WideMaps Go.Maps
open Classical in
set_option linter.unusedVariables false
set_option maxRecDepth 100000

/-- a row's key, as the map's data has it -/
def litK (r : List Val) : Lit := .string (strOfNums (keyVs r)).data.toList
/-- where an entry's row lies -/
def RowAt (w : World) (B : Nat) (x : SlN) (r : List Val) : Prop :=
  IsV w (adA x.1) x.2.1 r ∧ (adA x.1 = none → x.2.1 = 0 ∧ x.2.2.1 = 0) ∧ ∀ b o, x.1 = some (b, o) → B ≤ b ∧ b < w.heap.size
/-- a bag: its block, its map, and the document's list of it -/
structure BagR (w : World) (D B n : Nat) (mo : Option Nat) (Dm : DataW Unit) (t : Lit → Option SlN) (L : List Ent) : Prop where
  box : w.heap[D]? = some (.cells #[.map mo] 111 (0, 0))
  lt : D < B
  le : B ≤ w.heap.size
  bal : BalR Dm t
  mp : (mo = none ∧ Dm = .map []) ∨ ∃ M, mo = some M ∧ B ≤ M ∧ w.ownsMap Try.prog 9 entR M n Dm
  sort : SortB L
  nz : ∀ e ∈ L, e.2 ≠ 0
  okr : ∀ e ∈ L, (∀ v ∈ e.1, okV v) ∧ e.1.length ≤ 50
  ent : ∀ e ∈ L, ∃ x, t (litK e.1) = some x ∧ x.2.2.2 = e.2 ∧ RowAt w B x e.1
  all : ∀ k x, t k = some x → ∃ e ∈ L, k = litK e.1
theorem RowAt.below {w w' : World} {B : Nat} {x : SlN} {r : List Val} (h : RowAt w B x r) (hb : Below w.heap.size w w') : RowAt w' B x r := by
  obtain ⟨h1, h2, h3⟩ := h
  exact ⟨h1.below hb, h2, fun b o e => ⟨(h3 b o e).1, Nat.lt_of_lt_of_le (h3 b o e).2 hb.size⟩⟩
theorem BagR.below {w w' : World} {D B n : Nat} {mo : Option Nat} {Dm : DataW Unit} {t : Lit → Option SlN} {L : List Ent} (h : BagR w D B n mo Dm t L) (hb : Below w.heap.size w w') : BagR w' D B n mo Dm t L :=
  ⟨(hb.block D (Array.getElem?_eq_some_iff.1 h.box).1).trans h.box, h.lt, Nat.le_trans h.le hb.size, h.bal, h.mp.imp id (fun ⟨M, e, b, o⟩ => ⟨M, e, b, ownsMap_only o (only_below hb) id⟩), h.sort, h.nz, h.okr, fun e he => by
    obtain ⟨x, h1, h2, h3⟩ := h.ent e he
    exact ⟨x, h1, h2, h3.below hb⟩, h.all⟩
theorem BagR.draw {w : World} {D B n : Nat} {mo : Option Nat} {Dm : DataW Unit} {t : Lit → Option SlN} {L : List Ent} (h : BagR w D B n mo Dm t L) (k : Nat) : BagR (w.drewN k) D B n mo Dm t L := ⟨h.box, h.lt, h.le, h.bal, h.mp, h.sort, h.nz, h.okr, h.ent, h.all⟩
theorem BagR.mono {w : World} {D B n m : Nat} {mo : Option Nat} {Dm : DataW Unit} {t : Lit → Option SlN} {L : List Ent} (h : BagR w D B n mo Dm t L) (hm : n ≤ m) : BagR w D B m mo Dm t L :=
  ⟨h.box, h.lt, h.le, h.bal, h.mp.imp id (fun ⟨M, e, b, o⟩ => ⟨M, e, b, o.mono hm⟩), h.sort, h.nz, h.okr, h.ent, h.all⟩
/-- a key that is there is looked up -/
theorem BagR.look {w : World} {D B n : Nat} {mo : Option Nat} {Dm : DataW Unit} {t : Lit → Option SlN} {L : List Ent} (h : BagR w D B n mo Dm t L) {S : ByteArray} (hS : S.size ≤ maxLen) {x : SlN} (hx : t (.string S.data.toList) = some x) : (Instr.lookup 109 (.map mo) (.string S) false).run Try.prog w = .ok (slV x) w := by
  have hk : keyOf Try.prog 9 (.string S) = some (.string S.data.toList) := keyOf_string_mk Try.underlying9 hS
  have hon := h.bal.on (.string S.data.toList)
  rw [hx] at hon
  rcases h.mp with ⟨rfl, rfl⟩ | ⟨M, rfl, _, ho⟩
  · simp [has_eq] at hon
  · obtain ⟨v, ps, hrun, hv⟩ := ho.lookup bstrKeyed Try.underlying109 (bzeroEntry w) (entR_mk (none, 0, 0, 0)) hk
    rw [h.bal.val _ x _ hx] at hv
    obtain ⟨y, rfl, e⟩ := entR_inv hv
    have : slD x = slD y := (Prod.mk.inj e).1
    rw [slD_inj this]
    exact hrun
/-- a key that isn't there: the zero entry -/
theorem BagR.lookNo {w : World} {D B n : Nat} {mo : Option Nat} {Dm : DataW Unit} {t : Lit → Option SlN} {L : List Ent} (h : BagR w D B n mo Dm t L) {S : ByteArray} (hS : S.size ≤ maxLen) (hx : t (.string S.data.toList) = none) : (Instr.lookup 109 (.map mo) (.string S) false).run Try.prog w = .ok (slV (none, 0, 0, 0)) w := by
  have hk : keyOf Try.prog 9 (.string S) = some (.string S.data.toList) := keyOf_string_mk Try.underlying9 hS
  rcases h.mp with ⟨rfl, rfl⟩ | ⟨M, rfl, _, ho⟩
  · exact Maps.look_nil (w := w) (P := Try.prog) (key := .string S) false bstrKeyed Try.underlying109 (bzeroEntry w) hk
  · obtain ⟨v, ps, hrun, hv⟩ := ho.lookup bstrKeyed Try.underlying109 (bzeroEntry w) (entR_mk (none, 0, 0, 0)) hk
    rw [h.bal.none hx] at hv
    obtain ⟨y, rfl, e⟩ := entR_inv hv
    have : slD (none, 0, 0, 0) = slD y := (Prod.mk.inj e).1
    rw [slD_inj this]
    exact hrun
end Go.Proofs.Ytplgkblahmndoaa
