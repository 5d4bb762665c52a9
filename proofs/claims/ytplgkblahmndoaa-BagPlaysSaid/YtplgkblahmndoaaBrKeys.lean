/- A bag's keys in order are the document's list's. -/
import Derived.Test.YtplgkblahmndoaaBrSt
import Derived.Sort.KeysCollected
import Derived.Sort.Walk0
namespace Go.Proofs.Ytplgkblahmndoaa
open Go.RowKit Go.WideMaps Go.Maps Go.Sort
set_option linter.unusedVariables false
set_option maxRecDepth 100000

/-- the keys, sorted, in a row of the call's own -/
def SortKeys (w : World) (Dm : DataW Unit) (e : Ending) (w' : World) : Prop := ∃ (v : Value) (ss : List (List UInt8)), e = .returned v ∧ ss.Perm (strKeys Dm) ∧ w'.ownsRow w.heap.size 9 1 v ss.length ((ss.mergeSort (fun x y => decide (x ≤ y))).map encStr) ∧ Below w.heap.size w w'
theorem SortKeys.of {w W : World} {Dm : DataW Unit} {ks : List (List UInt8)} (hb : Below w.heap.size w W) (hk : ks = strKeys Dm) {e : Ending} {w' : World} (h : SortedStr W ks e w') : SortKeys w Dm e w' := by
  obtain ⟨v, ss, h1, h2, h3, h4⟩ := h
  have hle : w.heap.size ≤ W.heap.size := hb.size
  refine ⟨v, ss, h1, by rw [← hk]; exact h2, ?_, bt hb h4⟩
  refine ⟨h3.1, ?_⟩
  rcases h3.2 with h | ⟨b, c, cur, e1, e2, r⟩
  · exact .inl h
  · exact .inr ⟨b, c, cur, e1, Nat.le_trans hle e2, r⟩
set_option maxHeartbeats 1600000 in
theorem bsorted_any (w : World) (D B n : Nat) (mo : Option Nat) (Dm : DataW Unit) (t : Lit → Option SlN) (L : List Ent) (h : BagR w D B n mo Dm t L) (hm : Maps.size Dm ≤ 100000) :
    Calls Try.prog 57 #[.pointer (some ⟨D, 0, none⟩)] w (SortKeys w Dm) := by
  have h0 : w.cell? ⟨D, 0, none⟩ = some (.map mo) := cell_of_row w D 0 _ _ _ h.box
  have HM := Lib.hid h.mp
  have hb0 : Below w.heap.size w (w.alloc (.cells #[.map mo] 109)) := bel0 _ (Below.refl _ _)
  have HB := Lib.hid hb0
  clear h hb0
  go_enter Try.func57, Try.ntmps57
  go_wp2_with fail
  refine (keys_str mo _).mono ?_
  rintro e w1 ⟨rfl, hw⟩
  subst hw
  rcases HM.out with ⟨rfl, rfl⟩ | ⟨M, rfl, _, ho⟩
  · go_wp2_with fail
    refine (sorted_str_nil w).mono ?_
    rintro e w2 hs
    have hq : SortKeys w (.map []) e w2 := SortKeys.of HB.out rfl hs
    obtain ⟨v, ss, rfl, r⟩ := hq
    have HR := Lib.hid (show SortKeys w (.map []) (.returned v) w2 from ⟨v, ss, rfl, r⟩)
    clear r hs
    go_wp2
    go_ret
    exact HR.out
  · have HO := Lib.hid ho
    clear ho
    go_wp2_with fail
    refine (sorted_str M n Dm entR w HO.out (by unfold maxLen; omega) (by omega)).mono ?_
    rintro e w2 hs
    have hq : SortKeys w Dm e w2 := SortKeys.of HB.out rfl hs
    obtain ⟨v, ss, rfl, r⟩ := hq
    have HR := Lib.hid (show SortKeys w Dm (.returned v) w2 from ⟨v, ss, rfl, r⟩)
    clear r hs
    go_wp2
    go_ret
    exact HR.out
end Go.Proofs.Ytplgkblahmndoaa
namespace Go.Proofs.Ytplgkblahmndoaa
open Go.RowKit Go.WideMaps Go.Maps Go.Sort
set_option linter.unusedVariables false
set_option maxRecDepth 100000

/-- a key's bytes -/
def kB (e : Ent) : List UInt8 := (strOfNums (kE e)).data.toList
theorem kB_lt {a b : Ent} (h : lessI (kE a) (kE b) = true) : kB a < kB b := by
  have h1 := less_str (kE a) (kE b) (keyVs_range _) (keyVs_range _)
  rw [h, ByteArray.toList_eq, ByteArray.toList_eq, bytesLess_eq] at h1
  exact of_decide_eq_true h1
theorem litK_eq (e : Ent) : litK e.1 = .string (kB e) := rfl
theorem BagR.keys {w : World} {D B n : Nat} {mo : Option Nat} {Dm : DataW Unit} {t : Lit → Option SlN} {L : List Ent} (h : BagR w D B n mo Dm t L) : (L.map kB).Perm (strKeys Dm) := by
  obtain ⟨es, he, hp, hk⟩ : ∃ es, Dm = .map es ∧ es.Pairwise (fun p q => p.1 ≠ q.1) ∧ ∀ p ∈ es, ∃ x, p.1 = .string x := by
    rcases h.mp with ⟨_, rfl⟩ | ⟨M, rfl, _, ho⟩
    · exact ⟨[], rfl, List.Pairwise.nil, fun p hp => by cases hp⟩
    · obtain ⟨es, e, hpw, _⟩ := ho.canon bstrKeyed
      obtain ⟨es', e', hks⟩ := ho.keysOf
      have h2 : es' = es := by rw [e] at e'; injection e' with e'; exact e'.symm
      subst h2
      refine ⟨es', e, apart_of_rising hpw, fun p hp => ?_⟩
      obtain ⟨v, hv⟩ := hks p hp
      obtain ⟨x, _, hx, _⟩ := Maps.keyOf_str Try.underlying9 hv
      exact ⟨x, hx⟩
  subst he
  refine perm_strKeys hp hk ?_ (fun x => ?_)
  · refine List.pairwise_map.2 (h.sort.imp (fun {a b} hab e => ?_))
    have := kB_lt hab
    rw [e] at this
    exact absurd this (List.lt_irrefl _)
  · rw [h.bal.on]
    constructor
    · intro hx
      obtain ⟨e, he, rfl⟩ := List.mem_map.1 hx
      obtain ⟨y, hy, _⟩ := h.ent e he
      rw [litK_eq] at hy
      rw [hy]; rfl
    · intro hx
      obtain ⟨y, hy⟩ := Option.isSome_iff_exists.1 hx
      obtain ⟨e, he, hk⟩ := h.all _ y hy
      rw [litK_eq] at hk
      injection hk with hk
      exact List.mem_map.2 ⟨e, he, hk.symm⟩
theorem BagR.sorted {w : World} {D B n : Nat} {mo : Option Nat} {Dm : DataW Unit} {t : Lit → Option SlN} {L : List Ent} (h : BagR w D B n mo Dm t L) {ss : List (List UInt8)} (hs : ss.Perm (strKeys Dm)) : ss.mergeSort (fun x y => decide (x ≤ y)) = L.map kB := by
  have h1 := mergeSort_of_perm (hs.trans h.keys.symm)
  refine h1.trans (List.mergeSort_of_pairwise ?_)
  refine List.pairwise_map.2 (h.sort.imp (fun {a b} hab => ?_))
  exact decide_eq_true (List.le_of_lt (kB_lt hab))
end Go.Proofs.Ytplgkblahmndoaa
