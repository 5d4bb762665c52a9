/- Slices of bytes, read as numbers; rows of the call's own; frames: words and lemmas that all layers use. No program. -/
import Derived.Below
import Derived.WalkKit
import Derived.WalkLawsBesides
import Derived.WalkSpells
import Derived.OpenShut
import Derived.ShutString
import Derived.OwnWalk
import Derived.Laws.Bits64
import Derived.Laws.BytesArg
import Derived.Laws.IdiomStrings
import Derived.Lib.AppendStr
import Derived.Lib.Hide
namespace Go.Proofs.Ytafhgilikcablaa
open Go.RowKit
set_option linter.unusedVariables false
set_option linter.unusedSimpArgs false

theorem bel {w : World} (o : Obj) {w' : World} (h : Below w.heap.size w w') : Below w.heap.size w (w'.alloc o) := h.alloc h.size o
theorem bt {w a b : World} (h : Below w.heap.size w a) (k : Below a.heap.size a b) : Below w.heap.size w b := h.trans (k.mono h.size)
theorem bel0 {w : World} (o : Obj) {w' : World} (h : Below w.heap.size w w') : Below w.heap.size w (w'.alloc o) := h.alloc h.size o

theorem bcell {W w1 : World} (hb : Below W.heap.size W w1) : (∀ b o, b < W.heap.size → w1.cell? ⟨b, o, none⟩ = W.cell? ⟨b, o, none⟩) ∧ (∀ b o, b < W.heap.size → w1.frozen? ⟨b, o, none⟩ = W.frozen? ⟨b, o, none⟩) :=
  ⟨fun b o h => hb.cell (p := ⟨b, o, none⟩) h, fun b o h => hb.frozen (p := ⟨b, o, none⟩) h⟩

/-- a slice of bytes: what it reads as -/
def IsB (w : World) (a : Option Addr) (len : Nat) (zs : List Int) : Prop :=
  zs.length = len ∧ len ≤ 9223372036854775807 ∧ (len = 0 ∨ ∃ b off, a = some ⟨b, off, none⟩ ∧ ∀ i, i < len → w.cell? ⟨b, off + i, none⟩ = some (.int .u8 (zs.getD i 0))) ∧ ∀ i, 0 ≤ zs.getD i 0 ∧ zs.getD i 0 ≤ 255
theorem IsB.mem {w : World} {a : Option Addr} {len : Nat} {zs : List Int} (h : IsB w a len zs) : ∀ z ∈ zs, 0 ≤ z ∧ z ≤ 255 := by
  intro z hz
  obtain ⟨i, hi, rfl⟩ := List.getElem_of_mem hz
  have := h.2.2.2 i
  simpa [hi] using this

theorem isB_one (w : World) (b c : Nat) (x : Int) (hx : 0 ≤ x ∧ x ≤ 255) (h : w.cell? ⟨b, 0, none⟩ = some (.int .u8 x)) : IsB w (some ⟨b, 0, none⟩) 1 [x] := by
  refine ⟨rfl, by omega, .inr ⟨b, 0, rfl, fun i hi => ?_⟩, fun i => ?_⟩
  · obtain rfl : i = 0 := by omega
    simpa using h
  · cases i with
    | zero => simpa using hx
    | succ i => simp

theorem IsB.below {w w' : World} {a : Option Addr} {len : Nat} {zs : List Int} (h : IsB w a len zs) (hb : Below w.heap.size w w') (ha : ∀ x, len ≠ 0 → a = some x → x.block < w.heap.size) : IsB w' a len zs := by
  obtain ⟨h1, h2, h3, h4⟩ := h
  refine ⟨h1, h2, ?_, h4⟩
  by_cases h0 : len = 0
  · exact .inl h0
  rcases h3 with h3 | ⟨b, off, rfl, hc⟩
  · exact .inl h3
  · have hlt : b < w.heap.size := ha ⟨b, off, none⟩ h0 rfl
    exact .inr ⟨b, off, rfl, fun i hi => by rw [hb.cell (p := ⟨b, off + i, none⟩) hlt]; exact hc i hi⟩

/-- what the reader of a slice of bytes gives: a row of cells up to the capacity -/
def IsRow (k : IntKind) (w : World) (a : Option Addr) (len cap : Nat) (zs : List Int) : Prop :=
  (a = none ∧ len = 0 ∧ cap = 0 ∧ zs = []) ∨
  ∃ x, a = some x ∧ len ≤ cap ∧ cap ≤ maxLen ∧ zs.length = cap ∧ (∀ i, i < zs.length → w.cell? (x.add i) = some (.int k (zs.getD i 0))) ∧ ∀ n ∈ zs, (Lit.int k n).wf = true

theorem IsRow.isB {w : World} {a : Option Addr} {len cap : Nat} {zs : List Int} (h : IsRow .u8 w a len cap zs) : IsB w a len (zs.take len) := by
  rcases h with ⟨rfl, rfl, rfl, rfl⟩ | ⟨x, rfl, hl, hm, hz, hcell, hwz⟩
  · exact ⟨rfl, by omega, .inl rfl, fun i => by simp⟩
  · unfold maxLen at hm
    refine ⟨by simp; omega, by omega, ?_, fun i => ?_⟩
    · by_cases h0 : len = 0
      · exact .inl h0
      · right
        obtain ⟨b, off, spot⟩ := x
        have hc := hcell 0 (by omega)
        have hspot : spot = none := by simpa [Addr.add] using World.cell?_spot hc
        subst hspot
        refine ⟨b, off, rfl, fun i hi => ?_⟩
        have := hcell i (by omega)
        have e : (zs.take len).getD i 0 = zs.getD i 0 := by
          simp [List.getD, hi]
        rw [e, ← this]
        by_cases h : i = 0
        · subst h; simp [Addr.add]
        · simp [Addr.add, h]
    · by_cases hi : i < (zs.take len).length
      · have hmem : (zs.take len).getD i 0 ∈ zs := by
          have : (zs.take len).getD i 0 = (zs.take len)[i]'hi := by rw [List.getD_eq_getElem?_getD, List.getElem?_eq_getElem hi]; rfl
          rw [this]; exact List.mem_of_mem_take (List.getElem_mem hi)
        exact bounds_u8 (hwz _ hmem)
      · have : (zs.take len).getD i 0 = 0 := by
          simp only [List.getD]; rw [List.getElem?_eq_none (by omega)]; rfl
        rw [this]; omega
theorem IsRow.low {k : IntKind} {w : World} {a : Option Addr} {len cap : Nat} {zs : List Int} (h : IsRow k w a len cap zs) : ∀ x, len ≠ 0 → a = some x → x.block < w.heap.size := by
  intro y h0 he
  rcases h with ⟨rfl, rfl, rfl, rfl⟩ | ⟨x, rfl, hl, hm, hz, hcell, hwz⟩
  · exact absurd rfl h0
  · obtain rfl := Option.some.inj he
    have hc := hcell 0 (by omega)
    have := World.block_lt_of_cell? w _ hc
    simpa [Addr.add] using this
theorem IsB.cells {w : World} {a : Option Addr} {len : Nat} {zs : List Int} (h : IsB w a len zs) : ∀ ad, a = some ad → ∀ j u, (zs.map (Value.int .u8))[j]? = some u → w.cell? (ad.add j) = some u := by
  intro ad ha j u hu
  obtain ⟨h1, _, h3, _⟩ := h
  rcases h3 with h3 | ⟨b, off, rfl, hc⟩
  · have hz : zs = [] := List.eq_nil_of_length_eq_zero (by omega)
    subst hz; simp at hu
  · obtain rfl := Option.some.inj ha
    have hj : j < zs.length := by
      rcases Nat.lt_or_ge j zs.length with h | h
      · exact h
      · rw [List.getElem?_eq_none (by simpa using h)] at hu; cases hu
    have := hc j (by omega)
    have e : Addr.add ⟨b, off, none⟩ j = ⟨b, off + j, none⟩ := by unfold Addr.add; split; rename_i h; simp [h]; rfl
    rw [e, this]
    rw [List.getElem?_map, List.getElem?_eq_getElem hj] at hu
    simpa [hj] using hu
theorem isB_nil (w : World) : IsB w none 0 [] := ⟨rfl, by omega, .inl rfl, fun i => by simp⟩
/-- a row of the call's own, read as bytes -/
theorem isB_own {w : World} {e : TypeId} {B g n cap : Nat} {zs : List Int} (hz : zs.length = n) (hcap : cap ≤ maxLen) (hn : n ≤ cap) (h : w.ownsRow B e 1 (.slice (some ⟨g, 0, none⟩) n cap) n (zs.map (Value.int .u8))) (hb : ∀ z ∈ zs, 0 ≤ z ∧ z ≤ 255) (c : Nat) (hc : c ≤ n) : IsB w (some ⟨g, 0, none⟩) c (zs.take c) := by
  unfold maxLen at hcap
  refine ⟨by simp; omega, by omega, ?_, fun i => ?_⟩
  · by_cases h0 : c = 0
    · exact .inl h0
    · refine .inr ⟨g, 0, rfl, fun i hi => ?_⟩
      rw [Nat.zero_add, h.cellAt i (by omega), List.getElem?_map, List.getElem?_eq_getElem (by omega)]
      have : (zs.take c).getD i 0 = zs[i]'(by omega) := by
        rw [List.getD_eq_getElem?_getD, List.getElem?_take_of_lt hi, List.getElem?_eq_getElem (by omega)]; rfl
      rw [this]; rfl
  · by_cases hi : i < (zs.take c).length
    · have : (zs.take c).getD i 0 = (zs.take c)[i]'hi := by rw [List.getD_eq_getElem?_getD, List.getElem?_eq_getElem hi]; rfl
      rw [this]; exact hb _ (List.mem_of_mem_take (List.getElem_mem hi))
    · have : (zs.take c).getD i 0 = 0 := by
        rw [List.getD_eq_getElem?_getD, List.getElem?_eq_none (by omega)]; rfl
      rw [this]; omega

theorem own_addr {w : World} {e : TypeId} {B n : Nat} {v : Value} {xs : List Value} (h : w.ownsRow B e 1 v n xs) (h0 : n ≠ 0) : ∃ g cap, v = .slice (some ⟨g, 0, none⟩) n cap := by
  rcases h.2 with ⟨_, h⟩ | ⟨g, cap, cur, h, _⟩
  · exact absurd h h0
  · exact ⟨g, cap, h⟩

theorem strOfNums_inj {xs ys : List Int} (hx : ∀ z ∈ xs, 0 ≤ z ∧ z ≤ 255) (hy : ∀ z ∈ ys, 0 ≤ z ∧ z ≤ 255) (h : (strOfNums xs).toList = (strOfNums ys).toList) : xs = ys := by
  rw [ByteArray.toList_eq, ByteArray.toList_eq, strOfNums_data, strOfNums_data] at h
  have key : ∀ l : List Int, (∀ z ∈ l, 0 ≤ z ∧ z ≤ 255) → (l.map fun n => UInt8.ofNat n.toNat).map (fun u => (u.toNat : Int)) = l := by
    intro l hl
    rw [List.map_map]
    conv => rhs; rw [← List.map_id l]
    apply List.map_congr_left
    intro z hz
    have := hl z hz
    simp; omega
  rw [← key xs hx, ← key ys hy, h]

theorem numBytes (xs : List Int) (hx : ∀ z ∈ xs, 0 ≤ z ∧ z ≤ 255) : (strOfNums xs).data.toList.map (fun b => Value.int .u8 b.toNat) = xs.map (Value.int .u8) := by
  rw [strOfNums_data, List.map_map]
  apply List.map_congr_left
  intro z hz
  have := hx z hz
  simp; omega
theorem numBytes_size (xs : List Int) : (strOfNums xs).size = xs.length := by
  show (strOfNums xs).data.size = _
  rw [← Array.length_toList, strOfNums_data, List.length_map]

theorem strOfNums_append (xs ys : List Int) : strOfNums (xs ++ ys) = strOfNums xs ++ strOfNums ys := by
  apply ByteArray.ext
  apply Array.ext'
  rw [strOfNums_data, ByteArray.data_append, Array.toList_append, strOfNums_data, strOfNums_data, List.map_append]

theorem IsRow.nil {k : IntKind} {w : World} {a : Option Addr} {len cap : Nat} {zs : List Int} (h : IsRow k w a len cap zs) : a = none → len = 0 ∧ cap = 0 := by
  intro e
  rcases h with ⟨_, h1, h2, _⟩ | ⟨x, h, _⟩
  · exact ⟨h1, h2⟩
  · rw [e] at h; cases h

theorem below_setCells {B : Nat} {a : World} (b : Nat) (hb : B ≤ b) : ∀ (vs : List Value) (o : Nat) (w : World), Below B a w → Below B a (w.setCells b o vs)
  | [], _, _, h => h
  | v :: r, o, w, h => below_setCells b hb r (o + 1) _ (h.setCell (p := ⟨b, o, none⟩) hb v)

/-- a text's bytes -/
def txt (s : ByteArray) : List Int := s.data.toList.map fun b => (b.toNat : Int)
theorem txt_length (s : ByteArray) : (txt s).length = s.size := by
  unfold txt; rw [List.length_map, Array.length_toList]; rfl
theorem txt_range (s : ByteArray) : ∀ z ∈ txt s, 0 ≤ z ∧ z ≤ 255 := by
  intro z hz
  obtain ⟨b, _, rfl⟩ := List.mem_map.1 hz
  have := b.toNat_lt
  omega
theorem txt_back (s : ByteArray) : strOfNums (txt s) = s := by
  apply ByteArray.ext
  apply Array.ext'
  rw [strOfNums_data]
  unfold txt
  rw [List.map_map]
  conv => rhs; rw [← List.map_id s.data.toList]
  apply List.map_congr_left
  intro b _
  simp
theorem back_txt (l : List Int) (h : ∀ z ∈ l, 0 ≤ z ∧ z ≤ 255) : txt (strOfNums l) = l := by
  unfold txt
  rw [strOfNums_data, List.map_map]
  conv => rhs; rw [← List.map_id l]
  apply List.map_congr_left
  intro z hz
  have := h z hz
  simp; omega

theorem drop_app {a b : List Int} {n : Nat} (h : n = a.length) : (a ++ b).drop n = b := by rw [h]; exact List.drop_left
theorem take_app {a b : List Int} {n : Nat} (h : n = a.length) : (a ++ b).take n = a := by rw [h]; exact List.take_left

theorem IsB.belowB {w w' : World} {B : Nat} {a : Option Addr} {len : Nat} {zs : List Int} (h : IsB w a len zs) (hb : Below B w w') (ha : ∀ x, len ≠ 0 → a = some x → x.block < B) : IsB w' a len zs := by
  obtain ⟨h1, h2, h3, h4⟩ := h
  refine ⟨h1, h2, ?_, h4⟩
  by_cases h0 : len = 0
  · exact .inl h0
  rcases h3 with h3 | ⟨b, off, rfl, hc⟩
  · exact .inl h3
  · have hlt : b < B := ha ⟨b, off, none⟩ h0 rfl
    exact .inr ⟨b, off, rfl, fun i hi => by rw [hb.cell (p := ⟨b, off + i, none⟩) hlt]; exact hc i hi⟩
theorem IsRow.le {k : IntKind} {w : World} {a : Option Addr} {len cap : Nat} {zs : List Int} (h : IsRow k w a len cap zs) : len ≤ cap := by
  rcases h with ⟨_, h1, h2, _⟩ | ⟨x, _, h, _⟩
  · omega
  · exact h
theorem ownsRow_base {w : World} {B B' : Nat} {e : TypeId} {size : Nat} {v : Value} {n : Nat} {xs : List Value} (h : w.ownsRow B e size v n xs) (hB : B' ≤ B) : w.ownsRow B' e size v n xs := by
  refine ⟨h.1, ?_⟩
  rcases h.2 with h | ⟨g, cap, cur, a, b, c⟩
  · exact .inl h
  · exact .inr ⟨g, cap, cur, a, Nat.le_trans hB b, c⟩
/-- a row of the call's own, read as bytes: all of it -/
theorem own_isB {w : World} {e : TypeId} {B g n cap : Nat} {zs : List Int} (h : w.ownsRow B e 1 (.slice (some ⟨g, 0, none⟩) n cap) n (zs.map (Value.int .u8))) (hz : zs.length = n) (hb : ∀ z ∈ zs, 0 ≤ z ∧ z ≤ 255) : IsB w (some ⟨g, 0, none⟩) n zs := by
  have hc : n ≤ cap ∧ cap ≤ maxLen := by
    rcases h.2 with ⟨h, _⟩ | ⟨g', cap', cur, he, _, _, h1, h2, _⟩
    · cases h
    · simp only [Value.slice.injEq] at he
      obtain ⟨_, _, rfl⟩ := he
      exact ⟨h1, h2⟩
  have := isB_own hz hc.2 hc.1 h hb n (Nat.le_refl _)
  rwa [List.take_of_length_le (by omega)] at this
theorem own_low {w : World} {e : TypeId} {B g n cap : Nat} {xs : List Value} {size : Nat} (h : w.ownsRow B e size (.slice (some ⟨g, 0, none⟩) n cap) n xs) : g < w.heap.size := (h.lt g rfl).2
theorem own_lo {w : World} {e : TypeId} {B g n cap : Nat} {xs : List Value} {size : Nat} (h : w.ownsRow B e size (.slice (some ⟨g, 0, none⟩) n cap) n xs) : B ≤ g := (h.lt g rfl).1
theorem own_below {w w' : World} {B : Nat} {e : TypeId} {size : Nat} {v : Value} {n : Nat} {xs : List Value} (h : w.ownsRow B e size v n xs) (hb : Below w.heap.size w w') : w'.ownsRow B e size v n xs := by
  refine ⟨h.1, ?_⟩
  rcases h.2 with h | ⟨g, cap, cur, a, b, hg, r⟩
  · exact .inl h
  · exact .inr ⟨g, cap, cur, a, b, (hb.block g (Array.getElem?_eq_some_iff.1 hg).1).trans hg, r⟩
/-- whose row a value is that has grown out of another one: that one's, or a new one -/
def FromRow (w : World) (r0 r : Option Nat) : Prop := r = r0 ∨ ∃ g, r = some g ∧ w.heap.size ≤ g
theorem grown_step {w wr w3 : World} {r0 r : Option Nat} (h : w.grownBy wr r0) (hr : FromRow w r0 r) (hg : wr.grownBy w3 r) : w.grownBy w3 r0 := by
  refine ⟨hg.os.trans h.os, hg.tape.trans h.tape, hg.output.trans h.output, Nat.le_trans h.size hg.size, fun k hk hne => ?_⟩
  refine (hg.block k (Nat.lt_of_lt_of_le hk h.size) ?_).trans (h.block k hk hne)
  rcases hr with rfl | ⟨g, rfl, hge⟩
  · exact hne
  · intro e; cases e; omega
theorem grown_alloc {w wr : World} {r0 : Option Nat} (h : w.grownBy wr r0) (o : Obj) : w.grownBy (wr.alloc o) r0 :=
  ⟨h.os, h.tape, h.output, Nat.le_trans h.size (by simp), fun k hk hne => (Below.heap_alloc wr o k (Nat.lt_of_lt_of_le hk h.size)).trans (h.block k hk hne)⟩
theorem grown_drew {w wr : World} {r0 : Option Nat} (h : w.grownBy wr r0) : w.grownBy wr.drew r0 := ⟨h.os, h.tape, h.output, h.size, h.block⟩
theorem from_new {w : World} {r0 r : Option Nat} {g N : Nat} (hr : FromRow w r0 r) (hw : w.heap.size ≤ N) (h : r = some g ∨ g = N) : FromRow w r0 (some g) := by
  rcases h with h | h
  · rw [← h]; exact hr
  · exact .inr ⟨g, rfl, by omega⟩
theorem grown_belowB {w w' : World} {B : Nat} {r0 : Option Nat} (h : w.grownBy w' r0) (hB : B ≤ w.heap.size) (hr : ∀ k, r0 = some k → B ≤ k) : Below B w w' := (Below.refl B w).grown h hB hr
/-- one byte of a row of the call's own is stored anew -/
theorem own_set {w : World} {e : TypeId} {B g n cap : Nat} {zs : List Int} (h : w.ownsRow B e 1 (.slice (some ⟨g, 0, none⟩) n cap) n (zs.map (Value.int .u8))) (p : Nat) (hp : p < n) (x : Int) :
    (w.setCell ⟨g, p, none⟩ (.int .u8 x)).ownsRow B e 1 (.slice (some ⟨g, 0, none⟩) n cap) n ((zs.set p x).map (Value.int .u8)) := by
  have hlen := h.1
  refine ⟨by simpa using hlen, .inr ?_⟩
  rcases h.2 with ⟨h', _⟩ | ⟨g', cap', cur, he, hb, hg, h1, h2, hs, ht⟩
  · cases h'
  · simp only [Value.slice.injEq, Option.some.injEq, Addr.mk.injEq] at he
    obtain ⟨⟨rfl, _⟩, _, rfl⟩ := he
    refine ⟨g, cap, cur.setIfInBounds p (.int .u8 x), rfl, hb, heap_setCell_same w g p cur e _ hg, h1, h2, by simpa using hs, ?_⟩
    rw [Array.toList_setIfInBounds, List.take_set, ht, List.map_set]
theorem own_frozen {w : World} {e : TypeId} {B g n cap : Nat} {xs : List Value} {size : Nat} (h : w.ownsRow B e size (.slice (some ⟨g, 0, none⟩) n cap) n xs) (p : Nat) : w.frozen? ⟨g, p, none⟩ = false := by
  rcases h.2 with ⟨h', _⟩ | ⟨g', cap', cur, he, hb, hg, h1, h2, hs, ht⟩
  · cases h'
  · simp only [Value.slice.injEq, Option.some.injEq, Addr.mk.injEq] at he
    obtain ⟨⟨rfl, _⟩, _, rfl⟩ := he
    exact frozen_of_row w g p cur e hg
theorem own_cell {w : World} {e : TypeId} {B g n cap : Nat} {zs : List Int} (h : w.ownsRow B e 1 (.slice (some ⟨g, 0, none⟩) n cap) n (zs.map (Value.int .u8))) (hz : zs.length = n) (p : Nat) (hp : p < n) : w.cell? ⟨g, p, none⟩ = some (.int .u8 (zs.getD p 0)) := by
  rw [h.cellAt p (by omega), List.getElem?_map, List.getElem?_eq_getElem (by omega), List.getD_eq_getElem?_getD, List.getElem?_eq_getElem (by omega)]
  rfl
theorem set_range {zs : List Int} (h : ∀ z ∈ zs, 0 ≤ z ∧ z ≤ 255) (p : Nat) (x : Int) (hx : 0 ≤ x ∧ x ≤ 255) : ∀ z ∈ zs.set p x, 0 ≤ z ∧ z ≤ 255 := by
  intro z hz
  rcases List.mem_or_eq_of_mem_set hz with h' | rfl
  · exact h z h'
  · exact hx
end Go.Proofs.Ytafhgilikcablaa
