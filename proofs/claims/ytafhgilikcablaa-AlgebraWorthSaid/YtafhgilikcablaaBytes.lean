/- Slices of bytes in this program: made texts, made of texts, appended. -/
import Derived.Test.YtafhgilikcablaaProg
import Derived.Test.YtafhgilikcablaaBase
import Derived.Deep.Upon
import Derived.Deep.AppendSrc
import Derived.Laws.IdiomCopy
namespace Go.Proofs.Ytafhgilikcablaa
open Go.RowKit
set_option linter.unusedVariables false
set_option linter.unusedSimpArgs false

theorem info5 : (Try.prog.info? 5).map (fun i => (i.zero, i.size, i.bytes)) = some (some (.int .u8 0), 1, 1) := by kernel_rfl

/-- a slice of bytes made a text -/
theorem str_of {w : World} {g len cap : Nat} {zs : List Int} (h : IsB w (some ⟨g, 0, none⟩) len zs) (h0 : len ≠ 0) : (convert 30 9 (.slice (some ⟨g, 0, none⟩) len cap)).run Try.prog w = .ok (.string (strOfNums zs)) w := by
  obtain ⟨h1, _, h3, _⟩ := h
  rcases h3 with h3 | ⟨b, off, he, hc⟩
  · exact absurd h3 h0
  · have he := Option.some.inj he
    simp only [Addr.mk.injEq] at he
    obtain ⟨rfl, rfl, _⟩ := he
    exact run_convert_bytes_arg w 30 5 Try.underlying30 Try.underlying5 g 0 len cap zs h1 hc 9 Try.underlying9

set_option maxRecDepth 100000 in
theorem str_any {w : World} {b : Option Addr} {lb cb : Nat} {zb : List Int} (h : IsB w b lb zb) (hn : b = none → lb = 0 ∧ cb = 0) : (convert 30 9 (.slice b lb cb)).run Try.prog w = .ok (.string (strOfNums zb)) w := by
  obtain ⟨h1, h2, h3, h4⟩ := h
  by_cases h0 : lb = 0
  · subst h0
    obtain rfl := List.eq_nil_of_length_eq_zero h1
    cases b with
    | none => obtain ⟨_, rfl⟩ := hn rfl; rfl
    | some a => exact run_convert_bytes_back w 30 9 5 a cb [] Try.underlying30 Try.underlying5 Try.underlying9 (fun j hj => by simp at hj)
  · rcases h3 with h3 | ⟨b, off, rfl, hc⟩
    · exact absurd h3 h0
    · exact run_convert_bytes_arg w 30 5 Try.underlying30 Try.underlying5 b off lb cb zb h1 hc 9 Try.underlying9

/-- a row of the call's own made a text, now and later -/
theorem str_later {w : World} {B g len cap : Nat} {zs : List Int} (hz : zs.length = len) (h0 : len ≠ 0) (hcap : cap ≤ maxLen) (hlc : len ≤ cap) (h : w.ownsRow B 5 1 (.slice (some ⟨g, 0, none⟩) len cap) len (zs.map (Value.int .u8))) (hb : ∀ z ∈ zs, 0 ≤ z ∧ z ≤ 255) :
    ∀ W, Below w.heap.size w W → (convert 30 9 (.slice (some ⟨g, 0, none⟩) len cap)).run Try.prog W = .ok (.string (strOfNums zs)) W := by
  intro W hW
  have hi := isB_own hz hcap hlc h hb len (Nat.le_refl _)
  rw [List.take_of_length_le (by omega)] at hi
  have hg : g < w.heap.size := by
    have := World.block_lt_of_cell? w _ ((h.cellAt 0 (by omega)).trans (by rw [List.getElem?_map, List.getElem?_eq_getElem (by omega)]; rfl))
    exact this
  exact str_of (hi.below hW (fun x _ hx => by cases hx; exact hg)) h0

theorem cap_le {w : World} {B n cap g : Nat} {xs : List Value} (h : w.ownsRow B 5 1 (.slice (some ⟨g, 0, none⟩) n cap) n xs) : n ≤ cap ∧ cap ≤ maxLen := by
  rcases h.2 with ⟨h, _⟩ | ⟨g', cap', cur, he, _, _, h1, h2, _⟩
  · cases h
  · simp only [Value.slice.injEq] at he
    obtain ⟨_, _, rfl⟩ := he
    exact ⟨h1, h2⟩


theorem wpList_append_at (w : World) {ops : Array Oper} {rest : List Oper} {o : Oper} {a : Act} {Q : Exit → Act → World → Prop} (hgd : o.guard = none) (s x : Operand) (t tx : TypeId)
    (ho : o.op = .call { callee := .builtin .append, args := #[s, x], argTypes := #[t, tx] }) {v xv v' : Value} {w' : World} (hv : a.eval s = v) (hx : a.eval x = xv)
    (hrun : (Builtin.append_ #[t, tx] o.type #[v, xv]).run Try.prog w = .ok v' w')
    (hK : wpList Try.prog ops Q rest (a.put o.dst v') w') : wpList Try.prog ops Q (o :: rest) a w := by
  refine wpList_plain hgd fun K hK' => ?_
  unfold Oper.wp
  simp [execOp, ho, resolve, invoke, builtin, hv, hx, hrun, Result.andThen]
  exact hK' _ _ hK

/-- the world behind []byte(x) -/
def putW (w : World) (xs : List Int) : World :=
  w.drew.alloc (.cells (bytesRow (strOfNums xs) (grownCap w xs.length 0 5)) 5 ((bytesRow (strOfNums xs) (grownCap w xs.length 0 5)).size, (bytesRow (strOfNums xs) (grownCap w xs.length 0 5)).size + 1))
def putV (w : World) (xs : List Int) : Value := .slice (some ⟨w.heap.size, 0, none⟩) xs.length (grownCap w xs.length 0 5)

theorem put_run (w : World) (xs : List Int) : (convert 9 30 (.string (strOfNums xs))).run Try.prog w = .ok (putV w xs) (putW w xs) := by
  have := run_bytes_of_string (P := Try.prog) w 9 30 5 (strOfNums xs) Try.underlying9 Try.underlying30 Try.underlying5
  rw [numBytes_size] at this
  exact this
theorem putW_below (w : World) (xs : List Int) : Below w.heap.size w (putW w xs) := ((Below.refl _ w).drew).alloc (Nat.le_refl _) _
theorem putRow_size (w : World) (xs : List Int) : (bytesRow (strOfNums xs) (grownCap w xs.length 0 5)).size = grownCap w xs.length 0 5 := by
  have := grownCap_ge w xs.length 0 5
  have := numBytes_size xs
  unfold bytesRow
  rw [Array.size_append, Array.size_map, Array.size_replicate, show (strOfNums xs).data.size = xs.length from numBytes_size xs, this]
  omega
theorem putW_cell (w : World) (xs : List Int) (j : Nat) : (putW w xs).cell? ⟨w.heap.size, j, none⟩ = (bytesRow (strOfNums xs) (grownCap w xs.length 0 5))[j]? :=
  World.cell?_alloc_mark w.drew _ _ _ j
theorem putW_low (w : World) (xs : List Int) (hx : ∀ z ∈ xs, 0 ≤ z ∧ z ≤ 255) (j : Nat) (hj : j < xs.length) : (putW w xs).cell? ⟨w.heap.size, j, none⟩ = some (.int .u8 (xs.getD j 0)) := by
  have hs := numBytes_size xs
  rw [putW_cell]
  unfold bytesRow
  rw [Array.getElem?_append_left (by rw [Array.size_map]; show j < (strOfNums xs).size; omega), ← Array.getElem?_toList, Array.toList_map, numBytes xs hx, List.getElem?_map, List.getElem?_eq_getElem hj, List.getD_eq_getElem?_getD, List.getElem?_eq_getElem hj]
  rfl
theorem putW_thawed (w : World) (xs : List Int) (j : Nat) (hj : j < grownCap w xs.length 0 5) : (putW w xs).frozen? ⟨w.heap.size, j, none⟩ = false := by
  have := World.frozen?_alloc_mark w.drew (bytesRow (strOfNums xs) (grownCap w xs.length 0 5)) 5 (bytesRow (strOfNums xs) (grownCap w xs.length 0 5)).size ((bytesRow (strOfNums xs) (grownCap w xs.length 0 5)).size + 1) j
  have hz := putRow_size w xs
  rw [show (putW w xs).frozen? ⟨w.heap.size, j, none⟩ = _ from this, hz]
  rw [decide_eq_false (by omega)]; rfl

/-- a slice's numbers as what is appended -/
theorem src_isB {w : World} {d : Option Addr} {ld cd : Nat} {zd : List Int} (h : IsB w d ld zd) (hn : d = none → ld = 0 ∧ cd = 0) : Src Try.prog 1 30 (.slice d ld cd) ld (zd.map (Value.int .u8)) w := by
  obtain ⟨h1, h2, h3, h4⟩ := h
  cases d with
  | none =>
    obtain ⟨rfl, rfl⟩ := hn rfl
    obtain rfl := List.eq_nil_of_length_eq_zero h1
    exact Src.ofNil w Try.underlying30 0
  | some a =>
    refine Src.ofSlice w Try.underlying30 a ld cd _ (by simp [h1]) (fun j u hu => ?_) (fun u hu => by obtain ⟨_, _, rfl⟩ := List.mem_map.1 hu; rfl)
    rw [List.getElem?_map] at hu
    have hj : j < ld := by
      rcases Nat.lt_or_ge j zd.length with h | h
      · omega
      · rw [List.getElem?_eq_none h] at hu; cases hu
    rcases h3 with h3 | ⟨b, off, he, hc⟩
    · omega
    · obtain rfl := Option.some.inj he
      rw [Addr.add_lit, hc j hj, List.getD_eq_getElem?_getD]
      rw [List.getElem?_eq_getElem (by omega)] at hu ⊢
      exact hu

theorem isB_join {w : World} {g : Nat} {xs zd : List Int} (hx : ∀ z ∈ xs, 0 ≤ z ∧ z ≤ 255) (hz : ∀ z ∈ zd, 0 ≤ z ∧ z ≤ 255) (hl : xs.length + zd.length ≤ 9223372036854775807)
    (h : ∀ i, i < xs.length + zd.length → w.cell? ⟨g, i, none⟩ = some (.int .u8 ((xs ++ zd).getD i 0))) : IsB w (some ⟨g, 0, none⟩) (xs.length + zd.length) (xs ++ zd) := by
  refine ⟨by simp, hl, .inr ⟨g, 0, rfl, fun i hi => by rw [Nat.zero_add]; exact h i hi⟩, fun i => ?_⟩
  rw [List.getD_eq_getElem?_getD]
  rcases Nat.lt_or_ge i (xs ++ zd).length with h | h
  · rw [List.getElem?_eq_getElem h]
    have := List.getElem_mem h
    rcases List.mem_append.1 this with h' | h'
    · exact hx _ h'
    · exact hz _ h'
  · rw [List.getElem?_eq_none h]; simp

theorem put_append (w : World) (xs : List Int) (hx : ∀ z ∈ xs, 0 ≤ z ∧ z ≤ 255) (hx10 : xs.length ≤ 10) (d : Option Addr) (ld cd : Nat) (zd : List Int) (hd : IsB w d ld zd) (hlow : ∀ x, ld ≠ 0 → d = some x → x.block < w.heap.size) (hld : ld ≤ 140737488351232) (hn : d = none → ld = 0 ∧ cd = 0) :
    ∃ g cap w', (Builtin.append_ #[30, 30] 30 #[putV w xs, .slice d ld cd]).run Try.prog (putW w xs) = .ok (.slice (some ⟨g, 0, none⟩) (xs.length + ld) cap) w' ∧
      IsB w' (some ⟨g, 0, none⟩) (xs.length + ld) (xs ++ zd) ∧ g < w'.heap.size ∧ Below w.heap.size w w' := by
  obtain ⟨i0, hi, hz0, hz1, hz2⟩ := info_parts info5
  have hB := putW_below w xs
  have hd' : IsB (putW w xs) d ld zd := hd.below hB hlow
  have hdl := hd.1
  have hsrc := src_isB hd' hn
  have hge := grownCap_ge w xs.length 0 5
  have hle := grownCap_le_maxLen w xs.length 0 5 (by simp only [maxLen]; omega)
  have hsz : (putW w xs).heap.size = w.heap.size + 1 := by unfold putW; simp
  have hrow := putRow_size w xs
  subst hdl
  by_cases hroom : xs.length + zd.length ≤ grownCap w xs.length 0 5
  · have hsome : ∀ j, j < (zd.map (Value.int .u8)).length → ((putW w xs).cell? ⟨w.heap.size, 0 + xs.length * i0.size + j, none⟩).isSome = true := fun j hj => by
      rw [List.length_map] at hj
      rw [hz1, putW_cell, Array.getElem?_eq_getElem (by rw [hrow]; omega)]; rfl
    have hrun := run_append_room_src (P := Try.prog) (putW w xs) 30 30 30 5 i0 Try.underlying30 hi w.heap.size 0 xs.length (grownCap w xs.length 0 5) (.slice d zd.length cd) zd.length (zd.map (Value.int .u8)) (by rw [hz1]; exact hsrc) hroom hsome
      (fun j hj => by rw [List.length_map] at hj; rw [hz1]; exact putW_thawed w xs _ (by omega))
    refine ⟨w.heap.size, _, _, hrun, isB_join hx (hd'.mem) (by omega) (fun i hi' => ?_), ?_, below_setCells _ (Nat.le_refl _) _ _ _ hB⟩
    · by_cases hlt : i < xs.length
      · rw [World.cell?_setCells_out w.heap.size _ _ _ _ (fun _ _ => by rw [hz1]; simp; omega), putW_low w xs hx i hlt]
        rw [List.getD_eq_getElem?_getD, List.getD_eq_getElem?_getD, List.getElem?_append_left hlt]
      · have := World.cell?_setCells_in w.heap.size (zd.map (Value.int .u8)) (0 + xs.length * i0.size) (putW w xs) hsome (i - xs.length) (by rw [List.length_map]; omega)
        rw [hz1, show 0 + xs.length * 1 + (i - xs.length) = i by omega] at this
        rw [hz1, this, List.getElem_map, List.getD_eq_getElem?_getD, List.getElem?_append_right (by omega), List.getElem?_eq_getElem (by omega)]
        rfl
    · have := (below_setCells (a := putW w xs) (B := 0) w.heap.size (Nat.zero_le _) (zd.map (Value.int .u8)) (0 + xs.length * i0.size) (putW w xs) (Below.refl _ _)).size
      omega
  · have hold : (Builtin.firstCells i0.size xs.length (putV w xs)).run Try.prog (putW w xs).drew = .ok (xs.map (Value.int .u8)).toArray (putW w xs).drew := by
      rw [hz1]
      refine run_firstCells_some (putW w xs).drew 1 xs.length ⟨w.heap.size, 0, none⟩ xs.length (grownCap w xs.length 0 5) (xs.map (Value.int .u8)) (by simp) (fun j u hu => ?_)
      rw [List.getElem?_map] at hu
      have hj : j < xs.length := by
        rcases Nat.lt_or_ge j xs.length with h | h
        · exact h
        · rw [List.getElem?_eq_none h] at hu; cases hu
      rw [Addr.add_lit, Nat.zero_add]
      show (putW w xs).cell? _ = _
      rw [putW_low w xs hx j hj, List.getD_eq_getElem?_getD]
      rw [List.getElem?_eq_getElem hj] at hu ⊢
      exact hu
    have hrun := run_append_grow_src (P := Try.prog) (putW w xs) 30 30 30 5 i0 (.int .u8 0) Try.underlying30 hi hz0 (some ⟨w.heap.size, 0, none⟩) xs.length (grownCap w xs.length 0 5) (xs.map (Value.int .u8)) hold (.slice d zd.length cd) zd.length (zd.map (Value.int .u8)) (by rw [hz1]; exact hsrc) (by omega) (by omega) (growslice_fits (by omega) (by rw [hz2]; omega))
    have hge2 := grownCap_ge (putW w xs) (xs.length + zd.length) (grownCap w xs.length 0 5) 5
    refine ⟨_, _, _, hrun, isB_join hx (hd'.mem) (by omega) (fun i hi' => ?_), by simp, (hB.drew).alloc (by show w.heap.size ≤ (putW w xs).heap.size; omega) _⟩
    have e1 := World.cell?_alloc_new (putW w xs).drew (((xs.map (Value.int .u8)) ++ (zd.map (Value.int .u8))).toArray ++ Builtin.zeroCells (Value.int IntKind.u8 0).cells (grownCap (putW w xs) (xs.length + zd.length) (grownCap w xs.length 0 5) 5 - (xs.length + zd.length))) 5 i
    refine Eq.trans e1 ?_
    rw [Array.getElem?_append_left (by simp; omega), List.getElem?_toArray, ← List.map_append, List.getElem?_map, List.getElem?_eq_getElem (by simp; omega), List.getD_eq_getElem?_getD, List.getElem?_eq_getElem (by simp; omega)]
    rfl

/-- where a part of a slice begins -/
def offA (a : Option Addr) (m l : Nat) : Option Addr := if m = l then a else a.map (·.add l)
theorem isB_off {w : World} {a : Option Addr} {len cap k : Nat} {zs : List Int} (h : IsB w a len zs) (hk : k ≤ len) (hc : len ≤ cap) : IsB w (offA a cap k) (len - k) (zs.drop k) := by
  obtain ⟨h1, h2, h3, h4⟩ := h
  refine ⟨by rw [List.length_drop, h1], by omega, ?_, fun i => ?_⟩
  · by_cases h0 : len - k = 0
    · exact .inl h0
    · rcases h3 with h3 | ⟨b, off, rfl, hc'⟩
      · omega
      · refine .inr ⟨b, off + k, ?_, fun i hi => ?_⟩
        · unfold offA
          rw [if_neg (by omega)]
          simp [Addr.add_lit]
        · have := hc' (k + i) (by omega)
          rw [← Nat.add_assoc] at this
          rw [this]
          simp [List.getD]
  · have := h4 (k + i)
    simpa [List.getD] using this
theorem offA_low {w : World} {a : Option Addr} {len cap k : Nat} (h : ∀ x, len ≠ 0 → a = some x → x.block < w.heap.size) : ∀ x, len - k ≠ 0 → offA a cap k = some x → x.block < w.heap.size := by
  intro x h0 hx
  unfold offA at hx
  split at hx
  · exact h x (by omega) hx
  · cases a with
    | none => simp at hx
    | some y =>
      simp at hx
      subst hx
      have := h y (by omega) rfl
      have e : (y.add k).block = y.block := by unfold Addr.add; split <;> rfl
      rw [e]; exact this
theorem offA_lowB {B : Nat} {a : Option Addr} {len cap k : Nat} (h : ∀ x, len ≠ 0 → a = some x → x.block < B) : ∀ x, len - k ≠ 0 → offA a cap k = some x → x.block < B := by
  intro x h0 hx
  unfold offA at hx
  split at hx
  · exact h x (by omega) hx
  · cases a with
    | none => simp at hx
    | some y =>
      simp at hx
      subst hx
      have := h y (by omega) rfl
      have e : (y.add k).block = y.block := by unfold Addr.add; split <;> rfl
      rw [e]; exact this
theorem offA_nil {a : Option Addr} {len cap k : Nat} (h : a = none → len = 0 ∧ cap = 0) : offA a cap k = none → len - k = 0 ∧ cap - k = 0 := by
  intro hx
  unfold offA at hx
  split at hx
  · have := h hx; omega
  · cases a with
    | none => have := h rfl; omega
    | some y => simp at hx
theorem slice_l (a : Option Addr) (len cap k : Nat) (hk : k ≤ len) (kk : IntKind) (W : World) : (Instr.slice 30 (.slice a len cap) (some (.int kk (k : Int))) none none).run Try.prog W = .ok (.slice (offA a cap k) (len - k) (cap - k)) W := by
  obtain ⟨i0, hi, hz0, hz1, hz2⟩ := info_parts info5
  have ht : Try.prog.underlying 30 = some (.slice (Try.prog.elem 30)) := by kernel_rfl
  have he : Try.prog.elem 30 = 5 := by kernel_rfl
  rw [run_slice_l (P := Try.prog) W 30 a len cap ht kk (k : Int) (by omega) (by omega), he]
  simp [sizeOf, typeInfo, hi, hz1, sliced, offA, Result.andThen]
theorem slice_lh (a : Option Addr) (len cap k m : Nat) (hk : k ≤ m) (hm : m ≤ cap) (k1 k2 : IntKind) (W : World) : (Instr.slice 30 (.slice a len cap) (some (.int k1 (k : Int))) (some (.int k2 (m : Int))) none).run Try.prog W = .ok (.slice (offA a cap k) (m - k) (cap - k)) W := by
  obtain ⟨i0, hi, hz0, hz1, hz2⟩ := info_parts info5
  have ht : Try.prog.underlying 30 = some (.slice (Try.prog.elem 30)) := by kernel_rfl
  have he : Try.prog.elem 30 = 5 := by kernel_rfl
  rw [run_slice_lh (P := Try.prog) W 30 a len cap ht k1 k2 (k : Int) (m : Int) (by omega) (by omega) (by omega), he]
  simp [sizeOf, typeInfo, hi, hz1, sliced, offA, Result.andThen]
theorem slice_h (a : Option Addr) (len cap m : Nat) (hm : m ≤ cap) (k2 : IntKind) (W : World) : (Instr.slice 30 (.slice a len cap) none (some (.int k2 (m : Int))) none).run Try.prog W = .ok (.slice a m cap) W := by
  obtain ⟨i0, hi, hz0, hz1, hz2⟩ := info_parts info5
  have ht : Try.prog.underlying 30 = some (.slice (Try.prog.elem 30)) := by kernel_rfl
  have he : Try.prog.elem 30 = 5 := by kernel_rfl
  rw [run_slice_h (P := Try.prog) W 30 a len cap ht k2 (m : Int) (by omega) (by omega), he]
  simp [sizeOf, typeInfo, hi, hz1, sliced, Result.andThen]
  intro _
  cases a with
  | none => rfl
  | some y => simp [Addr.add]
/-- the first part -/
theorem isB_take {w : World} {a : Option Addr} {len k : Nat} {zs : List Int} (h : IsB w a len zs) (hk : k ≤ len) : IsB w a k (zs.take k) := by
  obtain ⟨h1, h2, h3, h4⟩ := h
  have e : ∀ i, i < k → (zs.take k).getD i 0 = zs.getD i 0 := fun i hi => by simp [List.getD, hi]
  refine ⟨by simp; omega, by omega, ?_, fun i => ?_⟩
  · by_cases h0 : k = 0
    · exact .inl h0
    · rcases h3 with h3 | ⟨b, off, rfl, hc⟩
      · omega
      · exact .inr ⟨b, off, rfl, fun i hi => by rw [e i hi]; exact hc i (by omega)⟩
  · by_cases hi : i < k
    · rw [e i hi]; exact h4 i
    · rw [List.getD_eq_getElem?_getD, List.getElem?_eq_none (by simp; omega)]; simp
/-- a row of the call's own, as a slice of bytes -/
theorem own_any {w : World} {B : Nat} {v : Value} {zs : List Int} (h : w.ownsRow B 5 1 v zs.length (zs.map (Value.int .u8))) (hb : ∀ z ∈ zs, 0 ≤ z ∧ z ≤ 255) :
    ∃ a L cap, v = .slice a L cap ∧ L = zs.length ∧ IsB w a L zs ∧ (∀ x, L ≠ 0 → a = some x → x.block < w.heap.size) ∧ (a = none → L = 0 ∧ cap = 0) ∧ L ≤ cap ∧ (∀ x, a = some x → B ≤ x.block) := by
  rcases h.2 with ⟨rfl, h0⟩ | ⟨g, cap, cur, rfl, hB, hg, h1, h2, _⟩
  · have hz := List.eq_nil_of_length_eq_zero h0
    subst hz
    exact ⟨none, 0, 0, rfl, rfl, isB_nil _, fun x hx => absurd rfl hx, fun _ => ⟨rfl, rfl⟩, Nat.le_refl _, fun x hx => (by cases hx)⟩
  · exact ⟨some ⟨g, 0, none⟩, _, cap, rfl, rfl, own_isB h rfl hb, fun x _ hx => (by cases hx; exact own_low h), fun hx => (by cases hx), h1, fun x hx => (by cases hx; exact hB)⟩

end Go.Proofs.Ytafhgilikcablaa
