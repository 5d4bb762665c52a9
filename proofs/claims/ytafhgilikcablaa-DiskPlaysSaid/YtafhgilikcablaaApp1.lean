/- append of one byte, of a text, of another slice, onto a row of the call's own: laws for plain regions and for those that draw their order. -/
import Derived.Test.YtafhgilikcablaaBytes
import Derived.Deep.AppendLies
import Derived.Lib.AppendStr
namespace Go.Proofs.Ytafhgilikcablaa
open Go.RowKit
set_option linter.unusedVariables false

theorem strCells_txt (s : ByteArray) : Lib.strCells s = (txt s).map (Value.int .u8) := by
  unfold txt Lib.strCells
  rw [List.map_map]
  rfl

section
variable {W : World} {ops : Array Oper} {rest : List Oper} {o : Oper} {a : Act} {K : Act → World → Prop} {Q : Exit → Act → World → Prop} {E : Prop}

theorem wp_byte (s x : Operand) (ho : o.op = .call { callee := .builtin .append, args := #[s, x], argTypes := #[30, 30] })
    (B : Nat) (v : Value) (zs : List Int) (b : Nat) (y : Int) (hs : a.eval s = v) (hx : a.eval x = .slice (some ⟨b, 0, none⟩) 1 1)
    (hown : W.ownsRow B 5 1 v zs.length (zs.map (Value.int .u8))) (hc : W.cell? ⟨b, 0, none⟩ = some (.int .u8 y)) (hlen : zs.length ≤ 140737488355000) (hbase : B ≤ W.heap.size)
    (h : ∀ g cap w', w'.ownsRow B 5 1 (.slice (some ⟨g, 0, none⟩) (zs.length + 1) cap) (zs.length + 1) ((zs ++ [y]).map (Value.int .u8)) → W.grownBy w' v.ownBlock → (v.ownBlock = some g ∨ g = W.heap.size) → g < w'.heap.size → K (a.put o.dst (.slice (some ⟨g, 0, none⟩) (zs.length + 1) cap)) w') :
    o.wp Try.prog a W K Q := by
  obtain ⟨i0, hi, hz0, hz1, hz2⟩ := info_parts info5
  refine wp_append_lies W s x 30 ho B 5 i0 (.int .u8 0) 1 1 Try.underlying30 hi hz0 hz1 hz2 rfl (by decide) v zs.length _ hs hown ⟨b, 0, none⟩ 1 1 [.int .u8 y] hx rfl ?_ ?_ (by omega) (by unfold maxLen; omega) (by omega) hbase _ rfl ?_
  · intro j u hu
    match j, hu with
    | 0, hu => simp at hu; subst hu; exact hc
    | j + 1, hu => simp at hu
  · intro u hu; simp at hu; subst hu; rfl
  · intro g cap w' h1 h2 h3 h4
    exact h g cap w' (by simpa using h1) h2 h3 h4
theorem wpList_byte (hgd : o.guard = none) (s x : Operand) (ho : o.op = .call { callee := .builtin .append, args := #[s, x], argTypes := #[30, 30] })
    (B : Nat) (v : Value) (zs : List Int) (b : Nat) (y : Int) (hs : a.eval s = v) (hx : a.eval x = .slice (some ⟨b, 0, none⟩) 1 1)
    (hown : W.ownsRow B 5 1 v zs.length (zs.map (Value.int .u8))) (hc : W.cell? ⟨b, 0, none⟩ = some (.int .u8 y)) (hlen : zs.length ≤ 140737488355000) (hbase : B ≤ W.heap.size)
    (h : ∀ g cap w', w'.ownsRow B 5 1 (.slice (some ⟨g, 0, none⟩) (zs.length + 1) cap) (zs.length + 1) ((zs ++ [y]).map (Value.int .u8)) → W.grownBy w' v.ownBlock → (v.ownBlock = some g ∨ g = W.heap.size) → g < w'.heap.size → wpList Try.prog ops Q rest (a.put o.dst (.slice (some ⟨g, 0, none⟩) (zs.length + 1) cap)) w') :
    wpList Try.prog ops Q (o :: rest) a W :=
  wpList_plain hgd fun _ hK => wp_byte s x ho B v zs b y hs hx hown hc hlen hbase fun g cap w' h1 h2 h3 h4 => hK _ _ (h g cap w' h1 h2 h3 h4)
theorem step_byte (hgd : o.guard = none) (s x : Operand) (ho : o.op = .call { callee := .builtin .append, args := #[s, x], argTypes := #[30, 30] })
    (B : Nat) (v : Value) (zs : List Int) (b : Nat) (y : Int) (hs : a.eval s = v) (hx : a.eval x = .slice (some ⟨b, 0, none⟩) 1 1)
    (hown : W.ownsRow B 5 1 v zs.length (zs.map (Value.int .u8))) (hc : W.cell? ⟨b, 0, none⟩ = some (.int .u8 y)) (hlen : zs.length ≤ 140737488355000) (hbase : B ≤ W.heap.size)
    (h : ∀ g cap w', w'.ownsRow B 5 1 (.slice (some ⟨g, 0, none⟩) (zs.length + 1) cap) (zs.length + 1) ((zs ++ [y]).map (Value.int .u8)) → W.grownBy w' v.ownBlock → (v.ownBlock = some g ∨ g = W.heap.size) → g < w'.heap.size → K (a.put o.dst (.slice (some ⟨g, 0, none⟩) (zs.length + 1) cap)) w') :
    if Region.wanted o (yielded ops a.tmps) = true then Oper.wp Try.prog o a W K Q else E := by
  have hw : Region.wanted o (yielded ops a.tmps) = true := by simp [Region.wanted, hgd]
  rw [if_pos hw]
  exact wp_byte s x ho B v zs b y hs hx hown hc hlen hbase h

theorem wp_text (s x : Operand) (ho : o.op = .call { callee := .builtin .append, args := #[s, x], argTypes := #[30, 9] })
    (B : Nat) (v : Value) (zs : List Int) (t : ByteArray) (hs : a.eval s = v) (hx : a.eval x = .string t)
    (hown : W.ownsRow B 5 1 v zs.length (zs.map (Value.int .u8))) (hlen : zs.length + t.size ≤ 140737488355000) (hbase : B ≤ W.heap.size)
    (h : ∀ v' w', w'.ownsRow B 5 1 v' (zs ++ txt t).length ((zs ++ txt t).map (Value.int .u8)) → W.grownBy w' v.ownBlock → K (a.put o.dst v') w') :
    o.wp Try.prog a W K Q := by
  obtain ⟨i0, hi, hz0, hz1, hz2⟩ := info_parts info5
  obtain ⟨v', w', hr, h2, h3, h4⟩ := Lib.run_append_own_string (P := Try.prog) W B 30 9 o.type 5 i0 Try.underlying30 Try.underlying9 hi hz0 hz1 hz2 v zs.length _ hown t (by unfold maxLen; omega) (by omega) hbase
  unfold Oper.wp execOp
  simp only [ho, resolve, invoke, builtin, Sem.run_bind, Sem.run_pure, Result.andThen_ok, List.map_toArray, List.map_cons, List.map_nil, hs, hx, hr]
  refine h v' w' ?_ h3
  rw [strCells_txt, ← List.map_append] at h2
  rw [List.length_append, txt_length]
  exact h2
theorem wpList_text (hgd : o.guard = none) (s x : Operand) (ho : o.op = .call { callee := .builtin .append, args := #[s, x], argTypes := #[30, 9] })
    (B : Nat) (v : Value) (zs : List Int) (t : ByteArray) (hs : a.eval s = v) (hx : a.eval x = .string t)
    (hown : W.ownsRow B 5 1 v zs.length (zs.map (Value.int .u8))) (hlen : zs.length + t.size ≤ 140737488355000) (hbase : B ≤ W.heap.size)
    (h : ∀ v' w', w'.ownsRow B 5 1 v' (zs ++ txt t).length ((zs ++ txt t).map (Value.int .u8)) → W.grownBy w' v.ownBlock → wpList Try.prog ops Q rest (a.put o.dst v') w') :
    wpList Try.prog ops Q (o :: rest) a W :=
  wpList_plain hgd fun _ hK => wp_text s x ho B v zs t hs hx hown hlen hbase fun v' w' h1 h2 => hK _ _ (h v' w' h1 h2)
theorem step_text (hgd : o.guard = none) (s x : Operand) (ho : o.op = .call { callee := .builtin .append, args := #[s, x], argTypes := #[30, 9] })
    (B : Nat) (v : Value) (zs : List Int) (t : ByteArray) (hs : a.eval s = v) (hx : a.eval x = .string t)
    (hown : W.ownsRow B 5 1 v zs.length (zs.map (Value.int .u8))) (hlen : zs.length + t.size ≤ 140737488355000) (hbase : B ≤ W.heap.size)
    (h : ∀ v' w', w'.ownsRow B 5 1 v' (zs ++ txt t).length ((zs ++ txt t).map (Value.int .u8)) → W.grownBy w' v.ownBlock → K (a.put o.dst v') w') :
    if Region.wanted o (yielded ops a.tmps) = true then Oper.wp Try.prog o a W K Q else E := by
  have hw : Region.wanted o (yielded ops a.tmps) = true := by simp [Region.wanted, hgd]
  rw [if_pos hw]
  exact wp_text s x ho B v zs t hs hx hown hlen hbase h

theorem wpList_two (hgd : o.guard = none) (s x : Operand) (ho : o.op = .call { callee := .builtin .append, args := #[s, x], argTypes := #[30, 30] })
    (B : Nat) (v : Value) (zs : List Int) (b : Nat) (y z : Int) (hs : a.eval s = v) (hx : a.eval x = .slice (some ⟨b, 0, none⟩) 2 2)
    (hown : W.ownsRow B 5 1 v zs.length (zs.map (Value.int .u8))) (hc : W.cell? ⟨b, 0, none⟩ = some (.int .u8 y)) (hc2 : W.cell? ⟨b, 1, none⟩ = some (.int .u8 z)) (hlen : zs.length ≤ 140737488355000) (hbase : B ≤ W.heap.size)
    (h : ∀ v' w', w'.ownsRow B 5 1 v' (zs ++ [y, z]).length ((zs ++ [y, z]).map (Value.int .u8)) → W.grownBy w' v.ownBlock → wpList Try.prog ops Q rest (a.put o.dst v') w') :
    wpList Try.prog ops Q (o :: rest) a W := by
  obtain ⟨i0, hi, hz0, hz1, hz2⟩ := info_parts info5
  refine wpList_append_own W hgd s x 30 ho B 5 i0 (.int .u8 0) 1 1 Try.underlying30 hi hz0 hz1 hz2 rfl (by decide) v zs.length _ hs hown ⟨b, 0, none⟩ 2 2 [.int .u8 y, .int .u8 z] hx rfl ?_ ?_ (by unfold maxLen; omega) (by omega) hbase ?_
  · intro j u hu
    match j, hu with
    | 0, hu => simp at hu; subst hu; exact hc
    | 1, hu => simp at hu; subst hu; exact hc2
    | j + 2, hu => simp at hu
  · intro u hu; simp at hu; rcases hu with rfl | rfl <;> rfl
  · intro v' w' h1 h2 _
    exact h v' w' (by simpa using h1) h2

/-- another slice behind it: nil, empty or not -/
theorem wp_slice (s x : Operand) (ho : o.op = .call { callee := .builtin .append, args := #[s, x], argTypes := #[30, 30] })
    (B : Nat) (v : Value) (zs : List Int) (d : Option Addr) (ld cd : Nat) (zd : List Int) (hs : a.eval s = v) (hx : a.eval x = .slice d ld cd)
    (hown : W.ownsRow B 5 1 v zs.length (zs.map (Value.int .u8))) (hd : IsB W d ld zd) (hn : d = none → ld = 0 ∧ cd = 0) (hlen : zs.length + ld ≤ 140737488355328) (hbase : B ≤ W.heap.size)
    (h : ∀ v' w', w'.ownsRow B 5 1 v' (zs ++ zd).length ((zs ++ zd).map (Value.int .u8)) → W.grownBy w' v.ownBlock → K (a.put o.dst v') w') :
    o.wp Try.prog a W K Q := by
  obtain ⟨i0, hi, hz0, hz1, hz2⟩ := info_parts info5
  have hdl := hd.1
  cases d with
  | none =>
    obtain ⟨rfl, rfl⟩ := hn rfl
    obtain rfl := List.eq_nil_of_length_eq_zero hdl
    have hr := run_append_owned_none (P := Try.prog) W B 30 o.type 5 i0 1 Try.underlying30 hi v zs.length _ hown
    unfold Oper.wp execOp
    simp only [ho, resolve, invoke, builtin, Sem.run_bind, Sem.run_pure, Result.andThen_ok, List.map_toArray, List.map_cons, List.map_nil, hs, hx, hr]
    exact h v W (by simpa using hown) (World.grownBy.refl _ _)
  | some ad =>
    obtain ⟨v', w', hr, h2, h3, h4⟩ := run_append_own (P := Try.prog) W B 30 o.type 5 i0 (.int .u8 0) 1 1 Try.underlying30 hi hz0 hz1 hz2 rfl (by decide) v zs.length _ hown ad ld cd (zd.map (Value.int .u8)) (by rw [List.length_map, hdl, Nat.mul_one]) (hd.cells ad rfl) (by intro u hu; obtain ⟨_, _, rfl⟩ := List.mem_map.1 hu; rfl) (by unfold maxLen; omega) (by omega) hbase
    unfold Oper.wp execOp
    simp only [ho, resolve, invoke, builtin, Sem.run_bind, Sem.run_pure, Result.andThen_ok, List.map_toArray, List.map_cons, List.map_nil, hs, hx, hr]
    refine h v' w' ?_ h3
    rw [← List.map_append] at h2
    rw [List.length_append, hdl]
    exact h2
theorem wpList_slice (hgd : o.guard = none) (s x : Operand) (ho : o.op = .call { callee := .builtin .append, args := #[s, x], argTypes := #[30, 30] })
    (B : Nat) (v : Value) (zs : List Int) (d : Option Addr) (ld cd : Nat) (zd : List Int) (hs : a.eval s = v) (hx : a.eval x = .slice d ld cd)
    (hown : W.ownsRow B 5 1 v zs.length (zs.map (Value.int .u8))) (hd : IsB W d ld zd) (hn : d = none → ld = 0 ∧ cd = 0) (hlen : zs.length + ld ≤ 140737488355328) (hbase : B ≤ W.heap.size)
    (h : ∀ v' w', w'.ownsRow B 5 1 v' (zs ++ zd).length ((zs ++ zd).map (Value.int .u8)) → W.grownBy w' v.ownBlock → wpList Try.prog ops Q rest (a.put o.dst v') w') :
    wpList Try.prog ops Q (o :: rest) a W :=
  wpList_plain hgd fun _ hK => wp_slice s x ho B v zs d ld cd zd hs hx hown hd hn hlen hbase fun v' w' h1 h2 => hK _ _ (h v' w' h1 h2)
theorem step_slice (hgd : o.guard = none) (s x : Operand) (ho : o.op = .call { callee := .builtin .append, args := #[s, x], argTypes := #[30, 30] })
    (B : Nat) (v : Value) (zs : List Int) (d : Option Addr) (ld cd : Nat) (zd : List Int) (hs : a.eval s = v) (hx : a.eval x = .slice d ld cd)
    (hown : W.ownsRow B 5 1 v zs.length (zs.map (Value.int .u8))) (hd : IsB W d ld zd) (hn : d = none → ld = 0 ∧ cd = 0) (hlen : zs.length + ld ≤ 140737488355328) (hbase : B ≤ W.heap.size)
    (h : ∀ v' w', w'.ownsRow B 5 1 v' (zs ++ zd).length ((zs ++ zd).map (Value.int .u8)) → W.grownBy w' v.ownBlock → K (a.put o.dst v') w') :
    if Region.wanted o (yielded ops a.tmps) = true then Oper.wp Try.prog o a W K Q else E := by
  have hw : Region.wanted o (yielded ops a.tmps) = true := by simp [Region.wanted, hgd]
  rw [if_pos hw]
  exact wp_slice s x ho B v zs d ld cd zd hs hx hown hd hn hlen hbase h
end
end Go.Proofs.Ytafhgilikcablaa
