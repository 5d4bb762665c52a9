/- A copy into a part of an own row of bytes. -/
import Derived.Test.YtafhgilikcablaaDkCopy
namespace Go.Proofs.Ytafhgilikcablaa
open Go.RowKit Go.Maps
set_option linter.unusedVariables false
set_option maxRecDepth 100000

/-- bytes p to p + n are b's -/
def midB (zs b : List Int) (p : Nat) : List Int := zs.take p ++ (b ++ zs.drop (p + b.length))
theorem midB_length {zs b : List Int} {p : Nat} (h : p + b.length ≤ zs.length) : (midB zs b p).length = zs.length := by
  unfold midB; simp only [List.length_append, List.length_take, List.length_drop]; omega
theorem midB_at {zs b : List Int} {p i : Nat} (h : p + b.length ≤ zs.length) (hi : i < zs.length) : (midB zs b p).getD i 0 = if p ≤ i ∧ i < p + b.length then b.getD (i - p) 0 else zs.getD i 0 := by
  unfold midB
  rw [List.getD_eq_getElem?_getD, List.getElem?_append, List.length_take, Nat.min_eq_left (by omega)]
  by_cases h1 : i < p
  · rw [if_pos h1, if_neg (by omega), List.getElem?_take, if_pos h1, List.getD_eq_getElem?_getD]
  · rw [if_neg h1, List.getElem?_append]
    by_cases h2 : i - p < b.length
    · rw [if_pos h2, if_pos (by omega), List.getD_eq_getElem?_getD]
    · rw [if_neg h2, if_neg (by omega), List.getElem?_drop, List.getD_eq_getElem?_getD]
      congr 2
      omega
theorem wpList_copy_mid {W : World} {ops : Array Oper} {rest : List Oper} {o : Oper} {a : Act} {Q : Exit → Act → World → Prop} (hgd : o.guard = none) (d s : Operand)
    (ho : o.op = .call { callee := .builtin .copy, args := #[d, s], argTypes := #[30, 30] }) (B g vc : Nat) (zs b : List Int) (p c n : Nat) (hbn : b.length = n) (hp : p + b.length ≤ zs.length) (hb0 : 0 < b.length)
    (hown : W.ownsRow B 5 1 (.slice (some ⟨g, 0, none⟩) zs.length vc) zs.length (zs.map (Value.int .u8))) (ba : Option Addr) (bl bc : Nat) (hd : a.eval d = .slice (some ⟨g, p, none⟩) n c) (hs : a.eval s = .slice ba bl bc) (hb : IsB W ba bl b)
    (h : ∀ w', w'.ownsRow B 5 1 (.slice (some ⟨g, 0, none⟩) zs.length vc) zs.length ((midB zs b p).map (Value.int .u8)) → W.grownBy w' (some g) → wpList Try.prog ops Q rest (a.put o.dst (goInt n)) w') :
    wpList Try.prog ops Q (o :: rest) a W := by
  subst hbn
  obtain ⟨hbl, hbm, hbc, _⟩ := hb
  rcases hown.2 with ⟨e, _⟩ | ⟨g', cap, cur, he, hB, hg, h1, h2, hcs, ht⟩
  · cases e
  cases he
  rw [Nat.mul_one] at hcs ht
  obtain ⟨x, off, rfl, hc⟩ : ∃ x off, ba = some ⟨x, off, none⟩ ∧ ∀ i, i < bl → W.cell? ⟨x, off + i, none⟩ = some (.int .u8 (b.getD i 0)) := by
    rcases hbc with hbc | ⟨x, off, rfl, hc⟩
    · omega
    · exact ⟨x, off, rfl, hc⟩
  have hlen : (b.map (Value.int .u8)).length = b.length := by simp
  have hmin : Nat.min bl b.length = b.length := by rw [← hbl]; exact Nat.min_self _
  refine wpList_copy_own hgd d s 30 30 ho 5 Try.underlying30 u8one g p _ _ ⟨x, off, none⟩ bl bc hd hs cur 5 hg (b.map (Value.int .u8)) (by rw [hlen, hmin]) ?_ (by rw [hlen]; omega) (by intro v hv; obtain ⟨_, _, rfl⟩ := List.mem_map.1 hv; rfl) ?_
  · intro j v hj
    have hjl := (List.getElem?_eq_some_iff.1 hj).1
    rw [hlen] at hjl
    rw [List.getElem?_map, List.getElem?_eq_getElem hjl] at hj
    have := hc j (by omega)
    rw [Addr.add_lit, this, ← hj, List.getD_eq_getElem?_getD, List.getElem?_eq_getElem hjl]
    rfl
  · rw [hlen]
    refine h _ ⟨by rw [List.length_map, midB_length hp, Nat.mul_one], .inr ⟨g, vc, _, rfl, hB, setRow_heap W g cur _ 5 _ hg, h1, h2, ?_, ?_⟩⟩ ⟨rfl, rfl, rfl, by simp, fun j _ hj => setRow_other W g j _ (fun e => hj (by simp [e]))⟩
    · simp [hcs]; omega
    · rw [Nat.mul_one]
      have e1 : cur.toList.take p = (zs.take p).map (Value.int .u8) := by
        rw [List.map_take, ← ht, List.take_take]; congr 1; omega
      have e2 : (cur.toList.drop (p + b.length)).take (zs.length - (p + b.length)) = (zs.drop (p + b.length)).map (Value.int .u8) := by
        rw [List.map_drop, ← ht, List.drop_take]
      unfold midB
      rw [List.map_append, List.map_append, ← e1, ← e2]
      have l1 : (cur.toList.take p).length = p := by rw [List.length_take]; simp [hcs]; omega
      rw [take3 _ _ _ _ (by rw [l1, hlen]; omega), l1, hlen, Nat.sub_sub]
end Go.Proofs.Ytafhgilikcablaa
