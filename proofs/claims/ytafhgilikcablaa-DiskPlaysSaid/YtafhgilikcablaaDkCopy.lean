/- copy over a part of a row of the call's own. -/
import Derived.Test.YtafhgilikcablaaDkPure
import Derived.Test.YtafhgilikcablaaApp1
import Derived.Laws.CopyOwn
namespace Go.Proofs.Ytafhgilikcablaa
open Go.RowKit
set_option linter.unusedVariables false
set_option maxRecDepth 100000

theorem u8one : (Try.prog.info? 5).map (·.size) = some 1 := by kernel_rfl
/-- what copy leaves -/
def cpB (zs b : List Int) (p : Nat) : List Int := zs.take p ++ (b.take (Nat.min b.length (zs.length - p)) ++ zs.drop (p + Nat.min b.length (zs.length - p)))
theorem cpB_length {zs b : List Int} {p : Nat} (hp : p ≤ zs.length) : (cpB zs b p).length = zs.length := by
  unfold cpB
  have h : Nat.min b.length (zs.length - p) = Min.min b.length (zs.length - p) := rfl
  rw [List.length_append, List.length_append, List.length_take, List.length_take, List.length_drop, h]
  omega
theorem cpB_none {zs b : List Int} {p : Nat} (h : Nat.min b.length (zs.length - p) = 0) : cpB zs b p = zs := by
  unfold cpB
  rw [h]
  simp
theorem take3 {α : Type} (X Y Z : List α) (n : Nat) (h : X.length + Y.length ≤ n) : (X ++ (Y ++ Z)).take n = X ++ (Y ++ Z.take (n - X.length - Y.length)) := by
  rw [List.take_append, List.take_append, List.take_of_length_le (l := X) (by omega), List.take_of_length_le (l := Y) (by omega)]
theorem wpList_copy_at {W : World} {ops : Array Oper} {rest : List Oper} {o : Oper} {a : Act} {Q : Exit → Act → World → Prop} (hgd : o.guard = none) (d s : Operand)
    (ho : o.op = .call { callee := .builtin .copy, args := #[d, s], argTypes := #[30, 30] }) (B : Nat) (va : Option Addr) (vc : Nat) (zs b : List Int) (p : Nat) (hp : p ≤ zs.length)
    (hown : W.ownsRow B 5 1 (.slice va zs.length vc) zs.length (zs.map (Value.int .u8))) (ba : Option Addr) (bl bc : Nat) (hd : a.eval d = .slice (offA va vc p) (zs.length - p) (vc - p)) (hs : a.eval s = .slice ba bl bc) (hb : IsB W ba bl b)
    (h : ∀ w', w'.ownsRow B 5 1 (.slice va zs.length vc) zs.length ((cpB zs b p).map (Value.int .u8)) → W.grownBy w' (Value.slice va zs.length vc).ownBlock → wpList Try.prog ops Q rest (a.put o.dst (goInt (Nat.min b.length (zs.length - p)))) w') :
    wpList Try.prog ops Q (o :: rest) a W := by
  obtain ⟨hbl, hbm, hbc, _⟩ := hb
  by_cases h0 : Nat.min b.length (zs.length - p) = 0
  · rw [h0] at h
    refine wpList_copy_nothing hgd d s 30 30 ho 5 Try.underlying30 u8one _ _ _ _ _ _ hd hs (by rw [← hbl]; exact h0) ?_
    exact h W (by rw [cpB_none h0]; exact hown) (World.grownBy.refl W _)
  · have hmin : Nat.min b.length (zs.length - p) = Min.min b.length (zs.length - p) := rfl
    rcases hown.2 with ⟨_, hz⟩ | ⟨g, cap, cur, he, hB, hg, h1, h2, hcs, ht⟩
    · omega
    · cases he
      rw [Nat.mul_one] at hcs ht
      have hoff : offA (some ⟨g, 0, none⟩) vc p = some ⟨g, p, none⟩ := by
        unfold offA
        rw [if_neg (by omega)]
        simp [Addr.add_lit]
      rw [hoff] at hd
      obtain ⟨x, off, rfl, hc⟩ : ∃ x off, ba = some ⟨x, off, none⟩ ∧ ∀ i, i < bl → W.cell? ⟨x, off + i, none⟩ = some (.int .u8 (b.getD i 0)) := by
        rcases hbc with hbc | ⟨x, off, rfl, hc⟩
        · omega
        · exact ⟨x, off, rfl, hc⟩
      have hlen : ((b.take (Nat.min b.length (zs.length - p))).map (Value.int .u8)).length = Nat.min b.length (zs.length - p) := by rw [List.length_map, List.length_take]; omega
      refine wpList_copy_own hgd d s 30 30 ho 5 Try.underlying30 u8one g p _ _ ⟨x, off, none⟩ bl bc hd hs cur 5 hg ((b.take (Nat.min b.length (zs.length - p))).map (Value.int .u8)) (by rw [hlen, hbl]) ?_ (by rw [hlen]; omega) (by intro v hv; obtain ⟨_, _, rfl⟩ := List.mem_map.1 hv; rfl) ?_
      · intro j v hj
        have hjl := (List.getElem?_eq_some_iff.1 hj).1
        rw [hlen] at hjl
        rw [List.getElem?_map, List.getElem?_take, if_pos hjl, List.getElem?_eq_getElem (by omega)] at hj
        have := hc j (by omega)
        rw [Addr.add_lit, this, ← hj, List.getD_eq_getElem?_getD, List.getElem?_eq_getElem (by omega)]
        rfl
      · rw [hlen]
        refine h _ ⟨by rw [List.length_map, cpB_length hp, Nat.mul_one], .inr ⟨g, vc, _, rfl, hB, setRow_heap W g cur _ 5 _ hg, h1, h2, ?_, ?_⟩⟩ ⟨rfl, rfl, rfl, by simp, fun j _ hj => setRow_other W g j _ (fun e => hj (by simp [Value.ownBlock, e]))⟩
        · simp [hcs]; omega
        · rw [Nat.mul_one]
          have e1 : cur.toList.take p = (zs.take p).map (Value.int .u8) := by
            rw [List.map_take, ← ht, List.take_take]; congr 1; omega
          have e2 : (cur.toList.drop (p + Nat.min b.length (zs.length - p))).take (zs.length - (p + Nat.min b.length (zs.length - p))) = (zs.drop (p + Nat.min b.length (zs.length - p))).map (Value.int .u8) := by
            rw [List.map_drop, ← ht, List.drop_take]
          unfold cpB
          rw [List.map_append, List.map_append, ← e1, ← e2]
          have l1 : (cur.toList.take p).length = p := by rw [List.length_take]; simp [hcs]; omega
          rw [take3 _ _ _ _ (by rw [l1, hlen]; omega), l1, hlen, Nat.sub_sub]
end Go.Proofs.Ytafhgilikcablaa
