/- Code that a cell is compiled to does what the cell is worth. No program. -/
import Derived.Test.YtafhgilikcablaaCmP
namespace Go.Proofs.Ytafhgilikcablaa
open Go.RowKit
set_option linter.unusedVariables false
set_option linter.unusedSimpArgs false
set_option maxRecDepth 100000
theorem Does.bad {R : List (List Val)} {xs : List Ins} {c p : CT} {k : Int} {r i n : Nat} {rs : List Reg} (h : (askV R p).2.2 ≠ 0) (g : ∃ e, e ≠ 0 ∧ unfE e = (askV R p).2.2 ∧ Fails R xs i rs e) (he : (askV R c).2.2 = (askV R p).2.2) : Does R xs c k r i n rs :=
  .inr ⟨by rw [he]; exact h, by rw [he]; exact g⟩
theorem bad_later {R : List (List Val)} {xs : List Ins} {p : CT} {i j : Nat} {rs rs1 : List Reg} (h : Reach R xs i rs j rs1) (g : ∃ e, e ≠ 0 ∧ unfE e = (askV R p).2.2 ∧ Fails R xs j rs1 e) : ∃ e, e ≠ 0 ∧ unfE e = (askV R p).2.2 ∧ Fails R xs i rs e := by
  obtain ⟨e, h1, h2, h3⟩ := g
  exact ⟨e, h1, h2, h.fails h3⟩
theorem la {α : Type} {P : α → Prop} {a b : List α} (h : ∀ x ∈ a ++ b, P x) : ∀ x ∈ a, P x := fun x hx => h x (List.mem_append_left _ hx)
theorem lb {α : Type} {P : α → Prop} {a b : List α} (h : ∀ x ∈ a ++ b, P x) : ∀ x ∈ b, P x := fun x hx => h x (List.mem_append_right _ hx)
theorem lc {α : Type} {P : α → Prop} {a : α} {b : List α} (h : ∀ x ∈ a :: b, P x) : P a := h a List.mem_cons_self
theorem ld {α : Type} {P : α → Prop} {a : α} {b : List α} (h : ∀ x ∈ a :: b, P x) : ∀ x ∈ b, P x := fun x hx => h x (List.mem_cons_of_mem _ hx)
theorem fit_r {op : ByteArray} {r n : Nat} {b c : Int} {v : Val} {l : List Ins} (h : ∀ x ∈ (⟨op, (r : Nat), b, c, v⟩ : Ins) :: l, x.a.toNat < n) : r < n := by simpa using lc h
/-- the machine does what a cell of a kind is worth -/
theorem run_cm (R : List (List Val)) (xs : List Ins) {c : CT} {k : Int} (h : Wk c k) : ∀ (r i : Nat) (rs : List Reg), Stands xs i (cmpC c r i) → (∀ x ∈ cmpC c r i, x.a.toNat < rs.length) → Does R xs c k r i (i + (cmpC c r i).length) rs := by
  induction h with
  | lit vk vn vs hf hn =>
    intro r i rs hs hlt
    rw [cmp_lit] at hs hlt ⊢
    exact Does.set (.refl R xs i rs) rfl (fit_r hlt) (fun _ _ => rfl) hs.head (st_const R r i _ rs) rfl (fun _ => ⟨fun _ => rfl, fun h3 => by unfold formedB at hf; subst h3; simp at hf⟩)
  | col s c k hk =>
    intro r i rs hs hlt
    rw [cmp_col] at hs hlt ⊢
    have ha : askV R (.mk 2 ⟨#[]⟩ 0 0 ⟨#[]⟩ s c []) = ((colF R s c).1, 0, (colF R s c).2) := by simp [askV, askL, askH]
    exact Does.set (.refl R xs i rs) rfl (fit_r hlt) (fun _ _ => rfl) hs.head (st_col R r i s c rs) (by rw [ha]; exact colF_e R s c) (fun _ => ⟨fun _ => by rw [ha], fun h3 => by omega⟩)
  | not op p ho hp ih =>
    intro r i rs hs hlt
    rw [cmp_not ho] at hs hlt ⊢
    rw [List.length_append, ← Nat.add_assoc]
    rcases ih r i rs hs.left (la hlt) with ⟨h0, rs1, hR, hl, hk, _, ht⟩ | ⟨h0, hE⟩
    · have ha : askV R (.mk 3 op 0 0 ⟨#[]⟩ 0 0 [p]) = (noV, notI (askV R p).2.1, 0) := by simp [askV, askL, askH, h0, ho]
      exact Does.set hR hl (fit_r ((lb hlt))) hk hs.right.head (st_not R r r _ rs1) (by rw [ha]; rfl) (fun _ => ⟨fun h3 => absurd rfl h3, fun _ => by rw [ha, ← ht rfl]⟩)
    · exact Does.bad h0 hE (by simp [askV, askL, askH, h0])
  | neg op p k ho hk3 hp ih =>
    intro r i rs hs hlt
    rw [cmp_neg ho] at hs hlt ⊢
    rw [List.length_append, ← Nat.add_assoc]
    rcases ih r i rs hs.left (la hlt) with ⟨h0, rs1, hR, hl, hk, hv, _⟩ | ⟨h0, hE⟩
    · have ha : askV R (.mk 3 op 0 0 ⟨#[]⟩ 0 0 [p]) = argF (recV ⟨#[45]⟩ (1, 0, ⟨#[]⟩) (askV R p).1) 0 (recX ⟨#[45]⟩ (1, 0, ⟨#[]⟩) (askV R p).1) := by simp [askV, askL, askH, h0, ho]
      rw [← hv hk3] at ha
      exact Does.set hR hl (fit_r ((lb hlt))) hk hs.right.head (st_neg R r r _ rs1) (by rw [ha, argF_e]) (fun he => ⟨fun _ => by rw [ha, he]; rfl, fun h3 => absurd h3 (by decide)⟩)
    · exact Does.bad h0 hE (by simp [askV, askL, askH, h0])
  | test op p k ho hk3 hp ih =>
    intro r i rs hs hlt
    rcases ho with ho | ho
    · rw [cmp_null ho] at hs hlt ⊢
      rw [List.length_append, ← Nat.add_assoc]
      rcases ih (r + 1) i rs hs.left (la hlt) with ⟨h0, rs1, hR, hl, hk, hv, _⟩ | ⟨h0, hE⟩
      · have ha : askV R (.mk 5 op 0 0 ⟨#[]⟩ 0 0 [p]) = (noV, truthI ((askV R p).1.1 == 0), 0) := by simp [askV, askL, askH, h0, ho]
        exact Does.set hR hl (fit_r ((lb hlt))) (fun j hj => hk j (by omega)) hs.right.head (st_null R r (r + 1) _ rs1) (by rw [ha]; rfl) (fun _ => ⟨fun h3 => absurd rfl h3, fun _ => by rw [ha, ← hv hk3]⟩)
      · exact Does.bad h0 hE (by simp [askV, askL, askH, h0])
    · rw [cmp_some ho] at hs hlt ⊢
      rw [List.length_append, ← Nat.add_assoc]
      rcases ih (r + 1) i rs hs.left (la hlt) with ⟨h0, rs1, hR, hl, hk, hv, _⟩ | ⟨h0, hE⟩
      · have ha : askV R (.mk 5 op 0 0 ⟨#[]⟩ 0 0 [p]) = (noV, truthI ((askV R p).1.1 != 0), 0) := by
          have : ∀ b : Bool, (b == false) = !b := by decide
          simp [askV, askL, askH, h0, ho, bne, this]
        exact Does.set hR hl (fit_r ((lb hlt))) (fun j hj => hk j (by omega)) hs.right.head (st_some R r (r + 1) _ rs1) (by rw [ha]; rfl) (fun _ => ⟨fun h3 => absurd rfl h3, fun _ => by rw [ha, ← hv hk3]⟩)
      · exact Does.bad h0 hE (by simp [askV, askL, askH, h0])
  | reck op p q k l ho hk3 hl3 hp hq ihp ihq =>
    intro r i rs hs hlt
    rw [cmp_reck ho] at hs hlt ⊢
    rw [List.length_append, List.length_append, ← Nat.add_assoc, ← Nat.add_assoc]
    have hr : reckB op = true := by rcases ho with ho | ho | ho <;> simp [reckB, ho]
    have hn : ¬ op.toList = [65, 78, 68] ∧ ¬ op.toList = [79, 82] := by rcases ho with ho | ho | ho <;> simp [ho]
    rcases ihp r i rs hs.left (la hlt) with ⟨h0, rs1, hR, hl, hk, hv, _⟩ | ⟨h0, hE⟩
    · rcases ihq (r + 1) _ rs1 hs.right.left (by rw [hl]; exact la (lb hlt)) with ⟨g0, rs2, gR, gl, gk, gv, _⟩ | ⟨g0, gE⟩
      · have ha : askV R (.mk 4 op 0 0 ⟨#[]⟩ 0 0 [p, q]) = argF (recV op (askV R p).1 (askV R q).1) 0 (recX op (askV R p).1 (askV R q).1) := by simp [askV, askL, askH, h0, g0, hr, hn]
        rw [← hv hk3, ← gv hl3, ← gk r (Nat.lt_succ_self r)] at ha
        exact Does.set (hR.trans gR) (gl.trans hl) (fit_r ((lb (lb hlt)))) (fun j hj => (gk j (by omega)).trans (hk j hj)) hs.right.right.head (st_reck ho R r r (r + 1) _ rs2) (by rw [ha, argF_e]) (fun he => ⟨fun _ => by rw [ha, he]; rfl, fun h3 => absurd h3 (by decide)⟩)
      · exact Does.bad g0 (bad_later hR gE) (by simp [askV, askL, askH, h0, g0, hn])
    · exact Does.bad h0 hE (by simp [askV, askL, askH, h0])
  | cmp op p q k l ho hk3 hl3 hp hq ihp ihq =>
    intro r i rs hs hlt
    rw [cmp_cmp ho] at hs hlt ⊢
    rw [List.length_append, List.length_append, ← Nat.add_assoc, ← Nat.add_assoc]
    have hr : reckB op = false := by rcases ho with ho | ho | ho | ho | ho | ho <;> simp [reckB, ho]
    have hn : ¬ op.toList = [65, 78, 68] ∧ ¬ op.toList = [79, 82] := by rcases ho with ho | ho | ho | ho | ho | ho <;> simp [ho]
    rcases ihp (r + 1) i rs hs.left (la hlt) with ⟨h0, rs1, hR, hl, hk, hv, _⟩ | ⟨h0, hE⟩
    · rcases ihq (r + 2) _ rs1 hs.right.left (by rw [hl]; exact la (lb hlt)) with ⟨g0, rs2, gR, gl, gk, gv, _⟩ | ⟨g0, gE⟩
      · have ha : askV R (.mk 4 op 0 0 ⟨#[]⟩ 0 0 [p, q]) = argF noV (cmpV op (askV R p).1 (askV R q).1).1 (cmpV op (askV R p).1 (askV R q).1).2 := by simp [askV, askL, askH, h0, g0, hr, hn]
        rw [← hv hk3, ← gv hl3, ← gk (r + 1) (Nat.lt_succ_self _)] at ha
        exact Does.set (hR.trans gR) (gl.trans hl) (fit_r ((lb (lb hlt)))) (fun j hj => (gk j (by omega)).trans (hk j (by omega))) hs.right.right.head (st_cmp ho R r (r + 1) (r + 2) _ rs2) (by rw [ha, argF_e]) (fun he => ⟨fun h3 => absurd rfl h3, fun _ => by rw [ha, he]; rfl⟩)
      · exact Does.bad g0 (bad_later hR gE) (by simp [askV, askL, askH, h0, g0, hn])
    · exact Does.bad h0 hE (by simp [askV, askL, askH, h0])
  | and op p q ho hp hq ihp ihq =>
    intro r i rs hs hlt
    rw [cmp_and ho] at hs hlt ⊢
    unfold joinC at hs hlt ⊢
    have hn : ¬ op.toList = [79, 82] := by simp [ho]
    have hr : reckB op = false := by simp [reckB, ho]
    rcases ihp r i rs hs.left (la hlt) with ⟨h0, rs1, hR, hl, hk, _, ht⟩ | ⟨h0, hE⟩
    · have hj := hs.right.head
      have hst := st_false R r (i + (cmpC p r i).length + 1 + (cmpC q (r + 1) (i + (cmpC p r i).length + 1)).length + 1) (i + (cmpC p r i).length) rs1
      rw [ht rfl] at hst
      by_cases hz : (askV R p).2.1 = 0
      · rw [if_pos hz] at hst
        have ha : askV R (.mk 4 op 0 0 ⟨#[]⟩ 0 0 [p, q]) = (noV, (askV R p).2.1, 0) := by simp [askV, askL, askH, h0, ho, hz]
        refine .inl ⟨by rw [ha], rs1, hR.trans (.step hj ?_ ?_), hl, hk, fun h3 => absurd rfl h3, fun _ => by rw [ha, ht rfl]⟩
        · rw [hst]; congr 2; simp only [List.length_append, List.length_cons, List.length_nil]; omega
        · simp only [List.length_append, List.length_cons, List.length_nil]; omega
      · rw [if_neg hz] at hst
        have hR1 := hR.trans (.step hj hst (Nat.lt_succ_self _))
        rcases ihq (r + 1) _ rs1 hs.right.tail.left (by rw [hl]; exact la (ld (lb hlt))) with ⟨g0, rs2, gR, gl, gk, _, gt⟩ | ⟨g0, gE⟩
        · have ha : askV R (.mk 4 op 0 0 ⟨#[]⟩ 0 0 [p, q]) = (noV, andI (askV R p).2.1 (askV R q).2.1, 0) := by simp [askV, askL, askH, h0, g0, ho, hz, hr]
          rw [← ht rfl, ← gt rfl, ← gk r (Nat.lt_succ_self r)] at ha
          have := Does.set (c := .mk 4 op 0 0 ⟨#[]⟩ 0 0 [p, q]) (k := 3) (hR1.trans gR) (gl.trans hl) (fit_r ((lb (ld (lb hlt))))) (fun j hj => (gk j (by omega)).trans (hk j hj)) hs.right.tail.right.head (st_and R r r (r + 1) _ rs2) (by rw [ha]; rfl) (fun _ => ⟨fun h3 => absurd rfl h3, fun _ => by rw [ha]⟩)
          have he : i + (cmpC p r i).length + 1 + (cmpC q (r + 1) (i + (cmpC p r i).length + 1)).length + 1 = i + (cmpC p r i ++ (⟨oFalse, 0, (r : Nat), ((i + (cmpC p r i).length + 1 + (cmpC q (r + 1) (i + (cmpC p r i).length + 1)).length + 1 : Nat) : Int), noV⟩ :: (cmpC q (r + 1) (i + (cmpC p r i).length + 1) ++ [⟨oAnd, (r : Nat), (r : Nat), ((r + 1 : Nat) : Int), noV⟩]) : List Ins)).length := by
            simp only [List.length_append, List.length_cons, List.length_nil]; omega
          rw [he] at this
          exact this
        · exact Does.bad g0 (bad_later hR1 gE) (by simp [askV, askL, askH, h0, g0, ho, hz])
    · exact Does.bad h0 hE (by simp [askV, askL, askH, h0])
  | or op p q ho hp hq ihp ihq =>
    intro r i rs hs hlt
    rw [cmp_or ho] at hs hlt ⊢
    unfold joinC at hs hlt ⊢
    have hn : ¬ op.toList = [65, 78, 68] := by simp [ho]
    have hr : reckB op = false := by simp [reckB, ho]
    rcases ihp r i rs hs.left (la hlt) with ⟨h0, rs1, hR, hl, hk, _, ht⟩ | ⟨h0, hE⟩
    · have hj := hs.right.head
      have hst := st_true R r (i + (cmpC p r i).length + 1 + (cmpC q (r + 1) (i + (cmpC p r i).length + 1)).length + 1) (i + (cmpC p r i).length) rs1
      rw [ht rfl] at hst
      by_cases hz : (askV R p).2.1 = 1
      · rw [if_pos hz] at hst
        have ha : askV R (.mk 4 op 0 0 ⟨#[]⟩ 0 0 [p, q]) = (noV, (askV R p).2.1, 0) := by simp [askV, askL, askH, h0, ho, hz]
        refine .inl ⟨by rw [ha], rs1, hR.trans (.step hj ?_ ?_), hl, hk, fun h3 => absurd rfl h3, fun _ => by rw [ha, ht rfl]⟩
        · rw [hst]; congr 2; simp only [List.length_append, List.length_cons, List.length_nil]; omega
        · simp only [List.length_append, List.length_cons, List.length_nil]; omega
      · rw [if_neg hz] at hst
        have hR1 := hR.trans (.step hj hst (Nat.lt_succ_self _))
        rcases ihq (r + 1) _ rs1 hs.right.tail.left (by rw [hl]; exact la (ld (lb hlt))) with ⟨g0, rs2, gR, gl, gk, _, gt⟩ | ⟨g0, gE⟩
        · have ha : askV R (.mk 4 op 0 0 ⟨#[]⟩ 0 0 [p, q]) = (noV, orI (askV R p).2.1 (askV R q).2.1, 0) := by simp [askV, askL, askH, h0, g0, ho, hz, hr]
          rw [← ht rfl, ← gt rfl, ← gk r (Nat.lt_succ_self r)] at ha
          have := Does.set (c := .mk 4 op 0 0 ⟨#[]⟩ 0 0 [p, q]) (k := 3) (hR1.trans gR) (gl.trans hl) (fit_r ((lb (ld (lb hlt))))) (fun j hj => (gk j (by omega)).trans (hk j hj)) hs.right.tail.right.head (st_or R r r (r + 1) _ rs2) (by rw [ha]; rfl) (fun _ => ⟨fun h3 => absurd rfl h3, fun _ => by rw [ha]⟩)
          have he : i + (cmpC p r i).length + 1 + (cmpC q (r + 1) (i + (cmpC p r i).length + 1)).length + 1 = i + (cmpC p r i ++ (⟨oTrue, 0, (r : Nat), ((i + (cmpC p r i).length + 1 + (cmpC q (r + 1) (i + (cmpC p r i).length + 1)).length + 1 : Nat) : Int), noV⟩ :: (cmpC q (r + 1) (i + (cmpC p r i).length + 1) ++ [⟨oOr, (r : Nat), (r : Nat), ((r + 1 : Nat) : Int), noV⟩]) : List Ins)).length := by
            simp only [List.length_append, List.length_cons, List.length_nil]; omega
          rw [he] at this
          exact this
        · exact Does.bad g0 (bad_later hR1 gE) (by simp [askV, askL, askH, h0, g0, ho, hz])
    · exact Does.bad h0 hE (by simp [askV, askL, askH, h0])
end Go.Proofs.Ytafhgilikcablaa
