/- The numbers of the instructions that a cell is compiled to are int64s. No program. -/
import Derived.Test.YtafhgilikcablaaCmW0
import Derived.Test.YtafhgilikcablaaSvVa
import Derived.Test.YtafhgilikcablaaIns
import Derived.Test.YtafhgilikcablaaVRecV
import Derived.Test.YtafhgilikcablaaEt
import Derived.Deep.Slices
import Derived.Deep.Strs
import Derived.Deep.Fields
import Derived.ProofKit
import Derived.OpenShut
import Derived.Test.YtafhgilikcablaaCmF
namespace Go.Proofs.Ytafhgilikcablaa
open Go.RowKit
set_option linter.unusedVariables false
set_option linter.unusedSimpArgs false
set_option maxRecDepth 100000
theorem colV_parts (F : FnD) (t col : ByteArray) : (colV F t col).1.parts = [] := by
  unfold colV colR
  split
  · rfl
  · dsimp only
    split <;> rfl
theorem resV_dp (F : FnD) (sh : ET → Bool) : ∀ (d : Nat) (e : ET), sndB sh d e = true → (resV F false e).2.2 = 0 → dpC d (resV F false e).1 := by
  intro d
  induction d with
  | zero => intro e h; cases h
  | succ d ih =>
    intro e h h0
    show ∀ p ∈ (resV F false e).1.parts, dpC d p
    by_cases h1 : e.kind = 1
    · rw [resV_1 F false e h1]
      intro p hp
      simp [CT.parts] at hp
    by_cases h2 : e.kind = 2
    · rw [resV_2 F false e h2, colV_parts]
      intro p hp
      simp at hp
    rw [resV_n F false e h1 h2, Bool.false_and] at h0 ⊢
    obtain ⟨hz, _, he⟩ := finV_ok h0
    rw [he]
    intro p hp
    have hp : p ∈ (e.parts.map (resV F false)).map (·.1) := hp
    rw [List.map_map] at hp
    obtain ⟨q, hq, rfl⟩ := List.mem_map.1 hp
    exact ih q (snd_part h hq) (hz _ (List.mem_map_of_mem hq))
theorem dpC_mono : ∀ {d : Nat} {c : CT}, dpC d c → ∀ {n : Nat}, d ≤ n → dpC n c := by
  intro d
  induction d with
  | zero => intro c h; exact h.elim
  | succ d ih =>
    intro c h n hn
    cases n with
    | zero => omega
    | succ n => exact fun p hp => ih (h p hp) (by omega)
end Go.Proofs.Ytafhgilikcablaa
namespace Go.Proofs.Ytafhgilikcablaa
open Go.ChangeShapes Go.WideShapes Go.Deep Go.RowKit
set_option linter.unusedVariables false
set_option linter.unusedSimpArgs false
/-- an instruction's numbers are int64s -/
def InsR (x : Ins) : Prop := InR x.v.2.1 ∧ InR x.b ∧ InR x.c
section
variable {H : Type} {enc : TypeId × Value → H} {P : Program} {w : World} {base : Nat} {spare : Nat → Bool} {held : Bool}

end
end Go.Proofs.Ytafhgilikcablaa
namespace Go.Proofs.Ytafhgilikcablaa
open Go.RowKit
set_option linter.unusedVariables false
set_option linter.unusedSimpArgs false
set_option maxRecDepth 100000
mutual
def RgC : CT → Prop
  | .mk _ _ _ vn _ s c ps => InR vn ∧ InR s ∧ InR c ∧ RgCL ps
def RgCL : List CT → Prop
  | [] => True
  | p :: ps => RgC p ∧ RgCL ps
end
theorem RgC_is (e : CT) : RgC e = (InR e.vn ∧ InR e.src ∧ InR e.col ∧ RgCL e.parts) := by cases e; rfl
theorem RgCL_all : ∀ {l : List CT}, (∀ i (h : i < l.length), RgC (l[i])) → RgCL l
  | [], _ => trivial
  | p :: l, h => ⟨h 0 (Nat.succ_pos _), RgCL_all (fun i hi => h (i + 1) (Nat.succ_lt_succ hi))⟩
theorem CL.rgC {w : World} {Q : Nat → Prop} {a : Option Addr} {l : List CT} (h : CL w Q a l) : RgCL l := by
  induction h with
  | nil a => trivial
  | row b off l sa sc hq hb hc hr hs ih =>
    exact RgCL_all (fun i hi => by rw [RgC_is]; exact ⟨wf_inR (hr i hi).n, wf_inR (hr i hi).t, wf_inR (hr i hi).c, ih i hi⟩)
theorem CV.rgC {w : World} {Q : Nat → Prop} {v : Value} {e : CT} (h : CV w Q v e) : RgC e := by
  obtain ⟨sa, sc, rfl, hr, hl⟩ := h
  rw [RgC_is]
  exact ⟨wf_inR hr.n, wf_inR hr.t, wf_inR hr.c, hl.rgC⟩
theorem inR_nat {n : Nat} (h : n ≤ 100000) : InR (n : Int) := by unfold InR; omega
theorem inR_0 : InR 0 := inR_nat (n := 0) (by omega)
theorem insR_cm {c : CT} {k : Int} (h : Wk c k) : RgC c → ∀ (r i : Nat), r + 2 * ctSz c ≤ 90000 → i + 2 * ctSz c ≤ 90000 → ∀ x ∈ cmpC c r i, InsR x := by
  have two : ∀ p q : CT, ∀ op, ctSz (.mk 4 op 0 0 ⟨#[]⟩ 0 0 [p, q]) = 1 + (ctSz p + ctSz q) := fun p q op => by simp [ctSz, clSz]
  have one : ∀ p : CT, ∀ op K, ctSz (.mk K op 0 0 ⟨#[]⟩ 0 0 [p]) = 1 + ctSz p := fun p op K => by simp [ctSz, clSz]
  induction h with
  | lit vk vn vs hf hn =>
    intro hg r i hr hi x hx
    rw [cmp_lit] at hx
    obtain rfl := List.mem_singleton.1 hx
    exact ⟨hn, inR_0, inR_0⟩
  | col s c k hk =>
    intro hg r i hr hi x hx
    rw [cmp_col] at hx
    obtain rfl := List.mem_singleton.1 hx
    exact ⟨inR_0, hg.2.1, hg.2.2.1⟩
  | not op p ho hp ih =>
    intro hg r i hr hi x hx
    rw [one] at hr hi
    rw [cmp_not ho] at hx
    rcases List.mem_append.1 hx with hx | hx
    · exact ih hg.2.2.2.1 r i (by omega) (by omega) x hx
    · obtain rfl := List.mem_singleton.1 hx
      exact ⟨inR_0, inR_nat (by omega), inR_0⟩
  | neg op p k ho hk3 hp ih =>
    intro hg r i hr hi x hx
    rw [one] at hr hi
    rw [cmp_neg ho] at hx
    rcases List.mem_append.1 hx with hx | hx
    · exact ih hg.2.2.2.1 r i (by omega) (by omega) x hx
    · obtain rfl := List.mem_singleton.1 hx
      exact ⟨inR_0, inR_nat (by omega), inR_0⟩
  | test op p k ho hk3 hp ih =>
    intro hg r i hr hi x hx
    rw [one] at hr hi
    rcases ho with ho | ho
    · rw [cmp_null ho] at hx
      rcases List.mem_append.1 hx with hx | hx
      · exact ih hg.2.2.2.1 (r + 1) i (by omega) (by omega) x hx
      · obtain rfl := List.mem_singleton.1 hx
        exact ⟨inR_0, inR_nat (by omega), inR_0⟩
    · rw [cmp_some ho] at hx
      rcases List.mem_append.1 hx with hx | hx
      · exact ih hg.2.2.2.1 (r + 1) i (by omega) (by omega) x hx
      · obtain rfl := List.mem_singleton.1 hx
        exact ⟨inR_0, inR_nat (by omega), inR_0⟩
  | reck op p q k l ho hk3 hl3 hp hq ihp ihq =>
    intro hg r i hr hi x hx
    rw [two] at hr hi
    have hl := (form_cm hp r i).1
    rw [cmp_reck ho] at hx
    rcases List.mem_append.1 hx with hx | hx
    · exact ihp hg.2.2.2.1 r i (by omega) (by omega) x hx
    rcases List.mem_append.1 hx with hx | hx
    · exact ihq hg.2.2.2.2.1 (r + 1) _ (by omega) (by omega) x hx
    · obtain rfl := List.mem_singleton.1 hx
      exact ⟨inR_0, inR_nat (by omega), inR_nat (by omega)⟩
  | cmp op p q k l ho hk3 hl3 hp hq ihp ihq =>
    intro hg r i hr hi x hx
    rw [two] at hr hi
    have hl := (form_cm hp (r + 1) i).1
    rw [cmp_cmp ho] at hx
    rcases List.mem_append.1 hx with hx | hx
    · exact ihp hg.2.2.2.1 (r + 1) i (by omega) (by omega) x hx
    rcases List.mem_append.1 hx with hx | hx
    · exact ihq hg.2.2.2.2.1 (r + 2) _ (by have := ctSz_is p; omega) (by omega) x hx
    · obtain rfl := List.mem_singleton.1 hx
      exact ⟨inR_0, inR_nat (by omega), inR_nat (by omega)⟩
  | and op p q ho hp hq ihp ihq =>
    intro hg r i hr hi x hx
    rw [two] at hr hi
    have hl := (form_cm hp r i).1
    have hm := (form_cm hq (r + 1) (i + (cmpC p r i).length + 1)).1
    rw [cmp_and ho] at hx
    unfold joinC at hx
    rcases List.mem_append.1 hx with hx | hx
    · exact ihp hg.2.2.2.1 r i (by omega) (by omega) x hx
    rcases List.mem_cons.1 hx with rfl | hx
    · exact ⟨inR_0, inR_nat (by omega), inR_nat (by omega)⟩
    rcases List.mem_append.1 hx with hx | hx
    · exact ihq hg.2.2.2.2.1 (r + 1) _ (by omega) (by omega) x hx
    · obtain rfl := List.mem_singleton.1 hx
      exact ⟨inR_0, inR_nat (by omega), inR_nat (by omega)⟩
  | or op p q ho hp hq ihp ihq =>
    intro hg r i hr hi x hx
    rw [two] at hr hi
    have hl := (form_cm hp r i).1
    have hm := (form_cm hq (r + 1) (i + (cmpC p r i).length + 1)).1
    rw [cmp_or ho] at hx
    unfold joinC at hx
    rcases List.mem_append.1 hx with hx | hx
    · exact ihp hg.2.2.2.1 r i (by omega) (by omega) x hx
    rcases List.mem_cons.1 hx with rfl | hx
    · exact ⟨inR_0, inR_nat (by omega), inR_nat (by omega)⟩
    rcases List.mem_append.1 hx with hx | hx
    · exact ihq hg.2.2.2.2.1 (r + 1) _ (by omega) (by omega) x hx
    · obtain rfl := List.mem_singleton.1 hx
      exact ⟨inR_0, inR_nat (by omega), inR_nat (by omega)⟩
end Go.Proofs.Ytafhgilikcablaa
