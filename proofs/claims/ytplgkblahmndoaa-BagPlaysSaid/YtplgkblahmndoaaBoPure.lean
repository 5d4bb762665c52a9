/- Sums over rows that are added, in whatever order; a map of such sums. Plain mathematics. -/
import Derived.Test.YtplgkblahmndoaaBase
import Derived.Maps.OwnSet
import Derived.Maps.Ext
namespace Go.Proofs.Ytplgkblahmndoaa
open Go.RowKit Go.Maps
set_option linter.unusedVariables false

/-- a sum -/
def su (g : Nat → Int) : Nat → Int
  | 0 => 0
  | n + 1 => su g n + g n
theorem su_add (g : Nat → Int) (a : Nat) : ∀ b, su g (a + b) = su g a + su (fun i => g (a + i)) b
  | 0 => by simp [su]
  | b + 1 => by
    show su g (a + b) + g (a + b) = _
    rw [su_add g a b]
    simp only [su]
    omega
theorem su_ext {g h : Nat → Int} : ∀ {n : Nat}, (∀ i, i < n → g i = h i) → su g n = su h n
  | 0, _ => rfl
  | n + 1, e => by
    simp only [su]
    rw [su_ext (fun i hi => e i (by omega)), e n (by omega)]
/-- turned round it is the same -/
theorem su_turn (g : Nat → Int) (n t : Nat) (hn : 0 < n) : su (fun i => g ((i + t) % n)) n = su g n := by
  obtain ⟨r, hr⟩ : ∃ r, r = t % n := ⟨_, rfl⟩
  have hrn : r < n := by rw [hr]; exact Nat.mod_lt _ hn
  have e : ∀ i, i < n → (i + t) % n = if i < n - r then i + r else i - (n - r) := fun i hi => by
    have h1 : (i + t) % n = (i + r) % n := by rw [hr, Nat.add_mod_mod]
    rw [h1]
    split
    · exact Nat.mod_eq_of_lt (by omega)
    · have : i + r = (i - (n - r)) + n := by omega
      rw [this, Nat.add_mod_right]
      exact Nat.mod_eq_of_lt (by omega)
  have h1 : su (fun i => g ((i + t) % n)) n = su (fun i => g (if i < n - r then i + r else i - (n - r))) n := su_ext (fun i hi => by show g _ = g _; rw [e i hi])
  rw [h1]
  have h2 := su_add (fun i => g (if i < n - r then i + r else i - (n - r))) (n - r) r
  rw [show n - r + r = n by omega] at h2
  rw [h2]
  have h3 := su_add g r (n - r)
  rw [show r + (n - r) = n by omega] at h3
  rw [h3]
  have h4 : su (fun i => g (if i < n - r then i + r else i - (n - r))) (n - r) = su (fun i => g (r + i)) (n - r) := su_ext (fun i hi => by show g _ = g _; rw [if_pos hi, Nat.add_comm])
  have h5 : su (fun i => (fun i => g (if i < n - r then i + r else i - (n - r))) (n - r + i)) r = su g r := su_ext (fun i hi => by show g _ = g _; rw [if_neg (by omega)]; congr 1; omega)
  rw [h4, h5]
  omega
theorem su_bound {g : Nat → Int} {B : Int} (hg : ∀ i, -B ≤ g i ∧ g i ≤ B) : ∀ n : Nat, -(B * n) ≤ su g n ∧ su g n ≤ B * n
  | 0 => by simp [su]
  | n + 1 => by
    have h1 := su_bound hg n
    have h2 := hg n
    have e : B * ((n + 1 : Nat) : Int) = B * n + B := by
      rw [Int.natCast_add, Int.mul_add]; simp
    rw [e]
    simp only [su]
    omega

/-- how a row's entry reads: so many times -/
def entN : Value → Option (DataW Unit × List MemPlace)
  | .agg cs => match cs.toList with
    | [.slice _ _ _, .int .i64 n] => some (.lit (.int .i64 n), [])
    | _ => none
  | _ => none
theorem entN_mk (a : Option Addr) (l c : Nat) (n : Int) : entN (.agg #[.slice a l c, .int .i64 n]) = some (.lit (.int .i64 n), []) := rfl
theorem entN_inv {v : Value} {z : DataW Unit × List MemPlace} (h : entN v = some z) : ∃ a l c n, v = .agg #[.slice a l c, .int .i64 n] ∧ z = (.lit (.int .i64 n), []) := by
  unfold entN at h
  split at h
  · rename_i cs
    split at h
    · rename_i a l c n e
      refine ⟨a, l, c, n, ?_, (Option.some.inj h).symm⟩
      obtain ⟨q⟩ := cs
      simp only at e
      rw [e]
    · cases h
  · cases h
/-- zero times -/
def z0 : DataW Unit := .lit (.int .i64 0)
/-- a map holds these sums, none of them nought -/
structure Bal (D : DataW Unit) (s : Lit → Int) : Prop where
  is : IsMap D
  on : ∀ k, has D k = true ↔ s k ≠ 0
  val : ∀ k, D.atKey k z0 = .lit (.int .i64 (s k))
theorem bal_empty : Bal (.map []) (fun _ => 0) := ⟨isMap_empty, fun k => by simp [has_eq], fun k => rfl⟩
open Classical in
theorem Bal.put {D : DataW Unit} {s : Lit → Int} (h : Bal D s) {k : Lit} (hk : WideAt.IsKeyLit k) {n : Int} (hn : n ≠ 0) : Bal (D.put k (.lit (.int .i64 n))) (fun x => if x = k then n else s x) := by
  refine ⟨h.is.put k _, fun x => ?_, fun x => ?_⟩
  · by_cases e : x = k
    · subst e
      simp [has_put_same h.is hk, hn]
    · simp only [if_neg e]
      rw [has_put_other e]; exact h.on x
  · by_cases e : x = k
    · subst e
      simp only [if_pos rfl]
      exact atKey_put_same h.is hk _ _
    · simp only [if_neg e]
      rw [atKey_put_other e]; exact h.val x
open Classical in
theorem Bal.del {D : DataW Unit} {s : Lit → Int} (h : Bal D s) (k : Lit) : Bal (D.del k) (fun x => if x = k then 0 else s x) := by
  refine ⟨h.is.del k, fun x => ?_, fun x => ?_⟩
  · by_cases e : x = k
    · subst e
      simp [has_del_same]
    · simp only [if_neg e]
      rw [has_del_other e]; exact h.on x
  · by_cases e : x = k
    · subst e
      simp only [if_pos rfl]
      exact atKey_del_same _
    · simp only [if_neg e]
      rw [atKey_del_other e]; exact h.val x
theorem Bal.ext {D : DataW Unit} {s t : Lit → Int} (h : Bal D s) (e : ∀ k, s k = t k) : Bal D t := by
  have : s = t := funext e
  rw [← this]; exact h
theorem at_any {D : DataW Unit} {k : Lit} (h : has D k = true) (z z' : DataW Unit) : D.atKey k z = D.atKey k z' := by
  by_cases e : ∀ y, D.atKey k y = y
  · rw [has_false_of_atKey e] at h; cases h
  · cases D with
    | map es =>
      simp only [DataW.atKey]
      cases hf : es.find? (fun p => p.1.sameKey k) with
      | some p => rfl
      | none =>
        rw [has_eq, List.any_eq_true] at h
        obtain ⟨p, hp, hpk⟩ := h
        have := List.find?_eq_none.1 hf p hp
        exact absurd hpk this
    | _ => simp [has] at h
/-- two maps of the same sums are one -/
theorem Bal.one {D E : DataW Unit} {s : Lit → Int} (h : Bal D s) (k : Bal E s) (cD : Canon D) (cE : Canon E) : D = E := by
  refine Go.Maps.ext cD cE (fun x => ?_) (fun x z hx => ?_)
  · rw [Bool.eq_iff_iff, h.on x, k.on x]
  · rw [at_any hx z z0, at_any ((k.on x).2 ((h.on x).1 hx)) z z0, h.val x, k.val x]
end Go.Proofs.Ytplgkblahmndoaa
