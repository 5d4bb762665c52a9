/- A bag: its block and its map; contracts of Clone, plus, set. -/
import Derived.Test.YtplgkblahmndoaaBoPure
import Derived.Test.YtplgkblahmndoaaBoAwk
import Derived.Test.YtplgkblahmndoaaDkFile
import Derived.Maps.RangeWalk
namespace Go.Proofs.Ytplgkblahmndoaa
open Go.RowKit Go.WideMaps Go.Maps
set_option linter.unusedVariables false
set_option maxRecDepth 100000

/-- all cells of a row of values -/
def flatX (vs : List Val) : List Value := vs.flatMap valsX
theorem flatX_length (vs : List Val) : (flatX vs).length = vs.length * 3 := by
  unfold flatX
  induction vs with
  | nil => rfl
  | cons v r ih => rw [List.flatMap_cons, List.length_append, ih]; simp [valsX]; omega
theorem flatX_at : ∀ (vs : List Val) (j : Nat) (u : Value), (flatX vs)[j]? = some u → j / 3 < vs.length ∧ (valsX (vs.getD (j / 3) noV))[j % 3]? = some u
  | [], j, u, h => by simp [flatX] at h
  | v :: r, j, u, h => by
    unfold flatX at h
    rw [List.flatMap_cons] at h
    by_cases hj : j < 3
    · rw [List.getElem?_append_left (by simp [valsX]; omega)] at h
      have e1 : j / 3 = 0 := by omega
      have e2 : j % 3 = j := by omega
      rw [e1, e2]
      exact ⟨by simp, h⟩
    · rw [List.getElem?_append_right (by simp [valsX]; omega)] at h
      have hl : (valsX v).length = 3 := rfl
      rw [hl] at h
      obtain ⟨h1, h2⟩ := flatX_at r (j - 3) u h
      have e1 : j / 3 = (j - 3) / 3 + 1 := by omega
      have e2 : j % 3 = (j - 3) % 3 := by omega
      rw [e1, e2]
      exact ⟨by simp; omega, by simpa using h2⟩
theorem flatX_cells {w : World} {b off len : Nat} {vs : List Val} (h : IsV w (some ⟨b, off, none⟩) len vs) : ∀ j u, (flatX vs)[j]? = some u → w.cell? ((⟨b, off, none⟩ : Addr).add j) = some u := fun j u hu => by
  obtain ⟨h1, h2⟩ := flatX_at vs j u hu
  obtain ⟨hl, _, h3⟩ := h
  rcases h3 with h3 | ⟨b', off', he, _, hc⟩
  · omega
  · cases he
    obtain ⟨c0, c1, c2⟩ := hc (j / 3) (by omega)
    rw [Addr.add_lit]
    have hm : j % 3 = 0 ∨ j % 3 = 1 ∨ j % 3 = 2 := by omega
    rcases hm with e | e | e
    · rw [e] at h2
      rw [show off + j = off + j / 3 * 3 by omega, c0]
      exact h2
    · rw [e] at h2
      rw [show off + j = off + j / 3 * 3 + 1 by omega, c1]
      exact h2
    · rw [e] at h2
      rw [show off + j = off + j / 3 * 3 + 2 by omega, c2]
      exact h2
theorem flatX_one (vs : List Val) : ∀ u ∈ flatX vs, u.oneCell' = true := fun u hu => by
  unfold flatX at hu
  obtain ⟨v, _, hv⟩ := List.mem_flatMap.1 hu
  simp [valsX] at hv
  rcases hv with rfl | rfl | rfl <;> rfl

/-- a clone is made: memory alone -/
def AnyRow (w : World) (e : Ending) (w' : World) : Prop := ∃ (a : Option Addr) (l c : Nat), e = .returned (.slice a l c) ∧ Below w.heap.size w w'
set_option maxHeartbeats 1600000 in
theorem bclone_any (ra : Option Addr) (rl rc : Nat) (rv : List Val) (w : World) (hv : IsV w ra rl rv) (hn : ra = none → rl = 0 ∧ rc = 0) (hl : rl ≤ 1000) :
    Calls Try.prog 58 #[.slice ra rl rc] w (AnyRow w) := by
  have hnil := fun (W : World) => Lib.run_eql_slice_nil (P := Try.prog) W 23 46 ra rl rc 0 0 Try.underlying23
  cases ra with
  | none =>
    obtain ⟨rfl, rfl⟩ := hn rfl
    go_enter Try.func58, Try.ntmps58
    go_wp2
    go_ret
    exact ⟨none, 0, 0, rfl, Below.refl _ _⟩
  | some ad =>
    obtain ⟨i0, hi, hz0, hz1, hz2⟩ := info_parts info0V
    have hv' : IsV (w.alloc (.cells #[] 46)) (some ad) rl rv := hv.below (bel0 _ (Below.refl _ _))
    have HC := Lib.hid (show ∀ j u, (flatX rv)[j]? = some u → (w.alloc (.cells #[] 46)).cell? (ad.add j) = some u by
      rcases hv'.2.2 with h0 | ⟨b, off, he, _⟩
      · intro j u hu
        have := flatX_length rv
        rw [hv'.1, h0] at this
        rw [List.getElem?_eq_none (by omega)] at hu; cases hu
      · cases he
        exact flatX_cells hv')
    have HL := Lib.hid (show (flatX rv).length = rl * 3 by rw [flatX_length, hv.1])
    clear hv hv' hn
    go_enter Try.func58, Try.ntmps58
    go_wp2_with (at_builtin; refine wpList_append_own _ rfl _ _ 23 rfl w.heap.size 46 i0 (.agg #[.int .i64 0, .int .i64 0, .string ⟨#[]⟩]) 3 32 Try.underlying23 hi hz0 hz1 hz2 rfl (by decide) _ 0 [] rfl ?c0 ad rl rc (flatX rv) rfl HL.out HC.out (flatX_one rv) ?c4 ?c5 ?c6 ?_)
    case c0 => exact World.ownsRow_lit (base := w.heap.size) (e := 46) (size := 3) w #[] 0 (Nat.le_refl _) (by unfold maxLen; omega) rfl
    case c4 => unfold maxLen; omega
    case c5 => omega
    case c6 => simp
    intro v' w1 hown hgrow _
    obtain ⟨a1, l1, c1, rfl⟩ := own_slice hown
    have HB := Lib.hid ((bel0 (.cells #[] 46) (Below.refl w.heap.size w)).grown hgrow (by simp) (fun k hk => by cases hk; exact Nat.le_refl _))
    clear hown hgrow
    go_wp2
    go_ret
    exact ⟨_, _, _, rfl, HB.out⟩

set_option maxHeartbeats 1600000 in
theorem bplus_any (a b : Int) (w : World) (ha : -1000000000000 ≤ a ∧ a ≤ 1000000000000) (hb : -1000000000000 ≤ b ∧ b ≤ 1000000000000) : Calls Try.prog 112 #[.int .i64 a, .int .i64 b] w fun e w' => e = .returned (.tuple #[.int .i64 (a + b), .bool true]) ∧ w' = w := by
  obtain ⟨a0, a1⟩ := ha
  obtain ⟨b0, b1⟩ := hb
  by_cases hp : 0 < b
  · have h2 : a < a + b := by omega
    go_enter Try.func112, Try.ntmps112
    go_wp2
    go_ret2
    exact ⟨rfl, rfl⟩
  · have h2 : a + b ≤ a := by omega
    have hp' : b ≤ 0 := by omega
    clear hp
    go_enter Try.func112, Try.ntmps112
    go_wp2
    go_ret2
    refine ⟨?_, rfl⟩
    show Ending.returned (.tuple #[.int .i64 (a + b), .bool (decide (a < a + b) == decide (0 < b))]) = _
    rw [decide_eq_false (show ¬ a < a + b by omega), decide_eq_false (show ¬ 0 < b by omega)]
    rfl

/-- a bag: its block, its map, how many are in it at most, what it reads as -/
structure BagSt (w : World) (D B n : Nat) (mo : Option Nat) (Dm : DataW Unit) (s : Lit → Int) : Prop where
  box : w.heap[D]? = some (.cells #[.map mo] 111 (0, 0))
  lt : D < B
  le : B ≤ w.heap.size
  bal : Bal Dm s
  mp : (mo = none ∧ Dm = .map []) ∨ ∃ M, mo = some M ∧ B ≤ M ∧ w.ownsMap Try.prog 9 entN M n Dm
/-- the blocks that are a bag's -/
def bagS (D : Nat) (mo : Option Nat) (i : Nat) : Prop := i = D ∨ mo = some i
open Classical in
noncomputable def updS (s : Lit → Int) (k : Lit) (v : Int) : Lit → Int := fun x => if x = k then v else s x
theorem ownsMap_only {S : Nat → Prop} {w w' : World} {k : TypeId} {R : Value → Option (DataW Unit × List MemPlace)} {M n : Nat} {D : DataW Unit} (h : w.ownsMap Try.prog k R M n D) (ho : Only S w w') (hM : ¬ S M) : w'.ownsMap Try.prog k R M n D := by
  have hlt := h.lt
  obtain ⟨es, clk, hb, r⟩ := h
  exact ⟨es, clk, (ho.block M hlt hM).trans hb, r⟩
theorem ownsMap_cells {w : World} {k : TypeId} {R : Value → Option (DataW Unit × List MemPlace)} {M n : Nat} {D : DataW Unit} (h : w.ownsMap Try.prog k R M n D) {cs : Array Value} {T : TypeId} {x : Nat × Nat} (e : w.heap[M]? = some (.cells cs T x)) : False := by
  obtain ⟨es, clk, hb, _⟩ := h
  rw [hb] at e; cases e
theorem BagSt.mono {w : World} {D B n m : Nat} {mo : Option Nat} {Dm : DataW Unit} {s : Lit → Int} (h : BagSt w D B n mo Dm s) (hm : n ≤ m) : BagSt w D B m mo Dm s :=
  ⟨h.box, h.lt, h.le, h.bal, h.mp.imp id (fun ⟨M, e, b, o⟩ => ⟨M, e, b, o.mono hm⟩)⟩
theorem BagSt.only {S : Nat → Prop} {w w' : World} {D B n : Nat} {mo : Option Nat} {Dm : DataW Unit} {s : Lit → Int} (h : BagSt w D B n mo Dm s) (ho : Only S w w') (hD : ¬ S D) (hM : ∀ M, mo = some M → ¬ S M) : BagSt w' D B n mo Dm s :=
  ⟨(ho.block D (Array.getElem?_eq_some_iff.1 h.box).1 hD).trans h.box, h.lt, Nat.le_trans h.le ho.size, h.bal, h.mp.imp id (fun ⟨M, e, b, o⟩ => ⟨M, e, b, ownsMap_only o ho (hM M e)⟩)⟩
theorem only_below {w w' : World} (h : Below w.heap.size w w') : Only (fun _ => False) w w' := ⟨h.os, h.tape, h.output, h.size, fun i hi _ => h.block i hi⟩
theorem BagSt.below {w w' : World} {D B n : Nat} {mo : Option Nat} {Dm : DataW Unit} {s : Lit → Int} (h : BagSt w D B n mo Dm s) (hb : Below w.heap.size w w') : BagSt w' D B n mo Dm s := h.only (only_below hb) id (fun _ _ => id)
theorem BagSt.lift {w w' : World} {D B n : Nat} {mo : Option Nat} {Dm : DataW Unit} {s : Lit → Int} (h : BagSt w D B n mo Dm s) (ho : Only (bagS D mo) w w') {W : Nat} (hW : W ≤ D) (hB : W ≤ B) (hs : W ≤ w.heap.size) : Below W w w' := by
  refine ⟨ho.os, ho.tape, ho.output, ho.size, fun i hi => ho.block i (Nat.lt_of_lt_of_le hi hs) (fun hS => ?_)⟩
  rcases hS with e | e
  · omega
  · rcases h.mp with ⟨e0, _⟩ | ⟨M, e0, b, _⟩
    · rw [e] at e0; cases e0
    · rw [e] at e0; cases e0; omega
theorem BagSt.draw {w : World} {D B n : Nat} {mo : Option Nat} {Dm : DataW Unit} {s : Lit → Int} (h : BagSt w D B n mo Dm s) (k : Nat) : BagSt (w.drewN k) D B n mo Dm s := ⟨h.box, h.lt, h.le, h.bal, h.mp⟩
/-- what is there of a row -/
theorem BagSt.look {w : World} {D B n : Nat} {mo : Option Nat} {Dm : DataW Unit} {s : Lit → Int} (h : BagSt w D B n mo Dm s) (S : ByteArray) (hS : S.size ≤ maxLen) : ∃ a l c, (Instr.lookup 109 (.map mo) (.string S) false).run Try.prog w = .ok (.agg #[.slice a l c, .int .i64 (s (.string S.data.toList))]) w := by
  have hk : keyOf Try.prog 9 (.string S) = some (.string S.data.toList) := keyOf_string_mk Try.underlying9 hS
  rcases h.mp with ⟨rfl, rfl⟩ | ⟨M, rfl, _, ho⟩
  · have := Maps.look_nil (w := w) (P := Try.prog) (key := .string S) false bstrKeyed Try.underlying109 (bzeroEntry w) hk
    have h0 := h.bal.val (.string S.data.toList)
    have h1 : s (.string S.data.toList) = 0 := by
      have e : (DataW.map [] : DataW Unit).atKey (.string S.data.toList) z0 = z0 := rfl
      rw [e] at h0
      simp only [z0] at h0
      injection h0 with h0
      injection h0 with _ h0
      exact h0.symm
    rw [h1]
    exact ⟨_, _, _, this⟩
  · obtain ⟨v, ps, hrun, hv⟩ := ho.lookup bstrKeyed Try.underlying109 (bzeroEntry w) (entN_mk none 0 0 0) hk
    have h0 := h.bal.val (.string S.data.toList)
    simp only [z0] at h0
    rw [h0] at hv
    obtain ⟨a, l, c, n', rfl, e⟩ := entN_inv hv
    cases e
    exact ⟨a, l, c, hrun⟩
theorem map_looks {w : World} {M n : Nat} {Dm : DataW Unit} {s : Lit → Int} (ho : w.ownsMap Try.prog 9 entN M n Dm) (hbal : Bal Dm s) (S : ByteArray) (hS : S.size ≤ maxLen) : ∃ a l c, ∀ n, (Instr.lookup 109 (.map (some M)) (.string S) false).run Try.prog (w.drewN n) = .ok (.agg #[.slice a l c, .int .i64 (s (.string S.data.toList))]) (w.drewN n) := by
  have hk : keyOf Try.prog 9 (.string S) = some (.string S.data.toList) := keyOf_string_mk Try.underlying9 hS
  have h0 := hbal.val (.string S.data.toList)
  simp only [z0] at h0
  obtain ⟨es, clk, hb, F, _, hD⟩ := ho
  have hpw := ((MapKept.stamped_iff es clk).1 F.stamped).2.2
  have H := fun n => Maps.fit_look (w := w.drewN n) (H := Unit) false bstrKeyed Try.underlying109 (bzeroEntry (w.drewN n)) (by exact hb) F hk
  rcases H 0 with ⟨_, hno, hat⟩ | ⟨e0, y, he0, hek, _, hy, hat, _⟩
  · have hv := hat (.lit (.int .i64 0))
    rw [← hD, h0] at hv
    refine ⟨none, 0, 0, fun n => ?_⟩
    rcases H n with ⟨hrun, _, _⟩ | ⟨e1, _, he1, hek1, _⟩
    · injection hv with hv
      injection hv with _ hv
      rw [hv]
      exact hrun
    · exact absurd hek1 (hno e1 he1)
  · have hv := hat (.lit (.int .i64 0))
    rw [← hD, h0] at hv
    obtain ⟨a, l, c, n', hval, e⟩ := entN_inv hy
    refine ⟨a, l, c, fun n => ?_⟩
    rcases H n with ⟨_, hno, _⟩ | ⟨e1, _, he1, hek1, hrun, _⟩
    · exact absurd hek (hno e0 he0)
    · have e2 : e1 = e0 := entry_eq_of_key hpw he1 he0 (hek1.trans hek.symm)
      rw [e2, hval] at hrun
      rw [e] at hv
      injection hv with hv
      injection hv with _ hv
      rw [hv]
      exact hrun
theorem BagSt.looks {w : World} {D B n : Nat} {mo : Option Nat} {Dm : DataW Unit} {s : Lit → Int} (h : BagSt w D B n mo Dm s) (S : ByteArray) (hS : S.size ≤ maxLen) : ∃ a l c, ∀ n, (Instr.lookup 109 (.map mo) (.string S) false).run Try.prog (w.drewN n) = .ok (.agg #[.slice a l c, .int .i64 (s (.string S.data.toList))]) (w.drewN n) := by
  rcases h.mp with ⟨rfl, rfl⟩ | ⟨M, rfl, _, ho⟩
  · have hk : keyOf Try.prog 9 (.string S) = some (.string S.data.toList) := keyOf_string_mk Try.underlying9 hS
    have h0 := h.bal.val (.string S.data.toList)
    have h1 : s (.string S.data.toList) = 0 := by
      have e : (DataW.map [] : DataW Unit).atKey (.string S.data.toList) z0 = z0 := rfl
      rw [e] at h0
      simp only [z0] at h0
      injection h0 with h0
      injection h0 with _ h0
      exact h0.symm
    rw [h1]
    exact ⟨none, 0, 0, fun n => Maps.look_nil (w := w.drewN n) (P := Try.prog) (key := .string S) false bstrKeyed Try.underlying109 (bzeroEntry _) hk⟩
  · exact map_looks ho h.bal S hS
theorem BagSt.lenOf {w : World} {D B n : Nat} {mo : Option Nat} {Dm : DataW Unit} {s : Lit → Int} (h : BagSt w D B n mo Dm s) (ty : TypeId) : (Builtin.len_ #[109] ty #[.map mo]).run Try.prog w = .ok (.int .i64 (Maps.size Dm : Int)) w := by
  rcases h.mp with ⟨rfl, rfl⟩ | ⟨M, rfl, _, ho⟩
  · exact Maps.len_nil Try.underlying109 ty
  · exact ho.len Try.underlying109 ty
theorem BagSt.canon {w : World} {D B n : Nat} {mo : Option Nat} {Dm : DataW Unit} {s : Lit → Int} (h : BagSt w D B n mo Dm s) : Canon Dm := by
  rcases h.mp with ⟨_, rfl⟩ | ⟨M, _, _, ho⟩
  · exact canon_empty
  · exact ho.canon bstrKeyed
set_option maxHeartbeats 800000 in
theorem blen_any (w : World) (D B n : Nat) (mo : Option Nat) (Dm : DataW Unit) (s : Lit → Int) (h : BagSt w D B n mo Dm s) : Calls Try.prog 52 #[.pointer (some ⟨D, 0, none⟩)] w fun e w' => e = .returned (.int .i64 (Maps.size Dm : Int)) ∧ w' = w := by
  have hl := h.lenOf
  have h0 : w.cell? ⟨D, 0, none⟩ = some (.map mo) := cell_of_row w D 0 _ _ _ h.box
  clear h
  go_enter Try.func52, Try.ntmps52
  go_wp2
  go_ret
  exact ⟨rfl, rfl⟩
end Go.Proofs.Ytplgkblahmndoaa
