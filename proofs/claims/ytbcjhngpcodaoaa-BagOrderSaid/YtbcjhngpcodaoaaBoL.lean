/- BagOrder: the law's walk. -/
import Derived.Test.YtbcjhngpcodaoaaBoEq
import Derived.Test.YtbcjhngpcodaoaaBoEs
import Derived.Deep.DeepCutAuto
namespace Go.Proofs.Ytbcjhngpcodaoaa
open Go.RowKit Go.WideMaps Go.Maps
set_option linter.unusedVariables false
set_option maxRecDepth 100000

open Classical in
/-- what the i-th entry adds to a row -/
noncomputable def gE (f : Nat → EntD) (x : Lit) (i : Nat) : Int := if keyL (f i).rv = some x then wrap32 (f i).n else 0
theorem w32_in (n : Int) : -2147483648 ≤ wrap32 n ∧ wrap32 n ≤ 2147483647 := by unfold wrap32; omega
theorem gE_in (f : Nat → EntD) (x : Lit) (i : Nat) : -2147483648 ≤ gE f x i ∧ gE f x i ≤ 2147483648 := by
  unfold gE
  have := w32_in (f i).n
  split <;> omega
open Classical in
theorem addS_su (f : Nat → EntD) (h : Nat → Nat) (k : Nat) (x : Lit) : addS (fun x => su (fun i => gE f x (h i)) k) (keyL (f (h k)).rv) (wrap32 (f (h k)).n) x = su (fun i => gE f x (h i)) (k + 1) := by
  unfold addS
  cases e : keyL (f (h k)).rv with
  | none => simp [su, gE, e]
  | some kl =>
    simp only [su, updS, gE, e]
    by_cases hx : x = kl
    · subst hx
      simp
    · have : ¬ (some kl = some x) := fun e => hx (Option.some.inj e).symm
      simp [hx, this]
/-- two bags that share no block -/
def TwoB (w : World) (D E B n : Nat) (s t : Lit → Int) : Prop := ∃ mo me Dm De, BagSt w D B n mo Dm s ∧ BagSt w E B n me De t ∧ D ≠ E ∧ ∀ M, mo = some M → me ≠ some M
theorem TwoB.swap {w : World} {D E B n : Nat} {s t : Lit → Int} (h : TwoB w D E B n s t) : TwoB w E D B n t s := by
  obtain ⟨mo, me, Dm, De, a, b, c, d⟩ := h
  exact ⟨me, mo, De, Dm, b, a, Ne.symm c, fun M h1 h2 => d M h2 h1⟩
theorem BagSt.ext {w : World} {D B n : Nat} {mo : Option Nat} {Dm : DataW Unit} {s t : Lit → Int} (h : BagSt w D B n mo Dm s) (e : ∀ x, s x = t x) : BagSt w D B n mo Dm t := ⟨h.box, h.lt, h.le, h.bal.ext e, h.mp⟩
theorem TwoB.ext {w : World} {D E B n : Nat} {s s' t t' : Lit → Int} (h : TwoB w D E B n s t) (e : ∀ x, s x = s' x) (e' : ∀ x, t x = t' x) : TwoB w D E B n s' t' := by
  obtain ⟨mo, me, Dm, De, a, b, c, d⟩ := h
  exact ⟨mo, me, Dm, De, a.ext e, b.ext e', c, d⟩
theorem TwoB.mono {w : World} {D E B n m : Nat} {s t : Lit → Int} (h : TwoB w D E B n s t) (hm : n ≤ m) : TwoB w D E B m s t := by
  obtain ⟨mo, me, Dm, De, a, b, c, d⟩ := h
  exact ⟨mo, me, Dm, De, a.mono hm, b.mono hm, c, d⟩
theorem TwoB.below {w w' : World} {D E B n : Nat} {s t : Lit → Int} (h : TwoB w D E B n s t) (hb : Below w.heap.size w w') : TwoB w' D E B n s t := by
  obtain ⟨mo, me, Dm, De, a, b, c, d⟩ := h
  exact ⟨mo, me, Dm, De, a.below hb, b.below hb, c, d⟩
/-- one of them takes a row -/
theorem two_add (W0 w : World) (D E B n : Nat) (s t : Lit → Int) (ra : Option Addr) (rl rc : Nat) (rv : List Val) (x : Int) (h : TwoB w D E B n s t) (hx : -1000000000000 ≤ x ∧ x ≤ 1000000000000) (hs : ∀ k, -1000000000000 ≤ s k ∧ s k ≤ 1000000000000)
    (hv : IsV W0 ra rl rv) (hr : ∀ v ∈ rv, -9223372036854775808 ≤ v.2.1 ∧ v.2.1 ≤ 9223372036854775807) (hb : Below W0.heap.size W0 w) (hD : W0.heap.size ≤ D) (hn : ra = none → rl = 0 ∧ rc = 0) (hl : rl ≤ 1000) (hnn : n ≤ 1000000) :
    Calls Try.prog 33 #[.pointer (some ⟨D, 0, none⟩), .slice ra rl rc, .int .i64 x] w fun e w' => (∃ c : Int, e = .returned (.int .i64 c)) ∧ TwoB w' D E B (n + 1) (addS s (keyL rv) x) t ∧ Below W0.heap.size W0 w' ∧ ∀ i cs T q, w.heap[i]? = some (.cells cs T q) → i ≠ D → w'.heap[i]? = some (.cells cs T q) := by
  obtain ⟨mo, me, Dm, De, a, b, c, d⟩ := h
  refine (badd_any W0 w D B n mo Dm s ra rl rc rv x a hx hs hv hr hb hD hn hl hnn).mono ?_
  rintro e w' ⟨hc, mo', Dm', h1, h2, h3⟩
  have hDm : ∀ M, mo = some M → w.ownsMap Try.prog 9 entN M n Dm := fun M hM => by
    rcases a.mp with ⟨e0, _⟩ | ⟨M', e0, _, ho⟩
    · rw [hM] at e0; cases e0
    · rw [hM] at e0; cases e0; exact ho
  have hEm : ∀ M, me = some M → w.ownsMap Try.prog 9 entN M n De := fun M hM => by
    rcases b.mp with ⟨e0, _⟩ | ⟨M', e0, _, ho⟩
    · rw [hM] at e0; cases e0
    · rw [hM] at e0; cases e0; exact ho
  refine ⟨hc, ⟨mo', me, Dm', De, h1, (b.only h2 (fun hS => ?_) (fun M hM hS => ?_)).mono (Nat.le_succ n), c, fun M hM hE => ?_⟩, hb.trans (a.lift h2 hD (Nat.le_trans hD (Nat.le_of_lt a.lt)) hb.size), fun i cs T q hi hne => (h2.block i (Array.getElem?_eq_some_iff.1 hi).1 (fun hS => ?_)).trans hi⟩
  · rcases hS with e | e
    · exact c e.symm
    · exact ownsMap_cells (hDm E e) b.box
  · rcases hS with e | e
    · subst e
      exact ownsMap_cells (hEm M hM) a.box
    · exact d M e hM
  · rcases h3 with h3 | ⟨K, hK, hle⟩
    · exact d M (by rw [← h3, hM]) hE
    · rw [hM] at hK
      cases hK
      have := (hEm M hE).lt
      omega
  · rcases hS with e | e
    · exact hne e
    · exact ownsMap_cells (hDm i e) hi
theorem al1 (w : World) (a b : Obj) : ((w.alloc a).alloc b).heap[w.heap.size]? = some a := ((bel0 b (Below.refl (w.alloc a).heap.size (w.alloc a))).block w.heap.size (by simp)).trans (Go.heap_alloc_new w a)
theorem al2 (w : World) (a b : Obj) : ((w.alloc a).alloc b).heap[w.heap.size + 1]? = some b := by
  have := Go.heap_alloc_new (w.alloc a) b
  simpa using this
/-- two entries that were taken out -/
def Taken (wr : World) (D E : Nat) (X Y : EntD) (v8 v9 : Value) (wx : World) : Prop := ∃ g1 g2, v8 = .pointer (some ⟨g1, 0, none⟩) ∧ v9 = .pointer (some ⟨g2, 0, none⟩) ∧ wx.heap[g1]? = some (.cells #[.slice X.ra X.rl X.rc, .int .i64 X.n] 70 (0, 0)) ∧
  wx.heap[g2]? = some (.cells #[.slice Y.ra Y.rl Y.rc, .int .i64 Y.n] 70 (0, 0)) ∧ Below wr.heap.size wr wx ∧ g1 ≠ D ∧ g2 ≠ D ∧ g1 ≠ E ∧ g2 ≠ E
theorem two_new (w : World) : TwoB ((w.alloc (.cells #[.map none] 157)).alloc (.cells #[.map none] 157)) w.heap.size (w.heap.size + 1) (w.heap.size + 2) 0 (fun _ => 0) (fun _ => 0) := by
  obtain ⟨o, ho⟩ : ∃ o, o = Obj.cells #[.map none] 157 (0, 0) := ⟨_, rfl⟩
  have hz : (w.alloc o).heap.size = w.heap.size + 1 := by simp
  have b1 : ((w.alloc o).alloc o).heap[w.heap.size]? = some o := ((bel0 o (Below.refl (w.alloc o).heap.size (w.alloc o))).block w.heap.size (by omega)).trans (Go.heap_alloc_new w o)
  have b2 : ((w.alloc o).alloc o).heap[w.heap.size + 1]? = some o := by rw [← hz]; exact Go.heap_alloc_new (w.alloc o) o
  rw [← ho]
  exact ⟨none, none, _, _, ⟨by rw [b1, ho], by omega, by simp, bal_empty, .inl ⟨rfl, rfl⟩⟩, ⟨by rw [b2, ho], by omega, by simp, bal_empty, .inl ⟨rfl, rfl⟩⟩, by omega, fun M h => (by cases h)⟩

set_option maxHeartbeats 6400000 in
theorem bagOrder_walk (la : Option Addr) (ln lc : Nat) (f : Nat → EntD) (t : Nat) (w : World) (hL : IsEs w la ln f) (ht : t ≤ 255) :
    Calls Try.prog 7 #[.slice la ln lc, .int .u8 (t : Int)] w fun e w' => e = .returned (.bool true) ∧ Below w.heap.size w w' := by
  have hm := hL.1
  have HL := Lib.hid hL
  have ht2 : (t : Int) ≤ 255 := by omega
  have ht0 : (0 : Int) ≤ (t : Int) := by omega
  clear hL ht
  go_enter Try.func7, Try.ntmps7
  go_wp2_with fail
  refine (bawake_any _).mono ?_
  rintro e w1 ⟨rfl, hb1⟩
  have HB1 := Lib.hid hb1
  clear hb1
  go_wp2_with fail
  refine (bfew_any la ln lc f _ (HL.out.below HB1.out)).mono ?_
  rintro e w2 ⟨rfl, hw⟩
  subst hw
  cases hfew : fewE f ln with
  | false =>
    clear hfew
    go_wp2_with fail
    refine (bawake_any _).mono ?_
    rintro e w2 ⟨rfl, hb2⟩
    have HB2 := Lib.hid (bt HB1.out hb2)
    clear hb2
    go_wp2
    go_ret
    exact ⟨rfl, HB2.out⟩
  | true =>
    have HFw := Lib.hid (fewE_iff.1 hfew)
    clear hfew
    go_wp2_with fail
    refine (bnew _).mono ?_
    rintro e wa ⟨rfl, ha⟩
    have HA := Lib.hid ha
    clear ha
    go_wp2_with fail
    refine (bnew _).mono ?_
    rintro e wb ⟨rfl, hb⟩
    have hs : wa.heap.size = w2.heap.size + 1 := by rw [HA.out]; simp
    obtain ⟨D, hD⟩ : ∃ D, D = w2.heap.size := ⟨_, rfl⟩
    obtain ⟨E, hE⟩ : ∃ E, E = wa.heap.size := ⟨_, rfl⟩
    have HPair := Lib.hid (show TwoB wb D E (w2.heap.size + 2) 0 (fun _ => 0) (fun _ => 0) by rw [hD, hE, hs, hb, HA.out]; exact two_new w2)
    have HDE := Lib.hid (show w.heap.size ≤ D ∧ w.heap.size ≤ E by have := HB1.out.size; omega)
    have HBb := Lib.hid (show Below w.heap.size w wb by rw [hb, HA.out]; exact bt HB1.out (bel0 _ (bel0 _ (Below.refl _ _))))
    generalize w2.heap.size + 2 = B at *
    rw [← hD, ← hE]
    clear HA hb hs hD hE
    go_wp2_with fail
    go_loopw [22] (fun i wr => ∃ k : Nat, k ≤ ln ∧ i = .int .i64 (k : Int) ∧ Hid (TwoB wr D E B (2 * k) (fun x => su (fun i => gE f x i) k) (fun x => su (fun i => gE f x ((i + t) % ln)) k) ∧ Below w.heap.size w wr)) (fun i _ => ln - (intOf i).toNat)
    case atStart => exact ⟨0, by omega, rfl, Lib.hid ⟨HPair.out.ext (fun x => rfl) (fun x => rfl), HBb.out⟩⟩
    case round =>
      obtain ⟨k, hk, rfl, HR⟩ := hrel
      have hk0 : (0 : Int) ≤ (k : Int) := by omega
      by_cases hlt : k < ln
      · have hki : (k : Int) < (ln : Int) := by omega
        rcases HL.out.2 with h0 | ⟨lb, lo, rfl, hlb, hes⟩
        · omega
        have hk2 := (HFw.out k hlt).1
        obtain ⟨j, hj⟩ : ∃ j, j = (k + t) % ln := ⟨_, rfl⟩
        have hjl : j < ln := by rw [hj]; exact Nat.mod_lt _ (by omega)
        have hx := hes k hlt
        have hy := hes j hjl
        have e0 : IntKind.i64.wrap (t : Int) = (t : Int) := by rw [IntKind.wrap_i64]; omega
        have e1 : IntKind.i64.wrap ((k : Int) + (t : Int)) = (k : Int) + (t : Int) := by rw [IntKind.wrap_i64]; omega
        have e2 : ((k : Int) + (t : Int)).tmod (ln : Int) = (j : Int) := by rw [hj, Int.natCast_emod, Int.natCast_add]; exact Int.tmod_eq_emod_of_nonneg (by omega)
        have e3 : IntKind.i64.wrap (j : Int) = (j : Int) := by rw [IntKind.wrap_i64]; omega
        have hji : (j : Int) < (ln : Int) := by omega
        have hlp : (0 : Int) < (ln : Int) := by omega
        have hln1 : ((ln : Int) == 0) = false := beq_eq_false_iff_ne.2 (by omega)
        have hln2 : ¬ ((ln : Int) = 0) := by omega
        have hln3 : ¬ (ln = 0) := by omega
        have hj0 : (0 : Int) ≤ (j : Int) := by omega
        have HS := Lib.hid (show ∀ W, Below w.heap.size w W → EsAt W lb (lo + k * 2) (f k) ∧ EsAt W lb (lo + j * 2) (f j) from fun W hW => ⟨hx.below hW, hy.below hW⟩)
        have HX := Lib.hid hx
        have HY := Lib.hid hy
        have HJ := Lib.hid hj
        have HK := Lib.hid hlt
        have hwx := (HS.out wr HR.out.2).1
        have hwy := (HS.out wr HR.out.2).2
        have p0 := hwx.c0
        have p1 := hwx.c1
        have q0 := hwy.c0
        have q1 := hwy.c1
        have hlb2 : lb < wr.heap.size := Nat.lt_of_lt_of_le hlb HR.out.2.size
        clear hwx hwy hx hy hj hes hlt hk hlb hk2
        generalize hfx : f k = X at *
        generalize hfy : f j = Y at *
        have HFX := Lib.hid hfx
        have HFY := Lib.hid hfy
        clear hfx hfy
        go_upto_region 7 with (fail)
        have HDl := Lib.hid (show D < wr.heap.size ∧ E < wr.heap.size from by
          obtain ⟨_, _, _, _, a, b, _, _⟩ := HR.out.1
          exact ⟨(Array.getElem?_eq_some_iff.1 a.box).1, (Array.getElem?_eq_some_iff.1 b.box).1⟩)
        go_cut [8, 9] (fun v8 v9 wx => Hid (Taken wr D E X Y v8 v9 wx))
        case first =>
          refine wp_region_noPanic ?_
          go_region_held3 (fun W => W.cell? ⟨lb, lo + k * 2, none⟩ = some (.slice X.ra X.rl X.rc) ∧ W.cell? ⟨lb, lo + k * 2 + 1, none⟩ = some (.int .i64 X.n) ∧ W.cell? ⟨lb, lo + j * 2, none⟩ = some (.slice Y.ra Y.rl Y.rc) ∧ W.cell? ⟨lb, lo + j * 2 + 1, none⟩ = some (.int .i64 Y.n))
            (first | exact ⟨p0, p1, q0, q1⟩ | (refine ⟨?_, ?_, ?_, ?_⟩ <;> simp [go_sem, *]))
            (fail)
          all_goals refine NoPanic.normal ?_
          all_goals go_wp2_with fail
          all_goals go_meet
          · exact Lib.hid ⟨_, _, rfl, rfl, by first | exact al1 wr _ _ | exact al2 wr _ _, by first | exact al1 wr _ _ | exact al2 wr _ _, Below.drew (bel0 _ (bel0 _ (Below.refl _ _))), by have := HDl.out; omega, by have := HDl.out; omega, by have := HDl.out; omega, by have := HDl.out; omega⟩
          · exact Lib.hid ⟨_, _, rfl, rfl, by first | exact al1 wr _ _ | exact al2 wr _ _, by first | exact al1 wr _ _ | exact al2 wr _ _, Below.drew (bel0 _ (bel0 _ (Below.refl _ _))), by have := HDl.out; omega, by have := HDl.out; omega, by have := HDl.out; omega, by have := HDl.out; omega⟩
        case rest =>
          obtain ⟨g1, g2, rfl, rfl, b1, b2, hbx, n1, n2, n3, n4⟩ := hcut.out
          have HT := Lib.hid (HR.out.1.below hbx)
          have HBx := Lib.hid (bt HR.out.2 hbx)
          have HB2 := Lib.hid (And.intro b2 (And.intro n2 n4))
          have c0 := cell_of_row wc g1 0 _ _ _ b1
          have c1 := cell_of_row wc g1 1 _ _ _ b1
          have wx := w32_in X.n
          have wy := w32_in Y.n
          have cvx : wrap64 (wrap32 X.n) = wrap32 X.n := by unfold wrap64; omega
          have cvy : wrap64 (wrap32 Y.n) = wrap32 Y.n := by unfold wrap64; omega
          have HWx := Lib.hid (And.intro wx wy)
          have HKk := Lib.hid (show k < 200 by
            have := HFw.out k HK.out
            omega)
          clear hcut b1 b2 hbx n1 n2 n3 n4 p0 p1 q0 q1 wx wy e0 e1 e2 e3
          have HBs := Lib.hid (show ∀ x, (-1000000000000 ≤ su (fun i => gE f x i) k ∧ su (fun i => gE f x i) k ≤ 1000000000000) ∧ (-1000000000000 ≤ su (fun i => gE f x ((i + t) % ln)) k ∧ su (fun i => gE f x ((i + t) % ln)) k ≤ 1000000000000) from fun x => by
            have h1 := su_bound (g := fun i => gE f x i) (B := 2147483648) (fun i => gE_in f x i) k
            have h2 := su_bound (g := fun i => gE f x ((i + t) % ln)) (B := 2147483648) (fun i => gE_in f x _) k
            have := HKk.out
            omega)
          go_wp2_with fail
          refine (two_add w _ D E B (2 * k) _ _ X.ra X.rl X.rc X.rv (wrap32 X.n) (by exact HT.out) (by have := HWx.out; omega) (fun x => (HBs.out x).1) HX.out.row HX.out.rg (by exact HBx.out) HDE.out.1 HX.out.nil (by have := HFw.out k HK.out; rw [HFX.out] at this; omega) (by have := HKk.out; omega)).mono ?_
          rintro e w3 ⟨⟨c3, rfl⟩, ht3, hb3, hk3⟩
          have HT3 := Lib.hid ht3
          have HB3 := Lib.hid hb3
          have b3 := hk3 g2 _ _ _ HB2.out.1 HB2.out.2.1
          have d0 := cell_of_row w3 g2 0 _ _ _ b3
          have d1 := cell_of_row w3 g2 1 _ _ _ b3
          clear ht3 hb3 hk3 b3 c0 c1
          go_wp2_with fail
          refine (two_add w _ E D B (2 * k + 1) _ _ Y.ra Y.rl Y.rc Y.rv (wrap32 Y.n) (by exact HT3.out.swap.mono (Nat.le_refl _)) (by have := HWx.out; omega) (fun x => (HBs.out x).2) HY.out.row HY.out.rg (by exact HB3.out) HDE.out.2 HY.out.nil (by have := HFw.out j (by have := HJ.out; have := HK.out; have := Nat.mod_lt (k + t) (show ln > 0 by omega); omega); rw [HFY.out] at this; omega) (by have := HKk.out; omega)).mono ?_
          rintro e w4 ⟨⟨c4, rfl⟩, ht4, hb4, _⟩
          have HR4 := Lib.hid (show TwoB w4 D E B (2 * (k + 1)) (fun x => su (fun i => gE f x i) (k + 1)) (fun x => su (fun i => gE f x ((i + t) % ln)) (k + 1)) ∧ Below w.heap.size w w4 from ⟨ht4.swap.ext (fun x => by rw [← HFX.out]; exact addS_su f (fun i => i) k x) (fun x => by rw [← HFY.out, HJ.out]; exact addS_su f (fun i => (i + t) % ln) k x), hb4⟩)
          clear ht4 hb4 d0 d1
          go_wp2
          go_roundw
          case rel => exact ⟨k + 1, HK.out, by go_num, HR4⟩
          case measure => have := HK.out; simp [intOf]; omega
      · have hkk : (ln : Int) ≤ (k : Int) := by omega
        have HT := Lib.hid (show ∃ (mo me : Option Nat) (Dm : DataW Unit) (s : Lit → Int) (n : Nat), BagSt wr D B n mo Dm s ∧ BagSt wr E B n me Dm s from by
          obtain ⟨mo, me, Dm, De, a, b, _, _⟩ := HR.out.1
          have e : k = ln := by omega
          subst e
          have b' : BagSt wr E B (2 * k) me De (fun x => su (fun i => gE f x i) k) := b.ext (fun x => by
            by_cases h0 : k = 0
            · subst h0; rfl
            · exact su_turn (gE f x) k t (by omega))
          have : Dm = De := a.bal.one b'.bal a.canon b'.canon
          subst this
          exact ⟨mo, me, Dm, _, _, a, b'⟩)
        have HBr := Lib.hid HR.out.2
        obtain ⟨mo, me, Dm, s, n, a, b⟩ := HT.out
        have HD := Lib.hid a
        have HE := Lib.hid b
        clear a b HT HR HL HFw hlt
        go_wp2_with fail
        refine (bsame_any _ D E B n n mo me Dm s HD.out HE.out).mono ?_
        rintro e w3 ⟨rfl, hb3⟩
        have HD3 := Lib.hid (HD.out.below hb3)
        have HE3 := Lib.hid (HE.out.below hb3)
        have HB3 := Lib.hid (bt HBr.out hb3)
        clear hb3
        go_wp2_with fail
        refine (blen_any _ D B n mo Dm s HD3.out).mono ?_
        rintro e w4 ⟨rfl, hw⟩
        subst hw
        go_wp2_with fail
        refine (blen_any _ E B n me Dm s HE3.out).mono ?_
        rintro e w4 ⟨rfl, hw⟩
        subst hw
        go_wp2
        go_ret
        exact ⟨rfl, HB3.out⟩
end Go.Proofs.Ytbcjhngpcodaoaa
