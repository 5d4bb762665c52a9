/- A bag's Add, its rows with it. -/
import Derived.Test.YtplgkblahmndoaaBrPut
namespace Go.Proofs.Ytplgkblahmndoaa
open Go.RowKit
set_option linter.unusedVariables false
set_option maxRecDepth 100000

/-- a number that an int64 holds -/
def in64 (n : Int) : Prop := -9223372036854775808 ≤ n ∧ n ≤ 9223372036854775807
instance (n : Int) : Decidable (in64 n) := by unfold in64; infer_instance
theorem plus_fits {a b n : Int} (ha : in64 a) (hb : in64 b) (hn : IntKind.i64.wrap (a + b) = n) : (decide (a < n) == decide (0 < b)) = decide (in64 (a + b)) ∧ (in64 (a + b) → n = a + b) := by
  rw [IntKind.wrap_i64] at hn
  unfold in64 at *
  by_cases hf : -9223372036854775808 ≤ a + b ∧ a + b ≤ 9223372036854775807
  · have e : n = a + b := by omega
    refine ⟨?_, fun _ => e⟩
    rw [decide_eq_true hf, e]
    by_cases h0 : 0 < b
    · rw [decide_eq_true h0, decide_eq_true (show a < a + b by omega)]; rfl
    · rw [decide_eq_false h0, decide_eq_false (show ¬ a < a + b by omega)]; rfl
  · refine ⟨?_, fun h => absurd h hf⟩
    rw [decide_eq_false hf]
    by_cases h0 : 0 < b
    · rw [decide_eq_true h0, decide_eq_false (show ¬ a < n by omega)]; rfl
    · rw [decide_eq_false h0, decide_eq_true (show a < n by omega)]; rfl
set_option maxHeartbeats 800000 in
theorem bplus_full (a b : Int) (w : World) (ha : in64 a) (hb : in64 b) : Calls Try.prog 112 #[.int .i64 a, .int .i64 b] w fun e w' => e = .returned (.tuple #[.int .i64 (IntKind.i64.wrap (a + b)), .bool (decide (in64 (a + b)))]) ∧ w' = w := by
  obtain ⟨n, hn⟩ : ∃ n, IntKind.i64.wrap (a + b) = n := ⟨_, rfl⟩
  have HF := Lib.hid (plus_fits ha hb hn).1
  clear ha hb
  rw [← HF.out, hn]
  by_cases h1 : a < n
  · by_cases h2 : 0 < b
    · rw [decide_eq_true h1, decide_eq_true h2]
      go_enter Try.func112, Try.ntmps112
      go_wp2
      go_ret2
      exact ⟨rfl, rfl⟩
    · have h2' : b ≤ 0 := by omega
      rw [decide_eq_true h1, decide_eq_false h2]
      clear h2
      go_enter Try.func112, Try.ntmps112
      go_wp2
      go_ret2
      refine ⟨?_, rfl⟩
      show Ending.returned (.tuple #[.int .i64 n, .bool (decide (0 < b))]) = _
      rw [decide_eq_false (show ¬ 0 < b by omega)]
      rfl
  · have h1' : n ≤ a := by omega
    by_cases h2 : 0 < b
    · rw [decide_eq_false h1, decide_eq_true h2]
      clear h1
      go_enter Try.func112, Try.ntmps112
      go_wp2
      go_ret2
      refine ⟨?_, rfl⟩
      show Ending.returned (.tuple #[.int .i64 n, .bool (decide (a < n))]) = _
      rw [decide_eq_false (show ¬ a < n by omega)]
      rfl
    · have h2' : b ≤ 0 := by omega
      rw [decide_eq_false h1, decide_eq_false h2]
      clear h1 h2
      go_enter Try.func112, Try.ntmps112
      go_wp2
      go_ret2
      refine ⟨?_, rfl⟩
      show Ending.returned (.tuple #[.int .i64 n, .bool (decide (a < n) == decide (0 < b))]) = _
      rw [decide_eq_false (show ¬ a < n by omega), decide_eq_false (show ¬ 0 < b by omega)]
end Go.Proofs.Ytplgkblahmndoaa
namespace Go.Proofs.Ytplgkblahmndoaa
open Go.RowKit Go.WideMaps Go.Maps
set_option linter.unusedVariables false
set_option maxRecDepth 100000

/-- what Add makes of a list, and what it answers -/
def addB (L : List Ent) (r : List Val) (x : Int) : List Ent × Int :=
  if allF r = true then (if in64 (cntB L (keyVs r) + x) then (putB L r (cntB L (keyVs r) + x), 0) else (L, 13)) else (L, 1)
def AddPostR (w : World) (D B n : Nat) (mo : Option Nat) (y : List Ent × Int) (e : Ending) (w' : World) : Prop := e = .returned (.int .i64 y.2) ∧ SetPostR w D B n mo y.1 w'
theorem SetPostR.same {w w' : World} {D B n : Nat} {mo : Option Nat} {Dm : DataW Unit} {t : Lit → Option SlN} {L : List Ent} (h : BagR w D B n mo Dm t L) (hb : Below w.heap.size w w') : SetPostR w D B n mo L w' :=
  ⟨mo, Dm, t, (h.below hb).mono (Nat.le_succ n), (only_below hb).mono (fun _ => False.elim), .inl rfl⟩
theorem SetPostR.later {w w1 w' : World} {D B n : Nat} {mo : Option Nat} {L : List Ent} (hb : Below w.heap.size w w1) (h : SetPostR w1 D B n mo L w') : SetPostR w D B n mo L w' := by
  obtain ⟨mo', Dm', t', h1, h2, h3⟩ := h
  exact ⟨mo', Dm', t', h1, ((only_below hb).mono (fun _ => False.elim)).trans h2, h3.imp id (fun ⟨K, e, h⟩ => ⟨K, e, Nat.le_trans hb.size h⟩)⟩
theorem cnt_in {L : List Ent} (hs : SortB L) (hi : ∀ e ∈ L, in64 e.2) (k : List Int) : in64 (cntB L k) := by
  cases hh : hitB L k with
  | false => rw [cnt_none hh]; unfold in64; omega
  | true =>
    obtain ⟨e, he, hk⟩ := (hit_iff hs k).1 hh
    have := cnt_mem hs he
    rw [hk] at this
    rw [this]
    exact hi e he
theorem BagR.looks {w : World} {D B n : Nat} {mo : Option Nat} {Dm : DataW Unit} {t : Lit → Option SlN} {L : List Ent} (h : BagR w D B n mo Dm t L) {r : List Val} (hS : (strOfNums (keyVs r)).size ≤ maxLen) : ∃ a l c, ∀ m, (Instr.lookup 109 (.map mo) (.string (strOfNums (keyVs r))) false).run Try.prog (w.drewN m) = .ok (.agg #[.slice a l c, .int .i64 (cntB L (keyVs r))]) (w.drewN m) := by
  cases ht : t (litK r) with
  | none =>
    refine ⟨none, 0, 0, fun m => ?_⟩
    have hc : cntB L (keyVs r) = 0 := cnt_none (by
      cases hh : hitB L (keyVs r) with
      | false => rfl
      | true =>
        obtain ⟨e, he, hk⟩ := (hit_iff h.sort _).1 hh
        obtain ⟨x, hx, _⟩ := h.ent e he
        have e2 : litK e.1 = litK r := by unfold litK; rw [show keyVs e.1 = keyVs r from hk]
        rw [e2, ht] at hx
        cases hx)
    rw [hc]
    exact (h.draw m).lookNo hS ht
  | some x =>
    obtain ⟨e, he, hk⟩ := h.all _ x ht
    obtain ⟨y, hy, hn, _⟩ := h.ent e he
    rw [← hk, ht] at hy
    obtain rfl := Option.some.inj hy
    have hc := cnt_mem h.sort he
    rw [show kE e = keyVs r from (litK_inj hk).symm] at hc
    refine ⟨adA x.1, x.2.1, x.2.2.1, fun m => ?_⟩
    rw [hc, ← hn]
    exact (h.draw m).look hS ht
set_option maxHeartbeats 3200000 in
theorem badd_full (W0 w : World) (D B n : Nat) (mo : Option Nat) (Dm : DataW Unit) (t : Lit → Option SlN) (L : List Ent) (ra : Option Addr) (rl rc : Nat) (rv : List Val) (x : Int) (h : BagR w D B n mo Dm t L) (hx : in64 x) (hs : ∀ e ∈ L, in64 e.2)
    (hv : IsV W0 ra rl rv) (hr : ∀ v ∈ rv, -9223372036854775808 ≤ v.2.1 ∧ v.2.1 ≤ 9223372036854775807) (hb : Below W0.heap.size W0 w) (hD : W0.heap.size ≤ D) (hn : ra = none → rl = 0 ∧ rc = 0) (hl : rl ≤ 50) (hnn : n ≤ 1000000) :
    Calls Try.prog 51 #[.pointer (some ⟨D, 0, none⟩), .slice ra rl rc, .int .i64 x] w (AddPostR w D B n mo (addB L rv x)) := by
  have H := Lib.hid h
  have HV := Lib.hid hv
  have HB := Lib.hid hb
  have HD := Lib.hid hD
  have HN := Lib.hid hn
  have HX := Lib.hid hx
  have HS := Lib.hid hs
  have HR := Lib.hid hr
  clear h hv hb hD hn hx hs hr
  cases hf : allF rv with
  | false =>
    have HF := Lib.hid hf
    clear hf
    go_enter Try.func51, Try.ntmps51
    go_wp2_with fail
    refine (key_bad ra rl rc rv _ (by exact HV.out.below HB.out) HF.out).mono ?_
    rintro e w1 ⟨rfl, hb1⟩
    have HB1 := Lib.hid hb1
    clear hb1
    go_wp2
    go_ret
    unfold addB
    rw [if_neg (by rw [HF.out]; simp)]
    exact ⟨rfl, SetPostR.same H.out HB1.out⟩
  | true =>
    have HF := Lib.hid hf
    clear hf
    go_enter Try.func51, Try.ntmps51
    go_wp2_with fail
    refine (key_good ra rl rc rv _ (by exact HV.out.below HB.out) (allF_ok HF.out HR.out) (by omega)).mono ?_
    rintro e w1 ⟨v, rfl, hown, hb1⟩
    obtain ⟨ka, kL, kc, rfl, eL, iK, lK, nK, eC, eB⟩ := own_any hown (keyVs_range _)
    have HB1 := Lib.hid hb1
    have HB01 := Lib.hid (HB.out.trans (hb1.mono HB.out.size))
    have hst1 := H.out.below hb1
    have h0 : w1.cell? ⟨D, 0, none⟩ = some (.map mo) := cell_of_row w1 D 0 _ _ _ hst1.box
    have hSz : (strOfNums (keyVs rv)).size ≤ maxLen := by
      rw [numBytes_size]
      have h1 := keyVs_len (l := rv) (allF_ok HF.out HR.out)
      have h2 := HV.out.1
      unfold maxLen
      omega
    have hcv : ∀ n, (convert 81 9 (.slice ka kL kc)).run Try.prog (w1.drewN n) = .ok (.string (strOfNums (keyVs rv))) (w1.drewN n) := fun n => str_any (by exact iK) nK
    obtain ⟨q, hq⟩ : ∃ q, q = cntB L (keyVs rv) := ⟨_, rfl⟩
    obtain ⟨a1, l1, c1, hlk⟩ := hst1.looks hSz
    rw [← hq] at hlk
    have hfd : ∀ W, (Instr.field 114 (.agg #[.slice a1 l1 c1, .int .i64 q]) 1).run Try.prog W = .ok (.int .i64 q) W := fun W => rfl
    have hq0 : in64 q := by rw [hq]; exact cnt_in H.out.sort HS.out _
    have HAd := Lib.hid (show addB L rv x = if in64 (q + x) then (putB L rv (q + x), 0) else (L, 13) by unfold addB; rw [if_pos HF.out, hq])
    have HOk := Lib.hid (show (∀ v ∈ rv, okV v) ∧ rv.length ≤ 50 from ⟨allF_ok HF.out HR.out, by have := HV.out.1; omega⟩)
    have HPl := Lib.hid (plus_fits hq0 HX.out (rfl : IntKind.i64.wrap (q + x) = _)).2
    have HQ := Lib.hid hq
    have HQ0 := Lib.hid hq0
    have HS1 := Lib.hid hst1
    have HSz := Lib.hid hSz
    obtain ⟨S, hSe⟩ : ∃ S, S = strOfNums (keyVs rv) := ⟨_, rfl⟩
    have HSe := Lib.hid hSe
    rw [← hSe] at hcv hlk
    clear hown iK lK nK eL eC eB hq hq0 hst1 hSz hb1 hSe
    obtain ⟨m, hm⟩ : ∃ m, m = IntKind.i64.wrap (q + x) := ⟨_, rfl⟩
    obtain ⟨ft, hft⟩ : ∃ ft, ft = decide (in64 (q + x)) := ⟨_, rfl⟩
    have HPb := Lib.hid (show ∀ W, Calls Try.prog 112 #[.int .i64 q, .int .i64 x] W fun e w' => e = .returned (.tuple #[.int .i64 m, .bool ft]) ∧ w' = W from fun W => by rw [hm, hft]; exact bplus_full q x W HQ0.out HX.out)
    have HM := Lib.hid hm
    have HFt := Lib.hid hft
    clear hm hft
    go_wp2
    go_quiet ((go_at_call 112; exact Calls.quiet_of_same (HPb.out _)))
    cases ft with
    | false =>
      go_wp2_with fail
      go_ret
      rw [HAd.out, if_neg (of_decide_eq_false HFt.out.symm)]
      exact ⟨rfl, SetPostR.same H.out ⟨HB1.out.os, HB1.out.tape, HB1.out.output, HB1.out.size, HB1.out.block⟩⟩
    | true =>
      go_wp2_with fail
      have hin := of_decide_eq_true HFt.out.symm
      have hmq : m = q + x := by rw [HM.out]; exact HPl.out hin
      subst hmq
      have hBn : Below W0.heap.size W0 (w1.drewN nq) := ⟨HB01.out.os, HB01.out.tape, HB01.out.output, HB01.out.size, HB01.out.block⟩
      have hset : Calls Try.prog 63 #[.pointer (some ⟨D, 0, none⟩), .string S, .slice ra rl rc, .int .i64 (q + x)] (w1.drewN nq) fun e w' => e = .returned (.tuple #[]) ∧ SetPostR (w1.drewN nq) D B n mo (putB L rv (q + x)) w' := by
        rw [HSe.out]
        by_cases h : q + x = 0
        · rw [h]; exact bset_delR _ D B n mo Dm t L rv HSz.out ra rl rc (HS1.out.draw nq)
        · exact bset_putR rv W0 _ D B n mo Dm t L HSz.out ra rl rc (q + x) h HOk.out (HS1.out.draw nq) HV.out hBn HD.out HN.out (by omega) hnn
      refine hset.mono ?_
      rintro e w2 ⟨rfl, hp⟩
      have HP := Lib.hid (SetPostR.later (w := w) (w1 := w1.drewN nq) ⟨HB1.out.os, HB1.out.tape, HB1.out.output, HB1.out.size, HB1.out.block⟩ hp)
      have HI := Lib.hid hin
      clear hp hset hlk hcv hin
      go_wp2
      go_ret
      rw [HAd.out, if_pos HI.out]
      exact ⟨rfl, HP.out⟩
end Go.Proofs.Ytplgkblahmndoaa
