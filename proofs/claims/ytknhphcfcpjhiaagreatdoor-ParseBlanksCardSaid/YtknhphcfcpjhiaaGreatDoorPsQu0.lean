/- The package's reader of statements: query. Written by genpqu.py. -/
import Derived.Test.YtknhphcfcpjhiaaGreatDoorPsQ
import Derived.Deep.CutBlock
import Derived.Test.YtknhphcfcpjhiaaGreatDoorPsSo
import Derived.Test.YtknhphcfcpjhiaaGreatDoorPsLOd
namespace Go.Proofs.YtknhphcfcpjhiaaGreatDoor
open Go.RowKit
set_option linter.unusedVariables false
set_option linter.unusedSimpArgs false
set_option maxRecDepth 100000
theorem info_ex : (Tryz.prog.info? 82).map (fun i => (i.zero, i.size, i.bytes)) = some (some (.agg #[.int .i64 0, .string ⟨#[]⟩, .int .i64 0, .int .i64 0, .string ⟨#[]⟩, .string ⟨#[]⟩, .string ⟨#[]⟩, .slice none 0 0]), 8, 112) := by kernel_rfl
set_option maxHeartbeats 12800000 in
theorem plist_ex (N : Nat) (w : World) (b off : Nat) (wn wc : Nat) (ws : List Wd) (s : PS) (h : RdS N w (some ⟨b, off, none⟩) wn wc ws s) (hr : RCx b off wn wc ws) :
    Calls Tryz.prog 105 #[.pointer (some ⟨N, 0, none⟩), .func (Fn.func 56) #[.pointer (some ⟨N, 0, none⟩)] #[]] w (PsV (SlV exS) N w (some ⟨b, off, none⟩) wn wc ws (listR ws (exprR ws) s)) := by
  have HRc := Lib.hid hr
  have HN := Lib.hid h.low
  have HW5 := Lib.hid (And.intro h.words.1 h.words.2.1)
  have HOne := Lib.hid (show ∀ (W : World) (s : PS), RTo N w W → RdS N W (some ⟨b, off, none⟩) wn wc ws s → Calls Tryz.prog 56 #[.pointer (some ⟨N, 0, none⟩)] W (PsV EV N W (some ⟨b, off, none⟩) wn wc ws (exprR ws s)) from fun W s ht hs => pexpr_any N W b off wn wc ws s hs HRc.out.z HRc.out.cap)
  have HList := Lib.hid (show listR ws (exprR ws) s = moreR ws (exprR ws) (ws.length + 1) [(exprR ws s).1] (exprR ws s).2 from rfl)
  have HMo := Lib.hid (expr_mono ws)
  obtain ⟨i0, hi, hz0, hz1, hz2⟩ := info_parts info_ex
  have HI := Lib.hid (And.intro hi (And.intro hz0 (And.intro hz1 hz2)))
  have HS0 := Lib.hid h
  clear h hr hi hz0 hz1 hz2
  go_enter Tryz.func105, Tryz.ntmps105
  go_wp2_with (go_at_call 56; refine (HOne.out w s (RTo.refl N w) HS0.out).mono ?_)
  rintro e w1 ⟨⟨v, rfl, sa, sc, rfl, hrg, hel⟩, h1, h2⟩
  obtain ⟨q, hq⟩ : ∃ q, q = exprR ws s := ⟨_, rfl⟩
  rw [← hq] at hrg hel h1 HList ⊢
  have HMs := Lib.hid (HMo.out s)
  rw [← hq] at HMs
  clear hq
  obtain ⟨x, s1⟩ := q
  dsimp only at hrg hel h1 HList HMs ⊢
  rw [show (etX x sa sc : List Value).toArray = #[.int .i64 x.kind, .string x.op, .int .i64 x.vk, .int .i64 x.vn, .string x.vs, .string x.tab, .string x.col, .slice sa x.parts.length sc] from rfl]
  have HL1 := Lib.hid (LsO.one (S := exS) (T := 82) (B := w.heap.size) (w := w1) (cs := [.int .i64 x.kind, .string x.op, .int .i64 x.vk, .int .i64 x.vn, .string x.vs, .string x.tab, .string x.col, .slice sa x.parts.length sc]) (x := x) ⟨sa, sc, rfl, hrg, hel⟩ h2.size)
  have HBa := Lib.hid (bel0 (.cells #[.int .i64 x.kind, .string x.op, .int .i64 x.vk, .int .i64 x.vn, .string x.vs, .string x.tab, .string x.col, .slice sa x.parts.length sc] 82 (0, 0)) (Below.refl w1.heap.size w1))
  have HS1 := Lib.hid (h1.below HBa.out)
  have HT1 := Lib.hid (h2.trans (RTo.of_below HBa.out (Nat.le_of_lt h1.low)))
  clear h1 h2 hrg hel
  go_upto_block 1 with (fail)
  generalize w1.alloc (.cells #[.int .i64 x.kind, .string x.op, .int .i64 x.vk, .int .i64 x.vn, .string x.vs, .string x.tab, .string x.col, .slice sa x.parts.length sc] 82) = w2 at *
  obtain ⟨vl, hvl⟩ : ∃ vl, vl = (.slice (some ⟨w1.heap.size, 0, none⟩) 1 1 : Value) := ⟨_, rfl⟩
  rw [← hvl] at HL1 ⊢
  clear hvl HBa
  go_wp2_with fail
  go_loopw [5] (fun v5 wr => ∃ (f : Nat) (l : List _) (css : List (List Value)) (s2 : PS), Hid (LsO exS 82 w.heap.size wr v5 l css ∧ (0 < l.length ∧ l.length ≤ s2.1 + 1) ∧ RdS N wr (some ⟨b, off, none⟩) wn wc ws s2 ∧ RTo N w wr ∧ moreR ws (exprR ws) f l s2 = listR ws (exprR ws) s ∧ wn - s2.1 < f)) (fun _ wr => wn - posOf N wr)
  case atStart => exact ⟨_, [x], _, s1, Lib.hid ⟨HL1.out, ⟨Nat.zero_lt_succ _, Nat.le_add_left _ _⟩, HS1.out, HT1.out, HList.out.symm, by have := HW5.out.1; omega⟩⟩
  case round =>
    obtain ⟨f, l, css, s2, HR⟩ := hrel
    obtain ⟨wq, hwq⟩ : ∃ wq, wq = wr := ⟨_, rfl⟩
    have HSg := Lib.hid (psign_any [44] N wr _ wn wc ws s2 HR.out.2.2.1)
    obtain ⟨q, hq⟩ : ∃ q, q = takeR ws 4 [44] s2 := ⟨_, rfl⟩
    have HQ := Lib.hid hq.symm
    rw [← hq] at HSg
    clear hq
    obtain ⟨tb, s3⟩ := q
    dsimp only at HSg
    rw [show bs [44] = ⟨#[44]⟩ from rfl] at HSg
    clear hwq wq
    go_wp2_with fail
    refine HSg.out.mono ?_
    rintro e w3 ⟨rfl, h1, h2⟩
    have HS3 := Lib.hid h1
    have HT3 := Lib.hid (HR.out.2.2.2.1.trans h2)
    have HL3 := Lib.hid (HR.out.1.rto h2 HN.out)
    clear h1 h2
    cases tb with
    | false =>
      have HE := Lib.hid (show listR ws (exprR ws) s = (l, s3) from HR.out.2.2.2.2.1.symm.trans (more_no HQ.out))
      have HF := Lib.hid (HL3.out.sl HR.out.2.1.1)
      go_wp2
      go_ret
      rw [HE.out]
      exact ⟨⟨_, rfl, HF.out⟩, HS3.out, HT3.out⟩
    | true =>
      have hnf : f ≠ 0 := by have := HR.out.2.2.2.2.2; omega
      obtain ⟨f, rfl⟩ : ∃ g, f = g + 1 := ⟨f - 1, by omega⟩
      have HE := Lib.hid (more_yes (one := exprR ws) (f := f) (l := l) HQ.out)
      clear hnf
      go_wp2_with (go_at_call 56; refine (HOne.out w3 s3 HT3.out HS3.out).mono ?_)
      rintro e w4 ⟨⟨v, rfl, sa, sc, rfl, hrg, hel⟩, h1, h2⟩
      obtain ⟨q, hq⟩ : ∃ q, q = exprR ws s3 := ⟨_, rfl⟩
      have HMs2 := Lib.hid (HMo.out s3)
      rw [← hq] at hrg hel h1 HE HMs2 ⊢
      clear hq
      obtain ⟨x2, s4⟩ := q
      dsimp only at hrg hel h1 HE HMs2 ⊢
      rw [show (etX x2 sa sc : List Value).toArray = #[.int .i64 x2.kind, .string x2.op, .int .i64 x2.vk, .int .i64 x2.vn, .string x2.vs, .string x2.tab, .string x2.col, .slice sa x2.parts.length sc] from rfl]
      have HZ4 := Lib.hid (show w3.heap.size ≤ w4.heap.size from h2.size)
      have HT4 := Lib.hid (HT3.out.trans h2)
      have HL4 := Lib.hid (HL3.out.rto h2 HN.out)
      have hov : ∀ bb, w3.heap.size ≤ bb → u5.ownBlock ≠ some bb := fun bb hb e => by have := (HL3.out.own.lt bb e).2; omega
      have HX4 := Lib.hid (show exS.R w4 (fun bb => w.heap.size ≤ bb ∧ u5.ownBlock ≠ some bb) [.int .i64 x2.kind, .string x2.op, .int .i64 x2.vk, .int .i64 x2.vn, .string x2.vs, .string x2.tab, .string x2.col, .slice sa x2.parts.length sc] x2 from exS.mono ⟨sa, sc, rfl, hrg, hel⟩ (fun bb hb _ => ⟨Nat.le_trans HT3.out.size hb, hov bb hb⟩))
      have HS4 := Lib.hid h1
      clear h1 h2 hrg hel hov
      have HB5 := Lib.hid (bel0 (.cells #[.int .i64 x2.kind, .string x2.op, .int .i64 x2.vk, .int .i64 x2.vn, .string x2.vs, .string x2.tab, .string x2.col, .slice sa x2.parts.length sc] 82 (0, 0)) (Below.refl w4.heap.size w4))
      have HN5 := Lib.hid (Go.heap_alloc_new w4 (.cells #[.int .i64 x2.kind, .string x2.op, .int .i64 x2.vk, .int .i64 x2.vn, .string x2.vs, .string x2.tab, .string x2.col, .slice sa x2.parts.length sc] 82 (0, 0)))
      have HS5 := Lib.hid (HS4.out.below HB5.out)
      have HT5 := Lib.hid (HT4.out.trans (RTo.of_below HB5.out (Nat.le_of_lt HS4.out.low)))
      have HL5 := Lib.hid (HL4.out.rto (RTo.of_below HB5.out (Nat.le_of_lt HS4.out.low)) HN.out)
      have HX5 := Lib.hid (exS.far HX4.out HB5.out.size (fun bb _ hlt => HB5.out.block bb hlt))
      have hll : l.length ≤ 100001 := by have h1 := HR.out.2.1.2; have h2 := HE.out.2.2; have h3 := HW5.out; omega
      obtain ⟨hi, hz0, hz1, hz2⟩ := HI.out
      go_wp2_with (at_builtin; refine wpList_append_lies _ rfl _ _ 38 rfl w.heap.size 82 i0 (.agg #[.int .i64 0, .string ⟨#[]⟩, .int .i64 0, .int .i64 0, .string ⟨#[]⟩, .string ⟨#[]⟩, .string ⟨#[]⟩, .slice none 0 0]) 8 112 Tryz.underlying38 hi hz0 hz1 hz2 rfl (by decide) u5 l.length css.flatten rfl HL5.out.own ⟨w4.heap.size, 0, none⟩ 1 1 [.int .i64 x2.kind, .string x2.op, .int .i64 x2.vk, .int .i64 x2.vn, .string x2.vs, .string x2.tab, .string x2.col, .slice sa x2.parts.length sc] rfl rfl ?ca ?cb (by omega) (by unfold maxLen; omega) (by omega) HT5.out.size _ rfl ?_)
      case ca => exact World.news_of_block HN5.out
      case cb =>
        intro u hu
        simp only [List.mem_cons, List.not_mem_nil, or_false] at hu
        rcases hu with rfl | rfl | rfl | rfl | rfl | rfl | rfl | rfl
        all_goals rfl
      intro g cap w6 hown hgrow hor hlt6
      have HS6 := Lib.hid (HS5.out.grown HN.out HL5.out.own hgrow)
      have HT6 := Lib.hid (HT5.out.grown (Nat.le_of_lt HS5.out.low) (Nat.le_refl _) (Nat.le_of_lt HN.out) HL5.out.own hgrow)
      have HL6 := Lib.hid (HL5.out.push HX5.out hgrow (hor.imp id (fun e => e.trans (Array.size_push _).symm)) hown)
      have HE2 := Lib.hid (show moreR ws (exprR ws) f (l ++ [x2]) s4 = listR ws (exprR ws) s from HE.out.1.symm.trans HR.out.2.2.2.2.1)
      have HP := Lib.hid (show s2.1 < s4.1 ∧ s2.1 < wn from by have h1 := HE.out.2; have h2 := HMs2.out; have h3 := HW5.out.1; omega)
      have HPo := Lib.hid (show posOf N wr = s2.1 from HR.out.2.2.1.posOf)
      have HPo6 := Lib.hid (show posOf N w6 = s4.1 from HS6.out.posOf)
      have HLl := Lib.hid (show (l ++ [x2]).length = l.length + 1 by simp)
      clear hown hgrow hor hlt6 hi hz0 hz1 hz2
      go_wp2
      go_roundw
      case rel =>
        first
          | exact ⟨f, _, _, s4, Lib.hid ⟨HL6.out, ⟨by rw [HLl.out]; omega, by rw [HLl.out]; have := HR.out.2.1.2; have := HP.out.1; omega⟩, HS6.out, HT6.out, HE2.out, by have := HR.out.2.2.2.2.2; have := HP.out; omega⟩⟩
          | (repeat apply Exists.intro
             refine ⟨?_, rfl⟩
             exact ⟨f, _, _, s4, Lib.hid ⟨HL6.out, ⟨by rw [HLl.out]; omega, by rw [HLl.out]; have := HR.out.2.1.2; have := HP.out.1; omega⟩, HS6.out, HT6.out, HE2.out, by have := HR.out.2.2.2.2.2; have := HP.out; omega⟩⟩)
      case measure => rw [HPo.out, HPo6.out]; have := HP.out; omega
end Go.Proofs.YtknhphcfcpjhiaaGreatDoor
namespace Go.Proofs.YtknhphcfcpjhiaaGreatDoor
open Go.RowKit
set_option linter.unusedVariables false
set_option linter.unusedSimpArgs false
set_option maxRecDepth 100000
theorem results_qu {fn : Func} {p : Tmp} (h : fn.results = #[.cell p 43]) (tmps : Array Value) (w : World) (g : Nat) (x0 x1 x2 x3 x4 x5 x6 x7 : Value)
    (hp : tmps.getD p undef = .pointer (some ⟨g, 0, none⟩)) (hg : w.heap[g]? = some (.cells #[x0, x1, x2, x3, x4, x5, x6, x7] 43 (0, 0))) :
    (results fn tmps).run Tryz.prog w = .ok (.agg #[x0, x1, x2, x3, x4, x5, x6, x7]) w := by
  have hp' : tmps[p]?.getD undef = .pointer (some ⟨g, 0, none⟩) := by simpa using hp
  have hl := run_loadVar_row (P := Tryz.prog) w g 43 43 #[x0, x1, x2, x3, x4, x5, x6, x7] (0, 0) _ hg Tryz.underlying43 rfl (by
    have : (Tryz.prog.info? 43).map (·.size) = some 8 := by kernel_rfl
    exact this)
  simp [results, h, hp', asAddr, hl]
theorem rowc_qu {w : World} {N : Nat} {x0 x1 x2 x3 x4 x5 x6 x7 : Value} {T : TypeId} (h : w.heap[N]? = some (.cells #[x0, x1, x2, x3, x4, x5, x6, x7] T (0, 0))) :
    w.cell? ⟨N, 0, none⟩ = some x0 ∧ w.cell? ⟨N, 1, none⟩ = some x1 ∧ w.cell? ⟨N, 2, none⟩ = some x2 ∧ w.cell? ⟨N, 3, none⟩ = some x3 ∧ w.cell? ⟨N, 4, none⟩ = some x4 ∧ w.cell? ⟨N, 5, none⟩ = some x5 ∧ w.cell? ⟨N, 6, none⟩ = some x6 ∧ w.cell? ⟨N, 7, none⟩ = some x7 ∧ (∀ j, w.frozen? ⟨N, j, none⟩ = false) ∧ N < w.heap.size :=
  ⟨cell_of_row _ _ 0 _ _ _ h, cell_of_row _ _ 1 _ _ _ h, cell_of_row _ _ 2 _ _ _ h, cell_of_row _ _ 3 _ _ _ h, cell_of_row _ _ 4 _ _ _ h, cell_of_row _ _ 5 _ _ _ h, cell_of_row _ _ 6 _ _ _ h, cell_of_row _ _ 7 _ _ _ h, fun j => frozen_of_row _ _ j _ _ h, (Array.getElem?_eq_some_iff.1 h).1⟩
theorem wbox_qu {w : World} {N : Nat} {x0 x1 x2 x3 x4 x5 x6 x7 : Value} {T : TypeId} (h : w.heap[N]? = some (.cells #[x0, x1, x2, x3, x4, x5, x6, x7] T (0, 0))) (a0 a1 a2 a3 a4 a5 a6 a7 : Value) :
    (setLe w N 0 [a0, a1, a2, a3, a4, a5, a6, a7]).heap[N]? = some (.cells #[a0, a1, a2, a3, a4, a5, a6, a7] T (0, 0)) :=
  heap_setLe [a0, a1, a2, a3, a4, a5, a6, a7] [] [x0, x1, x2, x3, x4, x5, x6, x7] w (by simp) h
def q5 (ws : List Wd) (d t : Bool) (i : List It) (f : List So) (w g : List ET) (o : List Od) (s : PS) : QT × PS := if (takeR ws 1 kLIMIT s).1 = true then (⟨d, t, i, f, w, g, o, (numR ws (takeR ws 1 kLIMIT s).2).1⟩, (numR ws (takeR ws 1 kLIMIT s).2).2) else (⟨d, t, i, f, w, g, o, -1⟩, (takeR ws 1 kLIMIT s).2)
def q4a (ws : List Wd) (d t : Bool) (i : List It) (f : List So) (w g : List ET) (r : List Od × PS) : QT × PS := q5 ws d t i f w g r.1 r.2
def q4 (ws : List Wd) (d t : Bool) (i : List It) (f : List So) (w g : List ET) (s : PS) : QT × PS := if (takeR ws 1 kORDER s).1 = true then q4a ws d t i f w g (listR ws (orderR ws) (mustK ws [kBY] (takeR ws 1 kORDER s).2)) else q5 ws d t i f w g [] (takeR ws 1 kORDER s).2
def q3a (ws : List Wd) (d t : Bool) (i : List It) (f : List So) (w : List ET) (r : List ET × PS) : QT × PS := q4 ws d t i f w r.1 r.2
def q3 (ws : List Wd) (d t : Bool) (i : List It) (f : List So) (w : List ET) (s : PS) : QT × PS := if (takeR ws 1 kGROUP s).1 = true then q3a ws d t i f w (listR ws (exprR ws) (mustK ws [kBY] (takeR ws 1 kGROUP s).2)) else q4 ws d t i f w [] (takeR ws 1 kGROUP s).2
def q2b (ws : List Wd) (d t : Bool) (i : List It) (f : List So) (r : List ET × PS) : QT × PS := q3 ws d t i f r.1 r.2
def q2a (ws : List Wd) (d t : Bool) (i : List It) (r : List So × PS) : QT × PS := q2b ws d t i r.1 (whereR ws r.2)
def q2 (ws : List Wd) (d t : Bool) (i : List It) (s : PS) : QT × PS := q2a ws d t i (sourcesR ws (mustK ws [kFROM] s))
def q1a (ws : List Wd) (d t : Bool) (r : List It × PS) : QT × PS := q2 ws d t r.1 r.2
def q1 (ws : List Wd) (d : Bool) (r : Bool × PS) : QT × PS := if r.1 = true then q2 ws d r.1 [] r.2 else q1a ws d r.1 (listR ws (itemR ws) r.2)
def q0 (ws : List Wd) (r : Bool × PS) : QT × PS := q1 ws r.1 (takeR ws 4 [42] r.2)
theorem queryR_eq (ws : List Wd) (s : PS) : queryR ws s = q0 ws (takeR ws 1 kDISTINCT s) := by
  unfold queryR q0 q1 q1a q2 q2a q2b q3 q3a q4 q4a q5
  dsimp only
  split <;> split <;> split <;> split <;> rfl
theorem prwf64 {k : Int} (h0 : -9223372036854775808 ≤ k) (h1 : k ≤ 9223372036854775807) : (Lit.int .i64 k).wf = true := by
  have e1 : IntKind.i64.min = -9223372036854775808 := by decide
  have e2 : IntKind.i64.max = 9223372036854775807 := by decide
  simp only [Lit.wf, e1, e2, Bool.and_eq_true, decide_eq_true_eq]
  exact ⟨h0, h1⟩
theorem num_inr {ws : List Wd} (hz : WsOk ws) (s : PS) : (Lit.int .i64 (numR ws s).1).wf = true := by
  have h : InR (numR ws s).1 := by
    unfold numR
    split
    · exact (hz s.1).2
    · exact (show InR 0 from ⟨by decide, by decide⟩)
  exact prwf64 h.1 h.2
end Go.Proofs.YtknhphcfcpjhiaaGreatDoor
