/- parse.list of orders. Written by genpl.py. -/
import Derived.Test.YtknhphcfcpjhiaaGreatDoorPsQ
import Derived.Deep.CutBlock
namespace Go.Proofs.YtknhphcfcpjhiaaGreatDoor
open Go.RowKit
set_option linter.unusedVariables false
set_option linter.unusedSimpArgs false
set_option maxRecDepth 100000
theorem info_it : (Tryz.prog.info? 127).map (fun i => (i.zero, i.size, i.bytes)) = some (some (.agg #[.int .i64 0, .string ⟨#[]⟩, .int .i64 0, .int .i64 0, .string ⟨#[]⟩, .string ⟨#[]⟩, .string ⟨#[]⟩, .slice none 0 0, .string ⟨#[]⟩]), 9, 128) := by kernel_rfl
set_option maxHeartbeats 12800000 in
theorem plist_it (N : Nat) (w : World) (b off : Nat) (wn wc : Nat) (ws : List Wd) (s : PS) (h : RdS N w (some ⟨b, off, none⟩) wn wc ws s) (hr : RCx b off wn wc ws) :
    Calls Tryz.prog 107 #[.pointer (some ⟨N, 0, none⟩), .func (Fn.func 108) #[.pointer (some ⟨N, 0, none⟩)] #[]] w (PsV (SlV itS) N w (some ⟨b, off, none⟩) wn wc ws (listR ws (itemR ws) s)) := by
  have HRc := Lib.hid hr
  have HN := Lib.hid h.low
  have HW5 := Lib.hid (And.intro h.words.1 h.words.2.1)
  have HOne := Lib.hid (show ∀ (W : World) (s : PS), RTo N w W → RdS N W (some ⟨b, off, none⟩) wn wc ws s → Calls Tryz.prog 108 #[.pointer (some ⟨N, 0, none⟩)] W (PsV (AgV itS) N W (some ⟨b, off, none⟩) wn wc ws (itemR ws s)) from fun W s ht hs => pitem_any N W b off wn wc ws s hs HRc.out)
  have HList := Lib.hid (show listR ws (itemR ws) s = moreR ws (itemR ws) (ws.length + 1) [(itemR ws s).1] (itemR ws s).2 from rfl)
  have HMo := Lib.hid (item_mono ws)
  obtain ⟨i0, hi, hz0, hz1, hz2⟩ := info_parts info_it
  have HI := Lib.hid (And.intro hi (And.intro hz0 (And.intro hz1 hz2)))
  have HS0 := Lib.hid h
  clear h hr hi hz0 hz1 hz2
  go_enter Tryz.func107, Tryz.ntmps107
  go_wp2_with (go_at_call 108; refine (HOne.out w s (RTo.refl N w) HS0.out).mono ?_)
  rintro e w1 ⟨⟨v, rfl, cs, rfl, sa, sc, rfl, hrg, hel, hsz⟩, h1, h2⟩
  obtain ⟨q, hq⟩ : ∃ q, q = itemR ws s := ⟨_, rfl⟩
  rw [← hq] at hrg hel hsz h1 HList ⊢
  have HMs := Lib.hid (HMo.out s)
  rw [← hq] at HMs
  clear hq
  obtain ⟨x, s1⟩ := q
  dsimp only at hrg hel hsz h1 HList HMs ⊢
  rw [show (etX x.e sa sc ++ [.string x.name] : List Value).toArray = #[.int .i64 x.e.kind, .string x.e.op, .int .i64 x.e.vk, .int .i64 x.e.vn, .string x.e.vs, .string x.e.tab, .string x.e.col, .slice sa x.e.parts.length sc, .string x.name] from rfl]
  have HL1 := Lib.hid (LsO.one (S := itS) (T := 127) (B := w.heap.size) (w := w1) (cs := [.int .i64 x.e.kind, .string x.e.op, .int .i64 x.e.vk, .int .i64 x.e.vn, .string x.e.vs, .string x.e.tab, .string x.e.col, .slice sa x.e.parts.length sc, .string x.name]) (x := x) ⟨sa, sc, rfl, hrg, hel, hsz⟩ h2.size)
  have HBa := Lib.hid (bel0 (.cells #[.int .i64 x.e.kind, .string x.e.op, .int .i64 x.e.vk, .int .i64 x.e.vn, .string x.e.vs, .string x.e.tab, .string x.e.col, .slice sa x.e.parts.length sc, .string x.name] 127 (0, 0)) (Below.refl w1.heap.size w1))
  have HS1 := Lib.hid (h1.below HBa.out)
  have HT1 := Lib.hid (h2.trans (RTo.of_below HBa.out (Nat.le_of_lt h1.low)))
  clear h1 h2 hrg hel hsz
  go_upto_block 1 with (fail)
  generalize w1.alloc (.cells #[.int .i64 x.e.kind, .string x.e.op, .int .i64 x.e.vk, .int .i64 x.e.vn, .string x.e.vs, .string x.e.tab, .string x.e.col, .slice sa x.e.parts.length sc, .string x.name] 127) = w2 at *
  obtain ⟨vl, hvl⟩ : ∃ vl, vl = (.slice (some ⟨w1.heap.size, 0, none⟩) 1 1 : Value) := ⟨_, rfl⟩
  rw [← hvl] at HL1 ⊢
  clear hvl HBa
  go_wp2_with fail
  go_loopw [5] (fun v5 wr => ∃ (f : Nat) (l : List _) (css : List (List Value)) (s2 : PS), Hid (LsO itS 127 w.heap.size wr v5 l css ∧ (0 < l.length ∧ l.length ≤ s2.1 + 1) ∧ RdS N wr (some ⟨b, off, none⟩) wn wc ws s2 ∧ RTo N w wr ∧ moreR ws (itemR ws) f l s2 = listR ws (itemR ws) s ∧ wn - s2.1 < f)) (fun _ wr => wn - posOf N wr)
  case atStart => exact ⟨_, [x], _, s1, Lib.hid ⟨HL1.out, ⟨Nat.zero_lt_succ _, Nat.le_add_left _ _⟩, HS1.out, HT1.out, HList.out.symm, by have := HW5.out.1; omega⟩⟩
  case round =>
    obtain ⟨f, l, css, s2, HR⟩ := hrel
    obtain ⟨wq, hwq⟩ : ∃ wq, wq = wr := ⟨_, rfl⟩
    have HSg := Lib.hid (psign_any [44] N wr _ wn wc ws s2 HR.out.2.2.1)
    obtain ⟨q, hq⟩ : ∃ q, q = takeR ws 4 [44] s2 := ⟨_, rfl⟩
    have HQ := Lib.hid hq.symm
    rw [← hq] at HSg
    clear hq
    obtain ⟨tb, s3⟩ := q
    dsimp only at HSg
    rw [show bs [44] = ⟨#[44]⟩ from rfl] at HSg
    clear hwq wq
    go_wp2_with fail
    refine HSg.out.mono ?_
    rintro e w3 ⟨rfl, h1, h2⟩
    have HS3 := Lib.hid h1
    have HT3 := Lib.hid (HR.out.2.2.2.1.trans h2)
    have HL3 := Lib.hid (HR.out.1.rto h2 HN.out)
    clear h1 h2
    cases tb with
    | false =>
      have HE := Lib.hid (show listR ws (itemR ws) s = (l, s3) from HR.out.2.2.2.2.1.symm.trans (more_no HQ.out))
      have HF := Lib.hid (HL3.out.sl HR.out.2.1.1)
      go_wp2
      go_ret
      rw [HE.out]
      exact ⟨⟨_, rfl, HF.out⟩, HS3.out, HT3.out⟩
    | true =>
      have hnf : f ≠ 0 := by have := HR.out.2.2.2.2.2; omega
      obtain ⟨f, rfl⟩ : ∃ g, f = g + 1 := ⟨f - 1, by omega⟩
      have HE := Lib.hid (more_yes (one := itemR ws) (f := f) (l := l) HQ.out)
      clear hnf
      go_wp2_with (go_at_call 108; refine (HOne.out w3 s3 HT3.out HS3.out).mono ?_)
      rintro e w4 ⟨⟨v, rfl, cs, rfl, sa, sc, rfl, hrg, hel, hsz⟩, h1, h2⟩
      obtain ⟨q, hq⟩ : ∃ q, q = itemR ws s3 := ⟨_, rfl⟩
      have HMs2 := Lib.hid (HMo.out s3)
      rw [← hq] at hrg hel hsz h1 HE HMs2 ⊢
      clear hq
      obtain ⟨x2, s4⟩ := q
      dsimp only at hrg hel hsz h1 HE HMs2 ⊢
      rw [show (etX x2.e sa sc ++ [.string x2.name] : List Value).toArray = #[.int .i64 x2.e.kind, .string x2.e.op, .int .i64 x2.e.vk, .int .i64 x2.e.vn, .string x2.e.vs, .string x2.e.tab, .string x2.e.col, .slice sa x2.e.parts.length sc, .string x2.name] from rfl]
      have HZ4 := Lib.hid (show w3.heap.size ≤ w4.heap.size from h2.size)
      have HT4 := Lib.hid (HT3.out.trans h2)
      have HL4 := Lib.hid (HL3.out.rto h2 HN.out)
      have hov : ∀ bb, w3.heap.size ≤ bb → u5.ownBlock ≠ some bb := fun bb hb e => by have := (HL3.out.own.lt bb e).2; omega
      have HX4 := Lib.hid (show itS.R w4 (fun bb => w.heap.size ≤ bb ∧ u5.ownBlock ≠ some bb) [.int .i64 x2.e.kind, .string x2.e.op, .int .i64 x2.e.vk, .int .i64 x2.e.vn, .string x2.e.vs, .string x2.e.tab, .string x2.e.col, .slice sa x2.e.parts.length sc, .string x2.name] x2 from itS.mono ⟨sa, sc, rfl, hrg, hel, hsz⟩ (fun bb hb _ => ⟨Nat.le_trans HT3.out.size hb, hov bb hb⟩))
      have HS4 := Lib.hid h1
      clear h1 h2 hrg hel hsz hov
      have HB5 := Lib.hid (bel0 (.cells #[.int .i64 x2.e.kind, .string x2.e.op, .int .i64 x2.e.vk, .int .i64 x2.e.vn, .string x2.e.vs, .string x2.e.tab, .string x2.e.col, .slice sa x2.e.parts.length sc, .string x2.name] 127 (0, 0)) (Below.refl w4.heap.size w4))
      have HN5 := Lib.hid (Go.heap_alloc_new w4 (.cells #[.int .i64 x2.e.kind, .string x2.e.op, .int .i64 x2.e.vk, .int .i64 x2.e.vn, .string x2.e.vs, .string x2.e.tab, .string x2.e.col, .slice sa x2.e.parts.length sc, .string x2.name] 127 (0, 0)))
      have HS5 := Lib.hid (HS4.out.below HB5.out)
      have HT5 := Lib.hid (HT4.out.trans (RTo.of_below HB5.out (Nat.le_of_lt HS4.out.low)))
      have HL5 := Lib.hid (HL4.out.rto (RTo.of_below HB5.out (Nat.le_of_lt HS4.out.low)) HN.out)
      have HX5 := Lib.hid (itS.far HX4.out HB5.out.size (fun bb _ hlt => HB5.out.block bb hlt))
      have hll : l.length ≤ 100001 := by have h1 := HR.out.2.1.2; have h2 := HE.out.2.2; have h3 := HW5.out; omega
      obtain ⟨hi, hz0, hz1, hz2⟩ := HI.out
      go_wp2_with (at_builtin; refine wpList_append_lies _ rfl _ _ 39 rfl w.heap.size 127 i0 (.agg #[.int .i64 0, .string ⟨#[]⟩, .int .i64 0, .int .i64 0, .string ⟨#[]⟩, .string ⟨#[]⟩, .string ⟨#[]⟩, .slice none 0 0, .string ⟨#[]⟩]) 9 128 Tryz.underlying39 hi hz0 hz1 hz2 rfl (by decide) u5 l.length css.flatten rfl HL5.out.own ⟨w4.heap.size, 0, none⟩ 1 1 [.int .i64 x2.e.kind, .string x2.e.op, .int .i64 x2.e.vk, .int .i64 x2.e.vn, .string x2.e.vs, .string x2.e.tab, .string x2.e.col, .slice sa x2.e.parts.length sc, .string x2.name] rfl rfl ?ca ?cb (by omega) (by unfold maxLen; omega) (by omega) HT5.out.size _ rfl ?_)
      case ca => exact World.news_of_block HN5.out
      case cb =>
        intro u hu
        simp only [List.mem_cons, List.not_mem_nil, or_false] at hu
        rcases hu with rfl | rfl | rfl | rfl | rfl | rfl | rfl | rfl | rfl
        all_goals rfl
      intro g cap w6 hown hgrow hor hlt6
      have HS6 := Lib.hid (HS5.out.grown HN.out HL5.out.own hgrow)
      have HT6 := Lib.hid (HT5.out.grown (Nat.le_of_lt HS5.out.low) (Nat.le_refl _) (Nat.le_of_lt HN.out) HL5.out.own hgrow)
      have HL6 := Lib.hid (HL5.out.push HX5.out hgrow (hor.imp id (fun e => e.trans (Array.size_push _).symm)) hown)
      have HE2 := Lib.hid (show moreR ws (itemR ws) f (l ++ [x2]) s4 = listR ws (itemR ws) s from HE.out.1.symm.trans HR.out.2.2.2.2.1)
      have HP := Lib.hid (show s2.1 < s4.1 ∧ s2.1 < wn from by have h1 := HE.out.2; have h2 := HMs2.out; have h3 := HW5.out.1; omega)
      have HPo := Lib.hid (show posOf N wr = s2.1 from HR.out.2.2.1.posOf)
      have HPo6 := Lib.hid (show posOf N w6 = s4.1 from HS6.out.posOf)
      have HLl := Lib.hid (show (l ++ [x2]).length = l.length + 1 by simp)
      clear hown hgrow hor hlt6 hi hz0 hz1 hz2
      go_wp2
      go_roundw
      case rel =>
        first
          | exact ⟨f, _, _, s4, Lib.hid ⟨HL6.out, ⟨by rw [HLl.out]; omega, by rw [HLl.out]; have := HR.out.2.1.2; have := HP.out.1; omega⟩, HS6.out, HT6.out, HE2.out, by have := HR.out.2.2.2.2.2; have := HP.out; omega⟩⟩
          | (repeat apply Exists.intro
             refine ⟨?_, rfl⟩
             exact ⟨f, _, _, s4, Lib.hid ⟨HL6.out, ⟨by rw [HLl.out]; omega, by rw [HLl.out]; have := HR.out.2.1.2; have := HP.out.1; omega⟩, HS6.out, HT6.out, HE2.out, by have := HR.out.2.2.2.2.2; have := HP.out; omega⟩⟩)
      case measure => rw [HPo.out, HPo6.out]; have := HP.out; omega
end Go.Proofs.YtknhphcfcpjhiaaGreatDoor
namespace Go.Proofs.YtknhphcfcpjhiaaGreatDoor
open Go.RowKit
set_option linter.unusedVariables false
set_option linter.unusedSimpArgs false
set_option maxRecDepth 100000
theorem info_od : (Tryz.prog.info? 131).map (fun i => (i.zero, i.size, i.bytes)) = some (some (.agg #[.int .i64 0, .string ⟨#[]⟩, .int .i64 0, .int .i64 0, .string ⟨#[]⟩, .string ⟨#[]⟩, .string ⟨#[]⟩, .slice none 0 0, .bool false]), 9, 120) := by kernel_rfl
set_option maxHeartbeats 12800000 in
theorem plist_od (N : Nat) (w : World) (b off : Nat) (wn wc : Nat) (ws : List Wd) (s : PS) (h : RdS N w (some ⟨b, off, none⟩) wn wc ws s) (hr : RCx b off wn wc ws) :
    Calls Tryz.prog 110 #[.pointer (some ⟨N, 0, none⟩), .func (Fn.func 111) #[.pointer (some ⟨N, 0, none⟩)] #[]] w (PsV (SlV odS) N w (some ⟨b, off, none⟩) wn wc ws (listR ws (orderR ws) s)) := by
  have HRc := Lib.hid hr
  have HN := Lib.hid h.low
  have HW5 := Lib.hid (And.intro h.words.1 h.words.2.1)
  have HOne := Lib.hid (show ∀ (W : World) (s : PS), RTo N w W → RdS N W (some ⟨b, off, none⟩) wn wc ws s → Calls Tryz.prog 111 #[.pointer (some ⟨N, 0, none⟩)] W (PsV (AgV odS) N W (some ⟨b, off, none⟩) wn wc ws (orderR ws s)) from fun W s ht hs => porder_any N W b off wn wc ws s hs HRc.out)
  have HList := Lib.hid (show listR ws (orderR ws) s = moreR ws (orderR ws) (ws.length + 1) [(orderR ws s).1] (orderR ws s).2 from rfl)
  have HMo := Lib.hid (order_mono ws)
  obtain ⟨i0, hi, hz0, hz1, hz2⟩ := info_parts info_od
  have HI := Lib.hid (And.intro hi (And.intro hz0 (And.intro hz1 hz2)))
  have HS0 := Lib.hid h
  clear h hr hi hz0 hz1 hz2
  go_enter Tryz.func110, Tryz.ntmps110
  go_wp2_with (go_at_call 111; refine (HOne.out w s (RTo.refl N w) HS0.out).mono ?_)
  rintro e w1 ⟨⟨v, rfl, cs, rfl, sa, sc, rfl, hrg, hel⟩, h1, h2⟩
  obtain ⟨q, hq⟩ : ∃ q, q = orderR ws s := ⟨_, rfl⟩
  rw [← hq] at hrg hel h1 HList ⊢
  have HMs := Lib.hid (HMo.out s)
  rw [← hq] at HMs
  clear hq
  obtain ⟨x, s1⟩ := q
  dsimp only at hrg hel h1 HList HMs ⊢
  rw [show (etX x.e sa sc ++ [.bool x.desc] : List Value).toArray = #[.int .i64 x.e.kind, .string x.e.op, .int .i64 x.e.vk, .int .i64 x.e.vn, .string x.e.vs, .string x.e.tab, .string x.e.col, .slice sa x.e.parts.length sc, .bool x.desc] from rfl]
  have HL1 := Lib.hid (LsO.one (S := odS) (T := 131) (B := w.heap.size) (w := w1) (cs := [.int .i64 x.e.kind, .string x.e.op, .int .i64 x.e.vk, .int .i64 x.e.vn, .string x.e.vs, .string x.e.tab, .string x.e.col, .slice sa x.e.parts.length sc, .bool x.desc]) (x := x) ⟨sa, sc, rfl, hrg, hel⟩ h2.size)
  have HBa := Lib.hid (bel0 (.cells #[.int .i64 x.e.kind, .string x.e.op, .int .i64 x.e.vk, .int .i64 x.e.vn, .string x.e.vs, .string x.e.tab, .string x.e.col, .slice sa x.e.parts.length sc, .bool x.desc] 131 (0, 0)) (Below.refl w1.heap.size w1))
  have HS1 := Lib.hid (h1.below HBa.out)
  have HT1 := Lib.hid (h2.trans (RTo.of_below HBa.out (Nat.le_of_lt h1.low)))
  clear h1 h2 hrg hel
  go_upto_block 1 with (fail)
  generalize w1.alloc (.cells #[.int .i64 x.e.kind, .string x.e.op, .int .i64 x.e.vk, .int .i64 x.e.vn, .string x.e.vs, .string x.e.tab, .string x.e.col, .slice sa x.e.parts.length sc, .bool x.desc] 131) = w2 at *
  obtain ⟨vl, hvl⟩ : ∃ vl, vl = (.slice (some ⟨w1.heap.size, 0, none⟩) 1 1 : Value) := ⟨_, rfl⟩
  rw [← hvl] at HL1 ⊢
  clear hvl HBa
  go_wp2_with fail
  go_loopw [5] (fun v5 wr => ∃ (f : Nat) (l : List _) (css : List (List Value)) (s2 : PS), Hid (LsO odS 131 w.heap.size wr v5 l css ∧ (0 < l.length ∧ l.length ≤ s2.1 + 1) ∧ RdS N wr (some ⟨b, off, none⟩) wn wc ws s2 ∧ RTo N w wr ∧ moreR ws (orderR ws) f l s2 = listR ws (orderR ws) s ∧ wn - s2.1 < f)) (fun _ wr => wn - posOf N wr)
  case atStart => exact ⟨_, [x], _, s1, Lib.hid ⟨HL1.out, ⟨Nat.zero_lt_succ _, Nat.le_add_left _ _⟩, HS1.out, HT1.out, HList.out.symm, by have := HW5.out.1; omega⟩⟩
  case round =>
    obtain ⟨f, l, css, s2, HR⟩ := hrel
    obtain ⟨wq, hwq⟩ : ∃ wq, wq = wr := ⟨_, rfl⟩
    have HSg := Lib.hid (psign_any [44] N wr _ wn wc ws s2 HR.out.2.2.1)
    obtain ⟨q, hq⟩ : ∃ q, q = takeR ws 4 [44] s2 := ⟨_, rfl⟩
    have HQ := Lib.hid hq.symm
    rw [← hq] at HSg
    clear hq
    obtain ⟨tb, s3⟩ := q
    dsimp only at HSg
    rw [show bs [44] = ⟨#[44]⟩ from rfl] at HSg
    clear hwq wq
    go_wp2_with fail
    refine HSg.out.mono ?_
    rintro e w3 ⟨rfl, h1, h2⟩
    have HS3 := Lib.hid h1
    have HT3 := Lib.hid (HR.out.2.2.2.1.trans h2)
    have HL3 := Lib.hid (HR.out.1.rto h2 HN.out)
    clear h1 h2
    cases tb with
    | false =>
      have HE := Lib.hid (show listR ws (orderR ws) s = (l, s3) from HR.out.2.2.2.2.1.symm.trans (more_no HQ.out))
      have HF := Lib.hid (HL3.out.sl HR.out.2.1.1)
      go_wp2
      go_ret
      rw [HE.out]
      exact ⟨⟨_, rfl, HF.out⟩, HS3.out, HT3.out⟩
    | true =>
      have hnf : f ≠ 0 := by have := HR.out.2.2.2.2.2; omega
      obtain ⟨f, rfl⟩ : ∃ g, f = g + 1 := ⟨f - 1, by omega⟩
      have HE := Lib.hid (more_yes (one := orderR ws) (f := f) (l := l) HQ.out)
      clear hnf
      go_wp2_with (go_at_call 111; refine (HOne.out w3 s3 HT3.out HS3.out).mono ?_)
      rintro e w4 ⟨⟨v, rfl, cs, rfl, sa, sc, rfl, hrg, hel⟩, h1, h2⟩
      obtain ⟨q, hq⟩ : ∃ q, q = orderR ws s3 := ⟨_, rfl⟩
      have HMs2 := Lib.hid (HMo.out s3)
      rw [← hq] at hrg hel h1 HE HMs2 ⊢
      clear hq
      obtain ⟨x2, s4⟩ := q
      dsimp only at hrg hel h1 HE HMs2 ⊢
      rw [show (etX x2.e sa sc ++ [.bool x2.desc] : List Value).toArray = #[.int .i64 x2.e.kind, .string x2.e.op, .int .i64 x2.e.vk, .int .i64 x2.e.vn, .string x2.e.vs, .string x2.e.tab, .string x2.e.col, .slice sa x2.e.parts.length sc, .bool x2.desc] from rfl]
      have HZ4 := Lib.hid (show w3.heap.size ≤ w4.heap.size from h2.size)
      have HT4 := Lib.hid (HT3.out.trans h2)
      have HL4 := Lib.hid (HL3.out.rto h2 HN.out)
      have hov : ∀ bb, w3.heap.size ≤ bb → u5.ownBlock ≠ some bb := fun bb hb e => by have := (HL3.out.own.lt bb e).2; omega
      have HX4 := Lib.hid (show odS.R w4 (fun bb => w.heap.size ≤ bb ∧ u5.ownBlock ≠ some bb) [.int .i64 x2.e.kind, .string x2.e.op, .int .i64 x2.e.vk, .int .i64 x2.e.vn, .string x2.e.vs, .string x2.e.tab, .string x2.e.col, .slice sa x2.e.parts.length sc, .bool x2.desc] x2 from odS.mono ⟨sa, sc, rfl, hrg, hel⟩ (fun bb hb _ => ⟨Nat.le_trans HT3.out.size hb, hov bb hb⟩))
      have HS4 := Lib.hid h1
      clear h1 h2 hrg hel hov
      have HB5 := Lib.hid (bel0 (.cells #[.int .i64 x2.e.kind, .string x2.e.op, .int .i64 x2.e.vk, .int .i64 x2.e.vn, .string x2.e.vs, .string x2.e.tab, .string x2.e.col, .slice sa x2.e.parts.length sc, .bool x2.desc] 131 (0, 0)) (Below.refl w4.heap.size w4))
      have HN5 := Lib.hid (Go.heap_alloc_new w4 (.cells #[.int .i64 x2.e.kind, .string x2.e.op, .int .i64 x2.e.vk, .int .i64 x2.e.vn, .string x2.e.vs, .string x2.e.tab, .string x2.e.col, .slice sa x2.e.parts.length sc, .bool x2.desc] 131 (0, 0)))
      have HS5 := Lib.hid (HS4.out.below HB5.out)
      have HT5 := Lib.hid (HT4.out.trans (RTo.of_below HB5.out (Nat.le_of_lt HS4.out.low)))
      have HL5 := Lib.hid (HL4.out.rto (RTo.of_below HB5.out (Nat.le_of_lt HS4.out.low)) HN.out)
      have HX5 := Lib.hid (odS.far HX4.out HB5.out.size (fun bb _ hlt => HB5.out.block bb hlt))
      have hll : l.length ≤ 100001 := by have h1 := HR.out.2.1.2; have h2 := HE.out.2.2; have h3 := HW5.out; omega
      obtain ⟨hi, hz0, hz1, hz2⟩ := HI.out
      go_wp2_with (at_builtin; refine wpList_append_lies _ rfl _ _ 41 rfl w.heap.size 131 i0 (.agg #[.int .i64 0, .string ⟨#[]⟩, .int .i64 0, .int .i64 0, .string ⟨#[]⟩, .string ⟨#[]⟩, .string ⟨#[]⟩, .slice none 0 0, .bool false]) 9 120 Tryz.underlying41 hi hz0 hz1 hz2 rfl (by decide) u5 l.length css.flatten rfl HL5.out.own ⟨w4.heap.size, 0, none⟩ 1 1 [.int .i64 x2.e.kind, .string x2.e.op, .int .i64 x2.e.vk, .int .i64 x2.e.vn, .string x2.e.vs, .string x2.e.tab, .string x2.e.col, .slice sa x2.e.parts.length sc, .bool x2.desc] rfl rfl ?ca ?cb (by omega) (by unfold maxLen; omega) (by omega) HT5.out.size _ rfl ?_)
      case ca => exact World.news_of_block HN5.out
      case cb =>
        intro u hu
        simp only [List.mem_cons, List.not_mem_nil, or_false] at hu
        rcases hu with rfl | rfl | rfl | rfl | rfl | rfl | rfl | rfl | rfl
        all_goals rfl
      intro g cap w6 hown hgrow hor hlt6
      have HS6 := Lib.hid (HS5.out.grown HN.out HL5.out.own hgrow)
      have HT6 := Lib.hid (HT5.out.grown (Nat.le_of_lt HS5.out.low) (Nat.le_refl _) (Nat.le_of_lt HN.out) HL5.out.own hgrow)
      have HL6 := Lib.hid (HL5.out.push HX5.out hgrow (hor.imp id (fun e => e.trans (Array.size_push _).symm)) hown)
      have HE2 := Lib.hid (show moreR ws (orderR ws) f (l ++ [x2]) s4 = listR ws (orderR ws) s from HE.out.1.symm.trans HR.out.2.2.2.2.1)
      have HP := Lib.hid (show s2.1 < s4.1 ∧ s2.1 < wn from by have h1 := HE.out.2; have h2 := HMs2.out; have h3 := HW5.out.1; omega)
      have HPo := Lib.hid (show posOf N wr = s2.1 from HR.out.2.2.1.posOf)
      have HPo6 := Lib.hid (show posOf N w6 = s4.1 from HS6.out.posOf)
      have HLl := Lib.hid (show (l ++ [x2]).length = l.length + 1 by simp)
      clear hown hgrow hor hlt6 hi hz0 hz1 hz2
      go_wp2
      go_roundw
      case rel =>
        first
          | exact ⟨f, _, _, s4, Lib.hid ⟨HL6.out, ⟨by rw [HLl.out]; omega, by rw [HLl.out]; have := HR.out.2.1.2; have := HP.out.1; omega⟩, HS6.out, HT6.out, HE2.out, by have := HR.out.2.2.2.2.2; have := HP.out; omega⟩⟩
          | (repeat apply Exists.intro
             refine ⟨?_, rfl⟩
             exact ⟨f, _, _, s4, Lib.hid ⟨HL6.out, ⟨by rw [HLl.out]; omega, by rw [HLl.out]; have := HR.out.2.1.2; have := HP.out.1; omega⟩, HS6.out, HT6.out, HE2.out, by have := HR.out.2.2.2.2.2; have := HP.out; omega⟩⟩)
      case measure => rw [HPo.out, HPo6.out]; have := HP.out; omega
end Go.Proofs.YtknhphcfcpjhiaaGreatDoor
