/- parse.list of names. Written by genpl.py. -/
import Derived.Test.YtknhphcfcpjhiaaGreatDoorPsQuT
import Derived.Test.YtknhphcfcpjhiaaGreatDoorPsQuF
import Derived.Test.YtknhphcfcpjhiaaGreatDoorPsQ
import Derived.Deep.CutBlock
namespace Go.Proofs.YtknhphcfcpjhiaaGreatDoor
open Go.RowKit
set_option linter.unusedVariables false
set_option linter.unusedSimpArgs false
set_option maxRecDepth 100000
theorem pquery_any (N : Nat) (w : World) (b off : Nat) (wn wc : Nat) (ws : List Wd) (s0 : PS) (h : RdS N w (some ⟨b, off, none⟩) wn wc ws s0) (hr : RCx b off wn wc ws) :
    Calls Tryz.prog 60 #[.pointer (some ⟨N, 0, none⟩)] w (PsV (AgV quS) N w (some ⟨b, off, none⟩) wn wc ws (queryR ws s0)) := by
  cases hst : (takeR ws 4 [42] (takeR ws 1 kDISTINCT s0).2).1 with
  | true => exact pquery_t N w b off wn wc ws s0 h hr hst
  | false => exact pquery_f N w b off wn wc ws s0 h hr hst
end Go.Proofs.YtknhphcfcpjhiaaGreatDoor
namespace Go.Proofs.YtknhphcfcpjhiaaGreatDoor
open Go.RowKit
set_option linter.unusedVariables false
set_option linter.unusedSimpArgs false
set_option maxRecDepth 100000
theorem info_co : (Tryz.prog.info? 89).map (fun i => (i.zero, i.size, i.bytes)) = some (some (.agg #[.string ⟨#[]⟩, .int .i64 0, .bool false, .bool false]), 4, 32) := by kernel_rfl
set_option maxHeartbeats 12800000 in
theorem plist_co (N : Nat) (w : World) (b off : Nat) (wn wc : Nat) (ws : List Wd) (s : PS) (h : RdS N w (some ⟨b, off, none⟩) wn wc ws s) (hr : RCx b off wn wc ws) :
    Calls Tryz.prog 144 #[.pointer (some ⟨N, 0, none⟩), .func (Fn.func 102) #[.pointer (some ⟨N, 0, none⟩)] #[]] w (PsV (SlV coS) N w (some ⟨b, off, none⟩) wn wc ws (listR ws (columnR ws) s)) := by
  have HRc := Lib.hid hr
  have HN := Lib.hid h.low
  have HW5 := Lib.hid (And.intro h.words.1 h.words.2.1)
  have HOne := Lib.hid (show ∀ (W : World) (s : PS), RTo N w W → RdS N W (some ⟨b, off, none⟩) wn wc ws s → Calls Tryz.prog 102 #[.pointer (some ⟨N, 0, none⟩)] W (PsV (AgV coS) N W (some ⟨b, off, none⟩) wn wc ws (columnR ws s)) from fun W s ht hs => pcolumn_any N W b off wn wc ws s hs HRc.out)
  have HList := Lib.hid (show listR ws (columnR ws) s = moreR ws (columnR ws) (ws.length + 1) [(columnR ws s).1] (columnR ws s).2 from rfl)
  have HMo := Lib.hid (column_mono ws)
  obtain ⟨i0, hi, hz0, hz1, hz2⟩ := info_parts info_co
  have HI := Lib.hid (And.intro hi (And.intro hz0 (And.intro hz1 hz2)))
  have HS0 := Lib.hid h
  clear h hr hi hz0 hz1 hz2
  go_enter Tryz.func144, Tryz.ntmps144
  go_wp2_with (go_at_call 102; refine (HOne.out w s (RTo.refl N w) HS0.out).mono ?_)
  rintro e w1 ⟨⟨v, rfl, cs, rfl, rfl, hsz, hkd⟩, h1, h2⟩
  obtain ⟨q, hq⟩ : ∃ q, q = columnR ws s := ⟨_, rfl⟩
  rw [← hq] at hsz hkd h1 HList ⊢
  have HMs := Lib.hid (HMo.out s)
  rw [← hq] at HMs
  clear hq
  obtain ⟨x, s1⟩ := q
  dsimp only at hsz hkd h1 HList HMs ⊢
  rw [show ([.string x.name, .int .i64 x.kind, .bool x.nn, .bool x.un] : List Value).toArray = #[.string x.name, .int .i64 x.kind, .bool x.nn, .bool x.un] from rfl]
  have HL1 := Lib.hid (LsO.one (S := coS) (T := 89) (B := w.heap.size) (w := w1) (cs := [.string x.name, .int .i64 x.kind, .bool x.nn, .bool x.un]) (x := x) ⟨rfl, hsz, hkd⟩ h2.size)
  have HBa := Lib.hid (bel0 (.cells #[.string x.name, .int .i64 x.kind, .bool x.nn, .bool x.un] 89 (0, 0)) (Below.refl w1.heap.size w1))
  have HS1 := Lib.hid (h1.below HBa.out)
  have HT1 := Lib.hid (h2.trans (RTo.of_below HBa.out (Nat.le_of_lt h1.low)))
  clear h1 h2 hsz hkd
  go_upto_block 1 with (fail)
  generalize w1.alloc (.cells #[.string x.name, .int .i64 x.kind, .bool x.nn, .bool x.un] 89) = w2 at *
  obtain ⟨vl, hvl⟩ : ∃ vl, vl = (.slice (some ⟨w1.heap.size, 0, none⟩) 1 1 : Value) := ⟨_, rfl⟩
  rw [← hvl] at HL1 ⊢
  clear hvl HBa
  go_wp2_with fail
  go_loopw [5] (fun v5 wr => ∃ (f : Nat) (l : List _) (css : List (List Value)) (s2 : PS), Hid (LsO coS 89 w.heap.size wr v5 l css ∧ (0 < l.length ∧ l.length ≤ s2.1 + 1) ∧ RdS N wr (some ⟨b, off, none⟩) wn wc ws s2 ∧ RTo N w wr ∧ moreR ws (columnR ws) f l s2 = listR ws (columnR ws) s ∧ wn - s2.1 < f)) (fun _ wr => wn - posOf N wr)
  case atStart => exact ⟨_, [x], _, s1, Lib.hid ⟨HL1.out, ⟨Nat.zero_lt_succ _, Nat.le_add_left _ _⟩, HS1.out, HT1.out, HList.out.symm, by have := HW5.out.1; omega⟩⟩
  case round =>
    obtain ⟨f, l, css, s2, HR⟩ := hrel
    obtain ⟨wq, hwq⟩ : ∃ wq, wq = wr := ⟨_, rfl⟩
    have HSg := Lib.hid (psign_any [44] N wr _ wn wc ws s2 HR.out.2.2.1)
    obtain ⟨q, hq⟩ : ∃ q, q = takeR ws 4 [44] s2 := ⟨_, rfl⟩
    have HQ := Lib.hid hq.symm
    rw [← hq] at HSg
    clear hq
    obtain ⟨tb, s3⟩ := q
    dsimp only at HSg
    rw [show bs [44] = ⟨#[44]⟩ from rfl] at HSg
    clear hwq wq
    go_wp2_with fail
    refine HSg.out.mono ?_
    rintro e w3 ⟨rfl, h1, h2⟩
    have HS3 := Lib.hid h1
    have HT3 := Lib.hid (HR.out.2.2.2.1.trans h2)
    have HL3 := Lib.hid (HR.out.1.rto h2 HN.out)
    clear h1 h2
    cases tb with
    | false =>
      have HE := Lib.hid (show listR ws (columnR ws) s = (l, s3) from HR.out.2.2.2.2.1.symm.trans (more_no HQ.out))
      have HF := Lib.hid (HL3.out.sl HR.out.2.1.1)
      go_wp2
      go_ret
      rw [HE.out]
      exact ⟨⟨_, rfl, HF.out⟩, HS3.out, HT3.out⟩
    | true =>
      have hnf : f ≠ 0 := by have := HR.out.2.2.2.2.2; omega
      obtain ⟨f, rfl⟩ : ∃ g, f = g + 1 := ⟨f - 1, by omega⟩
      have HE := Lib.hid (more_yes (one := columnR ws) (f := f) (l := l) HQ.out)
      clear hnf
      go_wp2_with (go_at_call 102; refine (HOne.out w3 s3 HT3.out HS3.out).mono ?_)
      rintro e w4 ⟨⟨v, rfl, cs, rfl, rfl, hsz, hkd⟩, h1, h2⟩
      obtain ⟨q, hq⟩ : ∃ q, q = columnR ws s3 := ⟨_, rfl⟩
      have HMs2 := Lib.hid (HMo.out s3)
      rw [← hq] at hsz hkd h1 HE HMs2 ⊢
      clear hq
      obtain ⟨x2, s4⟩ := q
      dsimp only at hsz hkd h1 HE HMs2 ⊢
      rw [show ([.string x2.name, .int .i64 x2.kind, .bool x2.nn, .bool x2.un] : List Value).toArray = #[.string x2.name, .int .i64 x2.kind, .bool x2.nn, .bool x2.un] from rfl]
      have HZ4 := Lib.hid (show w3.heap.size ≤ w4.heap.size from h2.size)
      have HT4 := Lib.hid (HT3.out.trans h2)
      have HL4 := Lib.hid (HL3.out.rto h2 HN.out)
      have hov : ∀ bb, w3.heap.size ≤ bb → u5.ownBlock ≠ some bb := fun bb hb e => by have := (HL3.out.own.lt bb e).2; omega
      have HX4 := Lib.hid (show coS.R w4 (fun bb => w.heap.size ≤ bb ∧ u5.ownBlock ≠ some bb) [.string x2.name, .int .i64 x2.kind, .bool x2.nn, .bool x2.un] x2 from coS.mono ⟨rfl, hsz, hkd⟩ (fun bb hb _ => ⟨Nat.le_trans HT3.out.size hb, hov bb hb⟩))
      have HS4 := Lib.hid h1
      clear h1 h2 hsz hkd hov
      have HB5 := Lib.hid (bel0 (.cells #[.string x2.name, .int .i64 x2.kind, .bool x2.nn, .bool x2.un] 89 (0, 0)) (Below.refl w4.heap.size w4))
      have HN5 := Lib.hid (Go.heap_alloc_new w4 (.cells #[.string x2.name, .int .i64 x2.kind, .bool x2.nn, .bool x2.un] 89 (0, 0)))
      have HS5 := Lib.hid (HS4.out.below HB5.out)
      have HT5 := Lib.hid (HT4.out.trans (RTo.of_below HB5.out (Nat.le_of_lt HS4.out.low)))
      have HL5 := Lib.hid (HL4.out.rto (RTo.of_below HB5.out (Nat.le_of_lt HS4.out.low)) HN.out)
      have HX5 := Lib.hid (coS.far HX4.out HB5.out.size (fun bb _ hlt => HB5.out.block bb hlt))
      have hll : l.length ≤ 100001 := by have h1 := HR.out.2.1.2; have h2 := HE.out.2.2; have h3 := HW5.out; omega
      obtain ⟨hi, hz0, hz1, hz2⟩ := HI.out
      go_wp2_with (at_builtin; refine wpList_append_lies _ rfl _ _ 22 rfl w.heap.size 89 i0 (.agg #[.string ⟨#[]⟩, .int .i64 0, .bool false, .bool false]) 4 32 Tryz.underlying22 hi hz0 hz1 hz2 rfl (by decide) u5 l.length css.flatten rfl HL5.out.own ⟨w4.heap.size, 0, none⟩ 1 1 [.string x2.name, .int .i64 x2.kind, .bool x2.nn, .bool x2.un] rfl rfl ?ca ?cb (by omega) (by unfold maxLen; omega) (by omega) HT5.out.size _ rfl ?_)
      case ca => exact World.news_of_block HN5.out
      case cb =>
        intro u hu
        simp only [List.mem_cons, List.not_mem_nil, or_false] at hu
        rcases hu with rfl | rfl | rfl | rfl
        all_goals rfl
      intro g cap w6 hown hgrow hor hlt6
      have HS6 := Lib.hid (HS5.out.grown HN.out HL5.out.own hgrow)
      have HT6 := Lib.hid (HT5.out.grown (Nat.le_of_lt HS5.out.low) (Nat.le_refl _) (Nat.le_of_lt HN.out) HL5.out.own hgrow)
      have HL6 := Lib.hid (HL5.out.push HX5.out hgrow (hor.imp id (fun e => e.trans (Array.size_push _).symm)) hown)
      have HE2 := Lib.hid (show moreR ws (columnR ws) f (l ++ [x2]) s4 = listR ws (columnR ws) s from HE.out.1.symm.trans HR.out.2.2.2.2.1)
      have HP := Lib.hid (show s2.1 < s4.1 ∧ s2.1 < wn from by have h1 := HE.out.2; have h2 := HMs2.out; have h3 := HW5.out.1; omega)
      have HPo := Lib.hid (show posOf N wr = s2.1 from HR.out.2.2.1.posOf)
      have HPo6 := Lib.hid (show posOf N w6 = s4.1 from HS6.out.posOf)
      have HLl := Lib.hid (show (l ++ [x2]).length = l.length + 1 by simp)
      clear hown hgrow hor hlt6 hi hz0 hz1 hz2
      go_wp2
      go_roundw
      case rel =>
        first
          | exact ⟨f, _, _, s4, Lib.hid ⟨HL6.out, ⟨by rw [HLl.out]; omega, by rw [HLl.out]; have := HR.out.2.1.2; have := HP.out.1; omega⟩, HS6.out, HT6.out, HE2.out, by have := HR.out.2.2.2.2.2; have := HP.out; omega⟩⟩
          | (repeat apply Exists.intro
             refine ⟨?_, rfl⟩
             exact ⟨f, _, _, s4, Lib.hid ⟨HL6.out, ⟨by rw [HLl.out]; omega, by rw [HLl.out]; have := HR.out.2.1.2; have := HP.out.1; omega⟩, HS6.out, HT6.out, HE2.out, by have := HR.out.2.2.2.2.2; have := HP.out; omega⟩⟩)
      case measure => rw [HPo.out, HPo6.out]; have := HP.out; omega
end Go.Proofs.YtknhphcfcpjhiaaGreatDoor
namespace Go.Proofs.YtknhphcfcpjhiaaGreatDoor
open Go.RowKit
set_option linter.unusedVariables false
set_option linter.unusedSimpArgs false
set_option maxRecDepth 100000
set_option maxHeartbeats 6400000 in
theorem pbrack_co (N : Nat) (w : World) (b off : Nat) (wn wc : Nat) (ws : List Wd) (s : PS) (h : RdS N w (some ⟨b, off, none⟩) wn wc ws s) (hr : RCx b off wn wc ws) :
    Calls Tryz.prog 101 #[.pointer (some ⟨N, 0, none⟩), .func (Fn.func 102) #[.pointer (some ⟨N, 0, none⟩)] #[]] w (PsV (SlV coS) N w (some ⟨b, off, none⟩) wn wc ws (brackR ws (columnR ws) s)) := by
  have HRc := Lib.hid hr
  have HN := Lib.hid h.low
  have HE := Lib.hid (show brackR ws (columnR ws) s = ((listR ws (columnR ws) (mustG ws [40] s)).1, mustG ws [41] (listR ws (columnR ws) (mustG ws [40] s)).2) from rfl)
  have HM1 := Lib.hid (mustSign_any [40] N w _ wn wc ws s h)
  rw [show bs [40] = ⟨#[40]⟩ from rfl] at HM1
  clear h hr
  go_enter Tryz.func101, Tryz.ntmps101
  go_wp2_with (go_at_call 104; refine HM1.out.mono ?_)
  rintro e w1 ⟨rfl, h1, h2⟩
  obtain ⟨s1, hs1⟩ : ∃ s1, s1 = mustG ws [40] s := ⟨_, rfl⟩
  rw [← hs1] at h1 HE
  clear hs1
  have HL := Lib.hid (plist_co N w1 b off wn wc ws s1 h1 HRc.out)
  have HT1 := Lib.hid h2
  clear h1 h2 HM1
  go_wp2_with (go_at_call 144; refine HL.out.mono ?_)
  rintro e w2 ⟨⟨v, rfl, hv⟩, h1, h2⟩
  obtain ⟨q, hq⟩ : ∃ q, q = listR ws (columnR ws) s1 := ⟨_, rfl⟩
  rw [← hq] at hv h1 HE
  clear hq HL
  obtain ⟨l, s2⟩ := q
  dsimp only at hv h1 HE
  have HM2 := Lib.hid (mustSign_any [41] N w2 _ wn wc ws s2 h1)
  rw [show bs [41] = ⟨#[41]⟩ from rfl] at HM2
  have HV := Lib.hid (hv.mono (Q' := fun b => w.heap.size ≤ b) (fun b hb _ => Nat.le_trans HT1.out.size hb))
  have HT2 := Lib.hid (HT1.out.trans h2)
  clear hv h1 h2
  go_wp2_with (go_at_call 104; refine HM2.out.mono ?_)
  rintro e w3 ⟨rfl, h1, h2⟩
  have HV3 := Lib.hid (HV.out.rto h2 HN.out)
  have HS3 := Lib.hid h1
  have HT3 := Lib.hid (HT2.out.trans h2)
  clear h1 h2
  go_wp2
  go_ret
  rw [HE.out]
  exact ⟨⟨_, rfl, HV3.out⟩, HS3.out, HT3.out⟩
end Go.Proofs.YtknhphcfcpjhiaaGreatDoor
namespace Go.Proofs.YtknhphcfcpjhiaaGreatDoor
open Go.RowKit
set_option linter.unusedVariables false
set_option linter.unusedSimpArgs false
set_option maxRecDepth 100000
theorem info_st : (Tryz.prog.info? 9).map (fun i => (i.zero, i.size, i.bytes)) = some (some (.string ⟨#[]⟩), 1, 16) := by kernel_rfl
set_option maxHeartbeats 12800000 in
theorem plist_st (N : Nat) (w : World) (b off : Nat) (wn wc : Nat) (ws : List Wd) (s : PS) (h : RdS N w (some ⟨b, off, none⟩) wn wc ws s) (hr : RCx b off wn wc ws) :
    Calls Tryz.prog 145 #[.pointer (some ⟨N, 0, none⟩), .func (Fn.func 52) #[.pointer (some ⟨N, 0, none⟩)] #[]] w (PsV (SlV stS) N w (some ⟨b, off, none⟩) wn wc ws (listR ws (nameR ws) s)) := by
  have HRc := Lib.hid hr
  have HN := Lib.hid h.low
  have HW5 := Lib.hid (And.intro h.words.1 h.words.2.1)
  have HOne := Lib.hid (show ∀ (W : World) (s : PS), RTo N w W → RdS N W (some ⟨b, off, none⟩) wn wc ws s → Calls Tryz.prog 52 #[.pointer (some ⟨N, 0, none⟩)] W (PsV (fun _ _ v x => v = .string x ∧ x.size ≤ maxLen) N W (some ⟨b, off, none⟩) wn wc ws (nameR ws s)) from fun W s ht hs => (pname_any2 N W _ wn wc ws s hs HRc.out.z).mono (fun e w2 hx => ⟨⟨_, hx.1, rfl, nameR_le ws s⟩, hx.2⟩))
  have HList := Lib.hid (show listR ws (nameR ws) s = moreR ws (nameR ws) (ws.length + 1) [(nameR ws s).1] (nameR ws s).2 from rfl)
  have HMo := Lib.hid (name_mono ws)
  obtain ⟨i0, hi, hz0, hz1, hz2⟩ := info_parts info_st
  have HI := Lib.hid (And.intro hi (And.intro hz0 (And.intro hz1 hz2)))
  have HS0 := Lib.hid h
  clear h hr hi hz0 hz1 hz2
  go_enter Tryz.func145, Tryz.ntmps145
  go_wp2_with (go_at_call 52; refine (HOne.out w s (RTo.refl N w) HS0.out).mono ?_)
  rintro e w1 ⟨⟨v, rfl, rfl, hsz⟩, h1, h2⟩
  obtain ⟨q, hq⟩ : ∃ q, q = nameR ws s := ⟨_, rfl⟩
  rw [← hq] at hsz h1 HList ⊢
  have HMs := Lib.hid (HMo.out s)
  rw [← hq] at HMs
  clear hq
  obtain ⟨x, s1⟩ := q
  dsimp only at hsz h1 HList HMs ⊢
  
  have HL1 := Lib.hid (LsO.one (S := stS) (T := 9) (B := w.heap.size) (w := w1) (cs := [.string x]) (x := x) ⟨rfl, hsz⟩ h2.size)
  have HBa := Lib.hid (bel0 (.cells #[.string x] 9 (0, 0)) (Below.refl w1.heap.size w1))
  have HS1 := Lib.hid (h1.below HBa.out)
  have HT1 := Lib.hid (h2.trans (RTo.of_below HBa.out (Nat.le_of_lt h1.low)))
  clear h1 h2 hsz
  go_upto_block 1 with (fail)
  generalize w1.alloc (.cells #[.string x] 9) = w2 at *
  obtain ⟨vl, hvl⟩ : ∃ vl, vl = (.slice (some ⟨w1.heap.size, 0, none⟩) 1 1 : Value) := ⟨_, rfl⟩
  rw [← hvl] at HL1 ⊢
  clear hvl HBa
  go_wp2_with fail
  go_loopw [5] (fun v5 wr => ∃ (f : Nat) (l : List _) (css : List (List Value)) (s2 : PS), Hid (LsO stS 9 w.heap.size wr v5 l css ∧ (0 < l.length ∧ l.length ≤ s2.1 + 1) ∧ RdS N wr (some ⟨b, off, none⟩) wn wc ws s2 ∧ RTo N w wr ∧ moreR ws (nameR ws) f l s2 = listR ws (nameR ws) s ∧ wn - s2.1 < f)) (fun _ wr => wn - posOf N wr)
  case atStart => exact ⟨_, [x], _, s1, Lib.hid ⟨HL1.out, ⟨Nat.zero_lt_succ _, Nat.le_add_left _ _⟩, HS1.out, HT1.out, HList.out.symm, by have := HW5.out.1; omega⟩⟩
  case round =>
    obtain ⟨f, l, css, s2, HR⟩ := hrel
    obtain ⟨wq, hwq⟩ : ∃ wq, wq = wr := ⟨_, rfl⟩
    have HSg := Lib.hid (psign_any [44] N wr _ wn wc ws s2 HR.out.2.2.1)
    obtain ⟨q, hq⟩ : ∃ q, q = takeR ws 4 [44] s2 := ⟨_, rfl⟩
    have HQ := Lib.hid hq.symm
    rw [← hq] at HSg
    clear hq
    obtain ⟨tb, s3⟩ := q
    dsimp only at HSg
    rw [show bs [44] = ⟨#[44]⟩ from rfl] at HSg
    clear hwq wq
    go_wp2_with fail
    refine HSg.out.mono ?_
    rintro e w3 ⟨rfl, h1, h2⟩
    have HS3 := Lib.hid h1
    have HT3 := Lib.hid (HR.out.2.2.2.1.trans h2)
    have HL3 := Lib.hid (HR.out.1.rto h2 HN.out)
    clear h1 h2
    cases tb with
    | false =>
      have HE := Lib.hid (show listR ws (nameR ws) s = (l, s3) from HR.out.2.2.2.2.1.symm.trans (more_no HQ.out))
      have HF := Lib.hid (HL3.out.sl HR.out.2.1.1)
      go_wp2
      go_ret
      rw [HE.out]
      exact ⟨⟨_, rfl, HF.out⟩, HS3.out, HT3.out⟩
    | true =>
      have hnf : f ≠ 0 := by have := HR.out.2.2.2.2.2; omega
      obtain ⟨f, rfl⟩ : ∃ g, f = g + 1 := ⟨f - 1, by omega⟩
      have HE := Lib.hid (more_yes (one := nameR ws) (f := f) (l := l) HQ.out)
      clear hnf
      go_wp2_with (go_at_call 52; refine (HOne.out w3 s3 HT3.out HS3.out).mono ?_)
      rintro e w4 ⟨⟨v, rfl, rfl, hsz⟩, h1, h2⟩
      obtain ⟨q, hq⟩ : ∃ q, q = nameR ws s3 := ⟨_, rfl⟩
      have HMs2 := Lib.hid (HMo.out s3)
      rw [← hq] at hsz h1 HE HMs2 ⊢
      clear hq
      obtain ⟨x2, s4⟩ := q
      dsimp only at hsz h1 HE HMs2 ⊢
      
      have HZ4 := Lib.hid (show w3.heap.size ≤ w4.heap.size from h2.size)
      have HT4 := Lib.hid (HT3.out.trans h2)
      have HL4 := Lib.hid (HL3.out.rto h2 HN.out)
      have hov : ∀ bb, w3.heap.size ≤ bb → u5.ownBlock ≠ some bb := fun bb hb e => by have := (HL3.out.own.lt bb e).2; omega
      have HX4 := Lib.hid (show stS.R w4 (fun bb => w.heap.size ≤ bb ∧ u5.ownBlock ≠ some bb) [.string x2] x2 from stS.mono ⟨rfl, hsz⟩ (fun bb hb _ => ⟨Nat.le_trans HT3.out.size hb, hov bb hb⟩))
      have HS4 := Lib.hid h1
      clear h1 h2 hsz hov
      have HB5 := Lib.hid (bel0 (.cells #[.string x2] 9 (0, 0)) (Below.refl w4.heap.size w4))
      have HN5 := Lib.hid (Go.heap_alloc_new w4 (.cells #[.string x2] 9 (0, 0)))
      have HS5 := Lib.hid (HS4.out.below HB5.out)
      have HT5 := Lib.hid (HT4.out.trans (RTo.of_below HB5.out (Nat.le_of_lt HS4.out.low)))
      have HL5 := Lib.hid (HL4.out.rto (RTo.of_below HB5.out (Nat.le_of_lt HS4.out.low)) HN.out)
      have HX5 := Lib.hid (stS.far HX4.out HB5.out.size (fun bb _ hlt => HB5.out.block bb hlt))
      have hll : l.length ≤ 100001 := by have h1 := HR.out.2.1.2; have h2 := HE.out.2.2; have h3 := HW5.out; omega
      obtain ⟨hi, hz0, hz1, hz2⟩ := HI.out
      go_wp2_with (at_builtin; refine wpList_append_lies _ rfl _ _ 23 rfl w.heap.size 9 i0 (.string ⟨#[]⟩) 1 16 Tryz.underlying23 hi hz0 hz1 hz2 rfl (by decide) u5 l.length css.flatten rfl HL5.out.own ⟨w4.heap.size, 0, none⟩ 1 1 [.string x2] rfl rfl ?ca ?cb (by omega) (by unfold maxLen; omega) (by omega) HT5.out.size _ rfl ?_)
      case ca => exact World.news_of_block HN5.out
      case cb =>
        intro u hu
        simp only [List.mem_cons, List.not_mem_nil, or_false] at hu
        rcases hu with rfl
        all_goals rfl
      intro g cap w6 hown hgrow hor hlt6
      have HS6 := Lib.hid (HS5.out.grown HN.out HL5.out.own hgrow)
      have HT6 := Lib.hid (HT5.out.grown (Nat.le_of_lt HS5.out.low) (Nat.le_refl _) (Nat.le_of_lt HN.out) HL5.out.own hgrow)
      have HL6 := Lib.hid (HL5.out.push HX5.out hgrow (hor.imp id (fun e => e.trans (Array.size_push _).symm)) hown)
      have HE2 := Lib.hid (show moreR ws (nameR ws) f (l ++ [x2]) s4 = listR ws (nameR ws) s from HE.out.1.symm.trans HR.out.2.2.2.2.1)
      have HP := Lib.hid (show s2.1 < s4.1 ∧ s2.1 < wn from by have h1 := HE.out.2; have h2 := HMs2.out; have h3 := HW5.out.1; omega)
      have HPo := Lib.hid (show posOf N wr = s2.1 from HR.out.2.2.1.posOf)
      have HPo6 := Lib.hid (show posOf N w6 = s4.1 from HS6.out.posOf)
      have HLl := Lib.hid (show (l ++ [x2]).length = l.length + 1 by simp)
      clear hown hgrow hor hlt6 hi hz0 hz1 hz2
      go_wp2
      go_roundw
      case rel =>
        first
          | exact ⟨f, _, _, s4, Lib.hid ⟨HL6.out, ⟨by rw [HLl.out]; omega, by rw [HLl.out]; have := HR.out.2.1.2; have := HP.out.1; omega⟩, HS6.out, HT6.out, HE2.out, by have := HR.out.2.2.2.2.2; have := HP.out; omega⟩⟩
          | (repeat apply Exists.intro
             refine ⟨?_, rfl⟩
             exact ⟨f, _, _, s4, Lib.hid ⟨HL6.out, ⟨by rw [HLl.out]; omega, by rw [HLl.out]; have := HR.out.2.1.2; have := HP.out.1; omega⟩, HS6.out, HT6.out, HE2.out, by have := HR.out.2.2.2.2.2; have := HP.out; omega⟩⟩)
      case measure => rw [HPo.out, HPo6.out]; have := HP.out; omega
end Go.Proofs.YtknhphcfcpjhiaaGreatDoor
