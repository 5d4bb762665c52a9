/- parse.list of sources. Written by genpso.py. -/
import Derived.Test.YtknhphcfcpjhiaaGreatDoorPsQ
import Derived.Deep.CutBlock
namespace Go.Proofs.YtknhphcfcpjhiaaGreatDoor
open Go.RowKit
set_option linter.unusedVariables false
set_option linter.unusedSimpArgs false
set_option maxRecDepth 100000
theorem source_mono (ws : List Wd) : MonoP (sourceR ws) := fun s => by
  have h1 := name_mono ws s
  have h2 := take_mono ws 1 kAS (nameR ws s).2
  unfold sourceR
  dsimp only
  split
  · exact Nat.le_trans (Nat.le_trans h1 h2) (name_mono ws _)
  · exact Nat.le_trans h1 h2
theorem join_yes {ws : List Wd} {f : Nat} {l : List So} {s s1 : PS} (h : takeR ws 1 kJOIN s = (true, s1)) : joinsR ws (f + 1) l s = joinsR ws f (l ++ [{ (sourceR ws s1).1 with on := (exprR ws (mustK ws [kON] (sourceR ws s1).2)).1 }]) (exprR ws (mustK ws [kON] (sourceR ws s1).2)).2 ∧ s1.1 = s.1 + 1 ∧ s.1 < ws.length := by
  unfold takeR at h
  obtain ⟨h1, h2⟩ := Prod.mk.inj h
  rw [h1] at h2
  have hlt : s.1 < ws.length := by
    unfold tkS at h1
    rw [Bool.and_eq_true] at h1
    exact isW_lt h1.2
  subst h2
  refine ⟨?_, rfl, hlt⟩
  conv => lhs; unfold joinsR
  rw [if_pos h1]
theorem join_no {ws : List Wd} {f : Nat} {l : List So} {s s1 : PS} (h : takeR ws 1 kJOIN s = (false, s1)) : joinsR ws f l s = (l, s1) := by
  unfold takeR at h
  obtain ⟨h1, h2⟩ := Prod.mk.inj h
  rw [h1] at h2
  have h3 : s1 = s := by rw [← h2]; rfl
  subst h3
  cases f with
  | zero => rfl
  | succ f =>
    unfold joinsR
    rw [if_neg (by rw [h1]; simp)]
theorem info_so : (Tryz.prog.info? 129).map (fun i => (i.zero, i.size, i.bytes)) = some (some (.agg #[.string ⟨#[]⟩, .string ⟨#[]⟩, .int .i64 0, .string ⟨#[]⟩, .int .i64 0, .int .i64 0, .string ⟨#[]⟩, .string ⟨#[]⟩, .string ⟨#[]⟩, .slice none 0 0]), 10, 144) := by kernel_rfl
set_option maxHeartbeats 12800000 in
theorem psources_any (N : Nat) (w : World) (b off : Nat) (wn wc : Nat) (ws : List Wd) (s : PS) (h : RdS N w (some ⟨b, off, none⟩) wn wc ws s) (hr : RCx b off wn wc ws) :
    Calls Tryz.prog 109 #[.pointer (some ⟨N, 0, none⟩)] w (PsV (SlV soS) N w (some ⟨b, off, none⟩) wn wc ws (sourcesR ws s)) := by
  have HRc := Lib.hid hr
  have HN := Lib.hid h.low
  have HW5 := Lib.hid (And.intro h.words.1 h.words.2.1)
  have HOne := Lib.hid (show ∀ (W : World) (s : PS), RTo N w W → RdS N W (some ⟨b, off, none⟩) wn wc ws s → Calls Tryz.prog 147 #[.pointer (some ⟨N, 0, none⟩)] W (PsV (AgV soS) N W (some ⟨b, off, none⟩) wn wc ws (sourceR ws s)) from fun W s ht hs => psource_any N W b off wn wc ws s hs HRc.out)
  have HList := Lib.hid (show sourcesR ws s = joinsR ws (ws.length + 1) [(sourceR ws s).1] (sourceR ws s).2 from rfl)
  have HMo := Lib.hid (source_mono ws)
  obtain ⟨i0, hi, hz0, hz1, hz2⟩ := info_parts info_so
  have HI := Lib.hid (And.intro hi (And.intro hz0 (And.intro hz1 hz2)))
  have HS0 := Lib.hid h
  clear h hr hi hz0 hz1 hz2
  go_enter Tryz.func109, Tryz.ntmps109
  go_wp2_with (go_at_call 147; refine (HOne.out w s (RTo.refl N w) HS0.out).mono ?_)
  rintro e w1 ⟨⟨v, rfl, cs, rfl, sa, sc, rfl, hrg, hel, hsz, hsn⟩, h1, h2⟩
  obtain ⟨q, hq⟩ : ∃ q, q = sourceR ws s := ⟨_, rfl⟩
  rw [← hq] at hrg hel hsz hsn h1 HList ⊢
  have HMs := Lib.hid (HMo.out s)
  rw [← hq] at HMs
  clear hq
  obtain ⟨x, s1⟩ := q
  dsimp only at hrg hel hsz hsn h1 HList HMs ⊢
  rw [show (.string x.tab :: .string x.name :: etX x.on sa sc : List Value).toArray = #[.string x.tab, .string x.name, .int .i64 x.on.kind, .string x.on.op, .int .i64 x.on.vk, .int .i64 x.on.vn, .string x.on.vs, .string x.on.tab, .string x.on.col, .slice sa x.on.parts.length sc] from rfl]
  have HL1 := Lib.hid (LsO.one (S := soS) (T := 129) (B := w.heap.size) (w := w1) (cs := [.string x.tab, .string x.name, .int .i64 x.on.kind, .string x.on.op, .int .i64 x.on.vk, .int .i64 x.on.vn, .string x.on.vs, .string x.on.tab, .string x.on.col, .slice sa x.on.parts.length sc]) (x := x) ⟨sa, sc, rfl, hrg, hel, hsz, hsn⟩ h2.size)
  have HBa := Lib.hid (bel0 (.cells #[.string x.tab, .string x.name, .int .i64 x.on.kind, .string x.on.op, .int .i64 x.on.vk, .int .i64 x.on.vn, .string x.on.vs, .string x.on.tab, .string x.on.col, .slice sa x.on.parts.length sc] 129 (0, 0)) (Below.refl w1.heap.size w1))
  have HS1 := Lib.hid (h1.below HBa.out)
  have HT1 := Lib.hid (h2.trans (RTo.of_below HBa.out (Nat.le_of_lt h1.low)))
  clear h1 h2 hrg hel hsz hsn
  go_upto_block 1 with (fail)
  generalize w1.alloc (.cells #[.string x.tab, .string x.name, .int .i64 x.on.kind, .string x.on.op, .int .i64 x.on.vk, .int .i64 x.on.vn, .string x.on.vs, .string x.on.tab, .string x.on.col, .slice sa x.on.parts.length sc] 129) = w2 at *
  obtain ⟨vl, hvl⟩ : ∃ vl, vl = (.slice (some ⟨w1.heap.size, 0, none⟩) 1 1 : Value) := ⟨_, rfl⟩
  rw [← hvl] at HL1 ⊢
  clear hvl HBa
  go_wp2_with fail
  go_loopw [3] (fun v5 wr => ∃ (f : Nat) (l : List _) (css : List (List Value)) (s2 : PS), Hid (LsO soS 129 w.heap.size wr v5 l css ∧ (0 < l.length ∧ l.length ≤ s2.1 + 1) ∧ RdS N wr (some ⟨b, off, none⟩) wn wc ws s2 ∧ RTo N w wr ∧ joinsR ws f l s2 = sourcesR ws s ∧ wn - s2.1 < f)) (fun _ wr => wn - posOf N wr)
  case atStart => exact ⟨_, [x], _, s1, Lib.hid ⟨HL1.out, ⟨Nat.zero_lt_succ _, Nat.le_add_left _ _⟩, HS1.out, HT1.out, HList.out.symm, by have := HW5.out.1; omega⟩⟩
  case round =>
    obtain ⟨f, l, css, s2, HR⟩ := hrel
    obtain ⟨wq, hwq⟩ : ∃ wq, wq = wr := ⟨_, rfl⟩
    have HSg := Lib.hid (pkeyword_any kJOIN N wr _ wn wc ws s2 HR.out.2.2.1)
    obtain ⟨q, hq⟩ : ∃ q, q = takeR ws 1 kJOIN s2 := ⟨_, rfl⟩
    have HQ := Lib.hid hq.symm
    rw [← hq] at HSg
    clear hq
    obtain ⟨tb, s3⟩ := q
    dsimp only at HSg
    rw [show bs kJOIN = ⟨#[74, 79, 73, 78]⟩ from rfl] at HSg
    clear hwq wq
    go_wp2_with fail
    refine HSg.out.mono ?_
    rintro e w3 ⟨rfl, h1, h2⟩
    have HS3 := Lib.hid h1
    have HT3 := Lib.hid (HR.out.2.2.2.1.trans h2)
    have HL3 := Lib.hid (HR.out.1.rto h2 HN.out)
    clear h1 h2
    cases tb with
    | false =>
      have HE := Lib.hid (show sourcesR ws s = (l, s3) from HR.out.2.2.2.2.1.symm.trans (join_no HQ.out))
      have HF := Lib.hid (HL3.out.sl HR.out.2.1.1)
      go_wp2
      go_ret
      rw [HE.out]
      exact ⟨⟨_, rfl, HF.out⟩, HS3.out, HT3.out⟩
    | true =>
      have hnf : f ≠ 0 := by have := HR.out.2.2.2.2.2; omega
      obtain ⟨f, rfl⟩ : ∃ g, f = g + 1 := ⟨f - 1, by omega⟩
      have HE := Lib.hid (join_yes (f := f) (l := l) HQ.out)
      clear hnf
      have HU3 := Lib.hid (RTo.refl N w3)
      go_wp2_with (go_at_call 147; refine (psource_any N w3 b off wn wc ws s3 HS3.out HRc.out).mono ?_)
      rintro e w4 ⟨⟨v, rfl, cs, rfl, sa0, sc0, rfl, hrg0, hel0, hsz, hsn⟩, h1, h2⟩
      clear hrg0 hel0
      have HMs2 := Lib.hid (HMo.out s3)
      obtain ⟨q, hq⟩ : ∃ q, q = sourceR ws s3 := ⟨_, rfl⟩
      rw [← hq] at hsz hsn h1 HE HMs2 ⊢
      clear hq
      obtain ⟨x2, s4⟩ := q
      dsimp only at hsz hsn h1 HE HMs2 ⊢
      rw [show (.string x2.tab :: .string x2.name :: etX x2.on sa0 sc0 : List Value).toArray = #[.string x2.tab, .string x2.name, .int .i64 x2.on.kind, .string x2.on.op, .int .i64 x2.on.vk, .int .i64 x2.on.vn, .string x2.on.vs, .string x2.on.tab, .string x2.on.col, .slice sa0 x2.on.parts.length sc0] from rfl]
      have HSz := Lib.hid (And.intro hsz hsn)
      have HS4 := Lib.hid h1
      have HU4 := Lib.hid (HU3.out.trans h2)
      have HW3 := Lib.hid h2.size
      have HNB := Lib.hid (show N < w4.heap.size from HS4.out.low)
      clear h1 h2 hsz hsn
      go_upto_region 4 with (fail)
      have HBa := Lib.hid (bel0 (.cells #[.string x2.tab, .string x2.name, .int .i64 x2.on.kind, .string x2.on.op, .int .i64 x2.on.vk, .int .i64 x2.on.vn, .string x2.on.vs, .string x2.on.tab, .string x2.on.col, .slice sa0 x2.on.parts.length sc0] 129) (Below.refl w4.heap.size w4))
      have HY5 := Lib.hid (Go.heap_alloc_new w4 (.cells #[.string x2.tab, .string x2.name, .int .i64 x2.on.kind, .string x2.on.op, .int .i64 x2.on.vk, .int .i64 x2.on.vn, .string x2.on.vs, .string x2.on.tab, .string x2.on.col, .slice sa0 x2.on.parts.length sc0] 129 (0, 0)))
      have HS5 := Lib.hid (HS4.out.below HBa.out)
      have HU5 := Lib.hid (HU4.out.trans (RTo.of_below HBa.out (Nat.le_of_lt HS4.out.low)))
      generalize w4.alloc (.cells #[.string x2.tab, .string x2.name, .int .i64 x2.on.kind, .string x2.on.op, .int .i64 x2.on.vk, .int .i64 x2.on.vn, .string x2.on.vs, .string x2.on.tab, .string x2.on.col, .slice sa0 x2.on.parts.length sc0] 129) = w5 at *
      clear HBa
      have HBk := Lib.hid (bel0 (.cells #[.string ⟨#[79, 78]⟩] 9) (Below.refl w5.heap.size w5))
      have HKx := Lib.hid (Go.heap_alloc_new w5 (.cells #[.string ⟨#[79, 78]⟩] 9 (0, 0)))
      have HMu := Lib.hid (must_any [kON] (by decide) N (w5.alloc (.cells #[.string ⟨#[79, 78]⟩] 9)) _ wn wc ws s4 (HS5.out.below HBk.out) (some ⟨w5.heap.size, 0, none⟩) 1 ⟨w5.heap.size, 0, rfl, by have := HS5.out.low; omega, (Array.getElem?_eq_some_iff.1 HKx.out).1, fun q hq => by
        have h0 : q = 0 := by simpa using hq
        subst h0
        exact cell_of_row _ _ 0 _ _ _ HKx.out⟩)
      have HMk := Lib.hid (mustK_mono ws [kON] s4)
      obtain ⟨s5, hsm⟩ : ∃ q, q = mustK ws [kON] s4 := ⟨_, rfl⟩
      rw [← hsm] at HMu HE HMk
      clear hsm
      have h2k := RTo.of_below (N := N) HBk.out (Nat.le_of_lt HS5.out.low)
      go_wp2_with fail
      refine HMu.out.mono ?_
      rintro e w6 ⟨rfl, h1, h2x⟩
      have h2 := h2k.trans h2x
      have HS6 := Lib.hid h1
      have HU6 := Lib.hid (HU5.out.trans h2)
      have HY6 := Lib.hid ((h2.block _ (Array.getElem?_eq_some_iff.1 HY5.out).1 (by have := HNB.out; omega)).trans HY5.out)
      clear h1 h2 h2k h2x HBk HKx HMu
      go_wp2_with fail
      refine (pexpr_any N w6 b off wn wc ws s5 HS6.out HRc.out.z HRc.out.cap).mono ?_
      rintro e w7 ⟨⟨v, rfl, sa, sc, rfl, hrg, hel⟩, h1, h2⟩
      rw [etX_arr]
      have HMe := Lib.hid (expr_mono ws s5)
      obtain ⟨q, hq⟩ : ∃ q, q = exprR ws s5 := ⟨_, rfl⟩
      rw [← hq] at hrg hel h1 HE HMe ⊢
      clear hq
      obtain ⟨E, s6⟩ := q
      dsimp only at hrg hel h1 HE HMe ⊢
      have HRg := Lib.hid hrg
      have HS7 := Lib.hid h1
      have HU7 := Lib.hid (HU6.out.trans h2)
      have HY7 := Lib.hid ((h2.block _ (Array.getElem?_eq_some_iff.1 HY6.out).1 (by have := HNB.out; omega)).trans HY6.out)
      have HE7 := Lib.hid (hel.mono (Q' := fun bb => w3.heap.size ≤ bb ∧ bb ≠ w4.heap.size) (fun bb hb _ => ⟨Nat.le_trans HU6.out.size hb, by have := (Array.getElem?_eq_some_iff.1 HY6.out).1; omega⟩))
      clear hrg hel h1 h2
      have HS8 := Lib.hid (HS7.out.setLe (R := w4.heap.size) HNB.out 2 [.int .i64 E.kind, .string E.op, .int .i64 E.vk, .int .i64 E.vn, .string E.vs, .string E.tab, .string E.col, .slice sa E.parts.length sc])
      have HU8 := Lib.hid (HU7.out.setLe (R := w4.heap.size) (Nat.le_of_lt HNB.out) HW3.out 2 [.int .i64 E.kind, .string E.op, .int .i64 E.vk, .int .i64 E.vn, .string E.vs, .string E.tab, .string E.col, .slice sa E.parts.length sc])
      have HY8 := Lib.hid (show (setLe w7 w4.heap.size 2 [.int .i64 E.kind, .string E.op, .int .i64 E.vk, .int .i64 E.vn, .string E.vs, .string E.tab, .string E.col, .slice sa E.parts.length sc]).heap[w4.heap.size]? = some (.cells #[.string x2.tab, .string x2.name, .int .i64 E.kind, .string E.op, .int .i64 E.vk, .int .i64 E.vn, .string E.vs, .string E.tab, .string E.col, .slice sa E.parts.length sc] 129 (0, 0)) from heap_setLe [.int .i64 E.kind, .string E.op, .int .i64 E.vk, .int .i64 E.vn, .string E.vs, .string E.tab, .string E.col, .slice sa E.parts.length sc] [.string x2.tab, .string x2.name] [.int .i64 x2.on.kind, .string x2.on.op, .int .i64 x2.on.vk, .int .i64 x2.on.vn, .string x2.on.vs, .string x2.on.tab, .string x2.on.col, .slice sa0 x2.on.parts.length sc0] w7 (by simp) HY7.out)
      have HE8 := Lib.hid (el_store HE7.out (R := w4.heap.size) (fun bb hb => hb.2) 2 [.int .i64 E.kind, .string E.op, .int .i64 E.vk, .int .i64 E.vn, .string E.vs, .string E.tab, .string E.col, .slice sa E.parts.length sc])
      obtain ⟨l0, l1, l2, l3, l4, l5, l6, l7, l8, l9, lz, lN⟩ := rowc_so HY7.out
      go_upto_region 6 with (fail)
      generalize hwa : setLe w7 w4.heap.size 2 [.int .i64 E.kind, .string E.op, .int .i64 E.vk, .int .i64 E.vn, .string E.vs, .string E.tab, .string E.col, .slice sa E.parts.length sc] = w8 at *
      have hwb : ((((((((w7.setCell ⟨w4.heap.size, 2, none⟩ (.int .i64 E.kind)).setCell ⟨w4.heap.size, 3, none⟩ (.string E.op)).setCell ⟨w4.heap.size, 4, none⟩ (.int .i64 E.vk)).setCell ⟨w4.heap.size, 5, none⟩ (.int .i64 E.vn)).setCell ⟨w4.heap.size, 6, none⟩ (.string E.vs)).setCell ⟨w4.heap.size, 7, none⟩ (.string E.tab)).setCell ⟨w4.heap.size, 8, none⟩ (.string E.col)).setCell ⟨w4.heap.size, 9, none⟩ (.slice sa E.parts.length sc)) = w8 := hwa
      rw [hwb]
      clear hwa hwb l0 l1 l2 l3 l4 l5 l6 l7 l8 l9 lz lN
      have hov : ∀ bb, w3.heap.size ≤ bb → u3.ownBlock ≠ some bb := fun bb hb e => by have := (HL3.out.own.lt bb e).2; omega
      have HX8 := Lib.hid (show soS.R w8 (fun bb => w.heap.size ≤ bb ∧ u3.ownBlock ≠ some bb) [.string x2.tab, .string x2.name, .int .i64 E.kind, .string E.op, .int .i64 E.vk, .int .i64 E.vn, .string E.vs, .string E.tab, .string E.col, .slice sa E.parts.length sc] { x2 with on := E } from ⟨sa, sc, rfl, HRg.out, HE8.out.mono (fun bb hb _ => ⟨Nat.le_trans HT3.out.size hb.1, hov bb hb.1⟩), HSz.out⟩)
      have HB5 := Lib.hid (bel0 (.cells #[.string x2.tab, .string x2.name, .int .i64 E.kind, .string E.op, .int .i64 E.vk, .int .i64 E.vn, .string E.vs, .string E.tab, .string E.col, .slice sa E.parts.length sc] 129 (0, 0)) (Below.refl w8.heap.size w8))
      have HN5 := Lib.hid (Go.heap_alloc_new w8 (.cells #[.string x2.tab, .string x2.name, .int .i64 E.kind, .string E.op, .int .i64 E.vk, .int .i64 E.vn, .string E.vs, .string E.tab, .string E.col, .slice sa E.parts.length sc] 129 (0, 0)))
      have HS5 := Lib.hid (HS8.out.below HB5.out)
      have HU9 := Lib.hid (HU8.out.trans (RTo.of_below HB5.out (Nat.le_of_lt HS8.out.low)))
      have HT5 := Lib.hid (HT3.out.trans HU9.out)
      have HL5 := Lib.hid (HL3.out.rto HU9.out HN.out)
      have HX5 := Lib.hid (soS.far HX8.out HB5.out.size (fun bb _ hlt => HB5.out.block bb hlt))
      clear hov
      obtain ⟨l0, l1, l2, l3, l4, l5, l6, l7, l8, l9, lz, lN⟩ := rowc_so HY8.out
      have hll : l.length ≤ 100001 := by have h1 := HR.out.2.1.2; have h2 := HE.out.2.2; have h3 := HW5.out; omega
      obtain ⟨hi, hz0, hz1, hz2⟩ := HI.out
      go_wp2_with (at_builtin; refine wpList_append_lies _ rfl _ _ 40 rfl w.heap.size 129 i0 (.agg #[.string ⟨#[]⟩, .string ⟨#[]⟩, .int .i64 0, .string ⟨#[]⟩, .int .i64 0, .int .i64 0, .string ⟨#[]⟩, .string ⟨#[]⟩, .string ⟨#[]⟩, .slice none 0 0]) 10 144 Tryz.underlying40 hi hz0 hz1 hz2 rfl (by decide) u3 l.length css.flatten rfl HL5.out.own ⟨w8.heap.size, 0, none⟩ 1 1 [.string x2.tab, .string x2.name, .int .i64 E.kind, .string E.op, .int .i64 E.vk, .int .i64 E.vn, .string E.vs, .string E.tab, .string E.col, .slice sa E.parts.length sc] rfl rfl ?ca ?cb (by omega) (by unfold maxLen; omega) (by omega) HT5.out.size _ rfl ?_)
      case ca => exact World.news_of_block HN5.out
      case cb =>
        intro u hu
        simp only [List.mem_cons, List.not_mem_nil, or_false] at hu
        rcases hu with rfl | rfl | rfl | rfl | rfl | rfl | rfl | rfl | rfl | rfl
        all_goals rfl
      intro g cap w6 hown hgrow hor hlt6
      have HS6 := Lib.hid (HS5.out.grown HN.out HL5.out.own hgrow)
      have HT6 := Lib.hid (HT5.out.grown (Nat.le_of_lt HS5.out.low) (Nat.le_refl _) (Nat.le_of_lt HN.out) HL5.out.own hgrow)
      have HL6 := Lib.hid (HL5.out.push HX5.out hgrow (hor.imp id (fun e => e.trans (Array.size_push _).symm)) hown)
      have HE2 := Lib.hid (show joinsR ws f (l ++ [{ x2 with on := E }]) s6 = sourcesR ws s from HE.out.1.symm.trans HR.out.2.2.2.2.1)
      have HP := Lib.hid (show s2.1 < s6.1 ∧ s2.1 < wn from by have h1 := HE.out.2; have h2 := HMs2.out; have h4 := HMk.out; have h5 := HMe.out; have h3 := HW5.out.1; omega)
      have HPo := Lib.hid (show posOf N wr = s2.1 from HR.out.2.2.1.posOf)
      have HPo6 := Lib.hid (show posOf N w6 = s6.1 from HS6.out.posOf)
      have HLl := Lib.hid (show (l ++ [{ x2 with on := E }]).length = l.length + 1 by simp)
      clear hown hgrow hor hlt6 hi hz0 hz1 hz2
      go_wp2
      go_roundw
      case rel =>
        first
          | exact ⟨f, _, _, s6, Lib.hid ⟨HL6.out, ⟨by rw [HLl.out]; omega, by rw [HLl.out]; have := HR.out.2.1.2; have := HP.out.1; omega⟩, HS6.out, HT6.out, HE2.out, by have := HR.out.2.2.2.2.2; have := HP.out; omega⟩⟩
          | (repeat apply Exists.intro
             refine ⟨?_, rfl⟩
             exact ⟨f, _, _, s6, Lib.hid ⟨HL6.out, ⟨by rw [HLl.out]; omega, by rw [HLl.out]; have := HR.out.2.1.2; have := HP.out.1; omega⟩, HS6.out, HT6.out, HE2.out, by have := HR.out.2.2.2.2.2; have := HP.out; omega⟩⟩)
      case measure => rw [HPo.out, HPo6.out]; have := HP.out; omega
end Go.Proofs.YtknhphcfcpjhiaaGreatDoor
