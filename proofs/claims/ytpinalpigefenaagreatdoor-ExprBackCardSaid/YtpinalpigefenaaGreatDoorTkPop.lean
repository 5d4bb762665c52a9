/- The package's taker: what close rests on: the last one is taken off; a part more behind a left one. -/
import Derived.Test.YtpinalpigefenaaGreatDoorBkW2
import Derived.Test.YtpinalpigefenaaGreatDoorTkTest
import Derived.Test.YtpinalpigefenaaGreatDoorLxKey
import Derived.Deep.RegionHeldLaw
set_option linter.unusedVariables false
set_option linter.unusedSimpArgs false
set_option maxRecDepth 100000
namespace Go.Proofs.YtpinalpigefenaaGreatDoor
open Go.RowKit
set_option maxHeartbeats 3200000 in
theorem wag_cnt (B b : Nat) (l : Bs) (w : World) (sa : Option Addr) (sc : Nat) (hd : Bd B b l w) (hl : l.length + 8 ≤ 1000000) :
    Calls Tryz.prog 91 #[.pointer (some ⟨b, 0, none⟩), .agg #[.int .i64 6, .string ⟨#[67, 79, 85, 78, 84]⟩, .int .i64 0, .int .i64 0, .string ⟨#[]⟩, .string ⟨#[]⟩, .string ⟨#[]⟩, .slice sa 0 sc]] w (WrP B b (l ++ [67, 79, 85, 78, 84, 40, 42, 41]) w) := by
  have HB := Lib.hid (bel0 (.cells #[.int .i64 6, .string ⟨#[67, 79, 85, 78, 84]⟩, .int .i64 0, .int .i64 0, .string ⟨#[]⟩, .string ⟨#[]⟩, .string ⟨#[]⟩, .slice sa 0 sc] 34) (Below.refl w.heap.size w))
  have HX := Lib.hid (Go.heap_alloc_new w (.cells #[.int .i64 6, .string ⟨#[67, 79, 85, 78, 84]⟩, .int .i64 0, .int .i64 0, .string ⟨#[]⟩, .string ⟨#[]⟩, .string ⟨#[]⟩, .slice sa 0 sc] 34 (0, 0)))
  have HD := Lib.hid hd
  have HNb := Lib.hid (show w.heap.size ≠ b by have := hd.lt; omega)
  have HLn := Lib.hid hl
  clear hd hl
  go_enter Tryz.func91, Tryz.ntmps91
  go_upto_region 1 with (fail)
  generalize w.alloc (.cells #[.int .i64 6, .string ⟨#[67, 79, 85, 78, 84]⟩, .int .i64 0, .int .i64 0, .string ⟨#[]⟩, .string ⟨#[]⟩, .string ⟨#[]⟩, .slice sa 0 sc] 34) = w1 at *
  obtain ⟨c0, c1, c2, c3, c4, c5, c6, c7, -, cN⟩ := row8 HX.out
  have HBB := Lib.hid (show Below B w w1 from HB.out.mono HD.out.2)
  have HD1 := Lib.hid (HD.out.below HB.out)
  have HK1 := Lib.hid (Kep.of_below (b := b) HB.out)
  have HS := Lib.hid (wstr_any B b l (⟨#[67, 79, 85, 78, 84]⟩ ++ ⟨#[40]⟩) w1 HD1.out (by have := HLn.out; show _ + 6 ≤ _; omega))
  have h3 : ¬ (9223372036854775807 < (⟨#[67, 79, 85, 78, 84]⟩ : ByteArray).size + 1) := by decide
  have h4 : ¬ (9223372036854775807 < 5 + 1) := by decide
  go_wp2_with fail
  refine HS.out.mono ?_
  rintro e' w3 ⟨rfl, hd3, hb3, hk3⟩
  have HD3 := Lib.hid (hd3.eq (l' := l ++ [67, 79, 85, 78, 84, 40]) rfl)
  have HBB3 := Lib.hid (HBB.out.trans hb3)
  have HK3 := Lib.hid (HK1.out.trans hk3)
  have HC3 := Lib.hid (box_kept hk3 HX.out HNb.out)
  clear hd3 hb3 hk3 c0 c1 c2 c3 c4 c5 c6 c7 cN
  obtain ⟨-, -, -, -, -, -, -, c7, -, cN⟩ := row8 HC3.out
  have HS2 := Lib.hid (wstr_any B b _ ⟨#[42]⟩ w3 HD3.out (by have := HLn.out; simp only [List.length_append, List.length_cons, List.length_nil]; show _ + 1 ≤ _; omega))
  go_wp2_with fail
  refine HS2.out.mono ?_
  rintro e' w4 ⟨rfl, hd4, hb4, hk4⟩
  have HD4 := Lib.hid hd4
  have HBB4 := Lib.hid (HBB3.out.trans hb4)
  have HK4 := Lib.hid (HK3.out.trans hk4)
  have HC4 := Lib.hid (box_kept hk4 HC3.out HNb.out)
  clear hd4 hb4 hk4 c7 cN
  obtain ⟨-, -, -, -, -, -, -, c7, -, cN⟩ := row8 HC4.out
  have HS3 := Lib.hid (wstr_any B b _ ⟨#[41]⟩ w4 HD4.out (by have := HLn.out; simp only [List.length_append, List.length_cons, List.length_nil]; show _ + 1 + 1 ≤ _; omega))
  go_wp2_with fail
  go_loopw [20] (fun i wr => i = .int .i64 0 ∧ wr = w4) (fun i _ => 0)
  case atStart => exact ⟨rfl, rfl⟩
  case round =>
    obtain ⟨rfl, rfl⟩ := hrel
    go_wp2_with fail
    refine HS3.out.mono ?_
    rintro e' w5 ⟨rfl, hd5, hb5, hk5⟩
    have HF := Lib.hid (And.intro hd5 (And.intro (HBB4.out.trans hb5) (HK4.out.trans hk5)))
    clear hd5 hb5 hk5
    go_wp2
    refine bodyPost_ret (results_none rfl _ _ _) rfl ?_
    exact ⟨rfl, HF.out.1.eq (by simp), HF.out.2.1, HF.out.2.2⟩
set_option maxHeartbeats 6400000 in
theorem wag_one {n : Nat} {p : ET} {op : ByteArray} (ho : op.size ≤ 100) (hW : WrOk n p) (B b : Nat) (l : Bs) (w : World) (b0 off sc : Nat) (pa : Option Addr) (pc : Nat) (hv : VB B w) (hp : PAt2 B w b0 off p pa pc) (hd : Bd B b l w) (hl : l.length + op.size + 2 + (prT n p).length ≤ 1000000) :
    Calls Tryz.prog 91 #[.pointer (some ⟨b, 0, none⟩), .agg #[.int .i64 6, .string op, .int .i64 0, .int .i64 0, .string ⟨#[]⟩, .string ⟨#[]⟩, .string ⟨#[]⟩, .slice (some ⟨b0, off, none⟩) 1 sc]] w (WrP B b (l ++ op.data.toList ++ [40] ++ prT n p ++ [41]) w) := by
  have HB := Lib.hid (bel0 (.cells #[.int .i64 6, .string op, .int .i64 0, .int .i64 0, .string ⟨#[]⟩, .string ⟨#[]⟩, .string ⟨#[]⟩, .slice (some ⟨b0, off, none⟩) 1 sc] 34) (Below.refl w.heap.size w))
  have HX := Lib.hid (Go.heap_alloc_new w (.cells #[.int .i64 6, .string op, .int .i64 0, .int .i64 0, .string ⟨#[]⟩, .string ⟨#[]⟩, .string ⟨#[]⟩, .slice (some ⟨b0, off, none⟩) 1 sc] 34 (0, 0)))
  have HD := Lib.hid hd
  have HNb := Lib.hid (show w.heap.size ≠ b by have := hd.lt; omega)
  have HLn := Lib.hid hl
  have HOs := Lib.hid (show op.data.toList.length = op.size from len_list op)
  have HP := Lib.hid (fun (W : World) (hW : Below B w W) => hp.lowB hW)
  have HWr := Lib.hid (fun (W : World) (hB : Below B w W) (l2 : Bs) (hd2 : Bd B b l2 W) hl2 => hW B b l2 W _ (hv.below hB) (hp.lowB hB).ev hd2 hl2)
  clear hd hl hp hv
  go_enter Tryz.func91, Tryz.ntmps91
  go_upto_region 1 with (fail)
  generalize w.alloc (.cells #[.int .i64 6, .string op, .int .i64 0, .int .i64 0, .string ⟨#[]⟩, .string ⟨#[]⟩, .string ⟨#[]⟩, .slice (some ⟨b0, off, none⟩) 1 sc] 34) = w1 at *
  obtain ⟨c0, c1, c2, c3, c4, c5, c6, c7, -, cN⟩ := row8 HX.out
  have HBB := Lib.hid (show Below B w w1 from HB.out.mono HD.out.2)
  have HD1 := Lib.hid (HD.out.below HB.out)
  have HK1 := Lib.hid (Kep.of_below (b := b) HB.out)
  have HS := Lib.hid (wstr_any B b l (op ++ ⟨#[40]⟩) w1 HD1.out (by have := HLn.out; rw [ByteArray.size_append, show (⟨#[40]⟩ : ByteArray).size = 1 from rfl]; omega))
  rw [bapp2] at HS
  have h3 : ¬ (9223372036854775807 < op.size + 1) := by omega
  go_wp2_with fail
  refine HS.out.mono ?_
  rintro e' w3 ⟨rfl, hd3, hb3, hk3⟩
  have HD3 := Lib.hid hd3
  have HBB3 := Lib.hid (HBB.out.trans hb3)
  have HK3 := Lib.hid (HK1.out.trans hk3)
  have HC3 := Lib.hid (box_kept hk3 HX.out HNb.out)
  clear hd3 hb3 hk3 c0 c1 c2 c3 c4 c5 c6 c7 cN
  obtain ⟨-, -, -, -, -, -, -, c7, -, cN⟩ := row8 HC3.out
  obtain ⟨tx, htx⟩ : ∃ tx : Nat → Bs, tx = fun k => l ++ (op.data.toList ++ [40]) ++ (if k = 0 then [] else prT n p) := ⟨_, rfl⟩
  have HT0 := Lib.hid (show l ++ (op.data.toList ++ [40]) = tx 0 by rw [htx]; simp)
  have HT1 := Lib.hid (show tx 0 ++ prT n p = tx 1 by rw [htx]; simp)
  have HT2 := Lib.hid (show tx 1 ++ [41] = l ++ op.data.toList ++ [40] ++ prT n p ++ [41] by rw [htx]; simp)
  have HL0 := Lib.hid (show (tx 0).length + (prT n p).length ≤ 1000000 ∧ (tx 1).length + 1 ≤ 2000000 by
    have := HLn.out
    rw [htx]
    simp only [List.length_append, HOs.out, List.length_cons, List.length_nil]
    simp
    omega)
  clear htx
  go_wp2_with fail
  go_loopw [20] (fun i wr => ∃ k : Nat, k ≤ 1 ∧ i = .int .i64 (k : Int) ∧ Hid (Bd B b (tx k) wr ∧ Below B w wr ∧ Kep b w wr)) (fun i _ => 1 - (intOf i).toNat)
  case atStart => exact ⟨0, by omega, rfl, Lib.hid ⟨HD3.out.eq HT0.out, HBB3.out, HK3.out⟩⟩
  case round =>
    obtain ⟨k, hk, rfl, HL⟩ := hrel
    by_cases hlt : k < 1
    · obtain rfl : k = 0 := by omega
      obtain ⟨q0, q1, q2, q3, q4, q5, q6, q7⟩ := (HP.out wr HL.out.2.1).cells
      have qN := (HP.out wr HL.out.2.1).low
      clear c7 cN hk hlt
      have HBa := Lib.hid (show Below wr.heap.size wr (wr.alloc (.cells #[.int .i64 p.kind, .string p.op, .int .i64 p.vk, .int .i64 p.vn, .string p.vs, .string p.tab, .string p.col, .slice pa p.parts.length pc] 34)) from bel0 _ (Below.refl _ _))
      have HCa := Lib.hid (HWr.out _ (HL.out.2.1.trans (HBa.out.mono HL.out.1.2)) _ (HL.out.1.below HBa.out) HL0.out.1)
      have hk0 : (0 : Int) ≤ ((0 : Nat) : Int) := by omega
      have hki : ((0 : Nat) : Int) < 1 := by omega
      go_wp2_with fail
      refine HCa.out.mono ?_
      rintro e' w4 ⟨rfl, hd4, hb4, hk4⟩
      have HF := Lib.hid (And.intro (hd4.eq HT1.out) (And.intro ((HL.out.2.1.trans (HBa.out.mono HL.out.1.2)).trans hb4) ((HL.out.2.2.trans (Kep.of_below HBa.out)).trans hk4)))
      clear hd4 hb4 hk4 q0 q1 q2 q3 q4 q5 q6 q7
      go_wp2
      go_roundw
      case rel => first | exact ⟨1, by omega, by go_num, HF⟩ | exact ⟨_, _, _, _, _, _, _, ⟨1, by omega, by go_num, HF⟩, rfl⟩ | (repeat apply Exists.intro; refine ⟨?_, rfl⟩; exact ⟨1, by omega, by go_num, HF⟩)
      case measure => simp [intOf]
    · obtain rfl : k = 1 := by omega
      have HS3 := Lib.hid (wstr_any B b _ ⟨#[41]⟩ wr HL.out.1 (by have := HL0.out.2; show _ + 1 ≤ _; omega))
      have hkk : ¬ (((1 : Nat) : Int) < 1) := by omega
      clear c7 cN
      go_wp2_with fail
      refine HS3.out.mono ?_
      rintro e' w5 ⟨rfl, hd5, hb5, hk5⟩
      have HF := Lib.hid (And.intro hd5 (And.intro (HL.out.2.1.trans hb5) (HL.out.2.2.trans hk5)))
      clear hd5 hb5 hk5
      go_wp2
      refine bodyPost_ret (results_none rfl _ _ _) rfl ?_
      exact ⟨rfl, HF.out.1.eq HT2.out, HF.out.2.1, HF.out.2.2⟩
end Go.Proofs.YtpinalpigefenaaGreatDoor
namespace Go.Proofs.YtpinalpigefenaaGreatDoor
open Go.RowKit
set_option linter.unusedVariables false
set_option linter.unusedSimpArgs false
set_option maxRecDepth 100000
theorem own_pop {w : World} {B g k c : Nat} {ms : List PM} {m : PM} (h : w.ownsRow B 292 12 (.slice (some ⟨g, 0, none⟩) (k + 1) c) (k + 1) (pmsX (ms ++ [m]))) (hk : ms.length = k) : w.ownsRow B 292 12 (.slice (some ⟨g, 0, none⟩) k c) k (pmsX ms) := by
  refine ⟨by rw [pmsX_length, hk], .inr ?_⟩
  rcases h.2 with ⟨h', _⟩ | ⟨g', cap', cur, he, hb, hg, h1, h2, hs, ht⟩
  · cases h'
  · simp only [Value.slice.injEq, Option.some.injEq, Addr.mk.injEq] at he
    obtain ⟨⟨rfl, _⟩, _, rfl⟩ := he
    refine ⟨g, c, cur, rfl, hb, hg, by omega, h2, hs, ?_⟩
    have h3 : (cur.toList.take ((k + 1) * 12)).take (k * 12) = cur.toList.take (k * 12) := by rw [List.take_take]; congr 1; omega
    rw [← h3, ht, pmsX_snoc, List.take_append_of_le_length (by rw [pmsX_length, hk]; exact Nat.le_refl _), List.take_of_length_le (by rw [pmsX_length, hk]; exact Nat.le_refl _)]
theorem own_last {w : World} {B g k c : Nat} {ms : List PM} {m : PM} (h : w.ownsRow B 292 12 (.slice (some ⟨g, 0, none⟩) (k + 1) c) (k + 1) (pmsX (ms ++ [m]))) (hk : ms.length = k) : ∀ j, j < 12 → w.cell? ⟨g, k * 12 + j, none⟩ = (pmX m)[j]? := by
  intro j hj
  rw [h.cellAt (k * 12 + j) (by omega), pmsX_at (ms ++ [m]) k j (by simp; omega) hj]
  simp [← hk]
theorem own_sliceP {w : World} {B n size : Nat} {e : TypeId} {v : Value} {xs : List Value} (h : w.ownsRow B e size v n xs) (hn : n ≠ 0) : ∃ g c, v = .slice (some ⟨g, 0, none⟩) n c ∧ B ≤ g ∧ n ≤ c ∧ c ≤ maxLen ∧ g < w.heap.size := by
  rcases h.2 with ⟨rfl, h0⟩ | ⟨g, cap, cur, rfl, hb, hg, h1, h2, _⟩
  · exact absurd h0 hn
  · exact ⟨g, cap, rfl, hb, h1, h2, (Array.getElem?_eq_some_iff.1 hg).1⟩
/-- the state behind a pop -/
theorem TSt.pop {A : Nat → Prop} {N : Nat} {w : World} {wa : Option Addr} {wn wc g k c : Nat} {ws : List Wd} {s : Tk} {ms : List PM} {m : PM} (h : TSt A N w wa wn wc ws (.slice (some ⟨g, 0, none⟩) (k + 1) c) s (ms ++ [m])) (hk : ms.length = k) :
    TSt A N (w.setCell ⟨N, 3, none⟩ (.slice (some ⟨g, 0, none⟩) k c)) wa wn wc ws (.slice (some ⟨g, 0, none⟩) k c) ⟨s.pos, s.least, ms.map (·.1)⟩ ms ∧ TTo N (.slice (some ⟨g, 0, none⟩) (k + 1) c) (.slice (some ⟨g, 0, none⟩) k c) w (w.setCell ⟨N, 3, none⟩ (.slice (some ⟨g, 0, none⟩) k c)) := by
  have hr := h.restN 3 (.slice (some ⟨g, 0, none⟩) k c)
  have hlen : (ms ++ [m]).length = k + 1 := by simp [hk]
  have ho := h.own
  rw [hlen] at ho
  have hf := h.few
  rw [← h.are] at hf
  have t := (TTo.refl N (.slice (some ⟨g, 0, none⟩) (k + 1) c) w).setN 3 (.slice (some ⟨g, 0, none⟩) k c)
  refine ⟨⟨Go.heap_setCell_same w N 3 _ _ _ h.rd, ?_, hr.1, rfl, fun m' hm => h.one m' (List.mem_append_left _ hm), fun m' hm => hr.2 m' (List.mem_append_left _ hm), h.pos, ?_, h.least⟩, t.below, t.block, fun i e => .inl e⟩
  · rw [hk]
    exact own_setT (own_pop ho hk) _ _
  · simp at hf
    show (ms.map (·.1)).length ≤ s.pos
    rw [List.length_map]; omega
theorem own_lastN {w : World} {B g k n c : Nat} {ms : List PM} {m : PM} (hn : n = k + 1) (h : w.ownsRow B 292 12 (.slice (some ⟨g, 0, none⟩) n c) n (pmsX (ms ++ [m]))) (hk : ms.length = k) : ∀ j, j < 12 → w.cell? ⟨g, k * 12 + j, none⟩ = (pmX m)[j]? := by
  subst hn
  exact own_last h hk
theorem TSt.popN {A : Nat → Prop} {N : Nat} {w : World} {wa : Option Addr} {wn wc g k n c : Nat} {ws : List Wd} {s : Tk} {ms : List PM} {m : PM} (hn : n = k + 1) (h : TSt A N w wa wn wc ws (.slice (some ⟨g, 0, none⟩) n c) s (ms ++ [m])) (hk : ms.length = k) :
    TSt A N (w.setCell ⟨N, 3, none⟩ (.slice (some ⟨g, 0, none⟩) k c)) wa wn wc ws (.slice (some ⟨g, 0, none⟩) k c) ⟨s.pos, s.least, ms.map (·.1)⟩ ms ∧ TTo N (.slice (some ⟨g, 0, none⟩) n c) (.slice (some ⟨g, 0, none⟩) k c) w (w.setCell ⟨N, 3, none⟩ (.slice (some ⟨g, 0, none⟩) k c)) := by
  subst hn
  exact h.pop hk
/-- cells of parts, one behind the other -/
def ptsX (pl : List (Pt × Option Addr × Nat)) : List Value := pl.flatMap fun q => ptX q.1 q.2.1 q.2.2
theorem ptsX_length : ∀ pl : List (Pt × Option Addr × Nat), (ptsX pl).length = pl.length * 10
  | [] => rfl
  | q :: pl => by show (ptX q.1 q.2.1 q.2.2 ++ ptsX pl).length = _; rw [List.length_append, ptsX_length pl]; simp [ptX]; omega
theorem ptsX_at : ∀ (pl : List (Pt × Option Addr × Nat)) (i j : Nat) (h : i < pl.length), j < 10 → (ptsX pl)[i * 10 + j]? = (ptX (pl[i]).1 (pl[i]).2.1 (pl[i]).2.2)[j]?
  | q :: pl, 0, j, _, hj => by
    show (ptX q.1 q.2.1 q.2.2 ++ ptsX pl)[0 * 10 + j]? = _
    rw [Nat.zero_mul, Nat.zero_add, List.getElem?_append_left (by simp [ptX]; omega)]; rfl
  | q :: pl, i + 1, j, hi, hj => by
    show (ptX q.1 q.2.1 q.2.2 ++ ptsX pl)[(i + 1) * 10 + j]? = _
    rw [List.getElem?_append_right (by simp [ptX]; omega), show (i + 1) * 10 + j - (ptX q.1 q.2.1 q.2.2).length = i * 10 + j by simp [ptX]; omega]
    exact ptsX_at pl i j (by simpa using hi) hj
theorem psAt_own {w : World} {B g n cap : Nat} {Q : Nat → Prop} {pl : List (Pt × Option Addr × Nat)} (h : w.ownsRow B 183 10 (.slice (some ⟨g, 0, none⟩) n cap) n (ptsX pl)) (hn : pl.length = n) (h1 : n ≤ 1000) (hs : ∀ q ∈ pl, PRg q.1 q.2.1 q.2.2 ∧ EL w Q q.2.1 q.1.e.parts) : PsAt w Q (some ⟨g, 0, none⟩) n (pl.map (·.1)) := by
  refine ⟨by rw [List.length_map]; exact hn, h1, .inr ⟨g, 0, rfl, (h.lt g rfl).2, fun i hi => ?_⟩⟩
  have hip : i < pl.length := by simpa using hi
  refine ⟨(pl[i]).2.1, (pl[i]).2.2, fun j hj => ?_, ?_, ?_⟩
  · rw [Nat.zero_add, h.cellAt (i * 10 + j) (by omega), ptsX_at pl i j hip hj, List.getElem_map]
  · rw [List.getElem_map]; exact (hs _ (List.getElem_mem hip)).1
  · rw [List.getElem_map]; exact (hs _ (List.getElem_mem hip)).2
theorem infoPt : (Tryz.prog.info? 183).map (fun i => (i.zero, i.size, i.bytes)) = some (some (.agg #[.int .i64 0, .string ⟨#[]⟩, .int .i64 0, .int .i64 0, .string ⟨#[]⟩, .string ⟨#[]⟩, .string ⟨#[]⟩, .slice none 0 0, .int .i64 0, .int .i64 0]), 10, 128) := by kernel_rfl
section
variable {W : World} {ops : Array Oper} {rest : List Oper} {o : Oper} {a : Act} {K : Act → World → Prop} {Q : Exit → Act → World → Prop} {E : Prop}
theorem step_pt (hgd : o.guard = none) (s x : Operand) (ho : o.op = .call { callee := .builtin .append, args := #[s, x], argTypes := #[290, 290] })
    (ao : Option Addr) (n : Nat) (pl : List (Pt × Option Addr × Nat)) (hs : a.eval s = .slice ao n n) (hpl : pl.length = n) (hn : n ≤ 10) (hnone : ao = none → n = 0) (hold : ∀ b, ao = some b → ∀ j u, (ptsX pl)[j]? = some u → W.cell? (b.add j) = some u)
    (b : Nat) (p : Pt) (sa : Option Addr) (sc : Nat) (hx : a.eval x = .slice (some ⟨b, 0, none⟩) 1 1) (hc : W.heap[b]? = some (.cells (ptX p sa sc).toArray 183 (0, 0)))
    (h : ∀ g cap w', w'.ownsRow W.heap.size 183 10 (.slice (some ⟨g, 0, none⟩) (n + 1) cap) (n + 1) (ptsX (pl ++ [(p, sa, sc)])) → Below W.heap.size W w' → K (a.put o.dst (.slice (some ⟨g, 0, none⟩) (n + 1) cap)) w') :
    if Region.wanted o (yielded ops a.tmps) = true then Oper.wp Tryz.prog o a W K Q else E := by
  obtain ⟨i0, hi, hz0, hz1, hz2⟩ := info_parts infoPt
  refine step_append_grows hgd s x 290 ho 183 i0 _ 10 128 Tryz.underlying290 hi hz0 hz1 hz2 rfl (by decide) ao n n (ptsX pl) hs (fun h => ⟨hnone h, hnone h⟩) (by rw [ptsX_length, hpl]) hold ⟨b, 0, none⟩ 1 1 (ptX p sa sc) hx rfl (World.news_of_block hc) ?_ (by omega) (by unfold maxLen; omega) (by omega) ?_
  · intro u hu
    simp only [ptX, List.mem_cons, List.not_mem_nil, or_false] at hu
    rcases hu with rfl | rfl | rfl | rfl | rfl | rfl | rfl | rfl | rfl | rfl <;> rfl
  · intro v' w' h1 h2
    obtain ⟨g, cap, rfl, -⟩ := own_sliceP h1 (by omega)
    refine h g cap w' ?_ ⟨h2.os, h2.tape, h2.output, h2.size, fun k hk => h2.block k hk (by simp)⟩
    rw [show ptsX (pl ++ [(p, sa, sc)]) = ptsX pl ++ ptX p sa sc by simp [ptsX]]
    exact h1
end
end Go.Proofs.YtpinalpigefenaaGreatDoor
