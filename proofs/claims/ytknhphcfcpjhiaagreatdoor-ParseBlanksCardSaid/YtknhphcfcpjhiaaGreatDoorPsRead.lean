/- parse.Read. -/
import Derived.Test.YtknhphcfcpjhiaaGreatDoorPsLong
import Derived.Test.YtknhphcfcpjhiaaGreatDoorTkPrs1
import Derived.Test.YtknhphcfcpjhiaaGreatDoorPsExR
namespace Go.Proofs.YtknhphcfcpjhiaaGreatDoor
open Go.RowKit Go.Great
set_option linter.unusedVariables false
set_option linter.unusedSimpArgs false
set_option maxRecDepth 100000
/-- the cells of a result and of a number behind it -/
theorem results_sm2 {fn : Func} {p u : Tmp} (h : fn.results = #[.cell p 45, .tmp u]) (tmps : Array Value) (w : World) (g : Nat) (x0 x1 x2 x3 x4 x5 x6 x7 x8 x9 x10 x11 x12 x13 x14 x15 x16 : Value)
    (hp : tmps.getD p undef = .pointer (some ⟨g, 0, none⟩)) (hg : w.heap[g]? = some (.cells #[x0, x1, x2, x3, x4, x5, x6, x7, x8, x9, x10, x11, x12, x13, x14, x15, x16] 45 (0, 0))) :
    (results fn tmps).run Tryz.prog w = .ok (.tuple #[.agg #[x0, x1, x2, x3, x4, x5, x6, x7, x8, x9, x10, x11, x12, x13, x14, x15, x16], tmps.getD u undef]) w := by
  have hp' : tmps[p]?.getD undef = .pointer (some ⟨g, 0, none⟩) := by simpa using hp
  have hl := run_loadVar_row (P := Tryz.prog) w g 45 45 #[x0, x1, x2, x3, x4, x5, x6, x7, x8, x9, x10, x11, x12, x13, x14, x15, x16] (0, 0) _ hg Tryz.underlying45 rfl (by
    have : (Tryz.prog.info? 45).map (·.size) = some 17 := by kernel_rfl
    exact this)
  simp [results, h, hp', asAddr, hl]
theorem own_cap {w : World} {B n sz : Nat} {T : TypeId} {v : Value} {xs : List Value} (h : w.ownsRow B T sz v n xs) : ∃ wa wc, v = .slice wa n wc ∧ n ≤ wc ∧ wc ≤ maxLen := by
  rcases h.2 with ⟨rfl, h0⟩ | ⟨g, cap, cur, rfl, _, _, h1, h2, _⟩
  · exact ⟨none, 0, by rw [h0], by omega, Nat.zero_le _⟩
  · exact ⟨_, cap, rfl, h1, h2⟩
theorem nil_no {ws : List Wd} (h : ws.length = 0) (k : Int) (t : Bs) (s : PS) : (takeR ws k t s).1 = false := by
  show tkS ws k t s = false
  cases ht : tkS ws k t s with
  | false => rfl
  | true =>
    unfold tkS at ht
    rw [Bool.and_eq_true] at ht
    have := isW_lt ht.2
    omega
theorem nil_pair {ws : List Wd} (h : ws.length = 0) (k : Int) (t : Bs) (s : PS) : takeR ws k t s = (false, (takeR ws k t s).2) := Prod.ext (nil_no h k t s) rfl
theorem pstatement_ws (N : Nat) (w : World) (wa : Option Addr) (wn wc : Nat) (ws : List Wd) (s0 : PS) (h : RdS N w wa wn wc ws s0) (hz : WsOk ws) (hcap : wn ≤ wc ∧ wc ≤ maxLen) :
    Calls Tryz.prog 19 #[.pointer (some ⟨N, 0, none⟩)] w (PsV (AgV smS) N w wa wn wc ws (statementR ws s0)) := by
  rcases h.words.2.2 with h0 | ⟨b, off, rfl, _⟩
  · have hl : ws.length = 0 := h.words.1.trans h0
    exact pstm_nil N w wa wn wc ws s0 _ _ _ _ _ _ _ _ _ h (nil_pair hl _ _ _) (nil_pair hl _ _ _) (nil_pair hl _ _ _) (nil_pair hl _ _ _) (nil_pair hl _ _ _) (nil_pair hl _ _ _) (nil_pair hl _ _ _) (nil_pair hl _ _ _) (nil_pair hl _ _ _)
  · exact pstatement_any N w b off wn wc ws s0 h ⟨hz, hcap⟩
theorem zst_lies (w : World) (Q : Nat → Prop) : smS.R w Q [.int .i64 0, .string ⟨#[]⟩, .string ⟨#[]⟩, .bool false, .slice none 0 0, .slice none 0 0, .slice none 0 0, .slice none 0 0, .slice none 0 0, .bool false, .bool false, .slice none 0 0, .slice none 0 0, .slice none 0 0, .slice none 0 0, .slice none 0 0, .int .i64 0] zST := nm_lies w Q 0 eB rfl eB_le
/-- parse.Read of a text -/
def ReadP (l : Bs) : ST × Int := match wordsA l with
  | .no x => (zST, x)
  | .ok ws => ReadW ws
def rdR (ws : List Wd) : ST × PS := statementR ws (0, 0)
def rdF (ws : List Wd) (m : PS) (s : ST) : ST × Int := if m.2 ≠ 0 then (zST, m.2) else if longR s = true then (zST, 5) else (s, 0)
def rdE (ws : List Wd) (s : ST) (c : PS) : ST × Int := rdF ws (if c.1 < ws.length then fl 3 c else c) s
def rdD (ws : List Wd) (r : ST × PS) : ST × Int := rdE ws r.1 (takeR ws 4 [59] r.2).2
def ReadR (w : World) (r : ST × Int) (e : Ending) (w' : World) : Prop := (∃ v, e = .returned (.tuple #[v, .int .i64 r.2]) ∧ AgV smS w' (fun b => w.heap.size ≤ b) v r.1) ∧ Below w.heap.size w w'
set_option maxHeartbeats 12800000 in
theorem read_any (s : ByteArray) (w : World) (hv : VOk w) (hN : gMax < w.heap.size ∧ gErr < w.heap.size) (hsz : s.size ≤ 9223372036854775806) :
    Calls Tryz.prog 9 #[.string s] w (ReadR w (ReadP s.data.toList)) := by
  have HB := Lib.hid (bel0 (.cells #[.int .i64 0, .string ⟨#[]⟩, .string ⟨#[]⟩, .bool false, .slice none 0 0, .slice none 0 0, .slice none 0 0, .slice none 0 0, .slice none 0 0, .bool false, .bool false, .slice none 0 0, .slice none 0 0, .slice none 0 0, .slice none 0 0, .slice none 0 0, .int .i64 0] 45) (Below.refl w.heap.size w))
  have HX := Lib.hid (Go.heap_alloc_new w (.cells #[.int .i64 0, .string ⟨#[]⟩, .string ⟨#[]⟩, .bool false, .slice none 0 0, .slice none 0 0, .slice none 0 0, .slice none 0 0, .slice none 0 0, .bool false, .bool false, .slice none 0 0, .slice none 0 0, .slice none 0 0, .slice none 0 0, .slice none 0 0, .int .i64 0] 45 (0, 0)))
  have HV := Lib.hid (hv.below HB.out hN)
  have HP := Lib.hid (show ReadP s.data.toList = (match wordsA s.data.toList with | .no x => (zST, x) | .ok ws => ReadW ws) from rfl)
  clear hv
  go_enter Tryz.func9, Tryz.ntmps9
  go_upto_region 1 with (fail)
  generalize hw1 : w.alloc (.cells #[.int .i64 0, .string ⟨#[]⟩, .string ⟨#[]⟩, .bool false, .slice none 0 0, .slice none 0 0, .slice none 0 0, .slice none 0 0, .slice none 0 0, .bool false, .bool false, .slice none 0 0, .slice none 0 0, .slice none 0 0, .slice none 0 0, .slice none 0 0, .int .i64 0] 45) = w1 at *
  have hs1 : w1.heap.size = w.heap.size + 1 := by rw [← hw1]; simp
  have HWd := Lib.hid (words_any s w1 HV.out ⟨by omega, by omega⟩ hsz)
  have HS1 := Lib.hid hs1
  clear hw1 hs1 hN hsz
  go_wp2_with fail
  refine HWd.out.mono ?_
  rintro e w2 hp
  cases hA : wordsA s.data.toList with
  | no x =>
    rw [hA] at hp
    obtain ⟨rfl, hx, hb⟩ := hp
    have HQ := Lib.hid (show ReadP s.data.toList = (zST, x) by rw [HP.out, hA])
    have hxb : (x != 0) = true := bne_iff_ne.2 hx
    have HBw := Lib.hid (show Below w.heap.size w w2 from HB.out.trans (hb.mono (by have := HS1.out; omega)))
    have HR := Lib.hid ((hb.block w.heap.size (by have := HS1.out; omega)).trans HX.out)
    have HFin := Lib.hid (wbox_sm HR.out (.int .i64 0) (.string ⟨#[]⟩) (.string ⟨#[]⟩) (.bool false) (.slice none 0 0) (.slice none 0 0) (.slice none 0 0) (.slice none 0 0) (.slice none 0 0) (.bool false) (.bool false) (.slice none 0 0) (.slice none 0 0) (.slice none 0 0) (.slice none 0 0) (.slice none 0 0) (.int .i64 0))
    have HBf := Lib.hid (setLe_below (Nat.le_refl w.heap.size) [.int .i64 0, .string ⟨#[]⟩, .string ⟨#[]⟩, .bool false, .slice none 0 0, .slice none 0 0, .slice none 0 0, .slice none 0 0, .slice none 0 0, .bool false, .bool false, .slice none 0 0, .slice none 0 0, .slice none 0 0, .slice none 0 0, .slice none 0 0, .int .i64 0] 0 w2 HBw.out)
    clear hA hx hb HP
    go_upto_region 3 with (fail)
    refine wp_region_lit ?_
    refine wpList_buildTo rfl _ _ rfl _ rfl #[.int .i64 0, .string ⟨#[]⟩, .string ⟨#[]⟩, .bool false, .slice none 0 0, .slice none 0 0, .slice none 0 0, .slice none 0 0, .slice none 0 0, .bool false, .bool false, .slice none 0 0, .slice none 0 0, .slice none 0 0, .slice none 0 0, .slice none 0 0, .int .i64 0] (by kernel_rfl) ?_
    refine wpList_readTo rfl _ rfl (.int .i64 x) rfl ?_
    refine wpl_store rfl _ _ _ rfl _ rfl w.heap.size [.int .i64 0, .string ⟨#[]⟩, .string ⟨#[]⟩, .bool false, .slice none 0 0, .slice none 0 0, .slice none 0 0, .slice none 0 0, .slice none 0 0, .bool false, .bool false, .slice none 0 0, .slice none 0 0, .slice none 0 0, .slice none 0 0, .slice none 0 0, .int .i64 0] rfl rfl _ _ HR.out (by kernel_rfl) rfl rfl ?_
    refine wpList_readTo rfl _ rfl (.int .i64 x) rfl ?_
    refine wpList_nil ?_
    go_wp2
    refine bodyPost_ret (results_sm2 rfl _ _ w.heap.size _ _ _ _ _ _ _ _ _ _ _ _ _ _ _ _ _ rfl HFin.out) rfl ?_
    rw [HQ.out]
    exact ⟨⟨_, rfl, _, rfl, zst_lies _ _⟩, HBf.out⟩
  | ok ws =>
    rw [hA] at hp
    obtain ⟨v, rfl, how, hb⟩ := hp
    have h6 := words_most hA
    have HG := Lib.hid (gd_ok (gd_words hA))
    have HIt := Lib.hid (show ReadP s.data.toList = rdD ws (rdR ws) by rw [HP.out, hA]; rfl)
    obtain ⟨wa, wc, hve, hwa⟩ := wsAt_own how (by omega)
    obtain ⟨wa', wc', hve', hca⟩ := own_cap how
    rw [hve] at hve'
    cases hve'
    subst hve
    have HWa := Lib.hid hwa
    have HCa := Lib.hid hca
    have HBw := Lib.hid (show Below w.heap.size w w2 from HB.out.trans (hb.mono (by have := HS1.out; omega)))
    have HR2 := Lib.hid ((hb.block w.heap.size (by have := HS1.out; omega)).trans HX.out)
    have HW2 := Lib.hid (show w.heap.size < w2.heap.size from (Array.getElem?_eq_some_iff.1 HR2.out).1)
    obtain ⟨n, hn⟩ : ∃ n, n = ws.length := ⟨_, rfl⟩
    have HNn := Lib.hid hn
    rw [← hn] at HWa HCa h6 ⊢
    clear hA hb HP how hwa hn hca HV HWd HX HB
    go_upto_region 5 with (fail)
    have HB23 := Lib.hid (bel0 (.cells #[.slice wa n wc, .int .i64 0, .int .i64 0] 75) (Below.refl w2.heap.size w2))
    have HRd3 := Lib.hid (Go.heap_alloc_new w2 (.cells #[.slice wa n wc, .int .i64 0, .int .i64 0] 75 (0, 0)))
    generalize w2.alloc (.cells #[.slice wa n wc, .int .i64 0, .int .i64 0] 75) = w3 at *
    have HS3 := Lib.hid (show RdS w2.heap.size w3 wa n wc ws (0, 0) from ⟨HRd3.out, WsB.keep (by
      obtain ⟨a1, a2, a3⟩ := HWa.out
      refine ⟨a1, a2, a3.imp id ?_⟩
      rintro ⟨b, off, c1, c2, c3⟩
      exact ⟨b, off, c1, c2, c2, c3⟩) HB23.out, Nat.zero_le _, by unfold InR; omega⟩)
    have HR3 := Lib.hid ((HB23.out.block _ HW2.out).trans HR2.out)
    have HT3 := Lib.hid (show RTo w2.heap.size w2 w3 from RTo.of_below HB23.out (Nat.le_refl _))
    have HCl := Lib.hid (pstatement_ws w2.heap.size w3 wa n wc ws (0, 0) HS3.out HG.out HCa.out)
    replace HIt := Lib.hid (show ReadP s.data.toList = rdD ws (statementR ws (0, 0)) from HIt.out)
    obtain ⟨q, hq⟩ : ∃ q, q = statementR ws (0, 0) := ⟨_, rfl⟩
    rw [← hq] at HIt HCl
    clear hq
    obtain ⟨lz, s1⟩ := q
    replace HIt := Lib.hid (show ReadP s.data.toList = rdE ws lz (takeR ws 4 [59] s1).2 from HIt.out)
    try dsimp only at HCl
    obtain ⟨N, hNd⟩ : ∃ N, N = w2.heap.size := ⟨_, rfl⟩
    have HNd := Lib.hid hNd
    rw [← hNd] at HCl HRd3 HS3 HT3 HW2 ⊢
    clear hNd
    go_wp2_with fail
    refine HCl.out.mono ?_
    rintro e w4 ⟨⟨_, rfl, _, rfl, _, _, _, _, _, _, rfl, ⟨azc, czc, rfl, hzc⟩, ⟨azk, czk, rfl, hzk⟩, ⟨azr, czr, rfl, hzr⟩, ⟨azs, czs, rfl, hzs⟩, ⟨azw, czw, rfl, hzw⟩, ⟨_, _, _, _, _, rfl, ⟨aqi, cqi, rfl, hvi⟩, ⟨aqf, cqf, rfl, hvf⟩, ⟨aqw, cqw, rfl, hvw⟩, ⟨aqg, cqg, rfl, hvg⟩, ⟨aqo, cqo, rfl, hvo⟩, hvl⟩, hzz⟩, h1, h2⟩
    have HVz4 := Lib.hid (show SmV w4 (fun b => w3.heap.size ≤ b) [.int .i64 lz.kind, .string lz.name, .string lz.on, .bool lz.uniq, .slice azc lz.cols.length czc, .slice azk lz.keys.length czk, .slice azr lz.rows.length czr, .slice azs lz.sets.length czs, .slice azw lz.whr.length czw, .bool lz.q.dist, .bool lz.q.star, .slice aqi lz.q.items.length cqi, .slice aqf lz.q.src.length cqf, .slice aqw lz.q.whr.length cqw, .slice aqg lz.q.group.length cqg, .slice aqo lz.q.ord.length cqo, .int .i64 lz.q.lim] lz from ⟨_, _, _, _, _, _, rfl, ⟨azc, czc, rfl, hzc⟩, ⟨azk, czk, rfl, hzk⟩, ⟨azr, czr, rfl, hzr⟩, ⟨azs, czs, rfl, hzs⟩, ⟨azw, czw, rfl, hzw⟩, ⟨_, _, _, _, _, rfl, ⟨aqi, cqi, rfl, hvi⟩, ⟨aqf, cqf, rfl, hvf⟩, ⟨aqw, cqw, rfl, hvw⟩, ⟨aqg, cqg, rfl, hvg⟩, ⟨aqo, cqo, rfl, hvo⟩, hvl⟩, hzz⟩)
    have HS4 := Lib.hid h1
    have HT4 := Lib.hid (HT3.out.trans h2)
    have HL4 := Lib.hid h2.size
    clear hvi hvf hvw hvg hvo hvl hzc hzk hzr hzs hzw hzz h1 h2 HCl
    rename_i K hK
    dsimp only
    refine hK _ _ ?_
    refine wpl_keep rfl _ rfl _ rfl #[.int .i64 0, .string ⟨#[]⟩, .string ⟨#[]⟩, .bool false, .slice none 0 0, .slice none 0 0, .slice none 0 0, .slice none 0 0, .slice none 0 0, .bool false, .bool false, .slice none 0 0, .slice none 0 0, .slice none 0 0, .slice none 0 0, .slice none 0 0, .int .i64 0] (by kernel_rfl) rfl _ _ _ rfl _ rfl [.int .i64 lz.kind, .string lz.name, .string lz.on, .bool lz.uniq, .slice azc lz.cols.length czc, .slice azk lz.keys.length czk, .slice azr lz.rows.length czr, .slice azs lz.sets.length czs, .slice azw lz.whr.length czw, .bool lz.q.dist, .bool lz.q.star, .slice aqi lz.q.items.length cqi, .slice aqf lz.q.src.length cqf, .slice aqw lz.q.whr.length cqw, .slice aqg lz.q.group.length cqg, .slice aqo lz.q.ord.length cqo, .int .i64 lz.q.lim] rfl rfl (by kernel_rfl) rfl rfl ?_
    refine wpList_nil ?_
    clear hK K
    have HB45 := Lib.hid (bel0 (.cells #[.int .i64 lz.kind, .string lz.name, .string lz.on, .bool lz.uniq, .slice azc lz.cols.length czc, .slice azk lz.keys.length czk, .slice azr lz.rows.length czr, .slice azs lz.sets.length czs, .slice azw lz.whr.length czw, .bool lz.q.dist, .bool lz.q.star, .slice aqi lz.q.items.length cqi, .slice aqf lz.q.src.length cqf, .slice aqw lz.q.whr.length cqw, .slice aqg lz.q.group.length cqg, .slice aqo lz.q.ord.length cqo, .int .i64 lz.q.lim] 45 (0, 0)) (Below.refl w4.heap.size w4))
    have HY5 := Lib.hid (Go.heap_alloc_new w4 (.cells #[.int .i64 lz.kind, .string lz.name, .string lz.on, .bool lz.uniq, .slice azc lz.cols.length czc, .slice azk lz.keys.length czk, .slice azr lz.rows.length czr, .slice azs lz.sets.length czs, .slice azw lz.whr.length czw, .bool lz.q.dist, .bool lz.q.star, .slice aqi lz.q.items.length cqi, .slice aqf lz.q.src.length cqf, .slice aqw lz.q.whr.length cqw, .slice aqg lz.q.group.length cqg, .slice aqo lz.q.ord.length cqo, .int .i64 lz.q.lim] 45 (0, 0)))
    have HS5 := Lib.hid (HS4.out.below HB45.out)
    have HT5 := Lib.hid (HT4.out.trans (RTo.of_below HB45.out (Nat.le_of_lt HS4.out.low)))
    have HVz5 := Lib.hid ((HVz4.out.mono (Q' := fun b => w3.heap.size ≤ b ∧ b < w4.heap.size) (fun b hb hlt => ⟨hb, hlt⟩)).far (w' := w4.alloc (.cells #[.int .i64 lz.kind, .string lz.name, .string lz.on, .bool lz.uniq, .slice azc lz.cols.length czc, .slice azk lz.keys.length czk, .slice azr lz.rows.length czr, .slice azs lz.sets.length czs, .slice azw lz.whr.length czw, .bool lz.q.dist, .bool lz.q.star, .slice aqi lz.q.items.length cqi, .slice aqf lz.q.src.length cqf, .slice aqw lz.q.whr.length cqw, .slice aqg lz.q.group.length cqg, .slice aqo lz.q.ord.length cqo, .int .i64 lz.q.lim] 45 (0, 0))) HB45.out.size (fun b hb hlt => HB45.out.block b hlt))
    have HN4 := Lib.hid (show N < w4.heap.size from HS4.out.low)
    obtain ⟨Y, hY⟩ : ∃ Y, Y = w4.heap.size := ⟨_, rfl⟩
    have hsY : (w4.alloc (.cells #[.int .i64 lz.kind, .string lz.name, .string lz.on, .bool lz.uniq, .slice azc lz.cols.length czc, .slice azk lz.keys.length czk, .slice azr lz.rows.length czr, .slice azs lz.sets.length czs, .slice azw lz.whr.length czw, .bool lz.q.dist, .bool lz.q.star, .slice aqi lz.q.items.length cqi, .slice aqf lz.q.src.length cqf, .slice aqw lz.q.whr.length cqw, .slice aqg lz.q.group.length cqg, .slice aqo lz.q.ord.length cqo, .int .i64 lz.q.lim] 45 (0, 0))).heap.size = Y + 1 := by rw [hY]; simp
    rw [← hY] at HY5 HN4 HVz5 HL4 ⊢
    go_upto_region 6 with (fail)
    generalize w4.alloc (.cells #[.int .i64 lz.kind, .string lz.name, .string lz.on, .bool lz.uniq, .slice azc lz.cols.length czc, .slice azk lz.keys.length czk, .slice azr lz.rows.length czr, .slice azs lz.sets.length czs, .slice azw lz.whr.length czw, .bool lz.q.dist, .bool lz.q.star, .slice aqi lz.q.items.length cqi, .slice aqf lz.q.src.length cqf, .slice aqw lz.q.whr.length cqw, .slice aqg lz.q.group.length cqg, .slice aqo lz.q.ord.length cqo, .int .i64 lz.q.lim] 45 (0, 0)) = w5 at *
    have HL5 := Lib.hid (show w3.heap.size ≤ Y ∧ Y < w5.heap.size from ⟨HL4.out, by omega⟩)
    clear hY hsY
    have HSg := Lib.hid (psign_any [59] N w5 _ n wc ws s1 HS5.out)
    obtain ⟨r, hrr⟩ : ∃ r, r = takeR ws 4 [59] s1 := ⟨_, rfl⟩
    rw [← hrr] at HSg HIt
    clear hrr
    obtain ⟨t, s2⟩ := r
    dsimp only at HSg HIt
    rw [show bs [59] = ⟨#[59]⟩ from rfl] at HSg
    go_wp2_with fail
    refine HSg.out.mono ?_
    rintro e w6 ⟨rfl, h1, h2⟩
    have HS6 := Lib.hid h1
    have HT6 := Lib.hid (HT5.out.trans h2)
    have HY6 := Lib.hid ((h2.block Y (Array.getElem?_eq_some_iff.1 HY5.out).1 (by have := HN4.out; omega)).trans HY5.out)
    have HVz6 := Lib.hid (HVz5.out.far h2.size (fun b hb hlt => h2.block b hlt (by have := HN4.out; have := HL5.out; have h9 := (Array.getElem?_eq_some_iff.1 HRd3.out).1; omega)))
    have HRd := Lib.hid (And.intro HS6.out.pos HS6.out.words.1)
    clear h1 h2
    replace HIt := Lib.hid (show ReadP s.data.toList = rdF ws (if s2.1 < ws.length then fl 3 s2 else s2) lz from HIt.out)
    -- behind the sign: is there more?
    obtain ⟨c0, c1, c2, cz⟩ := HS6.out.cells
    have hNl := HS6.out.low
    have HEnd := Lib.hid (show ∀ (W : World) (s3 : PS), RdS N W wa n wc ws s3 → RTo N w2 W → W.heap[Y]? = some (.cells #[.int .i64 lz.kind, .string lz.name, .string lz.on, .bool lz.uniq, .slice azc lz.cols.length czc, .slice azk lz.keys.length czk, .slice azr lz.rows.length czr, .slice azs lz.sets.length czs, .slice azw lz.whr.length czw, .bool lz.q.dist, .bool lz.q.star, .slice aqi lz.q.items.length cqi, .slice aqf lz.q.src.length cqf, .slice aqw lz.q.whr.length cqw, .slice aqg lz.q.group.length cqg, .slice aqo lz.q.ord.length cqo, .int .i64 lz.q.lim] 45 (0, 0)) → SmV W (fun b => w3.heap.size ≤ b ∧ b < Y) [.int .i64 lz.kind, .string lz.name, .string lz.on, .bool lz.uniq, .slice azc lz.cols.length czc, .slice azk lz.keys.length czk, .slice azr lz.rows.length czr, .slice azs lz.sets.length czs, .slice azw lz.whr.length czw, .bool lz.q.dist, .bool lz.q.star, .slice aqi lz.q.items.length cqi, .slice aqf lz.q.src.length cqf, .slice aqw lz.q.whr.length cqw, .slice aqg lz.q.group.length cqg, .slice aqo lz.q.ord.length cqo, .int .i64 lz.q.lim] lz → W.heap[w.heap.size]? = some (.cells #[.int .i64 0, .string ⟨#[]⟩, .string ⟨#[]⟩, .bool false, .slice none 0 0, .slice none 0 0, .slice none 0 0, .slice none 0 0, .slice none 0 0, .bool false, .bool false, .slice none 0 0, .slice none 0 0, .slice none 0 0, .slice none 0 0, .slice none 0 0, .int .i64 0] 45 (0, 0)) ∧ Below w.heap.size w W from fun W s3 hS hT hYc hVz => ⟨(hT.block _ (by rw [← HNd.out]; exact HW2.out) (by have := HW2.out; omega)).trans HR2.out, HBw.out.trans (hT.below.mono (Nat.le_of_lt HW2.out))⟩)
    by_cases hm : s2.1 < n
    · have hmi : (s2.1 : Int) < (n : Int) := by omega
      replace HIt := Lib.hid (show ReadP s.data.toList = rdF ws (fl 3 s2) lz by rw [HIt.out, if_pos (by rw [← HNn.out]; exact hm)])
      have HFl := Lib.hid (fail_any N w6 _ n wc ws s2 HS6.out 3 (by unfold InR; omega))
      clear hm
      go_wp2_with fail
      refine HFl.out.mono ?_
      rintro e w7 ⟨rfl, h1, h2⟩
      have HS7 := Lib.hid h1
      have HT7 := Lib.hid (HT6.out.trans h2)
      have HY7 := Lib.hid ((h2.block Y (Array.getElem?_eq_some_iff.1 HY6.out).1 (by have := HN4.out; omega)).trans HY6.out)
      have HVz7 := Lib.hid (HVz6.out.far h2.size (fun b hb hlt => h2.block b hlt (by have := HN4.out; have := HL5.out; have h9 := (Array.getElem?_eq_some_iff.1 HRd3.out).1; omega)))
      obtain ⟨hR7, hB7⟩ := HEnd.out w7 _ HS7.out HT7.out HY7.out HVz7.out
      have HR7 := Lib.hid hR7
      have HB7 := Lib.hid hB7
      have HM := Lib.hid HS7.out.met
      obtain ⟨s3, hs3⟩ : ∃ x, x = fl 3 s2 := ⟨_, rfl⟩
      rw [← hs3] at HS7 HIt HM
      clear h1 h2 hR7 hB7 hs3 c0 c1 c2 cz hNl hmi HSg HFl HS6 HT6 HY6 HVz6 HRd HS5 HT5 HY5 HVz5
      obtain ⟨c0, c1, c2, cz⟩ := HS7.out.cells
      have hNl := HS7.out.low
      by_cases hm : s3.2 = 0
      rotate_left
      · have hmb : (s3.2 != 0) = true := by simp [hm]
        have HQ := Lib.hid (show ReadP s.data.toList = (zST, s3.2) by rw [HIt.out]; unfold rdF; rw [if_pos hm])
        have HFin := Lib.hid (wbox_sm HR7.out (.int .i64 0) (.string ⟨#[]⟩) (.string ⟨#[]⟩) (.bool false) (.slice none 0 0) (.slice none 0 0) (.slice none 0 0) (.slice none 0 0) (.slice none 0 0) (.bool false) (.bool false) (.slice none 0 0) (.slice none 0 0) (.slice none 0 0) (.slice none 0 0) (.slice none 0 0) (.int .i64 0))
        have HBf := Lib.hid (setLe_below (Nat.le_refl w.heap.size) [.int .i64 0, .string ⟨#[]⟩, .string ⟨#[]⟩, .bool false, .slice none 0 0, .slice none 0 0, .slice none 0 0, .slice none 0 0, .slice none 0 0, .bool false, .bool false, .slice none 0 0, .slice none 0 0, .slice none 0 0, .slice none 0 0, .slice none 0 0, .int .i64 0] 0 w7 HB7.out)
        clear hm
        go_upto_region 10 with (fail)
        have HCm := Lib.hid (show ∀ W : World, W.heap[N]? = w7.heap[N]? → W.cell? ⟨N, 2, none⟩ = some (.int .i64 s3.2) from fun W hW => (World.cell?_of_block (by exact hW)).trans c2)
        have HNw := Lib.hid (show N ≠ w.heap.size by have := HW2.out; omega)
        refine wp_region_noPanic ?_
        refine wp_region_held_drew (S := fun W => W.cell? ⟨N, 2, none⟩ = some (.int .i64 s3.2)) (by kernel_rfl) (HCm.out _ rfl) (fun hS0 => ?_)
        refine wpAnyH_take (i := 0) (oi := { dst := some 30, op := .build 45 #[], type := 45, pos := "read.go:22", after := #[], guard := none }) (v := .agg #[.int .i64 0, .string ⟨#[]⟩, .string ⟨#[]⟩, .bool false, .slice none 0 0, .slice none 0 0, .slice none 0 0, .slice none 0 0, .slice none 0 0, .bool false, .bool false, .slice none 0 0, .slice none 0 0, .slice none 0 0, .slice none 0 0, .slice none 0 0, .int .i64 0]) (by kernel_rfl) (by kernel_rfl) (by kernel_rfl) (by kernel_rfl) (fun _ _ _ h => h) (Or.inl ⟨by rfl, ?_⟩) hS0 ?_
        · intro w' hSw
          go_simp
        try simp only [Act.put, List.setIfInBounds_toArray, List.set_cons_zero, List.set_cons_succ]
        refine wpAnyH_take (i := 1) (oi := { dst := some 31, op := .fieldAddr 75 (.tmp 6) 2, type := 0, pos := "read.go:22", after := #[{ on := 3, ground := .gcOnly .lateStores }], guard := none }) (v := .pointer (some ⟨N, 2, none⟩)) (by kernel_rfl) (by kernel_rfl) (by kernel_rfl) (by kernel_rfl) (fun _ _ _ h => h) (Or.inl ⟨by rfl, ?_⟩) hS0 ?_
        · intro w' hSw
          go_simp
        try simp only [Act.put, List.setIfInBounds_toArray, List.set_cons_zero, List.set_cons_succ]
        refine wpAnyH_take (i := 2) (oi := { dst := some 32, op := .load 46 (.tmp 31), type := 46, pos := "read.go:22", after := #[{ on := 1, ground := .data }, { on := 3, ground := .gcOnly .lateStores }], guard := none }) (v := .int .i64 s3.2) (by kernel_rfl) (by kernel_rfl) (by kernel_rfl) (by kernel_rfl) (fun _ _ _ h => h) (Or.inl ⟨by rfl, ?_⟩) hS0 ?_
        · intro w' hSw
          go_simp
        try simp only [Act.put, List.setIfInBounds_toArray, List.set_cons_zero, List.set_cons_succ]
        refine wpAnyH_ready (rs := [3]) (by kernel_rfl) (by simp) ?_
        refine AllReadyH.cons (o := { dst := none, op := .store 45 (.tmp 2) (.tmp 30), type := 0, pos := "read.go:22", after := #[{ on := 0, ground := .data }, { on := 0, ground := .phase }, { on := 1, ground := .textOnly .lateStores }, { on := 2, ground := .textOnly .lateStores }], guard := none }) (by kernel_rfl) (fun K1 hK => ?_) AllReadyH.nil
        rw [if_pos (by rfl)]
        refine wp_store_mid 45 (.tmp 2) (.tmp 30) rfl w.heap.size 0 #[.int .i64 0, .string ⟨#[]⟩, .string ⟨#[]⟩, .bool false, .slice none 0 0, .slice none 0 0, .slice none 0 0, .slice none 0 0, .slice none 0 0, .bool false, .bool false, .slice none 0 0, .slice none 0 0, .slice none 0 0, .slice none 0 0, .slice none 0 0, .int .i64 0] rfl rfl (show World.there w7.drew w.heap.size 0 17 from there_row (show w7.drew.heap[w.heap.size]? = _ from HR7.out)) (by kernel_rfl) (by simp [Value.oneCell']) ?_
        rw [setCells_setLe]
        have HFin2 := Lib.hid (wbox_sm (w := w7.drew) HR7.out (.int .i64 0) (.string ⟨#[]⟩) (.string ⟨#[]⟩) (.bool false) (.slice none 0 0) (.slice none 0 0) (.slice none 0 0) (.slice none 0 0) (.slice none 0 0) (.bool false) (.bool false) (.slice none 0 0) (.slice none 0 0) (.slice none 0 0) (.slice none 0 0) (.slice none 0 0) (.int .i64 0))
        have HBf2 := Lib.hid (setLe_below (Nat.le_refl w.heap.size) [.int .i64 0, .string ⟨#[]⟩, .string ⟨#[]⟩, .bool false, .slice none 0 0, .slice none 0 0, .slice none 0 0, .slice none 0 0, .slice none 0 0, .bool false, .bool false, .slice none 0 0, .slice none 0 0, .slice none 0 0, .slice none 0 0, .slice none 0 0, .int .i64 0] 0 w7.drew HB7.out.drew)
        have HS3 : (setLe w7.drew w.heap.size 0 [.int .i64 0, .string ⟨#[]⟩, .string ⟨#[]⟩, .bool false, .slice none 0 0, .slice none 0 0, .slice none 0 0, .slice none 0 0, .slice none 0 0, .bool false, .bool false, .slice none 0 0, .slice none 0 0, .slice none 0 0, .slice none 0 0, .slice none 0 0, .int .i64 0]).cell? ⟨N, 2, none⟩ = some (.int .i64 s3.2) := (World.cell?_of_block (setLe_other (B := w.heap.size) (M := N) HNw.out _ 0 w7.drew)).trans c2
        refine hK.out _ _ HS3 (fun _ => ?_)
        clear hK K1
        try simp only [Act.put, List.setIfInBounds_toArray, List.set_cons_zero, List.set_cons_succ]
        refine wpAnyH_take (i := 4) (oi := { dst := some 3, op := .assign (.tmp 32), type := 46, pos := "read.go:22", after := #[{ on := 2, ground := .data }, { on := 3, ground := .chain }, { on := 0, ground := .phase }, { on := 1, ground := .phase }, { on := 2, ground := .phase }, { on := 3, ground := .phase }], guard := none }) (v := .int .i64 s3.2) (by kernel_rfl) (by kernel_rfl) (by kernel_rfl) (by kernel_rfl) (fun _ _ _ h => h) (Or.inl ⟨by rfl, ?_⟩) HS3 ?_
        · intro w' hSw
          go_simp
        try simp only [Act.put, List.setIfInBounds_toArray, List.set_cons_zero, List.set_cons_succ]
        refine wpAnyH_done (by kernel_rfl) ?_ _
        refine NoPanic.normal ?_
        go_wp2
        refine bodyPost_ret (results_sm2 rfl _ _ w.heap.size _ _ _ _ _ _ _ _ _ _ _ _ _ _ _ _ _ rfl HFin2.out) rfl ?_
        rw [HQ.out]
        exact ⟨⟨_, rfl, _, rfl, zst_lies _ _⟩, HBf2.out⟩
      · have hmb : (s3.2 != 0) = false := by simp [hm]
        have HLg := Lib.hid (show ReadP s.data.toList = (if longR lz = true then (zST, 5) else (lz, 0)) by rw [HIt.out]; unfold rdF; rw [if_neg (by simp [hm])])
        have HLo := Lib.hid (plong_any w7 _ (.agg #[.int .i64 lz.kind, .string lz.name, .string lz.on, .bool lz.uniq, .slice azc lz.cols.length czc, .slice azk lz.keys.length czk, .slice azr lz.rows.length czr, .slice azs lz.sets.length czs, .slice azw lz.whr.length czw, .bool lz.q.dist, .bool lz.q.star, .slice aqi lz.q.items.length cqi, .slice aqf lz.q.src.length cqf, .slice aqw lz.q.whr.length cqw, .slice aqg lz.q.group.length cqg, .slice aqo lz.q.ord.length cqo, .int .i64 lz.q.lim]) lz ⟨_, rfl, HVz7.out⟩)
        clear hm
        go_upto_region 11 with (fail)
        refine wp_region_lit ?_
        refine wpList_load_row rfl _ _ rfl Y rfl _ #[.int .i64 lz.kind, .string lz.name, .string lz.on, .bool lz.uniq, .slice azc lz.cols.length czc, .slice azk lz.keys.length czk, .slice azr lz.rows.length czr, .slice azs lz.sets.length czs, .slice azw lz.whr.length czw, .bool lz.q.dist, .bool lz.q.star, .slice aqi lz.q.items.length cqi, .slice aqf lz.q.src.length cqf, .slice aqw lz.q.whr.length cqw, .slice aqg lz.q.group.length cqg, .slice aqo lz.q.ord.length cqo, .int .i64 lz.q.lim] (0, 0) _ HY7.out Tryz.underlying45 rfl (by kernel_rfl) ?_
        go_wp2_with fail
        refine HLo.out.mono ?_
        rintro e w8 ⟨rfl, hb8⟩
        have HB8 := Lib.hid (HB7.out.trans (hb8.mono HB7.out.size))
        have HR8 := Lib.hid ((hb8.block _ (Array.getElem?_eq_some_iff.1 HR7.out).1).trans HR7.out)
        have HY8 := Lib.hid ((hb8.block _ (Array.getElem?_eq_some_iff.1 HY7.out).1).trans HY7.out)
        have HVz8 := Lib.hid (HVz7.out.far hb8.size (fun b hb hlt => hb8.block b hlt))
        clear hb8
        cases hlg : longR lz with
        | true =>
          have HQ := Lib.hid (show ReadP s.data.toList = (zST, 5) by rw [HLg.out, hlg]; rfl)
          have HFin := Lib.hid (wbox_sm HR8.out (.int .i64 0) (.string ⟨#[]⟩) (.string ⟨#[]⟩) (.bool false) (.slice none 0 0) (.slice none 0 0) (.slice none 0 0) (.slice none 0 0) (.slice none 0 0) (.bool false) (.bool false) (.slice none 0 0) (.slice none 0 0) (.slice none 0 0) (.slice none 0 0) (.slice none 0 0) (.int .i64 0))
          have HBf := Lib.hid (setLe_below (Nat.le_refl w.heap.size) [.int .i64 0, .string ⟨#[]⟩, .string ⟨#[]⟩, .bool false, .slice none 0 0, .slice none 0 0, .slice none 0 0, .slice none 0 0, .slice none 0 0, .bool false, .bool false, .slice none 0 0, .slice none 0 0, .slice none 0 0, .slice none 0 0, .slice none 0 0, .int .i64 0] 0 w8 HB8.out)
          clear hlg
          go_upto_region 12 with (fail)
          refine wp_region_lit ?_
          refine wpl_lit rfl _ _ rfl _ rfl [.int .i64 0, .string ⟨#[]⟩, .string ⟨#[]⟩, .bool false, .slice none 0 0, .slice none 0 0, .slice none 0 0, .slice none 0 0, .slice none 0 0, .bool false, .bool false, .slice none 0 0, .slice none 0 0, .slice none 0 0, .slice none 0 0, .slice none 0 0, .int .i64 0] (by kernel_rfl) rfl _ _ _ rfl _ rfl w.heap.size rfl rfl _ _ HR8.out (by kernel_rfl) rfl rfl ?_
          refine wpList_readTo rfl _ rfl (.int .i64 5) rfl ?_
          refine wpList_nil ?_
          go_wp2
          refine bodyPost_ret (results_sm2 rfl _ _ w.heap.size _ _ _ _ _ _ _ _ _ _ _ _ _ _ _ _ _ rfl HFin.out) rfl ?_
          rw [HQ.out]
          exact ⟨⟨_, rfl, _, rfl, zst_lies _ _⟩, HBf.out⟩
        | false =>
          have HQ := Lib.hid (show ReadP s.data.toList = (lz, 0) by rw [HLg.out, hlg]; rfl)
          have HFin := Lib.hid (wbox_sm HR8.out (.int .i64 lz.kind) (.string lz.name) (.string lz.on) (.bool lz.uniq) (.slice azc lz.cols.length czc) (.slice azk lz.keys.length czk) (.slice azr lz.rows.length czr) (.slice azs lz.sets.length czs) (.slice azw lz.whr.length czw) (.bool lz.q.dist) (.bool lz.q.star) (.slice aqi lz.q.items.length cqi) (.slice aqf lz.q.src.length cqf) (.slice aqw lz.q.whr.length cqw) (.slice aqg lz.q.group.length cqg) (.slice aqo lz.q.ord.length cqo) (.int .i64 lz.q.lim))
          have HBf := Lib.hid (setLe_below (Nat.le_refl w.heap.size) [.int .i64 lz.kind, .string lz.name, .string lz.on, .bool lz.uniq, .slice azc lz.cols.length czc, .slice azk lz.keys.length czk, .slice azr lz.rows.length czr, .slice azs lz.sets.length czs, .slice azw lz.whr.length czw, .bool lz.q.dist, .bool lz.q.star, .slice aqi lz.q.items.length cqi, .slice aqf lz.q.src.length cqf, .slice aqw lz.q.whr.length cqw, .slice aqg lz.q.group.length cqg, .slice aqo lz.q.ord.length cqo, .int .i64 lz.q.lim] 0 w8 HB8.out)
          have HVf := Lib.hid ((HVz8.out.far (w' := setLe w8 w.heap.size 0 [.int .i64 lz.kind, .string lz.name, .string lz.on, .bool lz.uniq, .slice azc lz.cols.length czc, .slice azk lz.keys.length czk, .slice azr lz.rows.length czr, .slice azs lz.sets.length czs, .slice azw lz.whr.length czw, .bool lz.q.dist, .bool lz.q.star, .slice aqi lz.q.items.length cqi, .slice aqf lz.q.src.length cqf, .slice aqw lz.q.whr.length cqw, .slice aqg lz.q.group.length cqg, .slice aqo lz.q.ord.length cqo, .int .i64 lz.q.lim]) (by rw [setLe_size]; exact Nat.le_refl _) (fun b hb hlt => setLe_other (by have := HW2.out; have h9 := (Array.getElem?_eq_some_iff.1 HRd3.out).1; have := HNd.out; omega) _ _ _)).mono (Q' := fun b => w.heap.size ≤ b) (fun b hb _ => by have := HW2.out; have h9 := (Array.getElem?_eq_some_iff.1 HRd3.out).1; omega))
          clear hlg
          go_upto_region 13 with (fail)
          refine wp_region_lit ?_
          refine wpl_copy rfl _ _ rfl _ rfl Y rfl [.int .i64 lz.kind, .string lz.name, .string lz.on, .bool lz.uniq, .slice azc lz.cols.length czc, .slice azk lz.keys.length czk, .slice azr lz.rows.length czr, .slice azs lz.sets.length czs, .slice azw lz.whr.length czw, .bool lz.q.dist, .bool lz.q.star, .slice aqi lz.q.items.length cqi, .slice aqf lz.q.src.length cqf, .slice aqw lz.q.whr.length cqw, .slice aqg lz.q.group.length cqg, .slice aqo lz.q.ord.length cqo, .int .i64 lz.q.lim] _ HY8.out _ Tryz.underlying45 rfl (by kernel_rfl) rfl _ _ _ rfl _ rfl w.heap.size rfl rfl _ _ HR8.out (by kernel_rfl) rfl rfl ?_
          refine wpList_readTo rfl _ rfl (.int .i64 0) rfl ?_
          refine wpList_nil ?_
          go_wp2
          refine bodyPost_ret (results_sm2 rfl _ _ w.heap.size _ _ _ _ _ _ _ _ _ _ _ _ _ _ _ _ _ rfl HFin.out) rfl ?_
          rw [HQ.out]
          exact ⟨⟨_, rfl, _, rfl, HVf.out⟩, HBf.out⟩
    · have hmi : ¬ ((s2.1 : Int) < (n : Int)) := by omega
      replace HIt := Lib.hid (show ReadP s.data.toList = rdF ws s2 lz by rw [HIt.out, if_neg (by rw [← HNn.out]; exact hm)])
      obtain ⟨hR7, hB7⟩ := HEnd.out w6 _ HS6.out HT6.out HY6.out HVz6.out
      have HR7 := Lib.hid hR7
      have HB7 := Lib.hid hB7
      have HY7 := HY6
      have HVz7 := HVz6
      have HS7 := HS6
      clear hm hR7 hB7 HSg HY6 HVz6 HRd HS5 HT5 HY5 HVz5 HS6
      obtain ⟨w7, rfl⟩ : ∃ x, x = w6 := ⟨_, rfl⟩
      obtain ⟨s3, rfl⟩ : ∃ x, x = s2 := ⟨_, rfl⟩
      go_upto_region 9 with (fail)
      by_cases hm : s3.2 = 0
      rotate_left
      · have hmb : (s3.2 != 0) = true := by simp [hm]
        have HQ := Lib.hid (show ReadP s.data.toList = (zST, s3.2) by rw [HIt.out]; unfold rdF; rw [if_pos hm])
        have HFin := Lib.hid (wbox_sm HR7.out (.int .i64 0) (.string ⟨#[]⟩) (.string ⟨#[]⟩) (.bool false) (.slice none 0 0) (.slice none 0 0) (.slice none 0 0) (.slice none 0 0) (.slice none 0 0) (.bool false) (.bool false) (.slice none 0 0) (.slice none 0 0) (.slice none 0 0) (.slice none 0 0) (.slice none 0 0) (.int .i64 0))
        have HBf := Lib.hid (setLe_below (Nat.le_refl w.heap.size) [.int .i64 0, .string ⟨#[]⟩, .string ⟨#[]⟩, .bool false, .slice none 0 0, .slice none 0 0, .slice none 0 0, .slice none 0 0, .slice none 0 0, .bool false, .bool false, .slice none 0 0, .slice none 0 0, .slice none 0 0, .slice none 0 0, .slice none 0 0, .int .i64 0] 0 w7 HB7.out)
        clear hm
        go_upto_region 10 with (fail)
        have HCm := Lib.hid (show ∀ W : World, W.heap[N]? = w7.heap[N]? → W.cell? ⟨N, 2, none⟩ = some (.int .i64 s3.2) from fun W hW => (World.cell?_of_block (by exact hW)).trans c2)
        have HNw := Lib.hid (show N ≠ w.heap.size by have := HW2.out; omega)
        refine wp_region_noPanic ?_
        refine wp_region_held_drew (S := fun W => W.cell? ⟨N, 2, none⟩ = some (.int .i64 s3.2)) (by kernel_rfl) (HCm.out _ rfl) (fun hS0 => ?_)
        refine wpAnyH_take (i := 0) (oi := { dst := some 30, op := .build 45 #[], type := 45, pos := "read.go:22", after := #[], guard := none }) (v := .agg #[.int .i64 0, .string ⟨#[]⟩, .string ⟨#[]⟩, .bool false, .slice none 0 0, .slice none 0 0, .slice none 0 0, .slice none 0 0, .slice none 0 0, .bool false, .bool false, .slice none 0 0, .slice none 0 0, .slice none 0 0, .slice none 0 0, .slice none 0 0, .int .i64 0]) (by kernel_rfl) (by kernel_rfl) (by kernel_rfl) (by kernel_rfl) (fun _ _ _ h => h) (Or.inl ⟨by rfl, ?_⟩) hS0 ?_
        · intro w' hSw
          go_simp
        try simp only [Act.put, List.setIfInBounds_toArray, List.set_cons_zero, List.set_cons_succ]
        refine wpAnyH_take (i := 1) (oi := { dst := some 31, op := .fieldAddr 75 (.tmp 6) 2, type := 0, pos := "read.go:22", after := #[{ on := 3, ground := .gcOnly .lateStores }], guard := none }) (v := .pointer (some ⟨N, 2, none⟩)) (by kernel_rfl) (by kernel_rfl) (by kernel_rfl) (by kernel_rfl) (fun _ _ _ h => h) (Or.inl ⟨by rfl, ?_⟩) hS0 ?_
        · intro w' hSw
          go_simp
        try simp only [Act.put, List.setIfInBounds_toArray, List.set_cons_zero, List.set_cons_succ]
        refine wpAnyH_take (i := 2) (oi := { dst := some 32, op := .load 46 (.tmp 31), type := 46, pos := "read.go:22", after := #[{ on := 1, ground := .data }, { on := 3, ground := .gcOnly .lateStores }], guard := none }) (v := .int .i64 s3.2) (by kernel_rfl) (by kernel_rfl) (by kernel_rfl) (by kernel_rfl) (fun _ _ _ h => h) (Or.inl ⟨by rfl, ?_⟩) hS0 ?_
        · intro w' hSw
          go_simp
        try simp only [Act.put, List.setIfInBounds_toArray, List.set_cons_zero, List.set_cons_succ]
        refine wpAnyH_ready (rs := [3]) (by kernel_rfl) (by simp) ?_
        refine AllReadyH.cons (o := { dst := none, op := .store 45 (.tmp 2) (.tmp 30), type := 0, pos := "read.go:22", after := #[{ on := 0, ground := .data }, { on := 0, ground := .phase }, { on := 1, ground := .textOnly .lateStores }, { on := 2, ground := .textOnly .lateStores }], guard := none }) (by kernel_rfl) (fun K1 hK => ?_) AllReadyH.nil
        rw [if_pos (by rfl)]
        refine wp_store_mid 45 (.tmp 2) (.tmp 30) rfl w.heap.size 0 #[.int .i64 0, .string ⟨#[]⟩, .string ⟨#[]⟩, .bool false, .slice none 0 0, .slice none 0 0, .slice none 0 0, .slice none 0 0, .slice none 0 0, .bool false, .bool false, .slice none 0 0, .slice none 0 0, .slice none 0 0, .slice none 0 0, .slice none 0 0, .int .i64 0] rfl rfl (show World.there w7.drew w.heap.size 0 17 from there_row (show w7.drew.heap[w.heap.size]? = _ from HR7.out)) (by kernel_rfl) (by simp [Value.oneCell']) ?_
        rw [setCells_setLe]
        have HFin2 := Lib.hid (wbox_sm (w := w7.drew) HR7.out (.int .i64 0) (.string ⟨#[]⟩) (.string ⟨#[]⟩) (.bool false) (.slice none 0 0) (.slice none 0 0) (.slice none 0 0) (.slice none 0 0) (.slice none 0 0) (.bool false) (.bool false) (.slice none 0 0) (.slice none 0 0) (.slice none 0 0) (.slice none 0 0) (.slice none 0 0) (.int .i64 0))
        have HBf2 := Lib.hid (setLe_below (Nat.le_refl w.heap.size) [.int .i64 0, .string ⟨#[]⟩, .string ⟨#[]⟩, .bool false, .slice none 0 0, .slice none 0 0, .slice none 0 0, .slice none 0 0, .slice none 0 0, .bool false, .bool false, .slice none 0 0, .slice none 0 0, .slice none 0 0, .slice none 0 0, .slice none 0 0, .int .i64 0] 0 w7.drew HB7.out.drew)
        have HS3 : (setLe w7.drew w.heap.size 0 [.int .i64 0, .string ⟨#[]⟩, .string ⟨#[]⟩, .bool false, .slice none 0 0, .slice none 0 0, .slice none 0 0, .slice none 0 0, .slice none 0 0, .bool false, .bool false, .slice none 0 0, .slice none 0 0, .slice none 0 0, .slice none 0 0, .slice none 0 0, .int .i64 0]).cell? ⟨N, 2, none⟩ = some (.int .i64 s3.2) := (World.cell?_of_block (setLe_other (B := w.heap.size) (M := N) HNw.out _ 0 w7.drew)).trans c2
        refine hK.out _ _ HS3 (fun _ => ?_)
        clear hK K1
        try simp only [Act.put, List.setIfInBounds_toArray, List.set_cons_zero, List.set_cons_succ]
        refine wpAnyH_take (i := 4) (oi := { dst := some 3, op := .assign (.tmp 32), type := 46, pos := "read.go:22", after := #[{ on := 2, ground := .data }, { on := 3, ground := .chain }, { on := 0, ground := .phase }, { on := 1, ground := .phase }, { on := 2, ground := .phase }, { on := 3, ground := .phase }], guard := none }) (v := .int .i64 s3.2) (by kernel_rfl) (by kernel_rfl) (by kernel_rfl) (by kernel_rfl) (fun _ _ _ h => h) (Or.inl ⟨by rfl, ?_⟩) HS3 ?_
        · intro w' hSw
          go_simp
        try simp only [Act.put, List.setIfInBounds_toArray, List.set_cons_zero, List.set_cons_succ]
        refine wpAnyH_done (by kernel_rfl) ?_ _
        refine NoPanic.normal ?_
        go_wp2
        refine bodyPost_ret (results_sm2 rfl _ _ w.heap.size _ _ _ _ _ _ _ _ _ _ _ _ _ _ _ _ _ rfl HFin2.out) rfl ?_
        rw [HQ.out]
        exact ⟨⟨_, rfl, _, rfl, zst_lies _ _⟩, HBf2.out⟩
      · have hmb : (s3.2 != 0) = false := by simp [hm]
        have HLg := Lib.hid (show ReadP s.data.toList = (if longR lz = true then (zST, 5) else (lz, 0)) by rw [HIt.out]; unfold rdF; rw [if_neg (by simp [hm])])
        have HLo := Lib.hid (plong_any w7 _ (.agg #[.int .i64 lz.kind, .string lz.name, .string lz.on, .bool lz.uniq, .slice azc lz.cols.length czc, .slice azk lz.keys.length czk, .slice azr lz.rows.length czr, .slice azs lz.sets.length czs, .slice azw lz.whr.length czw, .bool lz.q.dist, .bool lz.q.star, .slice aqi lz.q.items.length cqi, .slice aqf lz.q.src.length cqf, .slice aqw lz.q.whr.length cqw, .slice aqg lz.q.group.length cqg, .slice aqo lz.q.ord.length cqo, .int .i64 lz.q.lim]) lz ⟨_, rfl, HVz7.out⟩)
        clear hm
        go_upto_region 11 with (fail)
        refine wp_region_lit ?_
        refine wpList_load_row rfl _ _ rfl Y rfl _ #[.int .i64 lz.kind, .string lz.name, .string lz.on, .bool lz.uniq, .slice azc lz.cols.length czc, .slice azk lz.keys.length czk, .slice azr lz.rows.length czr, .slice azs lz.sets.length czs, .slice azw lz.whr.length czw, .bool lz.q.dist, .bool lz.q.star, .slice aqi lz.q.items.length cqi, .slice aqf lz.q.src.length cqf, .slice aqw lz.q.whr.length cqw, .slice aqg lz.q.group.length cqg, .slice aqo lz.q.ord.length cqo, .int .i64 lz.q.lim] (0, 0) _ HY7.out Tryz.underlying45 rfl (by kernel_rfl) ?_
        go_wp2_with fail
        refine HLo.out.mono ?_
        rintro e w8 ⟨rfl, hb8⟩
        have HB8 := Lib.hid (HB7.out.trans (hb8.mono HB7.out.size))
        have HR8 := Lib.hid ((hb8.block _ (Array.getElem?_eq_some_iff.1 HR7.out).1).trans HR7.out)
        have HY8 := Lib.hid ((hb8.block _ (Array.getElem?_eq_some_iff.1 HY7.out).1).trans HY7.out)
        have HVz8 := Lib.hid (HVz7.out.far hb8.size (fun b hb hlt => hb8.block b hlt))
        clear hb8
        cases hlg : longR lz with
        | true =>
          have HQ := Lib.hid (show ReadP s.data.toList = (zST, 5) by rw [HLg.out, hlg]; rfl)
          have HFin := Lib.hid (wbox_sm HR8.out (.int .i64 0) (.string ⟨#[]⟩) (.string ⟨#[]⟩) (.bool false) (.slice none 0 0) (.slice none 0 0) (.slice none 0 0) (.slice none 0 0) (.slice none 0 0) (.bool false) (.bool false) (.slice none 0 0) (.slice none 0 0) (.slice none 0 0) (.slice none 0 0) (.slice none 0 0) (.int .i64 0))
          have HBf := Lib.hid (setLe_below (Nat.le_refl w.heap.size) [.int .i64 0, .string ⟨#[]⟩, .string ⟨#[]⟩, .bool false, .slice none 0 0, .slice none 0 0, .slice none 0 0, .slice none 0 0, .slice none 0 0, .bool false, .bool false, .slice none 0 0, .slice none 0 0, .slice none 0 0, .slice none 0 0, .slice none 0 0, .int .i64 0] 0 w8 HB8.out)
          clear hlg
          go_upto_region 12 with (fail)
          refine wp_region_lit ?_
          refine wpl_lit rfl _ _ rfl _ rfl [.int .i64 0, .string ⟨#[]⟩, .string ⟨#[]⟩, .bool false, .slice none 0 0, .slice none 0 0, .slice none 0 0, .slice none 0 0, .slice none 0 0, .bool false, .bool false, .slice none 0 0, .slice none 0 0, .slice none 0 0, .slice none 0 0, .slice none 0 0, .int .i64 0] (by kernel_rfl) rfl _ _ _ rfl _ rfl w.heap.size rfl rfl _ _ HR8.out (by kernel_rfl) rfl rfl ?_
          refine wpList_readTo rfl _ rfl (.int .i64 5) rfl ?_
          refine wpList_nil ?_
          go_wp2
          refine bodyPost_ret (results_sm2 rfl _ _ w.heap.size _ _ _ _ _ _ _ _ _ _ _ _ _ _ _ _ _ rfl HFin.out) rfl ?_
          rw [HQ.out]
          exact ⟨⟨_, rfl, _, rfl, zst_lies _ _⟩, HBf.out⟩
        | false =>
          have HQ := Lib.hid (show ReadP s.data.toList = (lz, 0) by rw [HLg.out, hlg]; rfl)
          have HFin := Lib.hid (wbox_sm HR8.out (.int .i64 lz.kind) (.string lz.name) (.string lz.on) (.bool lz.uniq) (.slice azc lz.cols.length czc) (.slice azk lz.keys.length czk) (.slice azr lz.rows.length czr) (.slice azs lz.sets.length czs) (.slice azw lz.whr.length czw) (.bool lz.q.dist) (.bool lz.q.star) (.slice aqi lz.q.items.length cqi) (.slice aqf lz.q.src.length cqf) (.slice aqw lz.q.whr.length cqw) (.slice aqg lz.q.group.length cqg) (.slice aqo lz.q.ord.length cqo) (.int .i64 lz.q.lim))
          have HBf := Lib.hid (setLe_below (Nat.le_refl w.heap.size) [.int .i64 lz.kind, .string lz.name, .string lz.on, .bool lz.uniq, .slice azc lz.cols.length czc, .slice azk lz.keys.length czk, .slice azr lz.rows.length czr, .slice azs lz.sets.length czs, .slice azw lz.whr.length czw, .bool lz.q.dist, .bool lz.q.star, .slice aqi lz.q.items.length cqi, .slice aqf lz.q.src.length cqf, .slice aqw lz.q.whr.length cqw, .slice aqg lz.q.group.length cqg, .slice aqo lz.q.ord.length cqo, .int .i64 lz.q.lim] 0 w8 HB8.out)
          have HVf := Lib.hid ((HVz8.out.far (w' := setLe w8 w.heap.size 0 [.int .i64 lz.kind, .string lz.name, .string lz.on, .bool lz.uniq, .slice azc lz.cols.length czc, .slice azk lz.keys.length czk, .slice azr lz.rows.length czr, .slice azs lz.sets.length czs, .slice azw lz.whr.length czw, .bool lz.q.dist, .bool lz.q.star, .slice aqi lz.q.items.length cqi, .slice aqf lz.q.src.length cqf, .slice aqw lz.q.whr.length cqw, .slice aqg lz.q.group.length cqg, .slice aqo lz.q.ord.length cqo, .int .i64 lz.q.lim]) (by rw [setLe_size]; exact Nat.le_refl _) (fun b hb hlt => setLe_other (by have := HW2.out; have h9 := (Array.getElem?_eq_some_iff.1 HRd3.out).1; have := HNd.out; omega) _ _ _)).mono (Q' := fun b => w.heap.size ≤ b) (fun b hb _ => by have := HW2.out; have h9 := (Array.getElem?_eq_some_iff.1 HRd3.out).1; omega))
          clear hlg
          go_upto_region 13 with (fail)
          refine wp_region_lit ?_
          refine wpl_copy rfl _ _ rfl _ rfl Y rfl [.int .i64 lz.kind, .string lz.name, .string lz.on, .bool lz.uniq, .slice azc lz.cols.length czc, .slice azk lz.keys.length czk, .slice azr lz.rows.length czr, .slice azs lz.sets.length czs, .slice azw lz.whr.length czw, .bool lz.q.dist, .bool lz.q.star, .slice aqi lz.q.items.length cqi, .slice aqf lz.q.src.length cqf, .slice aqw lz.q.whr.length cqw, .slice aqg lz.q.group.length cqg, .slice aqo lz.q.ord.length cqo, .int .i64 lz.q.lim] _ HY8.out _ Tryz.underlying45 rfl (by kernel_rfl) rfl _ _ _ rfl _ rfl w.heap.size rfl rfl _ _ HR8.out (by kernel_rfl) rfl rfl ?_
          refine wpList_readTo rfl _ rfl (.int .i64 0) rfl ?_
          refine wpList_nil ?_
          go_wp2
          refine bodyPost_ret (results_sm2 rfl _ _ w.heap.size _ _ _ _ _ _ _ _ _ _ _ _ _ _ _ _ _ rfl HFin.out) rfl ?_
          rw [HQ.out]
          exact ⟨⟨_, rfl, _, rfl, HVf.out⟩, HBf.out⟩
end Go.Proofs.YtknhphcfcpjhiaaGreatDoor
