/- The package's taker: column. -/
import Derived.Test.YtknhphcfcpjhiaaGreatDoorLxKey
namespace Go.Proofs.YtknhphcfcpjhiaaGreatDoor
open Go.RowKit
set_option linter.unusedVariables false
set_option linter.unusedSimpArgs false
set_option maxRecDepth 100000
def NameP (A : Nat → Prop) (N : Nat) (w : World) (wa : Option Addr) (wn wc : Nat) (ws : List Wd) (v : Value) (ms : List PM) (r : ByteArray × Bool × Tk) (e : Ending) (w' : World) : Prop :=
  e = .returned (.tuple #[.string r.1, .bool r.2.1]) ∧ TSt A N w' wa wn wc ws v r.2.2 ms ∧ TTo N v v w w'
set_option maxHeartbeats 6400000 in
theorem takerName_any (A : Nat → Prop) (N : Nat) (w : World) (wa : Option Addr) (wn wc : Nat) (ws : List Wd) (v : Value) (s : Tk) (ms : List PM) (h : TSt A N w wa wn wc ws v s ms) (hz : ∀ i, (wdAt ws i).2.1.length ≤ 140737488355328) :
    Calls Tryz.prog 226 #[.pointer (some ⟨N, 0, none⟩)] w (NameP A N w wa wn wc ws v ms (nameP nmB ws s)) := by
  obtain ⟨c0, c1, -, -, fz⟩ := h.cells
  obtain ⟨hl, hn, hc⟩ := h.words
  have hN := h.low
  have HS := Lib.hid h
  have f0 := Fut.cell c0
  have f1 := Fut.cell c1
  clear fz
  by_cases hp : s.pos < wn
  rotate_left
  · have he : s.pos = wn := by have := h.pos; omega
    have HR := Lib.hid (show nameP nmB ws s = (⟨#[]⟩, false, s) by unfold nameP; rw [if_neg (fun hh => by have := hh.1; omega)])
    have ht1 : ((s.pos : Int) == (wn : Int)) = true := by simp [he]
    clear hl hc h c0 c1
    go_enter Tryz.func226, Tryz.ntmps226
    go_upto_region 1 with (fail)
    refine wp_region_fut (by kernel_rfl) (by kernel_rfl) ?_
    repeat (go_big_quiet_step (fail))
    refine wpQuiet_nil ?_
    rintro _ ⟨s2, rfl⟩
    have H2 := Lib.hid (HS.out.below s2.bel)
    have HT := Lib.hid (TTo.of_below (v := v) s2.bel (Nat.le_of_lt hN))
    generalize s2.to = w2 at *
    clear s2 f0 f1
    go_wp2
    go_ret2
    rw [HR.out]
    exact ⟨rfl, H2.out, HT.out⟩
  obtain ⟨b, off, rfl, hbN, hb, hw⟩ := hc.resolve_left (by omega)
  obtain ⟨q0, q1, -⟩ := hw s.pos hp
  have ht1 : ((s.pos : Int) == (wn : Int)) = false := by simp; omega
  have hp0 : (0 : Int) ≤ (s.pos : Int) := by omega
  have hp1 : (s.pos : Int) < (wn : Int) := by omega
  obtain ⟨k, hk⟩ : ∃ k, k = (wdAt ws s.pos).1 := ⟨_, rfl⟩
  obtain ⟨x, hx⟩ : ∃ x, x = bs (wdAt ws s.pos).2.1 := ⟨_, rfl⟩
  have HIs := Lib.hid (show nameP nmB ws s = if k = 1 ∧ nmB x = true then (x, true, adv s) else (⟨#[]⟩, false, s) by
    unfold nameP
    rw [hk, hx]
    by_cases hh : (wdAt ws s.pos).1 = 1 ∧ nmB (bs (wdAt ws s.pos).2.1) = true
    · rw [if_pos ⟨by omega, hh.1, hh.2⟩, if_pos hh]
    · rw [if_neg (fun h => hh h.2), if_neg hh])
  have HNm := Lib.hid (show ∀ W : World, Calls Tryz.prog 62 #[.string x] W fun e w' => e = .returned (.bool (nmB x)) ∧ Below W.heap.size W w' from fun W => name_any x W (by rw [hx]; have := hz s.pos; simp [bs, ByteArray.size]; omega))
  rw [← hk] at q0
  rw [← hx] at q1
  have g0 := Fut.cell q0
  have g1 := Fut.cell q1
  have HQ1 := Lib.hid (And.intro q1 hb)
  have HPn := Lib.hid hp
  clear hk hx hw hc hl h c0 c1 q0 q1 hz
  by_cases hkk : k = 1
  rotate_left
  · have ht2 : (k != 1) = true := by simp [hkk]
    go_enter Tryz.func226, Tryz.ntmps226
    go_upto_region 1 with (fail)
    refine wp_region_fut (by kernel_rfl) (by kernel_rfl) ?_
    repeat (go_big_quiet_step (fail))
    refine wpQuiet_nil ?_
    rintro _ ⟨s2, rfl⟩
    have H2 := Lib.hid (HS.out.below s2.bel)
    have HT := Lib.hid (TTo.of_below (v := v) s2.bel (Nat.le_of_lt hN))
    generalize s2.to = w2 at *
    clear s2 f0 f1 g0 g1
    go_wp2
    go_ret2
    rw [HIs.out, if_neg (fun h => hkk h.1)]
    exact ⟨rfl, H2.out, HT.out⟩
  subst hkk
  obtain ⟨nb, hnb⟩ : ∃ nb, nb = nmB x := ⟨_, rfl⟩
  rw [← hnb] at HIs HNm
  clear hnb
  cases nb with
  | false =>
    go_enter Tryz.func226, Tryz.ntmps226
    go_upto_region 1 with (fail)
    refine wp_region_fut (by kernel_rfl) (by kernel_rfl) ?_
    repeat (go_big_quiet_step ((go_at_call 62; exact calls_fut (HNm.out _))))
    refine wpQuiet_nil ?_
    rintro _ ⟨s2, rfl⟩
    have H2 := Lib.hid (HS.out.below s2.bel)
    have HT := Lib.hid (TTo.of_below (v := v) s2.bel (Nat.le_of_lt hN))
    generalize s2.to = w2 at *
    clear s2 f0 f1 g0 g1
    go_wp2
    go_ret2
    rw [HIs.out]
    exact ⟨rfl, H2.out, HT.out⟩
  | true =>
    have hw1 : wrap64 ((s.pos : Int) + 1) = (s.pos : Int) + 1 := by unfold wrap64; omega
    have hw2 : IntKind.i64.wrap ((s.pos : Int) + 1) = (s.pos : Int) + 1 := by rw [IntKind.wrap_i64]; omega
    have hw3 : wrap64 ((s.pos : Int) + 1 - 1) = (s.pos : Int) := by unfold wrap64; omega
    have hw4 : IntKind.i64.wrap ((s.pos : Int) + 1 - 1) = (s.pos : Int) := by rw [IntKind.wrap_i64]; omega
    go_enter Tryz.func226, Tryz.ntmps226
    go_upto_region 1 with (fail)
    refine wp_region_fut (by kernel_rfl) (by kernel_rfl) ?_
    repeat (go_big_quiet_step ((go_at_call 62; exact calls_fut (HNm.out _))))
    refine wpQuiet_nil ?_
    rintro _ ⟨s2, rfl⟩
    have H2 := Lib.hid (HS.out.below s2.bel)
    have HT := Lib.hid (TTo.of_below (v := v) s2.bel (Nat.le_of_lt hN))
    have HQ2 := Lib.hid (show s2.to.cell? ⟨b, off + s.pos * 3 + 1, none⟩ = some (.string x) from g1 s2)
    generalize s2.to = w2 at *
    clear s2 f0 f1 g0 g1
    obtain ⟨c0, c1, -, -, fz⟩ := H2.out.cells
    have hN2 := H2.out.low
    go_upto_region 4 with (fail)
    have H3 := Lib.hid (H2.out.adv HPn.out ((s.pos : Int) + 1) rfl)
    have HT3 := Lib.hid (HT.out.setN 1 (.int .i64 ((s.pos : Int) + 1)))
    have q3 : (w2.setCell ⟨N, 1, none⟩ (.int .i64 ((s.pos : Int) + 1))).cell? ⟨b, off + s.pos * 3 + 1, none⟩ = some (.string x) := (World.cell?_setCell_other _ _ _ _ (by intro e; have h := congrArg Addr.block e; simp only at h; omega)).trans HQ2.out
    generalize (w2.setCell ⟨N, 1, none⟩ (.int .i64 ((s.pos : Int) + 1))) = w3 at *
    clear c0 c1 fz
    obtain ⟨c0, c1, -, -, -⟩ := H3.out.cells
    have c1 : w3.cell? ⟨N, 1, none⟩ = some (.int .i64 ((s.pos : Int) + 1)) := c1
    have f0 := cellN c0
    have f1 := cellN c1
    have f3 := cellN q3
    go_quiet (fail)
    go_wp2
    go_ret2
    rw [HIs.out, if_pos (by simp)]
    exact ⟨rfl, H3.out.drewN _, HT3.out.drewN _⟩
end Go.Proofs.YtknhphcfcpjhiaaGreatDoor
namespace Go.Proofs.YtknhphcfcpjhiaaGreatDoor
open Go.RowKit
set_option linter.unusedVariables false
set_option linter.unusedSimpArgs false
set_option maxRecDepth 100000
def Aft (A : Nat → Prop) (H : Nat) (b : Nat) : Prop := A b ∨ H ≤ b
def PartP (A : Nat → Prop) (N : Nat) (w : World) (wa : Option Addr) (wn wc : Nat) (ws : List Wd) (v : Value) (r : Pt × Bool × Tk) (e : Ending) (w' : World) : Prop :=
  ∃ pv v' ms', e = .returned (.tuple #[pv, .bool r.2.1]) ∧ PV w' (TQ (Aft A w.heap.size) N v') pv r.1 ∧ TSt (Aft A w.heap.size) N w' wa wn wc ws v' r.2.2 ms' ∧ TTo N v v' w w'
def WordP (A : Nat → Prop) (N : Nat) (w : World) (wa : Option Addr) (wn wc : Nat) (ws : List Wd) (v : Value) (r : Pt × Bool × Bool × Tk) (e : Ending) (w' : World) : Prop :=
  ∃ pv v' ms', e = .returned (.tuple #[pv, .bool r.2.1, .bool r.2.2.1]) ∧ PV w' (TQ (Aft A w.heap.size) N v') pv r.1 ∧ TSt (Aft A w.heap.size) N w' wa wn wc ws v' r.2.2.2 ms' ∧ TTo N v v' w w'
theorem ptX_arr (p : Pt) (sa : Option Addr) (sc : Nat) : (ptX p sa sc).toArray = #[.int .i64 p.e.kind, .string p.e.op, .int .i64 p.e.vk, .int .i64 p.e.vn, .string p.e.vs, .string p.e.tab, .string p.e.col, .slice sa p.e.parts.length sc, .int .i64 p.lv, .int .i64 p.dp] := rfl
theorem setLe_ext {B : Nat} : ∀ (vs : List Value) (k : Nat) (w : World), (setLe w B k vs).os = w.os ∧ (setLe w B k vs).tape = w.tape ∧ (setLe w B k vs).output = w.output
  | [], k, w => ⟨rfl, rfl, rfl⟩
  | v :: vs, k, w => setLe_ext vs (k + 1) (w.setCell ⟨B, k, none⟩ v)
theorem el_store {w : World} {Q : Nat → Prop} {a : Option Addr} {l : List ET} (h : EL w Q a l) {R : Nat} (hQ : ∀ b, Q b → b ≠ R) (k : Nat) (vs : List Value) : EL (setLe w R k vs) Q a l :=
  h.far (Nat.le_of_eq (setLe_size _ _ _).symm) (fun b hb _ => setLe_other (hQ b hb) _ _ _)
/-- a part is laid into the result's box -/
theorem part_done {A B : Nat → Prop} {N : Nat} {w w5 : World} {wa : Option Addr} {wn wc R : Nat} {ws : List Wd} {v v' : Value} {s : Tk} {ms : List PM} {x0 x1 x2 x3 x4 x5 x6 x7 x8 x9 : Value} (hS : TSt B N w5 wa wn wc ws v' s ms) (hR : w5.heap[R]? = some (.cells #[x0, x1, x2, x3, x4, x5, x6, x7, x8, x9] 202 (0, 0))) (hN : N < R) (hB : ¬ B R) (T : TTo N v v' w w5) (hw : w.heap.size ≤ R) (hsub : ∀ b, B b → Aft A w.heap.size b)
    (p : Pt) (sa : Option Addr) (sc : Nat) (hrg : PRg p sa sc) (hel : EL w5 (TQ B N v') sa p.e.parts) :
    (setLe w5 R 0 (ptX p sa sc)).heap[R]? = some (.cells (ptX p sa sc).toArray 202 (0, 0)) ∧ PV (setLe w5 R 0 (ptX p sa sc)) (TQ (Aft A w.heap.size) N v') (.agg (ptX p sa sc).toArray) p ∧ TSt (Aft A w.heap.size) N (setLe w5 R 0 (ptX p sa sc)) wa wn wc ws v' s ms ∧ TTo N v v' w (setLe w5 R 0 (ptX p sa sc)) := by
  have hown : v'.ownBlock ≠ some R := fun e => by
    rcases hS.own.2 with ⟨rfl, _⟩ | ⟨g, cap, cur, rfl, _, hg, _⟩
    · cases e
    · have : g = R := by simpa [Value.ownBlock] using e
      subst this
      rw [hR] at hg
      simp only [Option.some.injEq, Obj.cells.injEq] at hg
      exact absurd hg.2.1 (by decide)
  have hb : ∀ i, i ≠ R → (setLe w5 R 0 (ptX p sa sc)).heap[i]? = w5.heap[i]? := fun i hi => setLe_other hi _ _ _
  refine ⟨vbox10 hR _ _ _ _ _ _ _ _ _ _, ⟨sa, sc, rfl, hrg, ?_⟩, ?_, ?_⟩
  · exact (el_store hel (fun b hb e => hB (by have h : B b := hb.1; rw [e] at h; exact h)) _ _).mono (fun b hb _ => ⟨hsub b hb.1, hb.2⟩)
  · exact (hS.far hN hB hown (setLe_size _ _ _) (setLe_ext _ _ _) hb).mono (fun b h _ => hsub b h)
  · refine ⟨⟨(setLe_ext _ _ _).1.trans T.below.os, (setLe_ext _ _ _).2.1.trans T.below.tape, (setLe_ext _ _ _).2.2.trans T.below.output, by rw [setLe_size]; exact T.below.size, fun i hi => (hb i (by omega)).trans (T.below.block i hi)⟩, fun i hi hn hv => (hb i (by omega)).trans (T.block i hi hn hv), T.own⟩
theorem boxes_lit (w : World) (X Y : Obj) : (((w.alloc X).alloc Y).heap[w.heap.size]? = some X ∧ ((w.alloc X).alloc Y).heap[w.heap.size + 1]? = some Y) ∧ ((w.alloc X).alloc Y).heap.size = w.heap.size + 2 := by
  refine ⟨⟨(alloc_old _ _ (by simp)).trans (Go.heap_alloc_new w X), ?_⟩, by simp⟩
  have := Go.heap_alloc_new (w.alloc X) Y
  simpa using this
theorem psAt_nil (w : World) (Q : Nat → Prop) : PsAt w Q none 0 [] := ⟨rfl, by omega, .inl rfl⟩
set_option maxHeartbeats 6400000 in
theorem literal_any (vk vn : Int) (vs : ByteArray) (hr : ERg (.mk 1 ⟨#[]⟩ vk vn vs ⟨#[]⟩ ⟨#[]⟩ []) none 0) (w : World) :
    Calls Tryz.prog 218 #[.agg #[.int .i64 vk, .int .i64 vn, .string vs]] w (BuildP w (fun _ => False) (buildP 1 ⟨#[]⟩ vk vn vs ⟨#[]⟩ ⟨#[]⟩ 8 [])) := by
  have HR := Lib.hid hr
  have HB := Lib.hid (bel0 (.cells #[.int .i64 0, .string ⟨#[]⟩, .int .i64 0, .int .i64 0, .string ⟨#[]⟩, .string ⟨#[]⟩, .string ⟨#[]⟩, .slice none 0 0, .int .i64 0, .int .i64 0] 202) (bel0 (.cells #[.int .i64 vk, .int .i64 vn, .string vs] 59) (Below.refl w.heap.size w)))
  have HBX := Lib.hid (boxes_lit w (.cells #[.int .i64 vk, .int .i64 vn, .string vs] 59 (0, 0)) (.cells #[.int .i64 0, .string ⟨#[]⟩, .int .i64 0, .int .i64 0, .string ⟨#[]⟩, .string ⟨#[]⟩, .string ⟨#[]⟩, .slice none 0 0, .int .i64 0, .int .i64 0] 202 (0, 0)))
  clear hr
  go_enter Tryz.func218, Tryz.ntmps218
  go_upto_region 1 with (fail)
  generalize ((w.alloc (.cells #[.int .i64 vk, .int .i64 vn, .string vs] 59)).alloc (.cells #[.int .i64 0, .string ⟨#[]⟩, .int .i64 0, .int .i64 0, .string ⟨#[]⟩, .string ⟨#[]⟩, .string ⟨#[]⟩, .slice none 0 0, .int .i64 0, .int .i64 0] 202)) = w1 at *
  obtain ⟨⟨h0, h1⟩, hz⟩ := HBX.out
  have a0 := cell_of_row _ _ 0 _ _ _ h0
  have a1 := cell_of_row _ _ 1 _ _ _ h0
  have a2 := cell_of_row _ _ 2 _ _ _ h0
  simp only [List.getElem?_toArray, List.getElem?_cons_zero, List.getElem?_cons_succ] at a0 a1 a2
  have a3 : w.heap.size < w1.heap.size := by omega
  have H1 := Lib.hid h1
  have HZ := Lib.hid hz
  clear h0 h1 hz HBX
  go_wp2_with fail
  refine (build_any 1 ⟨#[]⟩ vk vn vs ⟨#[]⟩ ⟨#[]⟩ 8 [] HR.out (by unfold InR; omega) _ (fun _ => False) none 0 0 (psAt_nil _ _) (by simp)).mono ?_
  rintro e w2 ⟨pv, rfl, ⟨sa, sc, rfl, hrg, hel⟩, hb2⟩
  obtain ⟨p, hp⟩ : ∃ p, p = buildP 1 ⟨#[]⟩ vk vn vs ⟨#[]⟩ ⟨#[]⟩ 8 [] := ⟨_, rfl⟩
  have HP := Lib.hid hp
  rw [← hp] at hrg hel ⊢
  rw [ptX_arr]
  have HRg := Lib.hid hrg
  have HEl := Lib.hid hel
  have HB2 := Lib.hid (bt HB.out hb2)
  have hR := (hb2.block (w.heap.size + 1) (by rw [HZ.out]; omega)).trans H1.out
  obtain ⟨r0, r1, r2, r3, r4, r5, r6, r7, r8, r9, rz, rN⟩ := row10 hR
  have HFin := Lib.hid (vbox10 hR (.int .i64 p.e.kind) (.string p.e.op) (.int .i64 p.e.vk) (.int .i64 p.e.vn) (.string p.e.vs) (.string p.e.tab) (.string p.e.col) (.slice sa p.e.parts.length sc) (.int .i64 p.lv) (.int .i64 p.dp))
  have HBf := Lib.hid (setLe_below (Nat.le_succ w.heap.size) (ptX p sa sc) 0 w2 HB2.out)
  have HEf := Lib.hid (el_store hel (R := w.heap.size + 1) (fun b hb e => hb.elim id (fun h => by rw [HZ.out] at h; omega)) 0 (ptX p sa sc))
  clear a0 a1 a2 a3 hrg hel hb2 hR hp
  go_wp2
  refine bodyPost_ret (results_pt rfl _ _ (w.heap.size + 1) _ _ _ _ _ _ _ _ _ _ rfl HFin.out) rfl ?_
  rw [← HP.out]
  exact ⟨_, rfl, ⟨sa, sc, rfl, HRg.out, HEf.out.mono (fun b hb _ => Or.inr (hb.elim (fun h => h.elim) (fun h => by have := HZ.out; omega)))⟩, HBf.out⟩
end Go.Proofs.YtknhphcfcpjhiaaGreatDoor
namespace Go.Proofs.YtknhphcfcpjhiaaGreatDoor
open Go.RowKit
set_option linter.unusedVariables false
set_option linter.unusedSimpArgs false
set_option maxRecDepth 100000
theorem nameP_size {nm : ByteArray → Bool} {ws : List Wd} {s : Tk} (hz : ∀ i, (wdAt ws i).2.1.length ≤ 140737488355328) : (nameP nm ws s).1.size ≤ maxLen := by
  unfold nameP maxLen
  split
  · have := hz s.pos
    simp [bs, ByteArray.size]; omega
  · exact Nat.zero_le _
theorem erg_col {t c : ByteArray} (ht : t.size ≤ maxLen) (hc : c.size ≤ maxLen) : ERg (.mk 2 ⟨#[]⟩ 0 0 ⟨#[]⟩ t c []) none 0 :=
  ⟨rfl, rfl, rfl, Nat.zero_le _, Nat.zero_le _, ht, hc, fun _ => ⟨rfl, rfl⟩, Nat.le_refl _, by unfold maxLen; omega⟩
/-- the blocks a function may meet: the old ones, and those made behind its own boxes -/
def Bx (A : Nat → Prop) (H H1 : Nat) (b : Nat) : Prop := (A b ∧ b < H) ∨ H1 ≤ b
theorem Bx.sub {A : Nat → Prop} {H H1 : Nat} (h : H ≤ H1) : ∀ b, Bx A H H1 b → Aft A H b := fun b hb => hb.elim (fun h => .inl h.1) (fun hb => .inr (Nat.le_trans h hb))
theorem Bx.aft {A : Nat → Prop} {H H1 H2 : Nat} (h : H1 ≤ H2) : ∀ b, Aft (Bx A H H1) H2 b → Bx A H H1 b := fun b hb => hb.elim id (fun hb => .inr (Nat.le_trans h hb))
theorem TSt.enter {A : Nat → Prop} {N : Nat} {w : World} {wa : Option Addr} {wn wc : Nat} {ws : List Wd} {v : Value} {s : Tk} {ms : List PM} (h : TSt A N w wa wn wc ws v s ms) (H1 : Nat) : TSt (Bx A w.heap.size H1) N w wa wn wc ws v s ms := h.mono (fun b hb hlt => .inl ⟨hb, hlt⟩)
theorem own_blkT {A : Nat → Prop} {N : Nat} {w : World} {wa : Option Addr} {wn wc : Nat} {ws : List Wd} {v : Value} {s : Tk} {ms : List PM} (h : TSt A N w wa wn wc ws v s ms) {i : Nat} (hi : w.heap.size ≤ i) : v.ownBlock ≠ some i := fun e => absurd (h.own.lt _ e).2 (Nat.not_lt.2 hi)
/-- a block of the function's own, behind the taker's calls -/
theorem TTo.box {A : Nat → Prop} {N : Nat} {w w1 W : World} {wa : Option Addr} {wn wc : Nat} {ws : List Wd} {v v' : Value} {s : Tk} {ms : List PM} (h : TSt A N w wa wn wc ws v s ms) (t : TTo N v v' w1 W) {R : Nat} (hR : w.heap.size ≤ R) (hR1 : R < w1.heap.size) : W.heap[R]? = w1.heap[R]? :=
  t.block R hR1 (by have := h.low; omega) (own_blkT h hR)
theorem el_fresh {A B : Nat → Prop} {N H H1 : Nat} {w w' : World} {wa : Option Addr} {wn wc : Nat} {ws : List Wd} {v : Value} {s : Tk} {ms : List PM} (h : TSt B N w wa wn wc ws v s ms) {a : Option Addr} {l : List ET} (hel : EL w' (fun b => False ∨ w.heap.size ≤ b) a l) (hH : H1 ≤ w.heap.size) : EL w' (TQ (Bx A H H1) N v) a l :=
  hel.mono (fun b hb _ => by
    have hb : w.heap.size ≤ b := hb.elim (fun h => h.elim) id
    exact ⟨.inr (Nat.le_trans hH hb), by have := h.low; omega, own_blkT h hb⟩)
set_option maxHeartbeats 12800000 in
theorem column_any (A : Nat → Prop) (N : Nat) (w : World) (wa : Option Addr) (wn wc : Nat) (ws : List Wd) (v : Value) (s : Tk) (ms : List PM) (h : TSt A N w wa wn wc ws v s ms) (hz : ∀ i, (wdAt ws i).2.1.length ≤ 140737488355328) :
    Calls Tryz.prog 220 #[.pointer (some ⟨N, 0, none⟩)] w (PartP A N w wa wn wc ws v (colP nmB ws s)) := by
  have HZ := Lib.hid hz
  have H0 := Lib.hid h
  have hlow := h.low
  have hB1 := bel0 (.cells #[.int .i64 0, .string ⟨#[]⟩, .int .i64 0, .int .i64 0, .string ⟨#[]⟩, .string ⟨#[]⟩, .string ⟨#[]⟩, .slice none 0 0, .int .i64 0, .int .i64 0] 202) (Below.refl w.heap.size w)
  have HX := Lib.hid (Go.heap_alloc_new w (.cells #[.int .i64 0, .string ⟨#[]⟩, .int .i64 0, .int .i64 0, .string ⟨#[]⟩, .string ⟨#[]⟩, .string ⟨#[]⟩, .slice none 0 0, .int .i64 0, .int .i64 0] 202 (0, 0)))
  have HSz := Lib.hid (show (w.alloc (.cells #[.int .i64 0, .string ⟨#[]⟩, .int .i64 0, .int .i64 0, .string ⟨#[]⟩, .string ⟨#[]⟩, .string ⟨#[]⟩, .slice none 0 0, .int .i64 0, .int .i64 0] 202)).heap.size = w.heap.size + 1 by simp)
  clear h hz
  go_enter Tryz.func220, Tryz.ntmps220
  go_upto_region 1 with (fail)
  generalize (w.alloc (.cells #[.int .i64 0, .string ⟨#[]⟩, .int .i64 0, .int .i64 0, .string ⟨#[]⟩, .string ⟨#[]⟩, .string ⟨#[]⟩, .slice none 0 0, .int .i64 0, .int .i64 0] 202)) = w1 at *
  have HT1 := Lib.hid (TTo.of_below (v := v) hB1 (Nat.le_of_lt hlow))
  have HS1 := Lib.hid ((H0.out.enter w1.heap.size).below hB1)
  have HBX := Lib.hid (show ∀ (W : World) (v' : Value), TTo N v v' w1 W → W.heap[w.heap.size]? = some (.cells #[.int .i64 0, .string ⟨#[]⟩, .int .i64 0, .int .i64 0, .string ⟨#[]⟩, .string ⟨#[]⟩, .string ⟨#[]⟩, .slice none 0 0, .int .i64 0, .int .i64 0] 202 (0, 0)) from fun W v' t => (TTo.box H0.out t (Nat.le_refl _) (by have := HSz.out; omega)).trans HX.out)
  have HnB := Lib.hid (show ¬ Bx A w.heap.size w1.heap.size w.heap.size from fun hb => hb.elim (fun h => Nat.lt_irrefl _ h.2) (fun h => by have := HSz.out; omega))
  have HSub := Lib.hid (Bx.sub (A := A) (H := w.heap.size) (H1 := w1.heap.size) (by have := HSz.out; omega))
  have HLow := Lib.hid hlow
  have HSg := Lib.hid (fun (W : World) (s' : Tk) (hs : TSt (Bx A w.heap.size w1.heap.size) N W wa wn wc ws v s' ms) => sign_any [46] (Bx A w.heap.size w1.heap.size) N W wa wn wc ws v s' ms hs)
  clear hB1 hlow
  go_wp2_with fail
  refine (takerName_any _ N _ wa wn wc ws v s ms HS1.out HZ.out).mono ?_
  rintro e w2 ⟨rfl, hs2, ht2⟩
  have HN1 := Lib.hid (nameP_size (nm := nmB) (s := s) HZ.out)
  have HC := Lib.hid (show colP nmB ws s = (if (nameP nmB ws s).2.1 = false then (zPt, false, (nameP nmB ws s).2.2) else if isW ws (nameP nmB ws s).2.2.pos 4 [46] = true then (buildP 2 ⟨#[]⟩ 0 0 ⟨#[]⟩ (nameP nmB ws s).1 (nameP nmB ws (adv (nameP nmB ws s).2.2)).1 8 [], (nameP nmB ws (adv (nameP nmB ws s).2.2)).2.1, (nameP nmB ws (adv (nameP nmB ws s).2.2)).2.2) else (buildP 2 ⟨#[]⟩ 0 0 ⟨#[]⟩ ⟨#[]⟩ (nameP nmB ws s).1 8 [], true, (nameP nmB ws s).2.2)) from rfl)
  obtain ⟨n1, hn1⟩ : ∃ n1, n1 = nameP nmB ws s := ⟨_, rfl⟩
  rw [← hn1] at HN1 HC hs2 ⊢
  have HS2 := Lib.hid hs2
  have HT2 := Lib.hid ht2
  clear hs2 ht2 hn1
  obtain ⟨a, ok, s1⟩ := n1
  dsimp only at HN1 HC HS2 ⊢
  cases ok with
  | false =>
    have HQ := Lib.hid (show colP nmB ws s = (zPt, false, s1) by rw [HC.out]; simp)
    have hR := HBX.out w2 v HT2.out
    obtain ⟨r0, r1, r2, r3, r4, r5, r6, r7, r8, r9, rz, rN⟩ := row10 hR
    have HFin := Lib.hid (part_done HS2.out hR HLow.out HnB.out (HT1.out.trans HT2.out) (Nat.le_refl _) HSub.out zPt none 0 prg_zero (.nil none))
    clear hR
    go_wp2
    refine bodyPost_ret (results_pt2 rfl _ _ w.heap.size _ _ _ _ _ _ _ _ _ _ rfl HFin.out.1) rfl ?_
    rw [HQ.out]
    exact ⟨_, v, ms, rfl, HFin.out.2.1, HFin.out.2.2.1, HFin.out.2.2.2⟩
  | true =>
    go_wp2_with fail
    refine (HSg.out _ s1 HS2.out).mono ?_
    rintro e w3 ⟨rfl, hs3, ht3⟩
    have HS3 := Lib.hid hs3
    have HT3 := Lib.hid (HT2.out.trans ht3)
    obtain ⟨sg, hsg⟩ : ∃ sg, sg = isW ws s1.pos 4 [46] := ⟨_, rfl⟩
    rw [← hsg] at HS3 HC ⊢
    clear hs3 ht3 hsg
    cases sg with
    | false =>
      have HS3 := Lib.hid (show TSt (Bx A w.heap.size w1.heap.size) N w3 wa wn wc ws v s1 ms from HS3.out)
      have HQ := Lib.hid (show colP nmB ws s = (buildP 2 ⟨#[]⟩ 0 0 ⟨#[]⟩ ⟨#[]⟩ a 8 [], true, s1) by rw [HC.out]; simp)
      go_wp2_with fail
      refine (build_any 2 ⟨#[]⟩ 0 0 ⟨#[]⟩ ⟨#[]⟩ a 8 [] (erg_col (by unfold maxLen; decide) HN1.out) (by unfold InR; omega) _ (fun _ => False) none 0 0 (psAt_nil _ _) (by simp)).mono ?_
      rintro e w4 ⟨pv, rfl, ⟨sa, sc, rfl, hrg, hel⟩, hb4⟩
      obtain ⟨p, hp⟩ : ∃ p, p = buildP 2 ⟨#[]⟩ 0 0 ⟨#[]⟩ ⟨#[]⟩ a 8 [] := ⟨_, rfl⟩
      rw [← hp] at hrg hel HQ
      rw [← hp, ptX_arr]
      have HT4 := Lib.hid (HT3.out.trans (.of_below hb4 (Nat.le_of_lt HS3.out.low)))
      have hR := HBX.out w4 v HT4.out
      obtain ⟨r0, r1, r2, r3, r4, r5, r6, r7, r8, r9, rz, rN⟩ := row10 hR
      have HFin := Lib.hid (part_done (HS3.out.below hb4) hR HLow.out HnB.out (HT1.out.trans HT4.out) (Nat.le_refl _) HSub.out p sa sc hrg (el_fresh HS3.out hel HT3.out.below.size))
      clear hR hrg hel hb4 hp
      go_wp2
      refine bodyPost_ret (results_pt2 rfl _ _ w.heap.size _ _ _ _ _ _ _ _ _ _ rfl HFin.out.1) rfl ?_
      rw [HQ.out]
      exact ⟨_, v, ms, rfl, HFin.out.2.1, HFin.out.2.2.1, HFin.out.2.2.2⟩
    | true =>
      have HS3 := Lib.hid (show TSt (Bx A w.heap.size w1.heap.size) N w3 wa wn wc ws v (adv s1) ms from HS3.out)
      go_wp2_with fail
      refine (takerName_any _ N _ wa wn wc ws v (adv s1) ms HS3.out HZ.out).mono ?_
      rintro e w4 ⟨rfl, hs4, ht4⟩
      have HN2 := Lib.hid (nameP_size (nm := nmB) (s := adv s1) HZ.out)
      have HQ := Lib.hid (show colP nmB ws s = (buildP 2 ⟨#[]⟩ 0 0 ⟨#[]⟩ a (nameP nmB ws (adv s1)).1 8 [], (nameP nmB ws (adv s1)).2.1, (nameP nmB ws (adv s1)).2.2) by rw [HC.out]; simp)
      obtain ⟨n2, hn2⟩ : ∃ n2, n2 = nameP nmB ws (adv s1) := ⟨_, rfl⟩
      rw [← hn2] at HN2 HQ hs4 ⊢
      have HS4 := Lib.hid hs4
      have HT4 := Lib.hid (HT3.out.trans ht4)
      clear hs4 ht4 hn2
      obtain ⟨c, ok2, s2⟩ := n2
      dsimp only at HN2 HQ HS4 ⊢
      go_wp2_with fail
      refine (build_any 2 ⟨#[]⟩ 0 0 ⟨#[]⟩ a c 8 [] (erg_col HN1.out HN2.out) (by unfold InR; omega) _ (fun _ => False) none 0 0 (psAt_nil _ _) (by simp)).mono ?_
      rintro e w5 ⟨pv, rfl, ⟨sa, sc, rfl, hrg, hel⟩, hb5⟩
      obtain ⟨p, hp⟩ : ∃ p, p = buildP 2 ⟨#[]⟩ 0 0 ⟨#[]⟩ a c 8 [] := ⟨_, rfl⟩
      rw [← hp] at hrg hel HQ
      rw [← hp, ptX_arr]
      have HT5 := Lib.hid (HT4.out.trans (.of_below hb5 (Nat.le_of_lt HS4.out.low)))
      have hR := HBX.out w5 v HT5.out
      obtain ⟨r0, r1, r2, r3, r4, r5, r6, r7, r8, r9, rz, rN⟩ := row10 hR
      have HFin := Lib.hid (part_done (HS4.out.below hb5) hR HLow.out HnB.out (HT1.out.trans HT5.out) (Nat.le_refl _) HSub.out p sa sc hrg (el_fresh HS4.out hel HT4.out.below.size))
      clear hR hrg hel hb5 hp
      go_wp2
      refine bodyPost_ret (results_pt2 rfl _ _ w.heap.size _ _ _ _ _ _ _ _ _ _ rfl HFin.out.1) rfl ?_
      rw [HQ.out]
      exact ⟨_, v, ms, rfl, HFin.out.2.1, HFin.out.2.2.1, HFin.out.2.2.2⟩
end Go.Proofs.YtknhphcfcpjhiaaGreatDoor
