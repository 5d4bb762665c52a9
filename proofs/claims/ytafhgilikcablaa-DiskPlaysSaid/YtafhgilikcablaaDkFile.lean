/- Contract of a file's write. -/
import Derived.Test.YtafhgilikcablaaDkCopy
import Derived.Test.YtafhgilikcablaaAppAt
import Derived.WideMake
import Derived.Deep.RegionLaw
import Derived.Deep.RegionLawGrows
import Derived.Deep.DeepCutAuto
import Derived.BigRegion
namespace Go.Proofs.Ytafhgilikcablaa
open Go.RowKit
set_option linter.unusedVariables false
set_option maxRecDepth 100000

/-- what is written in a call, but for blocks of a kind -/
structure Only (S : Nat → Prop) (w w' : World) : Prop where
  os : w'.os = w.os
  tape : w'.tape = w.tape
  output : w'.output = w.output
  size : w.heap.size ≤ w'.heap.size
  block : ∀ i, i < w.heap.size → ¬ S i → w'.heap[i]? = w.heap[i]?
theorem Only.refl (S : Nat → Prop) (w : World) : Only S w w := ⟨rfl, rfl, rfl, Nat.le_refl _, fun _ _ _ => rfl⟩
theorem Only.trans {S : Nat → Prop} {a b c : World} (h : Only S a b) (k : Only S b c) : Only S a c :=
  ⟨k.os.trans h.os, k.tape.trans h.tape, k.output.trans h.output, Nat.le_trans h.size k.size, fun i hi hn => (k.block i (Nat.lt_of_lt_of_le hi h.size) hn).trans (h.block i hi hn)⟩
/-- a set of sectors in block M -/
def SetIn (w : World) (M : Nat) (L : List Lit) : Prop := w.ownsMap Try.prog 3 (unitElem (H := Unit)) M L.length (Maps.setOf (.agg []) L)
/-- a file: its bytes, its unsynced sectors -/
structure FSt (w : World) (B : Nat) (zs : List Int) (L : List Lit) (v m : Value) : Prop where
  own : w.ownsRow B 5 1 v zs.length (zs.map (Value.int .u8))
  rg : ∀ z ∈ zs, 0 ≤ z ∧ z ≤ 255
  mp : (m = .map none ∧ L = []) ∨ ∃ M, m = .map (some M) ∧ B ≤ M ∧ SetIn w M L
/-- the blocks that are a file's -/
def ofFile (D : Nat) (v m : Value) (i : Nat) : Prop := i = D ∨ v.ownBlock = some i ∨ m = .map (some i)

theorem own_set_cell {w : World} {B : Nat} {e : TypeId} {size : Nat} {v : Value} {n : Nat} {xs : List Value} (h : w.ownsRow B e size v n xs) {R : Nat} (hR : ∀ K, v.ownBlock = some K → R < K) (j : Nat) (x : Value) : (w.setCell ⟨R, j, none⟩ x).ownsRow B e size v n xs := by
  refine ⟨h.1, ?_⟩
  rcases h.2 with h0 | ⟨g, cap, cur, rfl, b, hg, r⟩
  · exact .inl h0
  · refine .inr ⟨g, cap, cur, rfl, b, ?_, r⟩
    have := hR g rfl
    rw [heap_setCell_other _ _ _ _ (by show g ≠ R; omega)]
    exact hg
theorem setIf_same {cs : Array Value} {i : Nat} {x : Value} (h : cs[i]? = some x) : cs.setIfInBounds i x = cs := by
  apply Array.ext_getElem?
  intro j
  by_cases e : j = i
  · subst e
    rw [Array.getElem?_setIfInBounds_self_of_lt (Array.getElem?_eq_some_iff.1 h).1, h]
  · rw [Array.getElem?_setIfInBounds_ne (Ne.symm e)]
theorem Only.mono {S S' : Nat → Prop} {w w' : World} (h : Only S w w') (hs : ∀ i, S i → S' i) : Only S' w w' := ⟨h.os, h.tape, h.output, h.size, fun i hi hn => h.block i hi (fun e => hn (hs i e))⟩
theorem ofFile_less {D : Nat} {v m : Value} : ∀ i, ofFile D v (.bool false) i → ofFile D v m i := fun i h => by
  rcases h with h | h | h
  · exact .inl h
  · exact .inr (.inl h)
  · cases h
theorem SetIn.far {w w' : World} {M : Nat} {L : List Lit} (h : SetIn w M L) (e : w'.heap[M]? = w.heap[M]?) : SetIn w' M L := by
  obtain ⟨es, clk, hb, r⟩ := h
  exact ⟨es, clk, e.trans hb, r⟩
theorem SetIn.not_cells {w : World} {M : Nat} {L : List Lit} (h : SetIn w M L) {cs : Array Value} {T : TypeId} {x : Nat × Nat} (e : w.heap[M]? = some (.cells cs T x)) : False := by
  obtain ⟨es, clk, hb, r⟩ := h
  rw [hb] at e
  cases e
theorem SetIn.lt {w : World} {M : Nat} {L : List Lit} (h : SetIn w M L) : M < w.heap.size := by
  obtain ⟨es, clk, hb, r⟩ := h
  exact (Array.getElem?_eq_some_iff.1 hb).1
/-- behind the bytes: the new row in its cell, all else as it was -/
def Cut1 (w : World) (D off B : Nat) (cs : Array Value) (T : TypeId) (m v : Value) (zs : List Int) (wx : World) : Prop :=
  ∃ v', wx.ownsRow B 5 1 v' zs.length (zs.map (Value.int .u8)) ∧ wx.heap[D]? = some (.cells (cs.setIfInBounds off v') T (0, 0)) ∧ Only (ofFile D v (.bool false)) w wx ∧ (v'.ownBlock = v.ownBlock ∨ ∃ K, v'.ownBlock = some K ∧ w.heap.size ≤ K)
theorem Only.of {S : Nat → Prop} {w w' : World} {row : Option Nat} (h : w.grownBy w' row) (hr : ∀ K, row = some K → S K) : Only S w w' :=
  ⟨h.os, h.tape, h.output, h.size, fun i hi hn => h.block i hi (fun e => hn (hr i e.symm))⟩
theorem Only.drew {S : Nat → Prop} {w w' : World} (h : Only S w.drew w') : Only S w w' := ⟨h.os, h.tape, h.output, h.size, h.block⟩
theorem Only.set {S : Nat → Prop} {w w' : World} (h : Only S w w') {D off : Nat} (hD : S D) (x : Value) : Only S w (w'.setCell ⟨D, off, none⟩ x) :=
  ⟨h.os, h.tape, h.output, by simpa using h.size, fun i hi hn => (heap_setCell_other _ _ _ _ (fun e => hn (by rw [show i = D from e]; exact hD))).trans (h.block i hi hn)⟩
theorem isB_low {w : World} {a : Option Addr} {L : Nat} {l : List Int} (h : IsB w a L l) : ∀ x, L ≠ 0 → a = some x → x.block < w.heap.size := fun x hx hy => by
  rcases h.2.2.1 with h | ⟨b, off, rfl, hc⟩
  · exact absurd h hx
  · cases hy
    exact World.block_lt_of_cell? w _ (hc 0 (by omega))
theorem own_slice {w : World} {B n size : Nat} {e : TypeId} {v : Value} {xs : List Value} (h : w.ownsRow B e size v n xs) : ∃ a L c, v = .slice a L c := by
  rcases h.2 with ⟨rfl, h0⟩ | ⟨g, cap, cur, rfl, _⟩
  · exact ⟨none, 0, 0, rfl⟩
  · exact ⟨_, _, _, rfl⟩

/-- how many sectors -/
def nS (p n : Nat) : Nat := if n = 0 then 0 else (p + n - 1) / 64 - p / 64 + 1
theorem secs_nS (p n : Nat) : secs p n = (List.range' (p / 64) (nS p n)).map sk := by
  unfold secs nS
  split <;> rfl
theorem sk_wf {q : Nat} (h : q ≤ 100000) : (Lit.int .i64 (q : Int)).wf = true := by
  exact WalkArith.wf_i64 (by omega)
/-- within the loop over the sectors -/
structure LSt (w : World) (D B M : Nat) (S : Nat → Prop) (cs : Array Value) (T : TypeId) (v : Value) (zs : List Int) (L : List Lit) (wr : World) : Prop where
  own : wr.ownsRow B 5 1 v zs.length (zs.map (Value.int .u8))
  box : wr.heap[D]? = some (.cells cs T (0, 0))
  set : SetIn wr M L
  on : Only S w wr
theorem LSt.put {w wr w' : World} {D B M : Nat} {S : Nat → Prop} {cs : Array Value} {T : TypeId} {v : Value} {zs : List Int} {L : List Lit} (h : LSt w D B M S cs T v zs L wr) (hS : S M ∨ w.heap.size ≤ M) (s : Nat)
    (hs : w'.ownsMap Try.prog 3 (unitElem (H := Unit)) M (L.length + 1) ((Maps.setOf (.agg []) L).put (sk s) (.agg []))) (hg : wr.grownBy w' (some M)) : LSt w D B M S cs T v zs (L ++ [sk s]) w' := by
  have hDM : D ≠ M := fun e => by
    obtain ⟨es, clk, hb, _⟩ := h.set
    have := h.box
    rw [e, hb] at this
    cases this
  refine ⟨h.own.kept hg ?_, (hg.block D (Array.getElem?_eq_some_iff.1 h.box).1 (fun e => hDM (Option.some.inj e))).trans h.box, ?_, ?_⟩
  · right
    intro e
    obtain ⟨es, clk, hb, _⟩ := h.set
    rcases h.own.2 with ⟨rfl, _⟩ | ⟨g, cap, cur, rfl, _, hg', _⟩
    · cases e
    · have : g = M := by simpa [Value.ownBlock] using e
      rw [this, hb] at hg'
      cases hg'
  · unfold SetIn
    rw [Maps.setOf_snoc]
    simpa using hs
  · refine ⟨hg.os.trans h.on.os, hg.tape.trans h.on.tape, hg.output.trans h.on.output, Nat.le_trans h.on.size hg.size, fun i hi hn => (hg.block i (Nat.lt_of_lt_of_le hi h.on.size) (fun e => ?_)).trans (h.on.block i hi hn)⟩
    have e := Option.some.inj e
    subst e
    rcases hS with hS | hS
    · exact hn hS
    · omega

theorem wrB_range {zs b : List Int} {p : Nat} (hz : ∀ z ∈ zs, 0 ≤ z ∧ z ≤ 255) (hb : ∀ z ∈ b, 0 ≤ z ∧ z ≤ 255) : ∀ z ∈ wrB zs b p, 0 ≤ z ∧ z ≤ 255 := fun z h => by
  unfold wrB at h
  rcases List.mem_append.1 h with h | h
  · rcases List.mem_append.1 h with h | h
    · exact hz z (List.mem_of_mem_take h)
    · exact hb z h
  · exact hz z (List.mem_of_mem_drop h)
/-- what a file's write leaves -/
def FPost (w : World) (D off B : Nat) (cs : Array Value) (T : TypeId) (v m : Value) (zs : List Int) (L : List Lit) (w' : World) : Prop :=
  ∃ v' m', FSt w' B zs L v' m' ∧ w'.heap[D]? = some (.cells ((cs.setIfInBounds off v').setIfInBounds (off + 2) m') T (0, 0)) ∧ Only (ofFile D v m) w w' ∧ (v'.ownBlock = v.ownBlock ∨ ∃ K, v'.ownBlock = some K ∧ w.heap.size ≤ K) ∧ (m' = m ∨ ∃ K, m' = .map (some K) ∧ w.heap.size ≤ K)

set_option maxHeartbeats 3200000 in
theorem fwrite_any (w : World) (D off B : Nat) (cs : Array Value) (T : TypeId) (zs b : List Int) (L : List Lit) (v m : Value) (p : Nat) (ba : Option Addr) (bl bc : Nat)
    (hbox : w.heap[D]? = some (.cells cs T (0, 0))) (hv : cs[off]? = some v) (hm : cs[off + 2]? = some m) (hD : D < B) (hB : B ≤ w.heap.size) (hF : FSt w B zs L v m) (hp : p ≤ zs.length) (hzl : zs.length ≤ 1000000) (hll : L.length ≤ 1000000)
    (hb : IsB w ba bl b) (hbn : ba = none → bl = 0 ∧ bc = 0) (hble : bl ≤ bc) (hb5 : bl ≤ 25000) (hbo : ∀ x, bl ≠ 0 → ba = some x → ¬ ofFile D v m x.block) :
    Calls Try.prog 86 #[.pointer (some ⟨D, off, none⟩), .int .i64 (p : Int), .slice ba bl bc] w fun e w' => e = .returned (.tuple #[]) ∧ FPost w D off B cs T v m (wrB zs b p) (L ++ secs p bl) w' := by
  obtain ⟨va, vL, vc, hve, hvL, hvI, hvlo, hvn, hvle, hvB⟩ := own_any hF.own hF.rg
  subst hve
  subst hvL
  have q0 := cell_of_row w D off cs T _ hbox
  have q2 := cell_of_row w D (off + 2) cs T _ hbox
  have z0 := frozen_of_row w D off cs T hbox
  have z2 := frozen_of_row w D (off + 2) cs T hbox
  have s1 : ∀ W, (Instr.slice 30 (.slice va zs.length vc) (some (.int .i64 (p : Int))) none none).run Try.prog W = .ok (.slice (offA va vc p) (zs.length - p) (vc - p)) W := fun W => slice_l va _ vc p hp .i64 W
  have HF := Lib.hid hF
  have HI := Lib.hid hb
  have HBo := Lib.hid hbo
  have HBn := Lib.hid hbn
  have HBox := Lib.hid hbox
  have HP := Lib.hid hp
  rw [hv] at q0
  rw [hm] at q2
  clear hF hb hbo hbn hbox hvI hvlo hvn hvB hp
  go_enter Try.func86, Try.ntmps86
  go_wp2_with (refine wpList_copy_at rfl (.tmp 13) (.tmp 14) rfl B va vc zs b p HP.out HF.out.own ba bl bc rfl rfl HI.out ?_)
  intro w1 hown1 hg1
  have hrow : ∀ K, (Value.slice va zs.length vc).ownBlock = some K → D < K := fun K hK => by have := (HF.out.own.lt K hK).1; omega
  have hDs := (Array.getElem?_eq_some_iff.1 HBox.out).1
  have hbox1 := (hg1.block D hDs (fun e => by have := hrow D e.symm; omega)).trans HBox.out
  have HBox1 := Lib.hid hbox1
  have HO1 := Lib.hid hown1
  have HG1 := Lib.hid hg1
  have HI1 := Lib.hid (show IsB w1 ba bl b by
    obtain ⟨k1, k2, k3, k4⟩ := HI.out
    refine ⟨k1, k2, ?_, k4⟩
    rcases k3 with k3 | ⟨x, o, rfl, hc⟩
    · exact .inl k3
    · by_cases h0 : bl = 0
      · exact .inl h0
      · refine .inr ⟨x, o, rfl, fun i hi => ?_⟩
        have hx := HBo.out _ h0 rfl
        have hlt := World.block_lt_of_cell? w _ (hc 0 (by omega))
        rw [World.cell?_of_block (w' := w1) (w := w) (hg1.block x hlt (fun e => hx (.inr (.inl e.symm))))]
        exact hc i hi)
  obtain ⟨c, hc⟩ : ∃ c, c = Nat.min b.length (zs.length - p) := ⟨_, rfl⟩
  have HC := Lib.hid hc
  have hcb : c ≤ bl := by rw [hc, ← HI.out.1]; exact Nat.min_le_left _ _
  have s2 : ∀ W, (Instr.slice 30 (.slice ba bl bc) (some (.int .i64 (c : Int))) none none).run Try.prog W = .ok (.slice (offA ba bc c) (bl - c) (bc - c)) W := fun W => slice_l ba bl bc c hcb .i64 W
  have HI2 := Lib.hid (isB_off HI1.out hcb hble)
  have HN2 := Lib.hid (offA_nil (k := c) HBn.out)
  have hw1 : (cpB zs b p).length = zs.length := cpB_length HP.out
  have HW := Lib.hid (show cpB zs b p ++ b.drop c = wrB zs b p by unfold cpB; rw [← hc]; exact wrB_code HP.out hc)
  rw [← hc]
  clear hown1 hg1 hbox1 q0 q2 z0 z2 hc
  have q0 := cell_of_row w1 D off cs T _ HBox1.out
  have q2 := cell_of_row w1 D (off + 2) cs T _ HBox1.out
  have z0 := frozen_of_row w1 D off cs T HBox1.out
  have z2 := frozen_of_row w1 D (off + 2) cs T HBox1.out
  rw [hv] at q0
  rw [hm] at q2
  generalize hap : offA ba bc c = ap at *
  obtain ⟨Lp, hLp⟩ : ∃ Lp, Lp = bl - c := ⟨_, rfl⟩
  obtain ⟨cp, hcp⟩ : ∃ cp, cp = bc - c := ⟨_, rfl⟩
  rw [← hLp, ← hcp] at s2
  rw [← hLp] at HI2
  rw [← hLp, ← hcp] at HN2
  have hLp5 : Lp ≤ 25000 := by omega
  have HBw1 := Lib.hid (show B ≤ w1.heap.size from Nat.le_trans hB HG1.out.size)
  clear hap hLp hcp
  go_upto_region 1 with (fail)
  go_cut [] (fun wx => Cut1 w D off B cs T m (.slice va zs.length vc) (wrB zs b p) wx)
  case first =>
    go_region_law ((refine step_slice_at rfl (.tmp 20) (.tmp 23) rfl B (.slice va zs.length vc) (cpB zs b p) ap Lp cp (b.drop c) rfl rfl (by rw [hw1]; exact HO1.out) (HI2.out.below (Below.drew (Below.refl _ _)) (isB_low HI2.out)) HN2.out (by omega) HBw1.out ?_; intro v' w' hown hgrow hat; have hs0 : D < w1.drew.heap.size := (Array.getElem?_eq_some_iff.1 HBox1.out).1; have hbx := (hgrow.block D hs0 (fun e => by have := hrow D e.symm; omega)).trans HBox1.out; have e0 := cell_of_row w' D off cs T _ hbx; have f0 := frozen_of_row w' D off cs T hbx; rw [hv] at e0; obtain ⟨a2, L2, c2, rfl⟩ := own_slice hown; have HO2 := Lib.hid hown; have HG2 := Lib.hid hgrow; have HAt := Lib.hid hat; have HBx := Lib.hid hbx; have hsD := (Array.getElem?_eq_some_iff.1 hbx).1; clear hown hgrow hat hbx))
    all_goals
      go_wp2_with fail
      go_meet
    all_goals
      refine ⟨_, own_set_cell (by rw [← HW.out]; exact HO2.out) (fun K hK => by have := (HO2.out.lt K hK).1; omega) off _, Go.heap_setCell_same _ D off _ _ _ HBx.out, ?_, ?_⟩
      · exact ((Only.of HG1.out (fun K hK => .inr (.inl hK))).trans (Only.drew (Only.of HG2.out (fun K hK => .inr (.inl hK))))).set (.inl rfl) _
      · rcases HAt.out with h | h
        · exact .inl h
        · exact .inr ⟨_, h, HG1.out.size⟩
  case rest =>
    obtain ⟨v', ho, hbx, hon, hat⟩ := hcut
    have HO := Lib.hid ho
    have HBx := Lib.hid hbx
    have HOn := Lib.hid hon
    have HAt := Lib.hid hat
    have hDc := (Array.getElem?_eq_some_iff.1 hbx).1
    have g2 := cell_of_row wc D (off + 2) _ T _ hbx
    have y2 := frozen_of_row wc D (off + 2) _ T hbx
    rw [Array.getElem?_setIfInBounds_ne (by omega), hm] at g2
    clear ho hbx hon hat q0 q2 z0 z2
    have hmp := HF.out.mp
    have hmn := fun W q => run_eql_map_nil (P := Try.prog) W 89 3 186 q Try.underlying89
    have hmm := @run_makeMap Try.prog
    have hmk : ∃ q, m = .map q := by
      rcases hmp with ⟨rfl, _⟩ | ⟨M, rfl, _⟩
      · exact ⟨_, rfl⟩
      · exact ⟨_, rfl⟩
    obtain ⟨mq, rfl⟩ := hmk
    go_upto_if 31 with (fail)
    go_cut [] (fun wx => ∃ M, LSt w D B M (ofFile D (.slice va zs.length vc) (.map mq)) ((cs.setIfInBounds off v').setIfInBounds (off + 2) (.map (some M))) T v' (wrB zs b p) L wx ∧ B ≤ M ∧ (ofFile D (.slice va zs.length vc) (.map mq) M ∨ w.heap.size ≤ M) ∧ (mq = some M ∨ w.heap.size ≤ M))
    case first =>
      rcases hmp with ⟨h1, rfl⟩ | ⟨M, h1, hBM, hSet⟩
      · cases h1
        go_wp2
        go_meet
        have hsz : (wc.setCell ⟨D, off + 2, none⟩ (.map (some wc.heap.size))).heap.size = wc.heap.size := by simp
        have hws : w.heap.size ≤ wc.heap.size := HOn.out.size
        have hbw : Below (wc.setCell ⟨D, off + 2, none⟩ (.map (some wc.heap.size))).heap.size (wc.setCell ⟨D, off + 2, none⟩ (.map (some wc.heap.size))) ((wc.setCell ⟨D, off + 2, none⟩ (.map (some wc.heap.size))).alloc (.map #[] 0)) := bel0 _ (Below.refl _ _)
        refine ⟨wc.heap.size, ⟨own_below (own_set_cell HO.out (fun K hK => by have := (HO.out.lt K hK).1; omega) _ _) hbw, (hbw.block D (by rw [hsz]; exact hDc)).trans (Go.heap_setCell_same wc D (off + 2) _ _ _ HBx.out), ?_, ?_⟩, Nat.le_trans hB hws, .inr hws, .inr hws⟩
        · have := World.ownsMap_made (wc.setCell ⟨D, off + 2, none⟩ (.map (some wc.heap.size))) Try.prog 3 (unitElem (H := Unit))
          rw [hsz] at this
          exact this
        · exact ((HOn.out.mono ofFile_less).set (.inl rfl) _).trans (Only.of (row := none) ⟨hbw.os, hbw.tape, hbw.output, hbw.size, fun i hi _ => hbw.block i hi⟩ (fun K hK => by cases hK))
      · cases h1
        go_wp2_with fail
        go_meet
        refine ⟨M, ⟨HO.out, ?_, ?_, HOn.out.mono ofFile_less⟩, hBM, .inl (.inr (.inr rfl)), .inl rfl⟩
        · rw [setIf_same (by rw [Array.getElem?_setIfInBounds_ne (by omega)]; exact hm)]
          exact HBx.out
        · refine hSet.far (HOn.out.block M hSet.lt (fun h => ?_))
          rcases h with h | h | h
          · exact hSet.not_cells (by rw [h]; exact HBox.out)
          · rcases HF.out.own.2 with ⟨e, _⟩ | ⟨g, cap, cur, e, _, hg', _⟩
            · rw [e] at h; cases h
            · rw [e] at h
              have : g = M := by simpa [Value.ownBlock] using h
              exact hSet.not_cells (by rw [← this]; exact hg')
          · cases h
    case rest =>
      obtain ⟨M, hlst, hBM, hMS, hMq⟩ := hcut
      have HL := Lib.hid hlst
      have HMS := Lib.hid hMS
      clear hmp hlst hMS
      have hp6 : p ≤ 1000000 := Nat.le_trans HP.out hzl
      have hp6i : (p : Int) ≤ 1000000 := by omega
      have hp0i : (0 : Int) ≤ (p : Int) := by omega
      go_upto_region 5 with (fail)
      have hwq : wrap64 ((p : Int) / 64) = ((p / 64 + 0 : Nat) : Int) := by unfold wrap64; omega
      have hbl0 : (0 : Int) ≤ (bl : Int) := by omega
      have HNs := Lib.hid (show nS p bl ≤ 500 by unfold nS; split <;> omega)
      have hoff2 : ((cs.setIfInBounds off v').setIfInBounds (off + 2) (.map (some M)))[off + 2]? = some (.map (some M)) := by rw [Array.getElem?_setIfInBounds_self_of_lt (by rw [Array.size_setIfInBounds]; exact (Array.getElem?_eq_some_iff.1 hm).1)]
      go_loopw [7] (fun i wr => ∃ j : Nat, j ≤ nS p bl ∧ i = .int .i64 ((p / 64 + j : Nat) : Int) ∧ Hid (LSt w D B M (ofFile D (.slice va zs.length vc) (.map mq)) ((cs.setIfInBounds off v').setIfInBounds (off + 2) (.map (some M))) T v' (wrB zs b p) (L ++ (List.range' (p / 64) j).map sk) wr)) (fun i _ => p / 64 + nS p bl - (intOf i).toNat)
      case atStart => exact ⟨0, Nat.zero_le _, by first | rw [hwq] | (congr 1; omega) | simp, Lib.hid (by simpa using HL.out)⟩
      case round =>
        obtain ⟨j, hj, rfl, HR⟩ := hrel
        have g2 := cell_of_row wr D (off + 2) _ T _ HR.out.box
        rw [hoff2] at g2
        obtain ⟨q, hq⟩ : ∃ q, q = p / 64 + j := ⟨_, rfl⟩
        have hq0 : (0 : Int) ≤ (q : Int) := by omega
        have hqb : q ≤ 100000 := by have := HNs.out; omega
        have hw1 : IntKind.i64.wrap ((q : Int) * 64) = (q : Int) * 64 := by rw [IntKind.wrap_i64]; omega
        have hw2 : IntKind.i64.wrap ((p : Int) + (bl : Int)) = (p : Int) + (bl : Int) := by rw [IntKind.wrap_i64]; omega
        by_cases hlt : j < nS p bl
        · have hbl : bl ≠ 0 := fun e => by unfold nS at hlt; rw [if_pos e] at hlt; omega
          have hc1 : (q : Int) * 64 < (p : Int) + (bl : Int) := by unfold nS at hlt; rw [if_neg hbl] at hlt; omega
          have hb1 : (0 : Int) < (bl : Int) := by omega
          have HJ := Lib.hid hlt
          rw [← hq]
          have HQ := Lib.hid hq
          clear hq hlt hj
          go_wp2_with (at_mapUpdate; go_loud (refine wpList_mapUpdate_own _ rfl (.tmp 55) (.tmp 56) (.tmp 57) _ rfl 3 186 (Go.Maps.int_keyed Try.underlying3) Try.underlying89 (unitElem (H := Unit)) M _ _ rfl HR.out.set (by rw [List.length_append, List.length_map, List.length_range']; have := HNs.out; have := HJ.out; unfold maxLen; omega) _ _ (sk q) rfl rfl (Go.Maps.keyOf_int_mk Try.underlying3 (sk_wf hqb)) (.agg []) [] unitElem_mk ?_))
          intro w' hs hg
          have HR2 := Lib.hid (HR.out.put HMS.out q (by rw [List.length_append, List.length_map, List.length_range']; exact hs) hg)
          have HE := Lib.hid (show (L ++ (List.range' (p / 64) j).map sk) ++ [sk q] = L ++ (List.range' (p / 64) (j + 1)).map sk by rw [List.range'_concat, HQ.out]; simp)
          rw [HE.out] at HR2
          clear hs hg
          go_wp2
          go_roundw
          case rel =>
            first
              | exact ⟨j + 1, HJ.out, by rw [show p / 64 + (j + 1) = q + 1 by have := HQ.out; omega]; go_num, HR2⟩
              | (repeat apply Exists.intro
                 refine ⟨?_, rfl⟩
                 exact ⟨j + 1, HJ.out, by rw [show p / 64 + (j + 1) = q + 1 by have := HQ.out; omega]; go_num, HR2⟩)
          case measure => have := HJ.out; have := HQ.out; simp [intOf]; omega
        · have hjn : j = nS p bl := by omega
          have HP2 := Lib.hid (show FPost w D off B cs T (.slice va zs.length vc) (.map mq) (wrB zs b p) (L ++ secs p bl) wr from by
            rw [secs_nS, ← hjn]
            refine ⟨v', .map (some M), ⟨HR.out.own, wrB_range HF.out.rg HI.out.mem, .inr ⟨M, rfl, hBM, HR.out.set⟩⟩, HR.out.box, HR.out.on, HAt.out, ?_⟩
            rcases hMq with h | h
            · exact .inl (by rw [h])
            · exact .inr ⟨M, rfl, h⟩)
          rw [← hq]
          by_cases hbl : bl = 0
          · subst hbl
            by_cases hc1 : (q : Int) * 64 < (p : Int) + 0
            · go_wp2
              go_end0
              exact ⟨rfl, HP2.out⟩
            · have hc1' : (p : Int) ≤ (q : Int) * 64 := by omega
              go_wp2
              go_end0
              exact ⟨rfl, HP2.out⟩
          · have hc1 : (p : Int) + (bl : Int) ≤ (q : Int) * 64 := by unfold nS at hjn; rw [if_neg hbl] at hjn; omega
            go_wp2
            go_end0
            exact ⟨rfl, HP2.out⟩
end Go.Proofs.Ytafhgilikcablaa
