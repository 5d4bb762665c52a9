/- The document's disk: Write. (Written by gendpd4.py.) -/
import Derived.Test.YtafhgilikcablaaDpD3
import Derived.Deep.DeepCutAuto
import Derived.Deep.CutBlock
namespace Go.Proofs.Ytafhgilikcablaa
open Go.RowKit Go.Maps
set_option linter.unusedVariables false
set_option maxRecDepth 100000

/-- a row of the call's own with so many noughts behind -/
def GrIn (w : World) (zk : List Int) (v : Value) (wr : World) : Prop := wr.ownsRow w.heap.size 5 1 v zk.length (zk.map (Value.int .u8)) ∧ Only (fun _ => False) w wr
theorem wrap64_in {x : Int} (h1 : -9223372036854775808 ≤ x) (h2 : x ≤ 9223372036854775807) : wrap64 x = x := by unfold wrap64; omega
theorem wrapI_in {x : Int} (h1 : -9223372036854775808 ≤ x) (h2 : x ≤ 9223372036854775807) : IntKind.i64.wrap x = x := by rw [IntKind.wrap_i64]; omega
theorem wr_facts {n p bl : Nat} (hn : p ≤ n) (hz : n ≤ 1000000) (hb : bl ≤ 25000) (h0 : bl ≠ 0) : (0 : Int) ≤ (p : Int) ∧ (p : Int) ≤ (n : Int) ∧ decide ((p : Int) < 0) = false ∧ decide (n < p) = false ∧ decide ((n : Int) < (p : Int)) = false ∧
    wrap64 ((p : Int) + (bl : Int)) = (p : Int) + (bl : Int) ∧ wrap64 ((p : Int) + (bl : Int) - (n : Int)) = (p : Int) + (bl : Int) - (n : Int) ∧ ((bl : Int) == 0) = false ∧ ¬ ((bl : Int) = 0) := by
  refine ⟨by omega, by omega, decide_eq_false (by omega), decide_eq_false (by omega), decide_eq_false (by omega), wrap64_in (by omega) (by omega), wrap64_in (by omega) (by omega), ?_, by omega⟩
  rw [beq_eq_false_iff_ne]
  omega
theorem wr_facts2 {p bl q : Nat} (hp : p ≤ 1000000) (hb : bl ≤ 25000) (h0 : bl ≠ 0) : IntKind.i64.wrap ((p : Int) + (bl : Int)) = (p : Int) + (bl : Int) ∧ wrap64 ((p : Int) + (bl : Int) - 1) = (p : Int) + (bl : Int) - 1 ∧ wrap64 (((p : Int) + (bl : Int) - 1) / 64) = ((p : Int) + (bl : Int) - 1) / 64 ∧
    ((p : Int) + (bl : Int) - 1).tdiv 64 = ((p : Int) + (bl : Int) - 1) / 64 ∧ (0 : Int) ≤ (p : Int) + (bl : Int) - 1 ∧ wrap64 ((p : Int) / 64) = ((p / 64 + 0 : Nat) : Int) :=
  ⟨wrapI_in (by omega) (by omega), wrap64_in (by omega) (by omega), wrap64_in (by omega) (by omega), Int.tdiv_eq_ediv_of_nonneg (by omega), by omega, (wrap64_in (by omega) (by omega)).trans (by omega)⟩
def lenV : Value → Nat | .slice _ n _ => n | _ => 0
theorem own_grow {w wr w' : World} {v : Value} {zs : List Int} (hown : wr.ownsRow w.heap.size 5 1 v zs.length (zs.map (Value.int .u8))) (k : Only (fun _ => False) w wr) (hg : wr.grownBy w' v.ownBlock) : Only (fun _ => False) w w' := by
  refine ⟨hg.os.trans k.os, hg.tape.trans k.tape, hg.output.trans k.output, Nat.le_trans k.size hg.size, fun i hi _ => (hg.block i (Nat.lt_of_lt_of_le hi k.size) (fun e => ?_)).trans (k.block i hi id)⟩
  have := (own_at hown e.symm).1
  omega
theorem grow_alloc {w w1 w' : World} {o : Obj} {r : Option Nat} (h : (w.alloc o).grownBy w' r) (k : Only (fun _ => False) w1 w) (hr : ∀ K, r = some K → w1.heap.size ≤ K) : Only (fun _ => False) w1 w' := by
  have k2 : Only (fun _ => False) w1 (w.alloc o) := k.trans (only_alloc _ w o)
  exact ⟨h.os.trans k2.os, h.tape.trans k2.tape, h.output.trans k2.output, Nat.le_trans k2.size h.size, fun i hi _ => (h.block i (Nat.lt_of_lt_of_le hi k2.size) (fun e => by have := hr i e.symm; omega)).trans (k2.block i hi id)⟩
/-- as the document writes -/
theorem wrB_doc {zs b : List Int} {p k : Nat} (hp : p ≤ zs.length) (hk : p + b.length ≤ zs.length + k) (hk2 : k = 0 ∨ zs.length + k ≤ p + b.length) : cpB (zs ++ List.replicate k 0) b p = wrB zs b p := by
  have hm : Nat.min b.length ((zs ++ List.replicate k 0).length - p) = b.length := by
    show Min.min _ _ = _
    rw [List.length_append, List.length_replicate]
    omega
  unfold cpB wrB
  rw [hm, List.take_of_length_le (Nat.le_refl _), List.take_append, List.drop_append, show p - zs.length = 0 by omega, List.take_zero, List.append_nil, List.append_assoc]
  congr 2
  rw [List.drop_replicate]
  rcases hk2 with rfl | hk2
  · simp
  · rw [show k - (p + b.length - zs.length) = 0 by omega]
    simp
def TcIn (wd : World) (M : Nat) (L : List Lit) (wr : World) : Prop := TIn wr M L ∧ Only (fun i => i = M) wd wr
theorem TcIn.put {wd wr w' : World} {M : Nat} {L : List Lit} (h : TcIn wd M L wr) (s : Nat) (hs : w'.ownsMap Try.prog 3 (plainElem (H := Unit) Try.prog 4) M (L.length + 1) ((Maps.setOf (.lit (.bool true)) L).put (sk s) (.lit (.bool true)))) (hg : wr.grownBy w' (some M)) : TcIn wd M (L ++ [sk s]) w' := by
  refine ⟨?_, h.2.trans (Only.of hg (fun K hK => by cases hK; rfl))⟩
  unfold TIn
  rw [Maps.setOf_snoc]
  simpa using hs

theorem rwrite_end0 {w w5 w' : World} {E B : Nat} {i0 k0 v : Value} {M0 : Nat} {i1 k1 : Value} {M1 : Nat} {a : DA} {zs : List Int} {L : List Lit} (h : RC w E B i0 k0 M0 i1 k1 M1 a) (k5 : Only (fun _ => False) w w5) (ho : w5.ownsRow w.heap.size 5 1 v zs.length (zs.map (Value.int .u8)))
    (ht : TcIn (w5.setCell ⟨E, 0, none⟩ v) M0 L w') : DPost w E B i0 k0 M0 i1 k1 M1 { a with f0 := ⟨zs, a.f0.ys, L⟩ } w' := by
  have hE : E < w.heap.size := (Array.getElem?_eq_some_iff.1 h.box).1
  have hx5 : w5.heap[E]? = _ := (k5.block E hE id).trans h.box
  have hx6 := Go.heap_setCell_same w5 E 0 _ _ v hx5
  have hlo : ∀ K, v.ownBlock = some K → E < K := fun K hK => by have := (own_at ho hK).1; omega
  have o6 := own_set_cell ho hlo 0 v
  have hEM : E ≠ M0 := by have := h.b0; have := h.lt; omega
  have hx7 := (ht.2.block E (Array.getElem?_eq_some_iff.1 hx6).1 hEM).trans hx6
  have kk : Only (fun i => i = E ∨ i = M0) w w' := (((k5.mono (fun _ => False.elim)).set (S := fun i => i = E ∨ i = M0) (.inl rfl) _)).trans (ht.2.mono (fun i hi => .inr hi))
  refine h.put0 (a' := { a with f0 := ⟨zs, a.f0.ys, L⟩ }) rfl kk hx7 (own_base (own_only o6 ht.2 (fun g hg e => ?_)) h.le) (own_only h.kp0 kk (fun g hg e => ?_)) ht.1 (fun g hg => .inr (own_lt o6 hg).1) (fun g hg => .inl hg) (.inl rfl)
  · have := (own_lt o6 hg).1
    have := h.t0.lt
    omega
  · have := (own_lt h.kp0 hg).1
    have := h.lt
    have := row_tin h.kp0 h.t0 hg
    omega
set_option maxHeartbeats 6400000 in
theorem rwrite_go0 (w : World) (E B : Nat) (i0 k0 : Value) (M0 : Nat) (i1 k1 : Value) (M1 : Nat) (a : DA) (p : Nat) (ba : Option Addr) (bl bc : Nat) (b : List Int) (h : RC w E B i0 k0 M0 i1 k1 M1 a) (hW : a.Wf) (hf : a.few 1000000) (hd : a.down = false) (hp : a.pow = true) (hn : p ≤ a.f0.zs.length)
    (hnf : p + bl ≤ a.f0.zs.length ∨ (p : Int) + (bl : Int) + (a.f1.zs.length : Int) ≤ a.R) (hbl : bl ≠ 0) (hb5 : bl ≤ 25000)
    (hb : IsB w ba bl b) (hbn : ba = none → bl = 0 ∧ bc = 0) (hble : bl ≤ bc) (hbo : ∀ x, bl ≠ 0 → ba = some x → ¬ rS E i0 k0 M0 i1 k1 M1 x.block) :
    Calls Try.prog 42 #[.pointer (some ⟨E, 0, none⟩), .int .i64 0, .int .i64 (p : Int), .slice ba bl bc] w fun e w' => e = .returned (.int .i64 0) ∧ DPost w E B i0 k0 M0 i1 k1 M1 (a.tick.put 0 (a.f0.write b p)) w' := by
  have hbl1 := hb.1
  have hzl : a.f0.zs.length ≤ 1000000 := by obtain ⟨x0, _, x1, _⟩ := hf; exact x0
  have hogl : a.f1.zs.length ≤ 1000000 := by obtain ⟨x0, _, x1, _⟩ := hf; exact x1
  have hLl : a.f0.L.length ≤ 1000000 := by obtain ⟨_, x0, _, x1⟩ := hf; exact x0
  have d8 := h.d8
  rw [hd] at d8
  obtain ⟨va, vL, vc, hve, hvL, hvI, hvlo, hvn, hvle, hvB⟩ := own_any h.is0 hW.w0.rz
  subst hvL
  have c0 : w.cell? ⟨E, 0, none⟩ = some (.slice va a.f0.zs.length vc) := by rw [cell_of_row w E 0 _ _ _ h.box, ← hve]; rfl
  have S0 := Lib.hid (fun (w' : World) (hw : w' = w) => rsize_any w' E B i0 k0 M0 i1 k1 M1 a 0 (by rw [hw]; exact h) hW)
  have SL := Lib.hid (fun (w' : World) (hw : w' = w) => rleft_any w' E B i0 k0 M0 i1 k1 M1 a (by rw [hw]; exact h) hW hf)
  have HSz := Lib.hid (show a.size 0 = a.f0.zs.length from rfl)
  have HLf := Lib.hid (show a.f0.zs.length < p + bl → (p : Int) + (bl : Int) - (a.f0.zs.length : Int) ≤ a.leftN by
    unfold DA.leftN
    intro hh
    have := hW.r0
    omega)
  have HLr := Lib.hid (show 0 ≤ a.leftN ∧ a.leftN ≤ 9223372036854775807 by
    unfold DA.leftN
    have := hW.r1
    omega)
  have H := Lib.hid h
  have HW := Lib.hid hW
  have HP := Lib.hid hp
  have HI := Lib.hid hb
  have HIlo := Lib.hid (isB_low hb)
  have HBn := Lib.hid hbn
  have HBo := Lib.hid hbo
  have HN := Lib.hid hn
  have hEw : E < w.heap.size := (Array.getElem?_eq_some_iff.1 h.box).1
  obtain ⟨n, hnz⟩ : ∃ n, n = a.f0.zs.length := ⟨_, rfl⟩
  have HNz := Lib.hid hnz
  rw [← hnz] at hn c0 HSz HLf hzl
  obtain ⟨hn0, hn1, hd1, hd2, hd3, hw1, hw2, hbz, hbz'⟩ := wr_facts hn hzl hb5 hbl
  clear h hW hp hb hbn hbo hd hnf hvI hvlo hvn hvle hvB hve hf hnz
  go_enter Try.func42, Try.ntmps42
  go_wp2_with fail
  refine (rthere_yes 0 (by decide) _).mono ?_
  rintro e w1 ⟨rfl, hw⟩
  subst hw
  go_wp2_with fail
  refine (S0.out _ rfl).mono ?_
  rintro e w1 ⟨rfl, hw⟩
  subst hw
  rw [HSz.out]
  go_upto_region 9 with (fail)
  go_cut [54] (fun x wx => x = .bool false ∧ wx = w1)
  case first =>
    by_cases hg : (0 : Int) < (p : Int) + (bl : Int) - (n : Int)
    · have HL2 := HLf.out (by omega)
      go_wp2_with fail
      refine (SL.out _ rfl).mono ?_
      rintro e w2 ⟨rfl, hw⟩
      subst hw
      go_wp2_with fail
      go_meet
      exact ⟨by rw [decide_eq_false (show ¬ (a.leftN < (p : Int) + (bl : Int) - (n : Int)) by omega)], rfl⟩
    · have hg' : (p : Int) + (bl : Int) - (n : Int) ≤ 0 := by omega
      go_wp2_with fail
      go_meet
      exact ⟨rfl, rfl⟩
  case rest =>
    obtain ⟨rfl, hwc⟩ := hcut
    subst hwc
    go_wp2_with fail
    refine (rchange_pass _ E B i0 k0 M0 i1 k1 M1 a H.out HW.out HP.out).mono ?_
    rintro e w2 ⟨rfl, hg, hk⟩
    have hi0 : w2.ownsRow B 5 1 i0 a.f0.zs.length (a.f0.zs.map (Value.int .u8)) := hg.is0
    obtain ⟨va, vL, vc, hve, hvL, hvI, hvlo, hvn, hvle, hvB⟩ := own_any hi0 HW.out.w0.rz
    have c0 : w2.cell? ⟨E, 0, none⟩ = some (.slice va n vc) := by rw [cell_of_row w2 E 0 _ _ _ hg.box, HNz.out, ← hvL, ← hve]; rfl
    have hE : E < w2.heap.size := (Array.getElem?_eq_some_iff.1 hg.box).1
    have HG := Lib.hid hg
    have HK := Lib.hid hk
    have HI2 := Lib.hid (isB_keep HI.out hk (HIlo.out) (fun x h1 h2 e => HBo.out x h1 h2 (.inl e)))
    have HI3 := Lib.hid (isB_keep hvI (only_alloc (fun _ => False) w2 (.cells #[] 5)) hvlo (fun _ _ _ => id))
    rw [hvL, ← HNz.out] at HI3
    have HVn := Lib.hid (show va = none → n = 0 ∧ vc = 0 from fun e => by have := hvn e; have := HNz.out; omega)
    clear hg hk d8 hvI hvlo hvn hvle hvB hve S0 SL hi0 hvL
    go_wp2_with (at_builtin; refine wpList_slice rfl (.tmp 61) (.tmp 65) rfl w2.heap.size (.slice (some ⟨w2.heap.size, 0, none⟩) 0 0) [] va n vc a.f0.zs rfl rfl (World.ownsRow_made w2 #[] 0 (Nat.le_refl _) (Nat.zero_le _) rfl) HI3.out HVn.out (by show 0 + n ≤ _; omega) (by simp) ?_)
    intro v3 w3 hown hgr
    have HG3 := Lib.hid (And.intro (show a.f0.zs = a.f0.zs ++ List.replicate 0 0 by simp) (And.intro (show a.f0.zs.length = n + 0 by rw [HNz.out]; rfl) (show GrIn w2 a.f0.zs v3 w3 from ⟨by simpa using hown, only_new hgr⟩)))
    obtain ⟨a3, L3, c3, rfl⟩ := own_slice hown
    clear hown hgr
    clear c0
    go_wp2_with fail
    go_loopw [11] (fun v wr => ∃ (k : Nat) (zk : List Int), (k = 0 ∨ n + k ≤ p + bl) ∧ Hid (zk = a.f0.zs ++ List.replicate k 0 ∧ zk.length = n + k ∧ GrIn w2 zk v wr)) (fun v _ => p + bl - lenV v)
    case atStart => exact ⟨0, _, .inl rfl, HG3⟩
    case round =>
      obtain ⟨k, zk, hk, HR⟩ := hrel
      obtain ⟨ra, rl, rc, e1, e2, rI, rlo, rn, rle, rB⟩ := own_any HR.out.2.2.1 (fun z hz => by
        rw [HR.out.1] at hz
        rcases List.mem_append.1 hz with hz | hz
        · exact HW.out.w0.rz z hz
        · rw [List.eq_of_mem_replicate hz]; omega)
      subst e1
      have e3 : rl = n + k := by rw [e2, HR.out.2.1]
      subst e3
      have hkb : n + k ≤ 1025000 := by rcases hk with h | h <;> omega
      have HRle := Lib.hid rle
      have HRo := Lib.hid HR.out.2.2.1
      clear e2 rI rlo rn rle rB
      by_cases hlt : ((n + k : Nat) : Int) < (p : Int) + (bl : Int)
      · go_wp2_with (at_builtin; refine wpList_byte rfl (.tmp 74) (.tmp 75) rfl w2.heap.size (.slice ra (n + k) rc) zk wr.heap.size 0 rfl rfl (HRo.out.alloc _) ?c1 ?c2 ?c3 ?_)
        case c1 => simp [go_sem]
        case c2 => rw [HR.out.2.1]; omega
        case c3 => have := HR.out.2.2.2.size; simp; omega
        intro g cap w4 hown4 hgrow hat hlt4
        have HR4 := Lib.hid (And.intro (show zk ++ [0] = a.f0.zs ++ List.replicate (k + 1) 0 by rw [HR.out.1, List.replicate_succ', List.append_assoc]) (And.intro (show (zk ++ [0]).length = n + (k + 1) by rw [List.length_append, HR.out.2.1]; rfl) (show GrIn w2 (zk ++ [0]) (.slice (some ⟨g, 0, none⟩) (zk.length + 1) cap) w4 from ⟨by simpa using hown4, grow_alloc hgrow HR.out.2.2.2 (fun K hK => (own_at HR.out.2.2.1 hK).1)⟩)))
        have hk1 : n + (k + 1) ≤ p + bl := by omega
        have HM1 := Lib.hid (show p + bl - (zk.length + 1) < p + bl - (n + k) by rw [HR.out.2.1]; omega)
        clear hown4 hgrow hat hlt4
        go_wp2
        go_roundw
        case rel =>
          first
            | exact ⟨k + 1, _, .inr hk1, HR4⟩
            | (repeat apply Exists.intro
               refine ⟨?_, rfl⟩
               exact ⟨k + 1, _, .inr hk1, HR4⟩)
        case measure => exact HM1.out
      · have hle' : (p : Int) + (bl : Int) ≤ ((n + k : Nat) : Int) := by omega
        obtain ⟨N, hN⟩ : ∃ N, N = n + k := ⟨_, rfl⟩
        have hpN : p ≤ N := by omega
        have s1 : ∀ W, (Instr.slice 30 (.slice ra N rc) (some (.int .i64 (p : Int))) none none).run Try.prog W = .ok (.slice (offA ra rc p) (N - p) (rc - p)) W := fun W => slice_l ra _ rc p hpN .i64 W
        have HKn := Lib.hid (And.intro hk (And.intro hN hle'))
        have HE3 := Lib.hid (show N = zk.length by rw [hN]; exact HR.out.2.1.symm)
        have HZk := Lib.hid HR.out.1
        have HOl := Lib.hid HR.out.2.2.2
        rw [← hN] at HRo hlt hle' HRle ⊢
        have hx5 : wr.heap[E]? = _ := (HOl.out.block E hE id).trans HG.out.box
        have HI5 := Lib.hid (isB_keep HI2.out HOl.out (isB_low HI2.out) (fun _ _ _ => id))
        have HRp := Lib.hid (show wr.ownsRow w2.heap.size 5 1 (.slice ra zk.length rc) zk.length (zk.map (Value.int .u8)) by have := HRo.out; rw [HE3.out] at this; exact this)
        clear HR
        clear hlt hN hkb hk hpN
        go_wp2_with (refine wpList_copy_at rfl (.tmp 79) (.tmp 80) rfl w2.heap.size ra rc zk b p ?c0 HRp.out ba bl bc ?c1 rfl HI5.out ?_)
        case c0 => rw [← HE3.out]; have := HKn.out; have := HN.out; omega
        case c1 => rw [← HE3.out]; rfl
        intro w5 hown5 hg5
        rw [HZk.out, wrB_doc HN.out (by have := HKn.out; have := HNz.out; omega) (by have := HKn.out; have := HNz.out; omega)] at hown5
        have HO5 := Lib.hid (show w5.ownsRow w2.heap.size 5 1 (.slice ra N rc) (wrB a.f0.zs b p).length ((wrB a.f0.zs b p).map (Value.int .u8)) by
          have hl := wrB_length (zs := a.f0.zs) (b := b) HN.out
          have hl' : (wrB a.f0.zs b p).length = Max.max a.f0.zs.length (p + b.length) := hl
          have hh := hown5
          have e : (wrB a.f0.zs b p).length = N := by have := HKn.out; have := HNz.out; omega
          rw [← HZk.out, ← HE3.out] at hh
          rw [e]
          exact hh)
        have k5 : Only (fun _ => False) w2 w5 := own_grow HRp.out HOl.out hg5
        have HK5 := Lib.hid k5
        have hx6 := (k5.block E hE id).trans HG.out.box
        have e0 := cell_of_row w5 E 0 _ _ _ hx6
        have g0 := frozen_of_row w5 E 0 _ _ hx6
        simp only [rCs, List.getElem?_toArray, List.getElem?_cons_zero, List.getElem?_cons_succ] at e0
        have hE5 : E < w5.heap.size := (Array.getElem?_eq_some_iff.1 hx6).1
        have hx7 := Go.heap_setCell_same w5 E 0 _ _ (.slice ra N rc) hx6
        have HX7 := Lib.hid hx7
        have ht7 : TcIn (w5.setCell ⟨E, 0, none⟩ (.slice ra N rc)) M0 a.f0.L (w5.setCell ⟨E, 0, none⟩ (.slice ra N rc)) := by
          have hEM : M0 ≠ E := by have := HG.out.b0; have := HG.out.lt; omega
          have ht0 : TIn w2 M0 a.f0.L := HG.out.t0
          exact ⟨(ht0.far (k5.block M0 ht0.lt id)).far (heap_setCell_other _ _ _ _ hEM), Only.refl _ _⟩
        have HT7 := Lib.hid ht7
        have hp6 : p ≤ 1000000 := Nat.le_trans HN.out (by rw [← HNz.out]; exact hzl)
        obtain ⟨_, _, _, _, _, hwq⟩ := wr_facts2 (q := 0) hp6 hb5 hbl
        have HNs := Lib.hid (show nS p bl = (p + bl - 1) / 64 - p / 64 + 1 ∧ nS p bl ≤ 500 by unfold nS; rw [if_neg hbl]; exact ⟨rfl, by omega⟩)
        clear hown5 hg5 k5 hx5 hx6 hx7 ht7 s1
        go_upto_region 20 with (fail)
        clear e0 g0
        generalize hwd : w5.setCell ⟨E, 0, none⟩ (.slice ra N rc) = wd at *
        have HWd := Lib.hid hwd
        clear hwd
        have hp6i : (p : Int) ≤ 1000000 := by omega
        go_wp2_with fail
        go_loopw [12] (fun i wr => ∃ j : Nat, j ≤ nS p bl ∧ i = .int .i64 ((p / 64 + j : Nat) : Int) ∧ Hid (TcIn wd M0 (a.f0.L ++ (List.range' (p / 64) j).map sk) wr)) (fun i _ => p / 64 + nS p bl - (intOf i).toNat)
        case atStart => exact ⟨0, Nat.zero_le _, by first | rw [hwq] | (congr 1; omega) | simp, Lib.hid (by simpa using HT7.out)⟩
        case round =>
          obtain ⟨j, hj, rfl, HR6⟩ := hrel
          obtain ⟨ws, hws⟩ : ∃ ws, ws = wr := ⟨_, rfl⟩
          have hEM : E ≠ M0 := by have := HG.out.b0; have := HG.out.lt; omega
          have g2 := (cell_of_row _ E 2 _ _ _ ((HR6.out.2.block E (Array.getElem?_eq_some_iff.1 HX7.out).1 hEM).trans HX7.out))
          simp only [rCs, List.setIfInBounds_toArray, List.set_cons_zero, List.set_cons_succ, List.getElem?_toArray, List.getElem?_cons_zero, List.getElem?_cons_succ] at g2
          clear hws
          obtain ⟨q, hq⟩ : ∃ q, q = p / 64 + j := ⟨_, rfl⟩
          have hq0 : (0 : Int) ≤ (q : Int) := by omega
          have hqb : q ≤ 100000 := by have := HNs.out.2; omega
          obtain ⟨hw3, hw4, hw5, hw6, hge, _⟩ := wr_facts2 (q := q) hp6 hb5 hbl
          by_cases hlt : j < nS p bl
          · have hc1 : (q : Int) ≤ ((p : Int) + (bl : Int) - 1) / 64 := by have := HNs.out.1; omega
            have HJ := Lib.hid hlt
            rw [← hq]
            have HQ := Lib.hid hq
            clear hq hlt hj
            go_wp2_with (at_mapUpdate; refine wpList_mapUpdate_own _ rfl (.tmp 101) (.tmp 102) (.const (.bool true)) _ rfl 3 4 (Go.Maps.int_keyed Try.underlying3) Try.underlying95 (plainElem (H := Unit) Try.prog 4) M0 _ _ rfl HR6.out.1 (by rw [List.length_append, List.length_map, List.length_range']; have := HNs.out.2; have := HJ.out; unfold maxLen; omega) _ _ (sk q) rfl rfl (Go.Maps.keyOf_int_mk Try.underlying3 (sk_wf hqb)) (.lit (.bool true)) [] (plainElem_bool Try.underlying4 true) ?_)
            intro w' hs hg
            have HR2 := Lib.hid (HR6.out.put q (by simpa using hs) hg)
            have HE := Lib.hid (show (a.f0.L ++ (List.range' (p / 64) j).map sk) ++ [sk q] = a.f0.L ++ (List.range' (p / 64) (j + 1)).map sk by rw [List.range'_concat, HQ.out]; simp)
            rw [HE.out] at HR2
            clear hs hg
            go_wp2
            go_roundw
            case rel =>
              first
                | exact ⟨j + 1, HJ.out, by rw [show p / 64 + (j + 1) = q + 1 by have := HQ.out; omega]; go_num, HR2⟩
                | (repeat apply Exists.intro
                   refine ⟨?_, rfl⟩
                   exact ⟨j + 1, HJ.out, by rw [show p / 64 + (j + 1) = q + 1 by have := HQ.out; omega]; go_num, HR2⟩)
            case measure => have := HJ.out; have := HQ.out; simp [intOf]; omega
          · have hjn : j = nS p bl := by omega
            have hc1 : ((p : Int) + (bl : Int) - 1) / 64 < (q : Int) := by have := HNs.out.1; omega
            have HP2 := Lib.hid (DPost.from HK.out (rwrite_end0 HG.out HK5.out HO5.out (L := a.f0.L ++ secs p b.length) (by rw [hbl1, secs_nS, ← hjn, HWd.out]; exact HR6.out)))
            rw [← hq]
            go_wp2
            go_ret
            exact ⟨rfl, HP2.out⟩

theorem rwrite_end1 {w w5 w' : World} {E B : Nat} {i0 k0 v : Value} {M0 : Nat} {i1 k1 : Value} {M1 : Nat} {a : DA} {zs : List Int} {L : List Lit} (h : RC w E B i0 k0 M0 i1 k1 M1 a) (k5 : Only (fun _ => False) w w5) (ho : w5.ownsRow w.heap.size 5 1 v zs.length (zs.map (Value.int .u8)))
    (ht : TcIn (w5.setCell ⟨E, 3, none⟩ v) M1 L w') : DPost w E B i0 k0 M0 i1 k1 M1 { a with f1 := ⟨zs, a.f1.ys, L⟩ } w' := by
  have hE : E < w.heap.size := (Array.getElem?_eq_some_iff.1 h.box).1
  have hx5 : w5.heap[E]? = _ := (k5.block E hE id).trans h.box
  have hx6 := Go.heap_setCell_same w5 E 3 _ _ v hx5
  have hlo : ∀ K, v.ownBlock = some K → E < K := fun K hK => by have := (own_at ho hK).1; omega
  have o6 := own_set_cell ho hlo 3 v
  have hEM : E ≠ M1 := by have := h.b1; have := h.lt; omega
  have hx7 := (ht.2.block E (Array.getElem?_eq_some_iff.1 hx6).1 hEM).trans hx6
  have kk : Only (fun i => i = E ∨ i = M1) w w' := (((k5.mono (fun _ => False.elim)).set (S := fun i => i = E ∨ i = M1) (.inl rfl) _)).trans (ht.2.mono (fun i hi => .inr hi))
  refine h.put1 (a' := { a with f1 := ⟨zs, a.f1.ys, L⟩ }) rfl kk hx7 (own_base (own_only o6 ht.2 (fun g hg e => ?_)) h.le) (own_only h.kp1 kk (fun g hg e => ?_)) ht.1 (fun g hg => .inr (own_lt o6 hg).1) (fun g hg => .inl hg) (.inl rfl)
  · have := (own_lt o6 hg).1
    have := h.t1.lt
    omega
  · have := (own_lt h.kp1 hg).1
    have := h.lt
    have := row_tin h.kp1 h.t1 hg
    omega
set_option maxHeartbeats 6400000 in
theorem rwrite_go1 (w : World) (E B : Nat) (i0 k0 : Value) (M0 : Nat) (i1 k1 : Value) (M1 : Nat) (a : DA) (p : Nat) (ba : Option Addr) (bl bc : Nat) (b : List Int) (h : RC w E B i0 k0 M0 i1 k1 M1 a) (hW : a.Wf) (hf : a.few 1000000) (hd : a.down = false) (hp : a.pow = true) (hn : p ≤ a.f1.zs.length)
    (hnf : p + bl ≤ a.f1.zs.length ∨ (p : Int) + (bl : Int) + (a.f0.zs.length : Int) ≤ a.R) (hbl : bl ≠ 0) (hb5 : bl ≤ 25000)
    (hb : IsB w ba bl b) (hbn : ba = none → bl = 0 ∧ bc = 0) (hble : bl ≤ bc) (hbo : ∀ x, bl ≠ 0 → ba = some x → ¬ rS E i0 k0 M0 i1 k1 M1 x.block) :
    Calls Try.prog 42 #[.pointer (some ⟨E, 0, none⟩), .int .i64 1, .int .i64 (p : Int), .slice ba bl bc] w fun e w' => e = .returned (.int .i64 0) ∧ DPost w E B i0 k0 M0 i1 k1 M1 (a.tick.put 1 (a.f1.write b p)) w' := by
  have hbl1 := hb.1
  have hzl : a.f1.zs.length ≤ 1000000 := by obtain ⟨x0, _, x1, _⟩ := hf; exact x1
  have hogl : a.f0.zs.length ≤ 1000000 := by obtain ⟨x0, _, x1, _⟩ := hf; exact x0
  have hLl : a.f1.L.length ≤ 1000000 := by obtain ⟨_, x0, _, x1⟩ := hf; exact x1
  have d8 := h.d8
  rw [hd] at d8
  obtain ⟨va, vL, vc, hve, hvL, hvI, hvlo, hvn, hvle, hvB⟩ := own_any h.is1 hW.w1.rz
  subst hvL
  have c0 : w.cell? ⟨E, 3, none⟩ = some (.slice va a.f1.zs.length vc) := by rw [cell_of_row w E 3 _ _ _ h.box, ← hve]; rfl
  have S0 := Lib.hid (fun (w' : World) (hw : w' = w) => rsize_any w' E B i0 k0 M0 i1 k1 M1 a 1 (by rw [hw]; exact h) hW)
  have SL := Lib.hid (fun (w' : World) (hw : w' = w) => rleft_any w' E B i0 k0 M0 i1 k1 M1 a (by rw [hw]; exact h) hW hf)
  have HSz := Lib.hid (show a.size 1 = a.f1.zs.length from rfl)
  have HLf := Lib.hid (show a.f1.zs.length < p + bl → (p : Int) + (bl : Int) - (a.f1.zs.length : Int) ≤ a.leftN by
    unfold DA.leftN
    intro hh
    have := hW.r0
    omega)
  have HLr := Lib.hid (show 0 ≤ a.leftN ∧ a.leftN ≤ 9223372036854775807 by
    unfold DA.leftN
    have := hW.r1
    omega)
  have H := Lib.hid h
  have HW := Lib.hid hW
  have HP := Lib.hid hp
  have HI := Lib.hid hb
  have HIlo := Lib.hid (isB_low hb)
  have HBn := Lib.hid hbn
  have HBo := Lib.hid hbo
  have HN := Lib.hid hn
  have hEw : E < w.heap.size := (Array.getElem?_eq_some_iff.1 h.box).1
  obtain ⟨n, hnz⟩ : ∃ n, n = a.f1.zs.length := ⟨_, rfl⟩
  have HNz := Lib.hid hnz
  rw [← hnz] at hn c0 HSz HLf hzl
  obtain ⟨hn0, hn1, hd1, hd2, hd3, hw1, hw2, hbz, hbz'⟩ := wr_facts hn hzl hb5 hbl
  clear h hW hp hb hbn hbo hd hnf hvI hvlo hvn hvle hvB hve hf hnz
  go_enter Try.func42, Try.ntmps42
  go_wp2_with fail
  refine (rthere_yes 1 (by decide) _).mono ?_
  rintro e w1 ⟨rfl, hw⟩
  subst hw
  go_wp2_with fail
  refine (S0.out _ rfl).mono ?_
  rintro e w1 ⟨rfl, hw⟩
  subst hw
  rw [HSz.out]
  go_upto_region 9 with (fail)
  go_cut [54] (fun x wx => x = .bool false ∧ wx = w1)
  case first =>
    by_cases hg : (0 : Int) < (p : Int) + (bl : Int) - (n : Int)
    · have HL2 := HLf.out (by omega)
      go_wp2_with fail
      refine (SL.out _ rfl).mono ?_
      rintro e w2 ⟨rfl, hw⟩
      subst hw
      go_wp2_with fail
      go_meet
      exact ⟨by rw [decide_eq_false (show ¬ (a.leftN < (p : Int) + (bl : Int) - (n : Int)) by omega)], rfl⟩
    · have hg' : (p : Int) + (bl : Int) - (n : Int) ≤ 0 := by omega
      go_wp2_with fail
      go_meet
      exact ⟨rfl, rfl⟩
  case rest =>
    obtain ⟨rfl, hwc⟩ := hcut
    subst hwc
    go_wp2_with fail
    refine (rchange_pass _ E B i0 k0 M0 i1 k1 M1 a H.out HW.out HP.out).mono ?_
    rintro e w2 ⟨rfl, hg, hk⟩
    have hi0 : w2.ownsRow B 5 1 i1 a.f1.zs.length (a.f1.zs.map (Value.int .u8)) := hg.is1
    obtain ⟨va, vL, vc, hve, hvL, hvI, hvlo, hvn, hvle, hvB⟩ := own_any hi0 HW.out.w1.rz
    have c0 : w2.cell? ⟨E, 3, none⟩ = some (.slice va n vc) := by rw [cell_of_row w2 E 3 _ _ _ hg.box, HNz.out, ← hvL, ← hve]; rfl
    have hE : E < w2.heap.size := (Array.getElem?_eq_some_iff.1 hg.box).1
    have HG := Lib.hid hg
    have HK := Lib.hid hk
    have HI2 := Lib.hid (isB_keep HI.out hk (HIlo.out) (fun x h1 h2 e => HBo.out x h1 h2 (.inl e)))
    have HI3 := Lib.hid (isB_keep hvI (only_alloc (fun _ => False) w2 (.cells #[] 5)) hvlo (fun _ _ _ => id))
    rw [hvL, ← HNz.out] at HI3
    have HVn := Lib.hid (show va = none → n = 0 ∧ vc = 0 from fun e => by have := hvn e; have := HNz.out; omega)
    clear hg hk d8 hvI hvlo hvn hvle hvB hve S0 SL hi0 hvL
    go_wp2_with (at_builtin; refine wpList_slice rfl (.tmp 61) (.tmp 65) rfl w2.heap.size (.slice (some ⟨w2.heap.size, 0, none⟩) 0 0) [] va n vc a.f1.zs rfl rfl (World.ownsRow_made w2 #[] 0 (Nat.le_refl _) (Nat.zero_le _) rfl) HI3.out HVn.out (by show 0 + n ≤ _; omega) (by simp) ?_)
    intro v3 w3 hown hgr
    have HG3 := Lib.hid (And.intro (show a.f1.zs = a.f1.zs ++ List.replicate 0 0 by simp) (And.intro (show a.f1.zs.length = n + 0 by rw [HNz.out]; rfl) (show GrIn w2 a.f1.zs v3 w3 from ⟨by simpa using hown, only_new hgr⟩)))
    obtain ⟨a3, L3, c3, rfl⟩ := own_slice hown
    clear hown hgr
    clear c0
    go_wp2_with fail
    go_loopw [11] (fun v wr => ∃ (k : Nat) (zk : List Int), (k = 0 ∨ n + k ≤ p + bl) ∧ Hid (zk = a.f1.zs ++ List.replicate k 0 ∧ zk.length = n + k ∧ GrIn w2 zk v wr)) (fun v _ => p + bl - lenV v)
    case atStart => exact ⟨0, _, .inl rfl, HG3⟩
    case round =>
      obtain ⟨k, zk, hk, HR⟩ := hrel
      obtain ⟨ra, rl, rc, e1, e2, rI, rlo, rn, rle, rB⟩ := own_any HR.out.2.2.1 (fun z hz => by
        rw [HR.out.1] at hz
        rcases List.mem_append.1 hz with hz | hz
        · exact HW.out.w1.rz z hz
        · rw [List.eq_of_mem_replicate hz]; omega)
      subst e1
      have e3 : rl = n + k := by rw [e2, HR.out.2.1]
      subst e3
      have hkb : n + k ≤ 1025000 := by rcases hk with h | h <;> omega
      have HRle := Lib.hid rle
      have HRo := Lib.hid HR.out.2.2.1
      clear e2 rI rlo rn rle rB
      by_cases hlt : ((n + k : Nat) : Int) < (p : Int) + (bl : Int)
      · go_wp2_with (at_builtin; refine wpList_byte rfl (.tmp 74) (.tmp 75) rfl w2.heap.size (.slice ra (n + k) rc) zk wr.heap.size 0 rfl rfl (HRo.out.alloc _) ?c1 ?c2 ?c3 ?_)
        case c1 => simp [go_sem]
        case c2 => rw [HR.out.2.1]; omega
        case c3 => have := HR.out.2.2.2.size; simp; omega
        intro g cap w4 hown4 hgrow hat hlt4
        have HR4 := Lib.hid (And.intro (show zk ++ [0] = a.f1.zs ++ List.replicate (k + 1) 0 by rw [HR.out.1, List.replicate_succ', List.append_assoc]) (And.intro (show (zk ++ [0]).length = n + (k + 1) by rw [List.length_append, HR.out.2.1]; rfl) (show GrIn w2 (zk ++ [0]) (.slice (some ⟨g, 0, none⟩) (zk.length + 1) cap) w4 from ⟨by simpa using hown4, grow_alloc hgrow HR.out.2.2.2 (fun K hK => (own_at HR.out.2.2.1 hK).1)⟩)))
        have hk1 : n + (k + 1) ≤ p + bl := by omega
        have HM1 := Lib.hid (show p + bl - (zk.length + 1) < p + bl - (n + k) by rw [HR.out.2.1]; omega)
        clear hown4 hgrow hat hlt4
        go_wp2
        go_roundw
        case rel =>
          first
            | exact ⟨k + 1, _, .inr hk1, HR4⟩
            | (repeat apply Exists.intro
               refine ⟨?_, rfl⟩
               exact ⟨k + 1, _, .inr hk1, HR4⟩)
        case measure => exact HM1.out
      · have hle' : (p : Int) + (bl : Int) ≤ ((n + k : Nat) : Int) := by omega
        obtain ⟨N, hN⟩ : ∃ N, N = n + k := ⟨_, rfl⟩
        have hpN : p ≤ N := by omega
        have s1 : ∀ W, (Instr.slice 30 (.slice ra N rc) (some (.int .i64 (p : Int))) none none).run Try.prog W = .ok (.slice (offA ra rc p) (N - p) (rc - p)) W := fun W => slice_l ra _ rc p hpN .i64 W
        have HKn := Lib.hid (And.intro hk (And.intro hN hle'))
        have HE3 := Lib.hid (show N = zk.length by rw [hN]; exact HR.out.2.1.symm)
        have HZk := Lib.hid HR.out.1
        have HOl := Lib.hid HR.out.2.2.2
        rw [← hN] at HRo hlt hle' HRle ⊢
        have hx5 : wr.heap[E]? = _ := (HOl.out.block E hE id).trans HG.out.box
        have HI5 := Lib.hid (isB_keep HI2.out HOl.out (isB_low HI2.out) (fun _ _ _ => id))
        have HRp := Lib.hid (show wr.ownsRow w2.heap.size 5 1 (.slice ra zk.length rc) zk.length (zk.map (Value.int .u8)) by have := HRo.out; rw [HE3.out] at this; exact this)
        clear HR
        clear hlt hN hkb hk hpN
        go_wp2_with (refine wpList_copy_at rfl (.tmp 79) (.tmp 80) rfl w2.heap.size ra rc zk b p ?c0 HRp.out ba bl bc ?c1 rfl HI5.out ?_)
        case c0 => rw [← HE3.out]; have := HKn.out; have := HN.out; omega
        case c1 => rw [← HE3.out]; rfl
        intro w5 hown5 hg5
        rw [HZk.out, wrB_doc HN.out (by have := HKn.out; have := HNz.out; omega) (by have := HKn.out; have := HNz.out; omega)] at hown5
        have HO5 := Lib.hid (show w5.ownsRow w2.heap.size 5 1 (.slice ra N rc) (wrB a.f1.zs b p).length ((wrB a.f1.zs b p).map (Value.int .u8)) by
          have hl := wrB_length (zs := a.f1.zs) (b := b) HN.out
          have hl' : (wrB a.f1.zs b p).length = Max.max a.f1.zs.length (p + b.length) := hl
          have hh := hown5
          have e : (wrB a.f1.zs b p).length = N := by have := HKn.out; have := HNz.out; omega
          rw [← HZk.out, ← HE3.out] at hh
          rw [e]
          exact hh)
        have k5 : Only (fun _ => False) w2 w5 := own_grow HRp.out HOl.out hg5
        have HK5 := Lib.hid k5
        have hx6 := (k5.block E hE id).trans HG.out.box
        have e0 := cell_of_row w5 E 3 _ _ _ hx6
        have g0 := frozen_of_row w5 E 3 _ _ hx6
        simp only [rCs, List.getElem?_toArray, List.getElem?_cons_zero, List.getElem?_cons_succ] at e0
        have hE5 : E < w5.heap.size := (Array.getElem?_eq_some_iff.1 hx6).1
        have hx7 := Go.heap_setCell_same w5 E 3 _ _ (.slice ra N rc) hx6
        have HX7 := Lib.hid hx7
        have ht7 : TcIn (w5.setCell ⟨E, 3, none⟩ (.slice ra N rc)) M1 a.f1.L (w5.setCell ⟨E, 3, none⟩ (.slice ra N rc)) := by
          have hEM : M1 ≠ E := by have := HG.out.b1; have := HG.out.lt; omega
          have ht0 : TIn w2 M1 a.f1.L := HG.out.t1
          exact ⟨(ht0.far (k5.block M1 ht0.lt id)).far (heap_setCell_other _ _ _ _ hEM), Only.refl _ _⟩
        have HT7 := Lib.hid ht7
        have hp6 : p ≤ 1000000 := Nat.le_trans HN.out (by rw [← HNz.out]; exact hzl)
        obtain ⟨_, _, _, _, _, hwq⟩ := wr_facts2 (q := 0) hp6 hb5 hbl
        have HNs := Lib.hid (show nS p bl = (p + bl - 1) / 64 - p / 64 + 1 ∧ nS p bl ≤ 500 by unfold nS; rw [if_neg hbl]; exact ⟨rfl, by omega⟩)
        clear hown5 hg5 k5 hx5 hx6 hx7 ht7 s1
        go_upto_region 20 with (fail)
        clear e0 g0
        generalize hwd : w5.setCell ⟨E, 3, none⟩ (.slice ra N rc) = wd at *
        have HWd := Lib.hid hwd
        clear hwd
        have hp6i : (p : Int) ≤ 1000000 := by omega
        go_wp2_with fail
        go_loopw [12] (fun i wr => ∃ j : Nat, j ≤ nS p bl ∧ i = .int .i64 ((p / 64 + j : Nat) : Int) ∧ Hid (TcIn wd M1 (a.f1.L ++ (List.range' (p / 64) j).map sk) wr)) (fun i _ => p / 64 + nS p bl - (intOf i).toNat)
        case atStart => exact ⟨0, Nat.zero_le _, by first | rw [hwq] | (congr 1; omega) | simp, Lib.hid (by simpa using HT7.out)⟩
        case round =>
          obtain ⟨j, hj, rfl, HR6⟩ := hrel
          obtain ⟨ws, hws⟩ : ∃ ws, ws = wr := ⟨_, rfl⟩
          have hEM : E ≠ M1 := by have := HG.out.b1; have := HG.out.lt; omega
          have g2 := (cell_of_row _ E 5 _ _ _ ((HR6.out.2.block E (Array.getElem?_eq_some_iff.1 HX7.out).1 hEM).trans HX7.out))
          simp only [rCs, List.setIfInBounds_toArray, List.set_cons_zero, List.set_cons_succ, List.getElem?_toArray, List.getElem?_cons_zero, List.getElem?_cons_succ] at g2
          clear hws
          obtain ⟨q, hq⟩ : ∃ q, q = p / 64 + j := ⟨_, rfl⟩
          have hq0 : (0 : Int) ≤ (q : Int) := by omega
          have hqb : q ≤ 100000 := by have := HNs.out.2; omega
          obtain ⟨hw3, hw4, hw5, hw6, hge, _⟩ := wr_facts2 (q := q) hp6 hb5 hbl
          by_cases hlt : j < nS p bl
          · have hc1 : (q : Int) ≤ ((p : Int) + (bl : Int) - 1) / 64 := by have := HNs.out.1; omega
            have HJ := Lib.hid hlt
            rw [← hq]
            have HQ := Lib.hid hq
            clear hq hlt hj
            go_wp2_with (at_mapUpdate; refine wpList_mapUpdate_own _ rfl (.tmp 101) (.tmp 102) (.const (.bool true)) _ rfl 3 4 (Go.Maps.int_keyed Try.underlying3) Try.underlying95 (plainElem (H := Unit) Try.prog 4) M1 _ _ rfl HR6.out.1 (by rw [List.length_append, List.length_map, List.length_range']; have := HNs.out.2; have := HJ.out; unfold maxLen; omega) _ _ (sk q) rfl rfl (Go.Maps.keyOf_int_mk Try.underlying3 (sk_wf hqb)) (.lit (.bool true)) [] (plainElem_bool Try.underlying4 true) ?_)
            intro w' hs hg
            have HR2 := Lib.hid (HR6.out.put q (by simpa using hs) hg)
            have HE := Lib.hid (show (a.f1.L ++ (List.range' (p / 64) j).map sk) ++ [sk q] = a.f1.L ++ (List.range' (p / 64) (j + 1)).map sk by rw [List.range'_concat, HQ.out]; simp)
            rw [HE.out] at HR2
            clear hs hg
            go_wp2
            go_roundw
            case rel =>
              first
                | exact ⟨j + 1, HJ.out, by rw [show p / 64 + (j + 1) = q + 1 by have := HQ.out; omega]; go_num, HR2⟩
                | (repeat apply Exists.intro
                   refine ⟨?_, rfl⟩
                   exact ⟨j + 1, HJ.out, by rw [show p / 64 + (j + 1) = q + 1 by have := HQ.out; omega]; go_num, HR2⟩)
            case measure => have := HJ.out; have := HQ.out; simp [intOf]; omega
          · have hjn : j = nS p bl := by omega
            have hc1 : ((p : Int) + (bl : Int) - 1) / 64 < (q : Int) := by have := HNs.out.1; omega
            have HP2 := Lib.hid (DPost.from HK.out (rwrite_end1 HG.out HK5.out HO5.out (L := a.f1.L ++ secs p b.length) (by rw [hbl1, secs_nS, ← hjn, HWd.out]; exact HR6.out)))
            rw [← hq]
            go_wp2
            go_ret
            exact ⟨rfl, HP2.out⟩
end Go.Proofs.Ytafhgilikcablaa
