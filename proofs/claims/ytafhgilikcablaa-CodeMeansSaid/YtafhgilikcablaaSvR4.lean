/- The document's cell of any expression that is formed. -/
import Derived.Test.YtafhgilikcablaaSvG2
import Derived.Test.YtafhgilikcablaaSvVa
import Derived.Test.YtafhgilikcablaaSvBx
namespace Go.Proofs.Ytafhgilikcablaa
open Go.RowKit
set_option linter.unusedVariables false
set_option linter.unusedSimpArgs false
set_option maxRecDepth 100000
def RRes (F : FnD) (nm : ByteArray → Bool) (fm : Int → Int → ByteArray → Bool) (e : ET) : Prop :=
  ∀ (w : World) (D : Nat) (ta sa na : Option Addr) (tn tc sn sc nn nc : Nat) (hF : FnAt w F ta sa na) (htn : tn = F.tabs.length) (hsn : sn = F.srcs.length) (hnn : nn = F.names.length)
    (hD : w.heap[D]? = some (.cells #[.slice ta tn tc, .slice sa sn sc, .slice na nn nc] 119 (0, 0))) (Q : Nat → Prop) (v : Value) (may : Bool) (d : Nat), EV w Q v e → sndB (shD nm fm) d e = true →
    Calls Try.prog 61 #[.pointer (some ⟨D, 0, none⟩), v, .bool may] w (CellAns w (resV F may e))
set_option maxHeartbeats 6400000 in
theorem rcell_n (F : FnD) (nm : ByteArray → Bool) (fm : Int → Int → ByteArray → Bool) (e : ET) (hIH : ∀ p ∈ e.parts, RRes F nm fm p) (h1 : e.kind ≠ 1) (h2 : e.kind ≠ 2) (hlen : e.parts.length ≤ 1000)
    (w : World) (D : Nat) (ta sa na : Option Addr) (tn tc sn sc nn nc : Nat) (hF : FnAt w F ta sa na) (htn : tn = F.tabs.length) (hsn : sn = F.srcs.length) (hnn : nn = F.names.length) (hD : w.heap[D]? = some (.cells #[.slice ta tn tc, .slice sa sn sc, .slice na nn nc] 119 (0, 0))) (Q : Nat → Prop) (sl : Option Addr) (scp : Nat) (may : Bool) (d : Nat) (hrg : ERg e sl scp) (hel : EL w Q sl e.parts) (hsh : sndB (shD nm fm) d e = true) :
    Calls Try.prog 61 #[.pointer (some ⟨D, 0, none⟩), .agg (etX e sl scp).toArray, .bool may] w (CellAns w (resV F may e)) := by
  have HF := Lib.hid hF
  have HTn := Lib.hid htn
  have HSn := Lib.hid hsn
  have HNn := Lib.hid hnn
  have HDf := Lib.hid hD
  have HIH := Lib.hid hIH
  have HRg := Lib.hid hrg
  have HE := Lib.hid hel
  have HSh := Lib.hid hsh
  have HOk := Lib.hid (shD_ok (snd_top hsh) h1 h2)
  obtain ⟨n, hn⟩ : ∃ n, n = e.parts.length := ⟨_, rfl⟩
  have HNl := Lib.hid hn
  have e0 : (etX e sl scp).toArray = #[.int .i64 e.kind, .string e.op, .int .i64 e.vk, .int .i64 e.vn, .string e.vs, .string e.tab, .string e.col, .slice sl n scp] := by rw [hn]; rfl
  rw [e0]
  have hn1 : n ≤ 1000 := by omega
  have HN1 := Lib.hid hn1
  have f1 : (e.kind == 1) = false := by simp [h1]
  have f2 : (e.kind == 2) = false := by simp [h2]
  have HV := Lib.hid (resV_n F may e h1 h2)
  obtain ⟨rs, hrs⟩ : ∃ rs, rs = e.parts.map (resV F (may && (e.kind != 6))) := ⟨_, rfl⟩
  have HRs := Lib.hid hrs
  rw [← hrs] at HV
  have HRl := Lib.hid (show rs.length = n by rw [hrs, List.length_map, hn])
  have HB := Lib.hid (bel0 (.cells #[.int .i64 0, .string ⟨#[]⟩, .int .i64 0, .int .i64 0, .string ⟨#[]⟩, .int .i64 0, .int .i64 0, .slice none 0 0] 56) (bel0 (.cells #[.int .i64 e.kind, .string e.op, .int .i64 e.vk, .int .i64 e.vn, .string e.vs, .string e.tab, .string e.col, .slice sl n scp] 41) (Below.refl w.heap.size w)))
  have HBX := Lib.hid (boxes2 w (.cells #[.int .i64 e.kind, .string e.op, .int .i64 e.vk, .int .i64 e.vn, .string e.vs, .string e.tab, .string e.col, .slice sl n scp] 41 (0, 0)) (.cells #[.int .i64 0, .string ⟨#[]⟩, .int .i64 0, .int .i64 0, .string ⟨#[]⟩, .int .i64 0, .int .i64 0, .slice none 0 0] 56 (0, 0)))
  clear hF htn hsn hnn hD hIH hrg hel hsh hn e0 hrs hlen h1 h2
  go_enter Try.func61, Try.ntmps61
  go_upto_region 1 with (fail)
  generalize ((w.alloc (.cells #[.int .i64 e.kind, .string e.op, .int .i64 e.vk, .int .i64 e.vn, .string e.vs, .string e.tab, .string e.col, .slice sl n scp] 41)).alloc (.cells #[.int .i64 0, .string ⟨#[]⟩, .int .i64 0, .int .i64 0, .string ⟨#[]⟩, .int .i64 0, .int .i64 0, .slice none 0 0] 56)) = w1 at *
  have HC := Lib.hid (show (w1.heap[w.heap.size]? = some (.cells #[.int .i64 e.kind, .string e.op, .int .i64 e.vk, .int .i64 e.vn, .string e.vs, .string e.tab, .string e.col, .slice sl n scp] 41 (0, 0)) ∧ w1.heap[w.heap.size + 1]? = some (.cells #[.int .i64 0, .string ⟨#[]⟩, .int .i64 0, .int .i64 0, .string ⟨#[]⟩, .int .i64 0, .int .i64 0, .slice none 0 0] 56 (0, 0))) ∧ w1.heap.size = w.heap.size + 1 + 1 from HBX.out)
  clear HBX
  obtain ⟨⟨hE, hR⟩, c6⟩ := HC.out
  have hsz : w.heap.size < w1.heap.size := by omega
  obtain ⟨e0, e1, e2, e3, e4, e5, e6, e7⟩ := cellsE hE
  clear hE hR c6
  go_upto_region 7 with (fail)
  obtain ⟨w2, hw2⟩ : ∃ w2, w2 = w1.alloc (.cells #[.int .i64 e.kind, .string e.op, .int .i64 0, .int .i64 0, .string ⟨#[]⟩, .int .i64 0, .int .i64 0, .slice none 0 0] 56) := ⟨_, rfl⟩
  rw [← hw2]
  have HB2 := Lib.hid (show Below w1.heap.size w1 w2 by rw [hw2]; exact bel0 _ (Below.refl _ _))
  have HS2 := Lib.hid (show w2.heap.size = w1.heap.size + 1 by rw [hw2]; simp)
  have H0 := Lib.hid (show RvRel w w2 w1.heap.size 56 e.kind e.op [] (.slice none 0 0) [] (.slice none 0 0) w2 from
    ⟨bt HB.out HB2.out, Nat.le_refl _, fun _ _ _ => rfl, ⟨HB.out.size, by rw [HS2.out]; omega⟩, by rw [hw2]; exact Go.heap_alloc_new w1 _, World.ownsRow_nil _ _ _ _, World.ownsRow_nil _ _ _ _, fun b h => (by cases h), fun q h => (by cases h)⟩)
  have HC2 := Lib.hid (show w2.heap[w.heap.size]? = some (.cells #[.int .i64 e.kind, .string e.op, .int .i64 e.vk, .int .i64 e.vn, .string e.vs, .string e.tab, .string e.col, .slice sl n scp] 41 (0, 0)) ∧ w2.heap[w.heap.size + 1]? = some (.cells #[.int .i64 0, .string ⟨#[]⟩, .int .i64 0, .int .i64 0, .string ⟨#[]⟩, .int .i64 0, .int .i64 0, .slice none 0 0] 56 (0, 0)) from
    ⟨(HB2.out.block _ (by have := HC.out.2; omega)).trans HC.out.1.1, (HB2.out.block _ (by have := HC.out.2; omega)).trans HC.out.1.2⟩)
  have e7' : w2.cell? ⟨w.heap.size, 7, none⟩ = some (.slice sl n scp) := (cellsE HC2.out.1).2.2.2.2.2.2.2
  clear hw2 e0 e1 e2 e3 e4 e5 e6 e7
  go_wp2_with fail
  clear e7'
  go_loopw [10, 43] (fun kv i wr => ∃ (j : Nat) (pl : PL) (v : Value) (ks : List Int), j ≤ n ∧ i = .int .i64 (j : Int) ∧ Hid (pl.length = j ∧ ks.length = j ∧ pl.map (·.1) = (rs.take j).map (·.1) ∧ ks = (rs.take j).map (·.2.1) ∧ (∀ r ∈ rs.take j, r.2.2 = 0) ∧ RvRel w w2 w1.heap.size 56 e.kind e.op pl v ks kv wr)) (fun _ i _ => n - (intOf i).toNat)
  case atStart => exact ⟨0, [], _, [], Nat.zero_le _, rfl, Lib.hid ⟨rfl, rfl, rfl, rfl, fun r h => (by cases h), H0.out⟩⟩
  case round =>
    obtain ⟨j, pl, v, ks, hj, rfl, HL⟩ := hrel
    have HT := Lib.hid HL.out.2.2.2.2.2
    have hj0 : (0 : Int) ≤ (j : Int) := by omega
    have HCr := Lib.hid (show (wr.heap[w.heap.size]? = some (.cells #[.int .i64 e.kind, .string e.op, .int .i64 e.vk, .int .i64 e.vn, .string e.vs, .string e.tab, .string e.col, .slice sl n scp] 41 (0, 0)) ∧ wr.heap[w.heap.size + 1]? = some (.cells #[.int .i64 0, .string ⟨#[]⟩, .int .i64 0, .int .i64 0, .string ⟨#[]⟩, .int .i64 0, .int .i64 0, .slice none 0 0] 56 (0, 0))) ∧ w.heap.size + 1 < wr.heap.size from
      ⟨⟨(HT.out.low _ (by have := HC.out.2; have := HS2.out; omega) (by have := HC.out.2; omega)).trans HC2.out.1, (HT.out.low _ (by have := HC.out.2; have := HS2.out; omega) (by have := HC.out.2; omega)).trans HC2.out.2⟩, by have := HT.out.size; have := HC.out.2; have := HS2.out; omega⟩)
    by_cases hlt : j < n
    · have hji : (j : Int) < (n : Int) := by omega
      have HLt := Lib.hid hlt
      have hjp : j < e.parts.length := by rw [← HNl.out]; exact hlt
      obtain ⟨b, off, pa, pc, hsa, hbl, hat, hprg, hpl⟩ := HE.out.at (i := j) hjp
      subst hsa
      have HBw := Lib.hid HT.out.below
      have hpm : e.parts[j] ∈ e.parts := List.getElem_mem _
      have hrj : j < rs.length := by rw [HRl.out]; exact hlt
      have HRj := Lib.hid (show rs[j] = resV F (may && (e.kind != 6)) (e.parts[j]) by simp only [HRs.out, List.getElem_map])
      have HTk := Lib.hid (show rs.take (j + 1) = rs.take j ++ [rs[j]] by rw [List.take_succ_eq_append_getElem hrj])
      have HErr := Lib.hid (fun (h : (rs[j]).2.2 ≠ 0) => finV_err (k := e.kind) (op := e.op) (may := may) hrj (fun i hi => HL.out.2.2.2.2.1 _ (List.mem_take_iff_getElem.2 ⟨i, by omega, rfl⟩)) h)
      obtain ⟨r, hr⟩ : ∃ r, r = rs[j] := ⟨_, rfl⟩
      rw [← hr] at HRj HTk HErr
      obtain ⟨p, hp⟩ : ∃ p, p = e.parts[j] := ⟨_, rfl⟩
      rw [← hp] at hat hprg hpl hpm HRj
      have HIp := Lib.hid (HIH.out p hpm)
      have HSp := Lib.hid (snd_part HSh.out hpm)
      have HEv := Lib.hid (show ∀ W, Below w.heap.size w W → EV W Q (.agg #[.int .i64 p.kind, .string p.op, .int .i64 p.vk, .int .i64 p.vn, .string p.vs, .string p.tab, .string p.col, .slice pa p.parts.length pc]) p from fun W hW => ⟨pa, pc, rfl, hprg, hpl.keep hW⟩)
      have HKp := Lib.hid (show ∀ W : World, Below wr.heap.size wr W → (W.cell? ⟨w.heap.size, 0, none⟩ = some (.int .i64 e.kind) ∧ W.cell? ⟨w.heap.size, 7, none⟩ = some (.slice (some ⟨b, off, none⟩) n scp) ∧ W.cell? ⟨b, off + j * 8, none⟩ = some (.int .i64 p.kind) ∧ W.cell? ⟨b, off + j * 8 + 1, none⟩ = some (.string p.op) ∧ W.cell? ⟨b, off + j * 8 + 2, none⟩ = some (.int .i64 p.vk) ∧ W.cell? ⟨b, off + j * 8 + 3, none⟩ = some (.int .i64 p.vn) ∧ W.cell? ⟨b, off + j * 8 + 4, none⟩ = some (.string p.vs) ∧ W.cell? ⟨b, off + j * 8 + 5, none⟩ = some (.string p.tab) ∧ W.cell? ⟨b, off + j * 8 + 6, none⟩ = some (.string p.col) ∧ W.cell? ⟨b, off + j * 8 + 7, none⟩ = some (.slice pa p.parts.length pc)) from fun W hW => by
        have h1 := (hW.block w.heap.size (by have := HCr.out.2; omega)).trans HCr.out.1.1
        have h2 := hat.below hbl (bt HBw.out hW)
        exact ⟨cell_of_row W _ 0 _ _ _ h1, cell_of_row W _ 7 _ _ _ h1, h2.c0, h2.c1, h2.c2, h2.c3, h2.c4, h2.c5, h2.c6, h2.c7⟩)
      have HIc := Lib.hid (show ∀ W : World, Below wr.heap.size wr W → ∀ b : Bool, b = (may && (e.kind != 6)) → Calls Try.prog 61 #[.pointer (some ⟨D, 0, none⟩), .agg #[.int .i64 p.kind, .string p.op, .int .i64 p.vk, .int .i64 p.vn, .string p.vs, .string p.tab, .string p.col, .slice pa p.parts.length pc], .bool b] W (CellAns W r) from fun W hW b hb => by
        rw [HRj.out, ← hb]
        have hW' := bt HBw.out hW
        exact HIp.out W D ta sa na tn tc sn sc nn nc (HF.out.keep hW') HTn.out HSn.out HNn.out ((hW'.block D (Array.getElem?_eq_some_iff.1 HDf.out).1).trans HDf.out) Q _ b (d - 1) (HEv.out W hW') HSp.out)
      clear hat hprg hpl hp hjp hlt hj hbl hr hrj hpm
      go_upto_region 11 with (fail)
      go_cut [12, 13, 14] (fun v12 v13 v14 wx => Hid (∃ B ra rc, v12 = .pointer (some ⟨B, 0, none⟩) ∧ v13 = .int .i64 r.2.1 ∧ v14 = .int .i64 r.2.2 ∧ wx.heap[B]? = some (.cells #[.int .i64 r.1.kind, .string r.1.op, .int .i64 r.1.vk, .int .i64 r.1.vn, .string r.1.vs, .int .i64 r.1.src, .int .i64 r.1.col, .slice ra r.1.parts.length rc] 56 (0, 0)) ∧ wr.heap.size ≤ B ∧ Below wr.heap.size wr wx ∧ CRg r.1 ra rc ∧ CL wx (fun b => wr.heap.size ≤ b) ra r.1.parts))
      case first =>
        cases may with
        | false =>
          refine wp_mono (rc11_0 D w.heap.size b off n scp j pc e.kind p pa r wr _ _ _ _ _ _ _ _ _ _ _ _ _ _ _ _ _ _ _ _ _ _ _ _ _ _ _ _ _ _ _ _ _ _ _ _ _ _ _ _ _ _ _ _ _ _ _ _ _ _ _ _ _ _ _ _ _ _ _ _ _ _ _ _ _ _ _ _ _ _ _ _ _ _ _ _ _ _ _ _ _ _ _ _ _ _ _ _ _ _ _ _ _ _ HKp.out HLt.out HN1.out (fun W hW => HIc.out W hW false rfl)) ?_
          rintro e' a' wx ⟨rfl, Bx, ra, rc, u46', u47', u48', u49', u50', u51', u52', u53', u54', u55', u56', u57', u58', u59', u60', u61', u62', rfl, hXb, hBx, hbx, hcrg, hcl⟩
          dsimp only
          go_wp2_with fail
          go_meet
          exact Lib.hid ⟨Bx, ra, rc, rfl, rfl, rfl, hXb, hBx, hbx, hcrg, hcl⟩
        | true =>
          cases hk6 : (e.kind != 6) with
          | false =>
            refine wp_mono (rc11_1 D w.heap.size b off n scp j pc e.kind p pa r wr _ _ _ _ _ _ _ _ _ _ _ _ _ _ _ _ _ _ _ _ _ _ _ _ _ _ _ _ _ _ _ _ _ _ _ _ _ _ _ _ _ _ _ _ _ _ _ _ _ _ _ _ _ _ _ _ _ _ _ _ _ _ _ _ _ _ _ _ _ _ _ _ _ _ _ _ _ _ _ _ _ _ _ _ _ _ _ _ _ _ _ _ _ _ HKp.out HLt.out HN1.out hk6 (fun W hW => HIc.out W hW false (by rw [hk6]; rfl))) ?_
            rintro e' a' wx ⟨rfl, Bx, ra, rc, u46', u47', u48', u49', u50', u51', u52', u53', u54', u55', u56', u57', u58', u59', u60', u61', u62', rfl, hXb, hBx, hbx, hcrg, hcl⟩
            dsimp only
            go_wp2_with fail
            go_meet
            exact Lib.hid ⟨Bx, ra, rc, rfl, rfl, rfl, hXb, hBx, hbx, hcrg, hcl⟩
          | true =>
            refine wp_mono (rc11_2 D w.heap.size b off n scp j pc e.kind p pa r wr _ _ _ _ _ _ _ _ _ _ _ _ _ _ _ _ _ _ _ _ _ _ _ _ _ _ _ _ _ _ _ _ _ _ _ _ _ _ _ _ _ _ _ _ _ _ _ _ _ _ _ _ _ _ _ _ _ _ _ _ _ _ _ _ _ _ _ _ _ _ _ _ _ _ _ _ _ _ _ _ _ _ _ _ _ _ _ _ _ _ _ _ _ _ HKp.out HLt.out HN1.out hk6 (fun W hW => HIc.out W hW true (by rw [hk6]; rfl))) ?_
            rintro e' a' wx ⟨rfl, Bx, ra, rc, u46', u47', u48', u49', u50', u51', u52', u53', u54', u55', u56', u57', u58', u59', u60', u61', u62', rfl, hXb, hBx, hbx, hcrg, hcl⟩
            dsimp only
            go_wp2_with fail
            go_meet
            exact Lib.hid ⟨Bx, ra, rc, rfl, rfl, rfl, hXb, hBx, hbx, hcrg, hcl⟩
      case rest =>
        obtain ⟨Bx, ra, rc, rfl, rfl, rfl, hXb, hBx, hbx, hcrg, hcl⟩ := hcut.out
        obtain ⟨w5, rfl⟩ : ∃ x, x = wc := ⟨_, rfl⟩
        have HBr5 := Lib.hid hbx
        have HX5 := Lib.hid hXb
        have HRg4 := Lib.hid hcrg
        have HCl4 := Lib.hid hcl
        have HBx := Lib.hid hBx
        clear hXb hBx hbx hcrg hcl
        obtain ⟨c, hc⟩ : ∃ c, c = r.1 := ⟨_, rfl⟩
        obtain ⟨kd, hkd⟩ : ∃ kd, kd = r.2.1 := ⟨_, rfl⟩
        obtain ⟨er, her⟩ : ∃ er, er = r.2.2 := ⟨_, rfl⟩
        have HRr := Lib.hid (show r = (c, kd, er) by rw [hc, hkd, her])
        rw [← hc] at HRg4 HCl4 HX5
        rw [← hkd, ← her]
        clear hc hkd her
        by_cases her : er = 0
        · subst her
          have b0 := HT.out.box
          have hcb : (w1.heap.size < wr.heap.size) := by
            have := HT.out.hC; have := HT.out.size; omega
          have hC5 := (HBr5.out.block _ hcb).trans b0
          have y7 := (cellsE hC5).2.2.2.2.2.2.2
          have f7 := frozen_of_row w5 _ 7 _ _ hC5
          obtain ⟨x0, x1, x2, x3, x4, x5, x6, x7⟩ := cellsE HX5.out
          have hx5 : Bx < w5.heap.size := (Array.getElem?_eq_some_iff.1 HX5.out).1
          have hc5 : w1.heap.size < w5.heap.size := Nat.lt_of_lt_of_le hcb HBr5.out.size
          clear hC5 b0
          go_upto_region 14 with (fail)
          have HL6 := Lib.hid (show Below wr.heap.size wr (w5.alloc (.cells #[.int .i64 c.kind, .string c.op, .int .i64 c.vk, .int .i64 c.vn, .string c.vs, .int .i64 c.src, .int .i64 c.col, .slice ra c.parts.length rc] 56)) from bel0 _ HBr5.out)
          have HX6 := Lib.hid (show (w5.alloc (.cells #[.int .i64 c.kind, .string c.op, .int .i64 c.vk, .int .i64 c.vn, .string c.vs, .int .i64 c.src, .int .i64 c.col, .slice ra c.parts.length rc] 56)).heap[w5.heap.size]? = some (.cells #[.int .i64 c.kind, .string c.op, .int .i64 c.vk, .int .i64 c.vn, .string c.vs, .int .i64 c.src, .int .i64 c.col, .slice ra c.parts.length rc] 56 (0, 0)) from Go.heap_alloc_new w5 _)
          have HS6 := Lib.hid (show w2.heap.size ≤ (w5.alloc (.cells #[.int .i64 c.kind, .string c.op, .int .i64 c.vk, .int .i64 c.vn, .string c.vs, .int .i64 c.src, .int .i64 c.col, .slice ra c.parts.length rc] 56)).heap.size from Nat.le_trans HT.out.size HL6.out.size)
          go_wp2_with (at_builtin; refine wpList_etO rfl (.tmp 68) (.tmp 70) rfl w2.heap.size v pl w5.heap.size (c, ra, rc) rfl rfl (by exact row_keep HT.out.row HL6.out) (by exact HX6.out) (by have := HL.out.1; have := HLt.out; omega) (by exact HS6.out) ?_)
          intro g cap w7 hown hgrow hat
          have HOwn := Lib.hid hown
          have HGr := Lib.hid hgrow
          have HAt := Lib.hid hat
          clear hown hgrow hat x0 x1 x2 x3 x4 x5 x6 x7 y7 f7
          have hk7 : ∀ g, u10.ownBlock = some g → g < w7.heap.size ∧ w7.heap[g]? = (w5.alloc (.cells #[.int .i64 c.kind, .string c.op, .int .i64 c.vk, .int .i64 c.vn, .string c.vs, .int .i64 c.src, .int .i64 c.col, .slice ra c.parts.length rc] 56)).heap[g]? := fun g hg => by
            have h1 := (HT.out.kinds.lt g hg).2
            have h2 := HL6.out.size
            have h3 := HGr.out.size
            exact ⟨by omega, HGr.out.block g (by omega) (fun e => HT.out.ne g e.symm hg)⟩
          have HK7 := Lib.hid (show (w7.alloc (.cells #[.int .i64 kd] 3)).ownsRow w2.heap.size 3 1 u10 ks.length (ks.map (Value.int .i64)) from
            ownsRow_far (row_keep HT.out.kinds HL6.out) (fun g hg => (alloc_old3 w7 _ (hk7 g hg).1).trans (hk7 g hg).2))
          have HS7 := Lib.hid (show w2.heap.size ≤ (w7.alloc (.cells #[.int .i64 kd] 3)).heap.size by have := HS6.out; have := HGr.out.size; simp at *; omega)
          clear hk7
          go_wp2_with (at_builtin; refine wpList_int1S rfl (.tmp 72) (.tmp 74) rfl w2.heap.size u10 ks.length _ w7.heap.size kd rfl rfl (by exact HK7.out) (by exact box_cell w7 (.int .i64 kd) 3 rfl) (by have := HL.out.2.1; have := HLt.out; omega) (by exact HS7.out) ?_)
          intro g2 cap2 w8 hown hgrow hat hlt8
          have HOwn2 := Lib.hid hown
          have HGr2 := Lib.hid hgrow
          have HAt2 := Lib.hid hat
          have hC8 : w8.heap[w1.heap.size]? = wr.heap[w1.heap.size]? := by
            have h0 := HT.out.hC
            have h1 := HT.out.size
            have h2 := HL6.out.size
            have h3 := HGr.out.size
            have h4 := hgrow.size
            have a1 : (w7.alloc (.cells #[.int .i64 kd] 3)).heap.size = w7.heap.size + 1 := by simp
            exact (hgrow.block _ (by omega) (fun e => by have := (HT.out.kinds.lt _ e.symm).1; omega)).trans ((alloc_old3 w7 _ (by omega)).trans ((HGr.out.block _ (by omega) (fun e => by have := (HT.out.row.lt _ e.symm).1; omega)).trans (HL6.out.block _ (by omega))))
          have hX8 := hC8.trans HT.out.box
          have y7 := (cellsE hX8).2.2.2.2.2.2.2
          have f7 := frozen_of_row w8 _ 7 _ _ hX8
          have hc8 : w1.heap.size < w8.heap.size := (Array.getElem?_eq_some_iff.1 hX8).1
          have HNx := Lib.hid (HT.out.next HL6.out (y := (c, ra, rc)) (kd := kd) HRg4.out (HCl4.out.keep (bel0 _ (Below.refl _ _))) (by rw [List.length_append]; exact HOwn.out) HGr.out (by simpa using HAt.out) HOwn2.out HGr2.out (by simpa using HAt2.out))
          clear hown hgrow hat hC8 hX8 hlt8 hx5 hc5 hcb
          go_wp2
          go_roundw
          case rel =>
            refine ⟨j + 1, pl ++ [(c, ra, rc)], _, ks ++ [kd], HLt.out, by go_num, Lib.hid ⟨by rw [List.length_append, HL.out.1]; rfl, by rw [List.length_append, HL.out.2.1]; rfl, ?_, ?_, ?_, HNx.out⟩⟩
            · rw [HTk.out, List.map_append, List.map_append, HL.out.2.2.1, HRr.out]; rfl
            · rw [HTk.out, List.map_append, HL.out.2.2.2.1, HRr.out]; rfl
            · intro q hq
              rw [HTk.out] at hq
              rcases List.mem_append.1 hq with hq | hq
              · exact HL.out.2.2.2.2.1 q hq
              · rw [List.mem_singleton.1 hq, HRr.out]
          case measure => have := HLt.out; simp [intOf]; omega
        · have hne : (er != 0) = true := by simp [her]
          have HQ := Lib.hid (show resV F may e = (ctZ, 0, er) by rw [HV.out, HErr.out (by rw [HRr.out]; exact her), HRr.out])
          have hX := (HBr5.out.block (w.heap.size + 1) HCr.out.2).trans HCr.out.1.2
          have HBw5 := Lib.hid (bt HBw.out HBr5.out)
          have HX9 := Lib.hid (box8 hX (.int .i64 0) (.string ⟨#[]⟩) (.int .i64 0) (.int .i64 0) (.string ⟨#[]⟩) (.int .i64 0) (.int .i64 0) (.slice none 0 0))
          have HB9 := Lib.hid (box8_below (K := w.heap.size) (N := w.heap.size + 1) (by omega) HBw5.out (.int .i64 0) (.string ⟨#[]⟩) (.int .i64 0) (.int .i64 0) (.string ⟨#[]⟩) (.int .i64 0) (.int .i64 0) (.slice none 0 0))
          obtain ⟨y0, y1, y2, y3, y4, y5, y6, y7, z0, z1, z2, z3, z4, z5, z6, z7, c7⟩ := z8 hX
          clear hX
          go_wp2
          refine bodyPost_ret (results_cellR rfl _ _ (w.heap.size + 1) _ rfl rfl HX9.out) rfl ?_
          rw [HQ.out]
          exact ⟨⟨_, rfl, none, 0, rfl, rgZ, .nil _⟩, HB9.out⟩
    · have hji : ¬ ((j : Int) < (n : Int)) := by omega
      have hjn : j = n := by omega
      subst hjn
      have HBw := Lib.hid HT.out.below
      have hall : rs.take j = rs := List.take_of_length_le (by rw [HRl.out]; exact Nat.le_refl _)
      have HLn := Lib.hid (show pl.length = j ∧ ks.length = j from ⟨HL.out.1, HL.out.2.1⟩)
      have HFin := Lib.hid (show finV e.kind e.op may rs = if (((e.kind == 6) && !may) || !(fitD e.kind e.op ks).2) = true then (ctZ, 0, 7) else (.mk e.kind e.op 0 0 ⟨#[]⟩ 0 0 (pl.map (·.1)), (fitD e.kind e.op ks).1, 0) by
        rw [finV_none (fun r hr => HL.out.2.2.2.2.1 r (by rw [hall]; exact hr))]
        have e1 := HL.out.2.2.1
        have e2 := HL.out.2.2.2.1
        rw [hall] at e1 e2
        rw [e1, e2])
      have HOk2 := Lib.hid (show OpOk e.kind e.op ks.length by rw [HL.out.2.1, HNl.out]; exact HOk.out)
      obtain ⟨va, vc, hv, hvr, hvl⟩ := HT.out.done HRg.out.k HRg.out.o
      have HVr := Lib.hid hvr
      have HVl := Lib.hid hvl
      obtain ⟨ka, kc, hkv⟩ := own_slice HT.out.kinds
      have HKi := Lib.hid (show ∀ W, Below wr.heap.size wr W → IntsAt W ka ks from fun W hW => (own_ints (by rw [← hkv]; exact HT.out.kinds)).keep hW)
      have hkv' : u10 = .slice ka ks.length kc := hkv
      rw [HLn.out.2] at hkv'
      subst hkv'
      have hv' := hv
      rw [HLn.out.1] at hv'
      subst hv'
      have b0 := HT.out.box
      have HBox := Lib.hid b0
      obtain ⟨x0, x1, x2, x3, x4, x5, x6, x7⟩ := cellsE HCr.out.1.1
      have hs1 : w.heap.size < wr.heap.size := by have := HCr.out.2; omega
      clear hv hvr hvl hkv b0 hall
      have HPf := Lib.hid (show ∀ W, Below wr.heap.size wr W → Calls Try.prog 98 #[.agg #[.int .i64 e.kind, .string e.op, .int .i64 e.vk, .int .i64 e.vn, .string e.vs, .string e.tab, .string e.col, .slice sl j scp], .slice ka j kc] W (FitPost W (fitD e.kind e.op ks)) from fun W hW => by
        have := fits14_any W e.kind e.op e.vk e.vn e.vs e.tab e.col sl j scp ka kc ks (HKi.out W hW) HOk2.out
        rw [HLn.out.2] at this
        exact this)
      obtain ⟨fk, hfk⟩ : ∃ fk, fk = (fitD e.kind e.op ks).1 := ⟨_, rfl⟩
      obtain ⟨fb, hfb⟩ : ∃ fb, fb = (fitD e.kind e.op ks).2 := ⟨_, rfl⟩
      have HFt := Lib.hid (show fitD e.kind e.op ks = (fk, fb) by rw [hfk, hfb])
      rw [HFt.out] at HFin HPf
      clear hfk hfb
      go_wp2_with fail
      refine (HPf.out _ (Below.refl _ _)).mono ?_
      rintro e' w4 ⟨rfl, hb4⟩
      have HB4 := Lib.hid (show Below wr.heap.size wr w4 from hb4)
      have HBw4 := Lib.hid (bt HBw.out hb4)
      have x0 := (cellsE ((HB4.out.block w.heap.size (by have := HCr.out.2; omega)).trans HCr.out.1.1)).1
      have hs2 : w.heap.size < w4.heap.size := by have := HB4.out.size; omega
      clear hb4 x1 x2 x3 x4 x5 x6 x7
      cases fb with
      | false =>
        have HQ := Lib.hid (show resV F _ e = (ctZ, 0, 7) by rw [HV.out, HFin.out, if_pos (by simp)])
        have hX := (HB4.out.block (w.heap.size + 1) HCr.out.2).trans HCr.out.1.2
        have HX9 := Lib.hid (box8 hX (.int .i64 0) (.string ⟨#[]⟩) (.int .i64 0) (.int .i64 0) (.string ⟨#[]⟩) (.int .i64 0) (.int .i64 0) (.slice none 0 0))
        have HB9 := Lib.hid (box8_below (K := w.heap.size) (N := w.heap.size + 1) (by omega) HBw4.out (.int .i64 0) (.string ⟨#[]⟩) (.int .i64 0) (.int .i64 0) (.string ⟨#[]⟩) (.int .i64 0) (.int .i64 0) (.slice none 0 0))
        obtain ⟨y0, y1, y2, y3, y4, y5, y6, y7, z0, z1, z2, z3, z4, z5, z6, z7, c7⟩ := z8 hX
        clear hX
        go_wp2
        refine bodyPost_ret (results_cellR rfl _ _ (w.heap.size + 1) _ rfl rfl HX9.out) rfl ?_
        rw [HQ.out]
        exact ⟨⟨_, rfl, none, 0, rfl, rgZ, .nil _⟩, HB9.out⟩
      | true =>
        cases hk6 : (e.kind == 6) with
        | true =>
          cases may with
          | false =>
            have HQ := Lib.hid (show resV F _ e = (ctZ, 0, 7) by rw [HV.out, HFin.out, if_pos (by rw [hk6]; rfl)])
            have hX := (HB4.out.block (w.heap.size + 1) HCr.out.2).trans HCr.out.1.2
            have HX9 := Lib.hid (box8 hX (.int .i64 0) (.string ⟨#[]⟩) (.int .i64 0) (.int .i64 0) (.string ⟨#[]⟩) (.int .i64 0) (.int .i64 0) (.slice none 0 0))
            have HB9 := Lib.hid (box8_below (K := w.heap.size) (N := w.heap.size + 1) (by omega) HBw4.out (.int .i64 0) (.string ⟨#[]⟩) (.int .i64 0) (.int .i64 0) (.string ⟨#[]⟩) (.int .i64 0) (.int .i64 0) (.slice none 0 0))
            obtain ⟨y0, y1, y2, y3, y4, y5, y6, y7, z0, z1, z2, z3, z4, z5, z6, z7, c7⟩ := z8 hX
            clear hX
            go_wp2
            refine bodyPost_ret (results_cellR rfl _ _ (w.heap.size + 1) _ rfl rfl HX9.out) rfl ?_
            rw [HQ.out]
            exact ⟨⟨_, rfl, none, 0, rfl, rgZ, .nil _⟩, HB9.out⟩
          | true =>
            have HQ := Lib.hid (show resV F _ e = (.mk e.kind e.op 0 0 ⟨#[]⟩ 0 0 (pl.map (·.1)), fk, 0) by rw [HV.out, HFin.out, if_neg (by simp)])
            obtain ⟨a0, a1, a2, a3, a4, a5, a6, a7⟩ := cellsE ((HB4.out.block w1.heap.size (by have := HT.out.hC; have := HT.out.size; omega)).trans HBox.out)
            have hX := (HB4.out.block (w.heap.size + 1) HCr.out.2).trans HCr.out.1.2
            have HX9 := Lib.hid (box8 hX (.int .i64 e.kind) (.string e.op) (.int .i64 0) (.int .i64 0) (.string ⟨#[]⟩) (.int .i64 0) (.int .i64 0) (.slice va j vc))
            have HB9 := Lib.hid (box8_below (K := w.heap.size) (N := w.heap.size + 1) (by omega) HBw4.out (.int .i64 e.kind) (.string e.op) (.int .i64 0) (.int .i64 0) (.string ⟨#[]⟩) (.int .i64 0) (.int .i64 0) (.slice va j vc))
            have HCL := Lib.hid (cl_set8 (N := w.heap.size + 1) (K := w2.heap.size) (by have := HC.out.2; have := HS2.out; omega) (HVl.out.keep HB4.out) (.int .i64 e.kind) (.string e.op) (.int .i64 0) (.int .i64 0) (.string ⟨#[]⟩) (.int .i64 0) (.int .i64 0) (.slice va j vc))
            obtain ⟨y0, y1, y2, y3, y4, y5, y6, y7, z0, z1, z2, z3, z4, z5, z6, z7, c7⟩ := z8 hX
            clear hX
            go_wp2
            refine bodyPost_ret (results_cellR rfl _ _ (w.heap.size + 1) _ rfl rfl HX9.out) rfl ?_
            rw [HQ.out]
            exact ⟨⟨_, rfl, va, vc, by show _ = Value.agg #[_, _, _, _, _, _, _, Value.slice va (pl.map (·.1)).length vc]; rw [List.length_map, HLn.out.1]; rfl, HVr.out, HCL.out.mono (fun b hb _ => by have hb : w2.heap.size ≤ b := hb; have := HB.out.size; have := HB2.out.size; show w.heap.size ≤ b; omega)⟩, HB9.out⟩
        | false =>
          have HQ := Lib.hid (show resV F _ e = (.mk e.kind e.op 0 0 ⟨#[]⟩ 0 0 (pl.map (·.1)), fk, 0) by rw [HV.out, HFin.out, if_neg (by rw [hk6]; simp)])
          obtain ⟨a0, a1, a2, a3, a4, a5, a6, a7⟩ := cellsE ((HB4.out.block w1.heap.size (by have := HT.out.hC; have := HT.out.size; omega)).trans HBox.out)
          have hX := (HB4.out.block (w.heap.size + 1) HCr.out.2).trans HCr.out.1.2
          have HX9 := Lib.hid (box8 hX (.int .i64 e.kind) (.string e.op) (.int .i64 0) (.int .i64 0) (.string ⟨#[]⟩) (.int .i64 0) (.int .i64 0) (.slice va j vc))
          have HB9 := Lib.hid (box8_below (K := w.heap.size) (N := w.heap.size + 1) (by omega) HBw4.out (.int .i64 e.kind) (.string e.op) (.int .i64 0) (.int .i64 0) (.string ⟨#[]⟩) (.int .i64 0) (.int .i64 0) (.slice va j vc))
          have HCL := Lib.hid (cl_set8 (N := w.heap.size + 1) (K := w2.heap.size) (by have := HC.out.2; have := HS2.out; omega) (HVl.out.keep HB4.out) (.int .i64 e.kind) (.string e.op) (.int .i64 0) (.int .i64 0) (.string ⟨#[]⟩) (.int .i64 0) (.int .i64 0) (.slice va j vc))
          obtain ⟨y0, y1, y2, y3, y4, y5, y6, y7, z0, z1, z2, z3, z4, z5, z6, z7, c7⟩ := z8 hX
          clear hX
          go_wp2
          refine bodyPost_ret (results_cellR rfl _ _ (w.heap.size + 1) _ rfl rfl HX9.out) rfl ?_
          rw [HQ.out]
          exact ⟨⟨_, rfl, va, vc, by show _ = Value.agg #[_, _, _, _, _, _, _, Value.slice va (pl.map (·.1)).length vc]; rw [List.length_map, HLn.out.1]; rfl, HVr.out, HCL.out.mono (fun b hb _ => by have hb : w2.heap.size ≤ b := hb; have := HB.out.size; have := HB2.out.size; show w.heap.size ≤ b; omega)⟩, HB9.out⟩
theorem rcell_any (F : FnD) (nm : ByteArray → Bool) (fm : Int → Int → ByteArray → Bool) : ∀ (N : Nat) (e : ET), etSz e ≤ N → N ≤ 1000 → RRes F nm fm e := by
  intro N
  induction N with
  | zero => intro e h; rw [etSz_is] at h; omega
  | succ N ih =>
    intro e hN hN1 w D ta sa na tn tc sn sc nn nc hF htn hsn hnn hD Q v may d hv hsh
    obtain ⟨sl, scp, rfl, hrg, hel⟩ := hv
    by_cases h1 : e.kind = 1
    · rw [resV_1 F may e h1]
      have h := rcell_1 w D F ta sa na tn tc sn sc nn nc e.op e.vk e.vn e.vs e.tab e.col sl e.parts.length scp may hrg.a hrg.n hrg.s
      rw [show (etX e sl scp).toArray = #[.int .i64 1, .string e.op, .int .i64 e.vk, .int .i64 e.vn, .string e.vs, .string e.tab, .string e.col, .slice sl e.parts.length scp] by rw [← h1]; rfl]
      exact h
    by_cases h2 : e.kind = 2
    · rw [resV_2 F may e h2]
      have h := rcell_2 w D F ta sa na tn tc sn sc nn nc hF htn hsn hnn hD e.op e.vk e.vn e.vs e.tab e.col sl e.parts.length scp may
      rw [show (etX e sl scp).toArray = #[.int .i64 2, .string e.op, .int .i64 e.vk, .int .i64 e.vn, .string e.vs, .string e.tab, .string e.col, .slice sl e.parts.length scp] by rw [← h2]; rfl]
      exact h
    have hpl : e.parts.length ≤ 1000 := by
      have h1 : ∀ l : List ET, l.length ≤ elSz l := fun l => by
        induction l with
        | nil => exact Nat.le_refl _
        | cons p l il => show _ + 1 ≤ etSz p + elSz l; rw [etSz_is p]; omega
      have := h1 e.parts
      rw [etSz_is] at hN
      omega
    exact rcell_n F nm fm e (fun p hp => ih p (by have := etSz_part hp; omega) (by omega)) h1 h2 hpl w D ta sa na tn tc sn sc nn nc hF htn hsn hnn hD Q sl scp may d hrg hel hsh
end Go.Proofs.Ytafhgilikcablaa
