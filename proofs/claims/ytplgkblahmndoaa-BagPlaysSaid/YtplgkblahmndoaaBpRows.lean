/- The program's Rows: each row as often as it is there. -/
import Derived.Test.YtplgkblahmndoaaBpDoc
namespace Go.Proofs.Ytplgkblahmndoaa
open Go.RowKit Go.WideMaps Go.Maps Go.Sort
set_option linter.unusedVariables false
set_option maxRecDepth 100000

/-- where the sum is being made -/
def SLoop (w : World) (K R m : Nat) (De : DataW Unit) (L : List Ent) (T : Int) (wr : World) : Prop :=
  ∃ left cnt, wr.ranges Try.prog 9 entR K R m De left cnt ∧ SatB T (metB (fun e => !left (litK e.1)) L) ∧ (∀ e ∈ L, left (litK e.1) = false → 0 ≤ e.2) ∧ cnt ≤ 3000 ∧ Below w.heap.size w wr
/-- the sum is made -/
def SDone (w : World) (L : List Ent) (T : Int) (wx : World) : Prop := SatB T (sumB L) ∧ (∀ e ∈ L, 0 ≤ e.2) ∧ Below w.heap.size w wx
theorem SLoop.done {w wr : World} {L : List Ent} {T : Int} {left : Lit → Bool} (h1 : SatB T (metB (fun e => !left (litK e.1)) L)) (h2 : ∀ e ∈ L, left (litK e.1) = false → 0 ≤ e.2) (hb : Below w.heap.size w wr) (hl : ∀ k, left k = false) : SDone w L T wr := by
  refine ⟨?_, fun e he => h2 e he (hl _), hb⟩
  rwa [metB_all (fun e _ => by rw [hl]; rfl)] at h1
/-- where the rows are being listed -/
structure PAt (w w3 : World) (sa : Option Addr) (u : Value) (R : List (List Val)) (wr : World) : Prop where
  rows : RowsAt wr w.heap.size u R
  bel : Below w.heap.size w wr
  sz : w3.heap.size ≤ wr.heap.size
  ks : ∀ g, sa = some ⟨g, 0, none⟩ → g < w3.heap.size → wr.heap[g]? = w3.heap[g]? ∧ u.ownBlock ≠ some g
theorem PAt.next {w w3 w5 wc w9 : World} {sa au : Option Addr} {cu RN g3 c3 : Nat} {R : List (List Val)} {XS : List SlN} {x2 : SlN} {rv : List Val} (h : PAt w w3 sa (.slice au RN cu) R w5)
    (hat : ∀ i, i < R.length → RowAt w5 w.heap.size (XS.getD i noX) (R.getD i []) ∧ (∀ b o, (XS.getD i noX).1 = some (b, o) → (Value.slice au RN cu).ownBlock ≠ some b) ∧ (XS.getD i noX).2.1 ≤ (XS.getD i noX).2.2.1) (hX : XS.length = R.length)
    (hown : w5.ownsRow w.heap.size 23 1 (.slice au RN cu) RN (XS.map hdX)) (hbc : Below w5.heap.size w5 wc) (hx : RowAt wc w5.heap.size x2 rv) (hxl : x2.2.1 ≤ x2.2.2.1) (hRN : RN = R.length)
    (hown9 : w9.ownsRow w.heap.size 23 1 (.slice (some ⟨g3, 0, none⟩) (RN + 1) c3) (RN + 1) (XS.map hdX ++ [hdX x2])) (hg9 : wc.grownBy w9 (Value.slice au RN cu).ownBlock) (hor : (Value.slice au RN cu).ownBlock = some g3 ∨ g3 = wc.heap.size) :
    PAt w w3 sa (.slice (some ⟨g3, 0, none⟩) (RN + 1) c3) (R ++ [rv]) w9 where
  rows := RowsAt.push hat hX (fun k hk => (hown.lt k hk).2) hbc hx hxl h.bel.size hRN hown9 hg9 hor
  bel := (h.bel.trans (hbc.mono h.bel.size)).grown hg9 (Nat.le_trans h.bel.size hbc.size) (fun k hk => (hown.lt k hk).1)
  sz := Nat.le_trans h.sz (Nat.le_trans hbc.size hg9.size)
  ks := fun g hg hl => by
    obtain ⟨h1, h2⟩ := h.ks g hg hl
    have hl5 : g < w5.heap.size := Nat.lt_of_lt_of_le hl h.sz
    refine ⟨(hg9.block g (Nat.lt_of_lt_of_le hl5 hbc.size) (fun e => h2 e.symm)).trans ((hbc.block g hl5).trans h1), fun e => ?_⟩
    have e2 : g3 = g := by simpa [Value.ownBlock] using e
    rcases hor with h3 | h3
    · exact h2 (by rw [h3, e2])
    · have := hbc.size
      omega
theorem SatB.next {L : List Ent} {left : Lit → Bool} {T : Int} {e : Ent} (hs : SortB L) (h : SatB T (metB (fun e => !left (litK e.1)) L)) (hk : ∀ a ∈ L, ∀ v ∈ a.1, okV v) (he : e ∈ L) (hle : left (litK e.1) = true) (hn : ∀ x ∈ L, left (litK x.1) = false → 0 ≤ x.2) (hq : 0 ≤ e.2) :
    SatB (min T 100001 + min e.2 100001) (metB (fun x => !(left (litK x.1) && !(litK x.1).sameKey (litK e.1))) L) ∧ ∀ x ∈ L, (left (litK x.1) && !(litK x.1).sameKey (litK e.1)) = false → 0 ≤ x.2 := by
  have hne : ∀ x ∈ L, x ≠ e → (litK x.1).sameKey (litK e.1) = false := fun x hx hxe => sameKey_ne (fun h => hxe (sort_key hs hx he (litK_inj h)))
  have hself : (litK e.1).sameKey (litK e.1) = true := by simp [litK, Lit.sameKey]
  have hnn : 0 ≤ metB (fun e => !left (litK e.1)) L := by
    have hg : ∀ M : List Ent, (∀ x ∈ M, left (litK x.1) = false → 0 ≤ x.2) → 0 ≤ metB (fun e => !left (litK e.1)) M := fun M => by
      induction M with
      | nil => intro _; simp [metB]
      | cons y M ih =>
        intro hy
        have h1 := ih (fun x hx => hy x (by simp [hx]))
        have h2 := hy y (by simp)
        rw [metB]
        cases hly : left (litK y.1) with
        | true => simp; exact h1
        | false => have := h2 hly; simp; omega
    exact hg L hn
  have e1 := metB_more (p := fun e => !left (litK e.1)) (q := fun x => !(left (litK x.1) && !(litK x.1).sameKey (litK e.1))) (nodup_of_sort hs) he (by simp [hle]) (by simp [hself]) (fun x hx hxe => by simp [hne x hx hxe])
  rw [e1]
  refine ⟨h.more hnn hq, fun x hx hlx => ?_⟩
  by_cases hxe : x = e
  · rw [hxe]; exact hq
  · rw [hne x hx hxe] at hlx
    exact hn x hx (by simpa using hlx)
set_option maxHeartbeats 12800000 in
theorem prows_any (w : World) (D B n : Nat) (mo : Option Nat) (Dm : DataW Unit) (t : Lit → Option SlN) (L : List Ent) (h : BagR w D B n mo Dm t L) (oL : OkL L) (hl : L.length ≤ 2000) (hnn : n ≤ 100000) :
    Calls Try.prog 15 #[.pointer (some ⟨D, 0, none⟩)] w (RowsP w (rowsB L)) := by
  have HD := Lib.hid h
  have HL := Lib.hid oL
  have e0 : w.cell? ⟨D, 0, none⟩ = some (.map mo) := cell_of_row w D 0 _ _ _ h.box
  clear h oL
  go_enter Try.func15, Try.ntmps15
  go_upto_region 4 with (fail)
  go_cut [16] (fun v16 wx => Hid (∃ R, v16 = .pointer (some ⟨R, 0, none⟩) ∧ w.heap.size ≤ R ∧ ((L = [] ∧ (∀ ty, (Instr.next (.pointer (some ⟨R, 0, none⟩)) false ty).run Try.prog wx = .ok (.tuple #[.bool false]) wx) ∧ Below w.heap.size w wx) ∨ ∃ K, mo = some K ∧ K < w.heap.size ∧ SLoop w K R n Dm L 0 wx)))
  case first =>
    rcases HD.out.mp with ⟨rfl, hDe⟩ | ⟨K, rfl, hCK, ho⟩
    · have HMn := Lib.hid (show L = [] from List.eq_nil_of_length_eq_zero (by rw [← HD.out.size, hDe]; rfl))
      have hrg := fun (W : World) => run_range_nilMap (P := Try.prog) W 109 9 114 Try.underlying109
      have HNx := Lib.hid (fun ty => run_next_nilMap (P := Try.prog) w ty 0 0 #[])
      clear hDe
      have HI0 := Lib.hid (show Below w.heap.size w (w.alloc (.mapIter none 0 #[] 0)) from bel0 _ (Below.refl _ _))
      go_wp2_with fail
      go_meet
      exact Lib.hid ⟨_, rfl, Nat.le_refl _, .inl ⟨HMn.out, HNx.out, HI0.out⟩⟩
    · have HK := Lib.hid ho
      have HKl := Lib.hid ho.lt
      clear ho
      go_wp2_with (at_range; refine wpList_range_own _ rfl _ 109 rfl 9 114 bstrKeyed Try.underlying109 _ K n _ rfl HK.out ?_; intro w0 hrg0 hg0 hs0)
      go_frame
      have hW0 : Below w.heap.size w w0 := (Below.refl _ _).grown hg0 (Nat.le_refl _) (fun j hj => by cases hj)
      have HR0 := Lib.hid (show SLoop w K w.heap.size n Dm L 0 w0 from ⟨_, _, hrg0, by
        rw [metB_none (fun e he => by
          obtain ⟨x, hx, _⟩ := HD.out.ent e he
          rw [HD.out.bal.on, hx]; rfl)]
        exact SatB.zero, (fun e he hlf => by
          obtain ⟨x, hx, _⟩ := HD.out.ent e he
          rw [HD.out.bal.on, hx] at hlf; cases hlf), by have := HD.out.size; omega, hW0⟩)
      clear hrg0 hg0 hs0 hW0
      go_meet
      exact Lib.hid ⟨_, rfl, Nat.le_refl _, .inr ⟨K, rfl, HKl.out, HR0.out⟩⟩
  case rest =>
    obtain ⟨R, rfl, hRw, hcase⟩ := hcut.out
    have HRw := Lib.hid hRw
    have HC := Lib.hid hcase
    clear hcut hcase hRw e0
    go_upto_block 0 with (fail)
    go_cut [4] (fun v wx => Hid (∃ T, v = .int .i64 T ∧ SDone w L T wx))
    case first =>
      rcases HC.out with ⟨hL0, hnx, hbw⟩ | ⟨K, rfl, hKl, hloop⟩
      · have HL0 := Lib.hid hL0
        have HB := Lib.hid hbw
        clear hbw HC hL0
        go_wp2_with fail
        go_loopw [4] (fun t wr => t = .int .i64 0 ∧ wr = wc) (fun _ wr => 0)
        case atStart => exact ⟨rfl, rfl⟩
        case round =>
          obtain ⟨rfl, hwr⟩ := hrel
          subst hwr
          go_wp2_with fail
          go_meet
          exact Lib.hid ⟨0, rfl, by rw [HL0.out]; exact SatB.zero, by rw [HL0.out]; simp, HB.out⟩
      · have HKl := Lib.hid hKl
        have HLp := Lib.hid hloop
        clear hKl hloop HC
        go_wp2_with fail
        go_loopw [4] (fun t wr => ∃ T : Int, t = .int .i64 T ∧ 0 ≤ T ∧ T ≤ 200002 ∧ Hid (SLoop w K R n Dm L T wr)) (fun _ wr => wr.rangeLeft K R)
        case atStart => exact ⟨0, rfl, by omega, by omega, HLp⟩
        case round =>
          obtain ⟨T, rfl, hT0, hT1, hrel⟩ := hrel
          obtain ⟨left, cnt, hrg, hsat, hnn2, hcn, hbw⟩ := hrel.out
          have HG := Lib.hid hrg
          have HSat := Lib.hid hsat
          have HNN := Lib.hid hnn2
          have HBw := Lib.hid hbw
          clear hrel hrg hsat hnn2 hbw HLp
          go_wp2_with (at_next; refine wpList_next_ranges _ rfl _ rfl 9 bstrKeyed entR Value.string (fun x : SlN => .agg #[.slice (adA x.1) x.2.1 x.2.2.1, .int .i64 x.2.2.2]) (fun key kl hk => by obtain ⟨x, hx, _⟩ := key_str hk; exact ⟨x, hx⟩) (fun v y hv => by obtain ⟨x, rfl, _⟩ := entR_inv hv; exact ⟨x, rfl⟩) K R n _ _ _ rfl HG.out ?_ ?_)
          · intro hc0 hl0
            have HA := Lib.hid (SLoop.done HSat.out HNN.out HBw.out hl0)
            clear hl0
            go_wp2
            go_meet
            exact Lib.hid ⟨T, rfl, HA.out⟩
          · intro x ad l c q kl yd yp w1 cnt1 hkey hlk hv hat hrg1 hlt hg1 hs1 hen
            have ht : t kl = some (ad, l, c, q) := by
              have e := entR_mk (ad, l, c, q)
              have e2 : yd = slD (ad, l, c, q) := (Prod.mk.inj (Option.some.inj (hv.symm.trans e))).1
              rw [e2] at hat
              exact HD.out.bal.at_here hat
            obtain ⟨e, he, hke⟩ := HD.out.all _ _ ht
            obtain ⟨xe, hxe, hne, _⟩ := HD.out.ent e he
            rw [← hke, ht] at hxe
            obtain rfl := Option.some.inj hxe
            have hne : q = e.2 := hne
            subst hke
            have hw1 : Below w.heap.size w w1 := HBw.out.grown hg1 HBw.out.size (fun j hj => by cases hj; exact HRw.out)
            have HB1 := Lib.hid hw1
            have HR1 := Lib.hid hrg1
            have HLt := Lib.hid hlt
            have HEm := Lib.hid he
            have HLk := Lib.hid hlk
            have HQ := Lib.hid hne
            have hq64 : in64 q := by rw [hne]; exact HL.out.num e he
            obtain ⟨hq1, hq2⟩ := hq64
            obtain ⟨wb, hwb⟩ : ∃ wb, wb = w1.alloc (.cells #[.slice (adA ad) l c, .int .i64 q] 114) := ⟨_, rfl⟩
            have hbb : Below w1.heap.size w1 wb := by rw [hwb]; exact bel0 _ (Below.refl _ _)
            have hnew : wb.heap[w1.heap.size]? = some (.cells #[.slice (adA ad) l c, .int .i64 q] 114 (0, 0)) := by rw [hwb]; exact Go.heap_alloc_new _ _
            have c1n : wb.cell? ⟨w1.heap.size, 1, none⟩ = some (.int .i64 q) := cell_of_row wb _ 1 _ _ _ hnew
            have HBb := Lib.hid (bt hw1 hbb)
            have HWb := Lib.hid hwb
            have HRb := Lib.hid (show wb.ranges Try.prog 9 entR K R n Dm (fun z => left z && !z.sameKey (litK e.1)) cnt1 from hrg1.kept (row := none) ⟨hbb.os, hbb.tape, hbb.output, hbb.size, fun i hi _ => hbb.block i hi⟩ (by simp) (by simp))
            clear ht hxe hne he hg1 hw1 hrg1 hlt hkey hbb hnew hat hv hlk hs1 hwb
            go_upto_region 7 with (fail)
            rw [← HWb.out]
            by_cases hneg : q < 0
            · have HF := Lib.hid (neg_yes HEm.out (show e.2 < 0 by rw [← HQ.out]; exact hneg))
              go_wp2
              go_ret2
              rw [HF.out]
              exact ⟨_, rfl, RowsAt.nil _ _, HBb.out⟩
            · have hng : decide (q < 0) = false := decide_eq_false hneg
              have hnq : 0 ≤ q := by omega
              have HNx := Lib.hid (SatB.next HL.out.sort HSat.out (fun a ha => (HL.out.okr a ha).1) HEm.out HLk.out HNN.out (by rw [← HQ.out]; exact hnq))
              rw [← HQ.out] at HNx
              clear hneg
              have HMs := Lib.hid (show wb.rangeLeft K R < wr.rangeLeft K R by rw [HRb.out.left_eq, HG.out.left_eq]; exact HLt.out)
              have HN := Lib.hid (show SLoop w K R n Dm L (min T 100001 + min q 100001) wb from ⟨_, _, HRb.out, HNx.out.1, HNx.out.2, by have := HLt.out; omega, HBb.out⟩)
              have hN0 : 0 ≤ min T 100001 + min q 100001 := by omega
              have hN1 : min T 100001 + min q 100001 ≤ 200002 := by omega
              go_wp2
              go_roundw
              case rel => exact ⟨_, rfl, hN0, hN1, HN⟩
              case measure => exact HMs.out
    case rest =>
      obtain ⟨T, rfl, hsat, hnn3, hbw⟩ := hcut.out
      obtain ⟨hT0, hT1, hT2, hT3⟩ := hsat
      have HNo := Lib.hid (neg_no hnn3)
      have HNN := Lib.hid hnn3
      have HB := Lib.hid hbw
      clear hcut hnn3 hbw HC HRw
      by_cases hbig : 100000 < T
      · have HF := Lib.hid (show rowsB L = ([], 14) by
          unfold rowsB
          rw [HNo.out, if_neg (by simp), if_pos (hT3 hbig)])
        clear hT2 hT3
        go_wp2
        go_ret2
        rw [HF.out]
        exact ⟨_, rfl, RowsAt.nil _ _, HB.out⟩
      · have hsum : sumB L = T := (hT2 (by omega)).symm
        have HF := Lib.hid (show rowsB L = (repB L, 0) by
          unfold rowsB
          rw [HNo.out, if_neg (by simp), if_neg (by omega)])
        have hbi : decide (100000 < T) = false := decide_eq_false hbig
        have HSumL := Lib.hid (show sumB L ≤ 100000 by omega)
        obtain ⟨tn, htn⟩ : ∃ tn : Nat, T = (tn : Int) := ⟨T.toNat, by omega⟩
        subst htn
        have htn2 : tn ≤ 100000 := by omega
        clear hT2 hT3 hsum hbig
        obtain ⟨i0, hi, hz0, hz1, hz2⟩ := info_parts infoVs
        go_wp2_with (at_make; refine wpList_make_own _ rfl _ _ 32 rfl w.heap.size 23 i0 (.slice none 0 0) 1 Try.underlying32 hi hz0 hz1 _ _ _ tn rfl rfl rfl ?b2 ?b3 HB.out.size ?_)
        case b2 => rw [hz2]; omega
        case b3 => unfold maxLen; omega
        intro w2 hown2 hg2
        have hb2 : Below w.heap.size w w2 := HB.out.grown hg2 HB.out.size (fun j hj => by cases hj)
        have HB2 := Lib.hid hb2
        have HO2 := Lib.hid hown2
        clear hown2 hg2 hb2
        go_wp2_with fail
        refine (bsorted_any w2 D B n mo Dm t L (HD.out.below HB2.out) (by rw [HD.out.size]; omega)).mono ?_
        rintro e w3 ⟨v, ss, rfl, hp, hown, hb3⟩
        have hln : ss.length = L.length := by rw [hp.length_eq, ← HD.out.keys.length_eq, List.length_map]
        rw [(HD.out.below HB2.out).sorted hp, hln] at hown
        obtain ⟨sa, sc, rfl, _, hrow⟩ := keys_row hown
        have HB3 := Lib.hid (bt HB2.out hb3)
        have HRow := Lib.hid hrow
        have HR0 := Lib.hid (show PAt w w3 sa (.slice (some ⟨wc.heap.size, 0, none⟩) 0 tn) [] w3 from {
          rows := ⟨[], rfl, own_below HO2.out hb3, fun i h => by simp at h⟩
          bel := bt HB2.out hb3
          sz := Nat.le_refl _
          ks := fun g hg _ => ⟨rfl, fun e => by
            have e2 : wc.heap.size = g := by simpa [Value.ownBlock] using e
            have h1 := (hown.lt g (by rw [hg]; rfl)).1
            have h2 := (HO2.out.lt wc.heap.size rfl).2
            omega⟩ })
        obtain ⟨l, hll⟩ : ∃ l, l = L.length := ⟨_, rfl⟩
        have HLl := Lib.hid hll
        rw [← hll] at hl HRow ⊢
        have hm : l ≤ 9223372036854775807 := by omega
        clear hp hln hown hb3 hrow hll HO2
        go_wp2_with fail
        go_loopw [7, 37] (fun u i wr => ∃ k : Nat, k ≤ l ∧ i = .int .i64 (k : Int) ∧ Hid (PAt w w3 sa u (repB (L.take k)) wr)) (fun _ i _ => l - (intOf i).toNat)
        case atStart => exact ⟨0, by omega, rfl, HR0⟩
        case round =>
          obtain ⟨w4, rfl⟩ : ∃ x, x = wr := ⟨_, rfl⟩
          obtain ⟨k, hk, rfl, HK⟩ := hrel
          have hk0 : (0 : Int) ≤ (k : Int) := by omega
          by_cases hlt : k < l
          · have hki : (k : Int) < (l : Int) := by omega
            obtain ⟨e, he⟩ : ∃ e, L[k]? = some e := ⟨_, List.getElem?_eq_getElem (by have := HLl.out; omega)⟩
            have hem := List.mem_of_getElem? he
            obtain ⟨x, hx, hxn, _⟩ := HD.out.ent e hem
            have hSz : (strOfNums (keyVs e.1)).size ≤ maxLen := by
              rw [numBytes_size]
              have h1 := keyVs_len (l := e.1) (HD.out.okr e hem).1
              have h2 := (HD.out.okr e hem).2
              unfold maxLen
              omega
            obtain ⟨q, hq⟩ : ∃ q, q = e.2 := ⟨_, rfl⟩
            have HLk := Lib.hid (fun (W : World) (hW : Below w.heap.size w W) => (show (Instr.lookup 109 (.map mo) (.string (strOfNums (kE e))) false).run Try.prog W = .ok (.agg #[.slice (adA x.1) x.2.1 x.2.2.1, .int .i64 q]) W ∧ W.cell? ⟨D, 0, none⟩ = some (.map mo) ∧ RowAt W B x e.1 from by
              have hDW := HD.out.below hW
              have := hDW.look hSz hx
              refine ⟨by rw [hq, ← hxn]; exact this, cell_of_row W D 0 _ _ _ hDW.box, ?_⟩
              obtain ⟨x', hx', _, hr'⟩ := hDW.ent e hem
              rw [hx] at hx'
              cases hx'
              exact hr'))
            rcases HRow.out with h0 | ⟨g, rfl, hg, hcs⟩
            · omega
            have s0 : w4.cell? ⟨g, k, none⟩ = some (.string (strOfNums (kE e))) := (World.cell?_of_block (a := ⟨g, k, none⟩) (HK.out.ks g rfl hg).1).trans (hcs k e he)
            obtain ⟨hlk, d0, _⟩ := HLk.out w4 HK.out.bel
            have hN0 : 0 ≤ q := by rw [hq]; exact HNN.out e hem
            have hN64 : in64 q := by rw [hq]; exact HL.out.num e hem
            obtain ⟨hN1, hN2⟩ := hN64
            have hsz : e.1.length ≤ 50 := (HD.out.okr e hem).2
            have htk : L.take (k + 1) = L.take k ++ [e] := take_snoc he
            have HTk := Lib.hid (show repB (L.take (k + 1)) = repB (L.take k) ++ List.replicate q.toNat e.1 by rw [htk, repB_append, rep_one, hq])
            have HLen := Lib.hid (show (repB (L.take k)).length + q.toNat ≤ 100000 by
              have h1 := sumB_take HNN.out (k + 1)
              have h2 := repB_len (L := L.take (k + 1)) (fun e he => HNN.out e (List.mem_of_mem_take he))
              rw [HTk.out, List.length_append, List.length_replicate] at h2
              have := HSumL.out
              omega)
            have hf1 : ∀ W, (Instr.field 114 (.agg #[.slice (adA x.1) x.2.1 x.2.2.1, .int .i64 q]) 1).run Try.prog W = .ok (.int .i64 q) W := fun W => rfl
            have hf0 : ∀ W, (Instr.field 114 (.agg #[.slice (adA x.1) x.2.1 x.2.2.1, .int .i64 q]) 0).run Try.prog W = .ok (.slice (adA x.1) x.2.1 x.2.2.1) W := fun W => rfl
            generalize repB (L.take k) = R0 at *
            generalize hY : strOfNums (kE e) = Y at *
            generalize e.1 = rv at *
            clear hx hxn hSz hem he hq hY hcs htk
            go_wp2_with fail
            go_loopw [7, 48] (fun u i wr => ∃ j : Nat, j ≤ q.toNat ∧ i = .int .i64 (j : Int) ∧ Hid (PAt w w3 (some ⟨g, 0, none⟩) u (R0 ++ List.replicate j rv) wr)) (fun _ i _ => q.toNat - (intOf i).toNat)
            case atStart => exact ⟨0, by omega, rfl, Lib.hid (by simpa using HK.out)⟩
            case round =>
              obtain ⟨w5, rfl⟩ : ∃ x, x = wr := ⟨_, rfl⟩
              obtain ⟨j, hj, rfl, HJ⟩ := hrel
              have hj0 : (0 : Int) ≤ (j : Int) := by omega
              by_cases hjl : j < q.toNat
              · have hji : (j : Int) < q := by omega
                obtain ⟨hlk5, d5, hr5⟩ := HLk.out w5 HJ.out.bel
                have HX5 := Lib.hid hr5
                have hxl : x.2.1 ≤ 50 := by have := hr5.1.1; omega
                obtain ⟨XS, hXl, hown, hat⟩ := HJ.out.rows
                obtain ⟨au, cu, rfl⟩ := own_slice3 hown
                have HXl := Lib.hid hXl
                have hRl : (R0 ++ List.replicate j rv).length ≤ 100000 := by rw [List.length_append, List.length_replicate]; have := HLen.out; omega
                obtain ⟨RN, hRN⟩ : ∃ RN, RN = (R0 ++ List.replicate j rv).length := ⟨_, rfl⟩
                have hRn : RN ≤ 100000 := by rw [hRN]; exact hRl
                have HAt := Lib.hid (show ∀ i, i < (R0 ++ List.replicate j rv).length → RowAt w5 w.heap.size (XS.getD i noX) ((R0 ++ List.replicate j rv).getD i []) ∧ (∀ b o, (XS.getD i noX).1 = some (b, o) → (Value.slice au RN cu).ownBlock ≠ some b) ∧ (XS.getD i noX).2.1 ≤ (XS.getD i noX).2.2.1 by rw [hRN]; exact hat)
                have HJr := Lib.hid (show PAt w w3 (some ⟨g, 0, none⟩) (.slice au RN cu) (R0 ++ List.replicate j rv) w5 by rw [hRN]; exact HJ.out)
                rw [← hRN] at hown ⊢
                have HOw := Lib.hid hown
                have HRN := Lib.hid hRN
                clear hRl hr5 hown hat hXl hRN hlk d0 s0
                go_wp2_with fail
                refine (bclone_row (adA x.1) x.2.1 x.2.2.1 rv _ HX5.out.1 HX5.out.2.1 (by omega)).mono ?_
                rintro e2 w6 ⟨x2, rfl, hra2, hlc2, hb6⟩
                have HB6 := Lib.hid hb6
                have HRa := Lib.hid hra2
                have HLc := Lib.hid hlc2
                have HO6 := Lib.hid (own_below HOw.out hb6)
                clear hra2 hlc2 hb6 hlk5 d5
                go_wp2_with (at_builtin; refine wpList_append_hd _ rfl (.tmp 50) (.tmp 59) rfl w.heap.size _ RN (XS.map hdX) rfl (HO6.out.alloc _) w6.heap.size x2 rfl (Go.heap_alloc_new _ _) (by omega) (by have := HJ.out.bel.size; have := HB6.out.size; simp; omega) ?_; intro g3 c3 w9 hown9 hg9 hor9 hlt9)
                have HN := Lib.hid (show PAt w w3 (some ⟨g, 0, none⟩) (.slice (some ⟨g3, 0, none⟩) (RN + 1) c3) (R0 ++ List.replicate (j + 1) rv) w9 from by
                  rw [List.replicate_succ', ← List.append_assoc]
                  exact PAt.next (wc := w6.alloc (.cells #[hdX x2] 23)) HJr.out HAt.out HXl.out HOw.out (bt HB6.out (bel0 _ (Below.refl _ _))) (HRa.out.below (bel0 _ (Below.refl _ _))) HLc.out HRN.out hown9 hg9 hor9)
                clear hown9 hg9 hor9 hlt9
                go_wp2
                go_roundw
                case rel => exact ⟨j + 1, by omega, by go_num, HN⟩
                case measure => simp [intOf]; omega
              · have hje : j = q.toNat := by omega
                have HN := Lib.hid (show PAt w w3 (some ⟨g, 0, none⟩) _ (repB (L.take (k + 1))) w5 from by rw [HTk.out, ← hje]; exact HJ.out)
                have hjd : decide ((j : Int) < q) = false := decide_eq_false (by omega)
                have hjn : q ≤ (j : Int) := by omega
                clear hjl hje
                go_wp2
                go_roundw
                case rel => exact ⟨k + 1, by omega, by go_num, HN⟩
                case measure => simp [intOf]; omega
          · obtain rfl : k = l := by omega
            have hR := HK.out.rows
            rw [List.take_of_length_le (by rw [← HLl.out]; exact Nat.le_refl _)] at hR
            have HRw := Lib.hid hR
            clear hlt hR
            go_wp2
            go_ret2
            rw [HF.out]
            exact ⟨_, rfl, HRw.out, HK.out.bel⟩
end Go.Proofs.Ytplgkblahmndoaa
