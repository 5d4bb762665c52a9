/- The law's Same: a bag is the document's. -/
import Derived.Test.YtplgkblahmndoaaBrJoin
namespace Go.Proofs.Ytplgkblahmndoaa
open Go.RowKit Go.WideMaps Go.Maps Go.Sort
set_option linter.unusedVariables false
set_option maxRecDepth 100000

/-- what so many entries make -/
def mkL (f : Nat → EntD) : Nat → List Ent
  | 0 => []
  | k + 1 => (addB (mkL f k) (f k).rv (f k).n).1
/-- a bag, and the document's bag of the same list -/
def Pair (W0 w : World) (D E B n : Nat) (L : List Ent) : Prop :=
  ∃ mo Dm t S, BagR w D B n mo Dm t L ∧ DocB w E S ∧ S.map entOf = L ∧ S.length ≤ n ∧ W0.heap.size ≤ D ∧ W0.heap.size ≤ E ∧ Below W0.heap.size W0 w
/-- the bag has taken a row, the document's not yet -/
def Half (W0 w : World) (D E B n : Nat) (L L' : List Ent) : Prop :=
  ∃ mo Dm t S, BagR w D B (n + 1) mo Dm t L' ∧ DocB w E S ∧ S.map entOf = L ∧ S.length ≤ n ∧ W0.heap.size ≤ D ∧ W0.heap.size ≤ E ∧ Below W0.heap.size W0 w
theorem Pair.ok {W0 w : World} {D E B n : Nat} {L : List Ent} (h : Pair W0 w D E B n L) : OkL L := by
  obtain ⟨_, _, _, S, _, hd, e, _⟩ := h
  rw [← e]; exact hd.ok
theorem Pair.below {W0 w w' : World} {D E B n : Nat} {L : List Ent} (h : Pair W0 w D E B n L) (hb : Below w.heap.size w w') : Pair W0 w' D E B n L := by
  obtain ⟨mo, Dm, t, S, h1, h2, h3, h4, h5, h6, h7⟩ := h
  exact ⟨mo, Dm, t, S, h1.below hb, h2.below hb, h3, h4, h5, h6, bt h7 hb⟩
theorem pair_add1 (W0 w : World) (D E B n : Nat) (L : List Ent) (ra : Option Addr) (rl rc : Nat) (rv : List Val) (x : Int) (h : Pair W0 w D E B n L) (hx : in64 x) (hv : IsV W0 ra rl rv) (hr : ∀ v ∈ rv, -9223372036854775808 ≤ v.2.1 ∧ v.2.1 ≤ 9223372036854775807) (hn : ra = none → rl = 0 ∧ rc = 0) (hl : rl ≤ 50) (hnn : n ≤ 1000) :
    Calls Try.prog 51 #[.pointer (some ⟨D, 0, none⟩), .slice ra rl rc, .int .i64 x] w fun e w' => e = .returned (.int .i64 (addB L rv x).2) ∧ Half W0 w' D E B n L (addB L rv x).1 := by
  have hok := h.ok
  obtain ⟨mo, Dm, t, S, h1, h2, h3, h4, h5, h6, h7⟩ := h
  refine (badd_full W0 w D B n mo Dm t L ra rl rc rv x h1 hx hok.num hv hr h7 h5 hn hl (by omega)).mono ?_
  rintro e w' ⟨rfl, mo', Dm', t', k1, k2, k3⟩
  exact ⟨rfl, mo', Dm', t', S, k1, h2.other k2 h1.soles (h2.not_bag h1).1, h3, h4, h5, h6, h7.trans (h1.lift k2 h5 (Nat.le_trans h5 (Nat.le_of_lt h1.lt)) h7.size)⟩
theorem pair_add2 (W0 w : World) (D E B n : Nat) (L : List Ent) (ra : Option Addr) (rl rc : Nat) (rv : List Val) (x : Int) (h : Half W0 w D E B n L (addB L rv x).1) (hx : in64 x) (hv : IsV W0 ra rl rv) (hr : ∀ v ∈ rv, -9223372036854775808 ≤ v.2.1 ∧ v.2.1 ≤ 9223372036854775807) (hn : ra = none → rl = 0 ∧ rc = 0) (hl : rl ≤ 50) (hnn : n ≤ 1000) :
    Calls Try.prog 53 #[.pointer (some ⟨E, 0, none⟩), .slice ra rl rc, .int .i64 x] w fun e w' => e = .returned (.int .i64 (addB L rv x).2) ∧ Pair W0 w' D E B (n + 1) (addB L rv x).1 := by
  obtain ⟨mo, Dm, t, S, h1, h2, h3, h4, h5, h6, h7⟩ := h
  refine (dadd_any w E S ra rl rc rv x h2 (hv.below h7) hr hn hx hl (by omega)).mono ?_
  rintro e w' ⟨rfl, S', k1, k2, k3, k4⟩
  have hnb := h2.not_bag h1
  rw [h3] at k1 ⊢
  refine ⟨rfl, mo, Dm, t, S', h1.other k4 h2.sole (fun e => hnb.2.1 e.symm) hnb.2.2, k3, k1, by omega, h5, h6, h7.trans ⟨k4.os, k4.tape, k4.output, k4.size, fun i hi => k4.block i (Nat.lt_of_lt_of_le hi h7.size) (by omega)⟩⟩
theorem OkL.nil2 : OkL ([] : List Ent) := OkL.nil
theorem pair_new {W0 w : World} {D E : Nat} (hD : w.heap[D]? = some (.cells #[.map none] 111 (0, 0))) (hE : w.heap[E]? = some (.cells #[.slice none 0 0] 108 (0, 0))) (h5 : W0.heap.size ≤ D) (h6 : W0.heap.size ≤ E) (h7 : Below W0.heap.size W0 w) : Pair W0 w D E w.heap.size 0 [] :=
  ⟨none, .map [], fun _ => none, [], ⟨hD, (Array.getElem?_eq_some_iff.1 hD).1, Nat.le_refl _, balR_empty, .inl ⟨rfl, rfl⟩, List.Pairwise.nil, by simp, by simp, by simp, fun k x h => by cases h⟩, ⟨⟨none, 0, 0, hE, IsS.nil _ _, Nat.le_refl _, .inl ⟨rfl, rfl, rfl⟩⟩, OkL.nil⟩, rfl, by simp, h5, h6, h7⟩
theorem pn1 {w wa : World} (ha : wa = w.alloc (.cells #[.map none] 111)) : ∃ B, Pair w (wa.alloc (.cells #[.slice none 0 0] 108)) w.heap.size wa.heap.size B 0 [] := by
  have hz : wa.heap.size = w.heap.size + 1 := by rw [ha]; simp
  have h1 : wa.heap[w.heap.size]? = some (.cells #[.map none] 111 (0, 0)) := by rw [ha]; exact Go.heap_alloc_new _ _
  have hb : Below wa.heap.size wa (wa.alloc (.cells #[.slice none 0 0] 108)) := bel0 _ (Below.refl _ _)
  have hw : Below w.heap.size w wa := by rw [ha]; exact bel0 _ (Below.refl _ _)
  exact ⟨_, pair_new ((hb.block w.heap.size (by omega)).trans h1) (Go.heap_alloc_new _ _) (Nat.le_refl _) (by omega) (bt hw hb)⟩
theorem pn2 {w wa : World} (ha : wa = w.alloc (.cells #[.map none] 111)) : ∃ B, Pair w ((wa.alloc (.cells #[.slice none 0 0] 108)).alloc (.cells #[.map none] 111)) (wa.heap.size + 1) wa.heap.size B 0 [] := by
  have hz : wa.heap.size = w.heap.size + 1 := by rw [ha]; simp
  have hz2 : (wa.alloc (.cells #[.slice none 0 0] 108)).heap.size = wa.heap.size + 1 := by simp
  have h1 : (wa.alloc (.cells #[.slice none 0 0] 108)).heap[wa.heap.size]? = some (.cells #[.slice none 0 0] 108 (0, 0)) := Go.heap_alloc_new _ _
  have hb : Below wa.heap.size wa (wa.alloc (.cells #[.slice none 0 0] 108)) := bel0 _ (Below.refl _ _)
  have hb2 : Below (wa.alloc (.cells #[.slice none 0 0] 108)).heap.size (wa.alloc (.cells #[.slice none 0 0] 108)) ((wa.alloc (.cells #[.slice none 0 0] 108)).alloc (.cells #[.map none] 111)) := bel0 _ (Below.refl _ _)
  have hw : Below w.heap.size w wa := by rw [ha]; exact bel0 _ (Below.refl _ _)
  have h2 := Go.heap_alloc_new (wa.alloc (.cells #[.slice none 0 0] 108)) (.cells #[.map none] 111)
  rw [hz2] at h2
  exact ⟨_, pair_new h2 ((hb2.block wa.heap.size (by omega)).trans h1) (by omega) (by omega) (bt (bt hw hb) hb2)⟩
theorem keep2 {w w' : World} {b o : Nat} {x y : Value} (hb : Below (b + 1) w w') (c0 : w.cell? ⟨b, o, none⟩ = some x) (c1 : w.cell? ⟨b, o + 1, none⟩ = some y) : w'.cell? ⟨b, o, none⟩ = some x ∧ w'.cell? ⟨b, o + 1, none⟩ = some y :=
  ⟨(World.cell?_of_block (hb.block b (Nat.lt_succ_self b))).trans c0, (World.cell?_of_block (hb.block b (Nat.lt_succ_self b))).trans c1⟩
/-- what made answers -/
def MadeP (w : World) (L : List Ent) (ln : Nat) (e : Ending) (w' : World) : Prop :=
  ∃ D E B, e = .returned (.tuple #[.pointer (some ⟨D, 0, none⟩), .pointer (some ⟨E, 0, none⟩), .bool true]) ∧ Pair w w' D E B ln L
set_option maxHeartbeats 3200000 in
theorem made_any (la : Option Addr) (ln lc : Nat) (f : Nat → EntD) (z : Bool) (w : World) (hL : IsEs w la ln f) (hf : ∀ i, i < ln → i < 200 ∧ (f i).rl ≤ 50) :
    Calls Try.prog 11 #[.slice la ln lc, .bool z] w (MadeP w (mkL f ln) ln) := by
  have hm := hL.1
  have HL := Lib.hid hL
  have HF := Lib.hid hf
  clear hL hf
  go_enter Try.func11, Try.ntmps11
  go_wp2_with fail
  refine (bnew _).mono ?_
  rintro e wa ⟨rfl, ha⟩
  have HA := Lib.hid ha
  clear ha
  go_upto_if 13 with (fail)
  go_cut [7, 8] (fun v7 v8 wx => Hid (∃ D E B, v7 = .pointer (some ⟨D, 0, none⟩) ∧ v8 = .pointer (some ⟨E, 0, none⟩) ∧ Pair w wx D E B 0 []))
  case first =>
    cases z with
    | false =>
      obtain ⟨B, hp⟩ := pn1 HA.out
      have HP := Lib.hid hp
      clear hp
      go_wp2_with fail
      go_meet
      exact Lib.hid ⟨_, _, B, rfl, rfl, HP.out⟩
    | true =>
      obtain ⟨B, hp⟩ := pn2 HA.out
      have HP := Lib.hid hp
      clear hp
      go_wp2_with fail
      go_meet
      exact Lib.hid ⟨_, _, B, rfl, rfl, by first | exact HP.out | (simp; exact HP.out)⟩
  case rest =>
    obtain ⟨D, E, B, rfl, rfl, hp⟩ := hcut.out
    have HP := Lib.hid hp
    clear hcut hp HA
    go_wp2_with fail
    go_loopw [18] (fun i wr => ∃ k : Nat, k ≤ ln ∧ i = .int .i64 (k : Int) ∧ Hid (Pair w wr D E B k (mkL f k))) (fun i _ => ln - (intOf i).toNat)
    case atStart => exact ⟨0, by omega, rfl, HP⟩
    case round =>
      obtain ⟨k, hk, rfl, HR⟩ := hrel
      have hk0 : (0 : Int) ≤ (k : Int) := by omega
      by_cases hlt : k < ln
      · have hki : (k : Int) < (ln : Int) := by omega
        rcases HL.out.2 with h0 | ⟨lb, lo, rfl, hlb, hes⟩
        · omega
        have hx := hes k hlt
        have HWb := Lib.hid (show Below w.heap.size w wr by obtain ⟨_, _, _, _, _, _, _, _, _, _, h7⟩ := HR.out; exact h7)
        have c0' := hx.c0
        have c1' := hx.c1
        have hxr := (hx.below HWb.out)
        have c0 := hxr.c0
        have c1 := hxr.c1
        have HX := Lib.hid hx
        have HLb := Lib.hid hlb
        have hk2 := HF.out k hlt
        have HMk := Lib.hid (show mkL f (k + 1) = (addB (mkL f k) (f k).rv (f k).n).1 from rfl)
        have HKp := Lib.hid (fun (W : World) (hW : Below w.heap.size w W) => (show W.cell? ⟨lb, lo + k * 2, none⟩ = some (.slice (f k).ra (f k).rl (f k).rc) ∧ W.cell? ⟨lb, lo + k * 2 + 1, none⟩ = some (.int .i64 (f k).n) from ⟨(hx.below hW).c0, (hx.below hW).c1⟩))
        generalize f k = X at *
        have HN := Lib.hid (show in64 X.n from HX.out.num)
        have hX50 : X.rl ≤ 50 := hk2.2
        have hk200 : k < 200 := hk2.1
        have HA1 := Lib.hid (fun W (hP : Pair w W D E B k (mkL f k)) => pair_add1 w W D E B k (mkL f k) X.ra X.rl X.rc X.rv X.n hP HN.out HX.out.row HX.out.rg HX.out.nil hX50 (by omega))
        have HA2 := Lib.hid (fun W (hP : Half w W D E B k (mkL f k) (addB (mkL f k) X.rv X.n).1) => pair_add2 w W D E B k (mkL f k) X.ra X.rl X.rc X.rv X.n hP HN.out HX.out.row HX.out.rg HX.out.nil hX50 (by omega))
        obtain ⟨y, hy⟩ : ∃ y, y = (addB (mkL f k) X.rv X.n).2 := ⟨_, rfl⟩
        rw [← hy] at HA1 HA2
        clear hx hes c0' c1' hxr hk2 hlb hy
        go_upto_region 7 with (fail)
        refine wp_region_noPanic ?_
        go_region_held3 (fun W => W.cell? ⟨lb, lo + k * 2, none⟩ = some (.slice X.ra X.rl X.rc) ∧ W.cell? ⟨lb, lo + k * 2 + 1, none⟩ = some (.int .i64 X.n))
          (first | exact ⟨c0, c1⟩ | exact hS2 | exact hS1)
          ((first
            | (go_at_call 51; refine (HA1.out _ (by exact HR.out.below ⟨rfl, rfl, rfl, Nat.le_refl _, fun _ _ => rfl⟩)).mono ?_; rintro e' w3 ⟨rfl, hp⟩; have HH := Lib.hid hp; have hS1 := HKp.out w3 (by obtain ⟨_, _, _, _, _, _, _, _, _, _, h7⟩ := HH.out; exact h7); clear hp)
            | (go_at_call 53; refine (HA2.out _ (by exact HH.out)).mono ?_; rintro e' w4 ⟨rfl, hp⟩; have HP4 := Lib.hid hp; have hS2 := HKp.out w4 (by obtain ⟨_, _, _, _, _, _, _, _, _, _, h7⟩ := HP4.out; exact h7); clear hp)))
        all_goals
          refine NoPanic.normal ?_
          clear hS1 hS2 c0 c1
          go_wp2
          go_roundw
          case rel => exact ⟨k + 1, by omega, by go_num, by rw [HMk.out]; exact HP4⟩
          case measure => simp [intOf]; omega
      · obtain rfl : k = ln := by omega
        go_wp2
        go_ret3
        exact ⟨D, E, B, rfl, HR.out⟩
end Go.Proofs.Ytplgkblahmndoaa
namespace Go.Proofs.Ytplgkblahmndoaa
open Go.RowKit Go.WideMaps Go.Maps Go.Sort
set_option linter.unusedVariables false
set_option maxRecDepth 100000

/-- where the entries are being copied -/
def CopyAt (w2 : World) (S : List EntD) (k : Nat) (v : Value) (wr : World) : Prop := wr.ownsRow w2.heap.size 106 2 v k (flatE (S.take k)) ∧ Below w2.heap.size w2 wr
theorem take_snocS {S : List EntD} {k : Nat} (h : k < S.length) : S.take (k + 1) = S.take k ++ [S.getD k noE] := by
  rw [List.take_succ_eq_append_getElem h, List.getD_eq_getElem?_getD, List.getElem?_eq_getElem h]
  rfl
theorem own_slice3 {w : World} {B n size : Nat} {e : TypeId} {v : Value} {xs : List Value} (h : w.ownsRow B e size v n xs) : ∃ a c, v = .slice a n c := by
  rcases h.2 with ⟨rfl, h0⟩ | ⟨g, cap, cur, rfl, _⟩
  · exact ⟨none, 0, by rw [h0]⟩
  · exact ⟨_, _, rfl⟩
set_option maxHeartbeats 6400000 in
theorem lsame_yes (w : World) (D E B n : Nat) (mo : Option Nat) (Dm : DataW Unit) (t : Lit → Option SlN) (L : List Ent) (T : List EntD) (h : BagR w D B n mo Dm t L) (hd : DocB w E T) (hT : T.map entOf = L) (hl : L.length ≤ 2000) :
    Calls Try.prog 12 #[.pointer (some ⟨D, 0, none⟩), .pointer (some ⟨E, 0, none⟩)] w fun e w' => e = .returned (.bool true) ∧ Below w.heap.size w w' := by
  have HD := Lib.hid h
  have HE := Lib.hid hd
  have HT := Lib.hid hT
  have HOk := Lib.hid (show OkL L by rw [← hT]; exact hd.ok)
  clear h hd hT
  go_enter Try.func12, Try.ntmps12
  go_wp2_with fail
  refine (bentries_any w D B n mo Dm t L HD.out HOk.out (by omega)).mono ?_
  rintro e w2 ⟨v, S, rfl, hS, hown, hrows, hb2⟩
  obtain ⟨sa, sc, rfl, hI, hlc, hn⟩ := es_of_own hown hrows
  have HB2 := Lib.hid hb2
  have HI := Lib.hid hI
  have HS := Lib.hid hS
  have HSl := Lib.hid (show S.length = L.length by rw [← hS, List.length_map])
  obtain ⟨l, hll⟩ : ∃ l, l = L.length := ⟨_, rfl⟩
  have HLl := Lib.hid hll
  rw [← hll] at hl HI HSl ⊢
  have hm : l ≤ 9223372036854775807 := by omega
  clear hown hrows hI hS hb2 hll hn hlc
  go_wp2_with fail
  go_loopw [5, 12] (fun v i wr => ∃ k : Nat, k ≤ l ∧ i = .int .i64 (k : Int) ∧ Hid (CopyAt w2 S k v wr)) (fun v i _ => l - (intOf i).toNat)
  case atStart => exact ⟨0, by omega, rfl, Lib.hid ⟨World.ownsRow_nil _ _ _ _, Below.refl _ _⟩⟩
  case round =>
    obtain ⟨k, hk, rfl, HK⟩ := hrel
    have hk0 : (0 : Int) ≤ (k : Int) := by omega
    by_cases hlt : k < l
    · have hki : (k : Int) < (l : Int) := by omega
      have HIr := HI.out.below HK.out.2
      rcases HIr.2.2 with z | ⟨b, off, rfl, hbl, hc⟩
      · omega
      have hx := hc k hlt
      dsimp only at hx
      have HG := Lib.hid (take_snocS (S := S) (k := k) (by have := HSl.out; omega))
      generalize S.getD k noE = X at *
      have c0 := hx.c0
      have c1 := hx.c1
      have HX := Lib.hid hx.rowE
      clear hx hc HIr
      have HO := Lib.hid HK.out.1
      have HB := Lib.hid HK.out.2
      obtain ⟨a7, c7, rfl⟩ := own_slice3 HK.out.1
      go_wp2_with (at_builtin; refine wpList_append_e1 _ rfl (.tmp 15) (.tmp 20) 22 106 entT_doc rfl w2.heap.size _ k (flatE (S.take k)) rfl (own_below HO.out (bel0 _ (Below.refl _ _))) wr.heap.size X rfl (isS_one (Go.heap_alloc_new _ _) (HX.out.below (bel0 _ (Below.refl _ _)))) (by omega) (by have := HB.out.size; simp; omega) ?_; intro g3 c3 w9 hown9 hg9 hor9 hlt9)
      have HN := Lib.hid (show CopyAt w2 S (k + 1) (.slice (some ⟨g3, 0, none⟩) (k + 1) c3) w9 from ⟨by rw [HG.out, flatE_append]; exact hown9, (bt HB.out (bel0 _ (Below.refl _ _))).grown hg9 (by have := HB.out.size; simp; omega) (fun j hj => (HO.out.lt j hj).1)⟩)
      clear hown9 hg9 hor9 hlt9
      go_wp2
      go_roundw
      case rel => exact ⟨k + 1, by omega, by go_num, HN⟩
      case measure => simp [intOf]; omega
    · obtain rfl : k = l := by omega
      have HR := Lib.hid (show ∀ x ∈ S, RowE wr x from fun x hx => (HI.out.rows x hx).below HK.out.2)
      have hown := HK.out.1
      rw [List.take_of_length_le (by rw [HSl.out]; exact Nat.le_refl _)] at hown
      have HOw := Lib.hid hown
      obtain ⟨a7, c7, rfl⟩ := own_slice3 hown
      have hb2r : Below w.heap.size w wr := bt HB2.out HK.out.2
      have HB := Lib.hid hb2r
      have HM := Lib.hid (DocB.made (w := w2) (w1 := wr) (S := S) (by rw [HS.out]; exact HOk.out) hown HR.out HK.out.2)
      have hEr := HE.out.below hb2r
      obtain ⟨ta, tl, tc, hbx, hI2, _⟩ := hEr.bx
      have e0 : wr.cell? ⟨E, 0, none⟩ = some (.slice ta tl tc) := cell_of_row wr E 0 _ _ _ hbx
      have htl : tl = k := by have := hI2.1; have := congrArg List.length HT.out; rw [List.length_map] at this; have := HLl.out; omega
      subst htl
      have HEr := Lib.hid hEr
      have HDr := Lib.hid (HD.out.below hb2r)
      clear hown hEr hbx hI2 hb2r
      go_upto_region 8 with (fail)
      have hal : Below wr.heap.size wr (wr.alloc (.cells #[.slice a7 tl c7] 108)) := bel0 _ (Below.refl _ _)
      have HAl := Lib.hid hal
      have e1 : (wr.alloc (.cells #[.slice a7 tl c7] 108)).cell? ⟨E, 0, none⟩ = some (.slice ta tl tc) := (hal.cell (p := ⟨E, 0, none⟩) HEr.out.lt).trans e0
      have HDs := Lib.hid (fun (W : World) (hW : Below (wr.alloc (.cells #[.slice a7 tl c7] 108)).heap.size (wr.alloc (.cells #[.slice a7 tl c7] 108)) W) => dsame_any W wr.heap.size E S T (HM.out.1.below hW) ((HEr.out.below HAl.out).below hW))
      have HEq := Lib.hid (decide_eq_true (show S.map entOf = T.map entOf by rw [HS.out, HT.out]))
      have hll : ((tl : Int) == (tl : Int)) = true := by simp
      have HLn := Lib.hid (fun (W : World) (hW : Below wr.heap.size wr W) => (show Calls Try.prog 52 #[.pointer (some ⟨D, 0, none⟩)] W fun e w' => e = .returned (.int .i64 (tl : Int)) ∧ w' = W by rw [show (tl : Int) = (L.length : Int) by rw [HLl.out]]; exact blenR W D B n mo Dm t L (HDr.out.below hW)))
      clear hal
      refine wp_region_noPanic ?_
      go_region_held3 (fun W => W.cell? ⟨E, 0, none⟩ = some (.slice ta tl tc))
        (first | exact e0 | exact e1 | exact hS7)
        ((first
          | (go_at_call 18; refine (HDs.out _ (by exact ⟨rfl, rfl, rfl, Nat.le_refl _, fun _ _ => rfl⟩)).mono ?_; rintro e' w7 ⟨rfl, hb7⟩; have hb8 : Below wr.heap.size wr w7 := bt HAl.out ⟨hb7.os, hb7.tape, hb7.output, hb7.size, hb7.block⟩; have HB7 := Lib.hid hb8; have hS7 := (hb8.cell (p := ⟨E, 0, none⟩) HEr.out.lt).trans e0; rw [HEq.out]; clear hb7 hb8)
          | (go_at_call 52; refine (HLn.out _ (by exact ⟨HB7.out.os, HB7.out.tape, HB7.out.output, HB7.out.size, HB7.out.block⟩)).mono ?_; rintro e' w8 ⟨rfl, hw8⟩; subst hw8)))
      all_goals
        refine NoPanic.normal ?_
        go_wp2
        go_ret
        exact ⟨rfl, bt HB.out HB7.out⟩
end Go.Proofs.Ytplgkblahmndoaa
