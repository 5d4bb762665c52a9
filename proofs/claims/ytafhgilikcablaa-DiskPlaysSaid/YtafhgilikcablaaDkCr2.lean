/- Contract: a file's crash, the walk. -/
import Derived.Test.YtafhgilikcablaaDkCr
import Derived.Lib.MinMaxS
import Derived.Deep.CutBlock
namespace Go.Proofs.Ytafhgilikcablaa
open Go.RowKit Go.Maps
set_option linter.unusedVariables false
set_option maxRecDepth 100000

/-- the sorted keys of a file's sectors -/
def SrtOf (m : Value) (L : List Lit) (xs : List Int) : Prop := (m = .map none ∧ xs = []) ∨ ((∃ M, m = .map (some M)) ∧ ∃ ss : List Int, ss.Perm (intKeys (Maps.setOf (.agg [] : DataW Unit) L)) ∧ xs = ss.mergeSort (fun x y => decide (x ≤ y)))
theorem SrtOf.secs {w : World} {B : Nat} {zs : List Int} {L : List Lit} {v m : Value} (hF : FSt w B zs L v m) (hk : SecK L) {xs : List Int} (h : SrtOf m L xs) : ∀ x ∈ xs, ∃ s : Nat, s ≤ 100000 ∧ x = (s : Int) ∧ sk s ∈ L := fun x hx => by
  rcases h with ⟨_, rfl⟩ | ⟨⟨M, rfl⟩, ss, hp, rfl⟩
  · cases hx
  · rcases hF.mp with ⟨e, _⟩ | ⟨M', e, _, ho⟩
    · cases e
    · cases e
      exact keys_secs ho hk x (hp.mem_iff.1 ((List.mergeSort_perm ss _).mem_iff.1 hx))
theorem srt_len {w : World} {B : Nat} {zs : List Int} {L : List Lit} {v m : Value} (hF : FSt w B zs L v m) {xs : List Int} (h : SrtOf m L xs) : xs.length ≤ L.length := by
  rcases h with ⟨_, rfl⟩ | ⟨⟨M, rfl⟩, ss, hp, rfl⟩
  · exact Nat.zero_le _
  · rcases hF.mp with ⟨e, _⟩ | ⟨M', e, _, ho⟩
    · cases e
    · cases e
      have h1 := World.ownsMap.size_le ho
      rw [List.length_mergeSort, hp.length_eq]
      obtain ⟨es, hD, _, _⟩ := World.ownsMap.entries ho (Go.Maps.int_keyed Try.underlying3)
      rw [hD] at h1 ⊢
      simpa [intKeys, Maps.size] using h1
/-- what crash leaves of a file -/
def Crashed (w : World) (D off B : Nat) (cs : Array Value) (T : TypeId) (v : Value) (zs : List Int) (w' : World) : Prop :=
  ∃ v' s', w'.ownsRow B 5 1 v' zs.length (zs.map (Value.int .u8)) ∧ w'.ownsRow w.heap.size 5 1 s' zs.length (zs.map (Value.int .u8)) ∧ (∀ z ∈ zs, 0 ≤ z ∧ z ≤ 255) ∧ v'.ownBlock = v.ownBlock ∧
    w'.heap[D]? = some (.cells (((cs.setIfInBounds off v').setIfInBounds (off + 1) s').setIfInBounds (off + 2) (.map none)) T (0, 0)) ∧ Only (fun i => i = D ∨ v.ownBlock = some i) w w'
/-- within the loop -/
structure CrIn (w W2 : World) (D off B : Nat) (cs : Array Value) (T : TypeId) (v s : Value) (ys : List Int) (g : Value) (xs : List Int) (st : List Int × Nat × Nat) (wr : World) : Prop where
  rows : Rows2 wr D off B cs T v s st.1 ys
  keys : wr.ownsRow W2.heap.size 3 1 g xs.length (xs.map encZ)
  on : Only (fun i => v.ownBlock = some i) w wr

theorem CrIn.draw {w W2 : World} {D off B : Nat} {cs : Array Value} {T : TypeId} {v s : Value} {ys : List Int} {g : Value} {xs : List Int} {st : List Int × Nat × Nat} {wr : World} (h : CrIn w W2 D off B cs T v s ys g xs st wr) (k : Nat) : CrIn w W2 D off B cs T v s ys g xs st (wr.drewN k) :=
  ⟨⟨h.rows.box, h.rows.cv, h.rows.cs1, h.rows.lt, h.rows.now, h.rows.syn, h.rows.rz, h.rows.ry, h.rows.apart⟩, h.keys, ⟨h.on.os, h.on.tape, h.on.output, h.on.size, h.on.block⟩⟩
/-- the first ones of a row -/
theorem own_prefix {w : World} {B n c k : Nat} {a : Option Addr} {zs : List Int} (h : w.ownsRow B 5 1 (.slice a n c) zs.length (zs.map (Value.int .u8))) (hk : k ≤ zs.length) : w.ownsRow B 5 1 (.slice a k c) (zs.take k).length ((zs.take k).map (Value.int .u8)) := by
  have hl : (zs.take k).length = k := by rw [List.length_take]; omega
  refine ⟨by rw [List.length_map]; omega, ?_⟩
  rcases h.2 with ⟨e, h0⟩ | ⟨g, cap, cur, e, b, hg, h1, h2, h3, h4⟩
  · left
    cases e
    have : k = 0 := by omega
    subst this
    exact ⟨rfl, by simp⟩
  · right
    cases e
    refine ⟨g, c, cur, by rw [hl], b, hg, by omega, h2, h3, ?_⟩
    rw [hl, List.map_take, ← h4, List.take_take]
    congr 1
    omega
theorem crash_end {w wr w5 : World} {D off B : Nat} {cs : Array Value} {T : TypeId} {v v1 v2 : Value} {zl : List Int} (hbx1 : (wr.setCell ⟨D, off, none⟩ v1).heap[D]? = some (.cells (cs.setIfInBounds off v1) T (0, 0))) (hown : (wr.setCell ⟨D, off, none⟩ v1).ownsRow B 5 1 v1 zl.length (zl.map (Value.int .u8))) (hDB : D < B)
    (hbox : wr.heap[D]? = some (.cells cs T (0, 0))) (hon : Only (fun i => v.ownBlock = some i) w wr) (hv : v1.ownBlock = v.ownBlock) (hown2 : w5.ownsRow wr.heap.size 5 1 v2 zl.length (zl.map (Value.int .u8))) (hg : (wr.setCell ⟨D, off, none⟩ v1).grownBy w5 none) (hrz : ∀ z ∈ zl, 0 ≤ z ∧ z ≤ 255) :
    w5.heap[D]? = some (.cells (cs.setIfInBounds off v1) T (0, 0)) ∧ Crashed w D off B cs T v zl ((w5.setCell ⟨D, off + 1, none⟩ v2).setCell ⟨D, off + 2, none⟩ (.map none)) := by
  have hD : D < wr.heap.size := (Array.getElem?_eq_some_iff.1 hbox).1
  have hx5 : w5.heap[D]? = some (.cells (cs.setIfInBounds off v1) T (0, 0)) := (hg.block D (by simpa using hD) (fun e => by cases e)).trans hbx1
  have hx6 := Go.heap_setCell_same w5 D (off + 1) _ _ v2 hx5
  have hx7 := Go.heap_setCell_same _ D (off + 2) _ _ (.map none) hx6
  have hlo1 : ∀ K, v1.ownBlock = some K → D < K := fun K hK => by have := (own_at hown hK).1; omega
  have hlo2 : ∀ K, v2.ownBlock = some K → D < K := fun K hK => by have := (own_at hown2 hK).1; omega
  have o1 : w5.ownsRow B 5 1 v1 zl.length (zl.map (Value.int .u8)) := hown.kept hg (by by_cases h : v1.ownBlock = none; exact .inl h; exact .inr h)
  refine ⟨hx5, v1, v2, own_set_cell (own_set_cell o1 hlo1 _ _) hlo1 _ _, own_base (own_set_cell (own_set_cell hown2 hlo2 _ _) hlo2 _ _) hon.size, hrz, hv, hx7, ?_⟩
  have h1 : Only (fun i => i = D ∨ v.ownBlock = some i) w (wr.setCell ⟨D, off, none⟩ v1) := (hon.mono (fun i hi => .inr hi)).set (.inl rfl) _
  have h2 : Only (fun i => i = D ∨ v.ownBlock = some i) (wr.setCell ⟨D, off, none⟩ v1) w5 := Only.of (row := none) hg (fun K hK => by cases hK)
  exact ((h1.trans h2).set (.inl rfl) _).set (.inl rfl) _
set_option maxHeartbeats 6400000 in
theorem crash_any (W0 w : World) (D off B : Nat) (cs : Array Value) (T : TypeId) (v s m : Value) (zs ys : List Int) (L : List Lit) (ka : Option Addr) (kl kc : Nat) (kz : List Int) (t : Nat)
    (h : Rows2 w D off B cs T v s zs ys) (hm : cs[off + 2]? = some m) (hF : FSt w B zs L v m) (hk : SecK L) (hK : IsK W0 ka kl kz) (hb : Below W0.heap.size W0 w) (hB0 : W0.heap.size ≤ D) (hyz : ys.length ≤ zs.length) (hzl : zs.length ≤ 1000000) (hll : L.length ≤ 1000000) (ht : t ≤ 2000000) (hkl : kl ≤ 200) :
    Calls Try.prog 92 #[.pointer (some ⟨D, off, none⟩), .slice ka kl kc, .int .i64 (t : Int)] w fun e w' => ∃ xs, SrtOf m L xs ∧ e = .returned (.int .i64 ((t + xs.length : Nat) : Int)) ∧ Crashed w D off B cs T v ((foldC kz ys zs t xs).1.take (foldC kz ys zs t xs).2.1) w' := by
  obtain ⟨sa, sL, sc, hse, hsL, hsI, hslo, hsn, hsle, hsB⟩ := own_any h.syn h.ry
  subst hse
  subst hsL
  have q1 := cell_of_row w D (off + 1) cs T _ h.box
  have q2 := cell_of_row w D (off + 2) cs T _ h.box
  rw [h.cs1] at q1
  rw [hm] at q2
  have H := Lib.hid h
  have HF := Lib.hid hF
  have HK := Lib.hid hk
  have HKz := Lib.hid hK
  have hKb := keepV_in hK
  have HB := Lib.hid hb
  have HB0 := Lib.hid hB0
  have HM := Lib.hid hm
  have HYZ := Lib.hid hyz
  have HLl := Lib.hid hll
  clear hsI hslo hsn hsle hsB h hF hk hK hb hB0 hm hyz hll
  go_enter Try.func92, Try.ntmps92
  go_wp2_with fail
  have hmk : ∃ q, m = .map q := by
    rcases HF.out.mp with ⟨rfl, _⟩ | ⟨M, rfl, _⟩
    · exact ⟨_, rfl⟩
    · exact ⟨_, rfl⟩
  obtain ⟨mq, rfl⟩ := hmk
  refine (keys_int mq _).mono ?_
  rintro e w1 ⟨rfl, hw1⟩
  have HW1 := Lib.hid hw1
  have hsrt : Calls Try.prog 129 #[.func (.func 160) #[] #[.pointer (some ⟨w.heap.size, 0, none⟩)]] w1 fun e w' => ∃ (g : Value) (xs : List Int), e = .returned g ∧ SrtOf (.map mq) L xs ∧ w'.ownsRow w1.heap.size 3 1 g xs.length (xs.map encZ) ∧ Below w1.heap.size w1 w' := by
    rw [hw1]
    rcases HF.out.mp with ⟨e0, _⟩ | ⟨M, e0, _, ho⟩
    · cases e0
      refine (sorted_int_nil w).mono ?_
      rintro e w' ⟨g, ss, rfl, hp, hrow, hb⟩
      obtain rfl := List.perm_nil.1 hp
      exact ⟨g, [], rfl, .inl ⟨rfl, rfl⟩, by rw [List.mergeSort_nil] at hrow; exact hrow, hb⟩
    · cases e0
      have hs := World.ownsMap.size_le ho
      have := HLl.out
      refine (sorted_int M _ _ _ w ho (by unfold maxLen; omega) (by omega)).mono ?_
      rintro e w' ⟨g, ss, rfl, hp, hrow, hb⟩
      exact ⟨g, _, rfl, .inr ⟨⟨M, rfl⟩, ss, hp, rfl⟩, by rw [List.length_mergeSort]; exact hrow, hb⟩
  clear hw1
  go_wp2_with fail
  refine hsrt.mono ?_
  rintro e w2 ⟨g, xs, rfl, hxs, hrow, hb2⟩
  have HXs := Lib.hid hxs
  have HSec := Lib.hid (SrtOf.secs HF.out HK.out hxs)
  have HXl := Lib.hid (Nat.le_trans (srt_len HF.out hxs) HLl.out)
  have HB2 := Lib.hid (show Below w.heap.size w w2 from by
    have h1 : Below w.heap.size w w1 := by rw [HW1.out]; exact bel0 _ (Below.refl _ _)
    exact bt h1 hb2)
  have HIn := Lib.hid (show CrIn w w1 D off B cs T v (.slice sa ys.length sc) ys g xs (foldC kz ys zs t []) w2 from by
    have h1 : Below w.heap.size w w2 := HB2.out
    have hD := (Array.getElem?_eq_some_iff.1 H.out.box).1
    exact ⟨⟨(h1.block D hD).trans H.out.box, H.out.cv, H.out.cs1, H.out.lt, own_below H.out.now h1, own_below H.out.syn h1, H.out.rz, H.out.ry, H.out.apart⟩, hrow, ⟨h1.os, h1.tape, h1.output, h1.size, fun i hi _ => h1.block i hi⟩⟩)
  have HW01 := Lib.hid (show w.heap.size ≤ w1.heap.size by rw [HW1.out]; simp)
  obtain ⟨ga, gL, gc, rfl⟩ := own_slice hrow
  have hgl : gL = xs.length := by
    rcases hrow.2 with ⟨e, e2⟩ | ⟨_, _, _, e, _⟩
    · injection e with _ e3 _; rw [e3, e2]
    · injection e with _ e3 _
  subst hgl
  clear hsrt hrow hxs hb2 q1 q2
  go_wp2_with fail
  go_loopw [2, 7, 25] (fun tk sz i wr => ∃ n : Nat, n ≤ xs.length ∧ i = .int .i64 (n : Int) ∧ tk = .int .i64 ((t + n : Nat) : Int) ∧ sz = .int .i64 (((foldC kz ys zs t (xs.take n)).2.1 : Nat) : Int) ∧ Hid (CrIn w w1 D off B cs T v (.slice sa ys.length sc) ys (.slice ga xs.length gc) xs (foldC kz ys zs t (xs.take n)) wr)) (fun _ _ i _ => xs.length - (intOf i).toNat)
  case atStart => exact ⟨0, Nat.zero_le _, rfl, rfl, rfl, HIn⟩
  case round =>
    obtain ⟨n, hn, rfl, rfl, rfl, HR⟩ := hrel
    have hn0 : (0 : Int) ≤ (n : Int) := by omega
    have hnb : (n : Int) ≤ 1000000 := by have := HXl.out; omega
    by_cases hlt : n < xs.length
    · have hni : (n : Int) < (xs.length : Int) := by omega
      obtain ⟨x, hx⟩ : ∃ x, x = xs[n] := ⟨_, rfl⟩
      obtain ⟨sc2, hsc, hxs, _⟩ := HSec.out x (by rw [hx]; exact List.getElem_mem hlt)
      have HTk := Lib.hid (show xs.take (n + 1) = xs.take n ++ [x] by rw [hx]; exact List.take_succ_eq_append_getElem hlt)
      obtain ⟨st, hst⟩ : ∃ st, st = foldC kz ys zs t (xs.take n) := ⟨_, rfl⟩
      have HSt := Lib.hid hst
      have HSt1 := Lib.hid (show foldC kz ys zs t (xs.take (n + 1)) = stepC kz ys st x by rw [HTk.out, foldC_snoc, hst])
      obtain ⟨l1, l2, l3, l4⟩ := foldC_len kz ys zs t (xs.take n)
      rw [← hst] at l1 l2 l3 l4 HR ⊢
      have l5 : (xs.take n).length = n := by rw [List.length_take]; omega
      have HLn := Lib.hid (show st.1.length = zs.length ∧ st.2.2 = t + n ∧ ys.length ≤ st.2.1 ∧ st.2.1 ≤ zs.length from ⟨l1, by rw [l2, l5], l3, l4 HYZ.out⟩)
      obtain ⟨g3, rfl⟩ : ∃ g3, ga = some ⟨g3, 0, none⟩ := by
        rcases HR.out.keys.2 with ⟨e, _⟩ | ⟨g', _, _, e, _⟩
        · injection e with _ e2 _; omega
        · injection e with e1 _ _; exact ⟨g', e1⟩
      have cx := HR.out.keys.cellAt n (by omega)
      rw [List.getElem?_map, List.getElem?_eq_getElem hlt, ← hx, hxs] at cx
      replace cx : wr.cell? ⟨g3, n, none⟩ = some (.int .i64 (sc2 : Int)) := cx
      have q0 := cell_of_row wr D off cs T _ HR.out.rows.box
      rw [HR.out.rows.cv] at q0
      obtain ⟨va, vL, vc, hve, hvL, _⟩ := own_any HR.out.rows.now HR.out.rows.rz
      rw [hve] at q0
      have HV := Lib.hid hve
      have HX := Lib.hid hxs
      have HSc := Lib.hid hsc
      obtain ⟨k0, k1⟩ := hKb (t + n)
      obtain ⟨kv, hkv⟩ : ∃ kv, kv = keepV kz (t + n) := ⟨_, rfl⟩
      rw [← hkv] at k0 k1
      have HKv := Lib.hid hkv
      have HKin := Lib.hid (show IsK wr ka kl kz from HKz.out.below (HB.out.trans ⟨HR.out.on.os, HR.out.on.tape, HR.out.on.output, HR.out.on.size, fun i hi => HR.out.on.block i (Nat.lt_of_lt_of_le hi HB.out.size) (fun e => by
        have := (own_at H.out.now e).1
        have := H.out.lt
        have := HB0.out
        omega)⟩))
      have HN := Lib.hid hlt
      have htn : ((t + n : Nat) : Int) ≤ 4000000 := by have := HXl.out; omega
      have htn0 : (0 : Int) ≤ ((t + n : Nat) : Int) := by omega
      obtain ⟨tn, htn2⟩ : ∃ tn, tn = t + n := ⟨_, rfl⟩
      rw [← htn2] at htn htn0 hkv ⊢
      have HTn := Lib.hid htn2
      subst hvL
      clear l1 l2 l3 l4 l5 hx hst hlt hn hxs hsc hve htn2
      go_upto_if 31 with (fail)
      go_cut [10] (fun u wx => wx = wr ∧ u = .int .i64 kv)
      case first =>
        by_cases h0 : 0 < (kl : Int)
        · obtain ⟨hk1, hk2, hk3⟩ := HKin.out
          rcases hk2 with hk2 | ⟨kb, ko, rfl, hkb, hkc⟩
          · omega
          obtain ⟨j, hj⟩ : ∃ j, j = tn % kl := ⟨_, rfl⟩
          have hjl : j < kl := by rw [hj]; exact Nat.mod_lt _ (by omega)
          have e2 : ((tn : Nat) : Int).tmod (kl : Int) = (j : Int) := by rw [hj, Int.natCast_emod]; exact Int.tmod_eq_emod_of_nonneg (by omega)
          have cj := hkc j hjl
          have hjv : kz.getD j 0 = kv := by
            rw [hkv]
            unfold keepV
            rw [if_neg (by omega), hk1, hj]
          rw [hjv] at cj
          have hji : (j : Int) < (kl : Int) := by omega
          have hj0 : (0 : Int) ≤ (j : Int) := by omega
          have hkl2 : ¬ ((kl : Int) = 0) := by omega
          have hkl3 : ¬ (kl = 0) := by omega
          have e3 : IntKind.i64.wrap (j : Int) = (j : Int) := by rw [IntKind.wrap_i64]; omega
          clear hk1 hk3 hkc hj hjl hjv hkv
          go_wp2_with fail
          go_meet
          exact ⟨rfl, rfl⟩
        · have h0' : (kl : Int) ≤ 0 := by omega
          have hkv0 : kv = 0 := by
            rw [hkv]
            unfold keepV
            rw [if_pos (by have := HKin.out.1; omega)]
          subst hkv0
          clear h0 hkv
          go_wp2_with fail
          go_meet
          exact ⟨rfl, rfl⟩
      case rest =>
        obtain ⟨hw, hu⟩ := hcut
        subst hw hu
        have HKv' := Lib.hid hkv
        clear hkv
        obtain ⟨p, hp⟩ : ∃ p, p = min (sc2 * 64) st.1.length := ⟨_, rfl⟩
        obtain ⟨q, hq⟩ : ∃ q, q = min (sc2 * 64 + 64) st.1.length := ⟨_, rfl⟩
        have HPQ := Lib.hid (show p ≤ q ∧ q ≤ st.1.length by omega)
        have hsec := fsector wc D off va st.1.length vc sc2 HSc.out (by have := HLn.out; omega) q0
        rw [← hp, ← hq] at hsec
        have HSe := Lib.hid hsec
        have HStep := Lib.hid (show stepC kz ys st x = (lvB st.1 ys p q kv, if kv = 0 then st.2.1 else max st.2.1 q, st.2.2 + 1) by
          unfold stepC
          rw [HLn.out.2.1, ← HTn.out, ← HKv'.out, HX.out, Int.toNat_natCast, ← hp, ← hq])
        obtain ⟨sz, hsz⟩ : ∃ sz, sz = st.2.1 := ⟨_, rfl⟩
        have HSz := Lib.hid hsz
        rw [← hsz]
        clear hsec hp hq q0 cx hsz
        go_wp2_with fail
        refine HSe.out.mono ?_
        rintro e w3 ⟨rfl, k3, hw3⟩
        have HR3 := Lib.hid (show CrIn w w1 D off B cs T v (.slice sa ys.length sc) ys (.slice (some ⟨g3, 0, none⟩) xs.length gc) xs st w3 by rw [hw3]; exact HR.out.draw k3)
        clear hw3
        obtain ⟨sz2, hsz2⟩ : ∃ sz2, sz2 = (if kv = 0 then sz else max sz q) := ⟨_, rfl⟩
        have HZ2 := Lib.hid hsz2
        have HMx := Lib.hid (show kv ≠ 0 → max (sz : Int) (q : Int) = (sz2 : Int) from fun h => by rw [hsz2, if_neg h]; omega)
        have HMz := Lib.hid (show kv = 0 → sz = sz2 from fun h => by rw [hsz2, if_pos h])
        clear hsz2
        go_upto_if 48 with (fail)
        go_cut [7] (fun u wx => wx = w3 ∧ u = .int .i64 (sz2 : Int))
        case first =>
          by_cases h0 : kv = 0
          · have HE := Lib.hid (HMz.out h0)
            subst h0
            go_wp2_with fail
            go_meet
            rw [HE.out]
            exact ⟨rfl, rfl⟩
          · have h0b : (kv == 0) = false := beq_eq_false_iff_ne.2 h0
            have h0c : (kv != 0) = true := by simp [h0]
            have HE := Lib.hid (HMx.out h0)
            clear h0
            go_wp2_with fail
            go_meet
            rw [HE.out]
            exact ⟨rfl, rfl⟩
        case rest =>
          obtain ⟨hw, hu⟩ := hcut
          subst hw hu
          go_wp2_with fail
          refine (leave_any _ D off B cs T v (.slice sa ys.length sc) st.1 ys p q kv (by exact HR3.out.rows) HPQ.out.1 HPQ.out.2 (by have := HLn.out; omega) (by have := HLn.out; have := HYZ.out; omega) ⟨k0, k1⟩).mono ?_
          rintro e w4 ⟨rfl, hleft⟩
          have HR4 := Lib.hid (show CrIn w w1 D off B cs T v (.slice sa ys.length sc) ys (.slice (some ⟨g3, 0, none⟩) xs.length gc) xs (foldC kz ys zs t (xs.take (n + 1))) w4 from by
            rw [HSt1.out, HStep.out]
            refine ⟨hleft.1, own_only HR3.out.keys hleft.2 (fun g hg hS => ?_), HR3.out.on.trans hleft.2⟩
            have h1 := (own_at HR3.out.keys hg).1
            obtain ⟨_, cur, hc⟩ := own_at H.out.now hS
            have h2 := (Array.getElem?_eq_some_iff.1 hc).1
            have h3 := HW01.out
            omega)
          have HFin := Lib.hid (show (foldC kz ys zs t (xs.take (n + 1))).2.1 = sz2 by rw [HSt1.out, HStep.out, HZ2.out, HSz.out])
          clear hleft
          go_wp2
          go_roundw
          case rel =>
            have e1 : (tn : Int) + 1 = ((t + (n + 1) : Nat) : Int) := by have := HTn.out; omega
            have e2 : ((foldC kz ys zs t (xs.take (n + 1))).2.1 : Nat) = sz2 := HFin.out
            first
              | exact ⟨n + 1, HN.out, by go_num, by rw [e1], by rw [e2], HR4⟩
              | (repeat apply Exists.intro
                 refine ⟨?_, rfl⟩
                 exact ⟨n + 1, HN.out, by go_num, by rw [e1], by rw [e2], HR4⟩)
          case measure => have := HN.out; simp [intOf]; omega
    · have hn2 : n = xs.length := by omega
      have hxn : (xs.length : Int) ≤ (n : Int) := by omega
      have HTn := Lib.hid (show (t : Int) + (n : Int) = ((t + xs.length : Nat) : Int) by omega)
      have HTk := Lib.hid (show xs.take n = xs by rw [hn2]; exact List.take_of_length_le (Nat.le_refl _))
      rw [HTk.out] at HR ⊢
      obtain ⟨l1, l2, l3, l4⟩ := foldC_len kz ys zs t xs
      have HSz := Lib.hid (l4 HYZ.out)
      obtain ⟨zf, hzf⟩ : ∃ zf, zf = (foldC kz ys zs t xs).1 := ⟨_, rfl⟩
      obtain ⟨sz, hsz⟩ : ∃ sz, sz = (foldC kz ys zs t xs).2.1 := ⟨_, rfl⟩
      have HRr := HR.out.rows
      have HOn := Lib.hid HR.out.on
      rw [← hzf] at HRr l1
      have HRows := Lib.hid HRr
      have HZf := Lib.hid (And.intro hzf hsz)
      have hszl : sz ≤ zf.length := by rw [l1, hsz]; exact HSz.out
      have hszb : sz ≤ 1000000 := by omega
      rw [← hsz]
      obtain ⟨va, vL, vc, hve, hvL, _, _, _, hvle, _⟩ := own_any HRows.out.now HRows.out.rz
      subst hvL
      have hpre := own_prefix (hve ▸ HRows.out.now) hszl
      have hD : D < wr.heap.size := (Array.getElem?_eq_some_iff.1 HRows.out.box).1
      have hpre1 := own_set_cell hpre (R := D) (fun K hK => by have := (own_at hpre hK).1; have := HRows.out.lt; omega) off (.slice va sz vc)
      have hrz : ∀ z ∈ zf.take sz, 0 ≤ z ∧ z ≤ 255 := fun z hz => HRows.out.rz z (List.mem_of_mem_take hz)
      obtain ⟨a1, L1, c1, e1, e2, hI, hlo, hnil, _⟩ := own_any hpre1 hrz
      have hl1 : (zf.take sz).length = sz := by rw [List.length_take]; omega
      cases e1
      have HI := Lib.hid hI
      have HLo := Lib.hid hlo
      have HN := Lib.hid hnil
      have HP := Lib.hid hpre1
      have HVe := Lib.hid hve
      have q0 := cell_of_row wr D off cs T _ HRows.out.box
      rw [HRows.out.cv, hve] at q0
      have f0 := frozen_of_row wr D off cs T HRows.out.box
      have sl : ∀ W, (Instr.slice 30 (.slice va zf.length vc) none (some (.int .i64 (sz : Int))) none).run Try.prog W = .ok (.slice va sz vc) W := fun W => slice_h va zf.length vc sz (by omega) .i64 W
      have hbx1 := Go.heap_setCell_same wr D off cs T (.slice va sz vc) HRows.out.box
      have HBx1 := Lib.hid hbx1
      clear HIn HB2 l1 l2 l3 l4 hzf hsz HRr hve hpre hpre1 hrz e2 hI hlo hnil hl1 hbx1 hn hlt hn2 HR
      go_wp2_with (at_builtin; refine wpList_slice rfl (.const (.slice none 0 0)) (.tmp 71) rfl wr.heap.size (.slice none 0 0) [] va sz vc (zf.take sz) rfl rfl (World.ownsRow_nil _ _ _ _) HI.out HN.out (by show 0 + sz ≤ _; omega) (by simp) ?_)
      intro v2 w5 hown hgr
      have hown2 : w5.ownsRow wr.heap.size 5 1 v2 (zf.take sz).length ((zf.take sz).map (Value.int .u8)) := by
        have hl : (zf.take sz).length = sz := by rw [List.length_take]; omega
        rw [hl, List.map_take]
        first
          | exact hown
          | (have h := hown
             rw [List.nil_append, hl, List.map_take] at h
             exact h)
      obtain ⟨hbx5, hE⟩ := crash_end HBx1.out HP.out HRows.out.lt (HRows.out.box) HOn.out (by rw [HVe.out]; cases va <;> rfl) hown2 hgr (fun z hz => HRows.out.rz z (List.mem_of_mem_take hz))
      have HE := Lib.hid hE
      have hsD := (Array.getElem?_eq_some_iff.1 hbx5).1
      have e1 := cell_of_row w5 D (off + 1) _ T _ hbx5
      have e2 := cell_of_row w5 D (off + 2) _ T _ hbx5
      have f1 := frozen_of_row w5 D (off + 1) _ T hbx5
      have f2 := frozen_of_row w5 D (off + 2) _ T hbx5
      rw [Array.getElem?_setIfInBounds_ne (by omega), HRows.out.cs1] at e1
      rw [Array.getElem?_setIfInBounds_ne (by omega), HM.out] at e2
      obtain ⟨a2, L2, c2, rfl⟩ := own_slice hown2
      clear hown hgr hown2 hE hbx5
      go_wp2
      go_ret
      refine ⟨xs, HXs.out, by show Ending.returned (.int .i64 ((t : Int) + (n : Int))) = _; rw [HTn.out], ?_⟩
      rw [← HZf.out.1, ← HZf.out.2]
      exact HE.out
end Go.Proofs.Ytafhgilikcablaa
