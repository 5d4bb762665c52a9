/- parse.Same. Written by gensamq.py. -/
import Derived.Test.YtknhphcfcpjhiaaGreatDoorPsmQ
import Derived.Test.YtknhphcfcpjhiaaGreatDoorPsmRo
import Derived.Test.YtknhphcfcpjhiaaGreatDoorPsmAs
namespace Go.Proofs.YtknhphcfcpjhiaaGreatDoor
open Go.RowKit Go.Great
set_option linter.unusedVariables false
set_option linter.unusedSimpArgs false
set_option maxRecDepth 100000
theorem cells_psames {w : World} {N : Nat} {T : TypeId} {a0 a1 a2 a3 a4 a5 a6 a7 a8 a9 a10 a11 a12 a13 a14 a15 a16 : Value} (h : w.heap[N]? = some (.cells #[a0, a1, a2, a3, a4, a5, a6, a7, a8, a9, a10, a11, a12, a13, a14, a15, a16] T (0, 0))) : w.cell? ⟨N, 0, none⟩ = some a0 ∧ w.cell? ⟨N, 1, none⟩ = some a1 ∧ w.cell? ⟨N, 2, none⟩ = some a2 ∧ w.cell? ⟨N, 3, none⟩ = some a3 ∧ w.cell? ⟨N, 4, none⟩ = some a4 ∧ w.cell? ⟨N, 5, none⟩ = some a5 ∧ w.cell? ⟨N, 6, none⟩ = some a6 ∧ w.cell? ⟨N, 7, none⟩ = some a7 ∧ w.cell? ⟨N, 8, none⟩ = some a8 ∧ w.cell? ⟨N, 9, none⟩ = some a9 ∧ w.cell? ⟨N, 10, none⟩ = some a10 ∧ w.cell? ⟨N, 11, none⟩ = some a11 ∧ w.cell? ⟨N, 12, none⟩ = some a12 ∧ w.cell? ⟨N, 13, none⟩ = some a13 ∧ w.cell? ⟨N, 14, none⟩ = some a14 ∧ w.cell? ⟨N, 15, none⟩ = some a15 ∧ w.cell? ⟨N, 16, none⟩ = some a16 :=
  ⟨cell_of_row _ _ 0 _ _ _ h, cell_of_row _ _ 1 _ _ _ h, cell_of_row _ _ 2 _ _ _ h, cell_of_row _ _ 3 _ _ _ h, cell_of_row _ _ 4 _ _ _ h, cell_of_row _ _ 5 _ _ _ h, cell_of_row _ _ 6 _ _ _ h, cell_of_row _ _ 7 _ _ _ h, cell_of_row _ _ 8 _ _ _ h, cell_of_row _ _ 9 _ _ _ h, cell_of_row _ _ 10 _ _ _ h, cell_of_row _ _ 11 _ _ _ h, cell_of_row _ _ 12 _ _ _ h, cell_of_row _ _ 13 _ _ _ h, cell_of_row _ _ 14 _ _ _ h, cell_of_row _ _ 15 _ _ _ h, cell_of_row _ _ 16 _ _ _ h⟩
set_option maxHeartbeats 12800000 in
theorem psames_any (a b : ST) (w : World) (Q Q' : Nat → Prop) (cs cs' : List Value) (h : smS.R w Q cs a) (h' : smS.R w Q' cs' b) :
    Calls Tryz.prog 13 #[.agg cs.toArray, .agg cs'.toArray] w fun e' w' => e' = .returned (.bool (sameS a b)) ∧ Below w.heap.size w w' := by
  obtain ⟨_, _, _, _, _, _, rfl, ⟨ac, acc, rfl, hpc⟩, ⟨ak, ack, rfl, hpk⟩, ⟨ar, acr, rfl, hpr⟩, ⟨az, acz, rfl, hpz⟩, ⟨aw, acw, rfl, hpw⟩, ⟨_, _, _, _, _, rfl, ⟨qai, qaci, rfl, hpqi⟩, ⟨qaf, qacf, rfl, hpqf⟩, ⟨qaw, qacw, rfl, hpqw⟩, ⟨qag, qacg, rfl, hpqg⟩, ⟨qao, qaco, rfl, hpqo⟩, hpql⟩, -⟩ := h
  obtain ⟨_, _, _, _, _, _, rfl, ⟨bc, bcc, rfl, hrc⟩, ⟨bk, bck, rfl, hrk⟩, ⟨br, bcr, rfl, hrr⟩, ⟨bz, bcz, rfl, hrz⟩, ⟨bw, bcw, rfl, hrw⟩, ⟨_, _, _, _, _, rfl, ⟨qbi, qbci, rfl, hrqi⟩, ⟨qbf, qbcf, rfl, hrqf⟩, ⟨qbw, qbcw, rfl, hrqw⟩, ⟨qbg, qbcg, rfl, hrqg⟩, ⟨qbo, qbco, rfl, hrqo⟩, hrql⟩, -⟩ := h'
  have hvc : SlV coS w Q (.slice ac a.cols.length acc) a.cols := ⟨_, _, rfl, hpc⟩
  have huc : SlV coS w Q' (.slice bc b.cols.length bcc) b.cols := ⟨_, _, rfl, hrc⟩
  have hvk : SlV stS w Q (.slice ak a.keys.length ack) a.keys := ⟨_, _, rfl, hpk⟩
  have huk : SlV stS w Q' (.slice bk b.keys.length bck) b.keys := ⟨_, _, rfl, hrk⟩
  have hvr : SlV roS w Q (.slice ar a.rows.length acr) a.rows := ⟨_, _, rfl, hpr⟩
  have hur : SlV roS w Q' (.slice br b.rows.length bcr) b.rows := ⟨_, _, rfl, hrr⟩
  have hvz : SlV asS w Q (.slice az a.sets.length acz) a.sets := ⟨_, _, rfl, hpz⟩
  have huz : SlV asS w Q' (.slice bz b.sets.length bcz) b.sets := ⟨_, _, rfl, hrz⟩
  have hvw : LeV w Q (.slice aw a.whr.length acw) a.whr := ⟨_, _, rfl, hpw⟩
  have huw : LeV w Q' (.slice bw b.whr.length bcw) b.whr := ⟨_, _, rfl, hrw⟩
  have HSm := Lib.hid (show sameS a b = ((a.kind == b.kind) && ((a.name.toList == b.name.toList) && ((a.on.toList == b.on.toList) && ((a.uniq == b.uniq) && (sameLB sameCo a.cols b.cols && (sameLB sameSt a.keys b.keys && (sameLB sameEL a.rows b.rows && (sameLB sameAs a.sets b.sets && (sameEL a.whr b.whr && sameQ a.q b.q))))))))) from rfl)
  have HB := Lib.hid (bel0 (.cells #[.int .i64 b.kind, .string b.name, .string b.on, .bool b.uniq, .slice bc b.cols.length bcc, .slice bk b.keys.length bck, .slice br b.rows.length bcr, .slice bz b.sets.length bcz, .slice bw b.whr.length bcw, .bool b.q.dist, .bool b.q.star, .slice qbi b.q.items.length qbci, .slice qbf b.q.src.length qbcf, .slice qbw b.q.whr.length qbcw, .slice qbg b.q.group.length qbcg, .slice qbo b.q.ord.length qbco, .int .i64 b.q.lim] 45) (bel0 (.cells #[.int .i64 a.kind, .string a.name, .string a.on, .bool a.uniq, .slice ac a.cols.length acc, .slice ak a.keys.length ack, .slice ar a.rows.length acr, .slice az a.sets.length acz, .slice aw a.whr.length acw, .bool a.q.dist, .bool a.q.star, .slice qai a.q.items.length qaci, .slice qaf a.q.src.length qacf, .slice qaw a.q.whr.length qacw, .slice qag a.q.group.length qacg, .slice qao a.q.ord.length qaco, .int .i64 a.q.lim] 45) (Below.refl w.heap.size w)))
  have HBX := Lib.hid (boxes_lit w (.cells #[.int .i64 a.kind, .string a.name, .string a.on, .bool a.uniq, .slice ac a.cols.length acc, .slice ak a.keys.length ack, .slice ar a.rows.length acr, .slice az a.sets.length acz, .slice aw a.whr.length acw, .bool a.q.dist, .bool a.q.star, .slice qai a.q.items.length qaci, .slice qaf a.q.src.length qacf, .slice qaw a.q.whr.length qacw, .slice qag a.q.group.length qacg, .slice qao a.q.ord.length qaco, .int .i64 a.q.lim] 45 (0, 0)) (.cells #[.int .i64 b.kind, .string b.name, .string b.on, .bool b.uniq, .slice bc b.cols.length bcc, .slice bk b.keys.length bck, .slice br b.rows.length bcr, .slice bz b.sets.length bcz, .slice bw b.whr.length bcw, .bool b.q.dist, .bool b.q.star, .slice qbi b.q.items.length qbci, .slice qbf b.q.src.length qbcf, .slice qbw b.q.whr.length qbcw, .slice qbg b.q.group.length qbcg, .slice qbo b.q.ord.length qbco, .int .i64 b.q.lim] 45 (0, 0)))
  go_enter Tryz.func13, Tryz.ntmps13
  go_upto_region 1 with (fail)
  generalize ((w.alloc (.cells #[.int .i64 a.kind, .string a.name, .string a.on, .bool a.uniq, .slice ac a.cols.length acc, .slice ak a.keys.length ack, .slice ar a.rows.length acr, .slice az a.sets.length acz, .slice aw a.whr.length acw, .bool a.q.dist, .bool a.q.star, .slice qai a.q.items.length qaci, .slice qaf a.q.src.length qacf, .slice qaw a.q.whr.length qacw, .slice qag a.q.group.length qacg, .slice qao a.q.ord.length qaco, .int .i64 a.q.lim] 45)).alloc (.cells #[.int .i64 b.kind, .string b.name, .string b.on, .bool b.uniq, .slice bc b.cols.length bcc, .slice bk b.keys.length bck, .slice br b.rows.length bcr, .slice bz b.sets.length bcz, .slice bw b.whr.length bcw, .bool b.q.dist, .bool b.q.star, .slice qbi b.q.items.length qbci, .slice qbf b.q.src.length qbcf, .slice qbw b.q.whr.length qbcw, .slice qbg b.q.group.length qbcg, .slice qbo b.q.ord.length qbco, .int .i64 b.q.lim] 45)) = w1 at *
  obtain ⟨⟨hA, hB⟩, hsz⟩ := HBX.out
  have hs0 : w.heap.size < w1.heap.size := by omega
  have hs1 : w.heap.size + 1 < w1.heap.size := by omega
  have Hhc := Lib.hid (show ∀ s : Fut w1, Calls Tryz.prog 34 #[.slice ac a.cols.length acc, .slice bc b.cols.length bcc] s.to fun e w' => e = .returned (.bool (sameLB sameCo a.cols b.cols)) ∧ Below s.to.heap.size s.to w' from fun s => eqf_Co a.cols b.cols s.to Q Q' _ _ (hvc.far (bt HB.out s.bel).size (fun b _ hlt => (bt HB.out s.bel).block b hlt)) (huc.far (bt HB.out s.bel).size (fun b _ hlt => (bt HB.out s.bel).block b hlt)))
  have Hhk := Lib.hid (show ∀ s : Fut w1, Calls Tryz.prog 35 #[.slice ak a.keys.length ack, .slice bk b.keys.length bck] s.to fun e w' => e = .returned (.bool (sameLB sameSt a.keys b.keys)) ∧ Below s.to.heap.size s.to w' from fun s => eqf_St a.keys b.keys s.to Q Q' _ _ (hvk.far (bt HB.out s.bel).size (fun b _ hlt => (bt HB.out s.bel).block b hlt)) (huk.far (bt HB.out s.bel).size (fun b _ hlt => (bt HB.out s.bel).block b hlt)))
  have Hhr := Lib.hid (show ∀ s : Fut w1, Calls Tryz.prog 36 #[.slice ar a.rows.length acr, .slice br b.rows.length bcr, .func (Fn.func 37) #[] #[]] s.to fun e w' => e = .returned (.bool (sameLB sameEL a.rows b.rows)) ∧ Below s.to.heap.size s.to w' from fun s => eqf_Ro a.rows b.rows s.to Q Q' _ _ (hvr.far (bt HB.out s.bel).size (fun b _ hlt => (bt HB.out s.bel).block b hlt)) (hur.far (bt HB.out s.bel).size (fun b _ hlt => (bt HB.out s.bel).block b hlt)))
  have Hhz := Lib.hid (show ∀ s : Fut w1, Calls Tryz.prog 38 #[.slice az a.sets.length acz, .slice bz b.sets.length bcz, .func (Fn.func 39) #[] #[]] s.to fun e w' => e = .returned (.bool (sameLB sameAs a.sets b.sets)) ∧ Below s.to.heap.size s.to w' from fun s => eqf_As a.sets b.sets s.to Q Q' _ _ (hvz.far (bt HB.out s.bel).size (fun b _ hlt => (bt HB.out s.bel).block b hlt)) (huz.far (bt HB.out s.bel).size (fun b _ hlt => (bt HB.out s.bel).block b hlt)))
  have Hhw := Lib.hid (show ∀ s : Fut w1, Calls Tryz.prog 37 #[.slice aw a.whr.length acw, .slice bw b.whr.length bcw] s.to fun e w' => e = .returned (.bool (sameEL a.whr b.whr)) ∧ Below s.to.heap.size s.to w' from fun s => plist_same a.whr b.whr s.to Q Q' _ _ (hvw.far (bt HB.out s.bel).size (fun b _ hlt => (bt HB.out s.bel).block b hlt)) (huw.far (bt HB.out s.bel).size (fun b _ hlt => (bt HB.out s.bel).block b hlt)))
  have hqa : quS.R w Q [.bool a.q.dist, .bool a.q.star, .slice qai a.q.items.length qaci, .slice qaf a.q.src.length qacf, .slice qaw a.q.whr.length qacw, .slice qag a.q.group.length qacg, .slice qao a.q.ord.length qaco, .int .i64 a.q.lim] a.q := ⟨_, _, _, _, _, rfl, ⟨_, _, rfl, hpqi⟩, ⟨_, _, rfl, hpqf⟩, ⟨_, _, rfl, hpqw⟩, ⟨_, _, rfl, hpqg⟩, ⟨_, _, rfl, hpqo⟩, hpql⟩
  have hqb : quS.R w Q' [.bool b.q.dist, .bool b.q.star, .slice qbi b.q.items.length qbci, .slice qbf b.q.src.length qbcf, .slice qbw b.q.whr.length qbcw, .slice qbg b.q.group.length qbcg, .slice qbo b.q.ord.length qbco, .int .i64 b.q.lim] b.q := ⟨_, _, _, _, _, rfl, ⟨_, _, rfl, hrqi⟩, ⟨_, _, rfl, hrqf⟩, ⟨_, _, rfl, hrqw⟩, ⟨_, _, rfl, hrqg⟩, ⟨_, _, rfl, hrqo⟩, hrql⟩
  have Hhq := Lib.hid (show ∀ s : Fut w1, Calls Tryz.prog 40 #[.agg #[.bool a.q.dist, .bool a.q.star, .slice qai a.q.items.length qaci, .slice qaf a.q.src.length qacf, .slice qaw a.q.whr.length qacw, .slice qag a.q.group.length qacg, .slice qao a.q.ord.length qaco, .int .i64 a.q.lim], .agg #[.bool b.q.dist, .bool b.q.star, .slice qbi b.q.items.length qbci, .slice qbf b.q.src.length qbcf, .slice qbw b.q.whr.length qbcw, .slice qbg b.q.group.length qbcg, .slice qbo b.q.ord.length qbco, .int .i64 b.q.lim]] s.to fun e w' => e = .returned (.bool (sameQ a.q b.q)) ∧ Below s.to.heap.size s.to w' from fun s => psameq_any a.q b.q s.to Q Q' _ _ (quS.far hqa (bt HB.out s.bel).size (fun b _ hlt => (bt HB.out s.bel).block b hlt)) (quS.far hqb (bt HB.out s.bel).size (fun b _ hlt => (bt HB.out s.bel).block b hlt)))
  clear hqa hqb hpqi hrqi hpqf hrqf hpqw hrqw hpqg hrqg hpqo hrqo hpql hrql
  clear hvc huc hpc hrc hvk huk hpk hrk hvr hur hpr hrr hvz huz hpz hrz hvw huw hpw hrw
  obtain ⟨c0, c1, c2, c3, c4, c5, c6, c7, c8, c9, c10, c11, c12, c13, c14, c15, c16⟩ := cells_psames hA
  obtain ⟨d0, d1, d2, d3, d4, d5, d6, d7, d8, d9, d10, d11, d12, d13, d14, d15, d16⟩ := cells_psames hB
  clear hA hB hsz HBX
  have j0 := Fut.cell c0
  have l0 := Fut.cell d0
  have j1 := Fut.cell c1
  have l1 := Fut.cell d1
  have j2 := Fut.cell c2
  have l2 := Fut.cell d2
  have j3 := Fut.cell c3
  have l3 := Fut.cell d3
  have j4 := Fut.cell c4
  have l4 := Fut.cell d4
  have j5 := Fut.cell c5
  have l5 := Fut.cell d5
  have j6 := Fut.cell c6
  have l6 := Fut.cell d6
  have j7 := Fut.cell c7
  have l7 := Fut.cell d7
  have j8 := Fut.cell c8
  have l8 := Fut.cell d8
  have j9 := Fut.cell c9
  have l9 := Fut.cell d9
  have j10 := Fut.cell c10
  have l10 := Fut.cell d10
  have j11 := Fut.cell c11
  have l11 := Fut.cell d11
  have j12 := Fut.cell c12
  have l12 := Fut.cell d12
  have j13 := Fut.cell c13
  have l13 := Fut.cell d13
  have j14 := Fut.cell c14
  have l14 := Fut.cell d14
  have j15 := Fut.cell c15
  have l15 := Fut.cell d15
  have j16 := Fut.cell c16
  have l16 := Fut.cell d16
  clear c0 d0 c1 d1 c2 d2 c3 d3 c4 d4 c5 d5 c6 d6 c7 d7 c8 d8 c9 d9 c10 d10 c11 d11 c12 d12 c13 d13 c14 d14 c15 d15 c16 d16
  cases hki : (a.kind == b.kind) with
  | false =>
    have HV := Lib.hid (show sameS a b = false by rw [HSm.out]; simp only [hki, Bool.true_and, Bool.and_true, Bool.false_and])
    refine wp_plain_fut ?_
    dsimp only [List.append]
    repeat (go_big_quiet_step (fail))
    refine wpQuiet_nil ?_
    rintro _ ⟨s3, rfl⟩
    have hb3 := s3.bel
    generalize s3.to = w3 at *
    have HB3 := Lib.hid (bt HB.out hb3)
    clear s3
    go_wp2
    go_ret
    rw [HV.out]
    exact ⟨rfl, HB3.out⟩
  | true =>
    cases hn : (a.name.toList == b.name.toList) with
    | false =>
      have HV := Lib.hid (show sameS a b = false by rw [HSm.out]; simp only [hki, hn, Bool.true_and, Bool.and_true, Bool.false_and])
      refine wp_plain_fut ?_
      dsimp only [List.append]
      repeat (go_big_quiet_step (fail))
      refine wpQuiet_nil ?_
      rintro _ ⟨s3, rfl⟩
      have hb3 := s3.bel
      generalize s3.to = w3 at *
      have HB3 := Lib.hid (bt HB.out hb3)
      clear s3
      go_wp2
      go_ret
      rw [HV.out]
      exact ⟨rfl, HB3.out⟩
    | true =>
      cases hon : (a.on.toList == b.on.toList) with
      | false =>
        have HV := Lib.hid (show sameS a b = false by rw [HSm.out]; simp only [hki, hn, hon, Bool.true_and, Bool.and_true, Bool.false_and])
        refine wp_plain_fut ?_
        dsimp only [List.append]
        repeat (go_big_quiet_step (fail))
        refine wpQuiet_nil ?_
        rintro _ ⟨s3, rfl⟩
        have hb3 := s3.bel
        generalize s3.to = w3 at *
        have HB3 := Lib.hid (bt HB.out hb3)
        clear s3
        go_wp2
        go_ret
        rw [HV.out]
        exact ⟨rfl, HB3.out⟩
      | true =>
        cases hun : (a.uniq == b.uniq) with
        | false =>
          have HV := Lib.hid (show sameS a b = false by rw [HSm.out]; simp only [hki, hn, hon, hun, Bool.true_and, Bool.and_true, Bool.false_and])
          refine wp_plain_fut ?_
          dsimp only [List.append]
          repeat (go_big_quiet_step (fail))
          refine wpQuiet_nil ?_
          rintro _ ⟨s3, rfl⟩
          have hb3 := s3.bel
          generalize s3.to = w3 at *
          have HB3 := Lib.hid (bt HB.out hb3)
          clear s3
          go_wp2
          go_ret
          rw [HV.out]
          exact ⟨rfl, HB3.out⟩
        | true =>
          cases hc : (sameLB sameCo a.cols b.cols) with
          | false =>
            have HV := Lib.hid (show sameS a b = false by rw [HSm.out]; simp only [hki, hn, hon, hun, hc, Bool.true_and, Bool.and_true, Bool.false_and])
            have HChc := Lib.hid Hhc.out
            rw [hc] at HChc
            clear hc
            refine wp_plain_fut ?_
            dsimp only [List.append]
            repeat (go_big_quiet_step (first | (go_at_call 34; with_reducible exact calls_fut (HChc.out _))))
            refine wpQuiet_nil ?_
            rintro _ ⟨s3, rfl⟩
            have hb3 := s3.bel
            generalize s3.to = w3 at *
            have HB3 := Lib.hid (bt HB.out hb3)
            clear s3
            go_wp2
            go_ret
            rw [HV.out]
            exact ⟨rfl, HB3.out⟩
          | true =>
            cases hk : (sameLB sameSt a.keys b.keys) with
            | false =>
              have HV := Lib.hid (show sameS a b = false by rw [HSm.out]; simp only [hki, hn, hon, hun, hc, hk, Bool.true_and, Bool.and_true, Bool.false_and])
              have HChc := Lib.hid Hhc.out
              rw [hc] at HChc
              have HChk := Lib.hid Hhk.out
              rw [hk] at HChk
              clear hc hk
              refine wp_plain_fut ?_
              dsimp only [List.append]
              repeat (go_big_quiet_step (first | (go_at_call 34; with_reducible exact calls_fut (HChc.out _)) | (go_at_call 35; with_reducible exact calls_fut (HChk.out _))))
              refine wpQuiet_nil ?_
              rintro _ ⟨s3, rfl⟩
              have hb3 := s3.bel
              generalize s3.to = w3 at *
              have HB3 := Lib.hid (bt HB.out hb3)
              clear s3
              go_wp2
              go_ret
              rw [HV.out]
              exact ⟨rfl, HB3.out⟩
            | true =>
              cases hr : (sameLB sameEL a.rows b.rows) with
              | false =>
                have HV := Lib.hid (show sameS a b = false by rw [HSm.out]; simp only [hki, hn, hon, hun, hc, hk, hr, Bool.true_and, Bool.and_true, Bool.false_and])
                have HChc := Lib.hid Hhc.out
                rw [hc] at HChc
                have HChk := Lib.hid Hhk.out
                rw [hk] at HChk
                have HChr := Lib.hid Hhr.out
                rw [hr] at HChr
                clear hc hk hr
                refine wp_plain_fut ?_
                dsimp only [List.append]
                repeat (go_big_quiet_step (first | (go_at_call 34; with_reducible exact calls_fut (HChc.out _)) | (go_at_call 35; with_reducible exact calls_fut (HChk.out _)) | (go_at_call 36; with_reducible exact calls_fut (HChr.out _))))
                refine wpQuiet_nil ?_
                rintro _ ⟨s3, rfl⟩
                have hb3 := s3.bel
                generalize s3.to = w3 at *
                have HB3 := Lib.hid (bt HB.out hb3)
                clear s3
                go_wp2
                go_ret
                rw [HV.out]
                exact ⟨rfl, HB3.out⟩
              | true =>
                cases hz : (sameLB sameAs a.sets b.sets) with
                | false =>
                  have HV := Lib.hid (show sameS a b = false by rw [HSm.out]; simp only [hki, hn, hon, hun, hc, hk, hr, hz, Bool.true_and, Bool.and_true, Bool.false_and])
                  have HChc := Lib.hid Hhc.out
                  rw [hc] at HChc
                  have HChk := Lib.hid Hhk.out
                  rw [hk] at HChk
                  have HChr := Lib.hid Hhr.out
                  rw [hr] at HChr
                  have HChz := Lib.hid Hhz.out
                  rw [hz] at HChz
                  clear hc hk hr hz
                  refine wp_plain_fut ?_
                  dsimp only [List.append]
                  repeat (go_big_quiet_step (first | (go_at_call 34; with_reducible exact calls_fut (HChc.out _)) | (go_at_call 35; with_reducible exact calls_fut (HChk.out _)) | (go_at_call 36; with_reducible exact calls_fut (HChr.out _)) | (go_at_call 38; with_reducible exact calls_fut (HChz.out _))))
                  refine wpQuiet_nil ?_
                  rintro _ ⟨s3, rfl⟩
                  have hb3 := s3.bel
                  generalize s3.to = w3 at *
                  have HB3 := Lib.hid (bt HB.out hb3)
                  clear s3
                  go_wp2
                  go_ret
                  rw [HV.out]
                  exact ⟨rfl, HB3.out⟩
                | true =>
                  cases hw : (sameEL a.whr b.whr) with
                  | false =>
                    have HV := Lib.hid (show sameS a b = false by rw [HSm.out]; simp only [hki, hn, hon, hun, hc, hk, hr, hz, hw, Bool.true_and, Bool.and_true, Bool.false_and])
                    have HChc := Lib.hid Hhc.out
                    rw [hc] at HChc
                    have HChk := Lib.hid Hhk.out
                    rw [hk] at HChk
                    have HChr := Lib.hid Hhr.out
                    rw [hr] at HChr
                    have HChz := Lib.hid Hhz.out
                    rw [hz] at HChz
                    have HChw := Lib.hid Hhw.out
                    rw [hw] at HChw
                    clear hc hk hr hz hw
                    refine wp_plain_fut ?_
                    dsimp only [List.append]
                    repeat (go_big_quiet_step (first | (go_at_call 34; with_reducible exact calls_fut (HChc.out _)) | (go_at_call 35; with_reducible exact calls_fut (HChk.out _)) | (go_at_call 36; with_reducible exact calls_fut (HChr.out _)) | (go_at_call 38; with_reducible exact calls_fut (HChz.out _)) | (go_at_call 37; with_reducible exact calls_fut (HChw.out _))))
                    refine wpQuiet_nil ?_
                    rintro _ ⟨s3, rfl⟩
                    have hb3 := s3.bel
                    generalize s3.to = w3 at *
                    have HB3 := Lib.hid (bt HB.out hb3)
                    clear s3
                    go_wp2
                    go_ret
                    rw [HV.out]
                    exact ⟨rfl, HB3.out⟩
                  | true =>
                    cases hq : (sameQ a.q b.q) with
                    | false =>
                      have HV := Lib.hid (show sameS a b = false by rw [HSm.out]; simp only [hki, hn, hon, hun, hc, hk, hr, hz, hw, hq, Bool.true_and, Bool.and_true, Bool.false_and])
                      have HChc := Lib.hid Hhc.out
                      rw [hc] at HChc
                      have HChk := Lib.hid Hhk.out
                      rw [hk] at HChk
                      have HChr := Lib.hid Hhr.out
                      rw [hr] at HChr
                      have HChz := Lib.hid Hhz.out
                      rw [hz] at HChz
                      have HChw := Lib.hid Hhw.out
                      rw [hw] at HChw
                      have HChq := Lib.hid Hhq.out
                      rw [hq] at HChq
                      clear hc hk hr hz hw hq
                      refine wp_plain_fut ?_
                      dsimp only [List.append]
                      repeat (go_big_quiet_step (first | (go_at_call 34; with_reducible exact calls_fut (HChc.out _)) | (go_at_call 35; with_reducible exact calls_fut (HChk.out _)) | (go_at_call 36; with_reducible exact calls_fut (HChr.out _)) | (go_at_call 38; with_reducible exact calls_fut (HChz.out _)) | (go_at_call 37; with_reducible exact calls_fut (HChw.out _)) | (go_at_call 40; with_reducible exact calls_fut (HChq.out _))))
                      refine wpQuiet_nil ?_
                      rintro _ ⟨s3, rfl⟩
                      have hb3 := s3.bel
                      generalize s3.to = w3 at *
                      have HB3 := Lib.hid (bt HB.out hb3)
                      clear s3
                      go_wp2
                      go_ret
                      rw [HV.out]
                      exact ⟨rfl, HB3.out⟩
                    | true =>
                      have HV := Lib.hid (show sameS a b = true by rw [HSm.out]; simp only [hki, hn, hon, hun, hc, hk, hr, hz, hw, hq, Bool.true_and, Bool.and_true, Bool.false_and])
                      have HChc := Lib.hid Hhc.out
                      rw [hc] at HChc
                      have HChk := Lib.hid Hhk.out
                      rw [hk] at HChk
                      have HChr := Lib.hid Hhr.out
                      rw [hr] at HChr
                      have HChz := Lib.hid Hhz.out
                      rw [hz] at HChz
                      have HChw := Lib.hid Hhw.out
                      rw [hw] at HChw
                      have HChq := Lib.hid Hhq.out
                      rw [hq] at HChq
                      clear hc hk hr hz hw hq
                      refine wp_plain_fut ?_
                      dsimp only [List.append]
                      repeat (go_big_quiet_step (first | (go_at_call 34; with_reducible exact calls_fut (HChc.out _)) | (go_at_call 35; with_reducible exact calls_fut (HChk.out _)) | (go_at_call 36; with_reducible exact calls_fut (HChr.out _)) | (go_at_call 38; with_reducible exact calls_fut (HChz.out _)) | (go_at_call 37; with_reducible exact calls_fut (HChw.out _)) | (go_at_call 40; with_reducible exact calls_fut (HChq.out _))))
                      refine wpQuiet_nil ?_
                      rintro _ ⟨s3, rfl⟩
                      have hb3 := s3.bel
                      generalize s3.to = w3 at *
                      have HB3 := Lib.hid (bt HB.out hb3)
                      clear s3
                      go_wp2
                      go_ret
                      rw [HV.out]
                      exact ⟨rfl, HB3.out⟩
end Go.Proofs.YtknhphcfcpjhiaaGreatDoor
