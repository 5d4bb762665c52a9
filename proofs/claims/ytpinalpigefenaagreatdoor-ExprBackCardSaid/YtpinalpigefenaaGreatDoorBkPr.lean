/- expr.Print of any expression. -/
import Derived.Test.YtpinalpigefenaaGreatDoorBkW6
set_option linter.unusedVariables false
set_option linter.unusedSimpArgs false
set_option maxRecDepth 100000
namespace Go.Proofs.YtpinalpigefenaaGreatDoor
open Go.RowKit
/-- an expression's text, and the error -/
def PrintP (e : ET) : ByteArray × Int := if fmdB e = true then (⟨(prT 8 e).toArray⟩, 0) else (⟨#[]⟩, 1)
theorem nm_small (c : ByteArray) (h : nmB c = true) : c.size ≤ 100 := by
  rw [nmB_eq, Bool.and_eq_true] at h
  have := nmd_size h.1
  omega
set_option maxHeartbeats 3200000 in
theorem print_any (w : World) (Q : Nat → Prop) (v : Value) (e : ET) (he : EV w Q v e) (hv : VOk w) (hp : PowOk w) (hN : gMax < w.heap.size ∧ gErr < w.heap.size) :
    Calls Tryz.prog 11 #[v] w fun e' w' => e' = .returned (.tuple #[.string (PrintP e).1, .int .i64 (PrintP e).2]) ∧ Below w.heap.size w w' := by
  have hnum := he.numE 8
  obtain ⟨sa, sc, rfl, hrg, hel⟩ := he
  have hel := hel.mono (Q' := fun b => b < w.heap.size) (fun b _ hb => hb)
  have e0 : (etX e sa sc).toArray = #[.int .i64 e.kind, .string e.op, .int .i64 e.vk, .int .i64 e.vn, .string e.vs, .string e.tab, .string e.col, .slice sa e.parts.length sc] := rfl
  rw [e0]
  have HE := Lib.hid (show ∀ W, Below w.heap.size w W → EV W (fun b => b < w.heap.size) (.agg #[.int .i64 e.kind, .string e.op, .int .i64 e.vk, .int .i64 e.vn, .string e.vs, .string e.tab, .string e.col, .slice sa e.parts.length sc]) e from fun W hW => ⟨sa, sc, rfl, hrg, hel.keep hW⟩)
  have HB := Lib.hid (bel0 (.cells #[.int .i64 e.kind, .string e.op, .int .i64 e.vk, .int .i64 e.vn, .string e.vs, .string e.tab, .string e.col, .slice sa e.parts.length sc] 34) (Below.refl w.heap.size w))
  have HX := Lib.hid (Go.heap_alloc_new w (.cells #[.int .i64 e.kind, .string e.op, .int .i64 e.vk, .int .i64 e.vn, .string e.vs, .string e.tab, .string e.col, .slice sa e.parts.length sc] 34 (0, 0)))
  have HFm := Lib.hid (show fmdB e = true → FmE nmB 8 e from fun h => fm_of 8 e h)
  have HVB := Lib.hid (show VB w.heap.size w from ⟨hv, hp, hN.1, hN.2, hp.lt⟩)
  have HNum := Lib.hid hnum
  obtain ⟨fm, hfm⟩ : ∃ fm, fm = fmdB e := ⟨_, rfl⟩
  have HPF := Lib.hid (show ∀ W, Below w.heap.size w W → Calls Tryz.prog 37 #[.agg #[.int .i64 e.kind, .string e.op, .int .i64 e.vk, .int .i64 e.vn, .string e.vs, .string e.tab, .string e.col, .slice sa e.parts.length sc]] W fun e' w' => e' = .returned (.bool fm) ∧ Below W.heap.size W w' from fun W hW => by rw [hfm]; exact pFormed_any W _ _ e (HE.out W hW))
  have HPr := Lib.hid (show PrintP e = if fm = true then (⟨(prT 8 e).toArray⟩, 0) else (⟨#[]⟩, 1) by rw [hfm]; rfl)
  rw [← hfm] at HFm
  clear hrg hel e0 hv hp hN hnum hfm
  go_enter Tryz.func11, Tryz.ntmps11
  go_upto_region 1 with (fail)
  generalize w.alloc (.cells #[.int .i64 e.kind, .string e.op, .int .i64 e.vk, .int .i64 e.vn, .string e.vs, .string e.tab, .string e.col, .slice sa e.parts.length sc] 34) = w1 at *
  obtain ⟨c0, c1, c2, c3, c4, c5, c6, c7, -, cN⟩ := row8 HX.out
  go_wp2_with fail
  refine (HPF.out w1 HB.out).mono ?_
  rintro e' w2 ⟨rfl, hb2⟩
  have HBw2 := Lib.hid (bt HB.out hb2)
  have HC2 := Lib.hid ((hb2.block _ (Array.getElem?_eq_some_iff.1 HX.out).1).trans HX.out)
  clear hb2 c0 c1 c2 c3 c4 c5 c6 c7 cN
  cases fm with
  | false =>
    have HQ := Lib.hid (show PrintP e = (⟨#[]⟩, 1) by rw [HPr.out]; rfl)
    go_wp2
    go_ret2
    rw [HQ.out]
    exact ⟨rfl, HBw2.out⟩
  | true =>
    have HQ := Lib.hid (show PrintP e = (⟨(prT 8 e).toArray⟩, 0) by rw [HPr.out]; rfl)
    have hF := HFm.out rfl
    have hlen := len_pK nm_small hF HNum.out
    have h256 : (2 : Nat) ^ 8 = 256 := by decide
    have HLn := Lib.hid (show (prT 8 e).length ≤ 1000000 from by unfold prT; omega)
    have HWr := Lib.hid (write_all nm_small hF HNum.out)
    clear hF hlen h256
    go_upto_region 4 with (fail)
    have HD := Lib.hid (show Bd w2.heap.size w2.heap.size [] (w2.alloc (.cells #[.pointer none, .slice none 0 0] 95)) from ⟨Lib.IsBuilderF.of (Lib.fresh_isBuilder _ _ w2), by simp⟩)
    have HBa := Lib.hid (show Below w2.heap.size w2 (w2.alloc (.cells #[.pointer none, .slice none 0 0] 95)) from bel0 _ (Below.refl _ _))
    have HC3 := Lib.hid ((HBa.out.block _ (Array.getElem?_eq_some_iff.1 HC2.out).1).trans HC2.out)
    have hw2 : w.heap.size < w2.heap.size := (Array.getElem?_eq_some_iff.1 HC2.out).1
    have HLt := Lib.hid hw2
    generalize w2.alloc (.cells #[.pointer none, .slice none 0 0] 95) = w3 at *
    have HBw3 := Lib.hid (bt HBw2.out HBa.out)
    have hEB : EB w2.heap.size w3 (.agg #[.int .i64 e.kind, .string e.op, .int .i64 e.vk, .int .i64 e.vn, .string e.vs, .string e.tab, .string e.col, .slice sa e.parts.length sc]) e := by
      obtain ⟨sa', sc', h1, h2, h3⟩ := HE.out w3 HBw3.out
      exact ⟨sa', sc', h1, h2, h3.mono (fun b hb _ => Nat.lt_trans hb HLt.out)⟩
    have hVB : VB w2.heap.size w3 := by
      have := HVB.out.below HBw3.out
      have hl := HLt.out
      exact ⟨this.v, this.p, by have := this.n; omega⟩
    have HCa := Lib.hid (HWr.out w2.heap.size w2.heap.size [] w3 _ hVB hEB HD.out (by have := HLn.out; simpa using this))
    clear hEB hVB hw2
    obtain ⟨c0, c1, c2, c3, c4, c5, c6, c7, -, cN⟩ := row8 HC3.out
    go_wp2_with fail
    refine HCa.out.mono ?_
    rintro e' w4 ⟨rfl, hd4, hb4, -⟩
    have HD4 := Lib.hid (hd4.eq (List.nil_append _))
    have HBw4 := Lib.hid (HBw3.out.trans (hb4.mono (Nat.le_of_lt HLt.out)))
    clear hd4 hb4 c0 c1 c2 c3 c4 c5 c6 c7 cN
    go_wp2_with fail
    refine (bstr_any _ _ _ w4 HD4.out).mono ?_
    rintro e' w5 ⟨rfl, hb5⟩
    have HBw5 := Lib.hid (HBw4.out.trans (hb5.mono (Nat.le_of_lt HLt.out)))
    clear hb5
    go_wp2
    go_ret2
    rw [HQ.out]
    exact ⟨rfl, HBw5.out⟩
end Go.Proofs.YtpinalpigefenaaGreatDoor
