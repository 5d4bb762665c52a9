/- The lexer's Words: any text. -/
import Derived.Test.YtpinalpigefenaaGreatDoorLwStep
namespace Go.Proofs.YtpinalpigefenaaGreatDoor
open Go.RowKit Go.Lib
set_option linter.unusedVariables false
set_option linter.unusedSimpArgs false
set_option maxRecDepth 100000

/-- what Words answers: words in a row of the call's own, or an error -/
def WordsP (w : World) (o : An (List Wd)) (e : Ending) (w' : World) : Prop :=
  match o with
  | .ok ws => ∃ v, e = .returned (.tuple #[v, .int .i64 0]) ∧ w'.ownsRow w.heap.size 283 3 v ws.length (wsX ws) ∧ Below w.heap.size w w'
  | .no x => e = .returned (.tuple #[.slice none 0 0, .int .i64 x]) ∧ x ≠ 0 ∧ Below w.heap.size w w'
/-- the words of a text -/
def wordsA (l : Bs) : An (List Wd) := if 4000 < l.length then .no eL else run (0, [], []) l
/-- where the loop is -/
def WAt (s : ByteArray) (w wr : World) (pos : Nat) : Prop :=
  ∃ x, RAt s wr w.heap.size pos x ∧ Inv x ∧ pos ≤ s.size ∧ run x (s.data.toList.drop pos) = run (0, [], []) s.data.toList ∧ wr.heap[w.heap.size + 1]? = some (Obj.stringIter s pos) ∧ Below w.heap.size w wr
theorem LSt.iter {s : ByteArray} {w : World} {N : Nat} {v : Value} {n : Nat} {xs : List Value} {st start : Int} (h : LSt s w N v n xs st start) {k : Nat} {p : Nat} (hk : w.heap[k]? = some (Obj.stringIter s p)) (p' : Nat) : LSt s (w.iterAt k s p') N v n xs st start := by
  refine ⟨?_, h.own.1, ?_⟩
  · rw [Lib.iterAt_other _ _ _ _ _ (fun e => by have := h.rd; rw [e, hk] at this; cases this)]
    exact h.rd
  · rcases h.own.2 with h0 | ⟨g, cap, cur, hv, hb, hg, rest⟩
    · exact .inl h0
    · refine .inr ⟨g, cap, cur, hv, hb, ?_, rest⟩
      rw [Lib.iterAt_other _ _ _ _ _ (fun e => by subst e; rw [hk] at hg; cases hg)]
      exact hg
theorem al_two (w : World) (a b : Obj) : ((w.alloc a).alloc b).heap[w.heap.size]? = some a ∧ ((w.alloc a).alloc b).heap[w.heap.size + 1]? = some b := by
  have e : (w.alloc a).heap.size = w.heap.size + 1 := by simp
  have h1 : (w.alloc a).heap[w.heap.size]? = some a := by
    show (w.heap.push a)[w.heap.size]? = _
    exact Array.getElem?_push_size
  refine ⟨(Below.heap_alloc (w.alloc a) b w.heap.size (by omega)).trans h1, ?_⟩
  show ((w.alloc a).heap.push b)[w.heap.size + 1]? = _
  rw [← e]
  exact Array.getElem?_push_size
theorem len_list (s : ByteArray) : s.data.toList.length = s.size := by rw [Array.length_toList]; rfl
theorem own_lower1 {w : World} {B C n size : Nat} {e : TypeId} {v : Value} {xs : List Value} (h : w.ownsRow B e size v n xs) (hC : C ≤ B) : w.ownsRow C e size v n xs := by
  refine ⟨h.1, ?_⟩
  rcases h.2 with h0 | ⟨g, cap, cur, a, b, r⟩
  · exact .inl h0
  · exact .inr ⟨g, cap, cur, a, Nat.le_trans hC b, r⟩
set_option maxHeartbeats 6400000 in
theorem words_any (s : ByteArray) (w : World) (hv : VOk w) (hN : gMax < w.heap.size ∧ gErr < w.heap.size) (hsz : s.size ≤ 9223372036854775806) :
    Calls Tryz.prog 40 #[.string s] w (WordsP w (wordsA s.data.toList)) := by
  have HV := Lib.hid hv
  have HB0 := Lib.hid (Below.refl w.heap.size w)
  clear hv
  by_cases h4 : 4000 < s.size
  · have h4i : (4000 : Int) < (s.size : Int) := by omega
    have HA := Lib.hid (show wordsA s.data.toList = .no eL by unfold wordsA; rw [if_pos (by rw [len_list]; exact h4)])
    clear h4
    go_enter Tryz.func40, Tryz.ntmps40
    go_wp2
    go_ret2
    rw [HA.out]
    exact ⟨rfl, by decide, HB0.out⟩
  · have h4i : (s.size : Int) ≤ 4000 := by omega
    have hs4 : s.size ≤ 4000 := by omega
    have HA := Lib.hid (show wordsA s.data.toList = run (0, [], []) s.data.toList by unfold wordsA; rw [if_neg (by rw [len_list]; exact h4)])
    have H0 := Lib.hid (show WAt s w ((w.alloc (.cells #[.string s, .slice none 0 0, .int .i64 0, .int .i64 0] 177)).iter s 0) 0 from by
      have h2 := al_two w (.cells #[.string s, .slice none 0 0, .int .i64 0, .int .i64 0] 177) (Obj.stringIter s 0)
      exact ⟨(0, [], []), ⟨0, ⟨_, h2.1, World.ownsRow_nil _ _ _ _⟩, Nat.le_refl _, by simp [curOf]⟩, Inv.zero, Nat.zero_le _, by simp, h2.2, bel0 _ (bel0 _ (Below.refl _ _))⟩)
    clear h4
    go_enter Tryz.func40, Tryz.ntmps40
    go_wp2_with fail
    go_loopw [5] (fun _ wr => ∃ pos : Nat, Hid (WAt s w wr pos)) (fun _ wr => s.size - wr.iterPos (w.heap.size + 1))
    case atStart => exact ⟨0, H0⟩
    case round =>
      obtain ⟨pos, HI⟩ := hrel
      clear H0
      obtain ⟨x, hx, hinv, hps, hrun, hit, hbel⟩ := HI.out
      have HX := Lib.hid hx
      have HInv := Lib.hid hinv
      have HRun := Lib.hid hrun
      have HIt := Lib.hid hit
      have HBel := Lib.hid hbel
      have HIp := Lib.hid (show wr.iterPos (w.heap.size + 1) = pos by unfold World.iterPos; rw [hit])
      clear hx hinv hrun hit hbel
      by_cases hp : pos < s.size
      · have hne : s.data.toList.drop pos ≠ [] := fun e => by
          have := congrArg List.length e
          rw [List.length_drop, len_list] at this
          simp at this
          omega
        have hwd := dec_wd _ hne
        have HNe := Lib.hid hne
        have hdl := dec_list s pos
        have hstep := step_any s
        obtain ⟨W2, hW2⟩ : ∃ W2, W2 = wr.iterAt (w.heap.size + 1) s (pos + (decodeL (s.data.toList.drop pos)).2) := ⟨_, rfl⟩
        have hnx : ∀ ty, (Instr.next (.pointer (some ⟨w.heap.size + 1, 0, none⟩)) true ty).run Tryz.prog wr = .ok (.tuple #[.bool true, .int .i64 (pos : Int), .int .i32 ((decodeL (s.data.toList.drop pos)).1 : Int)]) W2 := fun ty => by
          rw [hW2, ← hdl]
          exact Lib.run_next_any_at wr (w.heap.size + 1) s pos ty HIt.out hp
        have hx2 : RAt s W2 w.heap.size pos x := by
          obtain ⟨start, ⟨v, h1⟩, h2, h3⟩ := HX.out
          rw [hW2]
          exact ⟨start, ⟨v, h1.iter HIt.out _⟩, h2, h3⟩
        have hi2 : W2.heap[w.heap.size + 1]? = some (Obj.stringIter s (pos + (decodeL (s.data.toList.drop pos)).2)) := by rw [hW2]; exact Lib.iterAt_heap _ _ _ _ _ HIt.out
        have hb2 : Below w.heap.size w W2 := by rw [hW2]; exact Lib.below_iterAt HBel.out (Nat.le_succ _) _ _
        have HSt := Lib.hid (step_any s W2 w.heap.size pos x hx2 HInv.out hp hs4 (HV.out.below hb2 hN) hN)
        have HI2 := Lib.hid hi2
        have HB2 := Lib.hid hb2
        have hlen : (s.data.toList.drop pos).length = s.size - pos := by rw [List.length_drop, len_list]
        have HRs := Lib.hid ((run_step x (s.data.toList.drop pos) hne).symm.trans HRun.out)
        have HIs := Lib.hid (fun y (hy : stepM x (decodeL (s.data.toList.drop pos)).1 ((s.data.toList.drop pos).take (decodeL (s.data.toList.drop pos)).2) = .ok y) => HInv.out.step hne hy)
        rw [List.drop_drop] at HRs
        generalize hch : (s.data.toList.drop pos).take (decodeL (s.data.toList.drop pos)).2 = ch at *
        generalize hcc : (decodeL (s.data.toList.drop pos)).1 = c at *
        generalize hnn : (decodeL (s.data.toList.drop pos)).2 = n at *
        have hpn : pos + n ≤ s.size := by omega
        have hn1 : 1 ≤ n := hwd.1
        clear hch hcc hnn hne hdl hx2 hi2 hb2 hstep hW2 hwd hlen
        go_wp2_with fail
        refine HSt.out.mono ?_
        rintro e w3 hst
        cases hs : stepM x c ch with
        | no y =>
          rw [hs] at hst
          obtain ⟨rfl, hy, hk⟩ := hst
          have hyb : (y != 0) = true := bne_iff_ne.2 hy
          have HY := Lib.hid hy
          have HF := Lib.hid (show run (0, [], []) s.data.toList = .no y by rw [← HRs.out, hs]; rfl)
          have HB3 := Lib.hid (HB2.out.trans hk.1)
          clear hs hy hk
          go_wp2
          go_ret2
          rw [HA.out, HF.out]
          exact ⟨rfl, HY.out, HB3.out⟩
        | ok y =>
          rw [hs] at hst
          obtain ⟨rfl, hr, hk⟩ := hst
          have HN := Lib.hid (show WAt s w w3 (pos + n) from ⟨y, hr, HIs.out y hs, hpn, by rw [hs] at HRs; exact HRs.out, hk.2 _ _ _ HI2.out, HB2.out.trans hk.1⟩)
          have HIp3 := Lib.hid (show w3.iterPos (w.heap.size + 1) = pos + n by unfold World.iterPos; rw [hk.2 _ _ _ HI2.out])
          clear hs hr hk
          go_wp2
          go_roundw
          case rel => exact ⟨pos + n, HN⟩
          case measure =>
            rw [HIp3.out, HIp.out]
            omega
      · have hnx : ∀ ty, (Instr.next (.pointer (some ⟨w.heap.size + 1, 0, none⟩)) true ty).run Tryz.prog wr = .ok (.tuple #[.bool false]) wr := fun ty => Lib.run_next_end_at wr (w.heap.size + 1) s pos ty HIt.out hp
        have hpe : pos = s.size := by omega
        obtain ⟨start, hst, hsp, hcur⟩ := HX.out
        have HSt := Lib.hid hst
        have HCur := Lib.hid hcur
        have hdr : s.data.toList.drop pos = [] := by rw [hpe]; exact List.drop_of_length_le (by rw [len_list]; exact Nat.le_refl _)
        have HE := Lib.hid (show endM x.1 x.2.1 x.2.2 = run (0, [], []) s.data.toList by rw [← HRun.out, hdr, run_nil])
        have hsz2 : s.size = pos := hpe.symm
        have HEnd := Lib.hid (show Calls Tryz.prog 93 #[.pointer (some ⟨w.heap.size, 0, none⟩), .int .i64 (s.size : Int)] wr (AddP s wr w.heap.size start (endM x.1 x.2.1 x.2.2)) from by
          rw [hcur, hsz2]
          exact end_any s wr w.heap.size x.2.2 x.1 start pos hst HInv.out.md hsp (by omega) hs4 HInv.out.ws (by rw [← hcur]; exact HInv.out.num) (by rw [← hcur]; exact HInv.out.quo) (HV.out.below HBel.out hN) hN)
        clear hst hcur hdr hpe hsz2 hp
        go_wp2_with fail
        refine HEnd.out.mono ?_
        rintro e w3 hp
        cases he : endM x.1 x.2.1 x.2.2 with
        | no y =>
          rw [he] at hp
          obtain ⟨rfl, hk⟩ := hp
          have hy := end_no he
          have hyb : (y != 0) = true := bne_iff_ne.2 hy
          have HY := Lib.hid hy
          have HF := Lib.hid (HE.out.symm.trans he)
          have HB3 := Lib.hid (HBel.out.trans hk.1)
          clear he hy hk
          go_wp2
          go_ret2
          rw [HA.out, HF.out]
          exact ⟨rfl, HY.out, HB3.out⟩
        | ok ws =>
          rw [he] at hp
          obtain ⟨rfl, ⟨v, hs3⟩, hk⟩ := hp
          have HS3 := Lib.hid hs3
          have HF := Lib.hid (HE.out.symm.trans he)
          have HB3 := Lib.hid (HBel.out.trans hk.1)
          obtain ⟨⟨g0, g1, g2, g3⟩, fz⟩ := hs3.facts
          clear he hk hs3
          go_wp2
          go_ret2
          rw [HA.out, HF.out]
          exact ⟨v, rfl, own_lower1 HS3.out.own (Nat.le_succ _), HB3.out⟩
end Go.Proofs.YtpinalpigefenaaGreatDoor
