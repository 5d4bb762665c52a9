/- The document's word: the word that a text begins with. -/
import Derived.Test.YtplgkblahmndoaaDoorLdSign
import Derived.Test.YtplgkblahmndoaaDoorLdNd
namespace Go.Proofs.YtplgkblahmndoaaDoor
open Go.RowKit Go.Lib
set_option linter.unusedVariables false
set_option maxRecDepth 100000

set_option maxHeartbeats 12800000 in
theorem rword_any (s : ByteArray) (w : World) (h0 : 0 < s.size) (hs : s.size ≤ 4000) : Calls Tryd.prog 14 #[.string s] w (WordR s.data.toList (wordD s.data.toList) w) := by
  have hsi : (s.size : Int) ≤ 4000 := by omega
  have h0i : (0 : Int) < (s.size : Int) := by omega
  have hl0 : 0 < s.data.toList.length := by rw [len_list]; exact h0
  have HB0 := Lib.hid (byte_at s 0 h0)
  have HHead := Lib.hid (show s.data.toList.head? = some (s[0]'h0) from by
    have := drop_get hl0
    rw [List.drop_zero] at this
    conv => lhs; rw [this]
    rw [byte_at s 0 h0]
    rfl)
  have HBx := Lib.hid (Box.make w)
  by_cases hq : s[0]'h0 = 39
  · have hv : (((s[0]'h0).toNat : Nat) : Int) = 39 := by rw [hq]; rfl
    have HO := Lib.hid (show wordD s.data.toList = quoO s.data.toList from by
      unfold wordD
      rw [if_pos (by rw [HHead.out, hq])]
      rfl)
    clear hq
    go_enter Tryd.func14, Tryd.ntmps14
    go_wp2_with fail
    refine (rquoted_any s _ h0 hs).mono ?_
    rintro e w2 ⟨a, b, c, n, ok, rfl, hb2, hr⟩
    have HBx2 := Lib.hid (HBx.out.later hb2)
    have HR := Lib.hid hr
    obtain ⟨⟨c0, c1, c2⟩, fz, hlt⟩ := HBx2.out.facts
    clear hb2 hr
    go_wp2
    obtain ⟨HC, hbf⟩ := HBx2.out.fill (.int .i64 a) (.string b) (.int .i64 c)
    have HBf := Lib.hid hbf
    clear hbf
    generalize ((w2.setCell ⟨w.heap.size, 0, none⟩ (.int .i64 a)).setCell ⟨w.heap.size, 1, none⟩ (.string b)).setCell ⟨w.heap.size, 2, none⟩ (.int .i64 c) = w9 at *
    (try simp only [Exit.inBlock, Exit.then])
    refine bodyPost_ret (results_word rfl _ _ w.heap.size _ _ _ rfl HC) rfl ?_
    exact ⟨a, b, c, n, ok, rfl, HBf.out, by rw [HO.out]; exact HR.out⟩
  · have hv := u8_ne (n := 39) (i := 39) rfl (by decide) hq
    have hnq : ¬ s.data.toList.head? = some 39 := by rw [HHead.out]; intro e; exact hq (Option.some.inj e)
    by_cases hnd : ndL (decodeL s.data.toList).1 = true
    · have e : wordD s.data.toList = ndO s.data.toList := by
        unfold wordD ndO
        rw [if_neg hnq]
        by_cases hl : letL (decodeL s.data.toList).1 = true
        · rw [if_pos hl, if_pos hl]
        · rw [if_neg hl, if_neg hl, if_pos]
          unfold ndL at hnd
          rw [Bool.or_eq_true] at hnd
          rcases hnd with h | h
          · exact absurd h hl
          · exact h
      rw [e]
      exact rword_nd s w h0 hs hq hnd
    · have hnd : ndL (decodeL s.data.toList).1 = false := by simpa using hnd
      have e : wordD s.data.toList = signO s.data.toList := by
        have h2 := hnd
        unfold ndL at h2
        rw [Bool.or_eq_false_iff] at h2
        unfold wordD signO
        rw [if_neg hnq, if_neg (by rw [h2.1]; simp), if_neg (by rw [h2.2]; simp)]
      rw [e]
      exact rword_sign s w h0 hs hq hnd HHead.out
end Go.Proofs.YtplgkblahmndoaaDoor
