/- Contracts of the document's eight, padded, Head and Record. -/
import Derived.Test.YtbcjhngpcodaoaaZeros
import Derived.Test.YtbcjhngpcodaoaaRecW
namespace Go.Proofs.Ytbcjhngpcodaoaa
open Go.RowKit
set_option linter.unusedVariables false
set_option maxRecDepth 100000

set_option maxHeartbeats 1600000 in
theorem eight_any (n : Int) (w : World) (h0 : 0 ≤ n) (h1 : n ≤ 18446744073709551615) :
    Calls Try.prog 120 #[.int .u64 n] w (OwnPostG w w.heap.size none (beN n 8)) := by
  have hw1 : IntKind.u32.wrap (n / 4294967296) = n / 4294967296 := by rw [IntKind.wrap_u32]; omega
  have hw2 : IntKind.u32.wrap n = n % 4294967296 := by rw [IntKind.wrap_u32]
  have HJ := Lib.hid (beN_join n)
  go_enter Try.func120, Try.ntmps120
  go_wp2_with fail
  refine (four_own (n / 4294967296) _ (by omega) (by omega)).mono ?_
  rintro e w2 ⟨g2, rfl, hown2, hgrow2⟩
  have HO2 := Lib.hid hown2
  have HG2 := Lib.hid hgrow2
  have hs2 := hgrow2.size
  clear hown2 hgrow2
  go_wp2_with fail
  refine (four_own (n % 4294967296) _ (by omega) (by omega)).mono ?_
  rintro e w3 ⟨g3, rfl, hown3, hgrow3⟩
  have hb3 := grown_belowB hgrow3 (B := w2.heap.size) (by omega) (fun k hk => by cases hk)
  have HO2b := Lib.hid (own_below HO2.out hb3)
  have HG3 := Lib.hid (grown_step HG2.out (.inl rfl) hgrow3)
  have HI3 := Lib.hid (own_isB hown3 (beN_length _ _) (beN_range _ _))
  have hs3 := hgrow3.size
  have HLo := Lib.hid (own_lo HO2.out)
  clear hown3 hgrow3 hb3
  go_wp2_with (at_builtin; refine wpList_slice rfl (.tmp 6) (.tmp 9) rfl w.heap.size (.slice (some ⟨g2, 0, none⟩) 4 4) (beN (n / 4294967296) 4) (some ⟨g3, 0, none⟩) 4 4 (beN (n % 4294967296) 4) rfl rfl ?c1 HI3.out ?c2 ?c3 ?c4 ?_)
  case c1 => rw [beN_length]; exact HO2b.out
  case c2 => intro h; cases h
  case c3 => rw [beN_length]; omega
  case c4 => omega
  intro v4 w4 hown4 hgrow4
  have hown4' : w4.ownsRow w.heap.size 5 1 v4 (beN n 8).length ((beN n 8).map (Value.int .u8)) := by rw [← HJ.out]; simpa using hown4
  have HO4 := Lib.hid hown4'
  have HG4 := Lib.hid (grown_step HG3.out (.inr ⟨g2, rfl, HLo.out⟩) hgrow4)
  clear hown4 hown4' hgrow4
  go_wp2
  go_ret
  exact ⟨_, rfl, HO4.out, HG4.out⟩

set_option maxHeartbeats 1600000 in
theorem padded_any (B g L cap : Nat) (zs : List Int) (n : Nat) (hL : zs.length = L) (h0 : 0 < L) (hn : L < n) (hn1 : n ≤ 1000) (w : World) (hB : B ≤ w.heap.size)
    (hown : w.ownsRow B 5 1 (.slice (some ⟨g, 0, none⟩) L cap) L (zs.map (Value.int .u8))) :
    Calls Try.prog 122 #[.slice (some ⟨g, 0, none⟩) L cap, .int .i64 n] w (OwnPostG w B (some g) (zs ++ noughts (n - L))) := by
  subst hL
  obtain ⟨v', w', hr, h2, h3⟩ := run_zeros_own w B 26 _ zs (n - zs.length) hown h0 (by omega) (by omega) (by omega) hB
  rw [show ((n - zs.length : Nat) : Int) = (n : Int) - (zs.length : Int) by omega] at hr
  have H2 := Lib.hid h2
  have H3 := Lib.hid h3
  have HR := Lib.hid hr
  have hl0 : (zs.length : Int) ≤ 1000 := by omega
  have hl1 : (n : Int) ≤ 1000 := by omega
  clear h2 h3 hr hown
  generalize zs.length = L at *
  go_enter Try.func122, Try.ntmps122
  go_wp2_with (at_builtin; refine Lib.wpList_append_run _ rfl (.tmp 5) (.tmp 9) 26 3 rfl _ _ rfl rfl _ _ HR.out ?_)
  go_wp2
  go_ret
  exact ⟨_, rfl, H2.out, H3.out⟩
end Go.Proofs.Ytbcjhngpcodaoaa
