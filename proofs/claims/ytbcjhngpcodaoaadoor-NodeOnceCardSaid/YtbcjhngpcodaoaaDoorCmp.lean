/- Contract of bytes.Compare: every two slices of bytes. -/
import Derived.Test.YtbcjhngpcodaoaaDoorBytes
import Derived.Test.YtbcjhngpcodaoaaDoorAftPure
import Derived.Lib.BytesEntry
import Derived.Lib.Bytealg
namespace Go.Proofs.YtbcjhngpcodaoaaDoor
open Go.RowKit
set_option linter.unusedVariables false
set_option maxRecDepth 100000

/-- the library's bytes of a slice -/
theorem run_bytesOf {w : World} {a : Option Addr} {len cap : Nat} {zs : List Int} (h : IsB w a len zs) (hn : a = none → len = 0 ∧ cap = 0) : (Extern.Bytes.bytesOf (.slice a len cap)).run Tryd.prog w = .ok (strOfNums zs) w := by
  have hl := h.1
  cases a with
  | none =>
    obtain ⟨rfl, rfl⟩ := hn rfl
    obtain rfl := List.eq_nil_of_length_eq_zero hl
    rfl
  | some ad =>
    have hr := Lib.run_loadBytesX (P := Tryd.prog) w zs ad .empty (fun j x hj => h.cells ad rfl j _ (by simp [hj]))
    rw [hl] at hr
    show (Extern.Bytes.loadBytes ad len .empty).run Tryd.prog w = _
    rw [hr]
    congr 1
    apply ByteArray.ext
    show (#[] : Array UInt8) ++ (Lib.bytesOf zs).toArray = _
    rw [show (strOfNums zs).data = (Lib.bytesOf zs).toArray from by
      apply Array.ext'
      have := Lib.strOfNums_toList zs
      rw [Lib.toList_data] at this
      simpa using this]
    simp

/-- the order of texts, as the library's comparison has it -/
theorem cmp_less : ∀ (xs ys : List Int), (∀ z ∈ xs, 0 ≤ z ∧ z ≤ 255) → (∀ z ∈ ys, 0 ≤ z ∧ z ≤ 255) → decide (Lib.compareBytes (Lib.bytesOf xs) (Lib.bytesOf ys) < 0) = lessI xs ys
  | [], [], _, _ => rfl
  | [], y :: ys, _, _ => rfl
  | x :: xs, [], _, _ => rfl
  | x :: xs, y :: ys, hx, hy => by
    have ih := cmp_less xs ys (fun z h => hx z (List.mem_cons_of_mem _ h)) (fun z h => hy z (List.mem_cons_of_mem _ h))
    have h1 := hx x (List.mem_cons_self ..)
    have h2 := hy y (List.mem_cons_self ..)
    have e : ∀ a b : Int, 0 ≤ a ∧ a ≤ 255 → 0 ≤ b ∧ b ≤ 255 → ((UInt8.ofNat a.toNat < UInt8.ofNat b.toNat) ↔ a < b) := by
      intro a b ha hb
      rw [UInt8.lt_iff_toNat_lt, UInt8.toNat_ofNat', UInt8.toNat_ofNat', Nat.mod_eq_of_lt (by omega), Nat.mod_eq_of_lt (by omega)]
      omega
    show decide ((if UInt8.ofNat x.toNat < UInt8.ofNat y.toNat then (-1 : Int) else if UInt8.ofNat y.toNat < UInt8.ofNat x.toNat then 1 else Lib.compareBytes (Lib.bytesOf xs) (Lib.bytesOf ys)) < 0) = (if x < y then true else if y < x then false else lessI xs ys)
    by_cases c1 : x < y
    · rw [if_pos ((e x y h1 h2).2 c1), if_pos c1]; rfl
    · rw [if_neg (fun h => c1 ((e x y h1 h2).1 h)), if_neg c1]
      by_cases c2 : y < x
      · rw [if_pos ((e y x h2 h1).2 c2), if_pos c2]; rfl
      · rw [if_neg (fun h => c2 ((e y x h2 h1).1 h)), if_neg c2]; exact ih

theorem run_cmp {w : World} {a b : Option Addr} {la ca lb cb : Nat} {za zb : List Int} (h1 : IsB w a la za) (n1 : a = none → la = 0 ∧ ca = 0) (h2 : IsB w b lb zb) (n2 : b = none → lb = 0 ∧ cb = 0) :
    (Extern.BytealgCompare.compare #[.slice a la ca, .slice b lb cb]).run Tryd.prog w = .ok (.int .i64 (Lib.compareBytes (Lib.bytesOf za) (Lib.bytesOf zb))) w := by
  have r1 := run_bytesOf h1 n1
  have r2 := run_bytesOf h2 n2
  change Sem.run Tryd.prog (do pure (goInt (Extern.BytealgCompare.cmp (← Extern.Bytes.bytesOf (.slice a la ca)) (← Extern.Bytes.bytesOf (.slice b lb cb))))) w = _
  simp only [Sem.run_bind, Sem.run_pure, Result.andThen, r1, r2]
  rw [Lib.cmp_eq, ← Lib.toList_data, ← Lib.toList_data, Lib.strOfNums_toList, Lib.strOfNums_toList]
  rfl

theorem compare_any (a b : Option Addr) (la ca lb cb : Nat) (za zb : List Int) (w : World) (h1 : IsB w a la za) (n1 : a = none → la = 0 ∧ ca = 0) (h2 : IsB w b lb zb) (n2 : b = none → lb = 0 ∧ cb = 0) :
    Calls Tryd.prog 25 #[.slice a la ca, .slice b lb cb] w fun e w' => (∃ r : Int, e = .returned (.int .i64 r) ∧ decide (r < 0) = lessI za zb) ∧ w' = w := by
  have hr := run_cmp h1 n1 h2 n2
  have HL := Lib.hid (cmp_less za zb h1.mem h2.mem)
  generalize Lib.compareBytes (Lib.bytesOf za) (Lib.bytesOf zb) = r at hr HL
  clear h1 n1 h2 n2
  go_enter Tryd.func25, Tryd.ntmps25
  go_wp2
  rw [run_callFunc_extern Tryd.func40 (by kernel_rfl) (by kernel_rfl) (by kernel_rfl) (e := Extern.BytealgCompare.compare) (by kernel_rfl), hr]
  simp only [Result.andThen]
  rw [Oper.upon_value]
  go_wp2
  go_ret
  exact ⟨⟨r, rfl, HL.out⟩, rfl⟩

end Go.Proofs.YtbcjhngpcodaoaaDoor
