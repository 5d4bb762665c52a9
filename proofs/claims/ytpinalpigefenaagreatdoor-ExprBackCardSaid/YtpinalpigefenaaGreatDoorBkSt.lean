/- expr.Print's parts: a builder, a literal's text, levels. -/
import Derived.Test.YtpinalpigefenaaGreatDoorProg
import Derived.Test.YtpinalpigefenaaGreatDoorValPure
import Derived.Test.YtpinalpigefenaaGreatDoorAggIn
import Derived.WalkKit
import Derived.WalkLawsBesides
import Derived.WalkSpells
import Derived.Outline
import Derived.BigQuiet
import Derived.Deep.QuietTactic
import Derived.Deep.RegionHeld3
import Derived.LoopTactic
import Derived.Lib.Hide
import Derived.Test.YtpinalpigefenaaGreatDoorLxKey
import Derived.Test.YtpinalpigefenaaGreatDoorBkLen
import Derived.Shelf.Strings.BuilderK
import Derived.Test.YtpinalpigefenaaGreatDoorVRecPure
import Derived.Test.YtpinalpigefenaaGreatDoorTkTest
import Derived.Test.YtpinalpigefenaaGreatDoorLwWords
namespace Go.Proofs.YtpinalpigefenaaGreatDoor
open Go.RowKit
set_option linter.unusedVariables false
set_option linter.unusedSimpArgs false
set_option maxRecDepth 100000

theorem fB0 {k n : Int} {s : ByteArray} (hk : (k == 0) = true) (hn : n = 0) : s.toList.isEmpty = formedB k n s := by
  have := eq_of_beq hk; subst this hn
  unfold formedB; rw [Bool.eq_iff_iff]; simp
theorem fB0n {k n : Int} {s : ByteArray} (hk : (k == 0) = true) (hn : ¬ n = 0) : false = formedB k n s := by
  have := eq_of_beq hk; subst this
  unfold formedB; symm; rw [decide_eq_false_iff_not]; simp [hn]
theorem fB1 {k n : Int} {s : ByteArray} (hk : (k == 1) = true) : s.toList.isEmpty = formedB k n s := by
  have := eq_of_beq hk; subst this
  unfold formedB; rw [Bool.eq_iff_iff]; simp
theorem fB2 {k n : Int} {s : ByteArray} (hk : (k == 2) = true) (hn : n = 0) : decide ((s.size : Int) ≤ 100) = formedB k n s := by
  have := eq_of_beq hk; subst this hn
  unfold formedB; rw [Bool.eq_iff_iff]; simp; omega
theorem fB2n {k n : Int} {s : ByteArray} (hk : (k == 2) = true) (hn : ¬ n = 0) : false = formedB k n s := by
  have := eq_of_beq hk; subst this
  unfold formedB; symm; rw [decide_eq_false_iff_not]; simp [hn]
theorem fBn {k n : Int} {s : ByteArray} (h0 : (k == 0) = false) (h1 : (k == 1) = false) (h2 : (k == 2) = false) : false = formedB k n s := by
  unfold formedB; symm; rw [decide_eq_false_iff_not]
  have a := beq_eq_false_iff_ne.1 h0; have b := beq_eq_false_iff_ne.1 h1; have c := beq_eq_false_iff_ne.1 h2
  simp [a, b, c]

theorem formed_any (k n : Int) (s : ByteArray) (w : World) : Calls Tryz.prog 259 #[.agg #[.int .i64 k, .int .i64 n, .string s]] w fun e w' => e = .returned (.bool (formedB k n s)) ∧ w.alloc (.cells #[.int .i64 k, .int .i64 n, .string s] 23) = w' := by
  go_enter Tryz.func259, Tryz.ntmps259
  go_wp2
  all_goals go_ret
  all_goals first
    | exact ⟨ret_bool (fB0 ‹_› ‹_›), by subst_vars; rfl⟩
    | exact ⟨ret_bool (fB0 ‹_› rfl), rfl⟩
    | exact ⟨ret_bool (fB0n ‹_› ‹_›), rfl⟩
    | exact ⟨ret_bool (fB1 ‹_›), rfl⟩
    | exact ⟨ret_bool (fB2 ‹_› ‹_›), by subst_vars; rfl⟩
    | exact ⟨ret_bool (fB2n ‹_› ‹_›), rfl⟩
    | exact ⟨ret_bool (fBn ‹_› ‹_› ‹_›), rfl⟩

end Go.Proofs.YtpinalpigefenaaGreatDoor
namespace Go.Proofs.YtpinalpigefenaaGreatDoor
open Go.RowKit
set_option linter.unusedVariables false
set_option linter.unusedSimpArgs false
set_option maxRecDepth 100000
theorem decode_w4 (s : ByteArray) (pos : Nat) : (Utf8.decode s pos).2 ≤ 4 := by
  unfold Utf8.decode
  dsimp only
  repeat' split
  all_goals simp
theorem runes_size (s : ByteArray) : ∀ fuel pos, s.size ≤ pos + fuel → s.size ≤ pos + 4 * Lib.runeCountFrom s fuel pos
  | 0, pos, h => by omega
  | f + 1, pos, h => by
    unfold Lib.runeCountFrom
    by_cases hp : pos < s.size
    · rw [if_pos hp]
      have h1 := Lib.decode_width_pos s pos hp
      have h2 := decode_w4 s pos
      have := runes_size s f (pos + (Utf8.decode s pos).2) (by omega)
      omega
    · omega
theorem nmd_size {s : ByteArray} (h : nmdB s = true) : s.size ≤ 64 := by
  unfold nmdB at h
  simp only [Bool.and_eq_true, decide_eq_true_eq] at h
  have := runes_size s s.size 0 (by omega)
  have h2 : Lib.runeCount s = Lib.runeCountFrom s s.size 0 := rfl
  omega
theorem pname_all (w : World) (s : ByteArray) (hs : s.size ≤ maxLen) : Calls Tryz.prog 109 #[.string s] w fun e w' => e = .returned (.bool (nmB s)) ∧ Below w.heap.size w w' :=
  name_any s w (by unfold maxLen at hs; omega)
/-- when an expression is formed -/
def fmdB (e : ET) : Bool := sndB (shD nmB formedB) 8 e
theorem pformed_all (w : World) (Q : Nat → Prop) (v : Value) (e : ET) (hv : EV w Q v e) : Calls Tryz.prog 84 #[v, .int .i64 8] w fun e' w' => e' = .returned (.bool (fmdB e)) ∧ Below w.heap.size w w' := by
  have h := eformed_any (shP nmB formedB) (fun w Q v e h => shaped_any nmB pname_all formedB (fun w a n s => (formed_any a n s w).mono (fun _ _ h => ⟨h.1, by rw [← h.2]; exact bel0 _ (Below.refl _ _)⟩)) w Q v e h) 8 (Nat.le_refl _) w Q v e hv
  rw [sndB_congr (shP_is nmB formedB)] at h
  exact h
set_option maxHeartbeats 1600000 in
theorem pFormed_any (w : World) (Q : Nat → Prop) (v : Value) (e : ET) (hv : EV w Q v e) : Calls Tryz.prog 37 #[v] w fun e' w' => e' = .returned (.bool (fmdB e)) ∧ Below w.heap.size w w' := by
  obtain ⟨sa, sc, rfl, hrg, hel⟩ := hv
  have HV := Lib.hid (show ∀ W, Below w.heap.size w W → Calls Tryz.prog 84 #[.agg #[.int .i64 e.kind, .string e.op, .int .i64 e.vk, .int .i64 e.vn, .string e.vs, .string e.tab, .string e.col, .slice sa e.parts.length sc], .int .i64 8] W fun e' w' => e' = .returned (.bool (fmdB e)) ∧ Below W.heap.size W w' from fun W hW => pformed_all W Q _ e ⟨sa, sc, rfl, hrg, hel.keep hW⟩)
  have HB := Lib.hid (show Below w.heap.size w (w.alloc (.cells #[.int .i64 e.kind, .string e.op, .int .i64 e.vk, .int .i64 e.vn, .string e.vs, .string e.tab, .string e.col, .slice sa e.parts.length sc] 34)) from bel0 _ (Below.refl _ _))
  have e0 : (etX e sa sc).toArray = #[.int .i64 e.kind, .string e.op, .int .i64 e.vk, .int .i64 e.vn, .string e.vs, .string e.tab, .string e.col, .slice sa e.parts.length sc] := rfl
  rw [e0]
  clear hrg hel e0
  go_enter Tryz.func37, Tryz.ntmps37
  go_wp2_with fail
  refine (HV.out _ HB.out).mono ?_
  rintro e' w2 ⟨rfl, hb2⟩
  go_wp2_with fail
  go_ret
  exact ⟨rfl, bt HB.out hb2⟩
end Go.Proofs.YtpinalpigefenaaGreatDoor
set_option linter.unusedVariables false
set_option linter.unusedSimpArgs false
set_option maxRecDepth 100000
namespace Go.Proofs.YtpinalpigefenaaGreatDoor
open Go.RowKit
/-- a builder in block b that holds the bytes l -/
def Bd (B b : Nat) (l : Bs) (w : World) : Prop := Lib.IsBuilderF 95 5 B b (Lib.byteCells l) w ∧ B ≤ w.heap.size
theorem byteCells_app (a b : Bs) : Lib.byteCells (a ++ b) = Lib.byteCells a ++ Lib.byteCells b := List.map_append
theorem byteCells_len (a : Bs) : (Lib.byteCells a).length = a.length := List.length_map _
theorem Bd.below {B b : Nat} {l : Bs} {w w' : World} (h : Bd B b l w) (hb : Below w.heap.size w w') : Bd B b l w' := by
  have key : ∀ p, Lib.BuilderAtF 95 5 B b p (Lib.byteCells l) w → Lib.BuilderAtF 95 5 B b p (Lib.byteCells l) w' := by
    rintro p ⟨hB, v, hk, hown, hne⟩
    refine ⟨hB, v, (hb.block b (Array.getElem?_eq_some_iff.1 hk).1).trans hk, ⟨hown.1, ?_⟩, hne⟩
    rcases hown.2 with h0 | ⟨g, cap, cur, fz, hv, hg1, hg, r⟩
    · exact .inl h0
    · exact .inr ⟨g, cap, cur, fz, hv, hg1, (hb.block g (Array.getElem?_eq_some_iff.1 hg).1).trans hg, r⟩
  exact ⟨h.1.elim (fun h => .inl (key _ h)) (fun h => .inr (key _ h)), Nat.le_trans h.2 hb.size⟩
theorem Bd.drew {B b : Nat} {l : Bs} {w : World} (h : Bd B b l w) : Bd B b l w.drew := h.below (Below.refl _ _).drew
theorem Bd.lt {B b : Nat} {l : Bs} {w : World} (h : Bd B b l w) : b < w.heap.size := by
  rcases h.1 with ⟨-, v, hk, -⟩ | ⟨-, v, hk, -⟩ <;> exact (Array.getElem?_eq_some_iff.1 hk).1
theorem Bd.eq {B b : Nat} {l l' : Bs} {w : World} (h : Bd B b l w) (e : l = l') : Bd B b l' w := e ▸ h
/-- all but the builder and rows of bytes stand as they stood -/
abbrev Kep (b : Nat) (w w' : World) : Prop := Lib.OthersKept 5 (some b) w w'
theorem box_kept {w w' : World} {b N : Nat} {cs : Array Value} {fz : Nat × Nat} (h : Kep b w w') (hx : w.heap[N]? = some (.cells cs 34 fz)) (hN : N ≠ b) : w'.heap[N]? = some (.cells cs 34 fz) :=
  h N _ hx (fun e => hN (Option.some.inj e)) (fun c f e => by
    injection e with _ e2 _
    exact absurd e2 (by decide))
theorem Kep.of_below {b : Nat} {w w' : World} (h : Below w.heap.size w w') : Kep b w w' := fun k o hk _ _ => (h.block k (Array.getElem?_eq_some_iff.1 hk).1).trans hk
/-- what a call that writes leaves -/
def WrP (B b : Nat) (l : Bs) (w : World) (e : Ending) (w' : World) : Prop := e = .returned (.tuple #[]) ∧ Bd B b l w' ∧ Below B w w' ∧ Kep b w w'
theorem wstr_any (B b : Nat) (l : Bs) (s : ByteArray) (w : World) (h : Bd B b l w) (hl : l.length + s.size ≤ 2000000) :
    Calls Tryz.prog 85 #[.pointer (some ⟨b, 0, none⟩), .string s] w fun e w' => e = .returned (.tuple #[.int .i64 s.size, .nilIface]) ∧ Bd B b (l ++ s.data.toList) w' ∧ Below B w w' ∧ Kep b w w' :=
  (Any.Builder_WriteString_k Tryz.lays166 Tryz.Builder_Extra_166 B b (Lib.byteCells l) s w h.1 (by rw [byteCells_len]; omega) h.2).mono (by
    rintro e w' ⟨rfl, h1, h2, h3⟩
    exact ⟨rfl, ⟨.inr (by rw [byteCells_app]; exact h1), Nat.le_trans h.2 h2.size⟩, h2, h3⟩)
theorem bstr_any (B b : Nat) (l : Bs) (w : World) (h : Bd B b l w) :
    Calls Tryz.prog 39 #[.pointer (some ⟨b, 0, none⟩)] w fun e w' => e = .returned (.string ⟨l.toArray⟩) ∧ Below B w w' :=
  (Any.Builder_String_any_k Tryz.lays169 Tryz.Builder_Extra_169 B b l w h.1 h.2).mono (fun _ _ h => ⟨h.1, h.2.2.1⟩)
/-- the table of powers of ten lies as it is laid -/
def PowOk (w : World) : Prop := Lib.TabIs Tryz.prog w "internal/strconv.uint64pow10" .u64 Lib.pow10Tab
def gPow : Nat := 1
theorem powName : Tryz.prog.globalNamed "internal/strconv.uint64pow10" = some gPow := by kernel_rfl
theorem PowOk.lt {w : World} (h : PowOk w) : gPow < w.heap.size := World.block_lt_of_cell? w _ (h.cell powName 0 (by decide))
theorem PowOk.below {w w' : World} {N : Nat} (h : PowOk w) (hb : Below N w w') (hN : gPow < N) : PowOk w' := by
  unfold PowOk Lib.TabIs World.var? at h ⊢
  rw [powName] at h ⊢
  simp only [Option.bind_some] at h ⊢
  rw [hb.block gPow hN]
  exact h
/-- what the variables hold, and that their blocks lie below B -/
structure VB (B : Nat) (w : World) : Prop where
  v : VOk w
  p : PowOk w
  n : gMax < B ∧ gErr < B ∧ gPow < B
theorem VB.below {B : Nat} {w w' : World} (h : VB B w) (hb : Below B w w') : VB B w' := ⟨h.v.below hb ⟨h.n.1, h.n.2.1⟩, h.p.below hb h.n.2.2, h.n⟩
/-- an expression below block B -/
abbrev EB (B : Nat) (w : World) (v : Value) (e : ET) : Prop := EV w (fun b => b < B) v e
theorem EL.lowB {B : Nat} {w w' : World} {a : Option Addr} {l : List ET} (h : EL w (fun b => b < B) a l) (hb : Below B w w') : EL w' (fun b => b < B) a l := h.far hb.size (fun b hq _ => hb.block b hq)
theorem EV.lowB {B : Nat} {w w' : World} {v : Value} {e : ET} (h : EB B w v e) (hb : Below B w w') : EB B w' v e := by
  obtain ⟨sa, sc, h1, h2, h3⟩ := h
  exact ⟨sa, sc, h1, h2, h3.lowB hb⟩
theorem EL.numE {w : World} {Q : Nat → Prop} {a : Option Addr} {l : List ET} (h : EL w Q a l) : ∀ p ∈ l, ∀ n, numE n p := by
  induction h with
  | nil => intro p hp; cases hp
  | row b off l sa sc hq hlt hc hr hs ih =>
    intro p hp n
    obtain ⟨i, hi, rfl⟩ := List.mem_iff_getElem.1 hp
    cases n with
    | zero => trivial
    | succ n =>
      have h1 := (hr i hi).n
      simp only [Lit.wf, Bool.and_eq_true, decide_eq_true_eq] at h1
      exact ⟨h1.2, fun q hq => ih i hi q hq n⟩
theorem EV.numE {w : World} {Q : Nat → Prop} {v : Value} {e : ET} (h : EV w Q v e) (n : Nat) : numE n e := by
  obtain ⟨sa, sc, -, hr, hl⟩ := h
  cases n with
  | zero => trivial
  | succ n =>
    have h1 := hr.n
    simp only [Lit.wf, Bool.and_eq_true, decide_eq_true_eq] at h1
    exact ⟨h1.2, fun q hq => hl.numE q hq n⟩
end Go.Proofs.YtpinalpigefenaaGreatDoor
