/- A call on both disks: they answer alike; and both looked at. (Written by gendpdo.py.) -/
import Derived.Test.YtafhgilikcablaaDpQ
import Derived.Test.YtafhgilikcablaaOps
import Derived.Deep.QuietTactic
import Derived.BigQuiet
namespace Go.Proofs.Ytafhgilikcablaa
open Go.RowKit Go.Maps
set_option linter.unusedVariables false
set_option maxRecDepth 100000

/-- both disks: the program's in state a, the document's in state b; the blocks of G are neither's -/
def Mix (W0 w : World) (D B E C : Nat) (G : Nat → Prop) (a b : DA) : Prop :=
  W0.heap.size ≤ D ∧ W0.heap.size ≤ E ∧ Below W0.heap.size W0 w ∧ (∀ i, G i → i < w.heap.size) ∧ ∃ v0 s0 m0 v1 s1 m1 i0 k0 M0 i1 k1 M1, PC w D B v0 s0 m0 v1 s1 m1 a ∧ RC w E C i0 k0 M0 i1 k1 M1 b ∧
    (∀ i, pS D v0 s0 m0 v1 s1 m1 i → ¬ rS E i0 k0 M0 i1 k1 M1 i) ∧ (∀ i, pS D v0 s0 m0 v1 s1 m1 i → ¬ G i) ∧ (∀ i, rS E i0 k0 M0 i1 k1 M1 i → ¬ G i)
theorem Mix.below {W0 w w' : World} {D B E C : Nat} {G : Nat → Prop} {a b : DA} (h : Mix W0 w D B E C G a b) (hb : Below w.heap.size w w') : Mix W0 w' D B E C G a b := by
  obtain ⟨h1, h2, h3, h4, v0, s0, m0, v1, s1, m1, i0, k0, M0, i1, k1, M1, hp, hr, hd, hg1, hg2⟩ := h
  exact ⟨h1, h2, h3.trans ⟨hb.os, hb.tape, hb.output, hb.size, fun i hi => hb.block i (Nat.lt_of_lt_of_le hi h3.size)⟩, fun i hi => Nat.lt_of_lt_of_le (h4 i hi) hb.size, _, _, _, _, _, _, _, _, _, _, _, _, hp.below hb, hr.below hb, hd, hg1, hg2⟩
theorem Mix.drew {W0 w : World} {D B E C : Nat} {G : Nat → Prop} {a b : DA} (h : Mix W0 w D B E C G a b) (n : Nat) : Mix W0 (w.drewN n) D B E C G a b := h.below ⟨rfl, rfl, rfl, Nat.le_refl _, fun _ _ => rfl⟩
theorem Mix.drew1 {W0 w : World} {D B E C : Nat} {G : Nat → Prop} {a b : DA} (h : Mix W0 w D B E C G a b) : Mix W0 w.drew D B E C G a b := h.below ⟨rfl, rfl, rfl, Nat.le_refl _, fun _ _ => rfl⟩
theorem Mix.less {W0 w : World} {D B E C : Nat} {G : Nat → Prop} {a b : DA} (h : Mix W0 w D B E C G a b) : Mix W0 w D B E C (fun _ => False) a b := by
  obtain ⟨h1, h2, h3, h4, v0, s0, m0, v1, s1, m1, i0, k0, M0, i1, k1, M1, hp, hr, hd, hg1, hg2⟩ := h
  exact ⟨h1, h2, h3, fun i hi => hi.elim, _, _, _, _, _, _, _, _, _, _, _, _, hp, hr, hd, fun _ _ => id, fun _ _ => id⟩
/-- a block of its own is laid beside them -/
theorem Mix.box {W0 w : World} {D B E C : Nat} {a b : DA} (h : Mix W0 w D B E C (fun _ => False) a b) (o : Obj) : Mix W0 (w.alloc o) D B E C (fun i => i = w.heap.size) a b := by
  have h' := h.below (below_only (only_alloc (fun _ => False) w o))
  obtain ⟨h1, h2, h3, h4, v0, s0, m0, v1, s1, m1, i0, k0, M0, i1, k1, M1, hp, hr, hd, hg1, hg2⟩ := h
  obtain ⟨_, _, g3, _, _⟩ := h'
  have hb : Below w.heap.size w (w.alloc o) := below_only (only_alloc (fun _ => False) w o)
  refine ⟨h1, h2, g3, fun i hi => by subst hi; simp, v0, s0, m0, v1, s1, m1, i0, k0, M0, i1, k1, M1, hp.below hb, hr.below hb, hd, fun i hi e => ?_, fun i hi e => ?_⟩
  · have := (hp.bound hi).2; omega
  · have := (hr.bound hi).2; omega
/-- what a call leaves: nothing of G is touched -/
def MPost (W0 w : World) (D B E C : Nat) (G : Nat → Prop) (a b : DA) (w' : World) : Prop := Mix W0 w' D B E C G a b ∧ Only (fun i => ¬ G i) w w'
theorem mix_p {W0 w w' : World} {D B E C : Nat} {G : Nat → Prop} {a a' b : DA} {v0 s0 m0 v1 s1 m1 i0 k0 : Value} {M0 : Nat} {i1 k1 : Value} {M1 : Nat} (h1 : W0.heap.size ≤ D) (h2 : W0.heap.size ≤ E) (h3 : Below W0.heap.size W0 w) (h4 : ∀ i, G i → i < w.heap.size) (hp : PC w D B v0 s0 m0 v1 s1 m1 a) (hr : RC w E C i0 k0 M0 i1 k1 M1 b)
    (hd : ∀ i, pS D v0 s0 m0 v1 s1 m1 i → ¬ rS E i0 k0 M0 i1 k1 M1 i) (hg1 : ∀ i, pS D v0 s0 m0 v1 s1 m1 i → ¬ G i) (hg2 : ∀ i, rS E i0 k0 M0 i1 k1 M1 i → ¬ G i) (q : PPost w D B v0 s0 m0 v1 s1 m1 a' w') : MPost W0 w D B E C G a' b w' := by
  obtain ⟨u0, t0, n0, u1, t1, n1, q1, q2, q3⟩ := q
  refine ⟨⟨h1, h2, ⟨q3.os.trans h3.os, q3.tape.trans h3.tape, q3.output.trans h3.output, Nat.le_trans h3.size q3.size, fun i hi => (q3.block i (Nat.lt_of_lt_of_le hi h3.size) (fun hS => ?_)).trans (h3.block i hi)⟩, fun i hi => Nat.lt_of_lt_of_le (h4 i hi) q3.size, u0, t0, n0, u1, t1, n1, i0, k0, M0, i1, k1, M1, q1, hr.only q3 (fun i hi hS => hd i hS hi), fun i hi hS => ?_, fun i hi hG => ?_, hg2⟩, q3.mono (fun i hi => hg1 i hi)⟩
  · have := (hp.bound hS).1; omega
  · rcases q2 i hi with e | e
    · exact hd i e hS
    · have := (hr.bound hS).2; omega
  · rcases q2 i hi with e | e
    · exact hg1 i e hG
    · have := h4 i hG; omega
theorem mix_r {W0 w w' : World} {D B E C : Nat} {G : Nat → Prop} {a b b' : DA} {v0 s0 m0 v1 s1 m1 i0 k0 : Value} {M0 : Nat} {i1 k1 : Value} {M1 : Nat} (h1 : W0.heap.size ≤ D) (h2 : W0.heap.size ≤ E) (h3 : Below W0.heap.size W0 w) (h4 : ∀ i, G i → i < w.heap.size) (hp : PC w D B v0 s0 m0 v1 s1 m1 a) (hr : RC w E C i0 k0 M0 i1 k1 M1 b)
    (hd : ∀ i, pS D v0 s0 m0 v1 s1 m1 i → ¬ rS E i0 k0 M0 i1 k1 M1 i) (hg1 : ∀ i, pS D v0 s0 m0 v1 s1 m1 i → ¬ G i) (hg2 : ∀ i, rS E i0 k0 M0 i1 k1 M1 i → ¬ G i) (q : DPost w E C i0 k0 M0 i1 k1 M1 b' w') : MPost W0 w D B E C G a b' w' := by
  obtain ⟨u0, t0, n0, u1, t1, n1, q1, q2, q3⟩ := q
  refine ⟨⟨h1, h2, ⟨q3.os.trans h3.os, q3.tape.trans h3.tape, q3.output.trans h3.output, Nat.le_trans h3.size q3.size, fun i hi => (q3.block i (Nat.lt_of_lt_of_le hi h3.size) (fun hS => ?_)).trans (h3.block i hi)⟩, fun i hi => Nat.lt_of_lt_of_le (h4 i hi) q3.size, v0, s0, m0, v1, s1, m1, u0, t0, n0, u1, t1, n1, hp.only q3 (fun i hi hS => hd i hi hS), q1, fun i hi hS => ?_, hg1, fun i hi hG => ?_⟩, q3.mono (fun i hi => hg2 i hi)⟩
  · have := (hr.bound hS).1; omega
  · rcases q2 i hS with e | e
    · exact hd i hi e
    · have := (hp.bound hi).2; omega
  · rcases q2 i hi with e | e
    · exact hg2 i e hG
    · have := h4 i hG; omega
section
variable {W0 w : World} {D B E C : Nat} {G : Nat → Prop} {a b : DA}
theorem mp_write (h : Mix W0 w D B E C G a b) (hW : a.Wf) (hf : a.few 1000000) (f p : Int) (ba : Option Addr) (bl bc : Nat) (bz : List Int) (hb : IsB W0 ba bl bz) (hbn : ba = none → bl = 0 ∧ bc = 0) (hble : bl ≤ bc) (hb5 : bl ≤ 25000) :
    Calls Try.prog 39 #[.pointer (some ⟨D, 0, none⟩), .int .i64 f, .int .i64 p, .slice ba bl bc] w fun e w' => e = .returned (.int .i64 (a.write f p bz).1) ∧ MPost W0 w D B E C G (a.write f p bz).2 b w' := by
  obtain ⟨h1, h2, h3, h4, v0, s0, m0, v1, s1, m1, i0, k0, M0, i1, k1, M1, hp, hr, hd, hg1, hg2⟩ := h
  refine (pw_any w D B v0 s0 m0 v1 s1 m1 a f p ba bl bc bz hp hW hf (isB_keep hb (Only.below h3) (isB_low hb) (fun _ _ _ => id)) hbn hble hb5 (fun x q1 q2 hS => ?_)).mono ?_
  · have := isB_low hb x q1 q2
    have := (hp.bound hS).1
    omega
  · rintro e w' ⟨rfl, q⟩
    exact ⟨rfl, mix_p h1 h2 h3 h4 hp hr hd hg1 hg2 q⟩
theorem mr_write (h : Mix W0 w D B E C G a b) (hW : b.Wf) (hf : b.few 1000000) (f p : Int) (ba : Option Addr) (bl bc : Nat) (bz : List Int) (hb : IsB W0 ba bl bz) (hbn : ba = none → bl = 0 ∧ bc = 0) (hble : bl ≤ bc) (hb5 : bl ≤ 25000) :
    Calls Try.prog 42 #[.pointer (some ⟨E, 0, none⟩), .int .i64 f, .int .i64 p, .slice ba bl bc] w fun e w' => e = .returned (.int .i64 (b.write f p bz).1) ∧ MPost W0 w D B E C G a (b.write f p bz).2 w' := by
  obtain ⟨h1, h2, h3, h4, v0, s0, m0, v1, s1, m1, i0, k0, M0, i1, k1, M1, hp, hr, hd, hg1, hg2⟩ := h
  refine (rwrite_any w E C i0 k0 M0 i1 k1 M1 b f p ba bl bc bz hr hW hf (isB_keep hb (Only.below h3) (isB_low hb) (fun _ _ _ => id)) hbn hble hb5 (fun x q1 q2 hS => ?_)).mono ?_
  · have := isB_low hb x q1 q2
    have := (hr.bound hS).1
    omega
  · rintro e w' ⟨rfl, q⟩
    exact ⟨rfl, mix_r h1 h2 h3 h4 hp hr hd hg1 hg2 q⟩
theorem mp_sync (h : Mix W0 w D B E C G a b) (hW : a.Wf) (hf : a.few 1000000) (f : Int) : Calls Try.prog 43 #[.pointer (some ⟨D, 0, none⟩), .int .i64 f] w fun e w' => e = .returned (.int .i64 (a.sync f).1) ∧ MPost W0 w D B E C G (a.sync f).2 b w' := by
  obtain ⟨h1, h2, h3, h4, v0, s0, m0, v1, s1, m1, i0, k0, M0, i1, k1, M1, hp, hr, hd, hg1, hg2⟩ := h
  refine (psync_any w D B v0 s0 m0 v1 s1 m1 a f hp hW hf).mono ?_
  rintro e w' ⟨rfl, q⟩
  exact ⟨rfl, mix_p h1 h2 h3 h4 hp hr hd hg1 hg2 q⟩
theorem mr_sync (h : Mix W0 w D B E C G a b) (hW : b.Wf) (hf : b.few 1000000) (f : Int) : Calls Try.prog 44 #[.pointer (some ⟨E, 0, none⟩), .int .i64 f] w fun e w' => e = .returned (.int .i64 (b.sync f).1) ∧ MPost W0 w D B E C G a (b.sync f).2 w' := by
  obtain ⟨h1, h2, h3, h4, v0, s0, m0, v1, s1, m1, i0, k0, M0, i1, k1, M1, hp, hr, hd, hg1, hg2⟩ := h
  refine (rsync_any w E C i0 k0 M0 i1 k1 M1 b f hr hW hf).mono ?_
  rintro e w' ⟨rfl, q⟩
  exact ⟨rfl, mix_r h1 h2 h3 h4 hp hr hd hg1 hg2 q⟩
theorem mp_cut (h : Mix W0 w D B E C G a b) (hW : a.Wf) (hf : a.few 1000000) (f p : Int) : Calls Try.prog 45 #[.pointer (some ⟨D, 0, none⟩), .int .i64 f, .int .i64 p] w fun e w' => e = .returned (.int .i64 (a.cut f p).1) ∧ MPost W0 w D B E C G (a.cut f p).2 b w' := by
  obtain ⟨h1, h2, h3, h4, v0, s0, m0, v1, s1, m1, i0, k0, M0, i1, k1, M1, hp, hr, hd, hg1, hg2⟩ := h
  refine (pcut_any w D B v0 s0 m0 v1 s1 m1 a f p hp hW hf).mono ?_
  rintro e w' ⟨rfl, q⟩
  exact ⟨rfl, mix_p h1 h2 h3 h4 hp hr hd hg1 hg2 q⟩
theorem mr_cut (h : Mix W0 w D B E C G a b) (hW : b.Wf) (hf : b.few 1000000) (f p : Int) : Calls Try.prog 46 #[.pointer (some ⟨E, 0, none⟩), .int .i64 f, .int .i64 p] w fun e w' => e = .returned (.int .i64 (b.cut f p).1) ∧ MPost W0 w D B E C G a (b.cut f p).2 w' := by
  obtain ⟨h1, h2, h3, h4, v0, s0, m0, v1, s1, m1, i0, k0, M0, i1, k1, M1, hp, hr, hd, hg1, hg2⟩ := h
  refine (rcut_any w E C i0 k0 M0 i1 k1 M1 b f p hr hW hf).mono ?_
  rintro e w' ⟨rfl, q⟩
  exact ⟨rfl, mix_r h1 h2 h3 h4 hp hr hd hg1 hg2 q⟩
theorem mp_fuse (h : Mix W0 w D B E C G a b) (n : Int) : Calls Try.prog 47 #[.pointer (some ⟨D, 0, none⟩), .int .i64 n] w fun e w' => e = .returned (.tuple #[]) ∧ MPost W0 w D B E C G (a.setFuse n) b w' := by
  obtain ⟨h1, h2, h3, h4, v0, s0, m0, v1, s1, m1, i0, k0, M0, i1, k1, M1, hp, hr, hd, hg1, hg2⟩ := h
  refine (pfuse_any w D B v0 s0 m0 v1 s1 m1 a n hp).mono ?_
  rintro e w' ⟨rfl, q⟩
  exact ⟨rfl, mix_p h1 h2 h3 h4 hp hr hd hg1 hg2 q⟩
theorem mp_room (h : Mix W0 w D B E C G a b) (n : Int) : Calls Try.prog 48 #[.pointer (some ⟨D, 0, none⟩), .int .i64 n] w fun e w' => e = .returned (.tuple #[]) ∧ MPost W0 w D B E C G (a.setRoom n) b w' := by
  obtain ⟨h1, h2, h3, h4, v0, s0, m0, v1, s1, m1, i0, k0, M0, i1, k1, M1, hp, hr, hd, hg1, hg2⟩ := h
  refine (proom_any w D B v0 s0 m0 v1 s1 m1 a n hp).mono ?_
  rintro e w' ⟨rfl, q⟩
  exact ⟨rfl, mix_p h1 h2 h3 h4 hp hr hd hg1 hg2 q⟩
theorem mp_crash (h : Mix W0 w D B E C G a b) (hW : a.Wf) (hf : a.few 1000000) (ka : Option Addr) (kl kc : Nat) (kz : List Int) (hK : IsK W0 ka kl kz) (hkl : kl ≤ 200) : Calls Try.prog 49 #[.pointer (some ⟨D, 0, none⟩), .slice ka kl kc] w fun e w' => e = .returned (.tuple #[]) ∧ MPost W0 w D B E C G (a.crash kz) b w' := by
  obtain ⟨h1, h2, h3, h4, v0, s0, m0, v1, s1, m1, i0, k0, M0, i1, k1, M1, hp, hr, hd, hg1, hg2⟩ := h
  refine (pcr_any W0 w D B v0 s0 m0 v1 s1 m1 a ka kl kc kz hp hW hf hK h3 h1 hkl).mono ?_
  rintro e w' ⟨rfl, q⟩
  exact ⟨rfl, mix_p h1 h2 h3 h4 hp hr hd hg1 hg2 q⟩
theorem mr_crash (h : Mix W0 w D B E C G a b) (hW : b.Wf) (hf : b.few 1000000) (ka : Option Addr) (kl kc : Nat) (kz : List Int) (hK : IsK W0 ka kl kz) (hkl : kl ≤ 200) : Calls Try.prog 50 #[.pointer (some ⟨E, 0, none⟩), .slice ka kl kc] w fun e w' => e = .returned (.tuple #[]) ∧ MPost W0 w D B E C G a (b.crash kz) w' := by
  obtain ⟨h1, h2, h3, h4, v0, s0, m0, v1, s1, m1, i0, k0, M0, i1, k1, M1, hp, hr, hd, hg1, hg2⟩ := h
  refine (rcrash_any W0 w E C i0 k0 M0 i1 k1 M1 b ka kl kc kz hr hW hf hK h3 h2 hkl).mono ?_
  rintro e w' ⟨rfl, q⟩
  exact ⟨rfl, mix_r h1 h2 h3 h4 hp hr hd hg1 hg2 q⟩
theorem mp_read (h : Mix W0 w D B E C G a b) (hW : a.Wf) (hf : a.few 1000000) (f p n : Int) : Calls Try.prog 51 #[.pointer (some ⟨D, 0, none⟩), .int .i64 f, .int .i64 p, .int .i64 n] w (RdPost w (a.read f p n)) := by
  obtain ⟨h1, h2, h3, h4, v0, s0, m0, v1, s1, m1, i0, k0, M0, i1, k1, M1, hp, hr, hd, hg1, hg2⟩ := h
  exact pread_any w D B v0 s0 m0 v1 s1 m1 a f p n hp hW hf
theorem mr_read (h : Mix W0 w D B E C G a b) (hW : b.Wf) (hf : b.few 1000000) (f p n : Int) : Calls Try.prog 52 #[.pointer (some ⟨E, 0, none⟩), .int .i64 f, .int .i64 p, .int .i64 n] w (RdPost w (b.read f p n)) := by
  obtain ⟨h1, h2, h3, h4, v0, s0, m0, v1, s1, m1, i0, k0, M0, i1, k1, M1, hp, hr, hd, hg1, hg2⟩ := h
  exact rread_any w E C i0 k0 M0 i1 k1 M1 b f p n hr hW hf
theorem mp_size (h : Mix W0 w D B E C G a b) (f : Int) : Calls Try.prog 40 #[.pointer (some ⟨D, 0, none⟩), .int .i64 f] w fun e w' => e = .returned (.int .i64 (a.size f)) ∧ w' = w := by
  obtain ⟨h1, h2, h3, h4, v0, s0, m0, v1, s1, m1, i0, k0, M0, i1, k1, M1, hp, hr, hd, hg1, hg2⟩ := h
  exact psize_any w D B v0 s0 m0 v1 s1 m1 a f hp
theorem mr_size (h : Mix W0 w D B E C G a b) (hW : b.Wf) (f : Int) : Calls Try.prog 53 #[.pointer (some ⟨E, 0, none⟩), .int .i64 f] w fun e w' => e = .returned (.int .i64 (b.size f)) ∧ w' = w := by
  obtain ⟨h1, h2, h3, h4, v0, s0, m0, v1, s1, m1, i0, k0, M0, i1, k1, M1, hp, hr, hd, hg1, hg2⟩ := h
  exact rsize_any w E C i0 k0 M0 i1 k1 M1 b f hr hW
theorem mp_left (h : Mix W0 w D B E C G a b) (hW : a.Wf) (hf : a.few 1000000) : Calls Try.prog 41 #[.pointer (some ⟨D, 0, none⟩)] w fun e w' => e = .returned (.int .i64 a.leftN) ∧ ∃ n, w' = w.drewN n := by
  obtain ⟨h1, h2, h3, h4, v0, s0, m0, v1, s1, m1, i0, k0, M0, i1, k1, M1, hp, hr, hd, hg1, hg2⟩ := h
  exact pleft_any w D B v0 s0 m0 v1 s1 m1 a hp hW hf
theorem mr_left (h : Mix W0 w D B E C G a b) (hW : b.Wf) (hf : b.few 1000000) : Calls Try.prog 54 #[.pointer (some ⟨E, 0, none⟩)] w fun e w' => e = .returned (.int .i64 b.leftN) ∧ w' = w := by
  obtain ⟨h1, h2, h3, h4, v0, s0, m0, v1, s1, m1, i0, k0, M0, i1, k1, M1, hp, hr, hd, hg1, hg2⟩ := h
  exact rleft_any w E C i0 k0 M0 i1 k1 M1 b hr hW hf
theorem mp_down (h : Mix W0 w D B E C G a b) : Calls Try.prog 55 #[.pointer (some ⟨D, 0, none⟩)] w fun e w' => e = .returned (.bool a.down) ∧ w' = w := by
  obtain ⟨h1, h2, h3, h4, v0, s0, m0, v1, s1, m1, i0, k0, M0, i1, k1, M1, hp, hr, hd, hg1, hg2⟩ := h
  exact pdown_any w D B v0 s0 m0 v1 s1 m1 a hp
theorem DA.secs2 {a : DA} (hW : a.Wf) (hf : a.few 1000000) : SecK a.f0.L ∧ SecK a.f1.L := ⟨hW.w0.secK hf.1 (Nat.le_refl _), hW.w1.secK hf.2.2.1 (Nat.le_refl _)⟩
theorem mp_uns (h : Mix W0 w D B E C G a b) (hW : a.Wf) (hf : a.few 1000000) : Calls Try.prog 56 #[.pointer (some ⟨D, 0, none⟩)] w fun e w' => e = .returned (.int .i64 ((nKeys a.f0.L : Int) + (nKeys a.f1.L : Int))) ∧ ∃ n, w' = w.drewN n := by
  obtain ⟨h1, h2, h3, h4, v0, s0, m0, v1, s1, m1, i0, k0, M0, i1, k1, M1, hp, hr, hd, hg1, hg2⟩ := h
  exact puns_any w D B v0 s0 m0 v1 s1 m1 a hp (DA.secs2 hW hf).1 (DA.secs2 hW hf).2 hf
theorem mr_uns (h : Mix W0 w D B E C G a b) (hW : b.Wf) (hf : b.few 1000000) : Calls Try.prog 57 #[.pointer (some ⟨E, 0, none⟩)] w fun e w' => e = .returned (.int .i64 ((nKeys b.f0.L : Int) + (nKeys b.f1.L : Int))) ∧ ∃ n, w' = w.drewN n := by
  obtain ⟨h1, h2, h3, h4, v0, s0, m0, v1, s1, m1, i0, k0, M0, i1, k1, M1, hp, hr, hd, hg1, hg2⟩ := h
  exact runs_any w E C i0 k0 M0 i1 k1 M1 b hr (DA.secs2 hW hf).1 (DA.secs2 hW hf).2 hf
theorem mr_down (h : Mix W0 w D B E C G a b) : w.cell? ⟨E, 8, none⟩ = some (.bool b.down) := by
  obtain ⟨h1, h2, h3, h4, v0, s0, m0, v1, s1, m1, i0, k0, M0, i1, k1, M1, hp, hr, hd, hg1, hg2⟩ := h
  exact hr.d8
end
/-- the fuse is set, the room is set: by the law itself -/
theorem mr_fuse {W0 w : World} {D B E C : Nat} {G : Nat → Prop} {a b : DA} (h : Mix W0 w D B E C G a b) (n : Int) : (∃ z, w.cell? ⟨E, 7, none⟩ = some z) ∧ w.frozen? ⟨E, 7, none⟩ = false ∧ E < w.heap.size ∧ MPost W0 w D B E C G a (b.setFuse n) (w.setCell ⟨E, 7, none⟩ (.int .i64 (max n (-1)))) := by
  obtain ⟨h1, h2, h3, h4, v0, s0, m0, v1, s1, m1, i0, k0, M0, i1, k1, M1, hp, hr, hd, hg1, hg2⟩ := h
  have hfu : (b.setFuse n).fuse = max n (-1) := by
    show (if decide (0 ≤ n) = true then n else -1) = _
    by_cases hn : 0 ≤ n
    · rw [if_pos (decide_eq_true hn)]; omega
    · rw [if_neg (by simp [hn])]; omega
  have hx := Go.heap_setCell_same w E 7 _ _ (.int .i64 (max n (-1))) hr.box
  have k : Only (fun i => i = E) w (w.setCell ⟨E, 7, none⟩ (.int .i64 (max n (-1)))) := (Only.refl _ w).set (S := fun i => i = E) rfl _
  refine ⟨⟨_, hr.d7⟩, frozen_of_row w E 7 _ _ hr.box, (Array.getElem?_eq_some_iff.1 hr.box).1, mix_r h1 h2 h3 h4 hp hr hd hg1 hg2 ((hr.scal (a' := b.setFuse n) rfl rfl ?_ k).same (a := b) k)⟩
  rw [hx, ← hfu]
  rfl
theorem mr_room {W0 w : World} {D B E C : Nat} {G : Nat → Prop} {a b : DA} (h : Mix W0 w D B E C G a b) (n : Int) : (∃ z, w.cell? ⟨E, 6, none⟩ = some z) ∧ w.frozen? ⟨E, 6, none⟩ = false ∧ E < w.heap.size ∧ MPost W0 w D B E C G a (b.setRoom n) (w.setCell ⟨E, 6, none⟩ (.int .i64 (max n 0))) := by
  obtain ⟨h1, h2, h3, h4, v0, s0, m0, v1, s1, m1, i0, k0, M0, i1, k1, M1, hp, hr, hd, hg1, hg2⟩ := h
  have hx := Go.heap_setCell_same w E 6 _ _ (.int .i64 (max n 0)) hr.box
  have k : Only (fun i => i = E) w (w.setCell ⟨E, 6, none⟩ (.int .i64 (max n 0))) := (Only.refl _ w).set (S := fun i => i = E) rfl _
  exact ⟨⟨_, hr.d6⟩, frozen_of_row w E 6 _ _ hr.box, (Array.getElem?_eq_some_iff.1 hr.box).1, mix_r h1 h2 h3 h4 hp hr hd hg1 hg2 ((hr.scal (a' := b.setRoom n) rfl rfl hx k).same (a := b) k)⟩
end Go.Proofs.Ytafhgilikcablaa
namespace Go.Proofs.Ytafhgilikcablaa
open Go.RowKit Go.Maps
set_option linter.unusedVariables false
set_option maxRecDepth 100000

/-- a call in a box of its own -/
def Bx (g : Nat) (y : OpD) (W : World) : Prop := W.heap[g]? = some (.cells #[.int .i64 y.kind, .int .i64 y.file, .int .i64 y.pos, .int .i64 y.num, .slice y.ba y.bl y.bc, .slice y.ka y.kl y.kc] 33 (0, 0))
theorem Bx.keep {g : Nat} {y : OpD} {w w' : World} (h : Bx g y w) (k : Only (fun i => ¬ i = g) w w') : Bx g y w' := (k.block g (Array.getElem?_eq_some_iff.1 h).1 (fun h => h rfl)).trans h
def Bc (g : Nat) (y : OpD) (W : World) : Prop := W.cell? ⟨g, 1, none⟩ = some (.int .i64 y.file) ∧ W.cell? ⟨g, 2, none⟩ = some (.int .i64 y.pos) ∧ W.cell? ⟨g, 4, none⟩ = some (.slice y.ba y.bl y.bc)
theorem Bx.c0 {g : Nat} {y : OpD} {W : World} (h : Bx g y W) : W.cell? ⟨g, 0, none⟩ = some (.int .i64 y.kind) := cell_of_row W g 0 _ _ _ h
theorem Bx.c1 {g : Nat} {y : OpD} {W : World} (h : Bx g y W) : W.cell? ⟨g, 1, none⟩ = some (.int .i64 y.file) := cell_of_row W g 1 _ _ _ h
theorem Bx.c2 {g : Nat} {y : OpD} {W : World} (h : Bx g y W) : W.cell? ⟨g, 2, none⟩ = some (.int .i64 y.pos) := cell_of_row W g 2 _ _ _ h
theorem Bx.c3 {g : Nat} {y : OpD} {W : World} (h : Bx g y W) : W.cell? ⟨g, 3, none⟩ = some (.int .i64 y.num) := cell_of_row W g 3 _ _ _ h
theorem Bx.c4 {g : Nat} {y : OpD} {W : World} (h : Bx g y W) : W.cell? ⟨g, 4, none⟩ = some (.slice y.ba y.bl y.bc) := cell_of_row W g 4 _ _ _ h
theorem Bx.c5 {g : Nat} {y : OpD} {W : World} (h : Bx g y W) : W.cell? ⟨g, 5, none⟩ = some (.slice y.ka y.kl y.kc) := cell_of_row W g 5 _ _ _ h
theorem Bx.bc {g : Nat} {y : OpD} {W : World} (h : Bx g y W) : W.cell? ⟨g, 1, none⟩ = some (.int .i64 y.file) ∧ W.cell? ⟨g, 2, none⟩ = some (.int .i64 y.pos) ∧ W.cell? ⟨g, 4, none⟩ = some (.slice y.ba y.bl y.bc) := ⟨h.c1, h.c2, h.c4⟩
/-- what a call does -/
noncomputable def dstep (a : DA) (y : OpD) : DA :=
  if y.kind = 1 then (a.write y.file y.pos (y.bz.take y.bl)).2 else if y.kind = 2 then (a.sync y.file).2 else if y.kind = 3 then (a.cut y.file y.pos).2 else if y.kind = 4 then a.setFuse y.pos else if y.kind = 5 then a.setRoom y.pos else if y.kind = 6 then a.crash (y.kz.take y.kl) else a
/-- a call that came in -/
structure OpIn (W0 : World) (y : OpD) : Prop where
  bs : IsRow .u8 W0 y.ba y.bl y.bc y.bz
  ks : IsRow .i64 W0 y.ka y.kl y.kc y.kz
  bl : y.bl ≤ 20000
  kl : y.kl ≤ 200
  pos : y.pos ≤ 9223372036854775807
theorem dstep_wf {W0 : World} {a : DA} {y : OpD} (h : a.Wf) (hy : OpIn W0 y) : (dstep a y).Wf := by
  unfold dstep
  split
  · exact h.write _ _ (fun z hz => hy.bs.isB.mem z hz)
  split
  · exact h.sync _
  split
  · exact h.cut _ _
  split
  · exact h.setFuse hy.pos
  split
  · exact h.setRoom hy.pos
  split
  · exact h.crash _
  · exact h
theorem few_mono {a : DA} {n m : Nat} (h : a.few n) (hm : n ≤ m) : a.few m := ⟨Nat.le_trans h.1 hm, Nat.le_trans h.2.1 hm, Nat.le_trans h.2.2.1 hm, Nat.le_trans h.2.2.2 hm⟩
theorem dstep_few {W0 : World} {a : DA} {y : OpD} {n : Nat} (h : a.few n) (hW : a.Wf) (hy : OpIn W0 y) : (dstep a y).few (n + y.bl) := by
  unfold dstep
  split
  · have := DA.few.write h y.file y.pos (y.bz.take y.bl)
    rw [hy.bs.isB.1] at this
    exact this
  split
  · exact few_mono (h.sync _) (Nat.le_add_right _ _)
  split
  · exact few_mono (h.cut _ _) (Nat.le_add_right _ _)
  split
  · exact few_mono (a := a.setFuse y.pos) h (Nat.le_add_right _ _)
  split
  · exact few_mono (a := a.setRoom y.pos) h (Nat.le_add_right _ _)
  split
  · exact few_mono (h.crash hW _) (Nat.le_add_right _ _)
  · exact few_mono h (Nat.le_add_right _ _)

set_option maxHeartbeats 6400000 in
theorem do_any (W0 w : World) (D B E C : Nat) (a : DA) (y : OpD) (h : Mix W0 w D B E C (fun _ => False) a a) (hW : a.Wf) (hf : a.few 900000) (hy : OpIn W0 y) :
    Calls Try.prog 12 #[.pointer (some ⟨D, 0, none⟩), .pointer (some ⟨E, 0, none⟩), .agg #[.int .i64 y.kind, .int .i64 y.file, .int .i64 y.pos, .int .i64 y.num, .slice y.ba y.bl y.bc, .slice y.ka y.kl y.kc]] w fun e w' => e = .returned (.bool true) ∧ Mix W0 w' D B E C (fun _ => False) (dstep a y) (dstep a y) := by
  have hf1 : a.few 1000000 := few_mono hf (by omega)
  have HIB := Lib.hid (show IsB W0 y.ba y.bl (y.bz.take y.bl) from hy.bs.isB)
  have HIK := Lib.hid (show IsK W0 y.ka y.kl (y.kz.take y.kl) from hy.ks.isK)
  have HNil := Lib.hid hy.bs.nilB
  have HLe := Lib.hid hy.bs.leB.1
  have HBl := Lib.hid (show y.bl ≤ 25000 from Nat.le_trans hy.bl (by omega))
  have HKl := Lib.hid hy.kl
  have HW := Lib.hid hW
  have HF := Lib.hid hf1
  have HW8 := Lib.hid (dstep_wf hW hy)
  have HF8 := Lib.hid (show (dstep a y).few 1000000 from few_mono (dstep_few hf hW hy) (by have := hy.bl; omega))
  have HM0 := Lib.hid h.box
  clear h hW hf hf1 hy
  go_enter Try.func12, Try.ntmps12
  go_upto_region 1 with (fail)
  have HB := Lib.hid (show Bx w.heap.size y (w.alloc (.cells #[.int .i64 y.kind, .int .i64 y.file, .int .i64 y.pos, .int .i64 y.num, .slice y.ba y.bl y.bc, .slice y.ka y.kl y.kc] 33)) from Go.heap_alloc_new w _)
  have HM := Lib.hid (HM0.out (.cells #[.int .i64 y.kind, .int .i64 y.file, .int .i64 y.pos, .int .i64 y.num, .slice y.ba y.bl y.bc, .slice y.ka y.kl y.kc] 33))
  obtain ⟨g, hg⟩ : ∃ g, g = w.heap.size := ⟨_, rfl⟩
  rw [← hg] at HB HM ⊢
  generalize w.alloc (.cells #[.int .i64 y.kind, .int .i64 y.file, .int .i64 y.pos, .int .i64 y.num, .slice y.ba y.bl y.bc, .slice y.ka y.kl y.kc] 33) = w1 at *
  clear hg HM0
  have z0 := HB.out.c0
  have z1 := HB.out.c1
  have z2 := HB.out.c2
  have z4 := HB.out.c4
  have HBc := Lib.hid HB.out.bc
  have HSt := Lib.hid (show dstep a y = (if y.kind = 1 then (a.write y.file y.pos (y.bz.take y.bl)).2 else if y.kind = 2 then (a.sync y.file).2 else if y.kind = 3 then (a.cut y.file y.pos).2 else if y.kind = 4 then a.setFuse y.pos else if y.kind = 5 then a.setRoom y.pos else if y.kind = 6 then a.crash (y.kz.take y.kl) else a) from rfl)
  by_cases h1 : y.kind = 1
  · have HSt := Lib.hid (HSt.out.trans (by rw [if_pos h1]))
    rw [h1] at z0
    clear h1
    go_upto_region 3 with (fail)
    refine wp_region_noPanic ?_
    go_region_held3 (fun W => W.cell? ⟨g, 1, none⟩ = some (.int .i64 y.file) ∧ W.cell? ⟨g, 2, none⟩ = some (.int .i64 y.pos) ∧ W.cell? ⟨g, 4, none⟩ = some (.slice y.ba y.bl y.bc))
      (first | exact HBc.out | exact hS2 | exact hS1)
      ((first
        | (go_at_call 39; refine (mp_write (b := _) (by first | exact HMr | exact HMr.drew1 | exact HM.out.drew1 | exact HM.out) HW.out HF.out y.file y.pos y.ba y.bl y.bc (y.bz.take y.bl) HIB.out HNil.out HLe.out HBl.out).mono ?_; rintro e' w7 ⟨rfl, hp7⟩; have HMp := hp7.1; have HBp := Lib.hid (Bx.keep (y := y) (by first | exact HBr.out | exact HB.out) hp7.2); have hS1 := HBp.out.bc; clear hp7)
        | (go_at_call 42; refine (mr_write (a := _) (by first | exact HMp | exact HMp.drew1 | exact HM.out.drew1 | exact HM.out) HW.out HF.out y.file y.pos y.ba y.bl y.bc (y.bz.take y.bl) HIB.out HNil.out HLe.out HBl.out).mono ?_; rintro e' w8 ⟨rfl, hp8⟩; have HMr := hp8.1; have HBr := Lib.hid (Bx.keep (y := y) (by first | exact HBp.out | exact HB.out) hp8.2); have hS2 := HBr.out.bc; clear hp8)))
    all_goals
      refine NoPanic.normal ?_
      first
        | (have HE := Lib.hid (show Mix W0 w7 D B E C (fun _ => False) (dstep a y) (dstep a y) by rw [HSt.out]; exact HMp.less))
        | (have HE := Lib.hid (show Mix W0 w8 D B E C (fun _ => False) (dstep a y) (dstep a y) by rw [HSt.out]; exact HMr.less))
      clear hS1 hS2 HMp HMr
      go_wp2
      go_ret
      exact ⟨rfl, HE.out⟩
  have h1b : (y.kind == 1) = false := beq_eq_false_iff_ne.2 h1
  by_cases h2 : y.kind = 2
  · have HSt := Lib.hid (HSt.out.trans (by rw [if_neg h1, if_pos h2]))
    rw [h2] at z0
    clear h1 h1b h2
    go_upto_region 5 with (fail)
    refine wp_region_noPanic ?_
    go_region_held3 (fun W => W.cell? ⟨g, 1, none⟩ = some (.int .i64 y.file) ∧ W.cell? ⟨g, 2, none⟩ = some (.int .i64 y.pos) ∧ W.cell? ⟨g, 4, none⟩ = some (.slice y.ba y.bl y.bc))
      (first | exact HBc.out | exact hS2 | exact hS1)
      ((first
        | (go_at_call 43; refine (mp_sync (b := _) (by first | exact HMr | exact HMr.drew1 | exact HM.out.drew1 | exact HM.out) HW.out HF.out y.file).mono ?_; rintro e' w7 ⟨rfl, hp7⟩; have HMp := hp7.1; have HBp := Lib.hid (Bx.keep (y := y) (by first | exact HBr.out | exact HB.out) hp7.2); have hS1 := HBp.out.bc; clear hp7)
        | (go_at_call 44; refine (mr_sync (a := _) (by first | exact HMp | exact HMp.drew1 | exact HM.out.drew1 | exact HM.out) HW.out HF.out y.file).mono ?_; rintro e' w8 ⟨rfl, hp8⟩; have HMr := hp8.1; have HBr := Lib.hid (Bx.keep (y := y) (by first | exact HBp.out | exact HB.out) hp8.2); have hS2 := HBr.out.bc; clear hp8)))
    all_goals
      refine NoPanic.normal ?_
      first
        | (have HE := Lib.hid (show Mix W0 w7 D B E C (fun _ => False) (dstep a y) (dstep a y) by rw [HSt.out]; exact HMp.less))
        | (have HE := Lib.hid (show Mix W0 w8 D B E C (fun _ => False) (dstep a y) (dstep a y) by rw [HSt.out]; exact HMr.less))
      clear hS1 hS2 HMp HMr
      go_wp2
      go_ret
      exact ⟨rfl, HE.out⟩
  have h2b : (y.kind == 2) = false := beq_eq_false_iff_ne.2 h2
  by_cases h3 : y.kind = 3
  · have HSt := Lib.hid (HSt.out.trans (by rw [if_neg h1, if_neg h2, if_pos h3]))
    rw [h3] at z0
    clear h1 h1b h2 h2b h3
    go_upto_region 7 with (fail)
    refine wp_region_noPanic ?_
    go_region_held3 (fun W => W.cell? ⟨g, 1, none⟩ = some (.int .i64 y.file) ∧ W.cell? ⟨g, 2, none⟩ = some (.int .i64 y.pos) ∧ W.cell? ⟨g, 4, none⟩ = some (.slice y.ba y.bl y.bc))
      (first | exact HBc.out | exact hS2 | exact hS1)
      ((first
        | (go_at_call 45; refine (mp_cut (b := _) (by first | exact HMr | exact HMr.drew1 | exact HM.out.drew1 | exact HM.out) HW.out HF.out y.file y.pos).mono ?_; rintro e' w7 ⟨rfl, hp7⟩; have HMp := hp7.1; have HBp := Lib.hid (Bx.keep (y := y) (by first | exact HBr.out | exact HB.out) hp7.2); have hS1 := HBp.out.bc; clear hp7)
        | (go_at_call 46; refine (mr_cut (a := _) (by first | exact HMp | exact HMp.drew1 | exact HM.out.drew1 | exact HM.out) HW.out HF.out y.file y.pos).mono ?_; rintro e' w8 ⟨rfl, hp8⟩; have HMr := hp8.1; have HBr := Lib.hid (Bx.keep (y := y) (by first | exact HBp.out | exact HB.out) hp8.2); have hS2 := HBr.out.bc; clear hp8)))
    all_goals
      refine NoPanic.normal ?_
      first
        | (have HE := Lib.hid (show Mix W0 w7 D B E C (fun _ => False) (dstep a y) (dstep a y) by rw [HSt.out]; exact HMp.less))
        | (have HE := Lib.hid (show Mix W0 w8 D B E C (fun _ => False) (dstep a y) (dstep a y) by rw [HSt.out]; exact HMr.less))
      clear hS1 hS2 HMp HMr
      go_wp2
      go_ret
      exact ⟨rfl, HE.out⟩
  have h3b : (y.kind == 3) = false := beq_eq_false_iff_ne.2 h3
  by_cases h4 : y.kind = 4
  · have HSt := Lib.hid (HSt.out.trans (by rw [if_neg h1, if_neg h2, if_neg h3, if_pos h4]))
    rw [h4] at z0
    clear h1 h1b h2 h2b h3 h3b h4
    go_wp2_with fail
    refine (mp_fuse HM.out y.pos).mono ?_
    rintro e w7 ⟨rfl, hp7⟩
    have hbx7 := HB.out.keep hp7.2
    have k2 := hbx7.c2
    obtain ⟨⟨zz, hzz⟩, hfz, hE7, hm8⟩ := mr_fuse hp7.1 y.pos
    have HM8 := Lib.hid (show Mix W0 (w7.setCell ⟨E, 7, none⟩ (.int .i64 (max y.pos (-1)))) D B E C (fun i => i = g) (dstep a y) (dstep a y) by rw [HSt.out]; exact hm8.1)
    have HB8 := Lib.hid (hbx7.keep hm8.2)
    clear hp7 hbx7 hm8 z1 z2 z4
    go_upto_region 17 with (fail)
    clear hzz hfz hE7 k2
    generalize w7.setCell ⟨E, 7, none⟩ (.int .i64 (max y.pos (-1))) = w8 at *
    have z1 := HB8.out.c1
    have z2 := HB8.out.c2
    have z3 := HB8.out.c3
    -- both are read
    go_wp2_with fail
    refine (mp_read HM8.out HW8.out HF8.out y.file y.pos y.num).mono ?_
    rintro e w9 ⟨g1, l1, q1, rfl, hi1, hn1, hl1, hlo1, hle1, hb9⟩
    have HI1 := Lib.hid hi1
    have HN1 := Lib.hid hn1
    have HL1 := Lib.hid hl1
    have HM9 := Lib.hid (HM8.out.below hb9)
    have hbx9 := HB8.out.keep (⟨hb9.os, hb9.tape, hb9.output, hb9.size, fun i hi _ => hb9.block i hi⟩ : Only (fun i => ¬ i = g) _ w9)
    have k1 := hbx9.c1
    have k2 := hbx9.c2
    have k3 := hbx9.c3
    clear hi1 hn1 hl1 hlo1 hle1 hb9 hbx9 z1 z2 z3
    go_wp2_with fail
    refine (mr_read HM9.out HW8.out HF8.out y.file y.pos y.num).mono ?_
    rintro e w10 ⟨g2, l2, q2, rfl, hi2, hn2, hl2, hlo2, hle2, hb10⟩
    have st1 := str_any (cb := q1) (HI1.out.below hb10 HL1.out) HN1.out
    have st2 := str_any (cb := q2) hi2 hn2
    have HE := Lib.hid ((HM9.out.below hb10).less)
    clear hi2 hn2 hl2 hlo2 hle2 hb10 k1 k2 k3
    go_wp2
    go_ret
    exact ⟨rfl, HE.out⟩
  have h4b : (y.kind == 4) = false := beq_eq_false_iff_ne.2 h4
  by_cases h5 : y.kind = 5
  · have HSt := Lib.hid (HSt.out.trans (by rw [if_neg h1, if_neg h2, if_neg h3, if_neg h4, if_pos h5]))
    rw [h5] at z0
    clear h1 h1b h2 h2b h3 h3b h4 h4b h5
    go_wp2_with fail
    refine (mp_room HM.out y.pos).mono ?_
    rintro e w7 ⟨rfl, hp7⟩
    have hbx7 := HB.out.keep hp7.2
    have k2 := hbx7.c2
    obtain ⟨⟨zz, hzz⟩, hfz, hE7, hm8⟩ := mr_room hp7.1 y.pos
    have HM8 := Lib.hid (show Mix W0 (w7.setCell ⟨E, 6, none⟩ (.int .i64 (max y.pos 0))) D B E C (fun i => i = g) (dstep a y) (dstep a y) by rw [HSt.out]; exact hm8.1)
    have HB8 := Lib.hid (hbx7.keep hm8.2)
    clear hp7 hbx7 hm8 z1 z2 z4
    go_upto_region 17 with (fail)
    clear hzz hfz hE7 k2
    generalize w7.setCell ⟨E, 6, none⟩ (.int .i64 (max y.pos 0)) = w8 at *
    have z1 := HB8.out.c1
    have z2 := HB8.out.c2
    have z3 := HB8.out.c3
    -- both are read
    go_wp2_with fail
    refine (mp_read HM8.out HW8.out HF8.out y.file y.pos y.num).mono ?_
    rintro e w9 ⟨g1, l1, q1, rfl, hi1, hn1, hl1, hlo1, hle1, hb9⟩
    have HI1 := Lib.hid hi1
    have HN1 := Lib.hid hn1
    have HL1 := Lib.hid hl1
    have HM9 := Lib.hid (HM8.out.below hb9)
    have hbx9 := HB8.out.keep (⟨hb9.os, hb9.tape, hb9.output, hb9.size, fun i hi _ => hb9.block i hi⟩ : Only (fun i => ¬ i = g) _ w9)
    have k1 := hbx9.c1
    have k2 := hbx9.c2
    have k3 := hbx9.c3
    clear hi1 hn1 hl1 hlo1 hle1 hb9 hbx9 z1 z2 z3
    go_wp2_with fail
    refine (mr_read HM9.out HW8.out HF8.out y.file y.pos y.num).mono ?_
    rintro e w10 ⟨g2, l2, q2, rfl, hi2, hn2, hl2, hlo2, hle2, hb10⟩
    have st1 := str_any (cb := q1) (HI1.out.below hb10 HL1.out) HN1.out
    have st2 := str_any (cb := q2) hi2 hn2
    have HE := Lib.hid ((HM9.out.below hb10).less)
    clear hi2 hn2 hl2 hlo2 hle2 hb10 k1 k2 k3
    go_wp2
    go_ret
    exact ⟨rfl, HE.out⟩
  have h5b : (y.kind == 5) = false := beq_eq_false_iff_ne.2 h5
  by_cases h6 : y.kind = 6
  · have HSt := Lib.hid (HSt.out.trans (by rw [if_neg h1, if_neg h2, if_neg h3, if_neg h4, if_neg h5, if_pos h6]))
    rw [h6] at z0
    clear h1 h1b h2 h2b h3 h3b h4 h4b h5 h5b h6
    have z5 := HB.out.c5
    go_wp2_with fail
    refine (mp_crash HM.out HW.out HF.out y.ka y.kl y.kc (y.kz.take y.kl) HIK.out HKl.out).mono ?_
    rintro e w7 ⟨rfl, hp7⟩
    have hbx7 := HB.out.keep hp7.2
    have HB7 := Lib.hid hbx7
    have HM7 := Lib.hid hp7.1
    have k5 := hbx7.c5
    clear hp7 hbx7 z5 z1 z2 z4
    go_wp2_with fail
    refine (mr_crash HM7.out HW.out HF.out y.ka y.kl y.kc (y.kz.take y.kl) HIK.out HKl.out).mono ?_
    rintro e w8 ⟨rfl, hp8⟩
    have HM8 := Lib.hid (show Mix W0 w8 D B E C (fun i => i = g) (dstep a y) (dstep a y) by rw [HSt.out]; exact hp8.1)
    have HB8 := Lib.hid (HB7.out.keep hp8.2)
    have z1 := HB8.out.c1
    have z2 := HB8.out.c2
    have z3 := HB8.out.c3
    clear hp8 k5
    -- both are read
    go_wp2_with fail
    refine (mp_read HM8.out HW8.out HF8.out y.file y.pos y.num).mono ?_
    rintro e w9 ⟨g1, l1, q1, rfl, hi1, hn1, hl1, hlo1, hle1, hb9⟩
    have HI1 := Lib.hid hi1
    have HN1 := Lib.hid hn1
    have HL1 := Lib.hid hl1
    have HM9 := Lib.hid (HM8.out.below hb9)
    have hbx9 := HB8.out.keep (⟨hb9.os, hb9.tape, hb9.output, hb9.size, fun i hi _ => hb9.block i hi⟩ : Only (fun i => ¬ i = g) _ w9)
    have k1 := hbx9.c1
    have k2 := hbx9.c2
    have k3 := hbx9.c3
    clear hi1 hn1 hl1 hlo1 hle1 hb9 hbx9 z1 z2 z3
    go_wp2_with fail
    refine (mr_read HM9.out HW8.out HF8.out y.file y.pos y.num).mono ?_
    rintro e w10 ⟨g2, l2, q2, rfl, hi2, hn2, hl2, hlo2, hle2, hb10⟩
    have st1 := str_any (cb := q1) (HI1.out.below hb10 HL1.out) HN1.out
    have st2 := str_any (cb := q2) hi2 hn2
    have HE := Lib.hid ((HM9.out.below hb10).less)
    clear hi2 hn2 hl2 hlo2 hle2 hb10 k1 k2 k3
    go_wp2
    go_ret
    exact ⟨rfl, HE.out⟩
  have h6b : (y.kind == 6) = false := beq_eq_false_iff_ne.2 h6
  have HSt := Lib.hid (HSt.out.trans (by rw [if_neg h1, if_neg h2, if_neg h3, if_neg h4, if_neg h5, if_neg h6]))
  have HM8 := Lib.hid (show Mix W0 w1 D B E C (fun i => i = g) (dstep a y) (dstep a y) by rw [HSt.out]; exact HM.out)
  have HB8 := Lib.hid HB.out
  have z3 := HB.out.c3
  clear z4 h1 h2 h3 h4 h5 h6
  -- both are read
  go_wp2_with fail
  refine (mp_read HM8.out HW8.out HF8.out y.file y.pos y.num).mono ?_
  rintro e w9 ⟨g1, l1, q1, rfl, hi1, hn1, hl1, hlo1, hle1, hb9⟩
  have HI1 := Lib.hid hi1
  have HN1 := Lib.hid hn1
  have HL1 := Lib.hid hl1
  have HM9 := Lib.hid (HM8.out.below hb9)
  have hbx9 := HB8.out.keep (⟨hb9.os, hb9.tape, hb9.output, hb9.size, fun i hi _ => hb9.block i hi⟩ : Only (fun i => ¬ i = g) _ w9)
  have k1 := hbx9.c1
  have k2 := hbx9.c2
  have k3 := hbx9.c3
  clear hi1 hn1 hl1 hlo1 hle1 hb9 hbx9 z1 z2 z3
  go_wp2_with fail
  refine (mr_read HM9.out HW8.out HF8.out y.file y.pos y.num).mono ?_
  rintro e w10 ⟨g2, l2, q2, rfl, hi2, hn2, hl2, hlo2, hle2, hb10⟩
  have st1 := str_any (cb := q1) (HI1.out.below hb10 HL1.out) HN1.out
  have st2 := str_any (cb := q2) hi2 hn2
  have HE := Lib.hid ((HM9.out.below hb10).less)
  clear hi2 hn2 hl2 hlo2 hle2 hb10 k1 k2 k3
  go_wp2
  go_ret
  exact ⟨rfl, HE.out⟩

set_option maxHeartbeats 3200000 in
theorem same_any (W0 w : World) (D B E C : Nat) (a : DA) (h : Mix W0 w D B E C (fun _ => False) a a) (hW : a.Wf) (hf : a.few 1000000) :
    Calls Try.prog 13 #[.pointer (some ⟨D, 0, none⟩), .pointer (some ⟨E, 0, none⟩)] w fun e w' => e = .returned (.bool true) ∧ Mix W0 w' D B E C (fun _ => False) a a := by
  have H := Lib.hid h
  have HW := Lib.hid hW
  have HF := Lib.hid hf
  clear h hW hf
  go_enter Try.func13, Try.ntmps13
  go_wp2_with fail
  go_loopw [5] (fun f wr => ∃ k : Nat, k ≤ 4 ∧ f = .int .i64 ((k : Int) - 1) ∧ Hid (Mix W0 wr D B E C (fun _ => False) a a)) (fun f _ => 4 - (intOf f + 1).toNat)
  case atStart => exact ⟨0, by omega, rfl, H⟩
  case round =>
    obtain ⟨k, hk, rfl, HR⟩ := hrel
    obtain ⟨f, hfk⟩ : ∃ f : Int, f = (k : Int) - 1 := ⟨_, rfl⟩
    have HFk := Lib.hid hfk
    rw [← hfk]
    have hf0 : -1 ≤ f := by omega
    have hf1 : f ≤ 3 := by omega
    by_cases hlt : f ≤ 2
    · clear hfk
      have HKl := Lib.hid (show k + 1 ≤ 4 by have := HFk.out; omega)
      clear hk
      go_wp2_with fail
      refine (mp_size HR.out f).mono ?_
      rintro e w3 ⟨rfl, hw⟩
      subst hw
      go_wp2_with fail
      refine (mr_size HR.out HW.out f).mono ?_
      rintro e w4 ⟨rfl, hw⟩
      subst hw
      go_wp2_with fail
      refine (mp_size HR.out f).mono ?_
      rintro e w5 ⟨rfl, hw⟩
      subst hw
      go_wp2_with fail
      refine (mp_read HR.out HW.out HF.out f 0 (a.size f : Int)).mono ?_
      rintro e w6 ⟨g1, l1, q1, rfl, hi1, hn1, hl1, hlo1, hle1, hb6⟩
      have HI1 := Lib.hid hi1
      have HN1 := Lib.hid hn1
      have HL1 := Lib.hid hl1
      have HM6 := Lib.hid (HR.out.below hb6)
      clear hi1 hn1 hl1 hlo1 hle1 hb6
      go_wp2_with fail
      refine (mr_size HM6.out HW.out f).mono ?_
      rintro e w7 ⟨rfl, hw⟩
      subst hw
      go_wp2_with fail
      refine (mr_read HM6.out HW.out HF.out f 0 (a.size f : Int)).mono ?_
      rintro e w10 ⟨g2, l2, q2, rfl, hi2, hn2, hl2, hlo2, hle2, hb10⟩
      have st1 := str_any (cb := q1) (HI1.out.below hb10 HL1.out) HN1.out
      have st2 := str_any (cb := q2) hi2 hn2
      have HE := Lib.hid (HM6.out.below hb10)
      clear hi2 hn2 hl2 hlo2 hle2 hb10
      go_wp2
      go_roundw
      case rel =>
        first
          | exact ⟨k + 1, HKl.out, by have := HFk.out; go_num, HE⟩
          | exact ⟨k + 1, HKl.out, by rw [show ((k + 1 : Nat) : Int) - 1 = f + 1 by have := HFk.out; omega], HE⟩
      case measure => have := HFk.out; simp [intOf]; omega
    · have hgt : 2 < f := by omega
      have HQ0 := Lib.hid (fun n => Calls.quiet_of (mp_left (HR.out.drew n) HW.out HF.out))
      have HQ1 := Lib.hid (fun n => Calls.quiet_of_same (mr_left (HR.out.drew n) HW.out HF.out))
      have HQ2 := Lib.hid (fun n => Calls.quiet_of_same (mp_down (HR.out.drew n)))
      have HQ3 := Lib.hid (fun n => Calls.quiet_of (mp_uns (HR.out.drew n) HW.out HF.out))
      have HQ4 := Lib.hid (fun n => Calls.quiet_of (mr_uns (HR.out.drew n) HW.out HF.out))
      have c8 : ∀ n, (wr.drewN n).cell? ⟨E, 8, none⟩ = some (.bool a.down) := fun n => mr_down (HR.out.drew n)
      obtain ⟨ln, hln⟩ : ∃ ln, ln = a.leftN := ⟨_, rfl⟩
      obtain ⟨dn, hdn⟩ : ∃ dn, dn = a.down := ⟨_, rfl⟩
      obtain ⟨un, hun⟩ : ∃ un : Int, un = (nKeys a.f0.L : Int) + (nKeys a.f1.L : Int) := ⟨_, rfl⟩
      rw [← hln] at HQ0 HQ1
      rw [← hdn] at HQ2 c8
      rw [← hun] at HQ3 HQ4
      have x1 := beq_self_eq_true ln
      have x2 := beq_self_eq_true dn
      have x3 := beq_self_eq_true un
      clear hln hdn hun hlt hfk hk
      go_wp2_with fail
      go_quiet ((first | (go_at_call 41; exact HQ0.out _) | (go_at_call 54; exact HQ1.out _) | (go_at_call 55; exact HQ2.out _) | (go_at_call 56; exact HQ3.out _) | (go_at_call 57; exact HQ4.out _)))
      go_wp2
      go_ret
      exact ⟨rfl, HR.out.drew _⟩
end Go.Proofs.Ytafhgilikcablaa
