/- A disk's state, as the program and the document both have it. Plain. -/
import Derived.Test.YtafhgilikcablaaDpCr
import Derived.Test.YtafhgilikcablaaDkL
namespace Go.Proofs.Ytafhgilikcablaa
open Go.RowKit Go.Maps
set_option linter.unusedVariables false

/-- a file: its bytes, those that were synced, its unsynced sectors -/
structure FA where
  zs : List Int
  ys : List Int
  L : List Lit
structure DA where
  f0 : FA
  f1 : FA
  R : Int
  armed : Bool
  fu : Int
  down : Bool
theorem wrB_at {zs b : List Int} {p i : Nat} (hp : p ≤ zs.length) (hi : i < Nat.max zs.length (p + b.length)) : (wrB zs b p).getD i 0 = if p ≤ i ∧ i < p + b.length then b.getD (i - p) 0 else zs.getD i 0 := by
  have hi' : i < Max.max zs.length (p + b.length) := hi
  unfold wrB
  rw [List.append_assoc, List.getD_eq_getElem?_getD, List.getElem?_append, List.length_take, Nat.min_eq_left hp]
  by_cases h1 : i < p
  · rw [if_pos h1, if_neg (by omega), List.getElem?_take, if_pos h1, List.getD_eq_getElem?_getD]
  · rw [if_neg h1, List.getElem?_append]
    by_cases h2 : i - p < b.length
    · rw [if_pos h2, if_pos (by omega), List.getD_eq_getElem?_getD]
    · rw [if_neg h2, if_neg (by omega), List.getElem?_drop, List.getD_eq_getElem?_getD]
      congr 2
      omega
theorem sk_inj {a b : Nat} (h : sk a = sk b) : a = b := by
  simp only [sk, Lit.int.injEq, true_and] at h
  omega
theorem secs_mem {p n s : Nat} : sk s ∈ secs p n ↔ n ≠ 0 ∧ p / 64 ≤ s ∧ s ≤ (p + n - 1) / 64 := by
  unfold secs
  by_cases h : n = 0
  · simp [h]
  · rw [if_neg h, List.mem_map]
    constructor
    · rintro ⟨a, ha, e⟩
      have := sk_inj e
      subst this
      have := List.mem_range'_1.1 ha
      omega
    · rintro ⟨_, h1, h2⟩
      exact ⟨s, List.mem_range'_1.2 (by omega), rfl⟩
theorem secs_is {p n : Nat} {k : Lit} (h : k ∈ secs p n) : ∃ s, k = sk s ∧ n ≠ 0 ∧ p / 64 ≤ s ∧ s ≤ (p + n - 1) / 64 := by
  have h' := h
  unfold secs at h
  by_cases h0 : n = 0
  · simp [h0] at h
  · rw [if_neg h0, List.mem_map] at h
    obtain ⟨s, _, rfl⟩ := h
    exact ⟨s, rfl, secs_mem.1 h'⟩
structure FA.Wf (a : FA) : Prop where
  rz : ∀ z ∈ a.zs, 0 ≤ z ∧ z ≤ 255
  ry : ∀ z ∈ a.ys, 0 ≤ z ∧ z ≤ 255
  le : a.ys.length ≤ a.zs.length
  un : ∀ i, i < a.zs.length → sk (i / 64) ∉ a.L → i < a.ys.length ∧ a.ys.getD i 0 = a.zs.getD i 0
  sec : ∀ k ∈ a.L, ∃ s : Nat, k = sk s ∧ s * 64 < a.zs.length
def FA.write (a : FA) (b : List Int) (p : Nat) : FA := ⟨wrB a.zs b p, a.ys, a.L ++ secs p b.length⟩
def FA.cut (a : FA) (n : Nat) : FA := ⟨a.zs.take n, a.zs.take n, []⟩
def FA.sync (a : FA) : FA := ⟨a.zs, a.zs, []⟩
theorem wrB_rg {zs b : List Int} {p : Nat} (hz : ∀ z ∈ zs, 0 ≤ z ∧ z ≤ 255) (hb : ∀ z ∈ b, 0 ≤ z ∧ z ≤ 255) : ∀ z ∈ wrB zs b p, 0 ≤ z ∧ z ≤ 255 := fun z h => by
  unfold wrB at h
  rcases List.mem_append.1 h with h | h
  · rcases List.mem_append.1 h with h | h
    · exact hz z (List.mem_of_mem_take h)
    · exact hb z h
  · exact hz z (List.mem_of_mem_drop h)
theorem FA.Wf.write {a : FA} (h : a.Wf) {b : List Int} {p : Nat} (hp : p ≤ a.zs.length) (hb : ∀ z ∈ b, 0 ≤ z ∧ z ≤ 255) : (a.write b p).Wf := by
  have hl := wrB_length (b := b) hp
  have hl' : (wrB a.zs b p).length = Max.max a.zs.length (p + b.length) := hl
  refine ⟨wrB_rg h.rz hb, h.ry, ?_, fun i hi hn => ?_, fun k hk => ?_⟩
  · have := h.le
    show a.ys.length ≤ (wrB a.zs b p).length
    omega
  · have hi1 : i < (wrB a.zs b p).length := hi
    have hn1 : sk (i / 64) ∉ a.L := fun e => hn (List.mem_append_left _ e)
    have hn2 : sk (i / 64) ∉ secs p b.length := fun e => hn (List.mem_append_right _ e)
    have hnot : ¬ (p ≤ i ∧ i < p + b.length) := fun e => hn2 (secs_mem.2 ⟨by omega, by omega, by omega⟩)
    have hiz : i < a.zs.length := by omega
    obtain ⟨h1, h2⟩ := h.un i hiz hn1
    refine ⟨h1, ?_⟩
    show _ = (wrB a.zs b p).getD i 0
    rw [wrB_at hp (by rw [← hl]; exact hi1), if_neg hnot]
    exact h2
  · show ∃ s : Nat, k = sk s ∧ s * 64 < (wrB a.zs b p).length
    rcases List.mem_append.1 hk with hk | hk
    · obtain ⟨s, rfl, hs⟩ := h.sec k hk
      exact ⟨s, rfl, by omega⟩
    · obtain ⟨s, rfl, h0, h1, h2⟩ := secs_is hk
      exact ⟨s, rfl, by omega⟩
theorem FA.Wf.cut {a : FA} (h : a.Wf) (n : Nat) : (a.cut n).Wf :=
  ⟨fun z hz => h.rz z (List.mem_of_mem_take hz), fun z hz => h.rz z (List.mem_of_mem_take hz), Nat.le_refl _, fun i hi _ => ⟨hi, rfl⟩, fun k hk => by cases hk⟩
theorem FA.Wf.sync {a : FA} (h : a.Wf) : a.sync.Wf := ⟨h.rz, h.rz, Nat.le_refl _, fun i hi _ => ⟨hi, rfl⟩, fun k hk => by cases hk⟩
/-- is the sector one of them? -/
def inL (L : List Lit) (s : Nat) : Bool := L.any fun k => k.sameKey (sk s)
theorem inL_iff {a : FA} (h : a.Wf) (s : Nat) : inL a.L s = true ↔ sk s ∈ a.L := by
  unfold inL
  rw [List.any_eq_true]
  constructor
  · rintro ⟨k, hk, e⟩
    obtain ⟨t, rfl, _⟩ := h.sec k hk
    unfold sk Lit.sameKey at e
    simp at e
    have : t = s := by omega
    subst this
    exact hk
  · intro hk
    refine ⟨_, hk, ?_⟩
    unfold sk Lit.sameKey
    simp
/-- the sectors below n, in their order -/
def secN (L : List Lit) (n : Nat) : List Int := ((List.range n).filter (inL L)).map fun s : Nat => (s : Int)
theorem secN_succ (L : List Lit) (n : Nat) : secN L (n + 1) = secN L n ++ if inL L n then [(n : Int)] else [] := by
  unfold secN
  rw [List.range_succ, List.filter_append, List.map_append]
  congr 1
  by_cases h : inL L n = true
  · simp [h]
  · simp [h]
theorem secN_len (L : List Lit) (n : Nat) : (secN L n).length ≤ n := by
  unfold secN
  rw [List.length_map]
  exact Nat.le_trans (List.length_filter_le _ _) (by simp)
def FA.secs (a : FA) : List Int := secN a.L (a.zs.length / 64 + 1)
def FA.left (a : FA) (kz : List Int) (t : Nat) : List Int := (foldD kz a.ys a.zs t a.secs).1
def FA.crash (a : FA) (kz : List Int) (t : Nat) : FA := ⟨a.left kz t, a.left kz t, []⟩
theorem putS_range {zs out : List Int} {x : Nat} {k : Int} (hz : ∀ z ∈ zs, 0 ≤ z ∧ z ≤ 255) (ho : ∀ z ∈ out, 0 ≤ z ∧ z ≤ 255) : ∀ z ∈ putS zs out x k, 0 ≤ z ∧ z ≤ 255 := fun z h => by
  have gd : ∀ (l : List Int), (∀ z ∈ l, 0 ≤ z ∧ z ≤ 255) → ∀ i, 0 ≤ l.getD i 0 ∧ l.getD i 0 ≤ 255 := fun l hl i => by
    rw [List.getD_eq_getElem?_getD]
    by_cases hi : i < l.length
    · rw [List.getElem?_eq_getElem hi]; exact hl _ (List.getElem_mem hi)
    · rw [List.getElem?_eq_none (by omega)]; exact ⟨by decide, by decide⟩
  unfold putS at h
  obtain ⟨i, _, rfl⟩ := List.mem_map.1 h
  split
  · split
    · exact gd zs hz i
    · omega
  · split
    · exact gd out ho i
    · omega
theorem foldD_range {kz ys zs : List Int} {t : Nat} (hz : ∀ z ∈ zs, 0 ≤ z ∧ z ≤ 255) (hy : ∀ z ∈ ys, 0 ≤ z ∧ z ≤ 255) (xs : List Int) : ∀ z ∈ (foldD kz ys zs t xs).1, 0 ≤ z ∧ z ≤ 255 := by
  refine snocInd (P := fun xs => ∀ z ∈ (foldD kz ys zs t xs).1, 0 ≤ z ∧ z ≤ 255) hy (fun xs x ih => ?_) xs
  rw [foldD_snoc]
  obtain ⟨st, hst⟩ : ∃ st, st = foldD kz ys zs t xs := ⟨_, rfl⟩
  rw [← hst] at ih ⊢
  show ∀ z ∈ (if keepV kz st.2 = 0 then st.1 else putS zs st.1 x.toNat (keepV kz st.2)), _
  split
  · exact ih
  · exact putS_range hz ih
theorem foldD_len {kz ys zs : List Int} {t : Nat} (h : ys.length ≤ zs.length) (xs : List Int) : (foldD kz ys zs t xs).1.length ≤ zs.length := by
  refine snocInd (P := fun xs => (foldD kz ys zs t xs).1.length ≤ zs.length) h (fun xs x ih => ?_) xs
  rw [foldD_snoc]
  obtain ⟨st, hst⟩ : ∃ st, st = foldD kz ys zs t xs := ⟨_, rfl⟩
  rw [← hst] at ih ⊢
  show (if keepV kz st.2 = 0 then st.1 else putS zs st.1 x.toNat (keepV kz st.2)).length ≤ _
  split
  · exact ih
  · rw [putS_length]; omega
theorem FA.Wf.crash {a : FA} (h : a.Wf) (kz : List Int) (t : Nat) : (a.crash kz t).Wf :=
  ⟨foldD_range h.rz h.ry _, foldD_range h.rz h.ry _, Nat.le_refl _, fun i hi _ => ⟨hi, rfl⟩, fun k hk => by cases hk⟩
/-- sorted alike with the same members: the same -/
theorem sorted_same : ∀ {a b : List Int}, a.Pairwise (· < ·) → b.Pairwise (· < ·) → (∀ x, x ∈ a ↔ x ∈ b) → a = b
  | [], [], _, _, _ => rfl
  | [], y :: b, _, _, h => by have := (h y).2 List.mem_cons_self; cases this
  | x :: a, [], _, _, h => by have := (h x).1 List.mem_cons_self; cases this
  | x :: a, y :: b, ha, hb, h => by
    obtain ⟨ha1, ha2⟩ := List.pairwise_cons.1 ha
    obtain ⟨hb1, hb2⟩ := List.pairwise_cons.1 hb
    have hxy : x = y := by
      have h1 := (h x).1 List.mem_cons_self
      have h2 := (h y).2 List.mem_cons_self
      rcases List.mem_cons.1 h1 with e | e
      · exact e
      · rcases List.mem_cons.1 h2 with e2 | e2
        · exact e2.symm
        · have := hb1 x e
          have := ha1 y e2
          omega
    subst hxy
    congr 1
    refine sorted_same ha2 hb2 (fun z => ⟨fun hz => ?_, fun hz => ?_⟩)
    · rcases List.mem_cons.1 ((h z).1 (List.mem_cons_of_mem _ hz)) with e | e
      · subst e; have := ha1 z hz; omega
      · exact e
    · rcases List.mem_cons.1 ((h z).2 (List.mem_cons_of_mem _ hz)) with e | e
      · subst e; have := hb1 z hz; omega
      · exact e
theorem secN_sorted (L : List Lit) (n : Nat) : (secN L n).Pairwise (· < ·) := by
  unfold secN
  rw [List.pairwise_map]
  exact (List.pairwise_lt_range.filter _).imp (fun h => by omega)
theorem secs_all {a : FA} (h : a.Wf) (x : Int) : x ∈ a.secs ↔ ∃ s : Nat, x = (s : Int) ∧ sk s ∈ a.L := by
  unfold FA.secs secN
  rw [List.mem_map]
  constructor
  · rintro ⟨s, hs, rfl⟩
    exact ⟨s, rfl, (inL_iff h s).1 (List.mem_filter.1 hs).2⟩
  · rintro ⟨s, rfl, hs⟩
    obtain ⟨t, e, ht⟩ := h.sec _ hs
    have := sk_inj e
    subst this
    exact ⟨s, List.mem_filter.2 ⟨List.mem_range.2 (by omega), (inL_iff h s).2 hs⟩, rfl⟩
/-- both crashes leave the same -/
theorem left_same {a : FA} (h : a.Wf) (kz : List Int) (t : Nat) : (foldC kz a.ys a.zs t a.secs).1.take (foldC kz a.ys a.zs t a.secs).2.1 = a.left kz t := by
  refine crash_same kz a.ys a.zs t a.secs h.le ((secN_sorted _ _).imp (fun h => by omega)) (fun x hx => ?_) (fun i hi hn => ?_)
  · obtain ⟨s, rfl, hs⟩ := (secs_all h x).1 hx
    obtain ⟨u, e, hu⟩ := h.sec _ hs
    have := sk_inj e
    subst this
    exact ⟨by omega, by rw [Int.toNat_natCast]; exact hu⟩
  · exact h.un i hi (fun e => hn ((secs_all h _).2 ⟨i / 64, rfl, e⟩))

/-! ### the disk -/
structure DA.Wf (a : DA) : Prop where
  w0 : a.f0.Wf
  w1 : a.f1.Wf
  r0 : 0 ≤ a.R
  r1 : a.R ≤ 9223372036854775807
  arm : a.armed = true → 0 ≤ a.fu ∧ a.fu ≤ 9223372036854775807
/-- of a size that is looked at -/
def DA.few (a : DA) (n : Nat) : Prop := a.f0.zs.length ≤ n ∧ a.f0.L.length ≤ n ∧ a.f1.zs.length ≤ n ∧ a.f1.L.length ≤ n
def DA.new (r : Int) : DA := ⟨⟨[], [], []⟩, ⟨[], [], []⟩, max r 0, false, 0, false⟩
def DA.fuse (a : DA) : Int := if a.armed then a.fu else -1
def DA.pow (a : DA) : Bool := !(a.armed && decide (a.fu = 0))
def DA.tick (a : DA) : DA := { a with fu := if a.armed then a.fu - 1 else a.fu }
def DA.gone (a : DA) : DA := { a with down := true }
def DA.on (a : DA) (f : Int) : FA := if f = 0 then a.f0 else a.f1
def DA.put (a : DA) (f : Int) (x : FA) : DA := if f = 0 then { a with f0 := x } else { a with f1 := x }
def DA.size (a : DA) (f : Int) : Nat := if f = 0 then a.f0.zs.length else if f = 1 then a.f1.zs.length else 0
def DA.full (a : DA) (f p : Int) (n : Nat) : Prop := (a.size f : Int) < p + n ∧ a.R < p + n + (a.size (1 - f) : Int)
open Classical in
/-- what a Write answers, and leaves -/
noncomputable def DA.write (a : DA) (f p : Int) (b : List Int) : Int × DA :=
  if f ≠ 0 ∧ f ≠ 1 then (1, a) else if a.down = true then (16, a) else if p < 0 ∨ (a.size f : Int) < p then (1, a) else if a.full f p b.length then (15, a) else if a.pow = false then (16, a.gone) else (0, a.tick.put f ((a.on f).write b p.toNat))
def DA.sync (a : DA) (f : Int) : Int × DA :=
  if f ≠ 0 ∧ f ≠ 1 then (1, a) else if a.down = true then (16, a) else if a.pow = false then (16, a.gone) else (0, a.tick.put f (a.on f).sync)
def DA.cut (a : DA) (f p : Int) : Int × DA :=
  if f ≠ 0 ∧ f ≠ 1 then (1, a) else if a.down = true then (16, a) else if p < 0 ∨ (a.size f : Int) < p then (1, a) else if a.pow = false then (16, a.gone) else (0, a.tick.put f ((a.on f).cut p.toNat))
def DA.read (a : DA) (f p n : Int) : Int × List Int :=
  if f ≠ 0 ∧ f ≠ 1 then (1, []) else if a.down = true then (16, []) else if p < 0 ∨ n < 0 ∨ (a.size f : Int) < p ∨ (a.size f : Int) - p < n then (1, []) else (0, ((a.on f).zs.drop p.toNat).take n.toNat)
def DA.setFuse (a : DA) (n : Int) : DA := { a with armed := decide (0 ≤ n), fu := n }
def DA.setRoom (a : DA) (n : Int) : DA := { a with R := max n 0 }
def DA.crash (a : DA) (kz : List Int) : DA := ⟨a.f0.crash kz 0, a.f1.crash kz a.f0.secs.length, a.R, false, 0, false⟩
theorem DA.Wf.new (r : Int) (h : r ≤ 9223372036854775807) : (DA.new r).Wf := by
  refine ⟨⟨by simp [DA.new], by simp [DA.new], by simp [DA.new], by simp [DA.new], by simp [DA.new]⟩, ⟨by simp [DA.new], by simp [DA.new], by simp [DA.new], by simp [DA.new], by simp [DA.new]⟩, ?_, ?_, by simp [DA.new]⟩
  · show 0 ≤ max r 0; omega
  · show max r 0 ≤ _; omega
theorem DA.Wf.tick {a : DA} (h : a.Wf) (hp : a.pow = true) : a.tick.Wf := by
  refine ⟨h.w0, h.w1, h.r0, h.r1, fun e => ?_⟩
  have e' : a.armed = true := e
  have := h.arm e'
  unfold DA.pow at hp
  rw [e'] at hp
  simp at hp
  show 0 ≤ (if a.armed = true then a.fu - 1 else a.fu) ∧ _
  simp only [e', if_true]
  show _ ∧ (if a.armed = true then a.fu - 1 else a.fu) ≤ _
  simp only [e', if_true]
  omega
theorem DA.Wf.gone {a : DA} (h : a.Wf) : a.gone.Wf := ⟨h.w0, h.w1, h.r0, h.r1, h.arm⟩
theorem DA.Wf.put {a : DA} (h : a.Wf) {x : FA} (hx : x.Wf) (f : Int) : (a.put f x).Wf := by
  unfold DA.put
  split
  · exact ⟨hx, h.w1, h.r0, h.r1, h.arm⟩
  · exact ⟨h.w0, hx, h.r0, h.r1, h.arm⟩
theorem DA.Wf.file {a : DA} (h : a.Wf) (f : Int) : (a.on f).Wf := by
  unfold DA.on
  split
  · exact h.w0
  · exact h.w1
theorem DA.on_size {a : DA} {f : Int} (h : ¬ (f ≠ 0 ∧ f ≠ 1)) : (a.on f).zs.length = a.size f := by
  unfold DA.on DA.size
  by_cases h0 : f = 0
  · rw [if_pos h0, if_pos h0]
  · rw [if_neg h0, if_neg h0, if_pos (by omega)]
theorem DA.Wf.write {a : DA} (h : a.Wf) (f p : Int) {b : List Int} (hb : ∀ z ∈ b, 0 ≤ z ∧ z ≤ 255) : (a.write f p b).2.Wf := by
  unfold DA.write
  split
  · exact h
  split
  · exact h
  split
  · exact h
  split
  · exact h
  split
  · exact h.gone
  · rename_i h1 h2 h3 h4 h5
    have := DA.on_size (a := a) h1
    exact (h.tick (by simpa using h5)).put ((h.file f).write (by omega) hb) f
theorem DA.Wf.sync {a : DA} (h : a.Wf) (f : Int) : (a.sync f).2.Wf := by
  unfold DA.sync
  split
  · exact h
  split
  · exact h
  split
  · exact h.gone
  · rename_i h5
    exact (h.tick (by simpa using h5)).put (h.file f).sync f
theorem DA.Wf.cut {a : DA} (h : a.Wf) (f p : Int) : (a.cut f p).2.Wf := by
  unfold DA.cut
  split
  · exact h
  split
  · exact h
  split
  · exact h
  split
  · exact h.gone
  · rename_i h5
    exact (h.tick (by simpa using h5)).put ((h.file f).cut _) f
theorem DA.Wf.setFuse {a : DA} (h : a.Wf) {n : Int} (hn : n ≤ 9223372036854775807) : (a.setFuse n).Wf :=
  ⟨h.w0, h.w1, h.r0, h.r1, fun e => ⟨of_decide_eq_true e, hn⟩⟩
theorem DA.Wf.setRoom {a : DA} (h : a.Wf) {n : Int} (hn : n ≤ 9223372036854775807) : (a.setRoom n).Wf :=
  ⟨h.w0, h.w1, (by show 0 ≤ max n 0; omega), (by show max n 0 ≤ _; omega), h.arm⟩
theorem DA.Wf.crash {a : DA} (h : a.Wf) (kz : List Int) : (a.crash kz).Wf :=
  ⟨h.w0.crash kz 0, h.w1.crash kz _, h.r0, h.r1, fun e => by cases e⟩
theorem secs_len (p n : Nat) : (secs p n).length ≤ n := by
  unfold secs
  split
  · simp
  · rw [List.length_map, List.length_range']; omega
/-- bytes more -/
theorem DA.few.write {a : DA} {n : Nat} (h : a.few n) (f p : Int) (b : List Int) : (a.write f p b).2.few (n + b.length) := by
  have mono : a.few (n + b.length) := by obtain ⟨h1, h2, h3, h4⟩ := h; exact ⟨by omega, by omega, by omega, by omega⟩
  unfold DA.write
  split
  · exact mono
  split
  · exact mono
  split
  · exact mono
  split
  · exact mono
  split
  · exact mono
  · rename_i h1 h2 h3 h4 h5
    have hs := DA.on_size (a := a) h1
    have hw := wrB_length (zs := (a.on f).zs) (b := b) (p := p.toNat) (by omega)
    have hw' : (wrB (a.on f).zs b p.toNat).length = Max.max (a.on f).zs.length (p.toNat + b.length) := hw
    have hl := secs_len p.toNat b.length
    obtain ⟨k1, k2, k3, k4⟩ := h
    have hx1 : ((a.on f).write b p.toNat).zs.length ≤ n + b.length := by
      show (wrB (a.on f).zs b p.toNat).length ≤ _
      have : (a.on f).zs.length ≤ n := by unfold DA.on; split <;> assumption
      omega
    have hx2 : ((a.on f).write b p.toNat).L.length ≤ n + b.length := by
      show ((a.on f).L ++ _).length ≤ _
      have : (a.on f).L.length ≤ n := by unfold DA.on; split <;> assumption
      rw [List.length_append]
      omega
    unfold DA.put
    split
    · exact ⟨hx1, hx2, mono.2.2.1, mono.2.2.2⟩
    · exact ⟨mono.1, mono.2.1, hx1, hx2⟩
theorem DA.few.put {a : DA} {n : Nat} (h : a.few n) (f : Int) {x : FA} (h1 : x.zs.length ≤ n) (h2 : x.L = []) : (a.put f x).few n := by
  unfold DA.put
  split
  · exact ⟨h1, by show x.L.length ≤ n; rw [h2]; exact Nat.zero_le _, h.2.2.1, h.2.2.2⟩
  · exact ⟨h.1, h.2.1, h1, by show x.L.length ≤ n; rw [h2]; exact Nat.zero_le _⟩
theorem DA.few.tick {a : DA} {n : Nat} (h : a.few n) : a.tick.few n := h
theorem DA.few.file {a : DA} {n : Nat} (h : a.few n) (f : Int) : (a.on f).zs.length ≤ n := by
  unfold DA.on
  split
  · exact h.1
  · exact h.2.2.1
theorem DA.few.sync {a : DA} {n : Nat} (h : a.few n) (f : Int) : (a.sync f).2.few n := by
  unfold DA.sync
  split
  · exact h
  split
  · exact h
  split
  · exact h
  · exact h.tick.put f (h.file f) rfl
theorem DA.few.cut {a : DA} {n : Nat} (h : a.few n) (f p : Int) : (a.cut f p).2.few n := by
  unfold DA.cut
  split
  · exact h
  split
  · exact h
  split
  · exact h
  split
  · exact h
  · exact h.tick.put f (by show ((a.on f).zs.take _).length ≤ n; have := h.file f; rw [List.length_take]; omega) rfl
theorem DA.few.crash {a : DA} {n : Nat} (h : a.few n) (hw : a.Wf) (kz : List Int) : (a.crash kz).few n :=
  ⟨Nat.le_trans (foldD_len hw.w0.le _) h.1, Nat.zero_le _, Nat.le_trans (foldD_len hw.w1.le _) h.2.2.1, Nat.zero_le _⟩
end Go.Proofs.Ytafhgilikcablaa
