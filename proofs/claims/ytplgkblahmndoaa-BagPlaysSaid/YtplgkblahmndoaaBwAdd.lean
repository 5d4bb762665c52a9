/- The document's bag: Add. -/
import Derived.Test.YtplgkblahmndoaaBwAt
import Derived.Deep.AppendLies
namespace Go.Proofs.Ytplgkblahmndoaa
open Go.RowKit
set_option linter.unusedVariables false
set_option maxRecDepth 100000

theorem entT_doc : EntT 22 106 := ⟨Try.underlying22, by kernel_rfl⟩
def DAdd (w : World) (E : Nat) (S : List EntD) (y : List Ent × Int) (e : Ending) (w' : World) : Prop := e = .returned (.int .i64 y.2) ∧ ∃ S', S'.map entOf = y.1 ∧ S'.length ≤ S.length + 1 ∧ DocB w' E S' ∧ Only (fun i => i = E) w w'
theorem DAdd.same {w w' : World} {E : Nat} {S : List EntD} {c : Int} (h : DocB w E S) (hb : Below w.heap.size w w') : DAdd w E S (S.map entOf, c) (.returned (.int .i64 c)) w' :=
  ⟨rfl, S, rfl, Nat.le_succ _, h.below hb, (only_below hb).mono (fun _ => False.elim)⟩
/-- the entries ahead of a row's place, and the row -/
def headS (S : List EntD) (y : EntD) : List EntD := S.take (posB (S.map entOf) (keyVs y.rv)) ++ (if y.n = 0 then [] else [y])
theorem putS_head (S : List EntD) (y : EntD) : putS S y = headS S y ++ S.drop (posB (S.map entOf) (keyVs y.rv) + (hitB (S.map entOf) (keyVs y.rv)).toNat) := rfl
/-- ahead of the last append -/
def AddMid (w : World) (S : List EntD) (rv : List Val) (s : Int) (v : Value) (wx : World) : Prop :=
  ∃ (y : EntD) (n : Nat), y.rv = rv ∧ y.n = s ∧ wx.ownsRow w.heap.size 106 2 v n (flatE (headS S y)) ∧ n ≤ S.length + 1 ∧ (∀ w', wx.grownBy w' v.ownBlock → ∀ x ∈ headS S y, RowE w' x) ∧ Below w.heap.size w wx
theorem own_lower {w : World} {B C n : Nat} {e : TypeId} {size : Nat} {v : Value} {xs : List Value} (h : w.ownsRow B e size v n xs) (hC : C ≤ B) : w.ownsRow C e size v n xs := by
  refine ⟨h.1, ?_⟩
  rcases h.2 with h | ⟨b, c, cur, e1, e2, r⟩
  · exact .inl h
  · exact .inr ⟨b, c, cur, e1, Nat.le_trans hC e2, r⟩
theorem headS_yes {S : List EntD} {y : EntD} {p : Nat} (hp : p = posB (S.map entOf) (keyVs y.rv)) (h : y.n ≠ 0) : headS S y = S.take p ++ [y] := by
  unfold headS; rw [if_neg h, hp]
theorem headS_no {S : List EntD} {y : EntD} {p : Nat} (hp : p = posB (S.map entOf) (keyVs y.rv)) (h : y.n = 0) : headS S y = S.take p := by
  unfold headS; rw [if_pos h, hp, List.append_nil]
theorem flatE_single (y : EntD) : flatE [y] = entX y := by simp [flatE]
/-- a block that was built of one entry -/
theorem isS_one {w : World} {b : Nat} {t : TypeId} {q : Nat × Nat} {y : EntD} (h : w.heap[b]? = some (.cells #[.slice y.ra y.rl y.rc, .int .i64 y.n] t q)) (hr : RowE w y) : IsS w (some ⟨b, 0, none⟩) 1 [y] := by
  refine IsS.of_cells rfl (by omega) (Array.getElem?_eq_some_iff.1 h).1 (fun j u hu => ?_) (fun x hx => by obtain rfl := List.mem_singleton.1 hx; exact hr)
  rw [cell_of_row w b _ _ _ _ h, Nat.zero_add, ← hu, flatE_single, ← Array.getElem?_toList]
  rfl
/-- a row of the call's own is as it was behind an append of another one, which is younger -/
theorem own_past {w4 w5 : World} {B n m c : Nat} {e : TypeId} {size : Nat} {v : Value} {xs : List Value} {o : Obj} (h : w4.ownsRow B e size v n xs) (hg : (w4.alloc o).grownBy w5 (Value.slice (some ⟨w4.heap.size, 0, none⟩) m c).ownBlock) : w5.ownsRow B e size v n xs := by
  have h5 := h.lt
  refine (h.alloc _).kept hg ?_
  rcases hv : v.ownBlock with _ | k
  · exact .inl rfl
  · refine .inr (fun e => ?_)
    have h6 := (h5 k hv).2
    cases e
    exact absurd h6 (Nat.lt_irrefl _)
theorem rows_past {w3 wx w' : World} {v : Value} {n : Nat} {xs : List Value} {S : List EntD} (hr : ∀ x ∈ S, RowE w3 x) (hb : Below w3.heap.size w3 wx) (hown : wx.ownsRow w3.heap.size 106 2 v n xs) (hg : wx.grownBy w' v.ownBlock) : ∀ x ∈ S, RowE w' x := fun x hx => (hr x hx).below (hb.grown hg hb.size (fun k hk => (hown.lt k hk).1))
theorem AddMid.zero {w w3 w4 : World} {S : List EntD} {rv : List Val} {v1 : Value} {p n : Nat} {ra : Option Addr} {rl rc : Nat} (hp : p = posB (S.map entOf) (keyVs rv)) (hown : w4.ownsRow w3.heap.size 106 2 v1 n (flatE (S.take p))) (hn : n ≤ S.length) (hb3 : Below w.heap.size w w3) (hb : Below w3.heap.size w3 w4) (hr : ∀ x ∈ S, RowE w3 x) : AddMid w S rv 0 v1 w4 := by
  refine ⟨⟨ra, rl, rc, rv, 0⟩, n, rfl, rfl, ?_, by omega, fun w' hg x hx => ?_, bt hb3 hb⟩
  · rw [headS_no hp rfl]
    exact own_lower hown hb3.size
  · rw [headS_no hp rfl] at hx
    exact rows_past hr hb hown hg x (List.mem_of_mem_take hx)
theorem AddMid.some {w w3 w4 w5 w6 : World} {S : List EntD} {v1 : Value} {p n k g c : Nat} {x2 : SlN} {rv : List Val} {s : Int} {o : Obj} {xs : List Value} (hp : p = posB (S.map entOf) (keyVs rv)) (h0 : s ≠ 0)
    (hown : w6.ownsRow w3.heap.size 106 2 (.slice (some ⟨g, 0, none⟩) k c) n (flatE (S.take p) ++ flatE [⟨adA x2.1, x2.2.1, x2.2.2.1, rv, s⟩])) (hn : n ≤ S.length + 1) (hb3 : Below w.heap.size w w3) (hb : Below w3.heap.size w3 w6) (hr : ∀ x ∈ S, RowE w3 x)
    (hra : RowAt w5 w4.heap.size x2 rv) (hrg : ∀ v ∈ rv, -9223372036854775808 ≤ v.2.1 ∧ v.2.1 ≤ 9223372036854775807) (hin : in64 s) (h1 : w4.ownsRow w3.heap.size 106 2 v1 p xs) (hg : (w5.alloc o).grownBy w6 v1.ownBlock) (hor : v1.ownBlock = Option.some g ∨ g = (w5.alloc o).heap.size) : AddMid w S rv s (.slice (some ⟨g, 0, none⟩) k c) w6 := by
  have hra6 : RowAt w6 w4.heap.size x2 rv := (hra.below (bel0 o (Below.refl _ _))).only (Only.of (S := fun i => v1.ownBlock = Option.some i) hg (fun K h => h)) (fun b o' hx _ hS => by
    have h2 := (h1.lt b hS).2
    have h3 := (hra.2.2 b o' hx).1
    omega)
  refine ⟨⟨adA x2.1, x2.2.1, x2.2.2.1, rv, s⟩, n, rfl, rfl, ?_, hn, fun w' hg' x hx => ?_, bt hb3 hb⟩
  · rw [headS_yes hp h0, flatE_append]
    exact own_lower hown hb3.size
  · rw [headS_yes hp h0] at hx
    rcases List.mem_append.1 hx with hx | hx
    · exact rows_past hr hb hown hg' x (List.mem_of_mem_take hx)
    · obtain rfl := List.mem_singleton.1 hx
      have hra7 : RowAt w' w4.heap.size x2 rv := hra6.only (Only.of (S := fun i => Option.some g = Option.some i) hg' (fun K h => h)) (fun b o' hx _ hS => by
        cases hS
        have h3 := hra.2.2 g o' hx
        rcases hor with h | h
        · have h2 := (h1.lt g h).2
          omega
        · simp at h
          omega)
      exact ⟨hra7.1, hrg, hra7.2.1, hin⟩
/-- one entry behind the call's own ones, and where that lies -/
theorem wpList_append_e1 (w : World) {ops : Array Oper} {rest : List Oper} {o : Oper} {a : Act} {Q : Exit → Act → World → Prop} (hgd : o.guard = none) (s x : Operand) (t e : TypeId) (hT : EntT t e)
    (ho : o.op = .call { callee := .builtin .append, args := #[s, x], argTypes := #[t, t] })
    (base : Nat) (v : Value) (n : Nat) (xs : List Value) (hs : a.eval s = v) (hown : w.ownsRow base e 2 v n xs)
    (b : Nat) (y : EntD) (hx : a.eval x = .slice (some ⟨b, 0, none⟩) 1 1) (hI : IsS w (some ⟨b, 0, none⟩) 1 [y]) (hnm : n ≤ 90000) (hbase : base ≤ w.heap.size)
    (h : ∀ g cap w', w'.ownsRow base e 2 (.slice (some ⟨g, 0, none⟩) (n + 1) cap) (n + 1) (xs ++ flatE [y]) → w.grownBy w' v.ownBlock → (v.ownBlock = some g ∨ g = w.heap.size) → g < w'.heap.size → wpList Try.prog ops Q rest (a.put o.dst (.slice (some ⟨g, 0, none⟩) (n + 1) cap)) w') : wpList Try.prog ops Q (o :: rest) a w := by
  obtain ⟨i0, hi, hz0, hz1, hz2⟩ := info_parts hT.info
  exact wpList_append_lies w hgd s x t ho base e i0 (.agg #[.slice none 0 0, .int .i64 0]) 2 32 hT.ut hi hz0 hz1 hz2 rfl (by decide) v n xs hs hown ⟨b, 0, none⟩ 1 1 (flatE [y]) hx (by rw [flatE_length]; rfl) hI.cells (flatE_one _) (by omega) (by unfold maxLen; omega) (by omega) hbase _ rfl h
theorem step_append_e1 (w : World) {ops : Array Oper} {o : Oper} {a : Act} {K : Act → World → Prop} {Q : Exit → Act → World → Prop} {Z : Prop} (hgd : o.guard = none) (s x : Operand) (t e : TypeId) (hT : EntT t e)
    (ho : o.op = .call { callee := .builtin .append, args := #[s, x], argTypes := #[t, t] })
    (base : Nat) (v : Value) (n : Nat) (xs : List Value) (hs : a.eval s = v) (hown : w.ownsRow base e 2 v n xs)
    (b : Nat) (y : EntD) (hx : a.eval x = .slice (some ⟨b, 0, none⟩) 1 1) (hI : IsS w (some ⟨b, 0, none⟩) 1 [y]) (hnm : n ≤ 90000) (hbase : base ≤ w.heap.size)
    (h : ∀ g cap w', w'.ownsRow base e 2 (.slice (some ⟨g, 0, none⟩) (n + 1) cap) (n + 1) (xs ++ flatE [y]) → w.grownBy w' v.ownBlock → (v.ownBlock = some g ∨ g = w.heap.size) → g < w'.heap.size → K (a.put o.dst (.slice (some ⟨g, 0, none⟩) (n + 1) cap)) w') : if Region.wanted o (yielded ops a.tmps) = true then Oper.wp Try.prog o a w K Q else Z := by
  obtain ⟨i0, hi, hz0, hz1, hz2⟩ := info_parts hT.info
  exact step_append_lies w hgd s x t ho base e i0 (.agg #[.slice none 0 0, .int .i64 0]) 2 32 hT.ut hi hz0 hz1 hz2 rfl (by decide) v n xs hs hown ⟨b, 0, none⟩ 1 1 (flatE [y]) hx (by rw [flatE_length]; rfl) hI.cells (flatE_one _) (by omega) (by unfold maxLen; omega) (by omega) hbase _ rfl h
theorem DAdd.put {w wx w' : World} {E : Nat} {S : List EntD} {rv : List Val} {s : Int} {y : EntD} {n : Nat} {v : Value} (h : DocB w E S) (hb : Below w.heap.size w wx) (hy : y.rv = rv) (hs : y.n = s) (hok : (∀ v ∈ rv, okV v) ∧ rv.length ≤ 50) (hi : in64 s)
    (hown : wx.ownsRow w.heap.size 106 2 v n (flatE (putS S y))) (hr : ∀ x ∈ putS S y, RowE wx x) (hw : w' = wx.setCell ⟨E, 0, none⟩ v) : DAdd w E S (putB (S.map entOf) rv s, 0) (.returned (.int .i64 0)) w' := by
  subst hw hy hs
  obtain ⟨a, l, c, hbx, _, _, _⟩ := (h.below hb).bx
  obtain ⟨a', c', rfl, hI, hlc, ha⟩ := es_of_own hown hr
  have hsole : ∀ i, i = E → Sole wx i := (h.below hb).sole
  have ho : Only (fun i => i = E) wx (wx.setCell ⟨E, 0, none⟩ (.slice a' n c')) := Only.set (S := fun i => i = E) (Only.refl _ _) rfl _
  refine ⟨rfl, putS S y, putS_map S y, putS_length S y, ⟨⟨a', n, c', Go.heap_setCell_same wx E 0 _ _ _ hbx, hI.sole ho hsole, hlc, ?_⟩, ?_⟩, ((only_below hb).mono (fun _ => False.elim)).trans ho⟩
  · rcases ha with h0 | ⟨g, h0, _⟩
    · exact .inl h0
    · exact .inr ⟨g, h0⟩
  · rw [putS_map]
    exact h.ok.put hok hi
theorem add_fin {w w7 w' : World} {E : Nat} {S T : List EntD} {rv : List Val} {s : Int} {y : EntD} {n : Nat} {v : Value} {e : Ending} (h : DocB w E S) (hb : Below w.heap.size w w7) (hy : y.rv = rv) (hs : y.n = s) (hok : (∀ v ∈ rv, okV v) ∧ rv.length ≤ 50) (hi : in64 s)
    (hown : w7.ownsRow w.heap.size 106 2 v n (flatE (headS S y) ++ flatE T)) (hT : T = S.drop (posB (S.map entOf) (keyVs y.rv) + (hitB (S.map entOf) (keyVs y.rv)).toNat)) (hr : ∀ x ∈ headS S y, RowE w7 x) (he : e = .returned (.int .i64 0)) (hw : w' = w7.setCell ⟨E, 0, none⟩ v) : DAdd w E S (putB (S.map entOf) rv s, 0) e w' := by
  subst he
  have hrS : ∀ x ∈ S, RowE w7 x := fun x hx => by
    obtain ⟨_, _, _, _, hI, _⟩ := h.bx
    exact (hI.rows x hx).below hb
  refine DAdd.put h hb hy hs hok hi (by rw [putS_head, flatE_append, ← hT]; exact hown) (fun x hx => ?_) hw
  rw [putS_head] at hx
  rcases List.mem_append.1 hx with hx | hx
  · exact hr x hx
  · exact hrS x (List.mem_of_mem_drop hx)
set_option maxHeartbeats 6400000 in
theorem dadd_any (w : World) (E : Nat) (S : List EntD) (ra : Option Addr) (rl rc : Nat) (rv : List Val) (x : Int) (h : DocB w E S) (hv : IsV w ra rl rv) (hrg : ∀ v ∈ rv, -9223372036854775808 ≤ v.2.1 ∧ v.2.1 ≤ 9223372036854775807) (hnil : ra = none → rl = 0 ∧ rc = 0) (hx : in64 x) (hl : rl ≤ 50) (hlen : S.length ≤ 10000) :
    Calls Try.prog 53 #[.pointer (some ⟨E, 0, none⟩), .slice ra rl rc, .int .i64 x] w (DAdd w E S (addB (S.map entOf) rv x)) := by
  have HD := Lib.hid h
  have HV := Lib.hid hv
  have HRg := Lib.hid hrg
  have HN := Lib.hid hnil
  have HX := Lib.hid hx
  clear h hv hrg hnil hx
  cases hf : allF rv with
  | false =>
    have HF := Lib.hid hf
    have HAd := Lib.hid (show addB (S.map entOf) rv x = (S.map entOf, 1) by unfold addB; rw [if_neg (by rw [hf]; simp)])
    rw [HAd.out]
    clear hf
    go_enter Try.func53, Try.ntmps53
    go_wp2_with fail
    refine (formedRow_any ra rl rc rv w HV.out).mono ?_
    rintro e w1 ⟨rfl, hb1⟩
    have HB1 := Lib.hid hb1
    clear hb1
    rw [HF.out]
    go_wp2
    go_ret
    exact DAdd.same HD.out HB1.out
  | true =>
    have HF := Lib.hid hf
    have HOk := Lib.hid (show ∀ v ∈ rv, okV v from allF_ok hf HRg.out)
    have HQ0 := Lib.hid (cnt_in HD.out.ok.sort HD.out.ok.num (keyVs rv))
    obtain ⟨q, hq⟩ : ∃ q, q = cntB (S.map entOf) (keyVs rv) := ⟨_, rfl⟩
    have HQ := Lib.hid hq
    rw [← hq] at HQ0
    have HAd := Lib.hid (show addB (S.map entOf) rv x = if in64 (q + x) then (putB (S.map entOf) rv (q + x), 0) else (S.map entOf, 13) by unfold addB; rw [if_pos hf, hq])
    clear hf hq
    by_cases hin : in64 (q + x)
    · have HIn := Lib.hid hin
      have HPs := Lib.hid (show ∀ W : World, Calls Try.prog 114 #[.int .i64 q, .int .i64 x] W fun e w' => e = .returned (.tuple #[.int .i64 (q + x), .bool true]) ∧ W = w' from fun W => (dplus_any q x HQ0 HX W).mono fun e w' h => ⟨by rw [h.1]; unfold sumE sumV; rw [if_pos hin, decide_eq_true hin], h.2⟩)
      rw [HAd.out, if_pos hin]
      clear hin
      obtain ⟨s, hs⟩ : ∃ s, s = q + x := ⟨_, rfl⟩
      rw [← hs] at HIn HPs ⊢
      go_enter Try.func53, Try.ntmps53
      go_wp2_with fail
      refine (formedRow_any ra rl rc rv w HV.out).mono ?_
      rintro e w1 ⟨rfl, hb1⟩
      have HB1 := Lib.hid hb1
      clear hb1
      rw [HF.out]
      go_wp2_with fail
      refine (dat_any w1 E S ra rl rc rv (HD.out.below HB1.out) (HV.out.below HB1.out) HOk.out).mono ?_
      rintro e w2 ⟨rfl, hb2⟩
      have HB2 := Lib.hid (bt HB1.out hb2)
      have HPl := Lib.hid (show posB (S.map entOf) (keyVs rv) ≤ S.length by have := posB_le (S.map entOf) (keyVs rv); rwa [List.length_map] at this)
      obtain ⟨p, hp⟩ : ∃ p, p = posB (S.map entOf) (keyVs rv) := ⟨_, rfl⟩
      obtain ⟨hit, hhit⟩ : ∃ hit, hit = hitB (S.map entOf) (keyVs rv) := ⟨_, rfl⟩
      have HHl := Lib.hid (show hit = true → p < S.length from fun h => by
        have := hitB_lt (L := S.map entOf) (key := keyVs rv) (by rw [← hhit]; exact h)
        rwa [List.length_map, ← hp] at this)
      rw [← hp] at HPl
      rw [← hp, ← hhit]
      have HP := Lib.hid hp
      have HH := Lib.hid hhit
      clear hb2 hp hhit
      go_wp2_with fail
      refine (dcount_any w2 E S ra rl rc rv (HD.out.below HB2.out) (HV.out.below HB2.out) HOk.out).mono ?_
      rintro e w3 ⟨rfl, hb3⟩
      have HB3 := Lib.hid (bt HB2.out hb3)
      rw [← HQ.out]
      clear hb3
      go_wp2_with fail
      refine (HPs.out w3).mono ?_
      rintro e w4 ⟨rfl, hw⟩
      subst hw
      obtain ⟨a, l, c, hbx, hI0, hlc, hn⟩ := HD.out.bx
      have hI := hI0.below HB3.out
      clear hI0
      have HE := Lib.hid (fun (W : World) (hb : Below w.heap.size w W) => show W.cell? ⟨E, 0, none⟩ = some (.slice a l c) ∧ W.frozen? ⟨E, 0, none⟩ = false from ⟨cell_of_row W E 0 _ _ _ ((hb.block E HD.out.lt).trans hbx), frozen_of_row W E 0 _ _ ((hb.block E HD.out.lt).trans hbx)⟩)
      have h0 := (HE.out w3 HB3.out).1
      have HI := Lib.hid hI
      have hl1 : S.length = l := hI.1
      have hm := hI.2.1
      have hpl : p ≤ l := by have := HPl.out; omega
      have hp0 : (0 : Int) ≤ (p : Int) := by omega
      have hpl2 : (p : Int) ≤ (l : Int) := by omega
      have hpc : (p : Int) ≤ (c : Int) := by omega
      have HLc := Lib.hid hlc
      clear hs hI hbx HAd hlc
      rcases hn with ⟨rfl, rfl, rfl⟩ | ⟨g, rfl⟩
      · obtain rfl : p = 0 := by omega
        go_upto_if 40 with (at_builtin; refine wpList_append_es _ rfl (.tmp 31) (.tmp 37) 22 106 entT_doc rfl w3.heap.size (.slice none 0 0) 0 [] rfl (World.ownsRow_nil _ _ _ _) none 0 0 (S.take 0) rfl (HI.out.take (Nat.zero_le _)) (fun _ => ⟨rfl, rfl⟩) (by omega) (Nat.le_refl _) ?_; intro v1 w4 hown1 hg1)
        clear h0
        go_cut [11] (fun v wx => Hid (AddMid w S rv s v wx ∧ Below w3.heap.size w3 wx))
        case first =>
          have hb4 : Below w3.heap.size w3 w4 := (Below.refl _ _).grown hg1 (Nat.le_refl _) (fun j hj => by cases hj)
          have HB4 := Lib.hid hb4
          have HO1 := Lib.hid (show w4.ownsRow w3.heap.size 106 2 v1 0 (flatE (S.take 0)) by simpa using hown1)
          clear hown1 hg1 hb4
          by_cases hs0 : s = 0
          · subst hs0
            go_wp2_with fail
            go_meet
            exact Lib.hid ⟨AddMid.zero (ra := ra) (rl := rl) (rc := rc) HP.out HO1.out HPl.out HB3.out HB4.out HI.out.rows, HB4.out⟩
          · have hsb : (s != 0) = true := bne_iff_ne.2 hs0
            have HS0 := Lib.hid hs0
            have HVl := Lib.hid HV.out.1
            clear hs0
            go_wp2_with (first
              | (at_builtin; refine wpList_append_vals _ rfl (.tmp 42) (.tmp 43) rfl w4.heap.size _ 0 [] rfl (World.ownsRow_lit (base := w4.heap.size) (e := 46) (size := 3) w4 #[] 0 (Nat.le_refl _) (by unfold maxLen; omega) rfl) ra rl rc rv rfl (HV.out.below (bt HB3.out (bt HB4.out (bel0 _ (Below.refl _ _))))) HN.out (by omega) (by simp) ?_; intro v2 w5 hown2 hg2; obtain ⟨x2, rfl, hra2, hlc2⟩ := row_of_own (show w5.ownsRow w4.heap.size 46 3 v2 (0 + rl) (flatX rv) by simpa using hown2); have hb5 : Below w4.heap.size w4 w5 := (bel0 (.cells #[] 46) (Below.refl w4.heap.size w4)).grown hg2 (by simp) (fun k hk => by cases hk; exact Nat.le_refl _); have HB5 := Lib.hid hb5; have hre : RowE w5 ⟨adA x2.1, x2.2.1, x2.2.2.1, rv, s⟩ := ⟨hra2.1, HRg.out, hra2.2.1, HIn.out⟩; have HRe := Lib.hid hre; have HRa := Lib.hid hra2; have HO2 := Lib.hid (own_past HO1.out hg2); clear hown2 hg2 hb5 hra2 hlc2 hre)
              | (at_builtin; refine wpList_append_e1 _ rfl (.tmp 41) (.tmp 47) 22 106 entT_doc rfl w3.heap.size v1 0 (flatE (S.take 0)) rfl (HO2.out.alloc _) w5.heap.size ⟨adA x2.1, x2.2.1, x2.2.2.1, rv, s⟩ rfl (isS_one (Go.heap_alloc_new _ _) (HRe.out.below (bel0 _ (Below.refl _ _)))) (by omega) (by have := HB4.out.size; have := HB5.out.size; simp; omega) ?_; intro g3 c3 w6 hown3 hg3 hor3 hlt3))
            have hb6 : Below w3.heap.size w3 w6 := (bt HB4.out (bt HB5.out (bel0 _ (Below.refl _ _)))).grown hg3 (by have := HB4.out.size; have := HB5.out.size; simp; omega) (fun k hk => (HO2.out.lt k hk).1)
            go_meet
            exact Lib.hid ⟨AddMid.some HP.out HS0.out hown3 (by omega) HB3.out hb6 HI.out.rows HRa.out HRg.out HIn.out HO1.out hg3 hor3, hb6⟩
        case rest =>
          obtain ⟨⟨y, n, hy, hsy, hown, hn, hrows, hbm⟩, hb3c⟩ := hcut.out
          have h0 := (HE.out wc hbm).1
          have HIc := Lib.hid (HI.out.below hb3c)
          have HOw := Lib.hid hown
          have HBm := Lib.hid hbm
          have HRw := Lib.hid hrows
          have HYv := Lib.hid hy
          have HYn := Lib.hid hsy
          clear hy hsy hown hrows hbm hcut hb3c
          cases hit with
          | true => have := HHl.out rfl; omega
          | false =>
            go_wp2_with (at_builtin; refine wpList_append_es _ rfl (.tmp 53) (.tmp 59) 22 106 entT_doc rfl w.heap.size u11 n _ rfl HOw.out none 0 0 (S.drop 0) rfl HIc.out (fun _ => ⟨rfl, rfl⟩) (by omega) HBm.out.size ?_; intro v5 w7 hown5 hg5; obtain ⟨a5, l5, c5, rfl⟩ := own_slice hown5; have hb7 := HBm.out.grown hg5 HBm.out.size (fun k hk => (HOw.out.lt k hk).1); obtain ⟨h7, z7⟩ := HE.out w7 hb7)
            go_ret
            exact add_fin HD.out hb7 HYv.out HYn.out ⟨HOk.out, by have := HV.out.1; omega⟩ HIn.out hown5 (by rw [HYv.out, ← HP.out, ← HH.out]; first | rfl | exact (List.drop_eq_nil_of_le (by simp; omega)).symm) (HRw.out w7 hg5) rfl rfl
      · go_upto_if 40 with (at_builtin; refine wpList_append_es _ rfl (.tmp 31) (.tmp 37) 22 106 entT_doc rfl w3.heap.size (.slice none 0 0) 0 [] rfl (World.ownsRow_nil _ _ _ _) (some ⟨g, 0, none⟩) p c (S.take p) rfl (HI.out.take hpl) (fun h => by cases h) (by omega) (Nat.le_refl _) ?_; intro v1 w4 hown1 hg1)
        clear h0
        go_cut [11] (fun v wx => Hid (AddMid w S rv s v wx ∧ Below w3.heap.size w3 wx))
        case first =>
          have hb4 : Below w3.heap.size w3 w4 := (Below.refl _ _).grown hg1 (Nat.le_refl _) (fun j hj => by cases hj)
          have HB4 := Lib.hid hb4
          have HO1 := Lib.hid (show w4.ownsRow w3.heap.size 106 2 v1 p (flatE (S.take p)) by simpa using hown1)
          clear hown1 hg1 hb4
          by_cases hs0 : s = 0
          · subst hs0
            go_wp2_with fail
            go_meet
            exact Lib.hid ⟨AddMid.zero (ra := ra) (rl := rl) (rc := rc) HP.out HO1.out HPl.out HB3.out HB4.out HI.out.rows, HB4.out⟩
          · have hsb : (s != 0) = true := bne_iff_ne.2 hs0
            have HS0 := Lib.hid hs0
            have HVl := Lib.hid HV.out.1
            clear hs0
            go_wp2_with (first
              | (at_builtin; refine wpList_append_vals _ rfl (.tmp 42) (.tmp 43) rfl w4.heap.size _ 0 [] rfl (World.ownsRow_lit (base := w4.heap.size) (e := 46) (size := 3) w4 #[] 0 (Nat.le_refl _) (by unfold maxLen; omega) rfl) ra rl rc rv rfl (HV.out.below (bt HB3.out (bt HB4.out (bel0 _ (Below.refl _ _))))) HN.out (by omega) (by simp) ?_; intro v2 w5 hown2 hg2; obtain ⟨x2, rfl, hra2, hlc2⟩ := row_of_own (show w5.ownsRow w4.heap.size 46 3 v2 (0 + rl) (flatX rv) by simpa using hown2); have hb5 : Below w4.heap.size w4 w5 := (bel0 (.cells #[] 46) (Below.refl w4.heap.size w4)).grown hg2 (by simp) (fun k hk => by cases hk; exact Nat.le_refl _); have HB5 := Lib.hid hb5; have hre : RowE w5 ⟨adA x2.1, x2.2.1, x2.2.2.1, rv, s⟩ := ⟨hra2.1, HRg.out, hra2.2.1, HIn.out⟩; have HRe := Lib.hid hre; have HRa := Lib.hid hra2; have HO2 := Lib.hid (own_past HO1.out hg2); clear hown2 hg2 hb5 hra2 hlc2 hre)
              | (at_builtin; refine wpList_append_e1 _ rfl (.tmp 41) (.tmp 47) 22 106 entT_doc rfl w3.heap.size v1 p (flatE (S.take p)) rfl (HO2.out.alloc _) w5.heap.size ⟨adA x2.1, x2.2.1, x2.2.2.1, rv, s⟩ rfl (isS_one (Go.heap_alloc_new _ _) (HRe.out.below (bel0 _ (Below.refl _ _)))) (by omega) (by have := HB4.out.size; have := HB5.out.size; simp; omega) ?_; intro g3 c3 w6 hown3 hg3 hor3 hlt3))
            have hb6 : Below w3.heap.size w3 w6 := (bt HB4.out (bt HB5.out (bel0 _ (Below.refl _ _)))).grown hg3 (by have := HB4.out.size; have := HB5.out.size; simp; omega) (fun k hk => (HO2.out.lt k hk).1)
            go_meet
            exact Lib.hid ⟨AddMid.some HP.out HS0.out hown3 (by omega) HB3.out hb6 HI.out.rows HRa.out HRg.out HIn.out HO1.out hg3 hor3, hb6⟩
        case rest =>
          obtain ⟨⟨y, n, hy, hsy, hown, hn, hrows, hbm⟩, hb3c⟩ := hcut.out
          have h0 := (HE.out wc hbm).1
          have HIc := Lib.hid (HI.out.below hb3c)
          have HOw := Lib.hid hown
          have HBm := Lib.hid hbm
          have HRw := Lib.hid hrows
          have HYv := Lib.hid hy
          have HYn := Lib.hid hsy
          clear hy hsy hown hrows hbm hcut hb3c
          cases hit with
          | true =>
            have hpl3 : p + 1 ≤ l := by have := HHl.out rfl; omega
            have hpl4 : (p : Int) + 1 ≤ (l : Int) := by omega
            have hpl5 : (p : Int) + 1 ≤ (c : Int) := by have := HLc.out; omega
            have hpl6 : (((p + 1 : Nat) : Int)) = (p : Int) + 1 := by omega
            by_cases hcp : c = (p + 1)
            · obtain rfl : l = c := by have := HLc.out; omega
              subst hcp
              go_wp2_with (at_builtin; refine wpList_append_es _ rfl (.tmp 53) (.tmp 59) 22 106 entT_doc rfl w.heap.size u11 n _ rfl HOw.out (some ⟨g, 0, none⟩) 0 0 [] rfl (IsS.nil _ _) (fun h => by cases h) (by omega) HBm.out.size ?_; intro v5 w7 hown5 hg5; obtain ⟨a5, l5, c5, rfl⟩ := own_slice hown5; have hb7 := HBm.out.grown hg5 HBm.out.size (fun k hk => (HOw.out.lt k hk).1); obtain ⟨h7, z7⟩ := HE.out w7 hb7)
              go_ret
              exact add_fin HD.out hb7 HYv.out HYn.out ⟨HOk.out, by have := HV.out.1; omega⟩ HIn.out hown5 (by rw [HYv.out, ← HP.out, ← HH.out]; first | rfl | exact (List.drop_eq_nil_of_le (by simp; omega)).symm) (HRw.out w7 hg5) rfl rfl
            · have hcp1 : ¬ (c - (p + 1) = 0) := by have := HLc.out; omega
              go_wp2_with (at_builtin; refine wpList_append_es _ rfl (.tmp 53) (.tmp 59) 22 106 entT_doc rfl w.heap.size u11 n _ rfl HOw.out (some ⟨g, (p + 1) * 2, none⟩) (l - (p + 1)) (c - (p + 1)) (S.drop (p + 1)) rfl (by have := HIc.out.drop hpl3; rwa [Nat.zero_add] at this) (fun h => by cases h) (by omega) HBm.out.size ?_; intro v5 w7 hown5 hg5; obtain ⟨a5, l5, c5, rfl⟩ := own_slice hown5; have hb7 := HBm.out.grown hg5 HBm.out.size (fun k hk => (HOw.out.lt k hk).1); obtain ⟨h7, z7⟩ := HE.out w7 hb7)
              go_ret
              exact add_fin HD.out hb7 HYv.out HYn.out ⟨HOk.out, by have := HV.out.1; omega⟩ HIn.out hown5 (by rw [HYv.out, ← HP.out, ← HH.out]; first | rfl | exact (List.drop_eq_nil_of_le (by simp; omega)).symm) (HRw.out w7 hg5) rfl rfl
          | false =>
            by_cases hcp : c = p
            · obtain rfl : l = c := by have := HLc.out; omega
              subst hcp
              go_wp2_with (at_builtin; refine wpList_append_es _ rfl (.tmp 53) (.tmp 59) 22 106 entT_doc rfl w.heap.size u11 n _ rfl HOw.out (some ⟨g, 0, none⟩) 0 0 [] rfl (IsS.nil _ _) (fun h => by cases h) (by omega) HBm.out.size ?_; intro v5 w7 hown5 hg5; obtain ⟨a5, l5, c5, rfl⟩ := own_slice hown5; have hb7 := HBm.out.grown hg5 HBm.out.size (fun k hk => (HOw.out.lt k hk).1); obtain ⟨h7, z7⟩ := HE.out w7 hb7)
              go_ret
              exact add_fin HD.out hb7 HYv.out HYn.out ⟨HOk.out, by have := HV.out.1; omega⟩ HIn.out hown5 (by rw [HYv.out, ← HP.out, ← HH.out]; first | rfl | exact (List.drop_eq_nil_of_le (by simp; omega)).symm) (HRw.out w7 hg5) rfl rfl
            · have hcp1 : ¬ (c - p = 0) := by have := HLc.out; omega
              go_wp2_with (at_builtin; refine wpList_append_es _ rfl (.tmp 53) (.tmp 59) 22 106 entT_doc rfl w.heap.size u11 n _ rfl HOw.out (some ⟨g, p * 2, none⟩) (l - p) (c - p) (S.drop p) rfl (by have := HIc.out.drop hpl; rwa [Nat.zero_add] at this) (fun h => by cases h) (by omega) HBm.out.size ?_; intro v5 w7 hown5 hg5; obtain ⟨a5, l5, c5, rfl⟩ := own_slice hown5; have hb7 := HBm.out.grown hg5 HBm.out.size (fun k hk => (HOw.out.lt k hk).1); obtain ⟨h7, z7⟩ := HE.out w7 hb7)
              go_ret
              exact add_fin HD.out hb7 HYv.out HYn.out ⟨HOk.out, by have := HV.out.1; omega⟩ HIn.out hown5 (by rw [HYv.out, ← HP.out, ← HH.out]; first | rfl | exact (List.drop_eq_nil_of_le (by simp; omega)).symm) (HRw.out w7 hg5) rfl rfl
    · have HPs := Lib.hid (show ∀ W : World, Calls Try.prog 114 #[.int .i64 q, .int .i64 x] W fun e w' => e = .returned (.tuple #[.int .i64 0, .bool false]) ∧ W = w' from fun W => (dplus_any q x HQ0 HX W).mono fun e w' h => ⟨by rw [h.1]; unfold sumE sumV; rw [if_neg hin, decide_eq_false hin], h.2⟩)
      rw [HAd.out, if_neg hin]
      clear hin
      go_enter Try.func53, Try.ntmps53
      go_wp2_with fail
      refine (formedRow_any ra rl rc rv w HV.out).mono ?_
      rintro e w1 ⟨rfl, hb1⟩
      have HB1 := Lib.hid hb1
      clear hb1
      rw [HF.out]
      go_wp2_with fail
      refine (dat_any w1 E S ra rl rc rv (HD.out.below HB1.out) (HV.out.below HB1.out) HOk.out).mono ?_
      rintro e w2 ⟨rfl, hb2⟩
      have HB2 := Lib.hid (bt HB1.out hb2)
      have HPl := Lib.hid (show posB (S.map entOf) (keyVs rv) ≤ S.length by have := posB_le (S.map entOf) (keyVs rv); rwa [List.length_map] at this)
      obtain ⟨p, hp⟩ : ∃ p, p = posB (S.map entOf) (keyVs rv) := ⟨_, rfl⟩
      obtain ⟨hit, hhit⟩ : ∃ hit, hit = hitB (S.map entOf) (keyVs rv) := ⟨_, rfl⟩
      have HHl := Lib.hid (show hit = true → p < S.length from fun h => by
        have := hitB_lt (L := S.map entOf) (key := keyVs rv) (by rw [← hhit]; exact h)
        rwa [List.length_map, ← hp] at this)
      rw [← hp] at HPl
      rw [← hp, ← hhit]
      have HP := Lib.hid hp
      have HH := Lib.hid hhit
      clear hb2 hp hhit
      go_wp2_with fail
      refine (dcount_any w2 E S ra rl rc rv (HD.out.below HB2.out) (HV.out.below HB2.out) HOk.out).mono ?_
      rintro e w3 ⟨rfl, hb3⟩
      have HB3 := Lib.hid (bt HB2.out hb3)
      rw [← HQ.out]
      clear hb3
      go_wp2_with fail
      refine (HPs.out w3).mono ?_
      rintro e w4 ⟨rfl, hw⟩
      subst hw
      go_wp2
      go_ret
      exact DAdd.same HD.out HB3.out
end Go.Proofs.Ytplgkblahmndoaa
