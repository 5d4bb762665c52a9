/- ExprBack, pure: an expression's text has the expression's words. -/
import Derived.Test.YtpinalpigefenaaGreatDoorBkRead
import Derived.Test.YtpinalpigefenaaGreatDoorBkTok
set_option linter.unusedVariables false
set_option linter.unusedSimpArgs false
set_option maxRecDepth 100000
namespace Go.Proofs.YtpinalpigefenaaGreatDoor
open Go.RowKit
/-- in ( ), or not -/
def parK (b : Bool) (l : List Tok) : List Tok := if b then l else some (4, [40], 0) :: (l ++ [some (4, [41], 0)])
/-- an expression's text, as words and blanks -/
def pK : Nat → ET → List Tok
  | 0, _ => []
  | n + 1, e =>
    if e.kind = 1 then (if e.vk = 1 then [some (2, dgt e.vn, e.vn)] else if e.vk = 2 then [some (3, e.vs.data.toList, 0)] else [some (1, [78, 85, 76, 76], 0)])
    else if e.kind = 2 then (if e.tab = ⟨#[]⟩ then [some (1, e.col.data.toList, 0)] else [some (1, e.tab.data.toList, 0), some (4, [46], 0), some (1, e.col.data.toList, 0)])
    else match e.parts with
      | [] => [some (1, e.op.data.toList, 0), some (4, [40], 0), some (4, [42], 0), some (4, [41], 0)]
      | p :: r =>
        if e.kind = 6 then some (1, e.op.data.toList, 0) :: some (4, [40], 0) :: (pK n p ++ [some (4, [41], 0)])
        else if e.kind = 3 then (if e.op = bs [78, 79, 84] then some (1, [78, 79, 84], 0) :: none :: parK (decide (3 ≤ lvlE p)) (pK n p) else some (4, [45], 0) :: parK (decide (8 ≤ lvlE p)) (pK n p))
        else if e.kind = 5 then parK (decide (5 ≤ lvlE p)) (pK n p) ++ none :: some (1, [73, 83], 0) :: none :: (if e.op = bs [73, 83, 32, 78, 85, 76, 76] then [some (1, [78, 85, 76, 76], 0)] else [some (1, [78, 79, 84], 0), none, some (1, [78, 85, 76, 76], 0)])
        else match r with
          | [] => []
          | q :: _ => parK (decide (leftL (lvlE e) ≤ lvlE p)) (pK n p) ++ none :: some (opK e.op.data.toList, e.op.data.toList, 0) :: none :: parK (decide (lvlE e + 1 ≤ lvlE q)) (pK n q)
/-- its text -/
def prT (n : Nat) (e : ET) : Bs := textK (pK n e)
theorem words_par (b : Prop) [Decidable b] (l : List Tok) (ws : List Wd) (h : wordsK l = ws) : wordsK (parK (decide b) l) = if b then ws else (4, [40], 0) :: (ws ++ [(4, [41], 0)]) := by
  unfold parK
  by_cases hb : b
  · rw [decide_eq_true hb, if_pos rfl, if_pos hb, h]
  · rw [decide_eq_false hb, if_neg (by simp), if_neg hb]
    show (4, [40], 0) :: wordsK (l ++ _) = _
    rw [wordsK_app, h]
    rfl
theorem words_pK : ∀ (n : Nat) (e : ET), wordsK (pK n e) = wT n e
  | 0, _ => rfl
  | n + 1, e => by
    unfold pK wT
    by_cases k1 : e.kind = 1
    · rw [if_pos k1, if_pos k1]
      split
      · rfl
      · split <;> rfl
    rw [if_neg k1, if_neg k1]
    by_cases k2 : e.kind = 2
    · rw [if_pos k2, if_pos k2]
      split <;> rfl
    rw [if_neg k2, if_neg k2]
    cases e.parts with
    | nil => rfl
    | cons p r =>
      have ih := words_pK n p
      dsimp only
      by_cases k6 : e.kind = 6
      · rw [if_pos k6, if_pos k6]
        show _ :: _ :: wordsK (pK n p ++ _) = _
        rw [wordsK_app, ih]
        rfl
      rw [if_neg k6, if_neg k6]
      by_cases k3 : e.kind = 3
      · rw [if_pos k3, if_pos k3]
        by_cases ho : e.op = bs [78, 79, 84]
        · rw [if_pos ho, if_pos ho]
          show _ :: wordsK (parK _ _) = _
          rw [words_par _ _ _ ih]
        · rw [if_neg ho, if_neg ho]
          show _ :: wordsK (parK _ _) = _
          rw [words_par _ _ _ ih]
      rw [if_neg k3, if_neg k3]
      by_cases k5 : e.kind = 5
      · rw [if_pos k5, if_pos k5, wordsK_app, words_par _ _ _ ih]
        congr 1
        show _ :: wordsK _ = _
        split <;> rfl
      rw [if_neg k5, if_neg k5]
      cases r with
      | nil => rfl
      | cons q r =>
        dsimp only
        rw [wordsK_app, words_par _ _ _ ih]
        congr 1
        show _ :: wordsK (parK _ _) = _
        rw [words_par _ _ _ (words_pK n q)]
/-- what may stand behind an expression -/
def Fo (r : Bs) : Prop := Sp r ∧ r.head? ≠ some 39
theorem fo_nil : Fo [] := ⟨sp_nil, by simp⟩
theorem fo_low {b : UInt8} (t : Bs) (h : b.toNat < 128 ∧ ndL b.toNat = false ∧ b ≠ 39) : Fo (b :: t) := ⟨sp_low t h.1 h.2.1, by simpa using h.2.2⟩
theorem rdw_sg {b : UInt8} (h : b = 40 ∨ b = 41 ∨ b = 42 ∨ b = 46 ∨ b = 44 ∨ b = 59 ∨ b = 43 ∨ b = 61) (r : Bs) : Rdw (4, [b], 0) r := by
  rcases h with rfl | rfl | rfl | rfl | rfl | rfl | rfl | rfl <;> exact rdw_sign (by decide) (fun e => absurd e (by decide)) (fun e => absurd e (by decide)) (fun e => absurd e (by decide))
theorem rdw_op {t : Bs} (h : levB t ≠ 0) (r : Bs) : Rdw (opK t, t, 0) (32 :: r) := by
  unfold levB at h
  by_cases h1 : t = [79, 82]
  · subst h1; exact rdw_kw (l := [79, 82]) (by decide) (fo_low r (by decide)).1
  rw [if_neg h1] at h
  by_cases h2 : t = [65, 78, 68]
  · subst h2; exact rdw_kw (l := [65, 78, 68]) (by decide) (fo_low r (by decide)).1
  rw [if_neg h2] at h
  have hk : opK t = 4 := by unfold opK; rw [if_neg (by simp [h1, h2])]
  rw [hk]
  by_cases h4 : t = [61] ∨ t = [60, 62] ∨ t = [60] ∨ t = [60, 61] ∨ t = [62] ∨ t = [62, 61]
  · rcases h4 with rfl | rfl | rfl | rfl | rfl | rfl
    · exact rdw_sg (by decide) _
    · exact rdw_two (by decide) _
    · exact rdw_sign (by decide) (fun e => absurd e (by decide)) (fun _ => ⟨by simp, by simp⟩) (fun e => absurd e (by decide))
    · exact rdw_two (by decide) _
    · exact rdw_sign (by decide) (fun e => absurd e (by decide)) (fun e => absurd e (by decide)) (fun _ => by simp)
    · exact rdw_two (by decide) _
  rw [if_neg h4] at h
  by_cases h5 : t = [43] ∨ t = [45]
  · rcases h5 with rfl | rfl
    · exact rdw_sg (by decide) _
    · exact rdw_sign (by decide) (fun _ => by simp) (fun e => absurd e (by decide)) (fun e => absurd e (by decide))
  rw [if_neg h5] at h
  by_cases h6 : t = [42]
  · subst h6; exact rdw_sg (by decide) _
  · rw [if_neg h6] at h
    exact absurd rfl h
/-- its numbers are numbers -/
def numE : Nat → ET → Prop
  | 0, _ => True
  | n + 1, e => e.vn ≤ 9223372036854775807 ∧ ∀ p ∈ e.parts, numE n p
def OkA (l : List Tok) : Prop := ∀ r, Fo r → OkK l r
theorem ok_par {l : List Tok} (h : OkA l) (b : Bool) : OkA (parK b l) := by
  intro r hr
  unfold parK
  cases b with
  | true => exact h r hr
  | false =>
    rw [if_neg (by simp)]
    exact ⟨rdw_sg (by decide) _, okK_app (b := [some (4, [41], 0)]) ⟨rdw_sg (by decide) _, trivial⟩ (h _ (fo_low _ (by decide)))⟩
theorem nm_head {c : ByteArray} (h : nmB c = true) (r : Bs) : (c.data.toList ++ r).head? ≠ some 45 := by
  obtain ⟨b, t, e, -, -, h3⟩ := rdw_name h (r := []) sp_nil
  have e' : c.data.toList = b :: t := by rw [← e]; show _ = (if (1 : Int) = 3 then _ else c.data.toList) ++ []; rw [if_neg (by decide), List.append_nil]
  rw [e', List.cons_append, List.head?_cons]
  intro hb
  simp only [Option.some.injEq] at hb
  subst hb
  unfold wordD at h3
  rw [if_neg (by simp), dec_low 45 t (by decide), if_neg (by decide), if_neg (by decide)] at h3
  split at h3
  · simp at h3
  · split at h3
    · simp at h3
    · cases h3
theorem num_head {n : Int} (h0 : 0 ≤ n) (r : Bs) : (dgt n ++ r).head? ≠ some 45 := by
  obtain ⟨a1, -, a3, -⟩ := digs n.toNat
  unfold dgt
  match Lib.decDigits n.toNat, a1, a3 with
  | b :: t, a1, _ =>
    unfold allD at a1
    rw [List.all_cons, Bool.and_eq_true] at a1
    have := allD_byte a1.1
    intro e
    simp only [List.cons_append, List.head?_cons, Option.some.injEq] at e
    subst e
    revert this
    decide
/-- a whole one doesn't begin with - -/
theorem head_whole {n : Nat} {e : ET} (h : FmE nmB n e) (hl : 8 ≤ lvlE e) (r : Bs) : (textK (pK n e) ++ r).head? ≠ some 45 := by
  cases h with
  | lit h =>
    rcases h with ⟨rfl, rfl, rfl⟩ | ⟨rfl, h0, rfl⟩ | ⟨rfl, rfl, h0⟩
    · simp [pK, textK, tokT, wrW, ET.kind, ET.vk]
    · have := num_head h0 r
      simpa [pK, textK, tokT, wrW, ET.kind, ET.vk, ET.vn] using this
    · simp [pK, textK, tokT, wrW, ET.kind, ET.vk]
  | @col n t c h h2 =>
    by_cases h0 : t = ⟨#[]⟩
    · have := nm_head h r
      simpa [pK, textK, tokT, wrW, ET.kind, ET.tab, ET.col, h0] using this
    · have := nm_head (h2.resolve_left h0) ([46] ++ (c.data.toList ++ r))
      simpa [pK, textK, tokT, wrW, ET.kind, ET.tab, ET.col, h0] using this
  | una h hp =>
    exfalso
    rcases h with rfl | rfl <;> revert hl <;> simp [lvlE, ET.kind, ET.op, bs]
  | @bin n op p q h hp hq =>
    exfalso
    have := lev_vals op.data.toList
    replace hl : 8 ≤ levB op.data.toList := hl
    omega
  | tst h hp => exfalso; revert hl; simp [lvlE, ET.kind]
  | @agg n op p h hp =>
    have hb : ∀ t : Bs, aggB t = true → ∀ r, (t ++ r).head? ≠ some 45 := fun t ht r => by
      unfold aggB at ht
      simp only [Bool.or_eq_true, beq_iff_eq] at ht
      rcases ht with ((rfl | rfl) | rfl) | rfl <;> simp
    have := hb _ h ([40] ++ (textK (pK n p) ++ ([41] ++ r)))
    simpa [pK, textK, tokT, wrW, ET.kind, ET.parts, ET.op] using this
  | cnt => simp [pK, textK, tokT, wrW, ET.kind, ET.parts, ET.op, bs]
theorem agg_kw {t : Bs} (h : aggB t = true) : kws.contains t = true := by
  unfold aggB at h
  simp only [Bool.or_eq_true, beq_iff_eq] at h
  rcases h with ((rfl | rfl) | rfl) | rfl <;> decide
/-- each of its words is read -/
theorem ok_pK : ∀ {n : Nat} {e : ET}, FmE nmB n e → numE n e → OkA (pK n e) := by
  intro n e h
  induction h with
  | @lit n vk vn vs h =>
    intro hn r hr
    rcases h with ⟨rfl, rfl, rfl⟩ | ⟨rfl, h0, rfl⟩ | ⟨rfl, rfl, h0⟩
    · exact ⟨rdw_kw (by decide) hr.1, trivial⟩
    · exact ⟨rdw_num h0 hn.1 hr.1, trivial⟩
    · exact ⟨rdw_text (by rw [Array.length_toList]; exact h0) hr.2, trivial⟩
  | @col n t c h h2 =>
    intro hn r hr
    by_cases h0 : t = ⟨#[]⟩
    · have e : pK (n + 1) (.mk 2 ⟨#[]⟩ 0 0 ⟨#[]⟩ t c []) = [some (1, c.data.toList, 0)] := by simp [pK, ET.kind, ET.tab, ET.col, h0]
      rw [e]
      exact ⟨rdw_name h hr.1, trivial⟩
    · have e : pK (n + 1) (.mk 2 ⟨#[]⟩ 0 0 ⟨#[]⟩ t c []) = [some (1, t.data.toList, 0), some (4, [46], 0), some (1, c.data.toList, 0)] := by simp [pK, ET.kind, ET.tab, ET.col, h0]
      rw [e]
      exact ⟨rdw_name (h2.resolve_left h0) (fo_low _ (by decide)).1, rdw_sg (by decide) _, rdw_name h hr.1, trivial⟩
  | @una n op p h hp ih =>
    intro hn r hr
    have hip := ih (hn.2 p List.mem_cons_self)
    rcases h with rfl | rfl
    · have e : pK (n + 1) (.mk 3 (bs [78, 79, 84]) 0 0 ⟨#[]⟩ ⟨#[]⟩ ⟨#[]⟩ [p]) = some (1, [78, 79, 84], 0) :: none :: parK (decide (3 ≤ lvlE p)) (pK n p) := by simp [pK, ET.kind, ET.parts, ET.op]
      rw [e]
      exact ⟨rdw_kw (by decide) (fo_low _ (by decide)).1, ok_par hip _ r hr⟩
    · have e : pK (n + 1) (.mk 3 (bs [45]) 0 0 ⟨#[]⟩ ⟨#[]⟩ ⟨#[]⟩ [p]) = some (4, [45], 0) :: parK (decide (8 ≤ lvlE p)) (pK n p) := by
        have : ¬ bs [45] = bs [78, 79, 84] := by decide
        simp [pK, ET.kind, ET.parts, ET.op, this]
      rw [e]
      refine ⟨rdw_sign (by decide) (fun _ => ?_) (fun e => absurd e (by decide)) (fun e => absurd e (by decide)), ok_par hip _ r hr⟩
      unfold parK
      by_cases h8 : 8 ≤ lvlE p
      · rw [decide_eq_true h8, if_pos rfl]
        exact head_whole hp h8 r
      · rw [decide_eq_false h8, if_neg (by simp)]
        simp [textK, tokT, wrW]
  | @bin n op p q h hp hq ihp ihq =>
    intro hn r hr
    have hip := ihp (hn.2 p List.mem_cons_self)
    have hiq := ihq (hn.2 q (List.mem_cons_of_mem _ List.mem_cons_self))
    have e : pK (n + 1) (.mk 4 op 0 0 ⟨#[]⟩ ⟨#[]⟩ ⟨#[]⟩ [p, q]) = parK (decide (leftL (lvlE (.mk 4 op 0 0 ⟨#[]⟩ ⟨#[]⟩ ⟨#[]⟩ [p, q])) ≤ lvlE p)) (pK n p) ++ none :: some (opK op.data.toList, op.data.toList, 0) :: none :: parK (decide (lvlE (.mk 4 op 0 0 ⟨#[]⟩ ⟨#[]⟩ ⟨#[]⟩ [p, q]) + 1 ≤ lvlE q)) (pK n q) := by simp [pK, ET.kind, ET.parts, ET.op]
    rw [e]
    refine okK_app ?_ (ok_par hip _ _ (fo_low _ (by decide)))
    exact ⟨rdw_op h _, ok_par hiq _ r hr⟩
  | @tst n op p h hp ih =>
    intro hn r hr
    have hip := ih (hn.2 p List.mem_cons_self)
    rcases h with rfl | rfl
    · have e : pK (n + 1) (.mk 5 ⟨#[73, 83, 32, 78, 85, 76, 76]⟩ 0 0 ⟨#[]⟩ ⟨#[]⟩ ⟨#[]⟩ [p]) = parK (decide (5 ≤ lvlE p)) (pK n p) ++ none :: some (1, [73, 83], 0) :: none :: [some (1, [78, 85, 76, 76], 0)] := by simp [pK, ET.kind, ET.parts, ET.op, bs]
      rw [show bs [73, 83, 32, 78, 85, 76, 76] = ⟨#[73, 83, 32, 78, 85, 76, 76]⟩ from rfl, e]
      refine okK_app ?_ (ok_par hip _ _ (fo_low _ (by decide)))
      exact ⟨rdw_kw (by decide) (fo_low _ (by decide)).1, rdw_kw (by decide) hr.1, trivial⟩
    · have e : pK (n + 1) (.mk 5 (bs [73, 83, 32, 78, 79, 84, 32, 78, 85, 76, 76]) 0 0 ⟨#[]⟩ ⟨#[]⟩ ⟨#[]⟩ [p]) = parK (decide (5 ≤ lvlE p)) (pK n p) ++ none :: some (1, [73, 83], 0) :: none :: [some (1, [78, 79, 84], 0), none, some (1, [78, 85, 76, 76], 0)] := by
        have : ¬ bs [73, 83, 32, 78, 79, 84, 32, 78, 85, 76, 76] = bs [73, 83, 32, 78, 85, 76, 76] := by decide
        simp [pK, ET.kind, ET.parts, ET.op, this]
      rw [e]
      refine okK_app ?_ (ok_par hip _ _ (fo_low _ (by decide)))
      exact ⟨rdw_kw (by decide) (fo_low _ (by decide)).1, rdw_kw (by decide) (fo_low _ (by decide)).1, rdw_kw (by decide) hr.1, trivial⟩
  | @agg n op p h hp ih =>
    intro hn r hr
    have hip := ih (hn.2 p List.mem_cons_self)
    have e : pK (n + 1) (.mk 6 op 0 0 ⟨#[]⟩ ⟨#[]⟩ ⟨#[]⟩ [p]) = some (1, op.data.toList, 0) :: some (4, [40], 0) :: (pK n p ++ [some (4, [41], 0)]) := by simp [pK, ET.kind, ET.parts, ET.op]
    rw [e]
    exact ⟨rdw_kw (agg_kw h) (fo_low _ (by decide)).1, rdw_sg (by decide) _, okK_app (b := [some (4, [41], 0)]) ⟨rdw_sg (by decide) _, trivial⟩ (hip _ (fo_low _ (by decide)))⟩
  | cnt =>
    intro hn r hr
    exact ⟨rdw_kw (l := [67, 79, 85, 78, 84]) (by decide) (fo_low _ (by decide)).1, rdw_sg (by decide) _, rdw_sg (by decide) _, rdw_sg (by decide) _, trivial⟩
/-- an expression's text has its words, or too many -/
theorem text_words {e : ET} (h : FmE nmB 8 e) (hn : numE 8 e) : run (0, [], []) (prT 8 e) = .no eL ∨ run (0, [], []) (prT 8 e) = .ok (wT 8 e) := by
  have := run_text_of (pK 8 e) (ok_pK h hn [] fo_nil)
  rw [words_pK] at this
  exact this
end Go.Proofs.YtpinalpigefenaaGreatDoor
