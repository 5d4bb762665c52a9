/- The lexer's numbers and texts: any. -/
import Derived.Test.YtknhphcfcpjhiaaGreatDoorLwSign
import Derived.Shelf.Strconv.ParseIntPublic10
import Derived.Shelf.Strings.Replace
import Derived.Shelf.Strconv.Itoa4
import Derived.Shelf.Strings.Builder1
import Derived.Test.YtknhphcfcpjhiaaGreatDoorProg
import Derived.Lib.SplitLaws
namespace Go.Proofs.YtknhphcfcpjhiaaGreatDoor
open Go.RowKit
set_option linter.unusedVariables false
set_option linter.unusedSimpArgs false
set_option maxRecDepth 100000

/-- what a call on a reader answers, if it is a new state -/
def BeginP (s : ByteArray) (w : World) (N : Nat) (v : Value) (n : Nat) (xs : List Value) (pos : Nat) (o : An Nat) (e : Ending) (w' : World) : Prop :=
  match o with
  | .ok m => e = .returned (.int .i64 0) ∧ LSt s w' N v n xs ((m : Nat) : Int) pos ∧ Kp N w w'
  | .no x => e = .returned (.int .i64 x) ∧ Kp N w w'
theorem LSt.opened {s : ByteArray} {w : World} {N : Nat} {v : Value} {n : Nat} {xs : List Value} {st start : Int} (h : LSt s w N v n xs st start) (x : Int) : LSt s (w.setCell ⟨N, 3, none⟩ (.int .i64 x)) N v n xs st x ∧ Kp N w (w.setCell ⟨N, 3, none⟩ (.int .i64 x)) := ⟨h.begin x, Kp.set h.rd _ _⟩
set_option maxHeartbeats 6400000 in
theorem begin_any (s : ByteArray) (w : World) (N : Nat) (v : Value) (n : Nat) (xs : List Value) (st start : Int) (pos c : Nat) (h : LSt s w N v n xs st start) (hc : c ≤ 1114111) :
    Calls Tryz.prog 96 #[.pointer (some ⟨N, 0, none⟩), .int .i64 (pos : Int), .int .i32 (c : Int)] w (BeginP s w N v n xs pos (beginM c)) := by
  have H1 := Lib.hid (h.opened (pos : Int))
  have HH := Lib.hid h
  obtain ⟨⟨f0, f1, f2, f3⟩, fz⟩ := h.facts
  obtain ⟨W, hW⟩ : ∃ W, W = w.setCell ⟨N, 3, none⟩ (.int .i64 (pos : Int)) := ⟨_, rfl⟩
  rw [← hW] at H1
  have HW := Lib.hid hW
  clear h hW
  by_cases hb : c = 32 ∨ c = 9 ∨ c = 10
  · rcases hb with rfl | rfl | rfl
    all_goals
      go_enter Tryz.func96, Tryz.ntmps96
      go_upto_region 3 with (fail)
      rw [← HW.out]
      clear f0 f1 f2 f3 fz
      obtain ⟨⟨f0, f1, f2, f3⟩, fz⟩ := H1.out.1.facts
      have H2 := Lib.hid (H1.out.1.stateN 0)
      go_wp2
      go_ret
      exact ⟨rfl, H2.out.1, H1.out.2.trans H2.out.2⟩
  · have e1 : ((c : Int) == 32) = false := beq_eq_false_iff_ne.2 (by omega)
    have e2 : ((c : Int) == 9) = false := beq_eq_false_iff_ne.2 (by omega)
    have e3 : ((c : Int) == 10) = false := beq_eq_false_iff_ne.2 (by omega)
    have HBg := Lib.hid (show beginM c = if letL c = true then .ok 1 else if digL c = true then .ok 2 else if c = 39 then .ok 3 else if signL c = true then .ok 5 else .no eS by unfold beginM; rw [if_neg hb])
    clear hb
    go_enter Tryz.func96, Tryz.ntmps96
    go_upto_region 3 with (fail)
    rw [← HW.out]
    clear f0 f1 f2 f3 fz
    obtain ⟨⟨f0, f1, f2, f3⟩, fz⟩ := H1.out.1.facts
    go_wp2_with fail
    refine (letter_any _ _).mono ?_
    rintro e w1 ⟨rfl, hw⟩
    subst hw
    cases hl : letZ (c : Int) with
    | true =>
      have HG := Lib.hid (show beginM c = .ok 1 by rw [HBg.out, if_pos (show letL c = true from hl)])
      have H2 := Lib.hid (H1.out.1.stateN 1)
      clear hl
      go_wp2
      go_ret
      rw [HG.out]
      exact ⟨rfl, H2.out.1, H1.out.2.trans H2.out.2⟩
    | false =>
      have HL := Lib.hid (show ¬ letL c = true from by unfold letL; rw [hl]; simp)
      clear hl
      go_wp2_with fail
      refine (digit_any _ _).mono ?_
      rintro e w2 ⟨rfl, hw⟩
      subst hw
      cases hd : digZ (c : Int) with
      | true =>
        have HG := Lib.hid (show beginM c = .ok 2 by rw [HBg.out, if_neg HL.out, if_pos (show digL c = true from hd)])
        have H2 := Lib.hid (H1.out.1.stateN 2)
        clear hd
        go_wp2
        go_ret
        rw [HG.out]
        exact ⟨rfl, H2.out.1, H1.out.2.trans H2.out.2⟩
      | false =>
        have HDg := Lib.hid (show ¬ digL c = true from by unfold digL; rw [hd]; simp)
        clear hd
        by_cases h39 : c = 39
        · subst h39
          have HG := Lib.hid (show beginM 39 = .ok 3 by rw [HBg.out, if_neg HL.out, if_neg HDg.out, if_pos rfl])
          have H2 := Lib.hid (H1.out.1.stateN 3)
          go_wp2
          go_ret
          rw [HG.out]
          exact ⟨rfl, H2.out.1, H1.out.2.trans H2.out.2⟩
        · have e4 : ((c : Int) == 39) = false := beq_eq_false_iff_ne.2 (by omega)
          have H39 := Lib.hid h39
          clear h39
          go_wp2_with fail
          refine (containsrune_any _ c hc).mono ?_
          rintro e w3 ⟨rfl, hb⟩
          have H3 := Lib.hid (H1.out.1.below hb)
          have HK3 := Lib.hid (H1.out.2.trans (Kp.below (Nat.le_of_lt H1.out.1.low) hb))
          clear hb f0 f1 f2 f3 fz
          cases hs : signL c with
          | true =>
            have HG := Lib.hid (show beginM c = .ok 5 by rw [HBg.out, if_neg HL.out, if_neg HDg.out, if_neg H39.out, if_pos hs])
            obtain ⟨⟨f0, f1, f2, f3⟩, fz⟩ := H3.out.facts
            have H2 := Lib.hid (H3.out.stateN 5)
            clear hs
            go_wp2
            go_ret
            rw [HG.out]
            exact ⟨rfl, H2.out.1, HK3.out.trans H2.out.2⟩
          | false =>
            have HG := Lib.hid (show beginM c = .no eS by rw [HBg.out, if_neg HL.out, if_neg HDg.out, if_neg H39.out, if_neg (by rw [hs]; simp)])
            clear hs
            go_wp2
            go_ret
            rw [HG.out]
            exact ⟨rfl, HK3.out⟩
end Go.Proofs.YtknhphcfcpjhiaaGreatDoor
namespace Go.Proofs.YtknhphcfcpjhiaaGreatDoor
open Go.Shelf Go.Proofs
open Go.RowKit in
open Go.RowKit Go.Sort Go.Lib in
def Tryz.laysC174_ren : Go.Shelf.Ren := ⟨fun | 174 => 142 | 247 => 161 | 245 => 162 | 287 => 182 | 279 => 183 | 280 => 184 | 281 => 185 | 282 => 186 | 321 => 209 | 322 => 210 | 316 => 211 | 171 => 213 | 205 => 212 | 243 => 224 | 246 => 159 | 283 => 174 | 284 => 175 | 285 => 176 | 286 => 177 | 129 => 204 | 317 => 203 | 318 => 205 | 319 => 206 | 320 => 207 | 337 => 221 | 338 => 222 | n => n, fun | 9 => 9 | 3 => 3 | 2 => 2 | 75 => 184 | 85 => 195 | 4 => 4 | 167 => 239 | 5 => 5 | 53 => 231 | 175 => 240 | 46 => 237 | 168 => 242 | 37 => 180 | 0 => 0 | 210 => 262 | 21 => 21 | 127 => 213 | 145 => 269 | 143 => 267 | 171 => 230 | 173 => 234 | 212 => 255 | 51 => 256 | 20 => 20 | 213 => 257 | 232 => 276 | 233 => 277 | 80 => 109 | n => n, fun | 15 => 2 | 16 => 3 | 17 => 0 | 18 => 6 | 19 => 7 | n => n⟩
theorem Tryz.laysC174 : Go.Proofs.LaysC.n174 Tryz.prog Tryz.laysC174_ren := {
  mixed := by kernel_rfl
  f129 := Tryz.func204.trans (congrArg some (by kernel_rfl))
  f171 := Tryz.func213.trans (congrArg some (by kernel_rfl))
  f174 := Tryz.func142.trans (congrArg some (by kernel_rfl))
  f205 := Tryz.func212.trans (congrArg some (by kernel_rfl))
  f243 := Tryz.func224.trans (congrArg some (by kernel_rfl))
  f245 := Tryz.func162.trans (congrArg some (by kernel_rfl))
  f246 := Tryz.func159.trans (congrArg some (by kernel_rfl))
  f247 := Tryz.func161.trans (congrArg some (by kernel_rfl))
  f279 := Tryz.func183.trans (congrArg some (by kernel_rfl))
  f280 := Tryz.func184.trans (congrArg some (by kernel_rfl))
  f281 := Tryz.func185.trans (congrArg some (by kernel_rfl))
  f282 := Tryz.func186.trans (congrArg some (by kernel_rfl))
  f283 := Tryz.func174.trans (congrArg some (by kernel_rfl))
  f284 := Tryz.func175.trans (congrArg some (by kernel_rfl))
  f285 := Tryz.func176.trans (congrArg some (by kernel_rfl))
  f286 := Tryz.func177.trans (congrArg some (by kernel_rfl))
  f287 := Tryz.func182.trans (congrArg some (by kernel_rfl))
  f316 := Tryz.func211.trans (congrArg some (by kernel_rfl))
  f317 := Tryz.func203.trans (congrArg some (by kernel_rfl))
  f318 := Tryz.func205.trans (congrArg some (by kernel_rfl))
  f319 := Tryz.func206.trans (congrArg some (by kernel_rfl))
  f320 := Tryz.func207.trans (congrArg some (by kernel_rfl))
  f321 := Tryz.func209.trans (congrArg some (by kernel_rfl))
  f322 := Tryz.func210.trans (congrArg some (by kernel_rfl))
  f337 := Tryz.func221.trans (congrArg some (by kernel_rfl))
  f338 := Tryz.func222.trans (congrArg some (by kernel_rfl))
  t0 := Tryz.underlying0
  a0 := Tryz.isAgg0
  z0 := Tryz.sizeOf0
  v0 := Tryz.zeroValue0
  t2 := Tryz.underlying2
  a2 := Tryz.isAgg2
  z2 := Tryz.sizeOf2
  v2 := Tryz.zeroValue2
  t3 := Tryz.underlying3
  a3 := Tryz.isAgg3
  z3 := Tryz.sizeOf3
  v3 := Tryz.zeroValue3
  t4 := Tryz.underlying4
  a4 := Tryz.isAgg4
  z4 := Tryz.sizeOf4
  v4 := Tryz.zeroValue4
  t5 := Tryz.underlying5
  a5 := Tryz.isAgg5
  z5 := Tryz.sizeOf5
  v5 := Tryz.zeroValue5
  t9 := Tryz.underlying9
  a9 := Tryz.isAgg9
  z9 := Tryz.sizeOf9
  v9 := Tryz.zeroValue9
  t20 := Tryz.underlying20
  a20 := Tryz.isAgg20
  z20 := Tryz.sizeOf20
  v20 := Tryz.zeroValue20
  t21 := Tryz.underlying21
  a21 := Tryz.isAgg21
  z21 := Tryz.sizeOf21
  v21 := Tryz.zeroValue21
  t37 := Tryz.underlying180
  a37 := Tryz.isAgg180
  z37 := Tryz.sizeOf180
  v37 := Tryz.zeroValue180
  t46 := Tryz.underlying237
  a46 := Tryz.isAgg237
  z46 := Tryz.sizeOf237
  v46 := Tryz.zeroValue237
  t51 := Tryz.underlying256
  a51 := Tryz.isAgg256
  z51 := Tryz.sizeOf256
  v51 := Tryz.zeroValue256
  t53 := Tryz.underlying231
  a53 := Tryz.isAgg231
  z53 := Tryz.sizeOf231
  v53 := Tryz.zeroValue231
  t75 := Tryz.underlying184
  a75 := Tryz.isAgg184
  z75 := Tryz.sizeOf184
  v75 := Tryz.zeroValue184
  t85 := Tryz.underlying195
  a85 := Tryz.isAgg195
  z85 := Tryz.sizeOf195
  v85 := Tryz.zeroValue195
  t127 := Tryz.underlying213
  a127 := Tryz.isAgg213
  z127 := Tryz.sizeOf213
  v127 := Tryz.zeroValue213
  t143 := Tryz.underlying267
  a143 := Tryz.isAgg267
  z143 := Tryz.sizeOf267
  v143 := Tryz.zeroValue267
  t145 := Tryz.underlying269
  a145 := Tryz.isAgg269
  z145 := Tryz.sizeOf269
  v145 := Tryz.zeroValue269
  t167 := Tryz.underlying239
  a167 := Tryz.isAgg239
  z167 := Tryz.sizeOf239
  v167 := Tryz.zeroValue239
  t168 := Tryz.underlying242
  a168 := Tryz.isAgg242
  z168 := Tryz.sizeOf242
  v168 := Tryz.zeroValue242
  t171 := Tryz.underlying230
  a171 := Tryz.isAgg230
  z171 := Tryz.sizeOf230
  v171 := Tryz.zeroValue230
  t173 := Tryz.underlying234
  a173 := Tryz.isAgg234
  z173 := Tryz.sizeOf234
  v173 := Tryz.zeroValue234
  t175 := Tryz.underlying240
  a175 := Tryz.isAgg240
  z175 := Tryz.sizeOf240
  v175 := Tryz.zeroValue240
  t210 := Tryz.underlying262
  a210 := Tryz.isAgg262
  z210 := Tryz.sizeOf262
  v210 := Tryz.zeroValue262
  t212 := Tryz.underlying255
  a212 := Tryz.isAgg255
  z212 := Tryz.sizeOf255
  v212 := Tryz.zeroValue255
  t213 := Tryz.underlying257
  a213 := Tryz.isAgg257
  z213 := Tryz.sizeOf257
  t232 := Tryz.underlying276
  a232 := Tryz.isAgg276
  z232 := Tryz.sizeOf276
  v232 := Tryz.zeroValue276
  t233 := Tryz.underlying277
  a233 := Tryz.isAgg277
  z233 := Tryz.sizeOf277
  v233 := Tryz.zeroValue277
  g15 := by kernel_rfl
  g16 := by kernel_rfl
  g17 := by kernel_rfl
  g18 := by kernel_rfl
  g19 := by kernel_rfl
  t80 := Tryz.underlying109
  a80 := Tryz.isAgg109
  z80 := Tryz.sizeOf109
  v80 := Tryz.zeroValue109
  i0 := by kernel_rfl
  i2 := by kernel_rfl
  i3 := by kernel_rfl
  i4 := by kernel_rfl
  i5 := by kernel_rfl
  i9 := by kernel_rfl
  i20 := by kernel_rfl
  i21 := by kernel_rfl
  i37 := by kernel_rfl
  i46 := by kernel_rfl
  i51 := by kernel_rfl
  i53 := by kernel_rfl
  i75 := by kernel_rfl
  i80 := by kernel_rfl
  i85 := by kernel_rfl
  i127 := by kernel_rfl
  i143 := by kernel_rfl
  i145 := by kernel_rfl
  i167 := by kernel_rfl
  i168 := by kernel_rfl
  i171 := by kernel_rfl
  i173 := by kernel_rfl
  i175 := by kernel_rfl
  i210 := by kernel_rfl
  i212 := by kernel_rfl
  i232 := by kernel_rfl
  i233 := by kernel_rfl
  m15 := by kernel_rfl
  m16 := by kernel_rfl
  m17 := by kernel_rfl
  m18 := by kernel_rfl
  m19 := by kernel_rfl
  c0 := by kernel_rfl
  c2 := by kernel_rfl
  c3 := by kernel_rfl
  c4 := by kernel_rfl
  c5 := by kernel_rfl
  c9 := by kernel_rfl
  c20 := by kernel_rfl
  c21 := by kernel_rfl
  c37 := by kernel_rfl
  c46 := by kernel_rfl
  c51 := by kernel_rfl
  c53 := by kernel_rfl
  c75 := by kernel_rfl
  c80 := by kernel_rfl
  c85 := by kernel_rfl
  c127 := by kernel_rfl
  c143 := by kernel_rfl
  c145 := by kernel_rfl
  c167 := by kernel_rfl
  c168 := by kernel_rfl
  c171 := by kernel_rfl
  c173 := by kernel_rfl
  c175 := by kernel_rfl
  c210 := by kernel_rfl
  c212 := by kernel_rfl
  c213 := by kernel_rfl
  c232 := by kernel_rfl
  c233 := by kernel_rfl }
open Go.RowKit in
/-- strconv.ParseInt(s, 10, 64), AT EVERY STRING THAT SPELLS AN int64 ('Lib.parseIntB 64 s.data.toList = .ok v'): v, AND NO ERROR. (LAID: no walk: one application.) -/
theorem Tryz.strconv_ParseInt_10_at64_ok (s : ByteArray) (hmax : s.size ≤ 9223372036854775806) (v : Int) (h : Lib.parseIntB 64 s.data.toList = .ok v) (w : World) :
    Calls Tryz.prog 142 #[.string s, .int .i64 10, .int .i64 64] w fun e w' => e = .returned (.tuple #[.int .i64 v, .nilIface]) ∧ (w' = w ∨ ∃ t, w' = Lib.bytesWorld w 5 t) := Any.strconv_ParseInt_10_at64_ok Tryz.laysC174 s hmax v h w
open Go.RowKit in
/-- strconv.ParseInt(s, 10, 64), AT EVERY NUMERAL THAT NO int64 HOLDS: THE GREATEST OR THE LEAST int64, BY THE SIGN ('Lib.intSat 64'), AND AN ERROR THAT IS NOT nil: a *NumError in a new block N: {Func: "ParseInt", Num: s's bytes, Err: what the variable ErrRange holds}. Of what was there nothing has turned. (LAID: no walk: one application.) -/
theorem Tryz.strconv_ParseInt_10_at64_range (s : ByteArray) (hlim : s.size ≤ 281474976710656) (h : Lib.parseIntB 64 s.data.toList = .range) (ev : Value) (w : World) (hv : w.cell? ⟨3, 0, none⟩ = some ev) (hev : ev = .nilIface ∨ ∃ te pe, ev = .iface te pe) :
    Calls Tryz.prog 142 #[.string s, .int .i64 10, .int .i64 64] w fun e w' => ∃ N, e = .returned (.tuple #[.int .i64 (Lib.intSat 64 s.data.toList), .iface 242 (.pointer (some ⟨N, 0, none⟩))]) ∧ w.heap.size ≤ N ∧ w'.heap[N]? = some (.cells #[.string ⟨#[80, 97, 114, 115, 101, 73, 110, 116]⟩, .string s, ev] 262 (0, 0)) ∧ Below w.heap.size w w' := Any.strconv_ParseInt_10_at64_range Tryz.laysC174 s hlim h ev w hv hev
def Tryz.lays155_ren : Go.Shelf.Ren := ⟨fun | 155 => 143 | 154 => 163 | 138 => 187 | 165 => 156 | 143 => 188 | 166 => 131 | 197 => 189 | 169 => 139 | 195 => 97 | 218 => 214 | 240 => 157 | 241 => 171 | 219 => 215 | 260 => 216 | 276 => 172 | 277 => 197 | 217 => 208 | 225 => 181 | 224 => 180 | 267 => 225 | 266 => 223 | 314 => 227 | n => n, fun | 9 => 9 | 3 => 3 | 4 => 4 | 72 => 182 | 0 => 0 | 76 => 185 | 105 => 245 | 21 => 21 | 5 => 5 | 70 => 179 | 20 => 20 | 37 => 180 | 75 => 184 | 127 => 213 | 164 => 226 | 46 => 237 | 119 => 270 | 139 => 273 | 138 => 272 | 146 => 278 | 51 => 256 | 80 => 109 | n => n, fun | 1 => 1 | 3 => 4 | 4 => 5 | n => n⟩
theorem Tryz.lays155 : Go.Proofs.Lays.n155 Tryz.prog Tryz.lays155_ren := {
  mixed := by kernel_rfl
  f138 := Tryz.func187.trans (congrArg some (by kernel_rfl))
  f143 := Tryz.func188.trans (congrArg some (by kernel_rfl))
  f154 := Tryz.func163.trans (congrArg some (by kernel_rfl))
  f155 := Tryz.func143.trans (congrArg some (by kernel_rfl))
  f165 := Tryz.func156.trans (congrArg some (by kernel_rfl))
  f166 := Tryz.func131.trans (congrArg some (by kernel_rfl))
  f169 := Tryz.func139.trans (congrArg some (by kernel_rfl))
  f195 := Tryz.func97.trans (congrArg some (by kernel_rfl))
  f197 := Tryz.func189.trans (congrArg some (by kernel_rfl))
  f217 := Tryz.func208.trans (congrArg some (by kernel_rfl))
  f218 := Tryz.func214.trans (congrArg some (by kernel_rfl))
  f219 := Tryz.func215.trans (congrArg some (by kernel_rfl))
  f224 := Tryz.func180.trans (congrArg some (by kernel_rfl))
  f225 := Tryz.func181.trans (congrArg some (by kernel_rfl))
  f240 := Tryz.func157.trans (congrArg some (by kernel_rfl))
  f241 := Tryz.func171.trans (congrArg some (by kernel_rfl))
  f260 := Tryz.func216.trans (congrArg some (by kernel_rfl))
  f266 := Tryz.func223.trans (congrArg some (by kernel_rfl))
  f267 := Tryz.func225.trans (congrArg some (by kernel_rfl))
  f276 := Tryz.func172.trans (congrArg some (by kernel_rfl))
  f277 := Tryz.func197.trans (congrArg some (by kernel_rfl))
  f314 := Tryz.func227.trans (congrArg some (by kernel_rfl))
  t0 := Tryz.underlying0
  a0 := Tryz.isAgg0
  z0 := Tryz.sizeOf0
  v0 := Tryz.zeroValue0
  t3 := Tryz.underlying3
  a3 := Tryz.isAgg3
  z3 := Tryz.sizeOf3
  v3 := Tryz.zeroValue3
  t4 := Tryz.underlying4
  a4 := Tryz.isAgg4
  z4 := Tryz.sizeOf4
  v4 := Tryz.zeroValue4
  t5 := Tryz.underlying5
  a5 := Tryz.isAgg5
  z5 := Tryz.sizeOf5
  v5 := Tryz.zeroValue5
  t9 := Tryz.underlying9
  a9 := Tryz.isAgg9
  z9 := Tryz.sizeOf9
  v9 := Tryz.zeroValue9
  t20 := Tryz.underlying20
  a20 := Tryz.isAgg20
  z20 := Tryz.sizeOf20
  v20 := Tryz.zeroValue20
  t21 := Tryz.underlying21
  a21 := Tryz.isAgg21
  z21 := Tryz.sizeOf21
  v21 := Tryz.zeroValue21
  t37 := Tryz.underlying180
  a37 := Tryz.isAgg180
  z37 := Tryz.sizeOf180
  v37 := Tryz.zeroValue180
  t46 := Tryz.underlying237
  a46 := Tryz.isAgg237
  z46 := Tryz.sizeOf237
  v46 := Tryz.zeroValue237
  t51 := Tryz.underlying256
  a51 := Tryz.isAgg256
  z51 := Tryz.sizeOf256
  v51 := Tryz.zeroValue256
  t70 := Tryz.underlying179
  a70 := Tryz.isAgg179
  z70 := Tryz.sizeOf179
  v70 := Tryz.zeroValue179
  t72 := Tryz.underlying182
  a72 := Tryz.isAgg182
  z72 := Tryz.sizeOf182
  v72 := Tryz.zeroValue182
  t75 := Tryz.underlying184
  a75 := Tryz.isAgg184
  z75 := Tryz.sizeOf184
  v75 := Tryz.zeroValue184
  t76 := Tryz.underlying185
  a76 := Tryz.isAgg185
  z76 := Tryz.sizeOf185
  v76 := Tryz.zeroValue185
  t105 := Tryz.underlying245
  a105 := Tryz.isAgg245
  z105 := Tryz.sizeOf245
  v105 := Tryz.zeroValue245
  t119 := Tryz.underlying270
  a119 := Tryz.isAgg270
  z119 := Tryz.sizeOf270
  t127 := Tryz.underlying213
  a127 := Tryz.isAgg213
  z127 := Tryz.sizeOf213
  v127 := Tryz.zeroValue213
  t138 := Tryz.underlying272
  a138 := Tryz.isAgg272
  z138 := Tryz.sizeOf272
  v138 := Tryz.zeroValue272
  t139 := Tryz.underlying273
  a139 := Tryz.isAgg273
  z139 := Tryz.sizeOf273
  v139 := Tryz.zeroValue273
  t146 := Tryz.underlying278
  a146 := Tryz.isAgg278
  z146 := Tryz.sizeOf278
  v146 := Tryz.zeroValue278
  t164 := Tryz.underlying226
  a164 := Tryz.isAgg226
  z164 := Tryz.sizeOf226
  v164 := Tryz.zeroValue226
  g1 := by kernel_rfl
  g3 := by kernel_rfl
  g4 := by kernel_rfl }
theorem Tryz.Builder_Extra_155 : Builder.Extra Tryz.prog Tryz.lays155_ren := {
  sizeBuilder := by kernel_rfl
  liesBuilder := by kernel_rfl
  t5 := Tryz.underlying5
  a5 := Tryz.isAgg5
  z5 := Tryz.sizeOf5
  v5 := Tryz.zeroValue5
  infoByte := by kernel_rfl
  cellsByte := by kernel_rfl
  sizeByte := by kernel_rfl
  neB5 := by decide }
open Go.RowKit Go.Lib in
/-- strings.ReplaceAll: "ReplaceAll returns a copy of the string s with all non-overlapping instances of old replaced by new.": AT AN old THAT IS NOT EMPTY: 'Lib.replaceAll s old new'. (LAID: no walk: one application.) -/
theorem Tryz.strings_ReplaceAll (s old new : ByteArray) (m : Int) (w : World) (hs : s.size < 4294967281) (hm : w.cell? ⟨1, 0, none⟩ = some (.int .i64 m)) (h1 : 1 ≤ old.size) (hlen : s.size + Lib.countB s old * new.size ≤ 140737488355328) :
    Calls Tryz.prog 143 #[.string s, .string old, .string new] w fun e w' =>
      e = .returned (.string ⟨(Lib.replaceAll s.data.toList old.data.toList new.data.toList).toArray⟩) ∧ Below w.heap.size w w' := Any.strings_ReplaceAll Tryz.lays155 Tryz.Builder_Extra_155 s old new m w hs hm h1 hlen
/-- the blocks of internal/bytealg.MaxLen and strconv.ErrRange -/
def gMax : Nat := 1
def gErr : Nat := 3
end Go.Proofs.YtknhphcfcpjhiaaGreatDoor
namespace Go.Proofs.YtknhphcfcpjhiaaGreatDoor
open Go.RowKit Go.Lib
set_option linter.unusedVariables false
set_option linter.unusedSimpArgs false
set_option maxRecDepth 100000

/-- the library's variables that the lexer reads -/
def VOk (w : World) : Prop := (∃ m : Int, w.cell? ⟨gMax, 0, none⟩ = some (.int .i64 m)) ∧ ∃ ev, w.cell? ⟨gErr, 0, none⟩ = some ev ∧ (ev = .nilIface ∨ ∃ te pe, ev = .iface te pe)
theorem VOk.below {w w' : World} {N : Nat} (h : VOk w) (hb : Below N w w') (h1 : gMax < N ∧ gErr < N) : VOk w' := by
  obtain ⟨⟨m, hm⟩, ev, he, hev⟩ := h
  exact ⟨⟨m, (hb.cell (p := ⟨gMax, 0, none⟩) h1.1).trans hm⟩, ev, (hb.cell (p := ⟨gErr, 0, none⟩) h1.2).trans he, hev⟩
theorem parseM : ∀ (l : Bs) (acc : Nat), allD l = true → acc ≤ 18446744073709551615 → parseUintM 18446744073709551615 acc l = if acc * 10 ^ l.length + decV l ≤ 18446744073709551615 then .ok (acc * 10 ^ l.length + decV l) else .range
  | [], acc, _, h => by
    have e : acc * 10 ^ ([] : Bs).length + decV [] = acc := by simp [decV]
    rw [e, if_pos h]
    rfl
  | c :: r, acc, h, ha => by
    unfold allD at h
    rw [List.all_cons, Bool.and_eq_true] at h
    have hd := allD_byte h.1
    have hpw : 1 ≤ 10 ^ r.length := Nat.one_le_pow _ _ (by decide)
    have e : acc * 10 ^ (c :: r).length + decV (c :: r) = (acc * 10 + (c.toNat - 48)) * 10 ^ r.length + decV r := by
      rw [decV_cons, List.length_cons, Nat.pow_succ, Nat.add_mul, Nat.mul_comm (10 ^ r.length) 10, ← Nat.mul_assoc, Nat.add_assoc]
    rw [e]
    unfold parseUintM
    rw [if_pos hd]
    have hge : acc * 10 + (c.toNat - 48) ≤ (acc * 10 + (c.toNat - 48)) * 10 ^ r.length := Nat.le_mul_of_pos_right _ (by omega)
    by_cases h1 : 1844674407370955162 ≤ acc
    · rw [if_pos h1, if_neg (by omega)]
    · rw [if_neg h1]
      by_cases h2 : 18446744073709551615 < acc * 10 + (c.toNat - 48)
      · rw [if_pos h2, if_neg (by omega)]
      · rw [if_neg h2, parseM r _ h.2 (by omega)]
theorem parse_digits {l : Bs} (h : allD l = true) (hne : l ≠ []) : parseIntB 64 l = if decV l ≤ 9223372036854775807 then .ok (decV l : Int) else .range := by
  cases l with
  | nil => exact absurd rfl hne
  | cons c r =>
    have h0 := h
    unfold allD at h0
    rw [List.all_cons, Bool.and_eq_true] at h0
    have hd := allD_byte h0.1
    unfold parseIntB
    simp only
    rw [if_neg (show ¬ (c.toNat = 43 ∨ c.toNat = 45) by omega)]
    unfold parseUintB
    rw [if_neg (List.cons_ne_nil c r), show (2 : Nat) ^ 64 - 1 = 18446744073709551615 from rfl, parseM (c :: r) 0 h (by omega), Nat.zero_mul, Nat.zero_add]
    have hneg : ¬ c.toNat = 45 := by omega
    by_cases h1 : decV (c :: r) ≤ 18446744073709551615
    · rw [if_pos h1]
      simp only [hneg, not_false_eq_true, true_and, false_and, if_false, show (2 : Nat) ^ (64 - 1) = 9223372036854775808 from rfl]
      by_cases h2 : decV (c :: r) ≤ 9223372036854775807
      · rw [if_neg (by omega), if_pos h2]
      · rw [if_pos (by omega), if_neg h2]
    · rw [if_neg h1]
      simp only
      rw [if_neg (by omega)]
/-- all words' cells -/
def wsX (ws : List Wd) : List Value := ws.flatMap fun x => wordX x.1 ⟨x.2.1.toArray⟩ x.2.2
theorem wsX_snoc (ws : List Wd) (k : Int) (t : ByteArray) (n : Int) : wsX ws ++ wordX k t n = wsX (ws ++ [(k, t.data.toList, n)]) := by
  unfold wsX
  rw [List.flatMap_append]
  simp
/-- a reader that has these words -/
def RSt (s : ByteArray) (w : World) (N : Nat) (ws : List Wd) (md start : Int) : Prop := ∃ v, LSt s w N v ws.length (wsX ws) md start
/-- what a call that may add a word answers -/
def AddP (s : ByteArray) (w : World) (N : Nat) (start : Int) (o : An (List Wd)) (e : Ending) (w' : World) : Prop :=
  match o with
  | .ok ws => e = .returned (.int .i64 0) ∧ RSt s w' N ws 0 start ∧ Kp N w w'
  | .no x => e = .returned (.int .i64 x) ∧ Kp N w w'
theorem AddP.later {s : ByteArray} {w w1 w' : World} {N : Nat} {start : Int} {o : An (List Wd)} {e : Ending} (h : AddP s w1 N start o e w') (hk : Kp N w w1) : AddP s w N start o e w' := by
  cases o with
  | ok ws => exact ⟨h.1, h.2.1, hk.trans h.2.2⟩
  | no x => exact ⟨h.1, hk.trans h.2⟩
theorem AddP.code {s : ByteArray} {w w' : World} {N : Nat} {start : Int} {o : An (List Wd)} {e : Ending} (h : AddP s w N start o e w') : ∃ c : Int, e = .returned (.int .i64 c) := by
  cases o with
  | ok ws => exact ⟨0, h.1⟩
  | no x => exact ⟨x, h.1⟩
theorem bytesW_below (w : World) (T : TypeId) (t : ByteArray) : Below w.heap.size w (Lib.bytesWorld w T t) :=
  ⟨rfl, rfl, rfl, by have := Lib.bytesWorld_size w T t; omega, fun k hk => Lib.bytesWorld_at_old w T t k hk⟩
set_option maxHeartbeats 3200000 in
theorem add_full (s : ByteArray) (w : World) (N : Nat) (ws : List Wd) (start : Int) (k : Int) (t : ByteArray) (m : Int) (h : RSt s w N ws 0 start) (hl : ws.length ≤ 600) :
    Calls Tryz.prog 98 #[.pointer (some ⟨N, 0, none⟩), .agg #[.int .i64 k, .string t, .int .i64 m]] w (AddP s w N start (addM ws (k, t.data.toList, m))) := by
  obtain ⟨v, h⟩ := h
  by_cases h6 : ws.length = 600
  · have HA := Lib.hid (show addM ws (k, t.data.toList, m) = .no eL by unfold addM; rw [if_pos h6])
    obtain ⟨a, c, rfl⟩ := own_slice3 h.own
    have h1 := h.below (bel0 (.cells #[.int .i64 k, .string t, .int .i64 m] 157) (Below.refl w.heap.size w))
    have HK := Lib.hid (Kp.below (N := N) (Nat.le_of_lt h.low) (bel0 (.cells #[.int .i64 k, .string t, .int .i64 m] 157) (Below.refl w.heap.size w)))
    obtain ⟨⟨f0, f1, f2, f3⟩, fz⟩ := h1.facts
    rw [h6] at f1
    clear h h1 h6
    go_enter Tryz.func98, Tryz.ntmps98
    go_wp2
    go_ret
    rw [HA.out]
    exact ⟨rfl, HK.out⟩
  · have e : addM ws (k, t.data.toList, m) = .ok (ws ++ [(k, t.data.toList, m)]) := by unfold addM; rw [if_neg h6]
    rw [e]
    refine (ladd_any s w N v ws.length (wsX ws) 0 start k t m h (by omega)).mono ?_
    rintro e w' ⟨rfl, v', h', hk⟩
    exact ⟨rfl, ⟨v', by rw [← wsX_snoc, List.length_append]; exact h'⟩, hk⟩
set_option maxHeartbeats 3200000 in
theorem addnum_any (s : ByteArray) (w : World) (N : Nat) (ws : List Wd) (start : Int) (T : ByteArray) (h : RSt s w N ws 0 start) (hl : ws.length ≤ 600) (hD : allD T.data.toList = true) (hne : T.data.toList ≠ []) (hT : T.size ≤ 4000) (hv : VOk w) :
    Calls Tryz.prog 99 #[.pointer (some ⟨N, 0, none⟩), .string T] w (AddP s w N start (numM T.data.toList ws)) := by
  have HH := Lib.hid h
  have hp := parse_digits hD hne
  have hsz : 0 < T.size := by
    have := List.length_pos_iff.2 hne
    rwa [Array.length_toList] at this
  have hi0 : ∀ W, (Instr.index 9 (.string T) (.int .i64 0)).run Tryz.prog W = .ok (.int .u8 ((T[0]'hsz).toNat : Int)) W := fun W => by
    rw [run_index_string (P := Tryz.prog) W 9 T .i64 0 Tryz.underlying9, dif_pos (by omega)]
    rfl
  have hh : T.data.toList.head? = some (T[0]'hsz) := by
    rw [List.head?_eq_getElem?, Array.getElem?_toList, Array.getElem?_eq_getElem (by exact hsz)]
    rfl
  obtain ⟨b0, hb0⟩ : ∃ b0, b0 = T[0]'hsz := ⟨_, rfl⟩
  rw [← hb0] at hi0 hh
  have hlen : T.data.toList.length = T.size := by rw [Array.length_toList]; rfl
  obtain ⟨y, hy⟩ : ∃ y : Nat, y = b0.toNat := ⟨_, rfl⟩
  rw [← hy] at hi0
  by_cases hr : decV T.data.toList ≤ 9223372036854775807
  · rw [if_pos hr] at hp
    have HP := Lib.hid (fun W => Tryz.strconv_ParseInt_10_at64_ok T (by omega) _ hp W)
    obtain ⟨V, hV⟩ : ∃ V : Int, V = (decV T.data.toList : Int) := ⟨_, rfl⟩
    rw [← hV] at HP
    have HNm := Lib.hid (show numM T.data.toList ws = if (decide (1 < T.size) && decide (y = 48)) = true then .no eS else addM ws (2, T.data.toList, V) by
      unfold numM numOk
      rw [decide_eq_true hr, hh, hlen, hV]
      by_cases h48 : b0 = 48
      · have : (some b0 == some (48 : UInt8)) = true := by rw [h48]; rfl
        rw [this, decide_eq_true (show y = 48 by rw [hy, h48]; rfl)]
        by_cases h1 : 1 < T.size
        · rw [decide_eq_true h1]; rfl
        · rw [decide_eq_false h1]; rfl
      · have : (some b0 == some (48 : UInt8)) = false := by rw [beq_eq_false_iff_ne]; exact fun e => h48 (Option.some.inj e)
        rw [this, decide_eq_false (show ¬ y = 48 by rw [hy]; exact fun e => h48 (UInt8.toNat_inj.1 (by simpa using e)))]
        cases decide (1 < T.size) <;> rfl)
    have HAd := Lib.hid (fun (W : World) (hS : RSt s W N ws 0 start) => add_full s W N ws start 2 T V hS hl)
    have hsz2 : T.size ≤ 9223372036854775807 := by omega
    clear h hp hr hD hne hV hh hb0 hy hv
    by_cases h1 : 1 < T.size
    · by_cases h48 : y = 48
      · have e1 : ((y : Int) == 48) = true := by rw [beq_iff_eq]; omega
        have h1i : (1 : Int) < (T.size : Int) := by omega
        have HG := Lib.hid (show numM T.data.toList ws = .no eS by rw [HNm.out, decide_eq_true h1, decide_eq_true h48]; rfl)
        clear h1 h48 HNm
        go_enter Tryz.func99, Tryz.ntmps99
        go_wp2_with fail
        refine (HP.out _).mono ?_
        rintro e w1 ⟨rfl, hw⟩
        have HB1 := Lib.hid (show Below w.heap.size w w1 by
          rcases hw with rfl | ⟨t, rfl⟩
          · exact Below.refl _ _
          · exact bytesW_below w _ t)
        clear hw
        go_wp2
        go_ret
        rw [HG.out]
        exact ⟨rfl, Kp.below (by obtain ⟨v, h⟩ := HH.out; exact Nat.le_of_lt h.low) HB1.out⟩
      · have e1 : ((y : Int) == 48) = false := beq_eq_false_iff_ne.2 (by omega)
        have h1i : (1 : Int) < (T.size : Int) := by omega
        have HG := Lib.hid (show numM T.data.toList ws = addM ws (2, T.data.toList, V) by rw [HNm.out, decide_eq_true h1, decide_eq_false h48]; rfl)
        clear h1 h48 HNm
        go_enter Tryz.func99, Tryz.ntmps99
        go_wp2_with fail
        refine (HP.out _).mono ?_
        rintro e w1 ⟨rfl, hw⟩
        have HB1 := Lib.hid (show Below w.heap.size w w1 by
          rcases hw with rfl | ⟨t, rfl⟩
          · exact Below.refl _ _
          · exact bytesW_below w _ t)
        clear hw
        go_wp2_with fail
        refine (HAd.out _ (by obtain ⟨v, h⟩ := HH.out; exact ⟨v, h.below HB1.out⟩)).mono ?_
        rintro e w2 hp
        have HE := Lib.hid (show AddP s w N start (addM ws (2, T.data.toList, V)) e w2 from hp.later (Kp.below (by obtain ⟨v, h⟩ := HH.out; exact Nat.le_of_lt h.low) HB1.out))
        obtain ⟨c, rfl⟩ := hp.code
        clear hp
        go_wp2
        go_ret
        rw [HG.out]
        exact HE.out
    · have h1i : (T.size : Int) ≤ 1 := by omega
      have HG := Lib.hid (show numM T.data.toList ws = addM ws (2, T.data.toList, V) by rw [HNm.out, decide_eq_false h1]; rfl)
      clear h1 HNm
      go_enter Tryz.func99, Tryz.ntmps99
      go_wp2_with fail
      refine (HP.out _).mono ?_
      rintro e w1 ⟨rfl, hw⟩
      have HB1 := Lib.hid (show Below w.heap.size w w1 by
        rcases hw with rfl | ⟨t, rfl⟩
        · exact Below.refl _ _
        · exact bytesW_below w _ t)
      clear hw
      go_wp2_with fail
      refine (HAd.out _ (by obtain ⟨v, h⟩ := HH.out; exact ⟨v, h.below HB1.out⟩)).mono ?_
      rintro e w2 hp
      have HE := Lib.hid (show AddP s w N start (addM ws (2, T.data.toList, V)) e w2 from hp.later (Kp.below (by obtain ⟨v, h⟩ := HH.out; exact Nat.le_of_lt h.low) HB1.out))
      obtain ⟨c, rfl⟩ := hp.code
      clear hp
      go_wp2
      go_ret
      rw [HG.out]
      exact HE.out
  · rw [if_neg hr] at hp
    obtain ⟨_, ev, hev, hev2⟩ := hv
    have HP := Lib.hid (Tryz.strconv_ParseInt_10_at64_range T (by omega) hp ev w hev hev2)
    have HG := Lib.hid (show numM T.data.toList ws = .no eS by
      unfold numM numOk
      rw [decide_eq_false hr]
      rfl)
    obtain ⟨V, hV⟩ : ∃ V : Int, V = intSat 64 T.data.toList := ⟨_, rfl⟩
    rw [← hV] at HP
    clear h hp hr hD hne hV hh hb0 hy hev hev2 hi0
    go_enter Tryz.func99, Tryz.ntmps99
    go_wp2_with fail
    refine HP.out.mono ?_
    rintro e w1 ⟨M, rfl, _, _, hb⟩
    have HB1 := Lib.hid hb
    clear hb
    go_wp2
    go_ret
    rw [HG.out]
    exact ⟨rfl, Kp.below (by obtain ⟨v, h⟩ := HH.out; exact Nat.le_of_lt h.low) HB1.out⟩
set_option maxHeartbeats 3200000 in
theorem addtext_any (s : ByteArray) (w : World) (N : Nat) (ws : List Wd) (start : Int) (T : ByteArray) (h : RSt s w N ws 0 start) (hl : ws.length ≤ 600) (hT : T.size ≤ 4000) (hv : VOk w) :
    Calls Tryz.prog 100 #[.pointer (some ⟨N, 0, none⟩), .string T] w (AddP s w N start (textM T.data.toList ws)) := by
  have HH := Lib.hid h
  obtain ⟨⟨m, hm⟩, _⟩ := hv
  have hc := countB_le ⟨#[39, 39]⟩ (by decide) T.size T (Nat.le_refl _)
  have HR := Lib.hid (Tryz.strings_ReplaceAll T ⟨#[39, 39]⟩ ⟨#[39]⟩ m w (by omega) hm (by decide) (by
    have e : (⟨#[39]⟩ : ByteArray).size = 1 := rfl
    rw [e]
    omega))
  have hrep : replaceAll T.data.toList (⟨#[39, 39]⟩ : ByteArray).data.toList (⟨#[39]⟩ : ByteArray).data.toList = unq T.data.toList := repAll _
  rw [hrep] at HR
  have hul := unq_len _ T.data.toList (Nat.le_refl _)
  have hlen : T.data.toList.length = T.size := by rw [Array.length_toList]; rfl
  obtain ⟨U, hU⟩ : ∃ U : ByteArray, U = ⟨(unq T.data.toList).toArray⟩ := ⟨_, rfl⟩
  have hUl : U.data.toList = unq T.data.toList := by rw [hU]
  have hUs : U.size = (unq T.data.toList).length := by rw [hU]; simp [ByteArray.size]
  rw [← hU] at HR
  have hU4 : U.size ≤ 4000 := by omega
  have HAd := Lib.hid (fun (W : World) (hS : RSt s W N ws 0 start) => add_full s W N ws start 3 U 0 hS hl)
  have HTx := Lib.hid (show textM T.data.toList ws = if 100 < U.size then .no eS else addM ws (3, U.data.toList, 0) by unfold textM; rw [hUs, hUl])
  have HLo := Lib.hid (show N ≤ w.heap.size by obtain ⟨v, h⟩ := h; exact Nat.le_of_lt h.low)
  clear h hm hc hrep hul hlen hU hUl hUs
  by_cases h1 : 100 < U.size
  · have h1i : (100 : Int) < (U.size : Int) := by omega
    have HG := Lib.hid (HTx.out.trans (if_pos h1))
    clear h1
    go_enter Tryz.func100, Tryz.ntmps100
    go_wp2_with fail
    refine HR.out.mono ?_
    rintro e w1 ⟨rfl, hb⟩
    have HB1 := Lib.hid hb
    clear hb
    go_wp2
    go_ret
    rw [HG.out]
    exact ⟨rfl, Kp.below HLo.out HB1.out⟩
  · have h1i : (U.size : Int) ≤ 100 := by omega
    have HG := Lib.hid (HTx.out.trans (if_neg h1))
    clear h1
    go_enter Tryz.func100, Tryz.ntmps100
    go_wp2_with fail
    refine HR.out.mono ?_
    rintro e w1 ⟨rfl, hb⟩
    have HB1 := Lib.hid hb
    clear hb
    go_wp2_with fail
    refine (HAd.out _ (by obtain ⟨v, h⟩ := HH.out; exact ⟨v, h.below HB1.out⟩)).mono ?_
    rintro e w2 hp
    have HE := Lib.hid (hp.later (Kp.below HLo.out HB1.out))
    obtain ⟨c, rfl⟩ := hp.code
    clear hp
    go_wp2
    go_ret
    rw [HG.out]
    exact HE.out
end Go.Proofs.YtknhphcfcpjhiaaGreatDoor
