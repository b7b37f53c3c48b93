import Derived.Test.YtdpimcjdigdggaaLexS
namespace Go.Proofs.Ytdpimcjdigdggaa
open Go.RowKit

def Res.toks : Res → List Tok
  | .ok l => l
  | .err _ _ => []
def Res.at_ : Res → Int
  | .ok _ => 0
  | .err p _ => (p : Int)
def Res.code : Res → Int
  | .ok _ => 0
  | .err _ c => (c : Int)
theorem LexVal.open_ {w : World} {r : Res} {e : Ending} (h : LexVal w r e) : ∃ sv, e = .returned (.tuple #[sv, .int .i64 r.at_, .int .i64 r.code]) ∧ Toks w sv r.toks := by
  cases r with
  | ok l => exact h
  | err p c => exact ⟨_, h, .inl ⟨rfl, _, _, rfl⟩⟩
theorem textVal_open (l : List Tok) : ∃ (x : ByteArray) (c : Int), textVal l = .tuple #[.string x, .int .i64 c] := by
  unfold textVal; split <;> exact ⟨_, _, rfl⟩
theorem lexF_count (N : Nat) : ∀ (k : Nat) (l : List UInt8), (lexF N k l).toks.length ≤ l.length := by
  intro k
  induction k with
  | zero => intro l; cases l <;> simp [lexF, Res.toks]
  | succ k ih =>
    intro l
    cases l with
    | nil => simp [lexF, Res.toks]
    | cons b r =>
      rw [lexF]
      have h1 := ih r
      have h2 := ih (dropCmt r)
      have h3 := dropCmt_le r
      simp only [List.length_cons]
      cases hb : blankB b
      · by_cases h59 : b = 59
        · rw [if_neg (by decide), if_pos h59]; omega
        · rw [if_neg (by decide), if_neg h59]
          cases hst : stepL (b :: r) with
          | err p' e => simp [Res.toks]
          | tok kd t r' =>
            have hl := stepL_lt hst
            have h4 := ih r'
            simp only
            cases hx : lexF N k r' with
            | ok l => rw [hx] at h4; simp only [Res.pre, Res.toks, List.length_append, List.length_cons, List.length_nil] at *; omega
            | err p' e => simp [Res.pre, Res.toks]
      · rw [if_pos rfl]; omega
theorem lexN_count (N : Nat) (l : List UInt8) : (lexN N l).toks.length ≤ l.length := lexF_count N _ l

set_option maxRecDepth 100000 in
set_option maxHeartbeats 4000000 in
theorem reads_dark (s : ByteArray) (v : Value) (l : List Tok) (w : World) (hT : Toks w v l) (hd : lightB l = false ∨ 2000 < (s.size : Int)) :
    Calls Try.prog 3 #[.string s, v] w fun e w' => e = .returned (.bool true) ∧ Below w.heap.size w w' := by
  have A := awake_any w
  have HT := Lib.hid hT
  clear hT
  have HL := Lib.hid (rfl : lightB l = lightB l)
  obtain ⟨b, hb⟩ : ∃ b, b = lightB l := ⟨_, rfl⟩
  rw [← hb] at hd
  have HB := Lib.hid hb
  clear hb HL
  have hcase : b = false ∨ (b = true ∧ 2000 < (s.size : Int)) := by
    cases b
    · exact .inl rfl
    · exact .inr ⟨rfl, by simpa using hd⟩
  clear hd
  rcases hcase with rfl | ⟨rfl, hbig⟩
  all_goals
    go_enter Try.func3, Try.ntmps3
    go_wp2_with fail
    refine A.mono ?_
    rintro e w1 ⟨rfl, hb1⟩
    have HB1 := Lib.hid hb1
    clear A hb1
    go_wp2_with fail
    refine (light_any _ _ _ (HT.out.below HB1.out)).mono ?_
    rintro e w2 ⟨rfl, rfl⟩
    rw [← HB.out]
    go_wp2
    go_ret
    exact ⟨rfl, HB1.out⟩

set_option maxRecDepth 100000 in
set_option maxHeartbeats 4000000 in
theorem reads_lit (s : ByteArray) (v : Value) (l : List Tok) (w : World) (hT : Toks w v l) (hd : lightB l = true) (hs : (s.size : Int) ≤ 2000) :
    Calls Try.prog 3 #[.string s, v] w fun e w' => e = .returned (.bool true) ∧ Below w.heap.size w w' := by
  have A := awake_any w
  have HT := Lib.hid hT
  have HD := Lib.hid hd
  have HF := Lib.hid (light_few hd)
  obtain ⟨r, hr⟩ : ∃ r, r = lexN s.size s.data.toList := ⟨_, rfl⟩
  have hcount : r.toks.length ≤ 100000 := by
    rw [hr]
    have := lexN_count s.size s.data.toList
    have e : s.data.toList.length = s.size := Array.length_toList
    omega
  have L1 := fun w => lex_any s (by omega) w
  have L2 := fun w => refLex_any s (by omega) w
  rw [← hr] at L1 L2
  obtain ⟨x, c, hx⟩ := textVal_open l
  have T1 := fun v w h => text_any v l HF.out.1 w h
  have T2 := fun v w h => refText_any v l HF.out.1 w h
  rw [hx] at T1 T2
  have H1 := Lib.hid L1
  have H2 := Lib.hid L2
  have H3 := Lib.hid T1
  have H4 := Lib.hid T2
  have HC := Lib.hid hcount
  clear hT hd hr hcount L1 L2 hx T1 T2
  go_enter Try.func3, Try.ntmps3
  go_wp2_with fail
  refine A.mono ?_
  rintro e w1 ⟨rfl, hb1⟩
  have HB1 := Lib.hid hb1
  clear A hb1
  go_wp2_with fail
  refine (light_any _ _ _ (HT.out.below HB1.out)).mono ?_
  rintro e w2 ⟨rfl, rfl⟩
  rw [HD.out]
  go_wp2_with fail
  refine (H1.out _).mono ?_
  rintro e w2 ⟨he, hb2⟩
  obtain ⟨sa, rfl, hTa⟩ := he.open_
  have HTa := Lib.hid hTa
  have HB2 := Lib.hid (HB1.out.trans (hb2.mono HB1.out.size))
  clear hTa hb2 HB1 he
  go_wp2_with fail
  refine (H2.out _).mono ?_
  rintro e w3 ⟨he, hb3⟩
  obtain ⟨sb, rfl, hTb⟩ := he.open_
  have HTb := Lib.hid hTb
  have HTa3 := Lib.hid (HTa.out.below hb3)
  have HB3 := Lib.hid (HB2.out.trans (hb3.mono HB2.out.size))
  clear hTb hb3 HB2 HTa he
  go_wp2_with fail
  refine (H3.out _ _ (HT.out.below HB3.out)).mono ?_
  rintro e w4 ⟨rfl, hb4⟩
  have HTa4 := Lib.hid (HTa3.out.below hb4)
  have HTb4 := Lib.hid (HTb.out.below hb4)
  have HB4 := Lib.hid (HB3.out.trans (hb4.mono HB3.out.size))
  clear hb4 HB3 HTa3 HTb
  go_wp2_with fail
  refine (to_any _ l (by have := HF.out.2.1; omega) _ (HT.out.below HB4.out)).mono ?_
  rintro e w5 ⟨⟨sc, rfl, hTc⟩, hb5⟩
  have HTc := Lib.hid hTc
  have HTa5 := Lib.hid (HTa4.out.below hb5)
  have HTb5 := Lib.hid (HTb4.out.below hb5)
  have HB5 := Lib.hid (HB4.out.trans (hb5.mono HB4.out.size))
  clear hb5 HB4 HTa4 HTb4 hTc
  go_wp2_with fail
  refine (H4.out _ _ HTc.out).mono ?_
  rintro e w6 ⟨rfl, hb6⟩
  have HTa6 := Lib.hid (HTa5.out.below hb6)
  have HTb6 := Lib.hid (HTb5.out.below hb6)
  have HB6 := Lib.hid (HB5.out.trans (hb6.mono HB5.out.size))
  clear hb6 HB5 HTa5 HTb5 HTc
  go_wp2_with fail
  refine (to_any _ r.toks HC.out _ HTa6.out).mono ?_
  rintro e w7 ⟨⟨sd, rfl, hTd⟩, hb7⟩
  have HTd := Lib.hid hTd
  have HTb7 := Lib.hid (HTb6.out.below hb7)
  have HB7 := Lib.hid (HB6.out.trans (hb7.mono HB6.out.size))
  clear hb7 HB6 HTa6 HTb6 hTd
  go_wp2_with fail
  refine (same_any _ _ true _ _ HC.out (Alike.refl _ _) _ HTd.out HTb7.out).mono ?_
  rintro e w8 ⟨rfl, hb8⟩
  have HB8 := Lib.hid (HB7.out.trans (hb8.mono HB7.out.size))
  clear hb8 HB7 HTd HTb7
  go_wp2
  go_ret
  exact ⟨rfl, HB8.out⟩

theorem reads_any (s : ByteArray) (v : Value) (l : List Tok) (w : World) (hT : Toks w v l) :
    Calls Try.prog 3 #[.string s, v] w fun e w' => e = .returned (.bool true) ∧ Below w.heap.size w w' := by
  cases hd : lightB l with
  | false => exact reads_dark s v l w hT (.inl hd)
  | true =>
    by_cases hs : (s.size : Int) ≤ 2000
    · exact reads_lit s v l w hT hd hs
    · exact reads_dark s v l w hT (.inr (by omega))
end Go.Proofs.Ytdpimcjdigdggaa
