import Derived.Test.YtdpimcjdigdggaaLexV
namespace Go.Proofs.Ytdpimcjdigdggaa
open Go.RowKit

theorem textVal_yes {l : List Tok} (h : l.all validT = true) : textVal l = .tuple #[.string ⟨((flatT l).drop 1).toArray⟩, .int .i64 0] := by unfold textVal; rw [h]; rfl
theorem textVal_no {l : List Tok} (h : l.all validT = false) : textVal l = .tuple #[.string ⟨#[]⟩, .int .i64 1] := by unfold textVal; rw [h]; rfl

set_option maxRecDepth 100000 in
set_option maxHeartbeats 4000000 in
theorem back_dark (v : Value) (l : List Tok) (w : World) (hT : Toks w v l) (hd : lightB l = false) :
    Calls Try.prog 4 #[v] w fun e w' => e = .returned (.bool true) ∧ Below w.heap.size w w' := by
  have A := awake_any w
  have HT := Lib.hid hT
  have HD := Lib.hid hd
  clear hT hd
  go_enter Try.func4, Try.ntmps4
  go_wp2_with fail
  refine A.mono ?_
  rintro e w1 ⟨rfl, hb1⟩
  have HB1 := Lib.hid hb1
  clear A hb1
  go_wp2_with fail
  refine (light_any _ _ _ (HT.out.below HB1.out)).mono ?_
  rintro e w2 ⟨rfl, rfl⟩
  rw [HD.out]
  go_wp2
  go_ret
  exact ⟨rfl, HB1.out⟩

set_option maxRecDepth 100000 in
set_option maxHeartbeats 4000000 in
theorem back_no (v : Value) (l : List Tok) (w : World) (hT : Toks w v l) (hd : lightB l = true) (hv : l.all validT = false) :
    Calls Try.prog 4 #[v] w fun e w' => e = .returned (.bool true) ∧ Below w.heap.size w w' := by
  have A := awake_any w
  have HT := Lib.hid hT
  have HD := Lib.hid hd
  have T1 := fun v w h => text_any v l (light_few hd).1 w h
  rw [textVal_no hv] at T1
  have H3 := Lib.hid T1
  clear hT hd hv T1
  go_enter Try.func4, Try.ntmps4
  go_wp2_with fail
  refine A.mono ?_
  rintro e w1 ⟨rfl, hb1⟩
  have HB1 := Lib.hid hb1
  clear A hb1
  go_wp2_with fail
  refine (light_any _ _ _ (HT.out.below HB1.out)).mono ?_
  rintro e w2 ⟨rfl, rfl⟩
  rw [HD.out]
  go_wp2_with fail
  refine (H3.out _ _ (HT.out.below HB1.out)).mono ?_
  rintro e w2 ⟨rfl, hb2⟩
  have HB2 := Lib.hid (HB1.out.trans (hb2.mono HB1.out.size))
  clear hb2
  go_wp2
  go_ret
  exact ⟨rfl, HB2.out⟩

set_option maxRecDepth 100000 in
set_option maxHeartbeats 4000000 in
theorem back_yes (v : Value) (l : List Tok) (w : World) (hT : Toks w v l) (hd : lightB l = true) (hv : l.all validT = true) :
    Calls Try.prog 4 #[v] w fun e w' => e = .returned (.bool true) ∧ Below w.heap.size w w' := by
  have A := awake_any w
  have HT := Lib.hid hT
  have HD := Lib.hid hd
  have T1 := fun v w h => text_any v l (light_few hd).1 w h
  rw [textVal_yes hv] at T1
  have hlen := flatT_light hd
  obtain ⟨X, hX⟩ : ∃ X : ByteArray, X = ⟨((flatT l).drop 1).toArray⟩ := ⟨_, rfl⟩
  have hXs : X.size ≤ 6000 := by rw [hX]; show ((flatT l).drop 1).toArray.size ≤ _; simp; omega
  have hXl : X.data.toList = (flatT l).drop 1 := by rw [hX]
  obtain ⟨m, hm, ha⟩ := lex_text X.size l hv
  rw [← hXl] at hm
  have L1 := fun w => lex_any X (by omega) w
  rw [hm] at L1
  rw [← hX] at T1
  have hml : m.length ≤ 100000 := by rw [← ha.1]; have := (light_few hd).2.1; omega
  have hll : l.length ≤ 100000 := by rw [ha.1]; exact hml
  have H3 := Lib.hid T1
  have H1 := Lib.hid L1
  have HA := Lib.hid ha
  have HM := Lib.hid hml
  have HL := Lib.hid hll
  clear hT hd hv T1 L1 hlen hX hXs hXl hm ha hml hll
  go_enter Try.func4, Try.ntmps4
  go_wp2_with fail
  refine A.mono ?_
  rintro e w1 ⟨rfl, hb1⟩
  have HB1 := Lib.hid hb1
  clear A hb1
  go_wp2_with fail
  refine (light_any _ _ _ (HT.out.below HB1.out)).mono ?_
  rintro e w2 ⟨rfl, rfl⟩
  rw [HD.out]
  go_wp2_with fail
  refine (H3.out _ _ (HT.out.below HB1.out)).mono ?_
  rintro e w2 ⟨rfl, hb2⟩
  have HB2 := Lib.hid (HB1.out.trans (hb2.mono HB1.out.size))
  clear hb2 HB1
  go_wp2_with fail
  refine (H1.out _).mono ?_
  rintro e w3 ⟨⟨sm, rfl, hTm⟩, hb3⟩
  have HTm := Lib.hid hTm
  have HB3 := Lib.hid (HB2.out.trans (hb3.mono HB2.out.size))
  clear hb3 HB2 hTm
  go_wp2_with fail
  refine (to_any _ l HL.out _ (HT.out.below HB3.out)).mono ?_
  rintro e w4 ⟨⟨sc, rfl, hTc⟩, hb4⟩
  have HTc := Lib.hid hTc
  have HTm4 := Lib.hid (HTm.out.below hb4)
  have HB4 := Lib.hid (HB3.out.trans (hb4.mono HB3.out.size))
  clear hb4 HB3 hTc HTm
  go_wp2_with fail
  refine (to_any _ m HM.out _ HTm4.out).mono ?_
  rintro e w5 ⟨⟨sd, rfl, hTd⟩, hb5⟩
  have HTd := Lib.hid hTd
  have HTc5 := Lib.hid (HTc.out.below hb5)
  have HB5 := Lib.hid (HB4.out.trans (hb5.mono HB4.out.size))
  clear hb5 HB4 hTd HTc HTm4
  go_wp2_with fail
  refine (same_any _ _ false _ _ HL.out HA.out _ HTc5.out HTd.out).mono ?_
  rintro e w6 ⟨rfl, hb6⟩
  have HB6 := Lib.hid (HB5.out.trans (hb6.mono HB5.out.size))
  clear hb6 HB5 HTd HTc5
  go_wp2
  go_ret
  exact ⟨rfl, HB6.out⟩

theorem back_any (v : Value) (l : List Tok) (w : World) (hT : Toks w v l) :
    Calls Try.prog 4 #[v] w fun e w' => e = .returned (.bool true) ∧ Below w.heap.size w w' := by
  cases hd : lightB l with
  | false => exact back_dark v l w hT hd
  | true =>
    cases hv : l.all validT with
    | false => exact back_no v l w hT hd hv
    | true => exact back_yes v l w hT hd hv
end Go.Proofs.Ytdpimcjdigdggaa
