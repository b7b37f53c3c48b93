import Derived.Test.YtkcffgkdejjjjaaDoorP
namespace Go.Proofs.YtkcffgkdejjjjaaDoor
open Go.RowKit

/-- the method Error of an error in memory -/
theorem invoke_nil (code : Int) (w : World) : (Go.method 237 22 (.int .i64 code) "Error").run Tryd.prog w = .ok (23, .int .i64 code) w := Tryd.error22 code w

set_option maxRecDepth 100000 in
set_option maxHeartbeats 4000000 in
theorem tells_some (code other : Int) (T : List UInt8) (a : Option Addr) (len cap : Nat) (path : List ByteArray) (w : World) (hs : Strs w (.slice a len cap) path) (hl : lightB path = true) (hg : Et w)
    (hcode : (code == 0) = false) (hT : Says w code T) (hTl : T.length ≤ 1000) (o : Bool) (ho : (code == other) = o) :
    Calls Tryd.prog 3 #[.int .i64 code, .int .i64 other, .slice a len cap] w fun e w' => e = .returned (.bool true) ∧ Below w.heap.size w w' := by
  obtain ⟨hp40, hp⟩ := light_len hl
  have A := awake_any w hg
  have HS := Lib.hid hs
  have HL := Lib.hid hl
  have HG := Lib.hid hg
  have HT := Lib.hid hT
  have hcc : (code == code) = true := by simp
  have hib : isB code other = o := ho
  have HIB := Lib.hid hib
  clear hs hl hg hT hib
  go_enter Tryd.func3, Tryd.ntmps3
  go_wp2_with fail
  refine A.mono ?_
  rintro e w1 ⟨rfl, hb1⟩
  clear A
  go_wp2_with fail
  refine (light_calls _ path _ (HS.out.below hb1)).mono ?_
  rintro e w2 ⟨rfl, rfl⟩
  rw [HL.out]
  go_wp2_with fail
  refine (make_any code a len cap path w1 hcode (by omega) (HS.out.below hb1)).mono ?_
  rintro en w2 ⟨e, rfl, hc, hb2⟩
  have hB2 := hb1.trans (hb2.mono hb1.size)
  obtain ⟨t, v, rfl⟩ := hc.iface
  have HC2 := Lib.hid hc
  have hg2 := HG.out.below hB2
  clear hc hb2 hb1
  go_wp2_with fail
  refine (pathF_any code path _ w2 (by omega) HC2.out).mono ?_
  rintro en w3 ⟨v3, rfl, hown, hb3⟩
  obtain ⟨a3, c3, rfl⟩ := own_shape hown
  have hS3 := Strs.of_own hown (by unfold maxLen; omega)
  clear hown
  have HC3 := Lib.hid ((HC2.out.below hb3 (Nat.le_refl _)).up hb3.size)
  have hg3 := hg2.below hb3
  have hB3 := hB2.trans (hb3.mono hB2.size)
  clear hB2 hb3 hg2 HC2
  go_wp2_with fail
  refine (same_calls _ _ path w3 hS3 (HS.out.below hB3)).mono ?_
  rintro en w4 ⟨rfl, n4, rfl⟩
  have hb4 : Below w3.heap.size w3 (w3.drewN n4) := below_draws (Below.refl _ _) n4
  have HC4 := Lib.hid ((HC3.out.below hb4 (Nat.le_refl _)).up hb4.size)
  have hg4 := hg3.below hb4
  have hB4 := hB3.trans (hb4.mono hB3.size)
  obtain ⟨w4, hw4⟩ : ∃ w4, w4 = w3.drewN n4 := ⟨_, rfl⟩
  rw [← hw4] at HC4 hg4 hB4 ⊢
  clear hS3 HC3 hg3 hB3 hb4 hw4
  go_wp2_with fail
  refine (code_any code path _ w4 (by omega) HC4.out hg4).mono ?_
  rintro en w5 ⟨rfl, hb5⟩
  have HC5 := Lib.hid ((HC4.out.below hb5 (Nat.le_refl _)).up hb5.size)
  have hg5 := hg4.below hb5
  have hB5 := hB4.trans (hb5.mono hB4.size)
  clear hB4 hg4 HC4 hb5
  go_wp2_with fail
  refine (isF_any code other path _ w5 (by omega) HC5.out hg5).mono ?_
  rintro en w6 ⟨rfl, hb6⟩
  have HC6 := Lib.hid ((HC5.out.below hb6 (Nat.le_refl _)).up hb6.size)
  have hB6 := hB5.trans (hb6.mono hB5.size)
  rw [HIB.out]
  clear hB5 hg5 HC5 hb6
  go_wp2_with fail
  have T6 := text_any w code T HT.out path _ w6 (by omega) (by omega) HC6.out hB6
  obtain ⟨X, hX⟩ : ∃ X, X = places path ++ T := ⟨_, rfl⟩
  rw [← hX] at T6
  have hXl : X.length ≤ 5000 := by rw [hX, List.length_append]; omega
  have HX := Lib.hid hX
  clear hX
  refine T6.mono ?_
  rintro en w7 ⟨rfl, hb7⟩
  have HC7 := Lib.hid ((HC6.out.below hb7 (Nat.le_refl _)).up hb7.size)
  have hB7 := hB6.trans (hb7.mono hB6.size)
  clear T6 hB6 HC6 hb7
  have R7 := refText_calls w code T HT.out path _ w7 hcode (by omega) (by omega) (HS.out.below hB7) hB7
  rw [← HX.out] at R7
  go_wp2_with fail
  refine R7.mono ?_
  rintro en w8 ⟨rfl, hb8⟩
  have HC8 := Lib.hid ((HC7.out.below hb8 (Nat.le_refl _)).up hb8.size)
  have hB8 := hB7.trans (hb8.mono hB7.size)
  clear R7 hB7 HC7 hb8
  have hcase : (path = [] ∧ t = 22 ∧ v = .int .i64 code) ∨ (∃ a, t = 54 ∧ v = .pointer (some a)) := by
    have := HC8.out
    cases path with
    | nil => cases this; exact .inl ⟨rfl, rfl, rfl⟩
    | cons s r => obtain ⟨a, i, h, _⟩ := this; cases h; exact .inr ⟨_, rfl, rfl⟩
  have m1 := Tryd.error22
  have m2 := Tryd.error54
  have E8 : ∃ f x, ((t = 22 ∧ v = .int .i64 code ∧ f = 23 ∧ x = .int .i64 code) ∨ (∃ a, t = 54 ∧ v = .pointer (some a) ∧ f = 68 ∧ x = .pointer (some a))) ∧
      Calls Tryd.prog f #[x] w8 fun en w' => en = .returned (.string ⟨X.toArray⟩) ∧ Below w8.heap.size w8 w' := by
    rcases hcase with ⟨hp, rfl, rfl⟩ | ⟨a, rfl, rfl⟩
    · refine ⟨23, _, .inl ⟨rfl, rfl, rfl, rfl⟩, ?_⟩
      have : X = T := by rw [HX.out, hp]; rfl
      rw [this]
      exact HT.out w8 hB8
    · refine ⟨68, _, .inr ⟨a, rfl, rfl, rfl, rfl⟩, ?_⟩
      rw [HX.out]
      exact error_any w code T HT.out path a w8 (by omega) (by omega) HC8.out hB8
  have R : ∀ w9, Below w8.heap.size w8 w9 → Calls Tryd.prog 13 #[.int .i64 code, .slice a len cap] w9 fun en w' => en = .returned (.string ⟨X.toArray⟩) ∧ Below w9.heap.size w9 w' := fun w9 hb9 => by
    have hB9 := hB8.trans (hb9.mono hB8.size)
    rw [HX.out]
    exact refText_calls w code T HT.out path _ w9 hcode (by omega) (by omega) (HS.out.below hB9) hB9
  have HR := Lib.hid R
  clear R hcase
  obtain ⟨f, x, ⟨rfl, rfl, rfl, rfl⟩ | ⟨a, rfl, rfl, rfl, rfl⟩, E8⟩ := E8
  all_goals
    have HE := Lib.hid E8
    clear E8
    go_wp2_with fail
    refine HE.out.mono ?_
    rintro en w9 ⟨rfl, hb9⟩
    have R9 := HR.out w9 hb9
    have hB9 := hB8.trans (hb9.mono hB8.size)
    go_wp2_with fail
    refine R9.mono ?_
    rintro en w10 ⟨rfl, hb10⟩
    have hB10 := hB9.trans (hb10.mono hB9.size)
    clear R9 HR HE hb9 hb10 hB8 hB9
    go_wp2
    go_ret
    exact ⟨rfl, hB10⟩
end Go.Proofs.YtkcffgkdejjjjaaDoor
