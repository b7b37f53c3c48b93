import Derived.Test.YtkcffgkdejjjjaaDoorU
import Derived.Laws.AppendOwnNone
namespace Go.Proofs.YtkcffgkdejjjjaaDoor
open Go.RowKit

set_option maxRecDepth 100000 in
set_option maxHeartbeats 2000000 in
theorem in_dark (code : Int) (wh : ByteArray) (v : Value) (path : List ByteArray) (w : World) (hs : Strs w v path) (hl : lightB path = false) (hg : Et w) :
    Calls Tryd.prog 4 #[.int .i64 code, v, .string wh] w fun e w' => e = .returned (.bool true) ∧ Below w.heap.size w w' := by
  have A := awake_any w hg
  have HS := Lib.hid hs
  have HL := Lib.hid hl
  clear hs hl hg
  go_enter Tryd.func4, Tryd.ntmps4
  go_wp2_with fail
  refine A.mono ?_
  rintro e w1 ⟨rfl, hb⟩
  clear A
  go_wp2_with fail
  refine (light_calls v path _ (HS.out.below hb)).mono ?_
  rintro e w2 ⟨rfl, rfl⟩
  rw [HL.out]
  go_wp2
  go_ret
  exact ⟨rfl, hb⟩

set_option maxRecDepth 100000 in
set_option maxHeartbeats 2000000 in
theorem in_long (code : Int) (wh : ByteArray) (v : Value) (path : List ByteArray) (w : World) (hs : Strs w v path) (hl : lightB path = true) (hwh : 300 < wh.size) (hg : Et w) :
    Calls Tryd.prog 4 #[.int .i64 code, v, .string wh] w fun e w' => e = .returned (.bool true) ∧ Below w.heap.size w w' := by
  have A := awake_any w hg
  have HS := Lib.hid hs
  have HL := Lib.hid hl
  have hwi : (300 : Int) < wh.size := by omega
  clear hs hl hg
  go_enter Tryd.func4, Tryd.ntmps4
  go_wp2_with fail
  refine A.mono ?_
  rintro e w1 ⟨rfl, hb⟩
  clear A
  go_wp2_with fail
  refine (light_calls v path _ (HS.out.below hb)).mono ?_
  rintro e w2 ⟨rfl, rfl⟩
  rw [HL.out]
  go_wp2
  go_ret
  exact ⟨rfl, hb⟩

set_option maxRecDepth 100000 in
set_option maxHeartbeats 2000000 in
theorem in_zero (wh : ByteArray) (v : Value) (path : List ByteArray) (w : World) (hs : Strs w v path) (hl : lightB path = true) (hwh : wh.size ≤ 300) (hg : Et w) :
    Calls Tryd.prog 4 #[.int .i64 0, v, .string wh] w fun e w' => e = .returned (.bool true) ∧ Below w.heap.size w w' := by
  have A := awake_any w hg
  have HS := Lib.hid hs
  have HL := Lib.hid hl
  have hwi : ¬ (300 : Int) < wh.size := by omega
  clear hs hl hg
  go_enter Tryd.func4, Tryd.ntmps4
  go_wp2_with fail
  refine A.mono ?_
  rintro e w1 ⟨rfl, hb⟩
  clear A
  go_wp2_with fail
  refine (light_calls v path _ (HS.out.below hb)).mono ?_
  rintro e w2 ⟨rfl, rfl⟩
  rw [HL.out]
  go_wp2_with fail
  refine (make_zero v _).mono ?_
  rintro e w2 ⟨rfl, rfl⟩
  go_wp2_with fail
  refine (in_nil _ _).mono ?_
  rintro e w2 ⟨rfl, rfl⟩
  go_wp2_with fail
  refine (in_nil _ _).mono ?_
  rintro e w2 ⟨rfl, rfl⟩
  go_wp2
  go_ret
  exact ⟨rfl, hb⟩

theorem places_cons (s : ByteArray) (l : List ByteArray) : places (s :: l) = s.data.toList ++ ([58, 32] ++ places l) := by simp [places]

theorem ba_front (s : ByteArray) (a b : List UInt8) : s ++ (⟨a.toArray⟩ : ByteArray) ++ (⟨b.toArray⟩ : ByteArray) = ⟨(s.data.toList ++ (a ++ b)).toArray⟩ := by
  apply ByteArray.ext; simp [ByteArray.data_append]

theorem own_one (w : World) (x : ByteArray) : (w.alloc (.cells #[.string x] 9)).ownsRow w.heap.size 9 1 (.slice (some ⟨w.heap.size, 0, none⟩) 1 1) 1 [.string x] :=
  ⟨rfl, .inr ⟨w.heap.size, 1, #[.string x], rfl, Nat.le_refl _, World.alloc_heap_new w _, Nat.le_refl _, by simp [maxLen], rfl, rfl⟩⟩

set_option maxRecDepth 100000 in
set_option maxHeartbeats 4000000 in
theorem in_some_walk (code : Int) (T : List UInt8) (wh : ByteArray) (a : Option Addr) (len cap : Nat) (path : List ByteArray) (w : World) (hs : Strs w (.slice a len cap) path) (hnil : a = none → cap = 0) (hl : lightB path = true) (hwh : wh.size ≤ 300) (hg : Et w)
    (hcode : (code == 0) = false) (hT : Says w code T) (hTl : T.length ≤ 1000) :
    Calls Tryd.prog 4 #[.int .i64 code, .slice a len cap, .string wh] w fun e w' => e = .returned (.bool true) ∧ Below w.heap.size w w' := by
  obtain ⟨i0, hi, hz0, hz1, hz2⟩ := info_parts Tryd.infoStr
  obtain ⟨hp40, hp⟩ := light_len hl
  have A := awake_any w hg
  have HS := Lib.hid hs
  have HL := Lib.hid hl
  have HG := Lib.hid hg
  have HT := Lib.hid hT
  have HNIL := Lib.hid hnil
  have hcc : (code == code) = true := by simp
  have hwi : ¬ (300 : Int) < wh.size := by omega
  clear hs hl hg hT hnil
  go_enter Tryd.func4, Tryd.ntmps4
  go_wp2_with fail
  refine A.mono ?_
  rintro e w1 ⟨rfl, hb1⟩
  clear A
  go_wp2_with fail
  refine (light_calls _ path _ (HS.out.below hb1)).mono ?_
  rintro e w2 ⟨rfl, rfl⟩
  rw [HL.out]
  go_wp2_with fail
  refine (make_any code a len cap path w1 hcode (by omega) (HS.out.below hb1)).mono ?_
  rintro en w2 ⟨e, rfl, hc, hb2⟩
  have hB2 := hb1.trans (hb2.mono hb1.size)
  obtain ⟨t, v, rfl⟩ := hc.iface
  have HC2 := Lib.hid hc
  have hg2 := HG.out.below hB2
  clear hc hb2 hb1
  -- In
  go_wp2_with fail
  refine (in_some wh t v w2).mono ?_
  rintro en w3 ⟨rfl, hw3⟩
  have hb3 : Below w2.heap.size w2 w3 := by rw [hw3]; exact (Below.refl _ _).alloc (Nat.le_refl _) _
  have HF3 : Hid (Chain w3 w3.heap.size code (wh :: path) (.iface 54 (.pointer (some ⟨w2.heap.size, 0, none⟩)))) := by
    show Chain _ _ _ _ _
    refine ⟨w2.heap.size, .iface t v, rfl, by rw [hw3]; simp, by rw [hw3, World.cell?_alloc_at _ _ _ _ rfl]; rfl, by rw [hw3, World.cell?_alloc_at _ _ _ _ rfl]; rfl, (HC2.out.below hb3 (Nat.le_refl _)).up hb3.size⟩
  have HC3 := Lib.hid ((HC2.out.below hb3 (Nat.le_refl _)).up hb3.size)
  have hg3 := hg2.below hb3
  have hB3 := hB2.trans (hb3.mono hB2.size)
  have hpl : (wh :: path).length ≤ 1000 := by simp; omega
  clear hB2 hb3 hg2 HC2 hw3
  -- Path of f
  go_wp2_with fail
  refine (pathF_any code (wh :: path) _ w3 hpl HF3.out).mono ?_
  rintro en w4 ⟨v4, rfl, hown, hb4⟩
  obtain ⟨a4, c4, rfl⟩ := own_shape hown
  have hS4 := Strs.of_own hown (by unfold maxLen; omega)
  clear hown
  have HF4 := Lib.hid ((HF3.out.below hb4 (Nat.le_refl _)).up hb4.size)
  have HC4 := Lib.hid ((HC3.out.below hb4 (Nat.le_refl _)).up hb4.size)
  have hg4 := hg3.below hb4
  have hB4 := hB3.trans (hb4.mono hB3.size)
  clear hB3 hb4 hg3 HC3 HF3
  have HS4 := Lib.hid hS4
  clear hS4
  have hown := own_one w4 wh
  have hcases : (a = none ∧ len = 0 ∧ cap = 0 ∧ Hid (path = [])) ∨ (∃ p, a = some p ∧ len = path.length ∧ Hid (∀ j u, (path.map Value.string)[j]? = some u → (w4.alloc (.cells #[.string wh] 9)).cell? (p.add j) = some u)) := by
    rcases HS.out.below hB4 with ⟨h1, a0, c0, h2⟩ | ⟨b, off, c0, h2, h3, h4, h5⟩
    · cases h2
      cases a with
      | none => exact .inl ⟨rfl, rfl, HNIL.out rfl, h1⟩
      | some p => exact .inr ⟨p, rfl, by rw [h1]; rfl, by show ∀ j u, _; rw [h1]; intro j u h; simp at h⟩
    · cases h2
      refine .inr ⟨_, rfl, rfl, ?_⟩
      show ∀ j u, _
      intro j u h
      have hj : j < path.length := by
        rcases Nat.lt_or_ge j path.length with h' | h'
        · exact h'
        · simp [h'] at h
      have e : (⟨b, off, none⟩ : Addr).add j = ⟨b, off + j, none⟩ := by unfold Addr.add; split <;> simp_all
      rw [e, World.cell?_alloc_lt _ _ ⟨b, off + j, none⟩ h3, h5 j hj]
      simp [hj] at h
      simp [List.getD_eq_getElem?_getD, hj, h]
  have hbA : Below w4.heap.size w4 (w4.alloc (.cells #[.string wh] 9)) := (Below.refl _ _).alloc (Nat.le_refl _) _
  rcases hcases with ⟨rfl, rfl, rfl, hp0⟩ | ⟨p, rfl, rfl, hcl⟩
  · go_wp2_with (at_builtin; refine wpList_append_own_none rfl _ _ 23 rfl w4.heap.size 9 i0 1 Tryd.underlying23 hi _ _ _ rfl hown rfl ?_)
    have hS5 : Strs (w4.alloc (.cells #[.string wh] 9)) (.slice (some ⟨w4.heap.size, 0, none⟩) 1 1) (wh :: path) := by
      rw [hp0.out]; exact Strs.of_own (path := [wh]) hown (by simp [maxLen])
    obtain ⟨w5, hw5⟩ : ∃ w5, w5 = w4.alloc (.cells #[.string wh] 9) := ⟨_, rfl⟩
    obtain ⟨v5, hv5⟩ : ∃ v5, v5 = Value.slice (some ⟨w4.heap.size, 0, none⟩) 1 1 := ⟨_, rfl⟩
    rw [← hw5, ← hv5] at hS5
    rw [← hw5] at hbA
    clear hown
    rw [← hw5, ← hv5]
    clear hw5 hv5 hp0
    refine (same_calls _ _ (wh :: path) w5 (HS4.out.below hbA) hS5).mono ?_
    rintro en w6 ⟨rfl, n6, rfl⟩
    have hb6 : Below w4.heap.size w4 (w5.drewN n6) := below_draws hbA n6
    obtain ⟨w6, hw6⟩ : ∃ w6, w6 = w5.drewN n6 := ⟨_, rfl⟩
    rw [← hw6] at hb6 ⊢
    clear hw6 hS5
    have HF6 := Lib.hid ((HF4.out.below hb6 (Nat.le_refl _)).up hb6.size)
    have HC6 := Lib.hid ((HC4.out.below hb6 (Nat.le_refl _)).up hb6.size)
    have hg6 := hg4.below hb6
    have hB6 := hB4.trans (hb6.mono hB4.size)
    clear hB4 hg4 HC4 HF4 hb6 hbA HS4
    go_wp2_with fail
    refine (code_any code (wh :: path) _ w6 hpl HF6.out hg6).mono ?_
    rintro en w7 ⟨rfl, hb7⟩
    have HF7 := Lib.hid ((HF6.out.below hb7 (Nat.le_refl _)).up hb7.size)
    have HC7 := Lib.hid ((HC6.out.below hb7 (Nat.le_refl _)).up hb7.size)
    have hg7 := hg6.below hb7
    have hB7 := hB6.trans (hb7.mono hB6.size)
    clear hB6 hg6 HC6 HF6 hb7
    go_wp2_with fail
    refine (isF_any code code (wh :: path) _ w7 hpl HF7.out hg7).mono ?_
    rintro en w8 ⟨rfl, hb8⟩
    have HF8 := Lib.hid ((HF7.out.below hb8 (Nat.le_refl _)).up hb8.size)
    have HC8 := Lib.hid ((HC7.out.below hb8 (Nat.le_refl _)).up hb8.size)
    have hB8 := hB7.trans (hb8.mono hB7.size)
    rw [show isB code code = true from hcc]
    clear hB7 hg7 HC7 HF7 hb8
    go_wp2_with fail
    have T8 := text_any w code T HT.out (wh :: path) _ w8 hpl (by rw [places_cons]; simp; omega) HF8.out hB8
    obtain ⟨Y, hY⟩ : ∃ Y, Y = places (wh :: path) ++ T := ⟨_, rfl⟩
    obtain ⟨X, hX⟩ : ∃ X, X = places path ++ T := ⟨_, rfl⟩
    rw [← hY] at T8
    have hXl : X.length ≤ 5000 := by rw [hX, List.length_append]; omega
    have hYl : Y.length ≤ 5400 := by rw [hY, List.length_append, places_cons]; simp; omega
    have HX := Lib.hid hX
    have HY := Lib.hid hY
    clear hX hY
    refine T8.mono ?_
    rintro en w9 ⟨rfl, hb9⟩
    have HC9 := Lib.hid ((HC8.out.below hb9 (Nat.le_refl _)).up hb9.size)
    have hB9 := hB8.trans (hb9.mono hB8.size)
    clear T8 hB8 HC8 HF8 hb9
    have T9 : ∀ W, Below w9.heap.size w9 W → Calls Tryd.prog 8 #[.iface t v] W fun en w' => en = .returned (.string ⟨X.toArray⟩) ∧ Below W.heap.size W w' := fun W hbW => by
      rw [HX.out]
      exact text_any w code T HT.out path _ W (by omega) (by omega) ((HC9.out.below hbW (Nat.le_refl _)).up hbW.size) (hB9.trans (hbW.mono hB9.size))
    have HT9 := Lib.hid T9
    clear T9
    go_wp2_with fail
    refine (HT9.out w9 (Below.refl _ _)).mono ?_
    rintro en w10 ⟨rfl, hb10⟩
    have hYX : Hid (Y = (wh ++ (⟨#[58, 32]⟩ : ByteArray) ++ (⟨X.toArray⟩ : ByteArray)).toList) := by
      show Y = _
      rw [HY.out, HX.out, places_cons, ba_front]
      simp
    go_wp2_with fail
    have hB10 := hB9.trans (hb10.mono hB9.size)
    have HC10 := Lib.hid ((HC9.out.below hb10 (Nat.le_refl _)).up hb10.size)
    refine (HT9.out w10 hb10).mono ?_
    rintro en w11 ⟨rfl, hb11⟩
    have hB11 := hB10.trans (hb11.mono hB10.size)
    have HC11 := Lib.hid ((HC10.out.below hb11 (Nat.le_refl _)).up hb11.size)
    clear HC9 HC10 hB9 hB10 HT9 hYX
    have hcase : (path = [] ∧ t = 22 ∧ v = .int .i64 code) ∨ (∃ a, t = 54 ∧ v = .pointer (some a)) := by
      have := HC11.out
      cases path with
      | nil => cases this; exact .inl ⟨rfl, rfl, rfl⟩
      | cons s r => obtain ⟨a, i, h, _⟩ := this; cases h; exact .inr ⟨_, rfl, rfl⟩
    have m1 := Tryd.error22
    have m2 := Tryd.error54
    have E8 : ∃ f x, ((t = 22 ∧ v = .int .i64 code ∧ f = 23 ∧ x = .int .i64 code) ∨ (∃ a, t = 54 ∧ v = .pointer (some a) ∧ f = 68 ∧ x = .pointer (some a))) ∧
        Calls Tryd.prog f #[x] w11 fun en w' => en = .returned (.string ⟨X.toArray⟩) ∧ Below w11.heap.size w11 w' := by
      rcases hcase with ⟨hp, rfl, rfl⟩ | ⟨a, rfl, rfl⟩
      · refine ⟨23, _, .inl ⟨rfl, rfl, rfl, rfl⟩, ?_⟩
        have : X = T := by rw [HX.out, hp]; rfl
        rw [this]
        exact HT.out w11 hB11
      · refine ⟨68, _, .inr ⟨a, rfl, rfl, rfl, rfl⟩, ?_⟩
        rw [HX.out]
        exact error_any w code T HT.out path a w11 (by omega) (by omega) HC11.out hB11
    clear hcase
    obtain ⟨f, x, ⟨rfl, rfl, rfl, rfl⟩ | ⟨a, rfl, rfl, rfl, rfl⟩, E8⟩ := E8
    all_goals
      have HE := Lib.hid E8
      clear E8
      go_wp2_with fail
      refine HE.out.mono ?_
      rintro en w12 ⟨rfl, hb12⟩
      have hB12 := hB11.trans (hb12.mono hB11.size)
      clear HE hb12 hB11
      go_wp2
      go_ret
      exact ⟨rfl, hB12⟩
  · go_wp2_with (at_builtin; refine wpList_append_own _ rfl _ _ 23 rfl w4.heap.size 9 i0 (.string ByteArray.empty) 1 16 Tryd.underlying23 hi hz0 hz1 hz2 rfl (by decide) _ _ _ rfl hown p path.length cap (path.map Value.string) rfl (by simp) hcl.out (by simp [Value.oneCell']) (by unfold maxLen; omega) (by omega) (by simp) ?_)
    intro v5 w5 hown5 hgrow _
    have hbA2 : Below w4.heap.size w4 w5 := hbA.grown hgrow (by simp) (fun k hk => (hown.lt k hk).1)
    have hS5 : Strs w5 v5 (wh :: path) := by
      refine Strs.of_own (B := w4.heap.size) ?_ (by unfold maxLen; simp; omega)
      have e : (wh :: path).length = 1 + path.length := by simp; omega
      rw [e]; exact hown5
    clear hown hcl hown5 hgrow hbA
    have hbA := hbA2
    clear hbA2
    go_wp2_with fail
    refine (same_calls _ _ (wh :: path) w5 (HS4.out.below hbA) hS5).mono ?_
    rintro en w6 ⟨rfl, n6, rfl⟩
    have hb6 : Below w4.heap.size w4 (w5.drewN n6) := below_draws hbA n6
    obtain ⟨w6, hw6⟩ : ∃ w6, w6 = w5.drewN n6 := ⟨_, rfl⟩
    rw [← hw6] at hb6 ⊢
    clear hw6 hS5
    have HF6 := Lib.hid ((HF4.out.below hb6 (Nat.le_refl _)).up hb6.size)
    have HC6 := Lib.hid ((HC4.out.below hb6 (Nat.le_refl _)).up hb6.size)
    have hg6 := hg4.below hb6
    have hB6 := hB4.trans (hb6.mono hB4.size)
    clear hB4 hg4 HC4 HF4 hb6 hbA HS4
    go_wp2_with fail
    refine (code_any code (wh :: path) _ w6 hpl HF6.out hg6).mono ?_
    rintro en w7 ⟨rfl, hb7⟩
    have HF7 := Lib.hid ((HF6.out.below hb7 (Nat.le_refl _)).up hb7.size)
    have HC7 := Lib.hid ((HC6.out.below hb7 (Nat.le_refl _)).up hb7.size)
    have hg7 := hg6.below hb7
    have hB7 := hB6.trans (hb7.mono hB6.size)
    clear hB6 hg6 HC6 HF6 hb7
    go_wp2_with fail
    refine (isF_any code code (wh :: path) _ w7 hpl HF7.out hg7).mono ?_
    rintro en w8 ⟨rfl, hb8⟩
    have HF8 := Lib.hid ((HF7.out.below hb8 (Nat.le_refl _)).up hb8.size)
    have HC8 := Lib.hid ((HC7.out.below hb8 (Nat.le_refl _)).up hb8.size)
    have hB8 := hB7.trans (hb8.mono hB7.size)
    rw [show isB code code = true from hcc]
    clear hB7 hg7 HC7 HF7 hb8
    go_wp2_with fail
    have T8 := text_any w code T HT.out (wh :: path) _ w8 hpl (by rw [places_cons]; simp; omega) HF8.out hB8
    obtain ⟨Y, hY⟩ : ∃ Y, Y = places (wh :: path) ++ T := ⟨_, rfl⟩
    obtain ⟨X, hX⟩ : ∃ X, X = places path ++ T := ⟨_, rfl⟩
    rw [← hY] at T8
    have hXl : X.length ≤ 5000 := by rw [hX, List.length_append]; omega
    have hYl : Y.length ≤ 5400 := by rw [hY, List.length_append, places_cons]; simp; omega
    have HX := Lib.hid hX
    have HY := Lib.hid hY
    clear hX hY
    refine T8.mono ?_
    rintro en w9 ⟨rfl, hb9⟩
    have HC9 := Lib.hid ((HC8.out.below hb9 (Nat.le_refl _)).up hb9.size)
    have hB9 := hB8.trans (hb9.mono hB8.size)
    clear T8 hB8 HC8 HF8 hb9
    have T9 : ∀ W, Below w9.heap.size w9 W → Calls Tryd.prog 8 #[.iface t v] W fun en w' => en = .returned (.string ⟨X.toArray⟩) ∧ Below W.heap.size W w' := fun W hbW => by
      rw [HX.out]
      exact text_any w code T HT.out path _ W (by omega) (by omega) ((HC9.out.below hbW (Nat.le_refl _)).up hbW.size) (hB9.trans (hbW.mono hB9.size))
    have HT9 := Lib.hid T9
    clear T9
    go_wp2_with fail
    refine (HT9.out w9 (Below.refl _ _)).mono ?_
    rintro en w10 ⟨rfl, hb10⟩
    have hYX : Hid (Y = (wh ++ (⟨#[58, 32]⟩ : ByteArray) ++ (⟨X.toArray⟩ : ByteArray)).toList) := by
      show Y = _
      rw [HY.out, HX.out, places_cons, ba_front]
      simp
    go_wp2_with fail
    have hB10 := hB9.trans (hb10.mono hB9.size)
    have HC10 := Lib.hid ((HC9.out.below hb10 (Nat.le_refl _)).up hb10.size)
    refine (HT9.out w10 hb10).mono ?_
    rintro en w11 ⟨rfl, hb11⟩
    have hB11 := hB10.trans (hb11.mono hB10.size)
    have HC11 := Lib.hid ((HC10.out.below hb11 (Nat.le_refl _)).up hb11.size)
    clear HC9 HC10 hB9 hB10 HT9 hYX
    have hcase : (path = [] ∧ t = 22 ∧ v = .int .i64 code) ∨ (∃ a, t = 54 ∧ v = .pointer (some a)) := by
      have := HC11.out
      cases path with
      | nil => cases this; exact .inl ⟨rfl, rfl, rfl⟩
      | cons s r => obtain ⟨a, i, h, _⟩ := this; cases h; exact .inr ⟨_, rfl, rfl⟩
    have m1 := Tryd.error22
    have m2 := Tryd.error54
    have E8 : ∃ f x, ((t = 22 ∧ v = .int .i64 code ∧ f = 23 ∧ x = .int .i64 code) ∨ (∃ a, t = 54 ∧ v = .pointer (some a) ∧ f = 68 ∧ x = .pointer (some a))) ∧
        Calls Tryd.prog f #[x] w11 fun en w' => en = .returned (.string ⟨X.toArray⟩) ∧ Below w11.heap.size w11 w' := by
      rcases hcase with ⟨hp, rfl, rfl⟩ | ⟨a, rfl, rfl⟩
      · refine ⟨23, _, .inl ⟨rfl, rfl, rfl, rfl⟩, ?_⟩
        have : X = T := by rw [HX.out, hp]; rfl
        rw [this]
        exact HT.out w11 hB11
      · refine ⟨68, _, .inr ⟨a, rfl, rfl, rfl, rfl⟩, ?_⟩
        rw [HX.out]
        exact error_any w code T HT.out path a w11 (by omega) (by omega) HC11.out hB11
    clear hcase
    obtain ⟨f, x, ⟨rfl, rfl, rfl, rfl⟩ | ⟨a, rfl, rfl, rfl, rfl⟩, E8⟩ := E8
    all_goals
      have HE := Lib.hid E8
      clear E8
      go_wp2_with fail
      refine HE.out.mono ?_
      rintro en w12 ⟨rfl, hb12⟩
      have hB12 := hB11.trans (hb12.mono hB11.size)
      clear HE hb12 hB11
      go_wp2
      go_ret
      exact ⟨rfl, hB12⟩
end Go.Proofs.YtkcffgkdejjjjaaDoor
