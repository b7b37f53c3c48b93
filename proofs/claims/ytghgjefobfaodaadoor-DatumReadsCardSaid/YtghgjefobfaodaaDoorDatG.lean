import Derived.Test.YtghgjefobfaodaaDoorDatF
import Derived.Test.YtghgjefobfaodaaDoorLexO
namespace Go.Proofs.YtghgjefobfaodaaDoor
open Go.RowKit

theorem leafR_eq (k : Int) (t : ByteArray) (l : List Dat) : leafR (.mk k t l) = (decide (1 ≤ k) && decide (k ≤ 4) && decide (l.length = 0) && validT ⟨k + 3, t, 0⟩ && (k != 2 || (plainR t.data.toList == t.data.toList && decide (digs t ≤ 200)))) := rfl

theorem rplain (t : ByteArray) (ht : t.size ≤ 10000) (w : World) :
    Calls Tryd.prog 24 #[.string t] w fun e w' => e = .returned (.string ⟨(plainR t.data.toList).toArray⟩) ∧ w' = w := by
  refine (refPlain_any t (by omega) w).mono ?_
  rintro e w' ⟨rfl, rfl⟩
  exact ⟨rfl, rfl⟩
theorem rdigits (t : ByteArray) (ht : t.size ≤ 10000) (w : World) :
    Calls Tryd.prog 23 #[.string t] w fun e w' => e = .returned (.int .i64 (digs t : Nat)) ∧ w' = w := by
  refine (refDigits_any t (by omega) w).mono ?_
  rintro e w' ⟨rfl, rfl⟩
  exact ⟨rfl, rfl⟩
theorem rtext (k : Int) (t : ByteArray) (ht : t.size ≤ 10000) (v : Value) (w : World) (h : Toks w v [⟨k, t, 0⟩]) :
    Calls Tryd.prog 45 #[v] w fun e w' => e = .returned (.tuple #[.string (tokS ⟨k, t, 0⟩), .int .i64 (tokE ⟨k, t, 0⟩)]) ∧ Below w.heap.size w w' := by
  rw [← textVal_one]
  exact refText_any v _ (few_one ht _ _) w h

set_option maxRecDepth 100000 in
set_option maxHeartbeats 4000000 in
/-- the last line of fits, with what it comes to -/
theorem fits_leaf (k : Int) (t : ByteArray) (l : List Dat) (sv : Value) (n : Int) (w : World) (hk5 : k ≠ 5) (ht : t.size ≤ 10000) (h : SliceOf w (· < w.heap.size) sv l) :
    Calls Tryd.prog 31 #[.agg #[.int .i64 k, .string t, sv], .int .i64 n] w fun e w' => e = .returned (.bool (leafR (.mk k t l))) ∧ Below w.heap.size w w' := by
  have hk5' : (k == 5) = false := by simpa using hk5
  have hlm := h.len
  obtain ⟨a, c, rfl⟩ := h.val
  unfold maxLen at hlm
  have T := fun k' v w h => rtext k' t ht v w h
  have HT := Lib.hid T
  have HL := Lib.hid (leafR_eq k t l)
  clear T h
  by_cases hk1 : 1 ≤ k
  · by_cases hk4 : k ≤ 4
    · have d1 : decide (1 ≤ k) = true := by simpa using hk1
      have d4 : decide (k ≤ 4) = true := by simpa using hk4
      by_cases h0 : l.length = 0
      · have h0' : ((l.length : Int) == 0) = true := by simpa using h0
        have H0 := Lib.hid h0
        clear h0
        cases hv : validT ⟨k + 3, t, 0⟩
        · have hE : ((tokE ⟨k + 3, t, 0⟩ : Int) == 0) = false := by unfold tokE; rw [hv]; rfl
          have HV := Lib.hid hv
          clear hv
          go_enter Tryd.func31, Tryd.ntmps31
          go_wp2_with fail
          refine (HT.out _ _ _ (toks_lit (k := k + 3) (p := 0) (by simp) (by simp [go_sem]) (by simp [go_sem]) (by simp [go_sem]))).mono ?_
          rintro e w' ⟨rfl, hb⟩
          obtain ⟨hcl, hfr⟩ := bcell hb
          have HB := Lib.hid hb
          clear hb
          go_wp2
          go_quiet (fail)
          go_wp2
          go_ret
          refine ⟨ret_bool (by rw [HL.out, HV.out]; simp), ?_⟩
          exact below_draws ((((Below.refl _ _).alloc (Nat.le_refl _) _).alloc (by simp) _).trans (HB.out.mono (by simp; omega))) _
        · have hE : ((tokE ⟨k + 3, t, 0⟩ : Int) == 0) = true := by unfold tokE; rw [hv]; rfl
          have HV := Lib.hid hv
          clear hv
          by_cases h2 : k = 2
          · subst h2
            have hE : ((tokE ⟨5, t, 0⟩ : Int) == 0) = true := hE
            obtain ⟨z, hz⟩ : ∃ z, z = plainR t.data.toList := ⟨_, rfl⟩
            have P := fun w => rplain t ht w
            have D := fun w => rdigits t ht w
            rw [← hz] at P HL
            have hpe : (z == t.toList) = (z == t.data.toList) := by rw [Lib.toList_data]
            have HP := Lib.hid P
            have HD := Lib.hid D
            clear P D hz
            have hdl := digs_le t
            by_cases hdg : digs t ≤ 200
            · have hdd : decide ((digs t : Int) ≤ 200) = true := by simp; omega
              cases hzt : z == t.data.toList
              all_goals
                rw [hzt] at hpe
                go_enter Tryd.func31, Tryd.ntmps31
                go_wp2_with fail
                refine (HT.out _ _ _ (toks_lit (k := 5) (p := 0) (by simp) (by simp [go_sem]) (by simp [go_sem]) (by simp [go_sem]))).mono ?_
                rintro e w' ⟨rfl, hb⟩
                obtain ⟨hcl, hfr⟩ := bcell hb
                have HB := Lib.hid hb
                clear hb
                go_wp2
                go_quiet ((first | (go_at_call 24; exact Calls.quiet_of_same (HP.out _)) | (go_at_call 23; exact Calls.quiet_of_same (HD.out _))))
                go_wp2
                go_ret
                refine ⟨ret_bool (by rw [HL.out, HV.out, hzt, H0.out]; simp [hdg]), ?_⟩
                exact below_draws ((((Below.refl _ _).alloc (Nat.le_refl _) _).alloc (by simp) _).trans (HB.out.mono (by simp; omega))) _
            · have hdd : decide ((digs t : Int) ≤ 200) = false := by simp; omega
              cases hzt : z == t.data.toList
              all_goals
                rw [hzt] at hpe
                go_enter Tryd.func31, Tryd.ntmps31
                go_wp2_with fail
                refine (HT.out _ _ _ (toks_lit (k := 5) (p := 0) (by simp) (by simp [go_sem]) (by simp [go_sem]) (by simp [go_sem]))).mono ?_
                rintro e w' ⟨rfl, hb⟩
                obtain ⟨hcl, hfr⟩ := bcell hb
                have HB := Lib.hid hb
                clear hb
                go_wp2
                go_quiet ((first | (go_at_call 24; exact Calls.quiet_of_same (HP.out _)) | (go_at_call 23; exact Calls.quiet_of_same (HD.out _))))
                go_wp2
                go_ret
                refine ⟨ret_bool (by rw [HL.out, HV.out, hzt, H0.out]; simp [hdg]), ?_⟩
                exact below_draws ((((Below.refl _ _).alloc (Nat.le_refl _) _).alloc (by simp) _).trans (HB.out.mono (by simp; omega))) _
          · have hk2 : (k != 2) = true := by simpa using h2
            have H2 := Lib.hid h2
            clear h2
            go_enter Tryd.func31, Tryd.ntmps31
            go_wp2_with fail
            refine (HT.out _ _ _ (toks_lit (k := k + 3) (p := 0) (by simp) (by simp [go_sem]) (by simp [go_sem]) (by simp [go_sem]))).mono ?_
            rintro e w' ⟨rfl, hb⟩
            obtain ⟨hcl, hfr⟩ := bcell hb
            have HB := Lib.hid hb
            clear hb
            go_wp2
            go_quiet (fail)
            go_wp2
            go_ret
            refine ⟨ret_bool (by rw [HL.out, HV.out, H0.out, d1, d4, hk2]; simp), ?_⟩
            exact below_draws ((((Below.refl _ _).alloc (Nat.le_refl _) _).alloc (by simp) _).trans (HB.out.mono (by simp; omega))) _
      · have h0' : ((l.length : Int) == 0) = false := by simpa using h0
        have H0 := Lib.hid h0
        clear h0
        go_enter Tryd.func31, Tryd.ntmps31
        go_wp2_with fail
        refine (HT.out _ _ _ (toks_lit (k := k + 3) (p := 0) (by simp) (by simp [go_sem]) (by simp [go_sem]) (by simp [go_sem]))).mono ?_
        rintro e w' ⟨rfl, hb⟩
        obtain ⟨hcl, hfr⟩ := bcell hb
        have HB := Lib.hid hb
        clear hb
        go_wp2
        go_quiet (fail)
        go_wp2
        go_ret
        refine ⟨ret_bool (by rw [HL.out, decide_eq_false H0.out]; simp), ?_⟩
        exact below_draws ((((Below.refl _ _).alloc (Nat.le_refl _) _).alloc (by simp) _).trans (HB.out.mono (by simp; omega))) _
    · have d1 : decide (1 ≤ k) = true := by simpa using hk1
      have d4 : decide (k ≤ 4) = false := by simpa using hk4
      clear hk4
      go_enter Tryd.func31, Tryd.ntmps31
      go_wp2_with fail
      refine (HT.out _ _ _ (toks_lit (k := wrap64 (k + 3)) (p := 0) (by simp) (by simp [go_sem]) (by simp [go_sem]) (by simp [go_sem]))).mono ?_
      rintro e w' ⟨rfl, hb⟩
      obtain ⟨hcl, hfr⟩ := bcell hb
      have HB := Lib.hid hb
      clear hb
      go_wp2
      go_quiet (fail)
      go_wp2
      go_ret
      refine ⟨ret_bool (by rw [HL.out, d4]; simp), ?_⟩
      exact below_draws ((((Below.refl _ _).alloc (Nat.le_refl _) _).alloc (by simp) _).trans (HB.out.mono (by simp; omega))) _
  · have d1 : decide (1 ≤ k) = false := by simpa using hk1
    clear hk1
    go_enter Tryd.func31, Tryd.ntmps31
    go_wp2_with fail
    refine (HT.out _ _ _ (toks_lit (k := wrap64 (k + 3)) (p := 0) (by simp) (by simp [go_sem]) (by simp [go_sem]) (by simp [go_sem]))).mono ?_
    rintro e w' ⟨rfl, hb⟩
    obtain ⟨hcl, hfr⟩ := bcell hb
    have HB := Lib.hid hb
    clear hb
    go_wp2
    go_quiet (fail)
    go_wp2
    go_ret
    refine ⟨ret_bool (by rw [HL.out, d1]; simp), ?_⟩
    exact below_draws ((((Below.refl _ _).alloc (Nat.le_refl _) _).alloc (by simp) _).trans (HB.out.mono (by simp; omega))) _
end Go.Proofs.YtghgjefobfaodaaDoor
