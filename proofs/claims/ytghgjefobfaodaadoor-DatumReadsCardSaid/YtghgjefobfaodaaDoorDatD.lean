import Derived.Test.YtghgjefobfaodaaDoorDatC
import Derived.Deep.RegionHeld3
namespace Go.Proofs.YtghgjefobfaodaaDoor
open Go.RowKit

mutual
/-- how much a datum holds -/
def wt : Dat → Nat
  | .mk _ t l => 1 + t.size + wts l
def wts : List Dat → Nat
  | [] => 0
  | d :: r => wt d + wts r
end
theorem wt_eq (d : Dat) : wt d = 1 + d.text.size + wts d.list := by cases d; simp [wt, Dat.text, Dat.list]
theorem wts_get : ∀ (l : List Dat) (j : Nat), j < l.length → wt (l.getD j dat0) ≤ wts l
  | [], j, h => by simp at h
  | d :: r, 0, _ => by simp only [wts, List.getD_cons_zero]; omega
  | d :: r, j + 1, h => by
    have := wts_get r j (by simpa using h)
    simp only [wts, List.getD_cons_succ]; omega
theorem wts_len : ∀ l : List Dat, l.length ≤ wts l
  | [] => Nat.zero_le _
  | d :: r => by
    have := wts_len r
    have := wt_eq d
    simp only [wts, List.length_cons]; omega
theorem wts_app : ∀ l m : List Dat, wts (l ++ m) = wts l + wts m
  | [], m => by simp [wts]
  | d :: r, m => by simp only [List.cons_append, wts, wts_app r m]; omega

theorem toks_lit {w : World} {b : Nat} {k p : Int} {t : ByteArray} (hb : b < w.heap.size) (h0 : w.cell? ⟨b, 0, none⟩ = some (.int .i64 k)) (h1 : w.cell? ⟨b, 1, none⟩ = some (.string t)) (h2 : w.cell? ⟨b, 2, none⟩ = some (.int .i64 p)) :
    Toks w (.slice (some ⟨b, 0, none⟩) 1 1) [⟨k, t, p⟩] := by
  refine .inr ⟨b, 0, 1, rfl, hb, by simp [maxLen], fun j hj => ?_⟩
  obtain rfl : j = 0 := by simpa using hj
  exact ⟨h0, h1, h2⟩
theorem few_one {t : ByteArray} (h : t.size ≤ 10000) (k p : Int) : Few [⟨k, t, p⟩] := ⟨by simp, fun u hu => by simp at hu; subst hu; exact h⟩

/-- a token's text, and the error in place of it -/
def tokS (u : Tok) : ByteArray := if validT u then ⟨(spellL u.kind u.text).toArray⟩ else ⟨#[]⟩
def tokE (u : Tok) : Int := if validT u then 0 else 1
theorem textVal_one (u : Tok) : textVal [u] = .tuple #[.string (tokS u), .int .i64 (tokE u)] := by
  unfold textVal tokS tokE
  cases h : validT u
  · simp [h]
  · simp [h, flatT]

set_option maxRecDepth 100000 in
set_option maxHeartbeats 1000000 in
theorem cspell_any (k : Int) (t : ByteArray) (sv : Value) (hk : 1 ≤ k) (hk' : k ≤ 4) (ht : t.size ≤ 10000) (w : World) :
    Calls Tryd.prog 42 #[.agg #[.int .i64 k, .string t, sv]] w fun e w' => e = .returned (.tuple #[.string (tokS ⟨k + 3, t, 0⟩), .int .i64 (tokE ⟨k + 3, t, 0⟩)]) ∧ Below w.heap.size w w' := by
  have T := fun v w h => text_any v [⟨k + 3, t, 0⟩] (few_one ht _ _) w h
  rw [textVal_one] at T
  have HT := Lib.hid T
  clear T
  go_enter Tryd.func42, Tryd.ntmps42
  go_wp2_with fail
  refine (HT.out _ _ (toks_lit (by simp) (by simp [go_sem]) (by simp [go_sem]) (by simp [go_sem]))).mono ?_
  rintro e w' ⟨rfl, hb⟩
  go_wp2
  go_ret2
  exact ⟨rfl, (((Below.refl _ _).alloc (Nat.le_refl _) _).alloc (by simp) _).trans (hb.mono (by simp; omega))⟩

theorem qplain (t : ByteArray) (ht : t.size ≤ 300000) (w : World) :
    Calls Tryd.prog 61 #[.string t] w fun e w' => e = .returned (.string ⟨(plainC t.data.toList).toArray⟩) ∧ w' = w := by
  refine (codePlain_any t (by omega) w).mono ?_
  rintro e w' ⟨rfl, rfl⟩
  exact ⟨rfl, rfl⟩
theorem qdigits (t : ByteArray) (w : World) :
    Calls Tryd.prog 62 #[.string t] w fun e w' => e = .returned (.int .i64 (digs t : Nat)) ∧ w' = w := by
  refine (digitsOf_any t w).mono ?_
  rintro e w' ⟨rfl, rfl⟩
  exact ⟨rfl, rfl⟩

set_option maxRecDepth 100000 in
set_option maxHeartbeats 2000000 in
theorem rightText_any (k : Int) (t : ByteArray) (sv : Value) (ht : t.size ≤ 10000) (w : World) :
    Calls Tryd.prog 46 #[.agg #[.int .i64 k, .string t, sv]] w fun e w' => e = .returned (.bool (leafC (.mk k t []))) ∧ Below w.heap.size w w' := by
  have hL : leafC (.mk k t []) = (decide (1 ≤ k) && decide (k ≤ 4) && validT ⟨k + 3, t, 0⟩ && (k != 2 || (plainC t.data.toList == t.data.toList && decide (digs t ≤ 200)))) := by
    unfold leafC; simp [Dat.kind, Dat.text, Dat.list]; rfl
  have HL := Lib.hid hL
  clear hL
  by_cases hk : 1 ≤ k
  · by_cases hk' : k ≤ 4
    · have S := fun w => cspell_any k t sv hk hk' ht w
      cases hv : validT ⟨k + 3, t, 0⟩
      · have hE : tokE ⟨k + 3, t, 0⟩ = 1 := by unfold tokE; rw [hv]; rfl
        rw [hE] at S
        have HS := Lib.hid S
        have HV := Lib.hid hv
        clear S hE hv
        go_enter Tryd.func46, Tryd.ntmps46
        go_wp2_with fail
        refine (HS.out _).mono ?_
        rintro e w' ⟨rfl, hb⟩
        go_wp2
        go_ret
        refine ⟨ret_bool (by rw [HL.out, HV.out]; simp), ((Below.refl _ _).alloc (Nat.le_refl _) _).trans (hb.mono (by simp))⟩
      · have hE : tokE ⟨k + 3, t, 0⟩ = 0 := by unfold tokE; rw [hv]; rfl
        rw [hE] at S
        have HS := Lib.hid S
        have HV := Lib.hid hv
        clear S hE hv
        have P := fun w => qplain t (by omega) w
        have D := fun w => qdigits t w
        obtain ⟨z, hz⟩ : ∃ z, z = plainC t.data.toList := ⟨_, rfl⟩
        rw [← hz] at P
        rw [← hz] at HL
        have hpe : (t.toList == z) = (z == t.data.toList) := by rw [Lib.toList_data, Bool.eq_iff_iff, beq_iff_eq, beq_iff_eq]; exact eq_comm
        have HP := Lib.hid P
        have HD := Lib.hid D
        clear P D hz
        have key : Calls Tryd.prog 46 #[.agg #[.int .i64 k, .string t, sv]] w fun e w' => e = .returned (.bool (k != 2 || (z == t.data.toList && decide (digs t ≤ 200)))) ∧ Below w.heap.size w w' := by
          by_cases h2 : k = 2
          · subst h2
            have hd := digs_le t
            by_cases hdg : digs t ≤ 200
            · have hdd : decide ((digs t : Int) ≤ 200) = true := by simp; omega
              cases hzt : z == t.data.toList
              all_goals
                rw [hzt] at hpe
                go_enter Tryd.func46, Tryd.ntmps46
                go_wp2_with fail
                refine (HS.out _).mono ?_
                rintro e w' ⟨rfl, hb⟩
                obtain ⟨hcl, hfr⟩ := bcell hb
                go_wp2
                go_quiet ((first | (go_at_call 61; exact Calls.quiet_of_same (HP.out _)) | (go_at_call 62; exact Calls.quiet_of_same (HD.out _))))
                go_wp2
                go_ret
                refine ⟨ret_bool (by simp [hdg]), ?_⟩
                exact below_draws (((Below.refl _ _).alloc (Nat.le_refl _) _).trans (hb.mono (by simp))) _
            · have hdd : decide ((digs t : Int) ≤ 200) = false := by simp; omega
              cases hzt : z == t.data.toList
              all_goals
                rw [hzt] at hpe
                go_enter Tryd.func46, Tryd.ntmps46
                go_wp2_with fail
                refine (HS.out _).mono ?_
                rintro e w' ⟨rfl, hb⟩
                obtain ⟨hcl, hfr⟩ := bcell hb
                go_wp2
                go_quiet ((first | (go_at_call 61; exact Calls.quiet_of_same (HP.out _)) | (go_at_call 62; exact Calls.quiet_of_same (HD.out _))))
                go_wp2
                go_ret
                refine ⟨ret_bool (by simp [hdg]), ?_⟩
                exact below_draws (((Below.refl _ _).alloc (Nat.le_refl _) _).trans (hb.mono (by simp))) _
          · have hk2 : (k != 2) = true := by simpa using h2
            go_enter Tryd.func46, Tryd.ntmps46
            go_wp2_with fail
            refine (HS.out _).mono ?_
            rintro e w' ⟨rfl, hb⟩
            obtain ⟨hcl, hfr⟩ := bcell hb
            go_wp2
            go_quiet ((first | (go_at_call 61; exact Calls.quiet_of_same (HP.out _)) | (go_at_call 62; exact Calls.quiet_of_same (HD.out _))))
            go_wp2
            go_ret
            refine ⟨ret_bool (by simp [h2]), ?_⟩
            exact below_draws (((Below.refl _ _).alloc (Nat.le_refl _) _).trans (hb.mono (by simp))) _
        refine key.mono fun e w' ⟨he, hb⟩ => ⟨?_, hb⟩
        rw [he, HL.out, HV.out, decide_eq_true hk, decide_eq_true hk']
        simp
    · go_enter Tryd.func46, Tryd.ntmps46
      go_wp2
      go_ret
      exact ⟨ret_bool (by rw [HL.out, decide_eq_false (by omega : ¬ k ≤ 4)]; simp), (Below.refl _ _).alloc (Nat.le_refl _) _⟩
  · go_enter Tryd.func46, Tryd.ntmps46
    go_wp2
    go_ret
    exact ⟨ret_bool (by rw [HL.out, decide_eq_false (by omega : ¬ 1 ≤ k)]; simp), (Below.refl _ _).alloc (Nat.le_refl _) _⟩
end Go.Proofs.YtghgjefobfaodaaDoor
