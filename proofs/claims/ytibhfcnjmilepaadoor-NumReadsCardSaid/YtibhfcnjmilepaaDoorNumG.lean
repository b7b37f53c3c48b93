import Derived.Test.YtibhfcnjmilepaaDoorNumF
namespace Go.Proofs.YtibhfcnjmilepaaDoor
open Go.RowKit

/-- which of two numbers is greater -/
def cmpZ (x y : Int) : Int := if x < y then -1 else if x = y then 0 else 1
theorem cmp_parts {P Q : ByteArray} {b c : Bool} {X Y : Nat} (z : Int) (w : World) (S : Calls Tryd.prog 28 #[smV b X, smV c Y] w fun e w' => e = .returned (intV z) ∧ Below w.heap.size w w') (hP : P = decS X) (hQ : Q = decS Y) :
    ∃ zs : ByteArray, Hid (Calls Tryd.prog 28 #[.agg #[.bool b, .string P], .agg #[.bool c, .string Q]] w fun e w' => e = .returned (.agg #[.bool (decide (z < 0)), .string zs]) ∧ Below w.heap.size w w') ∧ (zs.toList == [48]) = decide (z = 0) := by
  refine ⟨decS z.natAbs, ?_, ?_⟩
  · unfold intV smV at S
    rw [← hP, ← hQ] at S
    exact Lib.hid S
  · rw [decS_zero, Bool.eq_iff_iff]; simp

set_option maxRecDepth 100000 in
set_option maxHeartbeats 4000000 in
theorem cmp_any (b c : Bool) (X Y : Nat) (hX : (decN X).length ≤ 5000) (hY : (decN Y).length ≤ 5000) (w : World) :
    Calls Tryd.prog 32 #[smV b X, smV c Y] w fun e w' => e = .returned (.int .i64 (cmpZ (sg b X) (sg c Y))) ∧ Below w.heap.size w w' := by
  have S := fun w => sub_any b c X Y hX hY w
  obtain ⟨z, hz⟩ : ∃ z, z = sg b X - sg c Y := ⟨_, rfl⟩
  rw [← hz] at S
  obtain ⟨P, hP⟩ : ∃ P, P = decS X := ⟨_, rfl⟩
  obtain ⟨Q, hQ⟩ : ∃ Q, Q = decS Y := ⟨_, rfl⟩
  have SP := fun w => cmp_parts z w (S w) hP hQ
  have hb0 : ∀ w : World, Below w.heap.size w ((w.alloc (.cells #[.bool b, .string P] 30)).alloc (.cells #[.bool c, .string Q] 30)) := fun w => ((Below.refl _ _).alloc (Nat.le_refl _) _).alloc (by simp) _
  have HB0 := Lib.hid hb0
  unfold smV
  rw [← hP, ← hQ]
  rcases Int.lt_trichotomy z 0 with h | h | h
  · have HZ : Hid (cmpZ (sg b X) (sg c Y) = -1) := by show _ = _; unfold cmpZ; rw [if_pos (by omega)]
    obtain ⟨zs, H1, hzs⟩ := SP ((w.alloc (.cells #[.bool b, .string P] 30)).alloc (.cells #[.bool c, .string Q] 30))
    rw [decide_eq_true h] at H1
    rw [decide_eq_false (by omega)] at hzs
    clear S SP hz hP hQ h hb0
    go_enter Tryd.func32, Tryd.ntmps32
    go_wp2_with fail
    refine H1.out.mono ?_
    rintro e w5 ⟨rfl, hb5⟩
    have HB5 := Lib.hid ((HB0.out w).trans (hb5.mono (HB0.out w).size))
    clear hb5
    go_wp2
    go_ret
    exact ⟨ret_int HZ.out.symm, HB5.out.alloc HB5.out.size _⟩
  · have HZ : Hid (cmpZ (sg b X) (sg c Y) = 0) := by show _ = _; unfold cmpZ; rw [if_neg (by omega), if_pos (by omega)]
    obtain ⟨zs, H1, hzs⟩ := SP ((w.alloc (.cells #[.bool b, .string P] 30)).alloc (.cells #[.bool c, .string Q] 30))
    rw [decide_eq_false (by omega)] at H1
    rw [decide_eq_true h] at hzs
    clear S SP hz hP hQ h hb0
    go_enter Tryd.func32, Tryd.ntmps32
    go_wp2_with fail
    refine H1.out.mono ?_
    rintro e w5 ⟨rfl, hb5⟩
    have HB5 := Lib.hid ((HB0.out w).trans (hb5.mono (HB0.out w).size))
    clear hb5
    go_wp2
    go_ret
    exact ⟨ret_int HZ.out.symm, HB5.out.alloc HB5.out.size _⟩
  · have HZ : Hid (cmpZ (sg b X) (sg c Y) = 1) := by show _ = _; unfold cmpZ; rw [if_neg (by omega), if_neg (by omega)]
    obtain ⟨zs, H1, hzs⟩ := SP ((w.alloc (.cells #[.bool b, .string P] 30)).alloc (.cells #[.bool c, .string Q] 30))
    rw [decide_eq_false (by omega)] at H1
    rw [decide_eq_false (by omega)] at hzs
    clear S SP hz hP hQ h hb0
    go_enter Tryd.func32, Tryd.ntmps32
    go_wp2_with fail
    refine H1.out.mono ?_
    rintro e w5 ⟨rfl, hb5⟩
    have HB5 := Lib.hid ((HB0.out w).trans (hb5.mono (HB0.out w).size))
    clear hb5
    go_wp2
    go_ret
    exact ⟨ret_int HZ.out.symm, HB5.out.alloc HB5.out.size _⟩

/-- a number's text -/
def textZ (z : Int) : List UInt8 := if z < 0 then 45 :: decN z.natAbs else decN z.natAbs
theorem cons45 (X : ByteArray) : ((⟨#[45]⟩ : ByteArray) ++ X) = ⟨(45 :: X.data.toList).toArray⟩ := by
  cases X with
  | mk d => cases d; rfl
set_option maxRecDepth 100000 in
set_option maxHeartbeats 1000000 in
theorem rtext_any (z : Int) (hl : (decN z.natAbs).length ≤ 100000) (w : World) :
    Calls Tryd.prog 12 #[intV z] w fun e w' => e = .returned (.string ⟨(textZ z).toArray⟩) ∧ Below w.heap.size w w' := by
  have hsz := decS_size z.natAbs
  obtain ⟨S, hS⟩ : ∃ S, S = decS z.natAbs := ⟨_, rfl⟩
  rw [← hS] at hsz
  unfold intV smV
  rw [← hS]
  have hs : S.size ≤ 100000 := by omega
  by_cases h : z < 0
  · have HT : Hid (textZ z = 45 :: S.data.toList) := by show _ = _; unfold textZ; rw [if_pos h, hS]; rfl
    rw [decide_eq_true h]
    clear hS hsz hl h
    go_enter Tryd.func12, Tryd.ntmps12
    go_wp2
    go_ret
    exact ⟨ret_str (by rw [HT.out, ← cons45]), (Below.refl _ _).alloc (Nat.le_refl _) _⟩
  · have HT : Hid (textZ z = S.data.toList) := by show _ = _; unfold textZ; rw [if_neg h, hS]; rfl
    rw [decide_eq_false h]
    clear hS hsz hl h
    go_enter Tryd.func12, Tryd.ntmps12
    go_wp2
    go_ret
    exact ⟨ret_str (by rw [HT.out, ba_self]), (Below.refl _ _).alloc (Nat.le_refl _) _⟩
end Go.Proofs.YtibhfcnjmilepaaDoor
