import Derived.Test.YtibhfcnjmilepaaDoorNumC
import Derived.Deep.RegionHeld3
namespace Go.Proofs.YtibhfcnjmilepaaDoor
open Go.RowKit

/-- a sign and digits, as the document keeps a number -/
def decS (n : Nat) : ByteArray := ⟨(decN n).toArray⟩
def smV (b : Bool) (n : Nat) : Value := .agg #[.bool b, .string (decS n)]
def sg (b : Bool) (n : Nat) : Int := if b then -(n : Int) else n
def intV (z : Int) : Value := smV (decide (z < 0)) z.natAbs
theorem sg_int (z : Int) : sg (decide (z < 0)) z.natAbs = z := by
  unfold sg
  by_cases h : z < 0
  · rw [decide_eq_true h, if_pos rfl]; omega
  · rw [decide_eq_false h, if_neg (by simp)]; omega
theorem intV_sg (b : Bool) (n : Nat) : intV (sg b n) = smV (b && decide (n ≠ 0)) n := by
  unfold intV sg
  cases b with
  | true =>
    rw [if_pos rfl, show (-(n : Int)).natAbs = n by omega]
    congr 1
    rw [Bool.true_and]
    by_cases h : n = 0
    · subst h; rfl
    · rw [decide_eq_true (show -(n : Int) < 0 by omega), decide_eq_true h]
  | false =>
    rw [if_neg (by simp), show ((n : Int)).natAbs = n by omega]
    congr 1
theorem decS_data (n : Nat) : (decS n).data.toList = decN n := rfl
theorem decS_size (n : Nat) : (decS n).size = (decN n).length := ba_size _
theorem decS_allD (n : Nat) : allD (decS n).data.toList := dec_allD n
theorem decS_zero (n : Nat) : ((decS n).toList == [48]) = decide (n = 0) := by
  rw [Lib.toList_data, decS_data]
  have e : decN 0 = [48] := by rw [decN_small (by omega)]; rfl
  rw [← e, Bool.eq_iff_iff]
  simp only [beq_iff_eq, decide_eq_true_eq]
  exact ⟨dec_inj, fun h => by rw [h]⟩

set_option maxRecDepth 100000 in
set_option maxHeartbeats 1000000 in
theorem made_any (m : Bool) (d : ByteArray) (hd : allD d.data.toList) (hs : d.size ≤ 100000) (w : World) :
    Calls Tryd.prog 37 #[.bool m, .string d] w fun e w' => e = .returned (intV (sg m (valL d.data.toList))) ∧ Below w.heap.size w w' := by
  have T := fun w => trim_any d hs w
  rw [trim_dec hd] at T
  obtain ⟨n, hn⟩ : ∃ n, n = valL d.data.toList := ⟨_, rfl⟩
  rw [← hn] at T ⊢
  rw [intV_sg]
  have hz := decS_zero n
  obtain ⟨S, hS⟩ : ∃ S, S = decS n := ⟨_, rfl⟩
  have T2 : ∀ w, Calls Tryd.prog 50 #[.string d] w fun e w' => e = .returned (.string S) ∧ w = w' := by rw [hS]; exact T
  rw [← hS] at hz
  unfold smV
  rw [← hS]
  have HT := Lib.hid T2
  by_cases h0 : n = 0
  · rw [decide_eq_true h0] at hz
    rw [show decide (n ≠ 0) = false by simpa using h0, Bool.and_false]
    clear T T2 hn hS hd h0
    cases m
    all_goals
      go_enter Tryd.func37, Tryd.ntmps37
      go_wp2_with fail
      refine (HT.out _).mono ?_
      rintro e w' ⟨rfl, rfl⟩
      go_wp2
      exact bodyPost_ret (v := .agg #[.bool false, .string S]) (by simp [results, Tryd.results37, go_sem]) rfl ⟨rfl, (Below.refl _ _).alloc (Nat.le_refl _) _⟩
  · rw [decide_eq_false h0] at hz
    rw [show decide (n ≠ 0) = true by simpa using h0, Bool.and_true]
    clear T T2 hn hS hd h0
    cases m
    all_goals
      go_enter Tryd.func37, Tryd.ntmps37
      go_wp2_with fail
      refine (HT.out _).mono ?_
      rintro e w' ⟨rfl, rfl⟩
      go_wp2
      first
      | exact bodyPost_ret (v := .agg #[.bool false, .string S]) (by simp [results, Tryd.results37, go_sem]) rfl ⟨rfl, (Below.refl _ _).alloc (Nat.le_refl _) _⟩
      | exact bodyPost_ret (v := .agg #[.bool true, .string S]) (by simp [results, Tryd.results37, go_sem]) rfl ⟨rfl, (Below.refl _ _).alloc (Nat.le_refl _) _⟩

theorem sum_dec (X Y : Nat) (hX : (decN X).length ≤ 5000) (hY : (decN Y).length ≤ 5000) (w : World) :
    Calls Tryd.prog 46 #[.string (decS X), .string (decS Y)] w fun e w' => e = .returned (.string (decS (X + Y))) ∧ Below w.heap.size w w' := by
  have h := sum_any (decS X) (decS Y) (decS_allD X) (decS_allD Y) (by rw [decS_size]; omega) (by rw [decS_size]; omega) w
  rw [decS_data, decS_data, val_dec, val_dec] at h
  exact h
theorem without_dec (X Y : Nat) (hX : (decN X).length ≤ 5000) (hY : (decN Y).length ≤ 5000) (hle : Y ≤ X) (w : World) :
    Calls Tryd.prog 48 #[.string (decS X), .string (decS Y)] w fun e w' => e = .returned (.string (decS (X - Y))) ∧ Below w.heap.size w w' := by
  have h := without_any (decS X) (decS Y) (decS_allD X) (decS_allD Y) (by rw [decS_size]; omega) (by rw [decS_size]; omega) (by rw [decS_data, decS_data, val_dec, val_dec]; exact hle) w
  rw [decS_data, decS_data, val_dec, val_dec] at h
  exact h
theorem less_dec_any (X Y : Nat) (w : World) :
    Calls Tryd.prog 47 #[.string (decS X), .string (decS Y)] w fun e w' => e = .returned (.bool (decide (X < Y))) ∧ w = w' := by
  have h := less_any (decS X) (decS Y) w
  rw [decS_data, decS_data, less_dec] at h
  exact h
theorem made_dec (m : Bool) (X : Nat) (hX : (decN X).length ≤ 50000) (w : World) :
    Calls Tryd.prog 37 #[.bool m, .string (decS X)] w fun e w' => e = .returned (intV (sg m X)) ∧ Below w.heap.size w w' := by
  have h := made_any m (decS X) (decS_allD X) (by rw [decS_size]; omega) w
  rw [decS_data, val_dec] at h
  exact h
theorem dec_len_add {X Y n : Nat} (hX : (decN X).length ≤ n) (hY : (decN Y).length ≤ n) : (decN (X + Y)).length ≤ n + 1 := by
  have hn : 0 < n := Nat.lt_of_lt_of_le (dec_pos X) hX
  rw [dec_len hn] at hX hY
  rw [dec_len (Nat.succ_pos n), Nat.pow_succ]
  omega
theorem dec_len_mono {X Y n : Nat} (hX : (decN X).length ≤ n) (h : Y ≤ X) : (decN Y).length ≤ n := by
  have hn : 0 < n := Nat.lt_of_lt_of_le (dec_pos X) hX
  rw [dec_len hn] at hX ⊢
  omega
end Go.Proofs.YtibhfcnjmilepaaDoor
