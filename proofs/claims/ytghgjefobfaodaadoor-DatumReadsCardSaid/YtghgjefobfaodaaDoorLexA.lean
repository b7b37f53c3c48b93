import Derived.Test.YtghgjefobfaodaaDoorRows
import Derived.Test.YtghgjefobfaodaaDoorLexP
import Derived.Test.YtghgjefobfaodaaDoorShelf
import Derived.WalkKit
import Derived.WalkSpells
import Derived.WalkLawsBesides
import Derived.BigQuiet
import Derived.Deep.QuietTactic
import Derived.Outline
import Derived.Lib.Hide
namespace Go.Proofs.YtghgjefobfaodaaDoor
open Go.RowKit

theorem ret_bool {a b : Bool} (h : a = b) : Ending.returned (.bool a) = .returned (.bool b) := by rw [h]
theorem ret_int {k : IntKind} {a b : Int} (h : a = b) : Ending.returned (.int k a) = .returned (.int k b) := by rw [h]

theorem ret_int2 {k l : IntKind} {a b c d : Int} (h : a = b) (h' : c = d) : Ending.returned (.tuple #[.int k a, .int l c]) = .returned (.tuple #[.int k b, .int l d]) := by rw [h, h']

set_option maxHeartbeats 400000 in
theorem digit_any (c : Int) (w : World) :
    Calls Tryd.prog 56 #[.int .u8 c] w fun e w' => e = .returned (.bool (digZ c)) ∧ w = w' := by
  go_enter Tryd.func56, Tryd.ntmps56
  go_wp2
  all_goals
    go_ret
    refine ⟨ret_bool ?_, rfl⟩
    unfold digZ
    simp; omega

set_option maxHeartbeats 400000 in
theorem in_any (c : Int) (s : ByteArray) (hs : s.size ≤ 300000) (w : World) :
    Calls Tryd.prog 57 #[.int .u8 c, .string s] w fun e w' => e = .returned (.bool (hasZ s c)) ∧ w = w' := by
  go_enter Tryd.func57, Tryd.ntmps57
  go_wp2
  go_loop [5] (fun i => ∃ k : Nat, k ≤ s.size ∧ i = .int .i64 k ∧ Hid ((s.data.toList.take k).any (fun d => (d.toNat : Int) == c) = false)) (fun i => s.size - (intOf i).toNat)
  case atStart => exact ⟨0, Nat.zero_le _, rfl, Lib.hid rfl⟩
  case round =>
    obtain ⟨k, hk, rfl, H⟩ := hrel
    by_cases hlt : k < s.size
    · have hsn := take_any_snoc (p := fun d => (d.toNat : Int) == c) s k hlt
      rw [H.out] at hsn
      have HS := Lib.hid hsn
      clear hsn
      cases hc : (s[k].toNat : Int) == c
      · go_wp2
        go_round
        case rel => exact ⟨k + 1, by omega, by go_num, Lib.hid (by rw [HS.out]; simpa using hc)⟩
        case measure => simp [intOf]; omega
      · go_wp2
        go_ret
        refine ⟨ret_bool ?_, rfl⟩
        unfold hasZ
        refine (List.any_eq_true.2 ⟨s[k], ?_, hc⟩).symm
        exact byte_mem s k hlt
    · go_wp2
      go_ret
      refine ⟨ret_bool ?_, rfl⟩
      unfold hasZ
      rw [← H.out, List.take_of_length_le (by simp; omega)]

set_option maxHeartbeats 400000 in
theorem wordly_any (c : Int) (w : World) :
    Calls Tryd.prog 39 #[.int .u8 c] w fun e w' => e = .returned (.bool (wordZ c)) ∧ w = w' := by
  go_enter Tryd.func39, Tryd.ntmps39
  go_wp2_with (first | (go_at_call 56; refine (digit_any _ _).mono ?_; rintro e w' ⟨rfl, rfl⟩) | (go_at_call 57; refine (in_any _ wordTail (by decide) _).mono ?_; rintro e w' ⟨rfl, rfl⟩))
  all_goals
    go_ret
    refine ⟨ret_bool ?_, rfl⟩
    unfold wordZ
    grind


theorem index_any (s : ByteArray) (c : Int) (w : World) :
    Calls Tryd.prog 48 #[.string s, .int .u8 c] w fun e w' => e = .returned (.int .i64 (idxZ s c)) ∧ w = w' :=
  (Tryd.strings_IndexByte s c w).mono fun _ _ ⟨he, hw⟩ => ⟨he, hw.symm⟩

theorem index_tail (c : Int) (w : World) :
    Calls Tryd.prog 48 #[.string ⟨#[33, 63, 42, 43, 45, 47, 60, 61, 62, 58, 95, 46]⟩, .int .u8 c] w fun e w' => e = .returned (.int .i64 (idxZ wordTail c)) ∧ w = w' := index_any wordTail c w

set_option maxRecDepth 100000 in
set_option maxHeartbeats 1000000 in
theorem measure_any (s : ByteArray) (at_ : Nat) (hs : s.size ≤ 300000) (ha : at_ ≤ s.size) (w : World) :
    Calls Tryd.prog 64 #[.string s, .int .i64 at_] w fun e w' => e = .returned (.tuple #[.int .i64 (at_ + wordLen (s.data.toList.drop at_) : Nat), .int .i64 (wordDigs (s.data.toList.drop at_) : Nat)]) ∧ w = w' := by
  go_enter Tryd.func64, Tryd.ntmps64
  go_wp2
  go_step3
  go_wp2
  go_step3
  go_wp2
  go_loop [4, 5] (fun i d => ∃ k n : Nat, k ≤ s.size ∧ n ≤ k ∧ i = .int .i64 k ∧ d = .int .i64 n ∧ Hid (at_ + wordLen (s.data.toList.drop at_) = k + wordLen (s.data.toList.drop k) ∧ wordDigs (s.data.toList.drop at_) = n + wordDigs (s.data.toList.drop k))) (fun i _ => s.size - (intOf i).toNat)
  case atStart => exact ⟨at_, 0, ha, Nat.zero_le _, rfl, rfl, Lib.hid ⟨rfl, by simp⟩⟩
  case round =>
    obtain ⟨k, n, hk, hn, rfl, rfl, H⟩ := hrel
    by_cases hlt : k < s.size
    · have H1 := Lib.hid (wordLen_at s k hlt)
      have H2 := Lib.hid (wordDigs_at s k hlt)
      go_wp2_with (go_at_call 48; refine (index_tail _ _).mono ?_; rintro e w' ⟨rfl, rfl⟩)
      all_goals
        have h := H.out
        have h1 := H1.out
        have h2 := H2.out
        clear H H1 H2
        first
        | (refine use2 (wd1 s[k] ?_ ?_) ?_; omega; omega)
        | (refine use2 (wd2 s[k] ?_ ?_) ?_; omega; omega)
        | (refine use2 (wd3 s[k] ?_ ?_) ?_; omega; omega)
        | (refine use2 (wd4 s[k] ?_ ?_) ?_; omega; omega)
        | (refine use2 (wd5 s[k] ?_ ?_ ?_ ?_) ?_; omega; omega; omega; omega)
        intro hw hd
        simp only [hw, hd, if_true, Bool.false_eq_true, if_false] at h1 h2
        first
        | ((first | go_round | refine ⟨?rel, ?measure⟩)
           case rel => first
            | exact ⟨k + 1, n, by omega, by omega, by go_num, rfl, Lib.hid ⟨by omega, by omega⟩⟩
            | exact ⟨k + 1, n + 1, by omega, by omega, by go_num, by go_num, Lib.hid ⟨by omega, by omega⟩⟩
           case measure => simp [intOf]; omega)
        | (rw [Exit.noGoto_ret]; go_ret2; exact ⟨ret_int2 (by omega) (by omega), rfl⟩)
    · have H1 := Lib.hid (wordLen_end s k (by omega))
      go_wp2
      go_ret2
      have h := H.out
      have h1 := H1.out
      exact ⟨ret_int2 (by omega) (by omega), rfl⟩
end Go.Proofs.YtghgjefobfaodaaDoor
