import Derived.Test.YtfboejdddgedcaaHpB
import Derived.Deep.CutBlock
namespace Go.Proofs.Ytfboejdddgedcaa
open Go.RowKit

/-- a number's word -/
def numH (n : Int) : Int := (4 * n + 1) % 18446744073709551616
/-- a word's number -/
def nbrH (x : Nat) : Int × Bool := if x % 4 = 1 then ((if 9223372036854775808 ≤ x then (x : Int) / 4 - 4611686018427387904 else (x : Int) / 4), true) else (0, false)
def othH (x r : Nat) : Int × Bool := if x % 4 = r then ((x : Int) / 4, true) else (0, false)

set_option maxHeartbeats 800000 in
theorem rnum_any (n : Int) (w : World) :
    Calls Try.prog 35 #[.int .i64 n] w fun e w' => e = .returned (.int .u64 (numH n)) ∧ w = w' := by
  go_enter Try.func35, Try.ntmps35
  go_wp2
  go_ret
  refine ⟨ret_int ?_, rfl⟩
  unfold numH IntKind.wrap
  simp [IntKind.signed, IntKind.bits]
  omega

set_option maxHeartbeats 800000 in
theorem roth_any (x r : Nat) (hx : x < 18446744073709551616) (w : World) :
    Calls Try.prog 32 #[.int .u64 x, .int .u64 r] w fun e w' => e = .returned (.tuple #[.int .i64 (othH x r).1, .bool (othH x r).2]) ∧ w = w' := by
  unfold othH
  by_cases h : x % 4 = r
  · rw [if_pos h]
    have hd : ((x : Int) % 4 == (r : Int)) = true := by rw [beq_iff_eq]; omega
    clear h
    go_enter Try.func32, Try.ntmps32
    go_wp2
    go_ret2
    exact ⟨rfl, rfl⟩
  · rw [if_neg h]
    have hd : ((x : Int) % 4 == (r : Int)) = false := by rw [beq_eq_false_iff_ne]; omega
    clear h
    go_enter Try.func32, Try.ntmps32
    go_wp2
    go_ret2
    exact ⟨rfl, rfl⟩

set_option maxHeartbeats 800000 in
set_option maxRecDepth 10000 in
theorem rnbr_any (x : Nat) (hx : x < 18446744073709551616) (w : World) :
    Calls Try.prog 30 #[.int .u64 x] w fun e w' => e = .returned (.tuple #[.int .i64 (nbrH x).1, .bool (nbrH x).2]) ∧ w = w' := by
  unfold nbrH
  by_cases h : x % 4 = 1
  · rw [if_pos h]
    have hd : ((x : Int) % 4 == 1) = true := by rw [beq_iff_eq]; omega
    clear h
    obtain ⟨q, hq⟩ : ∃ q : Int, q = (x : Int) / 4 := ⟨_, rfl⟩
    have hq0 : 0 ≤ q := by omega
    have hq1 : q < 4611686018427387904 := by omega
    have he : (if 9223372036854775808 ≤ x then (x : Int) / 4 - 4611686018427387904 else (x : Int) / 4) = if 2305843009213693952 ≤ q then q - 4611686018427387904 else q := by
      by_cases hb : 9223372036854775808 ≤ x
      · rw [if_pos hb, if_pos (by omega), hq]
      · rw [if_neg hb, if_neg (by omega), hq]
    rw [he]
    clear he
    obtain ⟨r, hr⟩ : ∃ r : Int, r = if 2305843009213693952 ≤ q then q - 4611686018427387904 else q := ⟨_, rfl⟩
    rw [← hr]
    have HR := Lib.hid hr
    clear hr
    go_enter Try.func30, Try.ntmps30
    go_upto_region 4 with fail
    rw [← hq]
    clear hq hx hd
    by_cases hb : 2305843009213693952 ≤ q
    · have hge : decide ((2305843009213693952 : Int) ≤ q) = true := decide_eq_true hb
      have HB := Lib.hid hb
      clear hb
      go_wp2
      go_ret2
      refine ⟨ret_ib ?_ rfl, rfl⟩
      rw [HR.out, if_pos HB.out]
      omega
    · have hge : decide ((2305843009213693952 : Int) ≤ q) = false := decide_eq_false hb
      have HB := Lib.hid hb
      clear hb
      go_wp2
      go_ret2
      refine ⟨ret_ib ?_ rfl, rfl⟩
      rw [HR.out, if_neg (Int.not_le.2 HB.out)]
  · rw [if_neg h]
    have hd : ((x : Int) % 4 == 1) = false := by rw [beq_eq_false_iff_ne]; omega
    clear h
    go_enter Try.func30, Try.ntmps30
    go_wp2
    go_ret2
    exact ⟨rfl, rfl⟩

/-- a number's word is a word -/
theorem numH_in (n : Int) : 0 ≤ numH n ∧ numH n < 18446744073709551616 := by unfold numH; omega
/-- a number's word says a number; that number just if it is not too great -/
theorem nbrH_num (n : Int) (h : -9223372036854775808 ≤ n ∧ n ≤ 9223372036854775807) :
    (nbrH (numH n).toNat).2 = true ∧ ((nbrH (numH n).toNat).1 = n ↔ -2305843009213693952 ≤ n ∧ n ≤ 2305843009213693951) := by
  have h1 := numH_in n
  obtain ⟨x, hx⟩ : ∃ x, x = (numH n).toNat := ⟨_, rfl⟩
  have hx2 : (x : Int) = (4 * n + 1) % 18446744073709551616 := by rw [hx]; unfold numH at h1 ⊢; omega
  rw [← hx]
  clear hx h1
  unfold nbrH
  rw [if_pos (by omega)]
  refine ⟨rfl, ?_⟩
  dsimp only
  by_cases hb : 9223372036854775808 ≤ x
  · rw [if_pos hb]; omega
  · rw [if_neg hb]; omega
end Go.Proofs.Ytfboejdddgedcaa
