import Derived.Test.YtfboejdddgedcaaHpE
import Derived.Test.YtfboejdddgedcaaHpQ
import Derived.Laws.BitsAllLaws
namespace Go.Proofs.Ytfboejdddgedcaa
open Go.RowKit

set_option maxHeartbeats 800000 in
theorem pnum_any (n : Int) (w : World) :
    Calls Try.prog 34 #[.int .i64 n] w fun e w' => e = .returned (.int .u64 (numH n)) ∧ w = w' := by
  go_enter Try.func34, Try.ntmps34
  go_wp2
  go_ret
  refine ⟨ret_int ?_, rfl⟩
  unfold numH IntKind.wrap
  simp [IntKind.signed, IntKind.bits]
  omega
def immH (n : Int) : Int := (4 * n + 2) % 18446744073709551616
def ptrH (n : Int) : Int := (4 * n) % 18446744073709551616
set_option maxHeartbeats 800000 in
theorem pimm_any (n : Int) (w : World) :
    Calls Try.prog 36 #[.int .i64 n] w fun e w' => e = .returned (.int .u64 (immH n)) ∧ w = w' := by
  go_enter Try.func36, Try.ntmps36
  go_wp2
  go_ret
  refine ⟨ret_int ?_, rfl⟩
  unfold immH IntKind.wrap
  simp [IntKind.signed, IntKind.bits]
  omega
set_option maxHeartbeats 800000 in
theorem pptr_any (n : Int) (w : World) :
    Calls Try.prog 28 #[.int .i64 n] w fun e w' => e = .returned (.int .u64 (ptrH n)) ∧ w = w' := by
  go_enter Try.func28, Try.ntmps28
  go_wp2
  go_ret
  refine ⟨ret_int ?_, rfl⟩
  unfold ptrH IntKind.wrap
  simp [IntKind.signed, IntKind.bits]
  omega
theorem ptrH_nat (n : Nat) (h : n < 1099511627776) : ptrH n = ((4 * n : Nat) : Int) := by unfold ptrH; omega

set_option maxHeartbeats 800000 in
theorem pabove_any (x r : Nat) (hx : x < 18446744073709551616) (_hr : r < 4) (w : World) :
    Calls Try.prog 50 #[.int .u64 x, .int .u64 r] w fun e w' => e = .returned (.tuple #[.int .i64 (othH x r).1, .bool (othH x r).2]) ∧ w = w' := by
  unfold othH
  by_cases h : x % 4 = r
  · rw [if_pos h]
    have hd : ((x : Int) % 4 != (r : Int)) = false := by rw [bne_eq_false_iff_eq]; omega
    have hs : (x : Int) >>> 2 = (x : Int) / 4 := by rw [Int.shiftRight_eq_div_pow]; rfl
    clear h
    go_enter Try.func50, Try.ntmps50
    go_wp2
    go_ret2
    exact ⟨rfl, rfl⟩
  · rw [if_neg h]
    have hd : ((x : Int) % 4 != (r : Int)) = true := by rw [bne_iff_ne]; omega
    clear h
    go_enter Try.func50, Try.ntmps50
    go_wp2
    go_ret2
    exact ⟨rfl, rfl⟩

set_option maxHeartbeats 800000 in
theorem pplace_any (x : Nat) (hx : x < 18446744073709551616) (w : World) :
    Calls Try.prog 33 #[.int .u64 x] w fun e w' => e = .returned (.tuple #[.int .i64 (othH x 0).1, .bool (othH x 0).2]) ∧ w = w' := by
  have HC := Lib.hid (pabove_any x 0 hx (by omega))
  generalize othH x 0 = p at HC ⊢
  obtain ⟨a, b⟩ := p
  dsimp only at HC ⊢
  clear hx
  go_enter Try.func33, Try.ntmps33
  go_wp2_with fail
  refine (HC.out w).mono ?_
  rintro e w' ⟨rfl, rfl⟩
  go_wp2
  go_ret2
  exact ⟨rfl, rfl⟩

set_option maxHeartbeats 800000 in
theorem pnow_any (x : Nat) (hx : x < 18446744073709551616) (w : World) :
    Calls Try.prog 31 #[.int .u64 x] w fun e w' => e = .returned (.tuple #[.int .i64 (othH x 2).1, .bool (othH x 2).2]) ∧ w = w' := by
  have HC := Lib.hid (pabove_any x 2 hx (by omega))
  generalize othH x 2 = p at HC ⊢
  obtain ⟨a, b⟩ := p
  dsimp only at HC ⊢
  clear hx
  go_enter Try.func31, Try.ntmps31
  go_wp2_with fail
  refine (HC.out w).mono ?_
  rintro e w' ⟨rfl, rfl⟩
  go_wp2
  go_ret2
  exact ⟨rfl, rfl⟩

theorem nbr_shift (x : Nat) (hx : x < 18446744073709551616) : wrap64 (x : Int) / 4 = if 9223372036854775808 ≤ x then (x : Int) / 4 - 4611686018427387904 else (x : Int) / 4 := by
  unfold wrap64
  split <;> omega

set_option maxHeartbeats 800000 in
theorem pnbr_any (x : Nat) (hx : x < 18446744073709551616) (w : World) :
    Calls Try.prog 29 #[.int .u64 x] w fun e w' => e = .returned (.tuple #[.int .i64 (nbrH x).1, .bool (nbrH x).2]) ∧ w = w' := by
  unfold nbrH
  have hs := nbr_shift x hx
  by_cases h : x % 4 = 1
  · rw [if_pos h]
    have hd : ((x : Int) % 4 != 1) = false := by rw [bne_eq_false_iff_eq]; omega
    clear h
    rw [← hs]
    clear hs
    go_enter Try.func29, Try.ntmps29
    go_wp2
    go_ret2
    exact ⟨rfl, rfl⟩
  · rw [if_neg h]
    have hd : ((x : Int) % 4 != 1) = true := by rw [bne_iff_ne]; omega
    clear h
    go_enter Try.func29, Try.ntmps29
    go_wp2
    go_ret2
    exact ⟨rfl, rfl⟩

set_option maxHeartbeats 800000 in
theorem pwordat_any (n : Nat) (hn : n < 10000000) (w : World) :
    Calls Try.prog 40 #[.int .i64 n] w fun e w' => e = .returned (.int .u64 ((4 * (n + 1) : Nat) : Int)) ∧ w = w' := by
  have HC := Lib.hid (pptr_any (n + 1))
  have HP := Lib.hid (ptrH_nat (n + 1) (by omega))
  go_enter Try.func40, Try.ntmps40
  go_wp2_with fail
  refine (HC.out w).mono ?_
  rintro e w' ⟨rfl, rfl⟩
  go_wp2
  go_ret
  refine ⟨ret_int ?_, rfl⟩
  exact_mod_cast HP.out

set_option maxHeartbeats 800000 in
set_option maxRecDepth 10000 in
theorem phead_any (k a : Nat) (hk : k < 256) (ha : a < 10000000) (w : World) :
    Calls Try.prog 51 #[.int .i64 k, .int .i64 a] w fun e w' => e = .returned (.int .u64 ((a * 256 + k : Nat) : Int)) ∧ w = w' := by
  go_enter Try.func51, Try.ntmps51
  go_wp2
  go_ret
  refine ⟨ret_int ?_, rfl⟩
  have h1 := bits_or_u64_nat (a * 256) k (by omega) (by omega)
  rw [nat_join 8 (a * 256) k (by omega) (by omega)] at h1
  exact h1

set_option maxHeartbeats 800000 in
set_option maxRecDepth 10000 in
theorem pparts_any (x : Nat) (hx : x < 1099511627776) (w : World) :
    Calls Try.prog 53 #[.int .u64 x] w fun e w' => e = .returned (.tuple #[.int .i64 ((x % 256 : Nat) : Int), .int .i64 ((x / 256 : Nat) : Int)]) ∧ w = w' := by
  have hs : (x : Int) >>> 8 = (x : Int) / 256 := by rw [Int.shiftRight_eq_div_pow]; rfl
  go_enter Try.func53, Try.ntmps53
  go_wp2
  go_ret2
  exact ⟨rfl, rfl⟩
end Go.Proofs.Ytfboejdddgedcaa
