import Derived.Test.YtfboejdddgedcaaHpM
namespace Go.Proofs.Ytfboejdddgedcaa
open Go.RowKit

set_option maxRecDepth 100000 in
set_option maxHeartbeats 8000000 in
/-- HeapWords -/
theorem heapwords_any (x : Nat) (hx : x < 18446744073709551616) (n : Int) (hn : -9223372036854775808 ≤ n ∧ n ≤ 9223372036854775807) (w : World) :
    Calls Try.prog 4 #[.int .u64 x, .int .i64 n] w fun e w' => e = .returned (.bool true) ∧ Below w.heap.size w w' := by
  have hr := numH_in n
  have hbr := nbrH_num n hn
  obtain ⟨y, hy⟩ : ∃ y, y = (numH n).toNat := ⟨_, rfl⟩
  have hy2 : numH n = (y : Nat) := by rw [hy]; omega
  have hy3 : y < 18446744073709551616 := by omega
  rw [← hy] at hbr
  have HNUM := Lib.hid (fun w => pnum_any n w)
  have HRNUM := Lib.hid (fun w => rnum_any n w)
  have HIMM := Lib.hid (fun w => pimm_any n w)
  have HPTR := Lib.hid (fun w => pptr_any n w)
  have h1 : IntKind.u64.wrap ((y : Int) + 1) = immH n := by
    rw [← hy2, IntKind.wrap_u64]; unfold immH numH; omega
  have h2 : IntKind.u64.wrap ((y : Int) - 1) = ptrH n := by
    rw [← hy2, IntKind.wrap_u64]; unfold ptrH numH; omega
  rw [hy2] at HNUM HRNUM
  have HN1 := Lib.hid (fun w => pnbr_any x hx w)
  have HN2 := Lib.hid (fun w => rnbr_any x hx w)
  have HO1 := Lib.hid (fun w => pnow_any x hx w)
  have HO2 := Lib.hid (fun w => roth_any x 2 hx w)
  have HP1 := Lib.hid (fun w => pplace_any x hx w)
  have HP2 := Lib.hid (fun w => roth_any x 0 hx w)
  have HM := Lib.hid (fun w => pnbr_any y hy3 w)
  generalize nbrH x = p1 at *
  generalize othH x 2 = p2 at *
  generalize othH x 0 = p3 at *
  generalize nbrH y = p4 at *
  generalize immH n = im at *
  generalize ptrH n = pt at *
  obtain ⟨a1, b1⟩ := p1
  obtain ⟨a2, b2⟩ := p2
  obtain ⟨a3, b3⟩ := p3
  obtain ⟨m, b4⟩ := p4
  dsimp only at *
  obtain ⟨rfl, hmn⟩ := hbr
  obtain ⟨z, hz⟩ : ∃ z : Bool, z = decide (-2305843009213693952 ≤ n ∧ n ≤ 2305843009213693951) := ⟨_, rfl⟩
  have hz1 : (m == n) = z := by
    rw [hz, Bool.eq_iff_iff, beq_iff_eq, decide_eq_true_eq]; exact hmn
  have HAW := Lib.hid (awake8_any w)
  have HZ := Lib.hid hz
  clear hr hy hy2 hy3 hmn hz hx
  go_enter Try.func4, Try.ntmps4
  go_wp2_with fail
  refine HAW.out.mono ?_
  rintro e w1 ⟨rfl, hb⟩
  have HB := Lib.hid hb
  clear hb HAW
  go_wp2_with fail
  refine (HN1.out w1).mono ?_
  rintro e w2 ⟨rfl, rfl⟩
  go_wp2_with fail
  refine (HN2.out w1).mono ?_
  rintro e w2 ⟨rfl, rfl⟩
  go_wp2_with fail
  refine (HO1.out w1).mono ?_
  rintro e w2 ⟨rfl, rfl⟩
  go_wp2_with fail
  refine (HO2.out w1).mono ?_
  rintro e w2 ⟨rfl, rfl⟩
  go_wp2_with fail
  refine (HP1.out w1).mono ?_
  rintro e w2 ⟨rfl, rfl⟩
  go_wp2_with fail
  refine (HP2.out w1).mono ?_
  rintro e w2 ⟨rfl, rfl⟩
  go_wp2_with fail
  refine (HNUM.out w1).mono ?_
  rintro e w2 ⟨rfl, rfl⟩
  go_wp2_with fail
  refine (HM.out w1).mono ?_
  rintro e w2 ⟨rfl, rfl⟩
  clear hn HN1 HN2 HO1 HO2 HP1 HP2 HM
  by_cases g1 : -2305843009213693952 ≤ n
  · have d1 : decide ((-2305843009213693952 : Int) ≤ n) = true := decide_eq_true g1
    by_cases g2 : n ≤ 2305843009213693951
    · have d2 : decide (n ≤ (2305843009213693951 : Int)) = true := decide_eq_true g2
      obtain rfl : z = true := by rw [HZ.out, decide_eq_true_eq]; exact ⟨g1, g2⟩
      clear g1 g2 HZ
      go_wp2_with fail
      refine (HNUM.out w1).mono ?_
      rintro e w2 ⟨rfl, rfl⟩
      go_wp2_with fail
      refine (HRNUM.out w1).mono ?_
      rintro e w2 ⟨rfl, rfl⟩
      go_wp2_with fail
      refine (HIMM.out w1).mono ?_
      rintro e w2 ⟨rfl, rfl⟩
      go_wp2_with fail
      refine (HRNUM.out w1).mono ?_
      rintro e w2 ⟨rfl, rfl⟩
      go_wp2_with fail
      refine (HPTR.out w1).mono ?_
      rintro e w2 ⟨rfl, rfl⟩
      go_wp2_with fail
      refine (HRNUM.out w1).mono ?_
      rintro e w2 ⟨rfl, rfl⟩
      go_wp2
      go_ret
      exact ⟨rfl, HB.out⟩
    · have d2 : decide (n ≤ (2305843009213693951 : Int)) = false := decide_eq_false g2
      obtain rfl : z = false := by rw [HZ.out, decide_eq_false_iff_not]; exact fun h => g2 h.2
      clear g1 g2 HZ
      go_wp2_with fail
      refine (HNUM.out w1).mono ?_
      rintro e w2 ⟨rfl, rfl⟩
      go_wp2_with fail
      refine (HRNUM.out w1).mono ?_
      rintro e w2 ⟨rfl, rfl⟩
      go_wp2_with fail
      refine (HIMM.out w1).mono ?_
      rintro e w2 ⟨rfl, rfl⟩
      go_wp2_with fail
      refine (HRNUM.out w1).mono ?_
      rintro e w2 ⟨rfl, rfl⟩
      go_wp2_with fail
      refine (HPTR.out w1).mono ?_
      rintro e w2 ⟨rfl, rfl⟩
      go_wp2_with fail
      refine (HRNUM.out w1).mono ?_
      rintro e w2 ⟨rfl, rfl⟩
      go_wp2
      go_ret
      exact ⟨rfl, HB.out⟩
  · have d1 : decide ((-2305843009213693952 : Int) ≤ n) = false := decide_eq_false g1
    obtain rfl : z = false := by rw [HZ.out, decide_eq_false_iff_not]; exact fun h => g1 h.1
    clear g1 HZ
    go_wp2_with fail
    refine (HNUM.out w1).mono ?_
    rintro e w2 ⟨rfl, rfl⟩
    go_wp2_with fail
    refine (HRNUM.out w1).mono ?_
    rintro e w2 ⟨rfl, rfl⟩
    go_wp2_with fail
    refine (HIMM.out w1).mono ?_
    rintro e w2 ⟨rfl, rfl⟩
    go_wp2_with fail
    refine (HRNUM.out w1).mono ?_
    rintro e w2 ⟨rfl, rfl⟩
    go_wp2_with fail
    refine (HPTR.out w1).mono ?_
    rintro e w2 ⟨rfl, rfl⟩
    go_wp2_with fail
    refine (HRNUM.out w1).mono ?_
    rintro e w2 ⟨rfl, rfl⟩
    go_wp2
    go_ret
    exact ⟨rfl, HB.out⟩
end Go.Proofs.Ytfboejdddgedcaa
