import Derived.Test.YtghgjefobfaodaaDoorDatAw
import Derived.Test.YtghgjefobfaodaaDoorDatRd
namespace Go.Proofs.YtghgjefobfaodaaDoor
open Go.RowKit

set_option maxRecDepth 100000 in
set_option maxHeartbeats 4000000 in
theorem reads_long (s : ByteArray) (w : World) (hn : (2000 : Int) < s.size) :
    Calls Tryd.prog 3 #[.string s] w fun e w' => e = .returned (.bool true) ∧ Below w.heap.size w w' := by
  have HA := Lib.hid (awake_d w)
  go_enter Tryd.func3, Tryd.ntmps3
  go_wp2_with fail
  refine HA.out.mono ?_
  rintro e w1 ⟨rfl, hb1⟩
  go_wp2
  go_ret
  exact ⟨rfl, hb1⟩

set_option maxRecDepth 100000 in
set_option maxHeartbeats 4000000 in
theorem reads_err (s : ByteArray) (a c : Int) (w : World) (hn : (s.size : Int) ≤ 2000) (hr : readN s.size s.data.toList = .err a c) :
    Calls Tryd.prog 3 #[.string s] w fun e w' => e = .returned (.bool true) ∧ Below w.heap.size w w' := by
  have HA := Lib.hid (awake_d w)
  have R := fun w => read_any s (by omega) w
  have R2 := fun w => refRead_any s (by omega) w
  rw [hr] at R R2
  have HR := Lib.hid R
  have HR2 := Lib.hid R2
  clear R R2 hr
  go_enter Tryd.func3, Tryd.ntmps3
  go_wp2_with fail
  refine HA.out.mono ?_
  rintro e w1 ⟨rfl, hb1⟩
  have HB1 := Lib.hid hb1
  clear hb1
  go_wp2_with fail
  refine (HR.out _).mono ?_
  rintro e w2 ⟨he, hb2⟩
  obtain rfl : e = _ := he
  have HB2 := Lib.hid (HB1.out.trans (hb2.mono HB1.out.size))
  clear hb2
  go_wp2_with fail
  refine (HR2.out _).mono ?_
  rintro e w3 ⟨he, hb3⟩
  obtain rfl : e = _ := he
  have HB3 := Lib.hid (HB2.out.trans (hb3.mono HB2.out.size))
  clear hb3
  have AL := Lib.hid (all_any (.slice none 0 0) (.slice none 0 0) [] [] w3 (.mkNil _ _) (.mkNil _ _))
  go_wp2_with fail
  refine AL.out.mono ?_
  rintro e w4 ⟨rfl, hb4⟩
  have HB4 := Lib.hid (HB3.out.trans (hb4.mono HB3.out.size))
  rw [show samesD [] [] = true from samesD_refl []]
  clear hb4
  go_wp2
  go_ret
  exact ⟨rfl, HB4.out⟩

set_option maxRecDepth 100000 in
set_option maxHeartbeats 4000000 in
theorem reads_ok (s : ByteArray) (l : List Dat) (w : World) (hn : (s.size : Int) ≤ 2000) (hr : readN s.size s.data.toList = .ok l) :
    Calls Tryd.prog 3 #[.string s] w fun e w' => e = .returned (.bool true) ∧ Below w.heap.size w w' := by
  have HA := Lib.hid (awake_d w)
  have R := fun w => read_any s (by omega) w
  have R2 := fun w => refRead_any s (by omega) w
  rw [hr] at R R2
  have HR := Lib.hid R
  have HR2 := Lib.hid R2
  clear R R2 hr
  go_enter Tryd.func3, Tryd.ntmps3
  go_wp2_with fail
  refine HA.out.mono ?_
  rintro e w1 ⟨rfl, hb1⟩
  have HB1 := Lib.hid hb1
  have hsz1 := hb1.size
  clear hb1
  go_wp2_with fail
  refine (HR.out _).mono ?_
  rintro e w2 ⟨⟨sv, rfl, hS⟩, hb2⟩
  have HB2 := Lib.hid (HB1.out.trans (hb2.mono hsz1))
  obtain ⟨pa, pc, hsv⟩ := hS.val
  obtain ⟨n, hn2⟩ : ∃ n, n = l.length := ⟨_, rfl⟩
  rw [← hn2] at hsv
  subst hsv
  have HS := Lib.hid (hS.mono (ok' := (· < w2.heap.size)) (w' := w2) (fun b hb => hb.2) (fun _ _ _ => rfl))
  have HN := Lib.hid hn2
  clear hb2 hS hn2
  go_wp2_with fail
  refine (HR2.out _).mono ?_
  rintro e w3 ⟨⟨sv, rfl, hS⟩, hb3⟩
  have HB3 := Lib.hid (HB2.out.trans (hb3.mono HB2.out.size))
  obtain ⟨qa, qc, hsv⟩ := hS.val
  rw [← HN.out] at hsv
  subst hsv
  have AL := all_any (.slice pa n pc) (.slice qa n qc) l l w3 ((HS.out.under hb3).grow hb3.size) (hS.mono (ok' := (· < w3.heap.size)) (w' := w3) (fun b hb => hb.2) (fun _ _ _ => rfl))
  rw [samesD_refl] at AL
  have HAL := Lib.hid AL
  clear hb3 hS AL
  go_wp2_with fail
  refine HAL.out.mono ?_
  rintro e w4 ⟨rfl, hb4⟩
  have HB4 := Lib.hid (HB3.out.trans (hb4.mono HB3.out.size))
  clear hb4
  go_wp2
  go_ret
  exact ⟨rfl, HB4.out⟩

theorem reads_all (s : ByteArray) (w : World) :
    Calls Tryd.prog 3 #[.string s] w fun e w' => e = .returned (.bool true) ∧ Below w.heap.size w w' := by
  by_cases hn : (s.size : Int) ≤ 2000
  · cases hr : readN s.size s.data.toList with
    | ok l => exact reads_ok s l w hn hr
    | err a c => exact reads_err s a c w hn hr
  · exact reads_long s w (by omega)
end Go.Proofs.YtghgjefobfaodaaDoor
