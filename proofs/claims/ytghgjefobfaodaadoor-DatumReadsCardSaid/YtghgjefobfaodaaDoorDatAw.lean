import Derived.Test.YtghgjefobfaodaaDoorDatY
import Derived.Test.YtghgjefobfaodaaDoorDatZ
import Derived.Test.YtghgjefobfaodaaDoorDatRw
import Derived.Test.YtghgjefobfaodaaDoorDatK
namespace Go.Proofs.YtghgjefobfaodaaDoor
open Go.RowKit

/-- '(a 007) -/
def awd1 : ByteArray := ⟨#[39, 40, 97, 32, 48, 48, 55, 41]⟩
/-- (a -/
def awd2 : ByteArray := ⟨#[40, 97]⟩
def awdW (t : ByteArray) : Dat := .mk 1 t []
def awdI : Dat := listD [.mk 1 ⟨#[97]⟩ [], .mk 2 ⟨#[55]⟩ []]
def awdD : Dat := listD [quoteD, awdI]
theorem awd1_read : readN awd1.size awd1.data.toList = .ok [awdD] := by kernel_rfl
theorem awd2_read : readN awd2.size awd2.data.toList = .err 2 3 := by kernel_rfl
theorem awd_print : printS awdD = ⟨#[40, 113, 117, 111, 116, 101, 32, 40, 97, 32, 55, 41, 41]⟩ := by kernel_rfl
theorem awd_right : rightD 60 awdD = true := by kernel_rfl
theorem awd_code : printE awdD = 0 := by unfold printE; rw [awd_right]; rfl
theorem awd_same : sameD awdD awdD = true := sameD_refl _
theorem awd_differ : sameD awdD (awdW ⟨#[97]⟩) = false := by kernel_rfl
theorem awd_wt : wt awdD = 12 := by kernel_rfl

set_option maxRecDepth 100000 in
set_option maxHeartbeats 4000000 in
theorem awake_d (w : World) :
    Calls Tryd.prog 7 #[] w fun e w' => e = .returned (.bool true) ∧ Below w.heap.size w w' := by
  have L1 := fun w => read_any awd1 (by decide) w
  have L2 := fun w => read_any awd2 (by decide) w
  rw [awd1_read] at L1
  rw [awd2_read] at L2
  have P := fun sv w h => print_any awdD sv w (by rw [awd_wt]; omega) h
  rw [awd_print, awd_code] at P
  have H1 := Lib.hid L1
  have H2 := Lib.hid L2
  have HP := Lib.hid P
  clear L1 L2 P
  go_enter Tryd.func7, Tryd.ntmps7
  go_wp2_with fail
  refine (H1.out _).mono ?_
  rintro e w1 ⟨⟨sv, rfl, hS⟩, hb1⟩
  rcases hS.inv with ⟨h0, _⟩ | ⟨b, off, cap, rs, rfl, hbl, hmx, h5, h6⟩
  · cases h0
  have HB1 := Lib.hid hb1
  have h6' := h6.mono (ok' := (· < w1.heap.size)) (w' := w1) (fun b hb => hb.2) (fun _ _ _ => rfl)
  obtain ⟨sv, c0, c1, c2, hse⟩ := slice_at h5 h6' hbl.2 (Below.refl _ _) 0 (by decide)
  simp only [Nat.zero_mul, Nat.add_zero, List.getD_cons_zero] at c0 c1 c2 hse
  have ek : awdD.kind = 5 := rfl
  have et : awdD.text = ⟨#[]⟩ := rfl
  rw [ek] at c0 HP
  rw [et] at c1 HP
  obtain ⟨pa, pc, rfl⟩ : ∃ a c, sv = .slice a 2 c := hse.val
  have HSE := Lib.hid hse
  have hbl' := hbl.2
  clear hb1 hmx hS h5 h6 h6' hbl ek et hse
  go_wp2_with fail
  refine (HP.out _ _ HSE.out).mono ?_
  rintro e w2 ⟨rfl, hb2⟩
  have HB2 := Lib.hid hb2
  clear hb2
  go_wp2_with fail
  refine (word_d _ (by decide) _).mono ?_
  rintro e w3 ⟨rfl, hb3⟩
  have HB3 := Lib.hid hb3
  clear hb3
  go_wp2_with fail
  refine (word_d _ (by decide) _).mono ?_
  rintro e w4 ⟨rfl, hb4⟩
  have HB4 := Lib.hid hb4
  clear hb4
  go_wp2_with fail
  refine (row_two 1 2 ⟨#[97]⟩ ⟨#[55]⟩ _ _ [] [] _ w4 (.mkNil _ _) (.mkNil _ _)).mono ?_
  rintro e w5 ⟨⟨ia, ic, rfl, hi⟩, hb5⟩
  have HI := Lib.hid hi
  have HB5 := Lib.hid hb5
  clear hi hb5
  go_wp2_with fail
  refine (row_two 1 5 ⟨#[113, 117, 111, 116, 101]⟩ ⟨#[]⟩ _ _ [] _ _ w5 (.mkNil _ _) HI.out).mono ?_
  rintro e w6 ⟨⟨va, vc, rfl, hv⟩, hb6⟩
  have HV := Lib.hid hv
  have HB6 := Lib.hid hb6
  clear hv hb6
  go_wp2_with fail
  refine (H2.out _).mono ?_
  rintro e w7 ⟨he, hb7⟩
  obtain rfl : e = _ := he
  have p0 : w7.cell? ⟨w6.heap.size, 0, none⟩ = some (.int .i64 5) := (hb7.cell (p := ⟨_, _, _⟩) (by simp)).trans (by simp [go_sem])
  have p1 : w7.cell? ⟨w6.heap.size, 1, none⟩ = some (.string ⟨#[]⟩) := (hb7.cell (p := ⟨_, _, _⟩) (by simp)).trans (by simp [go_sem])
  have p2 : w7.cell? ⟨w6.heap.size, 2, none⟩ = some (.slice va 2 vc) := (hb7.cell (p := ⟨_, _, _⟩) (by simp)).trans (by simp [go_sem])
  have hb7 : Below w6.heap.size w6 w7 := ((Below.refl _ _).alloc (Nat.le_refl _) _).trans (hb7.mono (by simp))
  have hlt7 : w6.heap.size < w7.heap.size := World.block_lt_of_cell? w7 _ p0
  have l12 := HB2.out.size
  have l23 := HB3.out.size
  have l34 := HB4.out.size
  have l45 := HB5.out.size
  have l56 := HB6.out.size
  have l67 := hb7.size
  have hB17 : Below w1.heap.size w1 w7 := ((((HB2.out.trans (HB3.out.mono (by omega))).trans (HB4.out.mono (by omega))).trans (HB5.out.mono (by omega))).trans (HB6.out.mono (by omega))).trans (hb7.mono (by omega))
  have d0 := (hB17.cell (p := ⟨b, off, none⟩) hbl').trans c0
  have d1 := (hB17.cell (p := ⟨b, off + 1, none⟩) hbl').trans c1
  have d2 := (hB17.cell (p := ⟨b, off + 2, none⟩) hbl').trans c2
  have HB := Lib.hid (HB1.out.trans (hB17.mono HB1.out.size))
  have HS7 := Lib.hid ((HSE.out.under hB17).grow hB17.size)
  have HV7 := Lib.hid ((HV.out.under hb7).grow hb7.size)
  clear c0 c1 c2 hb7 hB17 l12 l23 l34 l45 l56 l67
  have hbl7 : b < w7.heap.size := World.block_lt_of_cell? w7 _ d0
  have S1 : Hid (∀ w', Below w7.heap.size w7 w' → Calls Tryd.prog 16 #[.agg #[.int .i64 5, .string ⟨#[]⟩, .slice pa 2 pc], .agg #[.int .i64 5, .string ⟨#[]⟩, .slice va 2 vc]] w' fun e w'' => e = .returned (.bool true) ∧ Below w7.heap.size w7 w'') := Lib.hid fun w' h => by
    have c := same_d awdD awdD (.slice pa 2 pc) (.slice va 2 vc) w' (by decide) ((HS7.out.under h).grow h.size) ((HV7.out.under h).grow h.size)
    rw [awd_same] at c
    refine Calls.mono c ?_
    rintro e w'' ⟨rfl, hb⟩
    exact ⟨rfl, h.trans (hb.mono h.size)⟩
  have S2 : Hid (∀ w', Below w7.heap.size w7 w' → Calls Tryd.prog 16 #[.agg #[.int .i64 5, .string ⟨#[]⟩, .slice va 2 vc], .agg #[.int .i64 1, .string ⟨#[97]⟩, .slice none 0 0]] w' fun e w'' => e = .returned (.bool false) ∧ Below w7.heap.size w7 w'') := Lib.hid fun w' h => by
    have c := same_d awdD (awdW ⟨#[97]⟩) (.slice va 2 vc) (.slice none 0 0) w' (by decide) ((HV7.out.under h).grow h.size) (.mkNil _ _)
    rw [awd_differ] at c
    refine Calls.mono c ?_
    rintro e w'' ⟨rfl, hb⟩
    exact ⟨rfl, h.trans (hb.mono h.size)⟩
  have S3 : Hid (∀ w', Below w7.heap.size w7 w' → Calls Tryd.prog 14 #[.agg #[.int .i64 5, .string ⟨#[]⟩, .slice va 2 vc]] w' fun e w'' => e = .returned (.bool true) ∧ Below w7.heap.size w7 w'') := Lib.hid fun w' h => by
    have c := right_any awdD (.slice va 2 vc) w' (by rw [awd_wt]; omega) ((HV7.out.under h).grow h.size)
    rw [awd_right] at c
    refine Calls.mono c ?_
    rintro e w'' ⟨rfl, hb⟩
    exact ⟨rfl, h.trans (hb.mono h.size)⟩
  have S4 : Hid (∀ w', Below w7.heap.size w7 w' → Calls Tryd.prog 19 #[.string ⟨#[97]⟩] w' fun e w'' => e = .returned (.agg #[.int .i64 1, .string ⟨#[97]⟩, .slice none 0 0]) ∧ Below w7.heap.size w7 w'') := Lib.hid fun w' h => by
    refine Calls.mono (word_d ⟨#[97]⟩ (by decide) w') ?_
    rintro e w'' ⟨rfl, hb⟩
    exact ⟨rfl, h.trans (hb.mono h.size)⟩
  go_wp2_with fail
  go_region_held3 (fun w' => w'.cell? ⟨b, off, none⟩ = some (.int .i64 5) ∧ w'.cell? ⟨b, off + 1, none⟩ = some (.string ⟨#[]⟩) ∧ w'.cell? ⟨b, off + 2, none⟩ = some (.slice pa 2 pc) ∧ w'.cell? ⟨w6.heap.size, 0, none⟩ = some (.int .i64 5) ∧ w'.cell? ⟨w6.heap.size, 1, none⟩ = some (.string ⟨#[]⟩) ∧ w'.cell? ⟨w6.heap.size, 2, none⟩ = some (.slice va 2 vc))
    (first
      | exact ⟨d0, d1, d2, p0, p1, p2⟩
      | exact ⟨(hb8.cell (p := ⟨_, _, _⟩) hbl7).trans d0, (hb8.cell (p := ⟨_, _, _⟩) hbl7).trans d1, (hb8.cell (p := ⟨_, _, _⟩) hbl7).trans d2, (hb8.cell (p := ⟨_, _, _⟩) hlt7).trans p0, (hb8.cell (p := ⟨_, _, _⟩) hlt7).trans p1, (hb8.cell (p := ⟨_, _, _⟩) hlt7).trans p2⟩
      | go_keep)
    (first
      | ((go_at_call 16; refine (S1.out _ ?hb).mono ?_; (case hb => first | exact (Below.refl _ _).drew | exact Below.refl _ _ | exact hb8 | exact hb8.drew); rintro e w8 ⟨rfl, hb8⟩))
      | ((go_at_call 16; refine (S2.out _ ?hb).mono ?_; (case hb => first | exact (Below.refl _ _).drew | exact Below.refl _ _ | exact hb8 | exact hb8.drew); rintro e w8 ⟨rfl, hb8⟩))
      | ((go_at_call 14; refine (S3.out _ ?hb).mono ?_; (case hb => first | exact (Below.refl _ _).drew | exact Below.refl _ _ | exact hb8 | exact hb8.drew); rintro e w8 ⟨rfl, hb8⟩))
      | ((go_at_call 19; refine (S4.out _ ?hb).mono ?_; (case hb => first | exact (Below.refl _ _).drew | exact Below.refl _ _ | exact hb8 | exact hb8.drew); rintro e w8 ⟨rfl, hb8⟩)))
  go_wp2
  go_ret
  exact ⟨rfl, HB.out.trans (hb8.mono HB.out.size)⟩
end Go.Proofs.YtghgjefobfaodaaDoor
