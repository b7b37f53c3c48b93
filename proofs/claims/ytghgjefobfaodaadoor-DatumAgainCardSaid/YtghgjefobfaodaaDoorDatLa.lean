import Derived.Test.YtghgjefobfaodaaDoorDatAw
import Derived.Test.YtghgjefobfaodaaDoorDatEr
namespace Go.Proofs.YtghgjefobfaodaaDoor
open Go.RowKit

set_option maxRecDepth 100000 in
set_option maxHeartbeats 4000000 in
theorem again_long (s : ByteArray) (w : World) (hn : (1000 : Int) < s.size) :
    Calls Tryd.prog 6 #[.string s] w fun e w' => e = .returned (.bool true) ∧ Below w.heap.size w w' := by
  have HA := Lib.hid (awake_d w)
  go_enter Tryd.func6, Tryd.ntmps6
  go_wp2_with fail
  refine HA.out.mono ?_
  rintro e w1 ⟨rfl, hb1⟩
  go_wp2
  go_ret
  exact ⟨rfl, hb1⟩

set_option maxRecDepth 100000 in
set_option maxHeartbeats 4000000 in
theorem again_err (s : ByteArray) (a c : Int) (w : World) (hn : (s.size : Int) ≤ 1000) (hr : readN s.size s.data.toList = .err a c) :
    Calls Tryd.prog 6 #[.string s] w fun e w' => e = .returned (.bool true) ∧ Below w.heap.size w w' := by
  have HA := Lib.hid (awake_d w)
  obtain ⟨h0, h1, h2⟩ := read_err hr (by rw [Array.length_toList]; exact Nat.le_refl _)
  have R := fun w => read_any s (by omega) w
  rw [hr] at R
  have HR := Lib.hid R
  have hc : (c != 0) = true := by rw [bne_iff_ne]; exact h2
  clear R hr h2
  go_enter Tryd.func6, Tryd.ntmps6
  go_wp2_with fail
  refine HA.out.mono ?_
  rintro e w1 ⟨rfl, hb1⟩
  have HB1 := Lib.hid hb1
  clear hb1
  go_wp2_with fail
  refine (HR.out _).mono ?_
  rintro e w2 ⟨he, hb2⟩
  obtain rfl : e = _ := he
  have HB2 := Lib.hid (HB1.out.trans (hb2.mono HB1.out.size))
  clear hb2
  go_wp2
  go_ret
  exact ⟨rfl, HB2.out⟩

set_option maxRecDepth 100000 in
set_option maxHeartbeats 4000000 in
theorem again_ok (s : ByteArray) (l : List Dat) (w : World) (hn : (s.size : Int) ≤ 1000) (hr : readN s.size s.data.toList = .ok l) :
    Calls Tryd.prog 6 #[.string s] w fun e w' => e = .returned (.bool true) ∧ Below w.heap.size w w' := by
  have HA := Lib.hid (awake_d w)
  have el : s.data.toList.length = s.size := Array.length_toList
  have hall := read_right hr (by omega)
  have hwt := read_wt hr (by omega)
  have hll := wts_len l
  have R := fun w => read_any s (by omega) w
  rw [hr] at R
  have HR := Lib.hid R
  have HALL := Lib.hid hall
  have hw9 : wts l ≤ 9000 := by omega
  have HW := Lib.hid hw9
  have hl9 : l.length ≤ 9000 := by omega
  clear R hr el hall hwt hw9 hll
  go_enter Tryd.func6, Tryd.ntmps6
  go_wp2_with fail
  refine HA.out.mono ?_
  rintro e w1 ⟨rfl, hb1⟩
  have HB1 := Lib.hid hb1
  have hsz1 := hb1.size
  clear hb1
  go_wp2_with fail
  refine (HR.out _).mono ?_
  rintro e w2 ⟨⟨sv, rfl, hS⟩, hb2⟩
  have HB2 := Lib.hid (HB1.out.trans (hb2.mono hsz1))
  have hsz2 := hb2.size
  obtain ⟨a, c, hsv⟩ := hS.val
  obtain ⟨n, hnl⟩ : ∃ n, n = l.length := ⟨_, rfl⟩
  rw [← hnl] at hsv hl9
  subst hsv
  have HN := Lib.hid hnl
  have HS := Lib.hid (hS.mono (ok' := (· < w2.heap.size)) (w' := w2) (fun b hb => hb.2) (fun _ _ _ => rfl))
  clear hb2 hS hnl
  have hs02 : w.heap.size ≤ w2.heap.size := Nat.le_trans hsz1 hsz2
  go_wp2
  go_loopw [7] (fun i wr => ∃ k : Nat, k ≤ n ∧ i = .int .i64 k ∧ Hid (Below w2.heap.size w2 wr) ∧ w2.heap.size ≤ wr.heap.size) (fun i _ => n - (intOf i).toNat)
  case atStart => exact ⟨0, Nat.zero_le _, rfl, Lib.hid (Below.refl _ _), Nat.le_refl _⟩
  case round =>
    obtain ⟨k, hk, rfl, HB, hsz⟩ := hrel
    by_cases hlt : k < n
    · have hkl : k < l.length := by rw [← HN.out]; exact hlt
      obtain ⟨b, off, rs, ha, hb, h5, h6⟩ : ∃ b off rs, a = some ⟨b, off, none⟩ ∧ b < w2.heap.size ∧ Rows3 w2 b off rs ∧ RawsOf w2 (· < w2.heap.size) rs l := by
        rcases HS.out.inv with ⟨e, a', c', _⟩ | ⟨b', off, cap', rs, e, h1, h2, h3, h4⟩
        · rw [e] at hkl; simp at hkl
        · simp only [Value.slice.injEq] at e
          exact ⟨b', off, rs, e.1, h1, h3, h4⟩
      subst ha
      obtain ⟨sv, c0, c1, c2, hse⟩ := slice_at h5 h6 hb HB.out k hkl
      have hwk := wts_get l k hkl
      have hwl := HW.out
      have hrd : rightD 60 (l.getD k dat0) = true := List.all_eq_true.1 HALL.out _ (by simp [List.getD_eq_getElem?_getD, hkl])
      obtain ⟨d, hd⟩ : ∃ d, d = l.getD k dat0 := ⟨_, rfl⟩
      rw [← hd] at c0 c1 hse hwk hrd
      have hhg := right_hgt 60 d hrd
      have htl := (textD_len d).1
      have P := fun w' h => print_any d sv w' (by omega) h
      rw [show printS d = ⟨(textD d).toArray⟩ by unfold printS; rw [hrd]; rfl, show printE d = 0 by unfold printE; rw [hrd]; rfl] at P
      have hro := read_one (textD d).length d hrd
      obtain ⟨z, hz⟩ : ∃ z, z = textD d := ⟨_, rfl⟩
      rw [← hz] at P hro htl
      have hsz9 : (⟨z.toArray⟩ : ByteArray).size = z.length := by simp [ByteArray.size]
      have RD := fun w' => read_any ⟨z.toArray⟩ (by omega) w'
      rw [hsz9] at RD
      rw [show (⟨z.toArray⟩ : ByteArray).data.toList = z from rfl, hro] at RD
      have S := fun sy w' h1 h2 => same_d d d sv sy w' (by omega) h1 h2
      rw [sameD_refl] at S
      have RT := fun w' h => right_any d sv w' (by omega) h
      rw [hrd] at RT
      obtain ⟨pa, pc, hsv⟩ := hse.val
      obtain ⟨q, hq⟩ : ∃ q, q = d.list.length := ⟨_, rfl⟩
      rw [← hq] at hsv
      subst hsv
      have HP := Lib.hid P
      have HRD := Lib.hid RD
      have HSM := Lib.hid S
      have HRT := Lib.hid RT
      have HSE := Lib.hid hse
      have HQ := Lib.hid hq
      have k1 : (k : Int) < n := by omega
      have hbr : b < wr.heap.size := Nat.lt_of_lt_of_le hb hsz
      obtain ⟨kd, hkd⟩ : ∃ x, x = d.kind := ⟨_, rfl⟩
      obtain ⟨td, htd⟩ : ∃ x, x = d.text := ⟨_, rfl⟩
      rw [← hkd] at c0
      rw [← htd] at c1
      have HKD := Lib.hid hkd
      have HTD := Lib.hid htd
      clear h5 h6 hwk hwl hrd hd hhg htl P hro hz hsz9 RD S RT hse hq hkd htd
      go_wp2_with fail
      have HP2 := HP.out wr (HSE.out.grow hsz)
      rw [← HKD.out, ← HTD.out] at HP2
      refine Calls.mono HP2 ?_
      rintro e w4 ⟨rfl, hb4⟩
      have d0 := (hb4.cell (p := ⟨b, off + k * 3, none⟩) hbr).trans c0
      have d1 := (hb4.cell (p := ⟨b, off + k * 3 + 1, none⟩) hbr).trans c1
      have d2 := (hb4.cell (p := ⟨b, off + k * 3 + 2, none⟩) hbr).trans c2
      have hs4 : w2.heap.size ≤ w4.heap.size := Nat.le_trans hsz hb4.size
      have HB4 := Lib.hid (HB.out.trans (hb4.mono hsz))
      have HSE4 := Lib.hid ((HSE.out.under (hb4.mono hsz)))
      have hbr4 : b < w4.heap.size := Nat.lt_of_lt_of_le hb hs4
      clear hb4 c0 c1 c2 HP2
      go_wp2_with fail
      refine (HRD.out _).mono ?_
      rintro e w5 ⟨⟨sm, rfl, hM⟩, hb5⟩
      have c0 := (hb5.cell (p := ⟨b, off + k * 3, none⟩) hbr4).trans d0
      have c1 := (hb5.cell (p := ⟨b, off + k * 3 + 1, none⟩) hbr4).trans d1
      have c2 := (hb5.cell (p := ⟨b, off + k * 3 + 2, none⟩) hbr4).trans d2
      have hs5 : w2.heap.size ≤ w5.heap.size := Nat.le_trans hs4 hb5.size
      have HB5 := Lib.hid (HB4.out.trans (hb5.mono hs4))
      have HSE5 := Lib.hid ((HSE4.out.under (hb5.mono hs4)))
      obtain ⟨b', off', cap', rs', rfl, hb', h5', h6'⟩ : ∃ b' off' cap' rs', sm = .slice (some ⟨b', off', none⟩) 1 cap' ∧ b' < w5.heap.size ∧ Rows3 w5 b' off' rs' ∧ RawsOf w5 (· < w5.heap.size) rs' [d] := by
        rcases (hM.mono (ok' := (· < w5.heap.size)) (w' := w5) (fun b hb => hb.2) (fun _ _ _ => rfl)).inv with ⟨e, _⟩ | ⟨b', off, cap', rs, e, h1, h2, h3, h4⟩
        · cases e
        · exact ⟨b', off, cap', rs, e, h1, h3, h4⟩
      obtain ⟨sy, m0, m1, m2, hsy⟩ := slice_at h5' h6' hb' (Below.refl _ _) 0 (by simp)
      simp only [Nat.zero_mul, Nat.add_zero, List.getD_cons_zero] at m0 m1 m2 hsy
      rw [← HKD.out] at m0
      rw [← HTD.out] at m1
      obtain ⟨qa, qc, hsy2⟩ := hsy.val
      rw [← HQ.out] at hsy2
      subst hsy2
      have HSY := Lib.hid hsy
      clear hb5 d0 d1 d2 hM h5' h6' hsy
      have hbr5 : b < w5.heap.size := Nat.lt_of_lt_of_le hb hs5
      have T1 : Hid (∀ w', Below w5.heap.size w5 w' → Calls Tryd.prog 16 #[.agg #[.int .i64 kd, .string td, .slice pa q pc], .agg #[.int .i64 kd, .string td, .slice qa q qc]] w' fun e w'' => e = .returned (.bool true) ∧ Below w5.heap.size w5 w'') := Lib.hid fun w' h => by
        have c := HSM.out (.slice qa q qc) w' ((HSE5.out.under (h.mono hs5)).grow (Nat.le_trans hs5 h.size)) ((HSY.out.under h).grow h.size)
        rw [← HKD.out, ← HTD.out] at c
        refine Calls.mono c ?_
        rintro e w'' ⟨rfl, hb⟩
        exact ⟨rfl, h.trans (hb.mono h.size)⟩
      have T2 : Hid (∀ w', Below w5.heap.size w5 w' → Calls Tryd.prog 14 #[.agg #[.int .i64 kd, .string td, .slice pa q pc]] w' fun e w'' => e = .returned (.bool true) ∧ Below w5.heap.size w5 w'') := Lib.hid fun w' h => by
        have c := HRT.out w' ((HSE5.out.under (h.mono hs5)).grow (Nat.le_trans hs5 h.size))
        rw [← HKD.out, ← HTD.out] at c
        refine Calls.mono c ?_
        rintro e w'' ⟨rfl, hb⟩
        exact ⟨rfl, h.trans (hb.mono h.size)⟩
      clear HP HRD HSM HRT HR HA
      go_wp2_with fail
      go_region_held3 (fun w' => w'.cell? ⟨b, off + k * 3, none⟩ = some (.int .i64 kd) ∧ w'.cell? ⟨b, off + k * 3 + 1, none⟩ = some (.string td) ∧ w'.cell? ⟨b, off + k * 3 + 2, none⟩ = some (.slice pa q pc) ∧ w'.cell? ⟨b', off', none⟩ = some (.int .i64 kd) ∧ w'.cell? ⟨b', off' + 1, none⟩ = some (.string td) ∧ w'.cell? ⟨b', off' + 2, none⟩ = some (.slice qa q qc))
        (first
          | exact ⟨c0, c1, c2, m0, m1, m2⟩
          | exact ⟨(hb8.cell (p := ⟨_, _, _⟩) hbr5).trans c0, (hb8.cell (p := ⟨_, _, _⟩) hbr5).trans c1, (hb8.cell (p := ⟨_, _, _⟩) hbr5).trans c2, (hb8.cell (p := ⟨_, _, _⟩) hb').trans m0, (hb8.cell (p := ⟨_, _, _⟩) hb').trans m1, (hb8.cell (p := ⟨_, _, _⟩) hb').trans m2⟩
          | go_keep)
        (first
          | ((go_at_call 16; refine (T1.out _ ?hb).mono ?_; (case hb => first | exact (Below.refl _ _).drew | exact Below.refl _ _ | exact hb8 | exact hb8.drew); rintro e w8 ⟨rfl, hb8⟩))
          | ((go_at_call 14; refine (T2.out _ ?hb).mono ?_; (case hb => first | exact (Below.refl _ _).drew | exact Below.refl _ _ | exact hb8 | exact hb8.drew); rintro e w8 ⟨rfl, hb8⟩)))
      go_wp2
      exact ⟨⟨k + 1, by omega, by go_num, Lib.hid (HB5.out.trans (hb8.mono hs5)), Nat.le_trans hs5 hb8.size⟩, by simp [intOf]; omega⟩
    · have k1 : ¬ (k : Int) < n := by omega
      have HBZ := Lib.hid (HB2.out.trans (HB.out.mono hs02))
      go_wp2
      go_ret
      exact ⟨rfl, HBZ.out⟩

theorem again_all (s : ByteArray) (w : World) :
    Calls Tryd.prog 6 #[.string s] w fun e w' => e = .returned (.bool true) ∧ Below w.heap.size w w' := by
  by_cases hn : (s.size : Int) ≤ 1000
  · cases hr : readN s.size s.data.toList with
    | ok l => exact again_ok s l w hn hr
    | err a c => exact again_err s a c w hn hr
  · exact again_long s w (by omega)
end Go.Proofs.YtghgjefobfaodaaDoor
