import Derived.Test.YtghgjefobfaodaaDoorDatAw
namespace Go.Proofs.YtghgjefobfaodaaDoor
open Go.RowKit

set_option maxRecDepth 100000 in
set_option maxHeartbeats 4000000 in
theorem back_long (a : Option Addr) (n c : Nat) (w : World) (hn : 20 < n) :
    Calls Tryd.prog 5 #[.slice a n c] w fun e w' => e = .returned (.bool true) ∧ Below w.heap.size w w' := by
  have HA := Lib.hid (awake_d w)
  go_enter Tryd.func5, Tryd.ntmps5
  go_wp2_with fail
  refine HA.out.mono ?_
  rintro e w1 ⟨rfl, hb1⟩
  have hn2 : (20 : Int) < n := by omega
  go_wp2
  go_ret
  exact ⟨rfl, hb1⟩

set_option maxRecDepth 100000 in
set_option maxHeartbeats 4000000 in
theorem back_few (a : Option Addr) (n c : Nat) (l : List Dat) (w : World) (hn : n ≤ 20) (hnl : n = l.length) (ho : okTs l) (hv : SliceOf w (· < w.heap.size) (.slice a n c) l) :
    Calls Tryd.prog 5 #[.slice a n c] w fun e w' => e = .returned (.bool true) ∧ Below w.heap.size w w' := by
  have HA := Lib.hid (awake_d w)
  have HN := Lib.hid hnl
  have HV := Lib.hid hv
  have HO := Lib.hid ho
  clear hnl hv ho
  go_enter Tryd.func5, Tryd.ntmps5
  go_wp2_with fail
  refine HA.out.mono ?_
  rintro e w1 ⟨rfl, hb1⟩
  have HB1 := Lib.hid hb1
  have hn2 : ¬ (20 : Int) < n := by omega
  clear hb1
  go_wp2
  go_loopw [4, 5] (fun s i wr => ∃ (k : Nat) (X : List UInt8), k ≤ n ∧ i = .int .i64 k ∧ s = .string ⟨X.toArray⟩ ∧ Hid (X = linesD (l.take k)) ∧ Hid ((l.take k).all (fun d => rightD 60 d && lightD d) = true) ∧ X.length ≤ 12000 * k ∧ Hid (Below w.heap.size w wr) ∧ w.heap.size ≤ wr.heap.size) (fun _ i _ => n - (intOf i).toNat)
  case atStart => exact ⟨0, [], Nat.zero_le _, rfl, rfl, Lib.hid rfl, Lib.hid rfl, by simp, HB1, HB1.out.size⟩
  case round =>
    obtain ⟨k, X, hk, rfl, rfl, HX, HR, hXl, HB, hsz⟩ := hrel
    by_cases hlt : k < n
    · have hkl : k < l.length := by rw [← HN.out]; exact hlt
      obtain ⟨b, off, rs, ha, hb, h5, h6⟩ : ∃ b off rs, a = some ⟨b, off, none⟩ ∧ b < w.heap.size ∧ Rows3 w b off rs ∧ RawsOf w (· < w.heap.size) rs l := by
        rcases HV.out.inv with ⟨e, a', c', _⟩ | ⟨b', off, cap', rs, e, h1, h2, h3, h4⟩
        · rw [e] at hkl; simp at hkl
        · simp only [Value.slice.injEq] at e
          exact ⟨b', off, rs, e.1, h1, h3, h4⟩
      subst ha
      obtain ⟨sv, c0, c1, c2, hse⟩ := slice_at h5 h6 hb HB.out k hkl
      have hod := okTs_get l k HO.out hkl
      have hln := linesD_snoc l k hkl
      have hall : (l.take (k + 1)).all (fun d => rightD 60 d && lightD d) = ((l.take k).all (fun d => rightD 60 d && lightD d) && (rightD 60 (l.getD k dat0) && lightD (l.getD k dat0))) := by
        rw [List.take_succ_eq_append_getElem hkl, List.all_append]
        simp [List.getD_eq_getElem?_getD, hkl]
      rw [HR.out, Bool.true_and] at hall
      rw [← HX.out] at hln
      obtain ⟨d, hd⟩ : ∃ d, d = l.getD k dat0 := ⟨_, rfl⟩
      rw [← hd] at c0 c1 hse hod hln hall
      have L := fun w' h => light_d d sv w' hod h
      have hdl : lightD d = true → wt d < 3000 := fun h => (light_facts h).1
      have htl := (textD_len d).1
      obtain ⟨pa, pc, hsv⟩ := hse.val
      obtain ⟨q, hq⟩ : ∃ q, q = d.list.length := ⟨_, rfl⟩
      rw [← hq] at hsv
      subst hsv
      have HL := Lib.hid L
      have HSE := Lib.hid hse
      have hsb : SliceOf w1 (· < w1.heap.size) (.slice none 0 0) [] := .mkNil _ _
      have P := fun w' (hh : wt d ≤ 10000) h => print_any d (.slice pa q pc) w' hh h
      have R := fun w' (hh : wt d ≤ 10000) h => right_any d (.slice pa q pc) w' hh h
      have hps : printS d = if rightD 60 d then ⟨(textD d).toArray⟩ else ⟨#[]⟩ := rfl
      have hpe : printE d = if rightD 60 d then 0 else 1 := rfl
      obtain ⟨z, hz⟩ : ∃ z, z = textD d := ⟨_, rfl⟩
      rw [← hz] at hln hps htl
      have k1 : (k : Int) < n := by omega
      cases hld : lightD d
      · rw [hld] at HL
        clear hsb P R hps hpe hz hln hall hdl hse L hod hd hq hld htl h5 h6
        go_wp2_with fail
        refine (HL.out _ ((HSE.out.under (Below.refl _ _)).grow hsz)).mono ?_
        rintro e w4 ⟨rfl, hb4⟩
        have HB4 := Lib.hid (HB.out.trans (hb4.mono hsz))
        clear hb4
        go_wp2
        go_ret
        exact ⟨rfl, HB4.out⟩
      · rw [hld] at HL
        have hwd := hdl hld
        cases hrd : rightD 60 d
        · rw [hrd] at hps hpe R
          rw [show printS d = ⟨#[]⟩ from hps, show printE d = 1 from hpe] at P
          have HP := Lib.hid fun w' h => P w' (by omega) h
          have HRR := Lib.hid fun w' h => R w' (by omega) h
          clear hsb P R hps hpe hz hln hall hdl hse L hod hd hq hld htl h5 h6 hrd hwd
          go_wp2_with fail
          refine (HL.out _ ((HSE.out.under (Below.refl _ _)).grow hsz)).mono ?_
          rintro e w4 ⟨rfl, hb4⟩
          have d0 := (hb4.cell (p := ⟨b, off + k * 3, none⟩) (Nat.lt_of_lt_of_le hb hsz)).trans c0
          have d1 := (hb4.cell (p := ⟨b, off + k * 3 + 1, none⟩) (Nat.lt_of_lt_of_le hb hsz)).trans c1
          have d2 := (hb4.cell (p := ⟨b, off + k * 3 + 2, none⟩) (Nat.lt_of_lt_of_le hb hsz)).trans c2
          have hs4 : w.heap.size ≤ w4.heap.size := Nat.le_trans hsz hb4.size
          have HB4 := Lib.hid (HB.out.trans (hb4.mono hsz))
          have HSE4 := Lib.hid ((HSE.out.under (hb4.mono hsz)))
          clear hb4 c0 c1 c2
          go_wp2_with fail
          refine (HP.out _ (HSE4.out.grow hs4)).mono ?_
          rintro e w5 ⟨rfl, hb5⟩
          have c0 := (hb5.cell (p := ⟨b, off + k * 3, none⟩) (Nat.lt_of_lt_of_le hb hs4)).trans d0
          have c1 := (hb5.cell (p := ⟨b, off + k * 3 + 1, none⟩) (Nat.lt_of_lt_of_le hb hs4)).trans d1
          have c2 := (hb5.cell (p := ⟨b, off + k * 3 + 2, none⟩) (Nat.lt_of_lt_of_le hb hs4)).trans d2
          have hs5 : w.heap.size ≤ w5.heap.size := Nat.le_trans hs4 hb5.size
          have HB5 := Lib.hid (HB4.out.trans (hb5.mono hs4))
          have HSE5 := Lib.hid ((HSE4.out.under (hb5.mono hs4)))
          clear hb5 d0 d1 d2
          go_wp2_with fail
          refine (HRR.out _ (HSE5.out.grow hs5)).mono ?_
          rintro e w6 ⟨rfl, hb6⟩
          have HB6 := Lib.hid (HB5.out.trans (hb6.mono hs5))
          clear hb6
          go_wp2
          go_ret
          exact ⟨rfl, HB6.out⟩
        · rw [hrd] at hps hpe
          rw [show printS d = ⟨z.toArray⟩ from hps, show printE d = 0 from hpe] at P
          have HP := Lib.hid fun w' h => P w' (by omega) h
          have hzl : z.length ≤ 11996 := by omega
          have HH : Hid (X ++ (z ++ [10]) = linesD (l.take (k + 1))) := hln.symm
          have hall' : (l.take (k + 1)).all (fun d => rightD 60 d && lightD d) = true := by rw [hall, hrd, hld]; rfl
          have HH2 := Lib.hid hall'
          have hXl2 : (X.length : Int) ≤ 240000 := by omega
          have hzl2 : (z.length : Int) ≤ 12000 := by omega
          have hnl : X.length + z.length + 1 ≤ 12000 * (k + 1) := by omega
          clear hsb P R hps hpe hz hln hall hdl hse L hod hd hq hld htl h5 h6 hrd hwd hall'
          go_wp2_with fail
          refine (HL.out _ ((HSE.out.under (Below.refl _ _)).grow hsz)).mono ?_
          rintro e w4 ⟨rfl, hb4⟩
          have d0 := (hb4.cell (p := ⟨b, off + k * 3, none⟩) (Nat.lt_of_lt_of_le hb hsz)).trans c0
          have d1 := (hb4.cell (p := ⟨b, off + k * 3 + 1, none⟩) (Nat.lt_of_lt_of_le hb hsz)).trans c1
          have d2 := (hb4.cell (p := ⟨b, off + k * 3 + 2, none⟩) (Nat.lt_of_lt_of_le hb hsz)).trans c2
          have hs4 : w.heap.size ≤ w4.heap.size := Nat.le_trans hsz hb4.size
          have HB4 := Lib.hid (HB.out.trans (hb4.mono hsz))
          have HSE4 := Lib.hid ((HSE.out.under (hb4.mono hsz)))
          clear hb4 c0 c1 c2
          go_wp2_with fail
          refine (HP.out _ (HSE4.out.grow hs4)).mono ?_
          rintro e w5 ⟨rfl, hb5⟩
          have hs5 : w.heap.size ≤ w5.heap.size := Nat.le_trans hs4 hb5.size
          have HB5 := Lib.hid (HB4.out.trans (hb5.mono hs4))
          clear hb5 d0 d1 d2 hzl hXl
          go_wp2
          exact ⟨⟨k + 1, X ++ (z ++ [10]), by omega, by go_num, by simp [ByteArray.ext_iff], HH, HH2, by simp; omega, HB5, hs5⟩, by simp [intOf]; omega⟩
    · have hkn : k = l.length := by rw [← HN.out]; omega
      have hX : X = linesD l := by rw [HX.out, hkn, List.take_of_length_le (Nat.le_refl _)]
      have hR : l.all (fun d => rightD 60 d && lightD d) = true := by have := HR.out; rwa [hkn, List.take_of_length_le (Nat.le_refl _)] at this
      have hR2 : l.all (rightD 60) = true := by
        rw [List.all_eq_true] at hR ⊢
        intro x hx
        have := hR x hx
        rw [Bool.and_eq_true] at this
        exact this.1
      have hrd : readN X.length X = .ok l := by rw [hX]; exact read_lines _ l hR2
      have hsz2 : (⟨X.toArray⟩ : ByteArray).size = X.length := by simp [ByteArray.size]
      have RD := fun w' => read_any ⟨X.toArray⟩ (by omega) w'
      rw [hsz2] at RD
      rw [show (⟨X.toArray⟩ : ByteArray).data.toList = X from rfl, hrd] at RD
      have HRD := Lib.hid RD
      have AL := fun vb w' h1 h2 => all_any (.slice a n c) vb l l w' h1 h2
      rw [samesD_refl] at AL
      have HAL := Lib.hid AL
      have k1 : ¬ (k : Int) < n := by omega
      clear hkn hX hR hR2 hrd hsz2 RD AL hXl HX HR
      go_wp2_with fail
      refine (HRD.out _).mono ?_
      rintro e w4 ⟨⟨sv, rfl, hS⟩, hb4⟩
      have HB4 := Lib.hid (HB.out.trans (hb4.mono hsz))
      have hs4 : w.heap.size ≤ w4.heap.size := Nat.le_trans hsz hb4.size
      obtain ⟨pa, pc, hsv⟩ := hS.val
      rw [← HN.out] at hsv
      subst hsv
      have HS := Lib.hid (hS.mono (ok' := (· < w4.heap.size)) (w' := w4) (fun b hb => hb.2) (fun _ _ _ => rfl))
      have HV4 := Lib.hid ((HV.out.under HB4.out).grow hs4)
      clear hb4 hS
      go_wp2_with fail
      refine (HAL.out _ _ HV4.out HS.out).mono ?_
      rintro e w5 ⟨rfl, hb5⟩
      have HB5 := Lib.hid (HB4.out.trans (hb5.mono hs4))
      clear hb5
      go_wp2
      go_ret
      exact ⟨rfl, HB5.out⟩

theorem back_all (v : Value) (l : List Dat) (w : World) (ho : okTs l) (hv : SliceOf w (· < w.heap.size) v l) :
    Calls Tryd.prog 5 #[v] w fun e w' => e = .returned (.bool true) ∧ Below w.heap.size w w' := by
  obtain ⟨a, c, rfl⟩ := hv.val
  by_cases hn : l.length ≤ 20
  · exact back_few a _ c l w hn rfl ho hv
  · exact back_long a _ c w (by omega)
end Go.Proofs.YtghgjefobfaodaaDoor
