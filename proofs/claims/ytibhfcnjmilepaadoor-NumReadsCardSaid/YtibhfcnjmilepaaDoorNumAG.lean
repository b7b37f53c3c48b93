import Derived.Test.YtibhfcnjmilepaaDoorNumAF
import Derived.WalkSmall
namespace Go.Proofs.YtibhfcnjmilepaaDoor
open Go.RowKit

def LongRel (g1 g2 g3 p B0 : Nat) (L1 L2 : List Nat) (U V : Nat) (w : World) (i : Value) (wr : World) : Prop :=
  ∃ (X L : List Nat) (k e : Nat), k + e = p ∧ i = .int .i64 k ∧ Hid (X.length = L1.length ∧ okB X ∧ X.take e = L1.take e) ∧ Hid (valB (X.drop e) = U / bigB ^ e % V) ∧ Hid (L.length = k ∧ okB L ∧ valB L = U / bigB ^ e / V) ∧ Hid (Bk wr g1 X) ∧ Hid (Bk wr g2 L2) ∧ Hid (Bk wr g3 (List.replicate e 0 ++ L)) ∧ Hid (Below B0 w wr)
theorem sub_split (X : List Nat) (t n : Nat) : X = X.take t ++ (X.drop t).take n ++ X.drop (t + n) := by
  rw [List.append_assoc, ← List.drop_drop, List.take_append_drop, List.take_append_drop]

set_option maxRecDepth 100000 in
set_option maxHeartbeats 4000000 in
theorem plong_any (x y : Nat) (hx : (digB x).length ≤ 10000) (hy2 : 2 ≤ (digB y).length) (hyx : y ≤ x) (va vb : Value) (w : World) (ha : U32s w va (digB x)) (hb : U32s w vb (digB y)) :
    Calls Tryd.prog 56 #[va, vb] w (TwoPost (x / y) (x % y) w) := by
  obtain ⟨pa, ca, rfl⟩ := ha.val
  obtain ⟨pb, cb, rfl⟩ := hb.val
  obtain ⟨na, hna⟩ : ∃ na, na = (digB x).length := ⟨_, rfl⟩
  obtain ⟨n, hn⟩ : ∃ n, n = (digB y).length := ⟨_, rfl⟩
  obtain ⟨m, hm⟩ : ∃ m, n = m + 2 := ⟨n - 2, by omega⟩
  have hnn : n ≤ na := by
    rw [hn]
    exact digB_len.2 (Nat.lt_of_le_of_lt hyx (digB_len.1 (Nat.le_of_eq hna.symm)))
  rw [← hna] at hx ha ⊢
  rw [← hn] at hb ⊢
  obtain ⟨t, ht⟩ : ∃ t, t = (digB y).getD (m + 1) 0 := ⟨_, rfl⟩
  obtain ⟨f, hf⟩ : ∃ f, f = bigB / (t + 1) := ⟨_, rfl⟩
  obtain ⟨ht0, htB, hf0, hfB, hlt, hlen, htop⟩ := norm_all (by omega) ht hf
  -- the factor, read off the highest digit
  obtain ⟨bb, ob, rfl, hbb, hct⟩ := hb.at (show m + 1 < (digB y).length by omega)
  rw [← ht] at hct
  obtain ⟨n1, hn1⟩ : ∃ n1, n1 = m + 1 := ⟨_, rfl⟩
  rw [← hn1] at hct
  unfold u32V at hct
  have tI : (t : Int) < 1000000000 := by have := bigB_eq; omega
  have t0 : (0 : Int) ≤ t := Int.natCast_nonneg _
  have k1 : (n : Int) - 1 = (n1 : Int) := by omega
  have k2 : (n1 : Int) < n := by omega
  have k3 : (0 : Int) ≤ n1 := Int.natCast_nonneg _
  have hfI : (1000000000 : Int) / ((t : Int) + 1) = (f : Int) := by rw [hf, bigB_eq]; rfl
  have ht1 : (((t : Int) + 1) == 0) = false := by rw [beq_eq_false_iff_ne]; omega
  have fI : (f : Int) < 1000000000 := by have := bigB_eq; omega
  have f0 : (0 : Int) < f := by omega
  have TA := ptimes_any x f na hna (by omega) hfB _ w ha
  have HTA := Lib.hid TA
  have HA := Lib.hid ha
  have HB := Lib.hid hb
  have HNA := Lib.hid hna
  have HNN := Lib.hid hn
  have HM := Lib.hid hm
  have HF := Lib.hid hf
  have HT := Lib.hid ht
  have HFB := Lib.hid hfB
  have HLT := Lib.hid hlt
  have HLEN := Lib.hid hlen
  have HTOP := Lib.hid htop
  have HF0 := Lib.hid hf0
  have HN1 := Lib.hid hn1
  have HYX := Lib.hid hyx
  clear TA ha hb hna hn hm hf ht hfB hlt hlen htop hf0 ht0 htB hn1 hyx
  go_enter Tryd.func56, Tryd.ntmps56
  go_wp2_with fail
  rw [hfI]
  refine HTA.out.mono ?_
  rintro e w1 ⟨g1, L1, rfl, hg1, hg1lt, hL1, hok1, hv1, hbk1, hb1⟩
  have TB := ptimes_any y f n HNN.out (by omega) HFB.out _ w1 (HB.out.below hb1)
  have HTB := Lib.hid TB
  have HB1 := Lib.hid hb1
  have HBK1 := Lib.hid hbk1
  have HV1 := Lib.hid hv1
  have HOK1 := Lib.hid hok1
  have HL1 := Lib.hid hL1
  clear TB hb1 hbk1 hv1 hok1 hL1 hct hbb k1 k2 k3 hfI ht1 t0 tI
  go_wp2_with fail
  refine HTB.out.mono ?_
  rintro e w2 ⟨g2, L2, rfl, hg2, hg2lt, hL2, hok2, hv2, hbk2, hb2⟩
  have TR := ptrim_any g2 (n + 1) (n + 1) L2 [] hL2.symm (Nat.le_refl _) (by omega) w2 (by rw [List.append_nil]; exact hbk2)
  have htl : trimB L2 = digB (y * f) := by rw [trimB_dig _ L2 rfl hok2, hv2]
  have hnl : (trimB L2).length = n := by rw [htl, HLEN.out, HM.out]
  rw [hnl] at TR
  have HTR := Lib.hid TR
  have HTL := Lib.hid htl
  have HB2 := Lib.hid (HB1.out.trans (hb2.mono HB1.out.size))
  have HBK12 := Lib.hid (HBK1.out.below hb2 hg1lt)
  have HBK2 := Lib.hid hbk2
  have HL2 := Lib.hid hL2
  have hg12 : g1 < g2 := by omega
  clear TR hb2 hbk2 hv2 hok2 hL2 htl hnl
  go_wp2_with fail
  refine HTR.out.mono ?_
  rintro e w3 ⟨rfl, q, rfl⟩
  obtain ⟨p, hp⟩ : ∃ p, p = na + 1 - n := ⟨_, rfl⟩
  have hpI : (na : Int) + 1 - n = (p : Int) := by omega
  have hpN : p + n = na + 1 := by omega
  have HPN := Lib.hid hpN
  have MK := mk_any p (by omega) (w2.drewN q)
  obtain ⟨W, hW⟩ : ∃ W, W = (w2.drewN q).alloc (.cells ((List.replicate p 0).map u32V).toArray 40) := ⟨_, rfl⟩
  rw [← hW] at MK
  obtain ⟨g3, hg3⟩ : ∃ g3, g3 = w2.heap.size := ⟨_, rfl⟩
  have hsz : (w2.drewN q).heap.size = g3 := hg3.symm
  rw [hsz] at MK
  have hb3 : Below w2.heap.size w2 W := by rw [hW]; exact (below_drewN (Below.refl _ w2) q).alloc (Nat.le_refl _) _
  have hbk3 : Bk W g3 (List.replicate p 0) := by rw [hW, ← hsz]; exact Bk.made _
  have HB3 := Lib.hid (HB2.out.trans (hb3.mono HB2.out.size))
  have HBK13 := Lib.hid (HBK12.out.below hb3 (by omega))
  have HBK23 := Lib.hid (HBK2.out.below hb3 hg2lt)
  have HBK33 := Lib.hid hbk3
  have hg23 : g2 < g3 := by omega
  clear hW hg3 hsz hb3 hbk3 hp hpN
  obtain ⟨U, hU⟩ : ∃ U, U = x * f := ⟨_, rfl⟩
  obtain ⟨V, hV⟩ : ∃ V, V = y * f := ⟨_, rfl⟩
  have HU := Lib.hid hU
  have HV := Lib.hid hV
  rw [← hU] at HV1
  rw [← hV] at HLT HLEN HTOP HTL
  rw [← HM.out] at HLT HLEN
  -- the dividend's highest places are less than the divisor
  have hy1 : bigB ^ (m + 1) ≤ y := digB_low (by rw [← HNN.out, HM.out])
  have hV0 : 0 < V := by
    rw [hV]
    exact Nat.mul_pos (Nat.lt_of_lt_of_le (Nat.pow_pos bigB_pos) hy1) HF0.out
  have HV0 := Lib.hid hV0
  have hstart : U / bigB ^ p < V := by
    refine Nat.div_lt_of_lt_mul ?_
    have h1 : x < bigB ^ na := digB_len.1 (Nat.le_of_eq HNA.out.symm)
    have h2 : U < bigB ^ na * f := by rw [hU]; exact Nat.mul_lt_mul_of_pos_right h1 HF0.out
    have h3 : bigB ^ na = bigB ^ p * bigB ^ (m + 1) := by rw [← Nat.pow_add]; congr 1; have := HPN.out; have := HM.out; omega
    have h4 : bigB ^ (m + 1) * f ≤ V := by rw [hV]; exact Nat.mul_le_mul_right _ hy1
    have h5 := Nat.mul_le_mul_left (bigB ^ p) h4
    rw [h3, Nat.mul_assoc] at h2
    exact Nat.lt_of_lt_of_le h2 h5
  have hd1 := (val_drop HOK1.out (e := p) (by have := HL1.out; have := HPN.out; omega)).1
  rw [HV1.out] at hd1
  have hd2 : valB (L1.drop p) = U / bigB ^ p % V := by rw [hd1, Nat.mod_eq_of_lt hstart]
  have hd3 : valB [] = U / bigB ^ p / V := by rw [Nat.div_eq_of_lt hstart]; rfl
  have HD2 := Lib.hid hd2
  have HD3 := Lib.hid hd3
  have hng : g1 ≠ g2 := by omega
  have hng13 : g1 ≠ g3 := by omega
  have hng23 : g2 ≠ g3 := by omega
  clear hU hV hy1 hV0 hstart hd1 hd2 hd3
  go_wp2
  go_loopw [36] (fun i wr => LongRel g1 g2 g3 p w.heap.size L1 L2 U V w i wr) (fun i _ => p - (intOf i).toNat)
  case atStart => exact ⟨L1, [], 0, p, by omega, rfl, Lib.hid ⟨rfl, HOK1.out, rfl⟩, HD2, Lib.hid ⟨rfl, okB_nil, HD3.out⟩, HBK13, HBK23, Lib.hid (by rw [List.append_nil]; exact HBK33.out), HB3⟩
  case round =>
    obtain ⟨X, L, k, e, hke, rfl, HX, HXV, HLL, HBX, HBD, HBQ, HBL⟩ := hrel
    have k0 : (0 : Int) ≤ k := Int.natCast_nonneg _
    by_cases hgo : k < p
    · have gg1 : (k : Int) < p := by omega
      obtain ⟨t, rfl⟩ : ∃ t, e = t + 1 := ⟨e - 1, by omega⟩
      have hti : (p : Int) - 1 - k = t := by omega
      have t0 : (0 : Int) ≤ t := Int.natCast_nonneg _
      have t1 : (t : Int) < p := by omega
      have hXl : X.length = na + 1 := by rw [HX.out.1, HL1.out]
      have htn : t + (n + 1) ≤ X.length := by have := HPN.out; omega
      obtain ⟨r1, r2, r3, r4⟩ := long_round (n := n) HX.out.2.1 htn HX.out.2.2 HOK1.out HV1.out HXV.out HV0.out HLT.out
      obtain ⟨M, hM⟩ : ∃ M, M = (X.drop t).take (n + 1) := ⟨_, rfl⟩
      rw [← hM] at r1 r2 r3
      have hMl : M.length = m + 3 := by rw [hM, List.length_take, List.length_drop]; have := HM.out; omega
      have hMo : okB M := by rw [hM]; exact okB_take (okB_drop HX.out.2.1 t) _
      have hsp := sub_split X t (n + 1)
      rw [← hM] at hsp
      have hbx := HBX.out
      rw [hsp] at hbx
      have hrd : Rd g1 wr (.slice (some ⟨g2, 0, none⟩) n n) (digB V) := by
        have h1 := HBD.out
        have h2 := (trimB_take L2).1
        rw [HTL.out, HLEN.out] at h2
        rw [← List.take_append_drop n L2, ← h2] at h1
        exact Bk.rd (A := []) (C := L2.drop n) h1 rfl HLEN.out.symm hng.symm
      have NX := pnext_any m _ _ _ _ _ _ _ M (digB V) (two_last (by rw [HLEN.out, HM.out])) (three_last hMl) (by rw [List.length_take, HLEN.out, HM.out]; omega) (by rw [List.length_take]; omega) (by have := HM.out; omega) (digB_ok _) hMo HTOP.out (by rw [valB_digB]; exact r1) g1 t (n + 1) (na + 1 - t) (X.take t) (X.drop (t + (n + 1))) (by rw [List.length_take]; omega) (by rw [hMl, HM.out]) (.slice (some ⟨g2, 0, none⟩) n n) wr hbx hrd
      rw [valB_digB] at NX
      have HNX := Lib.hid NX
      have R1 := Lib.hid r1
      have R2 := Lib.hid r2
      have R3 := Lib.hid r3
      have R4 := Lib.hid r4
      have HXL := Lib.hid hXl
      have HTN := Lib.hid htn
      have s1 : (t : Int) ≤ (t : Int) + n + 1 := by omega
      have s2 : (t : Int) + n + 1 ≤ (na : Int) + 1 := by have := HPN.out; omega
      have s3 : ¬ na + 1 = t := by have := HPN.out; have := HM.out; omega
      clear NX r1 r2 r3 r4 hsp hbx hrd hMo hMl hM hXl htn
      go_wp2_with fail
      rw [show t + n + 1 - t = n + 1 by omega]
      refine HNX.out.mono ?_
      rintro e w5 ⟨M2, rfl, hM2, hokM2, hvM2, hbkM2, hkM2⟩
      have hqd : Hid (valB M / V < bigB) := Nat.div_lt_of_lt_mul (by rw [Nat.mul_comm]; exact R1.out)
      obtain ⟨d, hd⟩ : ∃ d, d = valB M / V := ⟨_, rfl⟩
      rw [← hd] at hqd R3
      rw [← hd]
      have hbq : Bk w5 g3 ([] ++ (List.replicate t 0 ++ 0 :: L) ++ []) := by
        have := HBQ.out.keep hkM2 hng13.symm
        rw [List.replicate_succ', List.append_assoc] at this
        simpa using this
      have HBQ5 := Lib.hid hbq
      have hfz : w5.frozen? ⟨g3, t, none⟩ = false := hbq.frozen _
      have hcz : w5.cell? ⟨g3, t, none⟩ = some (.int .u32 ((0 : Nat) : Int)) := hbq.cell (by have := get_mid [] (List.replicate t 0) L [] 0; rw [List.length_nil, Nat.zero_add, List.length_replicate] at this; exact this)
      have HBX5 := Lib.hid hbkM2
      have HBD5 := Lib.hid (HBD.out.keep hkM2 hng.symm)
      have HBL5 := Lib.hid (HBL.out.trans (hkM2.below hg1))
      have hX5 : (X.take t ++ M2 ++ X.drop (t + (n + 1))).length = L1.length ∧ okB (X.take t ++ M2 ++ X.drop (t + (n + 1))) ∧ (X.take t ++ M2 ++ X.drop (t + (n + 1))).take t = L1.take t := by
        have htl : (X.take t).length = t := by rw [List.length_take]; have := HTN.out; omega
        refine ⟨?_, okB_app (okB_app (okB_take HX.out.2.1 t) hokM2) (okB_drop HX.out.2.1 _), ?_⟩
        · rw [List.length_append, List.length_append, htl, hM2, List.length_drop, ← HX.out.1]
          have := HTN.out
          omega
        · rw [List.append_assoc, List.take_append_of_le_length (by omega), List.take_of_length_le (by omega)]
          have := congrArg (List.take t) HX.out.2.2
          rw [List.take_take, List.take_take, Nat.min_eq_left (by omega)] at this
          exact this
      have HX5 := Lib.hid hX5
      have hXV5 : valB ((X.take t ++ M2 ++ X.drop (t + (n + 1))).drop t) = U / bigB ^ t % V := by
        have htl : (X.take t).length = t := by rw [List.length_take]; have := HTN.out; omega
        rw [List.append_assoc, List.drop_append_of_le_length (by omega), List.drop_of_length_le (by omega), List.nil_append, valB_app, R4.out, Nat.mul_zero, Nat.add_zero, hvM2, R2.out]
      have HXV5 := Lib.hid hXV5
      have HLL5 : Hid ((d :: L).length = k + 1 ∧ okB (d :: L) ∧ valB (d :: L) = U / bigB ^ t / V) := by
        refine ⟨by rw [List.length_cons, HLL.out.1], fun y hy => ?_, ?_⟩
        · rcases List.mem_cons.1 hy with rfl | hy
          · exact hqd.out
          · exact HLL.out.2.1 y hy
        · rw [valB, HLL.out.2.2, R3.out]
      have dI : (d : Int) < 1000000000 := by have := hqd.out; have := bigB_eq; omega
      have d0 : (0 : Int) ≤ d := Int.natCast_nonneg _
      clear hbq hX5 hXV5 hM2 hokM2 hvM2 hbkM2 hkM2 hd
      go_wp2
      go_roundw
      case rel => exact ⟨_, d :: L, k + 1, t, by omega, by go_num, HX5, HXV5, HLL5, Lib.hid (HBX5.out.keep ((Keep.refl g3 _).setCell _ _) hng13), Lib.hid (HBD5.out.keep ((Keep.refl g3 _).setCell _ _) hng23), Lib.hid (by
        have := bk_put HBQ5.out (o := t) (by simp) d _ rfl
        rw [List.nil_append, List.append_nil] at this
        exact this), Lib.hid (HBL5.out.setCell (p := ⟨g3, t, none⟩) (show w.heap.size ≤ g3 by omega) _)⟩
      case measure => simp [intOf]; omega
    · have gg1 : ¬ (k : Int) < p := by omega
      have hkp : k = p := by omega
      have he0 : e = 0 := by omega
      subst he0
      have hX := HX.out
      have hXV := HXV.out
      have hLL := HLL.out
      have hbq := HBQ.out
      rw [List.drop_zero, Nat.pow_zero, Nat.div_one] at hXV
      rw [Nat.pow_zero, Nat.div_one] at hLL
      rw [List.replicate_zero, List.nil_append] at hbq
      have hXl : X.length = na + 1 := by rw [hX.1, HL1.out]
      -- the lowest n places are what is left
      have hlow : valB (X.take n) = U % V := by
        rw [(val_drop hX.2.1 (e := n) (by omega)).2, hXV, Nat.mod_eq_of_lt (Nat.lt_trans (Nat.mod_lt _ HV0.out) HLT.out)]
      have BY := pby_any n f (X.take n) (by rw [List.length_take]; omega) (by omega) (okB_take hX.2.1 n) HF0.out HFB.out (.slice (some ⟨g1, 0, none⟩) n (na + 1)) wr (Bk.u32s (C := X.drop n) (by rw [List.take_append_drop]; exact HBX.out) (by rw [List.length_take]; omega))
      rw [hlow] at BY
      have hrem : U % V / f = x % y := by rw [HU.out, HV.out, Nat.mul_mod_mul_right, Nat.mul_div_cancel _ HF0.out]
      have hquo : U / V = x / y := by rw [HU.out, HV.out, Nat.mul_div_mul_right _ _ HF0.out]
      rw [hrem] at BY
      rw [hquo] at hLL
      have HBY := Lib.hid BY
      have HLL2 := Lib.hid hLL
      have HBQ2 := Lib.hid hbq
      have nI : (n : Int) ≤ (na : Int) + 1 := by omega
      have n0 : (0 : Int) ≤ n := Int.natCast_nonneg _
      clear BY hX hXV hLL hbq hXl hlow hrem hquo
      go_wp2_with fail
      refine HBY.out.mono ?_
      rintro e w5 ⟨⟨v2, v1, rfl, hu2, _⟩, hb5⟩
      have TR := trim_dig g3 p p L (by rw [HLL2.out.1, hkp]) (Nat.le_refl _) (by omega) HLL2.out.2.1 w5 (HBQ2.out.below hb5 HBQ2.out.lt)
      rw [HLL2.out.2.2] at TR
      have HTR2 := Lib.hid TR
      have HU2 := Lib.hid hu2
      have HB5 := Lib.hid (HBL.out.trans (hb5.mono HBL.out.size))
      clear TR hu2 hb5
      go_wp2_with fail
      refine HTR2.out.mono ?_
      rintro e w6 ⟨⟨v3, rfl, hu3⟩, hb6, _⟩
      have HU3 := Lib.hid hu3
      have HU4 := Lib.hid (HU2.out.below hb6)
      have HB6 := Lib.hid (HB5.out.trans (hb6.mono HB5.out.size))
      clear hu3 hb6
      go_wp2
      go_ret2
      exact ⟨⟨v3, v2, rfl, HU3.out, HU4.out⟩, HB6.out⟩
end Go.Proofs.YtibhfcnjmilepaaDoor
