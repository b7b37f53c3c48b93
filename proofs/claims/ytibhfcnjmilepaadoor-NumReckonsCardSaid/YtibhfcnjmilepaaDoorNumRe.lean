import Derived.Test.YtibhfcnjmilepaaDoorNumAT
import Derived.Test.YtibhfcnjmilepaaDoorNumDo
import Derived.Deep.RegionHeld3
namespace Go.Proofs.YtibhfcnjmilepaaDoor
open Go.RowKit

set_option maxRecDepth 100000 in
set_option maxHeartbeats 8000000 in
theorem reckons_any (s t : ByteArray) (w : World) (ht : TabW w) :
    Calls Tryd.prog 4 #[.string s, .string t] w fun e w' => e = .returned (.bool true) ∧ Below w.heap.size w w' := by
  have HA := Lib.hid (awake_any w ht)
  have HT := Lib.hid ht
  clear ht
  by_cases hlong : 130 < s.size ∨ 130 < t.size
  · have H1 := Lib.hid (ptwo_long s t hlong)
    have HL := Lib.hid hlong
    clear hlong
    by_cases h1 : 130 < s.size
    · have d1 : decide ((s.size : Int) > 130) = true := decide_eq_true (by omega)
      go_enter Tryd.func4, Tryd.ntmps4
      go_wp2_with fail
      refine HA.out.mono ?_
      rintro e w1 ⟨rfl, hb1⟩
      have HB1 := Lib.hid hb1
      clear hb1
      go_wp2_with fail
      refine (H1.out w1).mono ?_
      rintro e w2 ⟨⟨b1, s1, l1, c1, b2, s2, l2, c2, rfl⟩, hb2⟩
      have HB2 := Lib.hid (show Below w.heap.size w _ from (HB1.out.trans (hb2.mono HB1.out.size)))
      clear hb2
      go_wp2
      go_ret
      exact ⟨rfl, (HB2.out.alloc HB2.out.size _).alloc (Nat.le_trans HB2.out.size (by simp)) _⟩
    · have d1 : decide ((s.size : Int) > 130) = false := decide_eq_false (by omega)
      have d2 : decide ((t.size : Int) > 130) = true := decide_eq_true (by have := HL.out; omega)
      go_enter Tryd.func4, Tryd.ntmps4
      go_wp2_with fail
      refine HA.out.mono ?_
      rintro e w1 ⟨rfl, hb1⟩
      have HB1 := Lib.hid hb1
      clear hb1
      go_wp2_with fail
      refine (H1.out w1).mono ?_
      rintro e w2 ⟨⟨b1, s1, l1, c1, b2, s2, l2, c2, rfl⟩, hb2⟩
      have HB2 := Lib.hid (show Below w.heap.size w _ from (HB1.out.trans (hb2.mono HB1.out.size)))
      clear hb2
      go_wp2
      go_ret
      exact ⟨rfl, (HB2.out.alloc HB2.out.size _).alloc (Nat.le_trans HB2.out.size (by simp)) _⟩
  have hs : s.size ≤ 130 := by omega
  have hv : t.size ≤ 130 := by omega
  have d1 : decide ((s.size : Int) > 130) = false := decide_eq_false (by omega)
  have d2 : decide ((t.size : Int) > 130) = false := decide_eq_false (by omega)
  obtain ⟨o, ho⟩ : ∃ o, readZ s.data.toList = o := ⟨_, rfl⟩
  obtain ⟨p, hp⟩ : ∃ p, readZ t.data.toList = p := ⟨_, rfl⟩
  have H1 := Lib.hid (ptwo_some s t o p ho hp hs hv)
  have HO := Lib.hid ho
  have HP := Lib.hid hp
  have HS := Lib.hid (show s.size ≤ 10000 by omega)
  have HV := Lib.hid (show t.size ≤ 10000 by omega)
  clear hlong ho hp hs hv
  go_enter Tryd.func4, Tryd.ntmps4
  go_wp2_with fail
  refine HA.out.mono ?_
  rintro e w1 ⟨rfl, hb1⟩
  have HB1 := Lib.hid hb1
  clear hb1
  go_wp2_with fail
  refine (H1.out w1).mono ?_
  rintro e w2 ⟨⟨b1, s1, l1, c1, b2, s2, l2, c2, rfl, hx, hy⟩, hb2⟩
  have hx1 := (hx.alloc (.cells #[.bool b1, .slice s1 l1 c1] 25)).alloc (.cells #[.bool b2, .slice s2 l2 c2] 25)
  have hy1 := (hy.alloc (.cells #[.bool b1, .slice s1 l1 c1] 25)).alloc (.cells #[.bool b2, .slice s2 l2 c2] 25)
  obtain ⟨ga, hga⟩ : ∃ ga, ga = w2.heap.size := ⟨_, rfl⟩
  obtain ⟨W, hW⟩ : ∃ W, W = (w2.alloc (.cells #[.bool b1, .slice s1 l1 c1] 25)).alloc (.cells #[.bool b2, .slice s2 l2 c2] 25) := ⟨_, rfl⟩
  have hBW2 : Below w2.heap.size w2 W := by rw [hW]; exact ((Below.refl _ _).alloc (Nat.le_refl _) _).alloc (by simp) _
  have va : VarAt W ga b1 s1 l1 c1 := by rw [hW, hga]; exact VarAt.made1 _ _ _ _ _ _
  have vb : VarAt W (ga + 1) b2 s2 l2 c2 := by rw [hW, hga]; exact VarAt.made2 _ _ _ _ _ _
  rw [← hW] at hx1 hy1
  have HBW := Lib.hid ((HB1.out.trans (hb2.mono HB1.out.size)).trans (hBW2.mono (HB1.out.trans (hb2.mono HB1.out.size)).size))
  have HVA := Lib.hid va
  have HVB := Lib.hid vb
  have HNA := Lib.hid hx1
  have HNB := Lib.hid hy1
  have HW := Lib.hid hW
  have HG := Lib.hid hga
  clear hx hy hx1 hy1 hb2 hBW2 va vb hW hga H1 HA HB1
  cases o with
  | none =>
    as_aux_lemma =>
      go_wp2_with fail
      rw [← HG.out, ← HW.out]
      refine (dread_none HS.out HO.out _).mono ?_
      rintro e w3 ⟨rfl, hb⟩
      have HB3 := Lib.hid (HBW.out.trans (hb.mono HBW.out.size))
      clear hb
      go_wp2_with fail
      cases p with
      | none =>
        refine (dread_none HV.out HP.out _).mono ?_
        rintro e w4 ⟨rfl, hb⟩
        have HB4 := Lib.hid ((HB3.out.alloc HB3.out.size _).trans (hb.mono (Nat.le_trans HB3.out.size (by simp))))
        clear hb
        go_wp2
        go_ret
        exact ⟨rfl, HB4.out.alloc HB4.out.size _⟩
      | some y =>
        obtain ⟨my, DY, hdy⟩ := doc_ex y
        have HDY := Lib.hid hdy
        clear hdy
        refine (dread HV.out HP.out HDY.out _).mono ?_
        rintro e w4 ⟨rfl, hb⟩
        have HB4 := Lib.hid ((HB3.out.alloc HB3.out.size _).trans (hb.mono (Nat.le_trans HB3.out.size (by simp))))
        clear hb
        go_wp2
        go_ret
        exact ⟨rfl, HB4.out.alloc HB4.out.size _⟩
  | some x =>
  obtain ⟨mx, DX, hdx⟩ := doc_ex x
  have HDX := Lib.hid hdx
  clear hdx
  cases p with
  | none =>
    as_aux_lemma =>
      go_wp2_with fail
      rw [← HG.out, ← HW.out]
      refine (dread HS.out HO.out HDX.out _).mono ?_
      rintro e w3 ⟨rfl, hb⟩
      have HB3 := Lib.hid (HBW.out.trans (hb.mono HBW.out.size))
      clear hb
      go_wp2_with fail
      refine (dread_none HV.out HP.out _).mono ?_
      rintro e w4 ⟨rfl, hb⟩
      have HB4 := Lib.hid ((HB3.out.alloc HB3.out.size _).trans (hb.mono (Nat.le_trans HB3.out.size (by simp))))
      clear hb
      go_wp2
      go_ret
      exact ⟨rfl, HB4.out.alloc HB4.out.size _⟩
  | some y =>
  have HNA := Lib.hid (show NumIs 15 W _ x from HNA.out)
  have HNB := Lib.hid (show NumIs 15 W _ y from HNB.out)
  obtain ⟨my, DY, hdy⟩ := doc_ex y
  have HDY := Lib.hid hdy
  obtain ⟨za, hza⟩ : ∃ z, x + y = z := ⟨_, rfl⟩
  obtain ⟨mza, Dza, hdza⟩ := doc_ex za
  obtain ⟨Sza, hSza⟩ : ∃ S, (⟨(textZ za).toArray⟩ : ByteArray) = S := ⟨_, rfl⟩
  have HZza := Lib.hid hza
  have HDza := Lib.hid hdza
  have HSza := Lib.hid hSza
  obtain ⟨zs, hzs⟩ : ∃ z, x - y = z := ⟨_, rfl⟩
  obtain ⟨mzs, Dzs, hdzs⟩ := doc_ex zs
  obtain ⟨Szs, hSzs⟩ : ∃ S, (⟨(textZ zs).toArray⟩ : ByteArray) = S := ⟨_, rfl⟩
  have HZzs := Lib.hid hzs
  have HDzs := Lib.hid hdzs
  have HSzs := Lib.hid hSzs
  obtain ⟨zm, hzm⟩ : ∃ z, x * y = z := ⟨_, rfl⟩
  obtain ⟨mzm, Dzm, hdzm⟩ := doc_ex zm
  obtain ⟨Szm, hSzm⟩ : ∃ S, (⟨(textZ zm).toArray⟩ : ByteArray) = S := ⟨_, rfl⟩
  have HZzm := Lib.hid hzm
  have HDzm := Lib.hid hdzm
  have HSzm := Lib.hid hSzm
  obtain ⟨zq, hzq⟩ : ∃ z, (quoZ x y).getD 0 = z := ⟨_, rfl⟩
  obtain ⟨mzq, Dzq, hdzq⟩ := doc_ex zq
  obtain ⟨Szq, hSzq⟩ : ∃ S, (⟨(textZ zq).toArray⟩ : ByteArray) = S := ⟨_, rfl⟩
  have HZzq := Lib.hid hzq
  have HDzq := Lib.hid hdzq
  have HSzq := Lib.hid hSzq
  obtain ⟨zr, hzr⟩ : ∃ z, (remZ x y).getD 0 = z := ⟨_, rfl⟩
  obtain ⟨mzr, Dzr, hdzr⟩ := doc_ex zr
  obtain ⟨Szr, hSzr⟩ : ∃ S, (⟨(textZ zr).toArray⟩ : ByteArray) = S := ⟨_, rfl⟩
  have HZzr := Lib.hid hzr
  have HDzr := Lib.hid hdzr
  have HSzr := Lib.hid hSzr
  obtain ⟨kq, hkq⟩ : ∃ k, errZ (quoZ x y) 8 = k := ⟨_, rfl⟩
  obtain ⟨kr, hkr⟩ : ∃ k, errZ (remZ x y) 8 = k := ⟨_, rfl⟩
  obtain ⟨cz, hcz⟩ : ∃ k, cmpZ x y = k := ⟨_, rfl⟩
  obtain ⟨sn, sb, hsm⟩ := small_ex x
  have HKQ := Lib.hid hkq
  have HKR := Lib.hid hkr
  have HCZ := Lib.hid hcz
  have HSM := Lib.hid hsm
  have LX := Lib.hid HNA.out.2
  have LY := Lib.hid HNB.out.2
  have La := Lib.hid (show (digB za.natAbs).length ≤ 31 by rw [← hza]; have := dl_add x y; have := LX.out; have := LY.out; omega)
  have Ls := Lib.hid (show (digB zs.natAbs).length ≤ 31 by rw [← hzs]; have := dl_add x (-y); rw [Int.natAbs_neg] at this; have := LX.out; have := LY.out; rw [Int.sub_eq_add_neg]; omega)
  have Lm := Lib.hid (show (digB zm.natAbs).length ≤ 31 by rw [← hzm]; have := dl_mul x y; have := LX.out; have := LY.out; omega)
  have Lq := Lib.hid (show (digB zq.natAbs).length ≤ 15 by rw [← hzq]; exact Nat.le_trans (dl_quoG x y) LX.out)
  have Lr := Lib.hid (show (digB zr.natAbs).length ≤ 15 by rw [← hzr]; exact Nat.le_trans (dl_remG x y) LX.out)
  clear hdy hza hdza hSza hzs hdzs hSzs hzm hdzm hSzm hzq hdzq hSzq hzr hdzr hSzr hkq hkr hcz hsm
  go_wp2_with fail
  rw [← HG.out, ← HW.out]
  refine (dread HS.out HO.out HDX.out _).mono ?_
  rintro e w201 ⟨rfl, hb⟩
  have qa0 := (HVA.out.below hb HVA.out.lt).c0
  have qa1 := (HVA.out.below hb HVA.out.lt).c1
  have ta := (HVA.out.below hb HVA.out.lt).lt
  have qb0 := (HVB.out.below hb HVB.out.lt).c0
  have qb1 := (HVB.out.below hb HVB.out.lt).c1
  have tb := (HVB.out.below hb HVB.out.lt).lt
  obtain ⟨W201, hW201⟩ : ∃ W, W = w201.alloc (.cells #[.bool mx, .string DX] 30) := ⟨_, rfl⟩
  obtain ⟨gx, hgx⟩ : ∃ g, g = w201.heap.size := ⟨_, rfl⟩
  have HBW201 := Lib.hid (show Below W.heap.size W W201 by rw [hW201]; exact hb.alloc hb.size _)
  have HVn := Lib.hid (show DocAt W201 gx mx DX by rw [hW201, hgx]; exact DocAt.made _ _ _)
  have HW201 := Lib.hid hW201
  have HGx := Lib.hid hgx
  clear hb hW201 hgx
  have HVa_1 := Lib.hid (HVA.out.below HBW201.out HVA.out.lt)
  have HNa_1 := Lib.hid (HNA.out.below HBW201.out)
  have HVb_1 := Lib.hid (HVB.out.below HBW201.out HVB.out.lt)
  have HNb_1 := Lib.hid (HNB.out.below HBW201.out)
  have HBW_1 := Lib.hid (HBW.out.trans (HBW201.out.mono HBW.out.size))
  clear HVA HNA HVB HNB HBW
  have HVx_1 := HVn
  clear HVn HBW201
  go_wp2_with fail
  rw [← HGx.out, ← HW201.out]
  refine (dread HV.out HP.out HDY.out _).mono ?_
  rintro e w202 ⟨rfl, hb⟩
  clear qa0 qa1 ta qb0 qb1 tb
  have qa0 := (HVa_1.out.below hb HVa_1.out.lt).c0
  have qa1 := (HVa_1.out.below hb HVa_1.out.lt).c1
  have ta := (HVa_1.out.below hb HVa_1.out.lt).lt
  have qb0 := (HVb_1.out.below hb HVb_1.out.lt).c0
  have qb1 := (HVb_1.out.below hb HVb_1.out.lt).c1
  have tb := (HVb_1.out.below hb HVb_1.out.lt).lt
  obtain ⟨W202, hW202⟩ : ∃ W, W = w202.alloc (.cells #[.bool my, .string DY] 30) := ⟨_, rfl⟩
  obtain ⟨gy, hgy⟩ : ∃ g, g = w202.heap.size := ⟨_, rfl⟩
  have HBW202 := Lib.hid (show Below W201.heap.size W201 W202 by rw [hW202]; exact hb.alloc hb.size _)
  have HVn := Lib.hid (show DocAt W202 gy my DY by rw [hW202, hgy]; exact DocAt.made _ _ _)
  have HW202 := Lib.hid hW202
  have HGy := Lib.hid hgy
  clear hb hW202 hgy
  have HVa_2 := Lib.hid (HVa_1.out.below HBW202.out HVa_1.out.lt)
  have HNa_2 := Lib.hid (HNa_1.out.below HBW202.out)
  have HVb_2 := Lib.hid (HVb_1.out.below HBW202.out HVb_1.out.lt)
  have HNb_2 := Lib.hid (HNb_1.out.below HBW202.out)
  have HVx_2 := Lib.hid (HVx_1.out.below HBW202.out HVx_1.out.lt)
  have HBW_2 := Lib.hid (HBW_1.out.trans (HBW202.out.mono HBW_1.out.size))
  clear HVa_1 HNa_1 HVb_1 HNb_1 HVx_1 HBW_1
  have HVy_2 := HVn
  clear HVn HBW202
  go_wp2_with fail
  rw [← HGy.out, ← HW202.out]
  refine (nquoG (K := 15) (L := 15) HNa_2.out HNb_2.out (by omega) (by omega) HZzq.out HKQ.out).mono ?_
  rintro e w203 ⟨⟨bv3, sv3, lv3, cv3, rfl, hn⟩, hb⟩
  clear qa0 qa1 ta qb0 qb1 tb
  have qa0 := (HVa_2.out.below hb HVa_2.out.lt).c0
  have qa1 := (HVa_2.out.below hb HVa_2.out.lt).c1
  have ta := (HVa_2.out.below hb HVa_2.out.lt).lt
  have qb0 := (HVb_2.out.below hb HVb_2.out.lt).c0
  have qb1 := (HVb_2.out.below hb HVb_2.out.lt).c1
  have tb := (HVb_2.out.below hb HVb_2.out.lt).lt
  obtain ⟨W203, hW203⟩ : ∃ W, W = w203.alloc (.cells #[.bool bv3, .slice sv3 lv3 cv3] 25) := ⟨_, rfl⟩
  obtain ⟨gq, hgq⟩ : ∃ g, g = w203.heap.size := ⟨_, rfl⟩
  have HBW203 := Lib.hid (show Below W202.heap.size W202 W203 by rw [hW203]; exact hb.alloc hb.size _)
  have HVn := Lib.hid (show VarAt W203 gq bv3 sv3 lv3 cv3 by rw [hW203, hgq]; exact VarAt.made _ _ _ _ _)
  have HNn := Lib.hid (show NumIs 15 W203 _ zq by rw [hW203]; exact hn.alloc _)
  have HW203 := Lib.hid hW203
  have HGq := Lib.hid hgq
  clear hn hb hW203 hgq
  have HVa_3 := Lib.hid (HVa_2.out.below HBW203.out HVa_2.out.lt)
  have HNa_3 := Lib.hid (HNa_2.out.below HBW203.out)
  have HVb_3 := Lib.hid (HVb_2.out.below HBW203.out HVb_2.out.lt)
  have HNb_3 := Lib.hid (HNb_2.out.below HBW203.out)
  have HVx_3 := Lib.hid (HVx_2.out.below HBW203.out HVx_2.out.lt)
  have HVy_3 := Lib.hid (HVy_2.out.below HBW203.out HVy_2.out.lt)
  have HBW_3 := Lib.hid (HBW_2.out.trans (HBW203.out.mono HBW_2.out.size))
  clear HVa_2 HNa_2 HVb_2 HNb_2 HVx_2 HVy_2 HBW_2
  have HVq_3 := HVn
  have HNq_3 := HNn
  clear HVn HNn HBW203
  go_wp2_with fail
  rw [← HGq.out, ← HW203.out]
  refine (nremG (K := 15) (L := 15) HNa_3.out HNb_3.out (by omega) (by omega) HZzr.out HKR.out).mono ?_
  rintro e w204 ⟨⟨bv4, sv4, lv4, cv4, rfl, hn⟩, hb⟩
  clear qa0 qa1 ta qb0 qb1 tb
  have qx0 := (HVx_3.out.below hb HVx_3.out.lt).c0
  have qx1 := (HVx_3.out.below hb HVx_3.out.lt).c1
  have tx := (HVx_3.out.below hb HVx_3.out.lt).lt
  have qy0 := (HVy_3.out.below hb HVy_3.out.lt).c0
  have qy1 := (HVy_3.out.below hb HVy_3.out.lt).c1
  have ty := (HVy_3.out.below hb HVy_3.out.lt).lt
  obtain ⟨W204, hW204⟩ : ∃ W, W = w204.alloc (.cells #[.bool bv4, .slice sv4 lv4 cv4] 25) := ⟨_, rfl⟩
  obtain ⟨gr, hgr⟩ : ∃ g, g = w204.heap.size := ⟨_, rfl⟩
  have HBW204 := Lib.hid (show Below W203.heap.size W203 W204 by rw [hW204]; exact hb.alloc hb.size _)
  have HVn := Lib.hid (show VarAt W204 gr bv4 sv4 lv4 cv4 by rw [hW204, hgr]; exact VarAt.made _ _ _ _ _)
  have HNn := Lib.hid (show NumIs 15 W204 _ zr by rw [hW204]; exact hn.alloc _)
  have HW204 := Lib.hid hW204
  have HGr := Lib.hid hgr
  clear hn hb hW204 hgr
  have HVa_4 := Lib.hid (HVa_3.out.below HBW204.out HVa_3.out.lt)
  have HNa_4 := Lib.hid (HNa_3.out.below HBW204.out)
  have HVb_4 := Lib.hid (HVb_3.out.below HBW204.out HVb_3.out.lt)
  have HNb_4 := Lib.hid (HNb_3.out.below HBW204.out)
  have HVx_4 := Lib.hid (HVx_3.out.below HBW204.out HVx_3.out.lt)
  have HVy_4 := Lib.hid (HVy_3.out.below HBW204.out HVy_3.out.lt)
  have HVq_4 := Lib.hid (HVq_3.out.below HBW204.out HVq_3.out.lt)
  have HNq_4 := Lib.hid (HNq_3.out.below HBW204.out)
  have HBW_4 := Lib.hid (HBW_3.out.trans (HBW204.out.mono HBW_3.out.size))
  clear HVa_3 HNa_3 HVb_3 HNb_3 HVx_3 HVy_3 HVq_3 HNq_3 HBW_3
  have HVr_4 := HVn
  have HNr_4 := HNn
  clear HVn HNn HBW204
  go_wp2_with fail
  rw [← HGr.out, ← HW204.out]
  refine (dquo HDX.out HDY.out HZzq.out HKQ.out HDzq.out LX.out LY.out _).mono ?_
  rintro e w205 ⟨rfl, hb⟩
  clear qx0 qx1 tx qy0 qy1 ty
  have qx0 := (HVx_4.out.below hb HVx_4.out.lt).c0
  have qx1 := (HVx_4.out.below hb HVx_4.out.lt).c1
  have tx := (HVx_4.out.below hb HVx_4.out.lt).lt
  have qy0 := (HVy_4.out.below hb HVy_4.out.lt).c0
  have qy1 := (HVy_4.out.below hb HVy_4.out.lt).c1
  have ty := (HVy_4.out.below hb HVy_4.out.lt).lt
  obtain ⟨W205, hW205⟩ : ∃ W, W = w205.alloc (.cells #[.bool mzq, .string Dzq] 30) := ⟨_, rfl⟩
  obtain ⟨gp, hgp⟩ : ∃ g, g = w205.heap.size := ⟨_, rfl⟩
  have HBW205 := Lib.hid (show Below W204.heap.size W204 W205 by rw [hW205]; exact hb.alloc hb.size _)
  have HVn := Lib.hid (show DocAt W205 gp mzq Dzq by rw [hW205, hgp]; exact DocAt.made _ _ _)
  have HW205 := Lib.hid hW205
  have HGp := Lib.hid hgp
  clear hb hW205 hgp
  have HVa_5 := Lib.hid (HVa_4.out.below HBW205.out HVa_4.out.lt)
  have HNa_5 := Lib.hid (HNa_4.out.below HBW205.out)
  have HVb_5 := Lib.hid (HVb_4.out.below HBW205.out HVb_4.out.lt)
  have HNb_5 := Lib.hid (HNb_4.out.below HBW205.out)
  have HVx_5 := Lib.hid (HVx_4.out.below HBW205.out HVx_4.out.lt)
  have HVy_5 := Lib.hid (HVy_4.out.below HBW205.out HVy_4.out.lt)
  have HVq_5 := Lib.hid (HVq_4.out.below HBW205.out HVq_4.out.lt)
  have HNq_5 := Lib.hid (HNq_4.out.below HBW205.out)
  have HVr_5 := Lib.hid (HVr_4.out.below HBW205.out HVr_4.out.lt)
  have HNr_5 := Lib.hid (HNr_4.out.below HBW205.out)
  have HBW_5 := Lib.hid (HBW_4.out.trans (HBW205.out.mono HBW_4.out.size))
  clear HVa_4 HNa_4 HVb_4 HNb_4 HVx_4 HVy_4 HVq_4 HNq_4 HVr_4 HNr_4 HBW_4
  have HVp_5 := HVn
  clear HVn HBW205
  go_wp2_with fail
  rw [← HGp.out, ← HW205.out]
  refine (drem HDX.out HDY.out HZzr.out HKR.out HDzr.out LX.out LY.out _).mono ?_
  rintro e w206 ⟨rfl, hb⟩
  clear qx0 qx1 tx qy0 qy1 ty
  have qa0 := (HVa_5.out.below hb HVa_5.out.lt).c0
  have qa1 := (HVa_5.out.below hb HVa_5.out.lt).c1
  have ta := (HVa_5.out.below hb HVa_5.out.lt).lt
  obtain ⟨W206, hW206⟩ : ∃ W, W = w206.alloc (.cells #[.bool mzr, .string Dzr] 30) := ⟨_, rfl⟩
  obtain ⟨go, hgo⟩ : ∃ g, g = w206.heap.size := ⟨_, rfl⟩
  have HBW206 := Lib.hid (show Below W205.heap.size W205 W206 by rw [hW206]; exact hb.alloc hb.size _)
  have HVn := Lib.hid (show DocAt W206 go mzr Dzr by rw [hW206, hgo]; exact DocAt.made _ _ _)
  have HW206 := Lib.hid hW206
  have HGo := Lib.hid hgo
  clear hb hW206 hgo
  have HVa_6 := Lib.hid (HVa_5.out.below HBW206.out HVa_5.out.lt)
  have HNa_6 := Lib.hid (HNa_5.out.below HBW206.out)
  have HVb_6 := Lib.hid (HVb_5.out.below HBW206.out HVb_5.out.lt)
  have HNb_6 := Lib.hid (HNb_5.out.below HBW206.out)
  have HVx_6 := Lib.hid (HVx_5.out.below HBW206.out HVx_5.out.lt)
  have HVy_6 := Lib.hid (HVy_5.out.below HBW206.out HVy_5.out.lt)
  have HVq_6 := Lib.hid (HVq_5.out.below HBW206.out HVq_5.out.lt)
  have HNq_6 := Lib.hid (HNq_5.out.below HBW206.out)
  have HVr_6 := Lib.hid (HVr_5.out.below HBW206.out HVr_5.out.lt)
  have HNr_6 := Lib.hid (HNr_5.out.below HBW206.out)
  have HVp_6 := Lib.hid (HVp_5.out.below HBW206.out HVp_5.out.lt)
  have HBW_6 := Lib.hid (HBW_5.out.trans (HBW206.out.mono HBW_5.out.size))
  clear HVa_5 HNa_5 HVb_5 HNb_5 HVx_5 HVy_5 HVq_5 HNq_5 HVr_5 HNr_5 HVp_5 HBW_5
  have HVo_6 := HVn
  clear HVn HBW206
  go_wp2_with fail
  rw [← HGo.out, ← HW206.out]
  refine (nsmallG (K := 15) HSM.out HNa_6.out (by omega)).mono ?_
  rintro e w207 ⟨rfl, hb⟩
  have HBw207 := Lib.hid hb
  clear hb
  have HVa_7 := Lib.hid (HVa_6.out.below HBw207.out HVa_6.out.lt)
  have HNa_7 := Lib.hid (HNa_6.out.below HBw207.out)
  have HVb_7 := Lib.hid (HVb_6.out.below HBw207.out HVb_6.out.lt)
  have HNb_7 := Lib.hid (HNb_6.out.below HBw207.out)
  have HVx_7 := Lib.hid (HVx_6.out.below HBw207.out HVx_6.out.lt)
  have HVy_7 := Lib.hid (HVy_6.out.below HBw207.out HVy_6.out.lt)
  have HVq_7 := Lib.hid (HVq_6.out.below HBw207.out HVq_6.out.lt)
  have HNq_7 := Lib.hid (HNq_6.out.below HBw207.out)
  have HVr_7 := Lib.hid (HVr_6.out.below HBw207.out HVr_6.out.lt)
  have HNr_7 := Lib.hid (HNr_6.out.below HBw207.out)
  have HVp_7 := Lib.hid (HVp_6.out.below HBw207.out HVp_6.out.lt)
  have HVo_7 := Lib.hid (HVo_6.out.below HBw207.out HVo_6.out.lt)
  have HBW_7 := Lib.hid (HBW_6.out.trans (HBw207.out.mono HBW_6.out.size))
  clear HVa_6 HNa_6 HVb_6 HNb_6 HVx_6 HVy_6 HVq_6 HNq_6 HVr_6 HNr_6 HVp_6 HVo_6 HBW_6
  clear HBw207
  clear qa0 qa1 ta
  have qx0 := HVx_7.out.c0
  have qx1 := HVx_7.out.c1
  have tx := HVx_7.out.lt
  go_wp2_with fail
  refine (dsmall HDX.out HSM.out LX.out (by omega) _).mono ?_
  rintro e w208 ⟨rfl, hb⟩
  have HBw208 := Lib.hid hb
  clear hb
  have HVa_8 := Lib.hid (HVa_7.out.below HBw208.out HVa_7.out.lt)
  have HNa_8 := Lib.hid (HNa_7.out.below HBw208.out)
  have HVb_8 := Lib.hid (HVb_7.out.below HBw208.out HVb_7.out.lt)
  have HNb_8 := Lib.hid (HNb_7.out.below HBw208.out)
  have HVx_8 := Lib.hid (HVx_7.out.below HBw208.out HVx_7.out.lt)
  have HVy_8 := Lib.hid (HVy_7.out.below HBw208.out HVy_7.out.lt)
  have HVq_8 := Lib.hid (HVq_7.out.below HBw208.out HVq_7.out.lt)
  have HNq_8 := Lib.hid (HNq_7.out.below HBw208.out)
  have HVr_8 := Lib.hid (HVr_7.out.below HBw208.out HVr_7.out.lt)
  have HNr_8 := Lib.hid (HNr_7.out.below HBw208.out)
  have HVp_8 := Lib.hid (HVp_7.out.below HBw208.out HVp_7.out.lt)
  have HVo_8 := Lib.hid (HVo_7.out.below HBw208.out HVo_7.out.lt)
  have HBW_8 := Lib.hid (HBW_7.out.trans (HBw208.out.mono HBW_7.out.size))
  clear HVa_7 HNa_7 HVb_7 HNb_7 HVx_7 HVy_7 HVq_7 HNq_7 HVr_7 HNr_7 HVp_7 HVo_7 HBW_7
  clear HBw208
  clear qx0 qx1 tx
  go_wp2_with fail
  go_big_unhide
  have HTB := Lib.hid (HT.out.below HBW_8.out)
  (try dsimp only [List.append])
  have BC := Lib.hid (show Below w208.heap.size w208 w208.drew from (Below.refl _ _).drew)
  refine wp_region_noPanic ?_
  refine wp_region_held_drew (S := fun w' => w'.cell? ⟨ga, 0, none⟩ = some (.bool b1) ∧ w'.cell? ⟨ga, 1, none⟩ = some (.slice s1 l1 c1) ∧ w'.cell? ⟨ga + 1, 0, none⟩ = some (.bool b2) ∧ w'.cell? ⟨ga + 1, 1, none⟩ = some (.slice s2 l2 c2) ∧ w'.cell? ⟨gx, 0, none⟩ = some (.bool mx) ∧ w'.cell? ⟨gx, 1, none⟩ = some (.string DX) ∧ w'.cell? ⟨gy, 0, none⟩ = some (.bool my) ∧ w'.cell? ⟨gy, 1, none⟩ = some (.string DY) ∧ w'.cell? ⟨gq, 0, none⟩ = some (.bool bv3) ∧ w'.cell? ⟨gq, 1, none⟩ = some (.slice sv3 lv3 cv3) ∧ w'.cell? ⟨gr, 0, none⟩ = some (.bool bv4) ∧ w'.cell? ⟨gr, 1, none⟩ = some (.slice sv4 lv4 cv4) ∧ w'.cell? ⟨gp, 0, none⟩ = some (.bool mzq) ∧ w'.cell? ⟨gp, 1, none⟩ = some (.string Dzq) ∧ w'.cell? ⟨go, 0, none⟩ = some (.bool mzr) ∧ w'.cell? ⟨go, 1, none⟩ = some (.string Dzr)) (by kernel_rfl) (by (try dsimp only); exact ⟨(HVa_8.out.below BC.out HVa_8.out.lt).c0, (HVa_8.out.below BC.out HVa_8.out.lt).c1, (HVb_8.out.below BC.out HVb_8.out.lt).c0, (HVb_8.out.below BC.out HVb_8.out.lt).c1, (HVx_8.out.below BC.out HVx_8.out.lt).c0, (HVx_8.out.below BC.out HVx_8.out.lt).c1, (HVy_8.out.below BC.out HVy_8.out.lt).c0, (HVy_8.out.below BC.out HVy_8.out.lt).c1, (HVq_8.out.below BC.out HVq_8.out.lt).c0, (HVq_8.out.below BC.out HVq_8.out.lt).c1, (HVr_8.out.below BC.out HVr_8.out.lt).c0, (HVr_8.out.below BC.out HVr_8.out.lt).c1, (HVp_8.out.below BC.out HVp_8.out.lt).c0, (HVp_8.out.below BC.out HVp_8.out.lt).c1, (HVo_8.out.below BC.out HVo_8.out.lt).c0, (HVo_8.out.below BC.out HVo_8.out.lt).c1⟩) (fun hHeld => ?_)
  refine' take_any 0 97 (v := _) ?hib0 ?hdb0 (by kernel_rfl) (by kernel_rfl) (by kernel_rfl) (fun _ _ _ h => h) ?hyb0 hHeld ?hrb0
  case hib0 => (simp only [List.getElem?_toArray, List.getElem?_cons_zero]; rfl)
  case hdb0 => rfl
  case hyb0 =>
    refine' Or.inl ⟨?hwb0, ?hxb0⟩
    case hwb0 => rfl
    case hxb0 => (intro w hSw; (try dsimp only at hSw); go_simp; (try with_reducible rfl))
  (try simp only [Act.put, List.setIfInBounds_toArray, List.set_cons_zero, List.set_cons_succ])
  refine' take_any 1 98 (v := _) ?hib1 ?hdb1 (by kernel_rfl) (by kernel_rfl) (by kernel_rfl) (fun _ _ _ h => h) ?hyb1 hHeld ?hrb1
  case hib1 => (simp only [List.getElem?_toArray, List.getElem?_cons_succ, List.getElem?_cons_zero]; rfl)
  case hdb1 => rfl
  case hyb1 =>
    refine' Or.inl ⟨?hwb1, ?hxb1⟩
    case hwb1 => rfl
    case hxb1 => (intro w hSw; (try dsimp only at hSw); go_simp; (try with_reducible rfl))
  (try simp only [Act.put, List.setIfInBounds_toArray, List.set_cons_zero, List.set_cons_succ])
  refine' take_any 2 99 (v := _) ?hib2 ?hdb2 (by kernel_rfl) (by kernel_rfl) (by kernel_rfl) (fun _ _ _ h => h) ?hyb2 hHeld ?hrb2
  case hib2 => (simp only [List.getElem?_toArray, List.getElem?_cons_succ, List.getElem?_cons_zero]; rfl)
  case hdb2 => rfl
  case hyb2 =>
    refine' Or.inl ⟨?hwb2, ?hxb2⟩
    case hwb2 => rfl
    case hxb2 => (intro w hSw; (try dsimp only at hSw); go_simp; (try with_reducible rfl))
  (try simp only [Act.put, List.setIfInBounds_toArray, List.set_cons_zero, List.set_cons_succ])
  refine' take_any 3 100 (v := _) ?hib3 ?hdb3 (by kernel_rfl) (by kernel_rfl) (by kernel_rfl) (fun _ _ _ h => h) ?hyb3 hHeld ?hrb3
  case hib3 => (simp only [List.getElem?_toArray, List.getElem?_cons_succ, List.getElem?_cons_zero]; rfl)
  case hdb3 => rfl
  case hyb3 =>
    refine' Or.inl ⟨?hwb3, ?hxb3⟩
    case hwb3 => rfl
    case hxb3 => (intro w hSw; (try dsimp only at hSw); go_simp; (try with_reducible rfl))
  (try simp only [Act.put, List.setIfInBounds_toArray, List.set_cons_zero, List.set_cons_succ])
  refine' take_any 4 101 (v := _) ?hib4 ?hdb4 (by kernel_rfl) (by kernel_rfl) (by kernel_rfl) (fun _ _ _ h => h) ?hyb4 hHeld ?hrb4
  case hib4 => (simp only [List.getElem?_toArray, List.getElem?_cons_succ, List.getElem?_cons_zero]; rfl)
  case hdb4 => rfl
  case hyb4 =>
    refine' Or.inl ⟨?hwb4, ?hxb4⟩
    case hwb4 => rfl
    case hxb4 => (intro w hSw; (try dsimp only at hSw); go_simp; (try with_reducible rfl))
  (try simp only [Act.put, List.setIfInBounds_toArray, List.set_cons_zero, List.set_cons_succ])
  refine' take_any 5 102 (v := _) ?hib5 ?hdb5 (by kernel_rfl) (by kernel_rfl) (by kernel_rfl) (fun _ _ _ h => h) ?hyb5 hHeld ?hrb5
  case hib5 => (simp only [List.getElem?_toArray, List.getElem?_cons_succ, List.getElem?_cons_zero]; rfl)
  case hdb5 => rfl
  case hyb5 =>
    refine' Or.inl ⟨?hwb5, ?hxb5⟩
    case hwb5 => rfl
    case hxb5 => (intro w hSw; (try dsimp only at hSw); go_simp; (try with_reducible rfl))
  (try simp only [Act.put, List.setIfInBounds_toArray, List.set_cons_zero, List.set_cons_succ])
  refine' take_any 6 103 (v := _) ?hib6 ?hdb6 (by kernel_rfl) (by kernel_rfl) (by kernel_rfl) (fun _ _ _ h => h) ?hyb6 hHeld ?hrb6
  case hib6 => (simp only [List.getElem?_toArray, List.getElem?_cons_succ, List.getElem?_cons_zero]; rfl)
  case hdb6 => rfl
  case hyb6 =>
    refine' Or.inl ⟨?hwb6, ?hxb6⟩
    case hwb6 => rfl
    case hxb6 => (intro w hSw; (try dsimp only at hSw); go_simp; (try with_reducible rfl))
  (try simp only [Act.put, List.setIfInBounds_toArray, List.set_cons_zero, List.set_cons_succ])
  refine' take_any 9 106 (v := _) ?hib9 ?hdb9 (by kernel_rfl) (by kernel_rfl) (by kernel_rfl) (fun _ _ _ h => h) ?hyb9 hHeld ?hrb9
  case hib9 => (simp only [List.getElem?_toArray, List.getElem?_cons_succ, List.getElem?_cons_zero]; rfl)
  case hdb9 => rfl
  case hyb9 =>
    refine' Or.inl ⟨?hwb9, ?hxb9⟩
    case hwb9 => rfl
    case hxb9 => (intro w hSw; (try dsimp only at hSw); go_simp; (try with_reducible rfl))
  (try simp only [Act.put, List.setIfInBounds_toArray, List.set_cons_zero, List.set_cons_succ])
  refine' take_any 10 107 (v := _) ?hib10 ?hdb10 (by kernel_rfl) (by kernel_rfl) (by kernel_rfl) (fun _ _ _ h => h) ?hyb10 hHeld ?hrb10
  case hib10 => (simp only [List.getElem?_toArray, List.getElem?_cons_succ, List.getElem?_cons_zero]; rfl)
  case hdb10 => rfl
  case hyb10 =>
    refine' Or.inl ⟨?hwb10, ?hxb10⟩
    case hwb10 => rfl
    case hxb10 => (intro w hSw; (try dsimp only at hSw); go_simp; (try with_reducible rfl))
  (try simp only [Act.put, List.setIfInBounds_toArray, List.set_cons_zero, List.set_cons_succ])
  refine' take_call 7 ?hib7 (by kernel_rfl) ?hrb7
  case hib7 => (simp only [List.getElem?_toArray, List.getElem?_cons_succ, List.getElem?_cons_zero]; rfl)
  intro K hK
  go_simp
  go_at_call 25
  refine (nadd (K := 15) (L := 15) (HNa_8.out.below BC.out) (HNb_8.out.below BC.out) (by omega) (by omega)).mono ?_
  rintro e w101 ⟨⟨b101, s101, l101, c101, rfl, hn⟩, hb⟩
  have HB1 := Lib.hid hb
  have HN1 := Lib.hid hn
  replace BC := Lib.hid (BC.out.trans (hb.mono BC.out.size))
  clear hb hn
  go_wp2_with fail
  clear hHeld
  refine hK.out _ _ (by (try dsimp only); exact ⟨(HVa_8.out.below BC.out HVa_8.out.lt).c0, (HVa_8.out.below BC.out HVa_8.out.lt).c1, (HVb_8.out.below BC.out HVb_8.out.lt).c0, (HVb_8.out.below BC.out HVb_8.out.lt).c1, (HVx_8.out.below BC.out HVx_8.out.lt).c0, (HVx_8.out.below BC.out HVx_8.out.lt).c1, (HVy_8.out.below BC.out HVy_8.out.lt).c0, (HVy_8.out.below BC.out HVy_8.out.lt).c1, (HVq_8.out.below BC.out HVq_8.out.lt).c0, (HVq_8.out.below BC.out HVq_8.out.lt).c1, (HVr_8.out.below BC.out HVr_8.out.lt).c0, (HVr_8.out.below BC.out HVr_8.out.lt).c1, (HVp_8.out.below BC.out HVp_8.out.lt).c0, (HVp_8.out.below BC.out HVp_8.out.lt).c1, (HVo_8.out.below BC.out HVo_8.out.lt).c0, (HVo_8.out.below BC.out HVo_8.out.lt).c1⟩) (fun hHeld => ?_)
  clear hK K
  (try simp only [Act.put, List.setIfInBounds_toArray, List.set_cons_zero, List.set_cons_succ])
  refine' take_call 8 ?hib8 (by kernel_rfl) ?hrb8
  case hib8 => (simp only [List.getElem?_toArray, List.getElem?_cons_succ, List.getElem?_cons_zero]; rfl)
  intro K hK
  go_simp
  have _hb := HB1.out
  clear _hb
  go_at_call 11
  refine (ntextS (K := 31) Sza (show (⟨(textZ (x + y)).toArray⟩ : ByteArray) = Sza by rw [HZza.out]; exact HSza.out) HN1.out (by omega) (HTB.out.below BC.out)).mono ?_
  rintro e w102 ⟨rfl, hb⟩
  have HB2 := Lib.hid hb
  replace BC := Lib.hid (BC.out.trans (hb.mono BC.out.size))
  clear hb
  go_wp2_with fail
  clear hHeld
  refine hK.out _ _ (by (try dsimp only); exact ⟨(HVa_8.out.below BC.out HVa_8.out.lt).c0, (HVa_8.out.below BC.out HVa_8.out.lt).c1, (HVb_8.out.below BC.out HVb_8.out.lt).c0, (HVb_8.out.below BC.out HVb_8.out.lt).c1, (HVx_8.out.below BC.out HVx_8.out.lt).c0, (HVx_8.out.below BC.out HVx_8.out.lt).c1, (HVy_8.out.below BC.out HVy_8.out.lt).c0, (HVy_8.out.below BC.out HVy_8.out.lt).c1, (HVq_8.out.below BC.out HVq_8.out.lt).c0, (HVq_8.out.below BC.out HVq_8.out.lt).c1, (HVr_8.out.below BC.out HVr_8.out.lt).c0, (HVr_8.out.below BC.out HVr_8.out.lt).c1, (HVp_8.out.below BC.out HVp_8.out.lt).c0, (HVp_8.out.below BC.out HVp_8.out.lt).c1, (HVo_8.out.below BC.out HVo_8.out.lt).c0, (HVo_8.out.below BC.out HVo_8.out.lt).c1⟩) (fun hHeld => ?_)
  clear hK K
  (try simp only [Act.put, List.setIfInBounds_toArray, List.set_cons_zero, List.set_cons_succ])
  refine' take_call 11 ?hib11 (by kernel_rfl) ?hrb11
  case hib11 => (simp only [List.getElem?_toArray, List.getElem?_cons_succ, List.getElem?_cons_zero]; rfl)
  intro K hK
  go_simp
  have _hb := HB2.out
  clear _hb
  go_at_call 26
  refine (dadd HDX.out HDY.out HZza.out HDza.out LX.out LY.out _).mono ?_
  rintro e w103 ⟨rfl, hb⟩
  have HB3 := Lib.hid hb
  replace BC := Lib.hid (BC.out.trans (hb.mono BC.out.size))
  clear hb
  go_wp2_with fail
  clear hHeld
  refine hK.out _ _ (by (try dsimp only); exact ⟨(HVa_8.out.below BC.out HVa_8.out.lt).c0, (HVa_8.out.below BC.out HVa_8.out.lt).c1, (HVb_8.out.below BC.out HVb_8.out.lt).c0, (HVb_8.out.below BC.out HVb_8.out.lt).c1, (HVx_8.out.below BC.out HVx_8.out.lt).c0, (HVx_8.out.below BC.out HVx_8.out.lt).c1, (HVy_8.out.below BC.out HVy_8.out.lt).c0, (HVy_8.out.below BC.out HVy_8.out.lt).c1, (HVq_8.out.below BC.out HVq_8.out.lt).c0, (HVq_8.out.below BC.out HVq_8.out.lt).c1, (HVr_8.out.below BC.out HVr_8.out.lt).c0, (HVr_8.out.below BC.out HVr_8.out.lt).c1, (HVp_8.out.below BC.out HVp_8.out.lt).c0, (HVp_8.out.below BC.out HVp_8.out.lt).c1, (HVo_8.out.below BC.out HVo_8.out.lt).c0, (HVo_8.out.below BC.out HVo_8.out.lt).c1⟩) (fun hHeld => ?_)
  clear hK K
  (try simp only [Act.put, List.setIfInBounds_toArray, List.set_cons_zero, List.set_cons_succ])
  refine' take_call 12 ?hib12 (by kernel_rfl) ?hrb12
  case hib12 => (simp only [List.getElem?_toArray, List.getElem?_cons_succ, List.getElem?_cons_zero]; rfl)
  intro K hK
  go_simp
  have _hb := HB3.out
  clear _hb
  go_at_call 12
  refine (dtext HDza.out HSza.out La.out (by omega) _).mono ?_
  rintro e w104 ⟨rfl, hb⟩
  have HB4 := Lib.hid hb
  replace BC := Lib.hid (BC.out.trans (hb.mono BC.out.size))
  clear hb
  go_wp2_with fail
  clear hHeld
  refine hK.out _ _ (by (try dsimp only); exact ⟨(HVa_8.out.below BC.out HVa_8.out.lt).c0, (HVa_8.out.below BC.out HVa_8.out.lt).c1, (HVb_8.out.below BC.out HVb_8.out.lt).c0, (HVb_8.out.below BC.out HVb_8.out.lt).c1, (HVx_8.out.below BC.out HVx_8.out.lt).c0, (HVx_8.out.below BC.out HVx_8.out.lt).c1, (HVy_8.out.below BC.out HVy_8.out.lt).c0, (HVy_8.out.below BC.out HVy_8.out.lt).c1, (HVq_8.out.below BC.out HVq_8.out.lt).c0, (HVq_8.out.below BC.out HVq_8.out.lt).c1, (HVr_8.out.below BC.out HVr_8.out.lt).c0, (HVr_8.out.below BC.out HVr_8.out.lt).c1, (HVp_8.out.below BC.out HVp_8.out.lt).c0, (HVp_8.out.below BC.out HVp_8.out.lt).c1, (HVo_8.out.below BC.out HVo_8.out.lt).c0, (HVo_8.out.below BC.out HVo_8.out.lt).c1⟩) (fun hHeld => ?_)
  clear hK K
  (try simp only [Act.put, List.setIfInBounds_toArray, List.set_cons_zero, List.set_cons_succ])
  refine' take_any 13 110 (v := _) ?hib13 ?hdb13 (by kernel_rfl) (by kernel_rfl) (by kernel_rfl) (fun _ _ _ h => h) ?hyb13 hHeld ?hrb13
  case hib13 => (simp only [List.getElem?_toArray, List.getElem?_cons_succ, List.getElem?_cons_zero]; rfl)
  case hdb13 => rfl
  case hyb13 =>
    refine' Or.inl ⟨?hwb13, ?hxb13⟩
    case hwb13 => rfl
    case hxb13 => (intro w hSw; (try dsimp only at hSw); go_simp; (try with_reducible rfl))
  (try simp only [Act.put, List.setIfInBounds_toArray, List.set_cons_zero, List.set_cons_succ])
  refine' take_any 14 111 (v := _) ?hib14 ?hdb14 (by kernel_rfl) (by kernel_rfl) (by kernel_rfl) (fun _ _ _ h => h) ?hyb14 hHeld ?hrb14
  case hib14 => (simp only [List.getElem?_toArray, List.getElem?_cons_succ, List.getElem?_cons_zero]; rfl)
  case hdb14 => rfl
  case hyb14 =>
    refine' Or.inl ⟨?hwb14, ?hxb14⟩
    case hwb14 => rfl
    case hxb14 => (intro w hSw; (try dsimp only at hSw); go_simp; (try with_reducible rfl))
  (try simp only [Act.put, List.setIfInBounds_toArray, List.set_cons_zero, List.set_cons_succ])
  refine' take_any 15 112 (v := _) ?hib15 ?hdb15 (by kernel_rfl) (by kernel_rfl) (by kernel_rfl) (fun _ _ _ h => h) ?hyb15 hHeld ?hrb15
  case hib15 => (simp only [List.getElem?_toArray, List.getElem?_cons_succ, List.getElem?_cons_zero]; rfl)
  case hdb15 => rfl
  case hyb15 =>
    refine' Or.inl ⟨?hwb15, ?hxb15⟩
    case hwb15 => rfl
    case hxb15 => (intro w hSw; (try dsimp only at hSw); go_simp; (try with_reducible rfl))
  (try simp only [Act.put, List.setIfInBounds_toArray, List.set_cons_zero, List.set_cons_succ])
  refine' take_any 16 113 (v := _) ?hib16 ?hdb16 (by kernel_rfl) (by kernel_rfl) (by kernel_rfl) (fun _ _ _ h => h) ?hyb16 hHeld ?hrb16
  case hib16 => (simp only [List.getElem?_toArray, List.getElem?_cons_succ, List.getElem?_cons_zero]; rfl)
  case hdb16 => rfl
  case hyb16 =>
    refine' Or.inl ⟨?hwb16, ?hxb16⟩
    case hwb16 => rfl
    case hxb16 => (intro w hSw; (try dsimp only at hSw); go_simp; (try with_reducible rfl))
  (try simp only [Act.put, List.setIfInBounds_toArray, List.set_cons_zero, List.set_cons_succ])
  refine' take_any 17 114 (v := _) ?hib17 ?hdb17 (by kernel_rfl) (by kernel_rfl) (by kernel_rfl) (fun _ _ _ h => h) ?hyb17 hHeld ?hrb17
  case hib17 => (simp only [List.getElem?_toArray, List.getElem?_cons_succ, List.getElem?_cons_zero]; rfl)
  case hdb17 => rfl
  case hyb17 =>
    refine' Or.inl ⟨?hwb17, ?hxb17⟩
    case hwb17 => rfl
    case hxb17 => (intro w hSw; (try dsimp only at hSw); go_simp; (try with_reducible rfl))
  (try simp only [Act.put, List.setIfInBounds_toArray, List.set_cons_zero, List.set_cons_succ])
  refine' take_any 20 117 (v := _) ?hib20 ?hdb20 (by kernel_rfl) (by kernel_rfl) (by kernel_rfl) (fun _ _ _ h => h) ?hyb20 hHeld ?hrb20
  case hib20 => (simp only [List.getElem?_toArray, List.getElem?_cons_succ, List.getElem?_cons_zero]; rfl)
  case hdb20 => rfl
  case hyb20 =>
    refine' Or.inl ⟨?hwb20, ?hxb20⟩
    case hwb20 => rfl
    case hxb20 => (intro w hSw; (try dsimp only at hSw); go_simp; (try with_reducible rfl))
  (try simp only [Act.put, List.setIfInBounds_toArray, List.set_cons_zero, List.set_cons_succ])
  refine' take_any 21 118 (v := _) ?hib21 ?hdb21 (by kernel_rfl) (by kernel_rfl) (by kernel_rfl) (fun _ _ _ h => h) ?hyb21 hHeld ?hrb21
  case hib21 => (simp only [List.getElem?_toArray, List.getElem?_cons_succ, List.getElem?_cons_zero]; rfl)
  case hdb21 => rfl
  case hyb21 =>
    refine' Or.inl ⟨?hwb21, ?hxb21⟩
    case hwb21 => rfl
    case hxb21 => (intro w hSw; (try dsimp only at hSw); go_simp; (try with_reducible rfl))
  (try simp only [Act.put, List.setIfInBounds_toArray, List.set_cons_zero, List.set_cons_succ])
  refine' take_call 18 ?hib18 (by kernel_rfl) ?hrb18
  case hib18 => (simp only [List.getElem?_toArray, List.getElem?_cons_succ, List.getElem?_cons_zero]; rfl)
  intro K hK
  go_simp
  have _hb := HB4.out
  clear _hb
  go_at_call 27
  refine (nsub (K := 15) (L := 15) (HNa_8.out.below BC.out) (HNb_8.out.below BC.out) (by omega) (by omega)).mono ?_
  rintro e w105 ⟨⟨b105, s105, l105, c105, rfl, hn⟩, hb⟩
  have HB5 := Lib.hid hb
  have HN5 := Lib.hid hn
  replace BC := Lib.hid (BC.out.trans (hb.mono BC.out.size))
  clear hb hn
  go_wp2_with fail
  clear hHeld
  refine hK.out _ _ (by (try dsimp only); exact ⟨(HVa_8.out.below BC.out HVa_8.out.lt).c0, (HVa_8.out.below BC.out HVa_8.out.lt).c1, (HVb_8.out.below BC.out HVb_8.out.lt).c0, (HVb_8.out.below BC.out HVb_8.out.lt).c1, (HVx_8.out.below BC.out HVx_8.out.lt).c0, (HVx_8.out.below BC.out HVx_8.out.lt).c1, (HVy_8.out.below BC.out HVy_8.out.lt).c0, (HVy_8.out.below BC.out HVy_8.out.lt).c1, (HVq_8.out.below BC.out HVq_8.out.lt).c0, (HVq_8.out.below BC.out HVq_8.out.lt).c1, (HVr_8.out.below BC.out HVr_8.out.lt).c0, (HVr_8.out.below BC.out HVr_8.out.lt).c1, (HVp_8.out.below BC.out HVp_8.out.lt).c0, (HVp_8.out.below BC.out HVp_8.out.lt).c1, (HVo_8.out.below BC.out HVo_8.out.lt).c0, (HVo_8.out.below BC.out HVo_8.out.lt).c1⟩) (fun hHeld => ?_)
  clear hK K
  (try simp only [Act.put, List.setIfInBounds_toArray, List.set_cons_zero, List.set_cons_succ])
  refine' take_call 19 ?hib19 (by kernel_rfl) ?hrb19
  case hib19 => (simp only [List.getElem?_toArray, List.getElem?_cons_succ, List.getElem?_cons_zero]; rfl)
  intro K hK
  go_simp
  have _hb := HB5.out
  clear _hb
  go_at_call 11
  refine (ntextS (K := 31) Szs (show (⟨(textZ (x - y)).toArray⟩ : ByteArray) = Szs by rw [HZzs.out]; exact HSzs.out) HN5.out (by omega) (HTB.out.below BC.out)).mono ?_
  rintro e w106 ⟨rfl, hb⟩
  have HB6 := Lib.hid hb
  replace BC := Lib.hid (BC.out.trans (hb.mono BC.out.size))
  clear hb
  go_wp2_with fail
  clear hHeld
  refine hK.out _ _ (by (try dsimp only); exact ⟨(HVa_8.out.below BC.out HVa_8.out.lt).c0, (HVa_8.out.below BC.out HVa_8.out.lt).c1, (HVb_8.out.below BC.out HVb_8.out.lt).c0, (HVb_8.out.below BC.out HVb_8.out.lt).c1, (HVx_8.out.below BC.out HVx_8.out.lt).c0, (HVx_8.out.below BC.out HVx_8.out.lt).c1, (HVy_8.out.below BC.out HVy_8.out.lt).c0, (HVy_8.out.below BC.out HVy_8.out.lt).c1, (HVq_8.out.below BC.out HVq_8.out.lt).c0, (HVq_8.out.below BC.out HVq_8.out.lt).c1, (HVr_8.out.below BC.out HVr_8.out.lt).c0, (HVr_8.out.below BC.out HVr_8.out.lt).c1, (HVp_8.out.below BC.out HVp_8.out.lt).c0, (HVp_8.out.below BC.out HVp_8.out.lt).c1, (HVo_8.out.below BC.out HVo_8.out.lt).c0, (HVo_8.out.below BC.out HVo_8.out.lt).c1⟩) (fun hHeld => ?_)
  clear hK K
  (try simp only [Act.put, List.setIfInBounds_toArray, List.set_cons_zero, List.set_cons_succ])
  refine' take_call 22 ?hib22 (by kernel_rfl) ?hrb22
  case hib22 => (simp only [List.getElem?_toArray, List.getElem?_cons_succ, List.getElem?_cons_zero]; rfl)
  intro K hK
  go_simp
  have _hb := HB6.out
  clear _hb
  go_at_call 28
  refine (dsub HDX.out HDY.out HZzs.out HDzs.out LX.out LY.out _).mono ?_
  rintro e w107 ⟨rfl, hb⟩
  have HB7 := Lib.hid hb
  replace BC := Lib.hid (BC.out.trans (hb.mono BC.out.size))
  clear hb
  go_wp2_with fail
  clear hHeld
  refine hK.out _ _ (by (try dsimp only); exact ⟨(HVa_8.out.below BC.out HVa_8.out.lt).c0, (HVa_8.out.below BC.out HVa_8.out.lt).c1, (HVb_8.out.below BC.out HVb_8.out.lt).c0, (HVb_8.out.below BC.out HVb_8.out.lt).c1, (HVx_8.out.below BC.out HVx_8.out.lt).c0, (HVx_8.out.below BC.out HVx_8.out.lt).c1, (HVy_8.out.below BC.out HVy_8.out.lt).c0, (HVy_8.out.below BC.out HVy_8.out.lt).c1, (HVq_8.out.below BC.out HVq_8.out.lt).c0, (HVq_8.out.below BC.out HVq_8.out.lt).c1, (HVr_8.out.below BC.out HVr_8.out.lt).c0, (HVr_8.out.below BC.out HVr_8.out.lt).c1, (HVp_8.out.below BC.out HVp_8.out.lt).c0, (HVp_8.out.below BC.out HVp_8.out.lt).c1, (HVo_8.out.below BC.out HVo_8.out.lt).c0, (HVo_8.out.below BC.out HVo_8.out.lt).c1⟩) (fun hHeld => ?_)
  clear hK K
  (try simp only [Act.put, List.setIfInBounds_toArray, List.set_cons_zero, List.set_cons_succ])
  refine' take_call 23 ?hib23 (by kernel_rfl) ?hrb23
  case hib23 => (simp only [List.getElem?_toArray, List.getElem?_cons_succ, List.getElem?_cons_zero]; rfl)
  intro K hK
  go_simp
  have _hb := HB7.out
  clear _hb
  go_at_call 12
  refine (dtext HDzs.out HSzs.out Ls.out (by omega) _).mono ?_
  rintro e w108 ⟨rfl, hb⟩
  have HB8 := Lib.hid hb
  replace BC := Lib.hid (BC.out.trans (hb.mono BC.out.size))
  clear hb
  go_wp2_with fail
  clear hHeld
  refine hK.out _ _ (by (try dsimp only); exact ⟨(HVa_8.out.below BC.out HVa_8.out.lt).c0, (HVa_8.out.below BC.out HVa_8.out.lt).c1, (HVb_8.out.below BC.out HVb_8.out.lt).c0, (HVb_8.out.below BC.out HVb_8.out.lt).c1, (HVx_8.out.below BC.out HVx_8.out.lt).c0, (HVx_8.out.below BC.out HVx_8.out.lt).c1, (HVy_8.out.below BC.out HVy_8.out.lt).c0, (HVy_8.out.below BC.out HVy_8.out.lt).c1, (HVq_8.out.below BC.out HVq_8.out.lt).c0, (HVq_8.out.below BC.out HVq_8.out.lt).c1, (HVr_8.out.below BC.out HVr_8.out.lt).c0, (HVr_8.out.below BC.out HVr_8.out.lt).c1, (HVp_8.out.below BC.out HVp_8.out.lt).c0, (HVp_8.out.below BC.out HVp_8.out.lt).c1, (HVo_8.out.below BC.out HVo_8.out.lt).c0, (HVo_8.out.below BC.out HVo_8.out.lt).c1⟩) (fun hHeld => ?_)
  clear hK K
  (try simp only [Act.put, List.setIfInBounds_toArray, List.set_cons_zero, List.set_cons_succ])
  refine' take_any 24 121 (v := _) ?hib24 ?hdb24 (by kernel_rfl) (by kernel_rfl) (by kernel_rfl) (fun _ _ _ h => h) ?hyb24 hHeld ?hrb24
  case hib24 => (simp only [List.getElem?_toArray, List.getElem?_cons_succ, List.getElem?_cons_zero]; rfl)
  case hdb24 => rfl
  case hyb24 =>
    refine' Or.inl ⟨?hwb24, ?hxb24⟩
    case hwb24 => rfl
    case hxb24 => (intro w hSw; (try dsimp only at hSw); go_simp; (try with_reducible rfl))
  (try simp only [Act.put, List.setIfInBounds_toArray, List.set_cons_zero, List.set_cons_succ])
  refine' take_any 25 122 (v := _) ?hib25 ?hdb25 (by kernel_rfl) (by kernel_rfl) (by kernel_rfl) (fun _ _ _ h => h) ?hyb25 hHeld ?hrb25
  case hib25 => (simp only [List.getElem?_toArray, List.getElem?_cons_succ, List.getElem?_cons_zero]; rfl)
  case hdb25 => rfl
  case hyb25 =>
    refine' Or.inl ⟨?hwb25, ?hxb25⟩
    case hwb25 => rfl
    case hxb25 => (intro w hSw; (try dsimp only at hSw); go_simp; (try with_reducible rfl))
  (try simp only [Act.put, List.setIfInBounds_toArray, List.set_cons_zero, List.set_cons_succ])
  refine' take_any 26 123 (v := _) ?hib26 ?hdb26 (by kernel_rfl) (by kernel_rfl) (by kernel_rfl) (fun _ _ _ h => h) ?hyb26 hHeld ?hrb26
  case hib26 => (simp only [List.getElem?_toArray, List.getElem?_cons_succ, List.getElem?_cons_zero]; rfl)
  case hdb26 => rfl
  case hyb26 =>
    refine' Or.inl ⟨?hwb26, ?hxb26⟩
    case hwb26 => rfl
    case hxb26 => (intro w hSw; (try dsimp only at hSw); go_simp; (try with_reducible rfl))
  (try simp only [Act.put, List.setIfInBounds_toArray, List.set_cons_zero, List.set_cons_succ])
  refine' take_any 27 124 (v := _) ?hib27 ?hdb27 (by kernel_rfl) (by kernel_rfl) (by kernel_rfl) (fun _ _ _ h => h) ?hyb27 hHeld ?hrb27
  case hib27 => (simp only [List.getElem?_toArray, List.getElem?_cons_succ, List.getElem?_cons_zero]; rfl)
  case hdb27 => rfl
  case hyb27 =>
    refine' Or.inl ⟨?hwb27, ?hxb27⟩
    case hwb27 => rfl
    case hxb27 => (intro w hSw; (try dsimp only at hSw); go_simp; (try with_reducible rfl))
  (try simp only [Act.put, List.setIfInBounds_toArray, List.set_cons_zero, List.set_cons_succ])
  refine' take_any 28 125 (v := _) ?hib28 ?hdb28 (by kernel_rfl) (by kernel_rfl) (by kernel_rfl) (fun _ _ _ h => h) ?hyb28 hHeld ?hrb28
  case hib28 => (simp only [List.getElem?_toArray, List.getElem?_cons_succ, List.getElem?_cons_zero]; rfl)
  case hdb28 => rfl
  case hyb28 =>
    refine' Or.inl ⟨?hwb28, ?hxb28⟩
    case hwb28 => rfl
    case hxb28 => (intro w hSw; (try dsimp only at hSw); go_simp; (try with_reducible rfl))
  (try simp only [Act.put, List.setIfInBounds_toArray, List.set_cons_zero, List.set_cons_succ])
  refine' take_any 31 128 (v := _) ?hib31 ?hdb31 (by kernel_rfl) (by kernel_rfl) (by kernel_rfl) (fun _ _ _ h => h) ?hyb31 hHeld ?hrb31
  case hib31 => (simp only [List.getElem?_toArray, List.getElem?_cons_succ, List.getElem?_cons_zero]; rfl)
  case hdb31 => rfl
  case hyb31 =>
    refine' Or.inl ⟨?hwb31, ?hxb31⟩
    case hwb31 => rfl
    case hxb31 => (intro w hSw; (try dsimp only at hSw); go_simp; (try with_reducible rfl))
  (try simp only [Act.put, List.setIfInBounds_toArray, List.set_cons_zero, List.set_cons_succ])
  refine' take_any 32 129 (v := _) ?hib32 ?hdb32 (by kernel_rfl) (by kernel_rfl) (by kernel_rfl) (fun _ _ _ h => h) ?hyb32 hHeld ?hrb32
  case hib32 => (simp only [List.getElem?_toArray, List.getElem?_cons_succ, List.getElem?_cons_zero]; rfl)
  case hdb32 => rfl
  case hyb32 =>
    refine' Or.inl ⟨?hwb32, ?hxb32⟩
    case hwb32 => rfl
    case hxb32 => (intro w hSw; (try dsimp only at hSw); go_simp; (try with_reducible rfl))
  (try simp only [Act.put, List.setIfInBounds_toArray, List.set_cons_zero, List.set_cons_succ])
  refine' take_call 29 ?hib29 (by kernel_rfl) ?hrb29
  case hib29 => (simp only [List.getElem?_toArray, List.getElem?_cons_succ, List.getElem?_cons_zero]; rfl)
  intro K hK
  go_simp
  have _hb := HB8.out
  clear _hb
  go_at_call 29
  refine (nmul (K := 15) (L := 15) (HNa_8.out.below BC.out) (HNb_8.out.below BC.out) (by omega) (by omega)).mono ?_
  rintro e w109 ⟨⟨b109, s109, l109, c109, rfl, hn⟩, hb⟩
  have HB9 := Lib.hid hb
  have HN9 := Lib.hid hn
  replace BC := Lib.hid (BC.out.trans (hb.mono BC.out.size))
  clear hb hn
  go_wp2_with fail
  clear hHeld
  refine hK.out _ _ (by (try dsimp only); exact ⟨(HVa_8.out.below BC.out HVa_8.out.lt).c0, (HVa_8.out.below BC.out HVa_8.out.lt).c1, (HVb_8.out.below BC.out HVb_8.out.lt).c0, (HVb_8.out.below BC.out HVb_8.out.lt).c1, (HVx_8.out.below BC.out HVx_8.out.lt).c0, (HVx_8.out.below BC.out HVx_8.out.lt).c1, (HVy_8.out.below BC.out HVy_8.out.lt).c0, (HVy_8.out.below BC.out HVy_8.out.lt).c1, (HVq_8.out.below BC.out HVq_8.out.lt).c0, (HVq_8.out.below BC.out HVq_8.out.lt).c1, (HVr_8.out.below BC.out HVr_8.out.lt).c0, (HVr_8.out.below BC.out HVr_8.out.lt).c1, (HVp_8.out.below BC.out HVp_8.out.lt).c0, (HVp_8.out.below BC.out HVp_8.out.lt).c1, (HVo_8.out.below BC.out HVo_8.out.lt).c0, (HVo_8.out.below BC.out HVo_8.out.lt).c1⟩) (fun hHeld => ?_)
  clear hK K
  (try simp only [Act.put, List.setIfInBounds_toArray, List.set_cons_zero, List.set_cons_succ])
  refine' take_call 30 ?hib30 (by kernel_rfl) ?hrb30
  case hib30 => (simp only [List.getElem?_toArray, List.getElem?_cons_succ, List.getElem?_cons_zero]; rfl)
  intro K hK
  go_simp
  have _hb := HB9.out
  clear _hb
  go_at_call 11
  refine (ntextS (K := 30) Szm (show (⟨(textZ (x * y)).toArray⟩ : ByteArray) = Szm by rw [HZzm.out]; exact HSzm.out) HN9.out (by omega) (HTB.out.below BC.out)).mono ?_
  rintro e w110 ⟨rfl, hb⟩
  have HB10 := Lib.hid hb
  replace BC := Lib.hid (BC.out.trans (hb.mono BC.out.size))
  clear hb
  go_wp2_with fail
  clear hHeld
  refine hK.out _ _ (by (try dsimp only); exact ⟨(HVa_8.out.below BC.out HVa_8.out.lt).c0, (HVa_8.out.below BC.out HVa_8.out.lt).c1, (HVb_8.out.below BC.out HVb_8.out.lt).c0, (HVb_8.out.below BC.out HVb_8.out.lt).c1, (HVx_8.out.below BC.out HVx_8.out.lt).c0, (HVx_8.out.below BC.out HVx_8.out.lt).c1, (HVy_8.out.below BC.out HVy_8.out.lt).c0, (HVy_8.out.below BC.out HVy_8.out.lt).c1, (HVq_8.out.below BC.out HVq_8.out.lt).c0, (HVq_8.out.below BC.out HVq_8.out.lt).c1, (HVr_8.out.below BC.out HVr_8.out.lt).c0, (HVr_8.out.below BC.out HVr_8.out.lt).c1, (HVp_8.out.below BC.out HVp_8.out.lt).c0, (HVp_8.out.below BC.out HVp_8.out.lt).c1, (HVo_8.out.below BC.out HVo_8.out.lt).c0, (HVo_8.out.below BC.out HVo_8.out.lt).c1⟩) (fun hHeld => ?_)
  clear hK K
  (try simp only [Act.put, List.setIfInBounds_toArray, List.set_cons_zero, List.set_cons_succ])
  refine' take_call 33 ?hib33 (by kernel_rfl) ?hrb33
  case hib33 => (simp only [List.getElem?_toArray, List.getElem?_cons_succ, List.getElem?_cons_zero]; rfl)
  intro K hK
  go_simp
  have _hb := HB10.out
  clear _hb
  go_at_call 30
  refine (dmul HDX.out HDY.out HZzm.out HDzm.out LX.out LY.out _).mono ?_
  rintro e w111 ⟨rfl, hb⟩
  have HB11 := Lib.hid hb
  replace BC := Lib.hid (BC.out.trans (hb.mono BC.out.size))
  clear hb
  go_wp2_with fail
  clear hHeld
  refine hK.out _ _ (by (try dsimp only); exact ⟨(HVa_8.out.below BC.out HVa_8.out.lt).c0, (HVa_8.out.below BC.out HVa_8.out.lt).c1, (HVb_8.out.below BC.out HVb_8.out.lt).c0, (HVb_8.out.below BC.out HVb_8.out.lt).c1, (HVx_8.out.below BC.out HVx_8.out.lt).c0, (HVx_8.out.below BC.out HVx_8.out.lt).c1, (HVy_8.out.below BC.out HVy_8.out.lt).c0, (HVy_8.out.below BC.out HVy_8.out.lt).c1, (HVq_8.out.below BC.out HVq_8.out.lt).c0, (HVq_8.out.below BC.out HVq_8.out.lt).c1, (HVr_8.out.below BC.out HVr_8.out.lt).c0, (HVr_8.out.below BC.out HVr_8.out.lt).c1, (HVp_8.out.below BC.out HVp_8.out.lt).c0, (HVp_8.out.below BC.out HVp_8.out.lt).c1, (HVo_8.out.below BC.out HVo_8.out.lt).c0, (HVo_8.out.below BC.out HVo_8.out.lt).c1⟩) (fun hHeld => ?_)
  clear hK K
  (try simp only [Act.put, List.setIfInBounds_toArray, List.set_cons_zero, List.set_cons_succ])
  refine' take_call 34 ?hib34 (by kernel_rfl) ?hrb34
  case hib34 => (simp only [List.getElem?_toArray, List.getElem?_cons_succ, List.getElem?_cons_zero]; rfl)
  intro K hK
  go_simp
  have _hb := HB11.out
  clear _hb
  go_at_call 12
  refine (dtext HDzm.out HSzm.out Lm.out (by omega) _).mono ?_
  rintro e w112 ⟨rfl, hb⟩
  have HB12 := Lib.hid hb
  replace BC := Lib.hid (BC.out.trans (hb.mono BC.out.size))
  clear hb
  go_wp2_with fail
  clear hHeld
  refine hK.out _ _ (by (try dsimp only); exact ⟨(HVa_8.out.below BC.out HVa_8.out.lt).c0, (HVa_8.out.below BC.out HVa_8.out.lt).c1, (HVb_8.out.below BC.out HVb_8.out.lt).c0, (HVb_8.out.below BC.out HVb_8.out.lt).c1, (HVx_8.out.below BC.out HVx_8.out.lt).c0, (HVx_8.out.below BC.out HVx_8.out.lt).c1, (HVy_8.out.below BC.out HVy_8.out.lt).c0, (HVy_8.out.below BC.out HVy_8.out.lt).c1, (HVq_8.out.below BC.out HVq_8.out.lt).c0, (HVq_8.out.below BC.out HVq_8.out.lt).c1, (HVr_8.out.below BC.out HVr_8.out.lt).c0, (HVr_8.out.below BC.out HVr_8.out.lt).c1, (HVp_8.out.below BC.out HVp_8.out.lt).c0, (HVp_8.out.below BC.out HVp_8.out.lt).c1, (HVo_8.out.below BC.out HVo_8.out.lt).c0, (HVo_8.out.below BC.out HVo_8.out.lt).c1⟩) (fun hHeld => ?_)
  clear hK K
  (try simp only [Act.put, List.setIfInBounds_toArray, List.set_cons_zero, List.set_cons_succ])
  refine' take_any 35 132 (v := _) ?hib35 ?hdb35 (by kernel_rfl) (by kernel_rfl) (by kernel_rfl) (fun _ _ _ h => h) ?hyb35 hHeld ?hrb35
  case hib35 => (simp only [List.getElem?_toArray, List.getElem?_cons_succ, List.getElem?_cons_zero]; rfl)
  case hdb35 => rfl
  case hyb35 =>
    refine' Or.inl ⟨?hwb35, ?hxb35⟩
    case hwb35 => rfl
    case hxb35 => (intro w hSw; (try dsimp only at hSw); go_simp; (try with_reducible rfl))
  (try simp only [Act.put, List.setIfInBounds_toArray, List.set_cons_zero, List.set_cons_succ])
  refine' take_any 36 133 (v := _) ?hib36 ?hdb36 (by kernel_rfl) (by kernel_rfl) (by kernel_rfl) (fun _ _ _ h => h) ?hyb36 hHeld ?hrb36
  case hib36 => (simp only [List.getElem?_toArray, List.getElem?_cons_succ, List.getElem?_cons_zero]; rfl)
  case hdb36 => rfl
  case hyb36 =>
    refine' Or.inl ⟨?hwb36, ?hxb36⟩
    case hwb36 => rfl
    case hxb36 => (intro w hSw; (try dsimp only at hSw); go_simp; (try with_reducible rfl))
  (try simp only [Act.put, List.setIfInBounds_toArray, List.set_cons_zero, List.set_cons_succ])
  refine' take_any 37 134 (v := _) ?hib37 ?hdb37 (by kernel_rfl) (by kernel_rfl) (by kernel_rfl) (fun _ _ _ h => h) ?hyb37 hHeld ?hrb37
  case hib37 => (simp only [List.getElem?_toArray, List.getElem?_cons_succ, List.getElem?_cons_zero]; rfl)
  case hdb37 => rfl
  case hyb37 =>
    refine' Or.inl ⟨?hwb37, ?hxb37⟩
    case hwb37 => rfl
    case hxb37 => (intro w hSw; (try dsimp only at hSw); go_simp; (try with_reducible rfl))
  (try simp only [Act.put, List.setIfInBounds_toArray, List.set_cons_zero, List.set_cons_succ])
  refine' take_any 38 135 (v := _) ?hib38 ?hdb38 (by kernel_rfl) (by kernel_rfl) (by kernel_rfl) (fun _ _ _ h => h) ?hyb38 hHeld ?hrb38
  case hib38 => (simp only [List.getElem?_toArray, List.getElem?_cons_succ, List.getElem?_cons_zero]; rfl)
  case hdb38 => rfl
  case hyb38 =>
    refine' Or.inl ⟨?hwb38, ?hxb38⟩
    case hwb38 => rfl
    case hxb38 => (intro w hSw; (try dsimp only at hSw); go_simp; (try with_reducible rfl))
  (try simp only [Act.put, List.setIfInBounds_toArray, List.set_cons_zero, List.set_cons_succ])
  refine' take_any 40 137 (v := _) ?hib40 ?hdb40 (by kernel_rfl) (by kernel_rfl) (by kernel_rfl) (fun _ _ _ h => h) ?hyb40 hHeld ?hrb40
  case hib40 => (simp only [List.getElem?_toArray, List.getElem?_cons_succ, List.getElem?_cons_zero]; rfl)
  case hdb40 => rfl
  case hyb40 =>
    refine' Or.inl ⟨?hwb40, ?hxb40⟩
    case hwb40 => rfl
    case hxb40 => (intro w hSw; (try dsimp only at hSw); go_simp; (try with_reducible rfl))
  (try simp only [Act.put, List.setIfInBounds_toArray, List.set_cons_zero, List.set_cons_succ])
  refine' take_call 39 ?hib39 (by kernel_rfl) ?hrb39
  case hib39 => (simp only [List.getElem?_toArray, List.getElem?_cons_succ, List.getElem?_cons_zero]; rfl)
  intro K hK
  go_simp
  have _hb := HB12.out
  clear _hb
  go_at_call 11
  refine (ntextS (K := 15) Szq HSzq.out (HNq_8.out.below BC.out) (by omega) (HTB.out.below BC.out)).mono ?_
  rintro e w113 ⟨rfl, hb⟩
  have HB13 := Lib.hid hb
  replace BC := Lib.hid (BC.out.trans (hb.mono BC.out.size))
  clear hb
  go_wp2_with fail
  clear hHeld
  refine hK.out _ _ (by (try dsimp only); exact ⟨(HVa_8.out.below BC.out HVa_8.out.lt).c0, (HVa_8.out.below BC.out HVa_8.out.lt).c1, (HVb_8.out.below BC.out HVb_8.out.lt).c0, (HVb_8.out.below BC.out HVb_8.out.lt).c1, (HVx_8.out.below BC.out HVx_8.out.lt).c0, (HVx_8.out.below BC.out HVx_8.out.lt).c1, (HVy_8.out.below BC.out HVy_8.out.lt).c0, (HVy_8.out.below BC.out HVy_8.out.lt).c1, (HVq_8.out.below BC.out HVq_8.out.lt).c0, (HVq_8.out.below BC.out HVq_8.out.lt).c1, (HVr_8.out.below BC.out HVr_8.out.lt).c0, (HVr_8.out.below BC.out HVr_8.out.lt).c1, (HVp_8.out.below BC.out HVp_8.out.lt).c0, (HVp_8.out.below BC.out HVp_8.out.lt).c1, (HVo_8.out.below BC.out HVo_8.out.lt).c0, (HVo_8.out.below BC.out HVo_8.out.lt).c1⟩) (fun hHeld => ?_)
  clear hK K
  (try simp only [Act.put, List.setIfInBounds_toArray, List.set_cons_zero, List.set_cons_succ])
  refine' take_call 41 ?hib41 (by kernel_rfl) ?hrb41
  case hib41 => (simp only [List.getElem?_toArray, List.getElem?_cons_succ, List.getElem?_cons_zero]; rfl)
  intro K hK
  go_simp
  have _hb := HB13.out
  clear _hb
  go_at_call 12
  refine (dtext HDzq.out HSzq.out Lq.out (by omega) _).mono ?_
  rintro e w114 ⟨rfl, hb⟩
  have HB14 := Lib.hid hb
  replace BC := Lib.hid (BC.out.trans (hb.mono BC.out.size))
  clear hb
  go_wp2_with fail
  clear hHeld
  refine hK.out _ _ (by (try dsimp only); exact ⟨(HVa_8.out.below BC.out HVa_8.out.lt).c0, (HVa_8.out.below BC.out HVa_8.out.lt).c1, (HVb_8.out.below BC.out HVb_8.out.lt).c0, (HVb_8.out.below BC.out HVb_8.out.lt).c1, (HVx_8.out.below BC.out HVx_8.out.lt).c0, (HVx_8.out.below BC.out HVx_8.out.lt).c1, (HVy_8.out.below BC.out HVy_8.out.lt).c0, (HVy_8.out.below BC.out HVy_8.out.lt).c1, (HVq_8.out.below BC.out HVq_8.out.lt).c0, (HVq_8.out.below BC.out HVq_8.out.lt).c1, (HVr_8.out.below BC.out HVr_8.out.lt).c0, (HVr_8.out.below BC.out HVr_8.out.lt).c1, (HVp_8.out.below BC.out HVp_8.out.lt).c0, (HVp_8.out.below BC.out HVp_8.out.lt).c1, (HVo_8.out.below BC.out HVo_8.out.lt).c0, (HVo_8.out.below BC.out HVo_8.out.lt).c1⟩) (fun hHeld => ?_)
  clear hK K
  (try simp only [Act.put, List.setIfInBounds_toArray, List.set_cons_zero, List.set_cons_succ])
  refine' take_any 42 139 (v := _) ?hib42 ?hdb42 (by kernel_rfl) (by kernel_rfl) (by kernel_rfl) (fun _ _ _ h => h) ?hyb42 hHeld ?hrb42
  case hib42 => (simp only [List.getElem?_toArray, List.getElem?_cons_succ, List.getElem?_cons_zero]; rfl)
  case hdb42 => rfl
  case hyb42 =>
    refine' Or.inl ⟨?hwb42, ?hxb42⟩
    case hwb42 => rfl
    case hxb42 => (intro w hSw; (try dsimp only at hSw); go_simp; (try with_reducible rfl))
  (try simp only [Act.put, List.setIfInBounds_toArray, List.set_cons_zero, List.set_cons_succ])
  refine' take_any 43 140 (v := _) ?hib43 ?hdb43 (by kernel_rfl) (by kernel_rfl) (by kernel_rfl) (fun _ _ _ h => h) ?hyb43 hHeld ?hrb43
  case hib43 => (simp only [List.getElem?_toArray, List.getElem?_cons_succ, List.getElem?_cons_zero]; rfl)
  case hdb43 => rfl
  case hyb43 =>
    refine' Or.inl ⟨?hwb43, ?hxb43⟩
    case hwb43 => rfl
    case hxb43 => (intro w hSw; (try dsimp only at hSw); go_simp; (try with_reducible rfl))
  (try simp only [Act.put, List.setIfInBounds_toArray, List.set_cons_zero, List.set_cons_succ])
  refine' take_any 44 141 (v := _) ?hib44 ?hdb44 (by kernel_rfl) (by kernel_rfl) (by kernel_rfl) (fun _ _ _ h => h) ?hyb44 hHeld ?hrb44
  case hib44 => (simp only [List.getElem?_toArray, List.getElem?_cons_succ, List.getElem?_cons_zero]; rfl)
  case hdb44 => rfl
  case hyb44 =>
    refine' Or.inl ⟨?hwb44, ?hxb44⟩
    case hwb44 => rfl
    case hxb44 => (intro w hSw; (try dsimp only at hSw); go_simp; (try with_reducible rfl))
  (try simp only [Act.put, List.setIfInBounds_toArray, List.set_cons_zero, List.set_cons_succ])
  refine' take_any 45 142 (v := _) ?hib45 ?hdb45 (by kernel_rfl) (by kernel_rfl) (by kernel_rfl) (fun _ _ _ h => h) ?hyb45 hHeld ?hrb45
  case hib45 => (simp only [List.getElem?_toArray, List.getElem?_cons_succ, List.getElem?_cons_zero]; rfl)
  case hdb45 => rfl
  case hyb45 =>
    refine' Or.inl ⟨?hwb45, ?hxb45⟩
    case hwb45 => rfl
    case hxb45 => (intro w hSw; (try dsimp only at hSw); go_simp; (try with_reducible rfl))
  (try simp only [Act.put, List.setIfInBounds_toArray, List.set_cons_zero, List.set_cons_succ])
  refine' take_any 47 144 (v := _) ?hib47 ?hdb47 (by kernel_rfl) (by kernel_rfl) (by kernel_rfl) (fun _ _ _ h => h) ?hyb47 hHeld ?hrb47
  case hib47 => (simp only [List.getElem?_toArray, List.getElem?_cons_succ, List.getElem?_cons_zero]; rfl)
  case hdb47 => rfl
  case hyb47 =>
    refine' Or.inl ⟨?hwb47, ?hxb47⟩
    case hwb47 => rfl
    case hxb47 => (intro w hSw; (try dsimp only at hSw); go_simp; (try with_reducible rfl))
  (try simp only [Act.put, List.setIfInBounds_toArray, List.set_cons_zero, List.set_cons_succ])
  refine' take_call 46 ?hib46 (by kernel_rfl) ?hrb46
  case hib46 => (simp only [List.getElem?_toArray, List.getElem?_cons_succ, List.getElem?_cons_zero]; rfl)
  intro K hK
  go_simp
  have _hb := HB14.out
  clear _hb
  go_at_call 11
  refine (ntextS (K := 15) Szr HSzr.out (HNr_8.out.below BC.out) (by omega) (HTB.out.below BC.out)).mono ?_
  rintro e w115 ⟨rfl, hb⟩
  have HB15 := Lib.hid hb
  replace BC := Lib.hid (BC.out.trans (hb.mono BC.out.size))
  clear hb
  go_wp2_with fail
  clear hHeld
  refine hK.out _ _ (by (try dsimp only); exact ⟨(HVa_8.out.below BC.out HVa_8.out.lt).c0, (HVa_8.out.below BC.out HVa_8.out.lt).c1, (HVb_8.out.below BC.out HVb_8.out.lt).c0, (HVb_8.out.below BC.out HVb_8.out.lt).c1, (HVx_8.out.below BC.out HVx_8.out.lt).c0, (HVx_8.out.below BC.out HVx_8.out.lt).c1, (HVy_8.out.below BC.out HVy_8.out.lt).c0, (HVy_8.out.below BC.out HVy_8.out.lt).c1, (HVq_8.out.below BC.out HVq_8.out.lt).c0, (HVq_8.out.below BC.out HVq_8.out.lt).c1, (HVr_8.out.below BC.out HVr_8.out.lt).c0, (HVr_8.out.below BC.out HVr_8.out.lt).c1, (HVp_8.out.below BC.out HVp_8.out.lt).c0, (HVp_8.out.below BC.out HVp_8.out.lt).c1, (HVo_8.out.below BC.out HVo_8.out.lt).c0, (HVo_8.out.below BC.out HVo_8.out.lt).c1⟩) (fun hHeld => ?_)
  clear hK K
  (try simp only [Act.put, List.setIfInBounds_toArray, List.set_cons_zero, List.set_cons_succ])
  refine' take_call 48 ?hib48 (by kernel_rfl) ?hrb48
  case hib48 => (simp only [List.getElem?_toArray, List.getElem?_cons_succ, List.getElem?_cons_zero]; rfl)
  intro K hK
  go_simp
  have _hb := HB15.out
  clear _hb
  go_at_call 12
  refine (dtext HDzr.out HSzr.out Lr.out (by omega) _).mono ?_
  rintro e w116 ⟨rfl, hb⟩
  have HB16 := Lib.hid hb
  replace BC := Lib.hid (BC.out.trans (hb.mono BC.out.size))
  clear hb
  go_wp2_with fail
  clear hHeld
  refine hK.out _ _ (by (try dsimp only); exact ⟨(HVa_8.out.below BC.out HVa_8.out.lt).c0, (HVa_8.out.below BC.out HVa_8.out.lt).c1, (HVb_8.out.below BC.out HVb_8.out.lt).c0, (HVb_8.out.below BC.out HVb_8.out.lt).c1, (HVx_8.out.below BC.out HVx_8.out.lt).c0, (HVx_8.out.below BC.out HVx_8.out.lt).c1, (HVy_8.out.below BC.out HVy_8.out.lt).c0, (HVy_8.out.below BC.out HVy_8.out.lt).c1, (HVq_8.out.below BC.out HVq_8.out.lt).c0, (HVq_8.out.below BC.out HVq_8.out.lt).c1, (HVr_8.out.below BC.out HVr_8.out.lt).c0, (HVr_8.out.below BC.out HVr_8.out.lt).c1, (HVp_8.out.below BC.out HVp_8.out.lt).c0, (HVp_8.out.below BC.out HVp_8.out.lt).c1, (HVo_8.out.below BC.out HVo_8.out.lt).c0, (HVo_8.out.below BC.out HVo_8.out.lt).c1⟩) (fun hHeld => ?_)
  clear hK K
  (try simp only [Act.put, List.setIfInBounds_toArray, List.set_cons_zero, List.set_cons_succ])
  refine' take_any 49 146 (v := _) ?hib49 ?hdb49 (by kernel_rfl) (by kernel_rfl) (by kernel_rfl) (fun _ _ _ h => h) ?hyb49 hHeld ?hrb49
  case hib49 => (simp only [List.getElem?_toArray, List.getElem?_cons_succ, List.getElem?_cons_zero]; rfl)
  case hdb49 => rfl
  case hyb49 =>
    refine' Or.inl ⟨?hwb49, ?hxb49⟩
    case hwb49 => rfl
    case hxb49 => (intro w hSw; (try dsimp only at hSw); go_simp; (try with_reducible rfl))
  (try simp only [Act.put, List.setIfInBounds_toArray, List.set_cons_zero, List.set_cons_succ])
  refine' take_any 50 147 (v := _) ?hib50 ?hdb50 (by kernel_rfl) (by kernel_rfl) (by kernel_rfl) (fun _ _ _ h => h) ?hyb50 hHeld ?hrb50
  case hib50 => (simp only [List.getElem?_toArray, List.getElem?_cons_succ, List.getElem?_cons_zero]; rfl)
  case hdb50 => rfl
  case hyb50 =>
    refine' Or.inl ⟨?hwb50, ?hxb50⟩
    case hwb50 => rfl
    case hxb50 => (intro w hSw; (try dsimp only at hSw); go_simp; (try with_reducible rfl))
  (try simp only [Act.put, List.setIfInBounds_toArray, List.set_cons_zero, List.set_cons_succ])
  refine' take_any 51 148 (v := _) ?hib51 ?hdb51 (by kernel_rfl) (by kernel_rfl) (by kernel_rfl) (fun _ _ _ h => h) ?hyb51 hHeld ?hrb51
  case hib51 => (simp only [List.getElem?_toArray, List.getElem?_cons_succ, List.getElem?_cons_zero]; rfl)
  case hdb51 => rfl
  case hyb51 =>
    refine' Or.inl ⟨?hwb51, ?hxb51⟩
    case hwb51 => rfl
    case hxb51 => (intro w hSw; (try dsimp only at hSw); go_simp; (try with_reducible rfl))
  (try simp only [Act.put, List.setIfInBounds_toArray, List.set_cons_zero, List.set_cons_succ])
  refine' take_any 52 149 (v := _) ?hib52 ?hdb52 (by kernel_rfl) (by kernel_rfl) (by kernel_rfl) (fun _ _ _ h => h) ?hyb52 hHeld ?hrb52
  case hib52 => (simp only [List.getElem?_toArray, List.getElem?_cons_succ, List.getElem?_cons_zero]; rfl)
  case hdb52 => rfl
  case hyb52 =>
    refine' Or.inl ⟨?hwb52, ?hxb52⟩
    case hwb52 => rfl
    case hxb52 => (intro w hSw; (try dsimp only at hSw); go_simp; (try with_reducible rfl))
  (try simp only [Act.put, List.setIfInBounds_toArray, List.set_cons_zero, List.set_cons_succ])
  refine' take_any 53 150 (v := _) ?hib53 ?hdb53 (by kernel_rfl) (by kernel_rfl) (by kernel_rfl) (fun _ _ _ h => h) ?hyb53 hHeld ?hrb53
  case hib53 => (simp only [List.getElem?_toArray, List.getElem?_cons_succ, List.getElem?_cons_zero]; rfl)
  case hdb53 => rfl
  case hyb53 =>
    refine' Or.inl ⟨?hwb53, ?hxb53⟩
    case hwb53 => rfl
    case hxb53 => (intro w hSw; (try dsimp only at hSw); go_simp; (try with_reducible rfl))
  (try simp only [Act.put, List.setIfInBounds_toArray, List.set_cons_zero, List.set_cons_succ])
  refine' take_any 54 151 (v := _) ?hib54 ?hdb54 (by kernel_rfl) (by kernel_rfl) (by kernel_rfl) (fun _ _ _ h => h) ?hyb54 hHeld ?hrb54
  case hib54 => (simp only [List.getElem?_toArray, List.getElem?_cons_succ, List.getElem?_cons_zero]; rfl)
  case hdb54 => rfl
  case hyb54 =>
    refine' Or.inl ⟨?hwb54, ?hxb54⟩
    case hwb54 => rfl
    case hxb54 => (intro w hSw; (try dsimp only at hSw); go_simp; (try with_reducible rfl))
  (try simp only [Act.put, List.setIfInBounds_toArray, List.set_cons_zero, List.set_cons_succ])
  refine' take_any 55 152 (v := _) ?hib55 ?hdb55 (by kernel_rfl) (by kernel_rfl) (by kernel_rfl) (fun _ _ _ h => h) ?hyb55 hHeld ?hrb55
  case hib55 => (simp only [List.getElem?_toArray, List.getElem?_cons_succ, List.getElem?_cons_zero]; rfl)
  case hdb55 => rfl
  case hyb55 =>
    refine' Or.inl ⟨?hwb55, ?hxb55⟩
    case hwb55 => rfl
    case hxb55 => (intro w hSw; (try dsimp only at hSw); go_simp; (try with_reducible rfl))
  (try simp only [Act.put, List.setIfInBounds_toArray, List.set_cons_zero, List.set_cons_succ])
  refine' take_any 56 153 (v := _) ?hib56 ?hdb56 (by kernel_rfl) (by kernel_rfl) (by kernel_rfl) (fun _ _ _ h => h) ?hyb56 hHeld ?hrb56
  case hib56 => (simp only [List.getElem?_toArray, List.getElem?_cons_succ, List.getElem?_cons_zero]; rfl)
  case hdb56 => rfl
  case hyb56 =>
    refine' Or.inl ⟨?hwb56, ?hxb56⟩
    case hwb56 => rfl
    case hxb56 => (intro w hSw; (try dsimp only at hSw); go_simp; (try with_reducible rfl))
  (try simp only [Act.put, List.setIfInBounds_toArray, List.set_cons_zero, List.set_cons_succ])
  refine' take_any 57 154 (v := _) ?hib57 ?hdb57 (by kernel_rfl) (by kernel_rfl) (by kernel_rfl) (fun _ _ _ h => h) ?hyb57 hHeld ?hrb57
  case hib57 => (simp only [List.getElem?_toArray, List.getElem?_cons_succ, List.getElem?_cons_zero]; rfl)
  case hdb57 => rfl
  case hyb57 =>
    refine' Or.inl ⟨?hwb57, ?hxb57⟩
    case hwb57 => rfl
    case hxb57 => (intro w hSw; (try dsimp only at hSw); go_simp; (try with_reducible rfl))
  (try simp only [Act.put, List.setIfInBounds_toArray, List.set_cons_zero, List.set_cons_succ])
  refine' take_any 58 155 (v := _) ?hib58 ?hdb58 (by kernel_rfl) (by kernel_rfl) (by kernel_rfl) (fun _ _ _ h => h) ?hyb58 hHeld ?hrb58
  case hib58 => (simp only [List.getElem?_toArray, List.getElem?_cons_succ, List.getElem?_cons_zero]; rfl)
  case hdb58 => rfl
  case hyb58 =>
    refine' Or.inl ⟨?hwb58, ?hxb58⟩
    case hwb58 => rfl
    case hxb58 => (intro w hSw; (try dsimp only at hSw); go_simp; (try with_reducible rfl))
  (try simp only [Act.put, List.setIfInBounds_toArray, List.set_cons_zero, List.set_cons_succ])
  refine' take_any 59 156 (v := _) ?hib59 ?hdb59 (by kernel_rfl) (by kernel_rfl) (by kernel_rfl) (fun _ _ _ h => h) ?hyb59 hHeld ?hrb59
  case hib59 => (simp only [List.getElem?_toArray, List.getElem?_cons_succ, List.getElem?_cons_zero]; rfl)
  case hdb59 => rfl
  case hyb59 =>
    refine' Or.inl ⟨?hwb59, ?hxb59⟩
    case hwb59 => rfl
    case hxb59 => (intro w hSw; (try dsimp only at hSw); go_simp; (try with_reducible rfl))
  (try simp only [Act.put, List.setIfInBounds_toArray, List.set_cons_zero, List.set_cons_succ])
  refine' take_any 60 157 (v := _) ?hib60 ?hdb60 (by kernel_rfl) (by kernel_rfl) (by kernel_rfl) (fun _ _ _ h => h) ?hyb60 hHeld ?hrb60
  case hib60 => (simp only [List.getElem?_toArray, List.getElem?_cons_succ, List.getElem?_cons_zero]; rfl)
  case hdb60 => rfl
  case hyb60 =>
    refine' Or.inl ⟨?hwb60, ?hxb60⟩
    case hwb60 => rfl
    case hxb60 => (intro w hSw; (try dsimp only at hSw); go_simp; (try with_reducible rfl))
  (try simp only [Act.put, List.setIfInBounds_toArray, List.set_cons_zero, List.set_cons_succ])
  refine' take_any 61 158 (v := _) ?hib61 ?hdb61 (by kernel_rfl) (by kernel_rfl) (by kernel_rfl) (fun _ _ _ h => h) ?hyb61 hHeld ?hrb61
  case hib61 => (simp only [List.getElem?_toArray, List.getElem?_cons_succ, List.getElem?_cons_zero]; rfl)
  case hdb61 => rfl
  case hyb61 =>
    refine' Or.inl ⟨?hwb61, ?hxb61⟩
    case hwb61 => rfl
    case hxb61 => (intro w hSw; (try dsimp only at hSw); go_simp; (try with_reducible rfl))
  (try simp only [Act.put, List.setIfInBounds_toArray, List.set_cons_zero, List.set_cons_succ])
  refine' take_any 62 159 (v := _) ?hib62 ?hdb62 (by kernel_rfl) (by kernel_rfl) (by kernel_rfl) (fun _ _ _ h => h) ?hyb62 hHeld ?hrb62
  case hib62 => (simp only [List.getElem?_toArray, List.getElem?_cons_succ, List.getElem?_cons_zero]; rfl)
  case hdb62 => rfl
  case hyb62 =>
    refine' Or.inl ⟨?hwb62, ?hxb62⟩
    case hwb62 => rfl
    case hxb62 => (intro w hSw; (try dsimp only at hSw); go_simp; (try with_reducible rfl))
  (try simp only [Act.put, List.setIfInBounds_toArray, List.set_cons_zero, List.set_cons_succ])
  refine' take_any 63 160 (v := _) ?hib63 ?hdb63 (by kernel_rfl) (by kernel_rfl) (by kernel_rfl) (fun _ _ _ h => h) ?hyb63 hHeld ?hrb63
  case hib63 => (simp only [List.getElem?_toArray, List.getElem?_cons_succ, List.getElem?_cons_zero]; rfl)
  case hdb63 => rfl
  case hyb63 =>
    refine' Or.inl ⟨?hwb63, ?hxb63⟩
    case hwb63 => rfl
    case hxb63 => (intro w hSw; (try dsimp only at hSw); go_simp; (try with_reducible rfl))
  (try simp only [Act.put, List.setIfInBounds_toArray, List.set_cons_zero, List.set_cons_succ])
  refine' take_any 65 162 (v := _) ?hib65 ?hdb65 (by kernel_rfl) (by kernel_rfl) (by kernel_rfl) (fun _ _ _ h => h) ?hyb65 hHeld ?hrb65
  case hib65 => (simp only [List.getElem?_toArray, List.getElem?_cons_succ, List.getElem?_cons_zero]; rfl)
  case hdb65 => rfl
  case hyb65 =>
    refine' Or.inl ⟨?hwb65, ?hxb65⟩
    case hwb65 => rfl
    case hxb65 => (intro w hSw; (try dsimp only at hSw); go_simp; (try with_reducible rfl))
  (try simp only [Act.put, List.setIfInBounds_toArray, List.set_cons_zero, List.set_cons_succ])
  refine' take_any 66 163 (v := _) ?hib66 ?hdb66 (by kernel_rfl) (by kernel_rfl) (by kernel_rfl) (fun _ _ _ h => h) ?hyb66 hHeld ?hrb66
  case hib66 => (simp only [List.getElem?_toArray, List.getElem?_cons_succ, List.getElem?_cons_zero]; rfl)
  case hdb66 => rfl
  case hyb66 =>
    refine' Or.inl ⟨?hwb66, ?hxb66⟩
    case hwb66 => rfl
    case hxb66 => (intro w hSw; (try dsimp only at hSw); go_simp; (try with_reducible rfl))
  (try simp only [Act.put, List.setIfInBounds_toArray, List.set_cons_zero, List.set_cons_succ])
  refine' take_call 64 ?hib64 (by kernel_rfl) ?hrb64
  case hib64 => (simp only [List.getElem?_toArray, List.getElem?_cons_succ, List.getElem?_cons_zero]; rfl)
  intro K hK
  go_simp
  have _hb := HB16.out
  clear _hb
  go_at_call 31
  refine (ncmpV (K := 15) (L := 15) (z := cz) (HNa_8.out.below BC.out) (HNb_8.out.below BC.out) (by omega) (by omega) (HCZ.out)).mono ?_
  rintro e w117 ⟨rfl, hb⟩
  have HB17 := Lib.hid hb
  replace BC := Lib.hid (BC.out.trans (hb.mono BC.out.size))
  clear hb
  go_wp2_with fail
  clear hHeld
  refine hK.out _ _ (by (try dsimp only); exact ⟨(HVa_8.out.below BC.out HVa_8.out.lt).c0, (HVa_8.out.below BC.out HVa_8.out.lt).c1, (HVb_8.out.below BC.out HVb_8.out.lt).c0, (HVb_8.out.below BC.out HVb_8.out.lt).c1, (HVx_8.out.below BC.out HVx_8.out.lt).c0, (HVx_8.out.below BC.out HVx_8.out.lt).c1, (HVy_8.out.below BC.out HVy_8.out.lt).c0, (HVy_8.out.below BC.out HVy_8.out.lt).c1, (HVq_8.out.below BC.out HVq_8.out.lt).c0, (HVq_8.out.below BC.out HVq_8.out.lt).c1, (HVr_8.out.below BC.out HVr_8.out.lt).c0, (HVr_8.out.below BC.out HVr_8.out.lt).c1, (HVp_8.out.below BC.out HVp_8.out.lt).c0, (HVp_8.out.below BC.out HVp_8.out.lt).c1, (HVo_8.out.below BC.out HVo_8.out.lt).c0, (HVo_8.out.below BC.out HVo_8.out.lt).c1⟩) (fun hHeld => ?_)
  clear hK K
  (try simp only [Act.put, List.setIfInBounds_toArray, List.set_cons_zero, List.set_cons_succ])
  refine' take_call 67 ?hib67 (by kernel_rfl) ?hrb67
  case hib67 => (simp only [List.getElem?_toArray, List.getElem?_cons_succ, List.getElem?_cons_zero]; rfl)
  intro K hK
  go_simp
  have _hb := HB17.out
  clear _hb
  go_at_call 32
  refine (dcmp HDX.out HDY.out HCZ.out LX.out LY.out _).mono ?_
  rintro e w118 ⟨rfl, hb⟩
  have HB18 := Lib.hid hb
  replace BC := Lib.hid (BC.out.trans (hb.mono BC.out.size))
  clear hb
  go_wp2_with fail
  clear hHeld
  refine hK.out _ _ (by (try dsimp only); exact ⟨(HVa_8.out.below BC.out HVa_8.out.lt).c0, (HVa_8.out.below BC.out HVa_8.out.lt).c1, (HVb_8.out.below BC.out HVb_8.out.lt).c0, (HVb_8.out.below BC.out HVb_8.out.lt).c1, (HVx_8.out.below BC.out HVx_8.out.lt).c0, (HVx_8.out.below BC.out HVx_8.out.lt).c1, (HVy_8.out.below BC.out HVy_8.out.lt).c0, (HVy_8.out.below BC.out HVy_8.out.lt).c1, (HVq_8.out.below BC.out HVq_8.out.lt).c0, (HVq_8.out.below BC.out HVq_8.out.lt).c1, (HVr_8.out.below BC.out HVr_8.out.lt).c0, (HVr_8.out.below BC.out HVr_8.out.lt).c1, (HVp_8.out.below BC.out HVp_8.out.lt).c0, (HVp_8.out.below BC.out HVp_8.out.lt).c1, (HVo_8.out.below BC.out HVo_8.out.lt).c0, (HVo_8.out.below BC.out HVo_8.out.lt).c1⟩) (fun hHeld => ?_)
  clear hK K
  (try simp only [Act.put, List.setIfInBounds_toArray, List.set_cons_zero, List.set_cons_succ])
  refine' take_any 68 165 (v := _) ?hib68 ?hdb68 (by kernel_rfl) (by kernel_rfl) (by kernel_rfl) (fun _ _ _ h => h) ?hyb68 hHeld ?hrb68
  case hib68 => (simp only [List.getElem?_toArray, List.getElem?_cons_succ, List.getElem?_cons_zero]; rfl)
  case hdb68 => rfl
  case hyb68 =>
    refine' Or.inl ⟨?hwb68, ?hxb68⟩
    case hwb68 => rfl
    case hxb68 => (intro w hSw; (try dsimp only at hSw); go_simp; (try with_reducible rfl))
  (try simp only [Act.put, List.setIfInBounds_toArray, List.set_cons_zero, List.set_cons_succ])
  refine' take_any 69 166 (v := _) ?hib69 ?hdb69 (by kernel_rfl) (by kernel_rfl) (by kernel_rfl) (fun _ _ _ h => h) ?hyb69 hHeld ?hrb69
  case hib69 => (simp only [List.getElem?_toArray, List.getElem?_cons_succ, List.getElem?_cons_zero]; rfl)
  case hdb69 => rfl
  case hyb69 =>
    refine' Or.inl ⟨?hwb69, ?hxb69⟩
    case hwb69 => rfl
    case hxb69 => (intro w hSw; (try dsimp only at hSw); go_simp; (try with_reducible rfl))
  (try simp only [Act.put, List.setIfInBounds_toArray, List.set_cons_zero, List.set_cons_succ])
  refine' take_any 70 167 (v := _) ?hib70 ?hdb70 (by kernel_rfl) (by kernel_rfl) (by kernel_rfl) (fun _ _ _ h => h) ?hyb70 hHeld ?hrb70
  case hib70 => (simp only [List.getElem?_toArray, List.getElem?_cons_succ, List.getElem?_cons_zero]; rfl)
  case hdb70 => rfl
  case hyb70 =>
    refine' Or.inl ⟨?hwb70, ?hxb70⟩
    case hwb70 => rfl
    case hxb70 => (intro w hSw; (try dsimp only at hSw); go_simp; (try with_reducible rfl))
  (try simp only [Act.put, List.setIfInBounds_toArray, List.set_cons_zero, List.set_cons_succ])
  refine' take_any 71 168 (v := _) ?hib71 ?hdb71 (by kernel_rfl) (by kernel_rfl) (by kernel_rfl) (fun _ _ _ h => h) ?hyb71 hHeld ?hrb71
  case hib71 => (simp only [List.getElem?_toArray, List.getElem?_cons_succ, List.getElem?_cons_zero]; rfl)
  case hdb71 => rfl
  case hyb71 =>
    refine' Or.inl ⟨?hwb71, ?hxb71⟩
    case hwb71 => rfl
    case hxb71 => (intro w hSw; (try dsimp only at hSw); go_simp; (try with_reducible rfl))
  (try simp only [Act.put, List.setIfInBounds_toArray, List.set_cons_zero, List.set_cons_succ])
  refine' take_any 72 169 (v := _) ?hib72 ?hdb72 (by kernel_rfl) (by kernel_rfl) (by kernel_rfl) (fun _ _ _ h => h) ?hyb72 hHeld ?hrb72
  case hib72 => (simp only [List.getElem?_toArray, List.getElem?_cons_succ, List.getElem?_cons_zero]; rfl)
  case hdb72 => rfl
  case hyb72 =>
    refine' Or.inl ⟨?hwb72, ?hxb72⟩
    case hwb72 => rfl
    case hxb72 => (intro w hSw; (try dsimp only at hSw); go_simp; (try with_reducible rfl))
  (try simp only [Act.put, List.setIfInBounds_toArray, List.set_cons_zero, List.set_cons_succ])
  refine' take_any 73 170 (v := _) ?hib73 ?hdb73 (by kernel_rfl) (by kernel_rfl) (by kernel_rfl) (fun _ _ _ h => h) ?hyb73 hHeld ?hrb73
  case hib73 => (simp only [List.getElem?_toArray, List.getElem?_cons_succ, List.getElem?_cons_zero]; rfl)
  case hdb73 => rfl
  case hyb73 =>
    refine' Or.inl ⟨?hwb73, ?hxb73⟩
    case hwb73 => rfl
    case hxb73 => (intro w hSw; (try dsimp only at hSw); go_simp; (try with_reducible rfl))
  (try simp only [Act.put, List.setIfInBounds_toArray, List.set_cons_zero, List.set_cons_succ])
  refine' take_any 74 171 (v := _) ?hib74 ?hdb74 (by kernel_rfl) (by kernel_rfl) (by kernel_rfl) (fun _ _ _ h => h) ?hyb74 hHeld ?hrb74
  case hib74 => (simp only [List.getElem?_toArray, List.getElem?_cons_succ, List.getElem?_cons_zero]; rfl)
  case hdb74 => rfl
  case hyb74 =>
    refine' Or.inl ⟨?hwb74, ?hxb74⟩
    case hwb74 => rfl
    case hxb74 => (intro w hSw; (try dsimp only at hSw); go_simp; (try with_reducible rfl))
  (try simp only [Act.put, List.setIfInBounds_toArray, List.set_cons_zero, List.set_cons_succ])
  refine' take_any 75 172 (v := _) ?hib75 ?hdb75 (by kernel_rfl) (by kernel_rfl) (by kernel_rfl) (fun _ _ _ h => h) ?hyb75 hHeld ?hrb75
  case hib75 => (simp only [List.getElem?_toArray, List.getElem?_cons_succ, List.getElem?_cons_zero]; rfl)
  case hdb75 => rfl
  case hyb75 =>
    refine' Or.inl ⟨?hwb75, ?hxb75⟩
    case hwb75 => rfl
    case hxb75 => (intro w hSw; (try dsimp only at hSw); go_simp; (try with_reducible rfl))
  (try simp only [Act.put, List.setIfInBounds_toArray, List.set_cons_zero, List.set_cons_succ])
  refine' take_any 76 173 (v := _) ?hib76 ?hdb76 (by kernel_rfl) (by kernel_rfl) (by kernel_rfl) (fun _ _ _ h => h) ?hyb76 hHeld ?hrb76
  case hib76 => (simp only [List.getElem?_toArray, List.getElem?_cons_succ, List.getElem?_cons_zero]; rfl)
  case hdb76 => rfl
  case hyb76 =>
    refine' Or.inl ⟨?hwb76, ?hxb76⟩
    case hwb76 => rfl
    case hxb76 => (intro w hSw; (try dsimp only at hSw); go_simp; (try with_reducible rfl))
  (try simp only [Act.put, List.setIfInBounds_toArray, List.set_cons_zero, List.set_cons_succ])
  refine' take_any 77 174 (v := _) ?hib77 ?hdb77 (by kernel_rfl) (by kernel_rfl) (by kernel_rfl) (fun _ _ _ h => h) ?hyb77 hHeld ?hrb77
  case hib77 => (simp only [List.getElem?_toArray, List.getElem?_cons_succ, List.getElem?_cons_zero]; rfl)
  case hdb77 => rfl
  case hyb77 =>
    refine' Or.inl ⟨?hwb77, ?hxb77⟩
    case hwb77 => rfl
    case hxb77 => (intro w hSw; (try dsimp only at hSw); go_simp; (try with_reducible rfl))
  (try simp only [Act.put, List.setIfInBounds_toArray, List.set_cons_zero, List.set_cons_succ])
  refine' take_any 78 175 (v := _) ?hib78 ?hdb78 (by kernel_rfl) (by kernel_rfl) (by kernel_rfl) (fun _ _ _ h => h) ?hyb78 hHeld ?hrb78
  case hib78 => (simp only [List.getElem?_toArray, List.getElem?_cons_succ, List.getElem?_cons_zero]; rfl)
  case hdb78 => rfl
  case hyb78 =>
    refine' Or.inl ⟨?hwb78, ?hxb78⟩
    case hwb78 => rfl
    case hxb78 => (intro w hSw; (try dsimp only at hSw); go_simp; (try with_reducible rfl))
  (try simp only [Act.put, List.setIfInBounds_toArray, List.set_cons_zero, List.set_cons_succ])
  refine' take_any 79 176 (v := _) ?hib79 ?hdb79 (by kernel_rfl) (by kernel_rfl) (by kernel_rfl) (fun _ _ _ h => h) ?hyb79 hHeld ?hrb79
  case hib79 => (simp only [List.getElem?_toArray, List.getElem?_cons_succ, List.getElem?_cons_zero]; rfl)
  case hdb79 => rfl
  case hyb79 =>
    refine' Or.inl ⟨?hwb79, ?hxb79⟩
    case hwb79 => rfl
    case hxb79 => (intro w hSw; (try dsimp only at hSw); go_simp; (try with_reducible rfl))
  (try simp only [Act.put, List.setIfInBounds_toArray, List.set_cons_zero, List.set_cons_succ])
  refine' take_any 80 4 (v := _) ?hib80 ?hdb80 (by kernel_rfl) (by kernel_rfl) (by kernel_rfl) (fun _ _ _ h => h) ?hyb80 hHeld ?hrb80
  case hib80 => (simp only [List.getElem?_toArray, List.getElem?_cons_succ, List.getElem?_cons_zero]; rfl)
  case hdb80 => rfl
  case hyb80 =>
    refine' Or.inl ⟨?hwb80, ?hxb80⟩
    case hwb80 => rfl
    case hxb80 => (intro w hSw; (try dsimp only at hSw); go_simp; (try with_reducible rfl))
  (try simp only [Act.put, List.setIfInBounds_toArray, List.set_cons_zero, List.set_cons_succ])
  refine wpAnyH_done (by kernel_rfl) ?_ _
  refine NoPanic.normal ?_
  go_wp2
  go_ret
  exact ⟨rfl, HBW_8.out.trans (BC.out.mono HBW_8.out.size)⟩
end Go.Proofs.YtibhfcnjmilepaaDoor
