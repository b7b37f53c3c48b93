import Derived.Test.YtibhfcnjmilepaaDoorNumAT
import Derived.Test.YtibhfcnjmilepaaDoorNumPl
import Derived.Deep.RegionHeld3
namespace Go.Proofs.YtibhfcnjmilepaaDoor
open Go.RowKit

theorem div_back (x y : Int) : x.tdiv y * y + x.tmod y = x := by
  have := Int.mul_tdiv_add_tmod x y
  rw [Int.mul_comm] at this
  exact this
theorem mod_near (x y : Int) (h : y ≠ 0) : (x.tmod y).natAbs < y.natAbs := by
  rw [Int.natAbs_tmod]
  exact Nat.mod_lt _ (by omega)
theorem mod_neg (x y : Int) (h : x.tmod y < 0) : x < 0 := by
  rcases Int.lt_or_le x 0 with h1 | h1
  · exact h1
  · have := Int.tmod_nonneg y h1
    omega
theorem mod_pos (x y : Int) (h : 0 < x.tmod y) : 0 < x := by
  rcases Int.lt_or_le 0 x with h1 | h1
  · exact h1
  · have h2 := Int.tmod_nonneg y (show 0 ≤ -x by omega)
    rw [Int.neg_tmod] at h2
    omega



set_option maxRecDepth 100000 in
set_option maxHeartbeats 8000000 in
theorem divides_any (s t : ByteArray) (w : World) (ht : TabW w) :
    Calls Tryd.prog 6 #[.string s, .string t] w fun e w' => e = .returned (.bool true) ∧ Below w.heap.size w w' := by
  have HA := Lib.hid (awake_any w ht)
  have HT := Lib.hid ht
  clear ht
  go_enter Tryd.func6, Tryd.ntmps6
  go_wp2_with fail
  refine HA.out.mono ?_
  rintro e w1 ⟨rfl, hb1⟩
  have H1 := Lib.hid (ptwo_all s t w1)
  have HB1 := Lib.hid hb1
  clear hb1
  go_wp2_with fail
  refine H1.out.mono ?_
  rintro e w2 ⟨⟨b1, s1, l1, c1, b2, s2, l2, c2, ok, rfl, hk⟩, hb2⟩
  cases ok with
  | false =>
    have HB2 := Lib.hid (show Below w.heap.size w _ from (HB1.out.trans (hb2.mono HB1.out.size)))
    clear hb2 hk
    go_wp2
    go_ret
    exact ⟨rfl, (HB2.out.alloc HB2.out.size _).alloc (Nat.le_trans HB2.out.size (by simp)) _⟩
  | true =>
  obtain ⟨x, y, hx, hy, _, _⟩ := hk rfl
  have hx1 := (hx.alloc (.cells #[.bool b1, .slice s1 l1 c1] 25)).alloc (.cells #[.bool b2, .slice s2 l2 c2] 25)
  have hy1 := (hy.alloc (.cells #[.bool b1, .slice s1 l1 c1] 25)).alloc (.cells #[.bool b2, .slice s2 l2 c2] 25)
  have hx2 := hx1.alloc (.cells #[.bool false, .slice none 0 0] 25)
  have hy2 := hy1.alloc (.cells #[.bool false, .slice none 0 0] 25)
  obtain ⟨ga, hga⟩ : ∃ ga, ga = w2.heap.size := ⟨_, rfl⟩
  obtain ⟨W, hW⟩ : ∃ W, W = ((w2.alloc (.cells #[.bool b1, .slice s1 l1 c1] 25)).alloc (.cells #[.bool b2, .slice s2 l2 c2] 25)).alloc (.cells #[.bool false, .slice none 0 0] 25) := ⟨_, rfl⟩
  have hBW2 : Below w2.heap.size w2 W := by rw [hW]; exact (((Below.refl _ _).alloc (Nat.le_refl _) _).alloc (by simp) _).alloc (by simp; omega) _
  have va : VarAt W ga b1 s1 l1 c1 := by rw [hW, hga]; exact (VarAt.made1 _ _ _ _ _ _).below (B := w2.heap.size + 2) ((Below.refl _ _).alloc (by simp) _) (by omega)
  have vb : VarAt W (ga + 1) b2 s2 l2 c2 := by rw [hW, hga]; exact (VarAt.made2 _ _ _ _ _ _).below (B := w2.heap.size + 2) ((Below.refl _ _).alloc (by simp) _) (by omega)
  have vz : VarAt W (ga + 2) false none 0 0 := by rw [hW, hga]; exact VarAt.made3 _ _ _ _ _ _ _
  rw [← hW] at hx2 hy2
  have HBW := Lib.hid ((HB1.out.trans (hb2.mono HB1.out.size)).trans (hBW2.mono (HB1.out.trans (hb2.mono HB1.out.size)).size))
  obtain ⟨gz, hgz⟩ : ∃ gz, gz = ga + 1 + 1 := ⟨_, rfl⟩
  have vz : VarAt W gz false none 0 0 := by rw [hgz]; exact vz
  have HGZ := Lib.hid hgz
  clear hgz
  have HVA := Lib.hid va
  have HVB := Lib.hid vb
  have HVZ := Lib.hid vz
  have HNA := Lib.hid hx2
  have HNB := Lib.hid hy2
  have HNZ := Lib.hid (zero_num W)
  have HW := Lib.hid hW
  have HG := Lib.hid hga
  have A0 := va.c0
  have A1 := va.c1
  have B0 := vb.c0
  have B1 := vb.c1
  have Z0 := vz.c0
  have Z1 := vz.c1
  clear hx hy hx1 hy1 hx2 hy2 hb2 hBW2 va vb vz hW hga hk H1 HA HB1
  by_cases hy0 : y = 0
  · subst hy0
    go_wp2_with fail
    rw [← HG.out, ← HW.out, ← HGZ.out]
    refine (nquo0 (K := 15) (L := 15) HNA.out HNB.out (by omega) (by omega)).mono ?_
    rintro e w201 ⟨⟨bv1, sv1, lv1, cv1, rfl, hn⟩, hb⟩
    clear A0 A1 B0 B1 Z0 Z1
    have qa0 := (HVA.out.below hb HVA.out.lt).c0
    have qa1 := (HVA.out.below hb HVA.out.lt).c1
    have ta := (HVA.out.below hb HVA.out.lt).lt
    have qb0 := (HVB.out.below hb HVB.out.lt).c0
    have qb1 := (HVB.out.below hb HVB.out.lt).c1
    have tb := (HVB.out.below hb HVB.out.lt).lt
    have qz0 := (HVZ.out.below hb HVZ.out.lt).c0
    have qz1 := (HVZ.out.below hb HVZ.out.lt).c1
    have tz := (HVZ.out.below hb HVZ.out.lt).lt
    obtain ⟨W201, hW201⟩ : ∃ W, W = w201.alloc (.cells #[.bool bv1, .slice sv1 lv1 cv1] 25) := ⟨_, rfl⟩
    obtain ⟨gq, hgq⟩ : ∃ g, g = w201.heap.size := ⟨_, rfl⟩
    have HBW201 := Lib.hid (show Below W.heap.size W W201 by rw [hW201]; exact hb.alloc hb.size _)
    have HVn := Lib.hid (show VarAt W201 gq bv1 sv1 lv1 cv1 by rw [hW201, hgq]; exact VarAt.made _ _ _ _ _)
    have HNn := Lib.hid (show NumIs 15 W201 _ 0 by rw [hW201]; exact hn.alloc _)
    have HW201 := Lib.hid hW201
    have HGq := Lib.hid hgq
    clear hn hb hW201 hgq
    have HVa_1 := Lib.hid (HVA.out.below HBW201.out HVA.out.lt)
    have HNa_1 := Lib.hid (HNA.out.below HBW201.out)
    have HVb_1 := Lib.hid (HVB.out.below HBW201.out HVB.out.lt)
    have HNb_1 := Lib.hid (HNB.out.below HBW201.out)
    have HVz_1 := Lib.hid (HVZ.out.below HBW201.out HVZ.out.lt)
    have HNz_1 := Lib.hid (HNZ.out.below HBW201.out)
    have HBW_1 := Lib.hid (HBW.out.trans (HBW201.out.mono HBW.out.size))
    clear HVA HNA HVB HNB HVZ HNZ HBW
    have HVq_1 := HVn
    have HNq_1 := HNn
    clear HVn HNn HBW201
    go_wp2_with fail
    rw [← HGq.out, ← HW201.out]
    refine (nrem0 (K := 15) (L := 15) HNa_1.out HNb_1.out (by omega) (by omega)).mono ?_
    rintro e w202 ⟨⟨bv2, sv2, lv2, cv2, rfl, hn⟩, hb⟩
    clear qa0 qa1 ta qb0 qb1 tb qz0 qz1 tz
    have qb0 := (HVb_1.out.below hb HVb_1.out.lt).c0
    have qb1 := (HVb_1.out.below hb HVb_1.out.lt).c1
    have tb := (HVb_1.out.below hb HVb_1.out.lt).lt
    have qz0 := (HVz_1.out.below hb HVz_1.out.lt).c0
    have qz1 := (HVz_1.out.below hb HVz_1.out.lt).c1
    have tz := (HVz_1.out.below hb HVz_1.out.lt).lt
    obtain ⟨W202, hW202⟩ : ∃ W, W = w202.alloc (.cells #[.bool bv2, .slice sv2 lv2 cv2] 25) := ⟨_, rfl⟩
    obtain ⟨gr, hgr⟩ : ∃ g, g = w202.heap.size := ⟨_, rfl⟩
    have HBW202 := Lib.hid (show Below W201.heap.size W201 W202 by rw [hW202]; exact hb.alloc hb.size _)
    have HVn := Lib.hid (show VarAt W202 gr bv2 sv2 lv2 cv2 by rw [hW202, hgr]; exact VarAt.made _ _ _ _ _)
    have HNn := Lib.hid (show NumIs 15 W202 _ 0 by rw [hW202]; exact hn.alloc _)
    have HW202 := Lib.hid hW202
    have HGr := Lib.hid hgr
    clear hn hb hW202 hgr
    have HVa_2 := Lib.hid (HVa_1.out.below HBW202.out HVa_1.out.lt)
    have HNa_2 := Lib.hid (HNa_1.out.below HBW202.out)
    have HVb_2 := Lib.hid (HVb_1.out.below HBW202.out HVb_1.out.lt)
    have HNb_2 := Lib.hid (HNb_1.out.below HBW202.out)
    have HVz_2 := Lib.hid (HVz_1.out.below HBW202.out HVz_1.out.lt)
    have HNz_2 := Lib.hid (HNz_1.out.below HBW202.out)
    have HVq_2 := Lib.hid (HVq_1.out.below HBW202.out HVq_1.out.lt)
    have HNq_2 := Lib.hid (HNq_1.out.below HBW202.out)
    have HBW_2 := Lib.hid (HBW_1.out.trans (HBW202.out.mono HBW_1.out.size))
    clear HVa_1 HNa_1 HVb_1 HNb_1 HVz_1 HNz_1 HVq_1 HNq_1 HBW_1
    have HVr_2 := HVn
    have HNr_2 := HNn
    clear HVn HNn HBW202
    go_wp2_with fail
    rw [← HGr.out, ← HW202.out]
    refine (ncmpV (K := 15) (L := 0) (z := 0) HNb_2.out HNz_2.out (by omega) (by omega) (cmpZ_eq rfl)).mono ?_
    rintro e w203 ⟨rfl, hb⟩
    have HBw203 := Lib.hid hb
    clear hb
    have HVa_3 := Lib.hid (HVa_2.out.below HBw203.out HVa_2.out.lt)
    have HNa_3 := Lib.hid (HNa_2.out.below HBw203.out)
    have HVb_3 := Lib.hid (HVb_2.out.below HBw203.out HVb_2.out.lt)
    have HNb_3 := Lib.hid (HNb_2.out.below HBw203.out)
    have HVz_3 := Lib.hid (HVz_2.out.below HBw203.out HVz_2.out.lt)
    have HNz_3 := Lib.hid (HNz_2.out.below HBw203.out)
    have HVq_3 := Lib.hid (HVq_2.out.below HBw203.out HVq_2.out.lt)
    have HNq_3 := Lib.hid (HNq_2.out.below HBw203.out)
    have HVr_3 := Lib.hid (HVr_2.out.below HBw203.out HVr_2.out.lt)
    have HNr_3 := Lib.hid (HNr_2.out.below HBw203.out)
    have HBW_3 := Lib.hid (HBW_2.out.trans (HBw203.out.mono HBW_2.out.size))
    clear HVa_2 HNa_2 HVb_2 HNb_2 HVz_2 HNz_2 HVq_2 HNq_2 HVr_2 HNr_2 HBW_2
    clear HBw203
    clear qb0 qb1 tb qz0 qz1 tz
    have qq0 := HVq_3.out.c0
    have qq1 := HVq_3.out.c1
    have tq := HVq_3.out.lt
    have qz0 := HVz_3.out.c0
    have qz1 := HVz_3.out.c1
    have tz := HVz_3.out.lt
    go_wp2_with fail
    refine (ncmpV (K := 15) (L := 0) (z := 0) HNq_3.out HNz_3.out (by omega) (by omega) (cmpZ_eq rfl)).mono ?_
    rintro e w204 ⟨rfl, hb⟩
    have HBw204 := Lib.hid hb
    clear hb
    have HVa_4 := Lib.hid (HVa_3.out.below HBw204.out HVa_3.out.lt)
    have HNa_4 := Lib.hid (HNa_3.out.below HBw204.out)
    have HVb_4 := Lib.hid (HVb_3.out.below HBw204.out HVb_3.out.lt)
    have HNb_4 := Lib.hid (HNb_3.out.below HBw204.out)
    have HVz_4 := Lib.hid (HVz_3.out.below HBw204.out HVz_3.out.lt)
    have HNz_4 := Lib.hid (HNz_3.out.below HBw204.out)
    have HVq_4 := Lib.hid (HVq_3.out.below HBw204.out HVq_3.out.lt)
    have HNq_4 := Lib.hid (HNq_3.out.below HBw204.out)
    have HVr_4 := Lib.hid (HVr_3.out.below HBw204.out HVr_3.out.lt)
    have HNr_4 := Lib.hid (HNr_3.out.below HBw204.out)
    have HBW_4 := Lib.hid (HBW_3.out.trans (HBw204.out.mono HBW_3.out.size))
    clear HVa_3 HNa_3 HVb_3 HNb_3 HVz_3 HNz_3 HVq_3 HNq_3 HVr_3 HNr_3 HBW_3
    clear HBw204
    clear qq0 qq1 tq qz0 qz1 tz
    have qr0 := HVr_4.out.c0
    have qr1 := HVr_4.out.c1
    have tr := HVr_4.out.lt
    have qz0 := HVz_4.out.c0
    have qz1 := HVz_4.out.c1
    have tz := HVz_4.out.lt
    go_wp2_with fail
    refine (ncmpV (K := 15) (L := 0) (z := 0) HNr_4.out HNz_4.out (by omega) (by omega) (cmpZ_eq rfl)).mono ?_
    rintro e w205 ⟨rfl, hb⟩
    have HBw205 := Lib.hid hb
    clear hb
    have HVa_5 := Lib.hid (HVa_4.out.below HBw205.out HVa_4.out.lt)
    have HNa_5 := Lib.hid (HNa_4.out.below HBw205.out)
    have HVb_5 := Lib.hid (HVb_4.out.below HBw205.out HVb_4.out.lt)
    have HNb_5 := Lib.hid (HNb_4.out.below HBw205.out)
    have HVz_5 := Lib.hid (HVz_4.out.below HBw205.out HVz_4.out.lt)
    have HNz_5 := Lib.hid (HNz_4.out.below HBw205.out)
    have HVq_5 := Lib.hid (HVq_4.out.below HBw205.out HVq_4.out.lt)
    have HNq_5 := Lib.hid (HNq_4.out.below HBw205.out)
    have HVr_5 := Lib.hid (HVr_4.out.below HBw205.out HVr_4.out.lt)
    have HNr_5 := Lib.hid (HNr_4.out.below HBw205.out)
    have HBW_5 := Lib.hid (HBW_4.out.trans (HBw205.out.mono HBW_4.out.size))
    clear HVa_4 HNa_4 HVb_4 HNb_4 HVz_4 HNz_4 HVq_4 HNq_4 HVr_4 HNr_4 HBW_4
    clear HBw205
    clear qr0 qr1 tr qz0 qz1 tz
    go_wp2
    go_ret
    exact ⟨rfl, HBW_5.out⟩
  · have HY0 := Lib.hid hy0
    obtain ⟨qn, hqn⟩ : ∃ qn, x.tdiv y = qn := ⟨_, rfl⟩
    obtain ⟨rn, hrn⟩ : ∃ rn, x.tmod y = rn := ⟨_, rfl⟩
    have hback := div_back x y
    have hnear := mod_near x y hy0
    have hneg := mod_neg x y
    have hpos := mod_pos x y
    rw [hqn, hrn] at hback
    rw [hrn] at hnear hneg hpos
    have HQN := Lib.hid hqn
    have HRN := Lib.hid hrn
    have HBACK := Lib.hid hback
    have HNEAR := Lib.hid hnear
    have HNEG := Lib.hid hneg
    have HPOS := Lib.hid hpos
    clear hqn hrn hback hnear hneg hpos
    rcases (show y < 0 ∨ 0 < y by omega) with hy | hy
    · have HY := Lib.hid hy
      clear hy hy0
      rcases Int.lt_trichotomy rn 0 with hr | hr | hr
      · have HR := Lib.hid hr
        clear hr
        as_aux_lemma =>
          go_wp2_with fail
          rw [← HG.out, ← HW.out, ← HGZ.out]
          refine (nquo1 (K := 15) (L := 15) HNA.out HNB.out (by omega) (by omega) HY0.out HQN.out).mono ?_
          rintro e w201 ⟨⟨bv1, sv1, lv1, cv1, rfl, hn⟩, hb⟩
          clear A0 A1 B0 B1 Z0 Z1
          have qa0 := (HVA.out.below hb HVA.out.lt).c0
          have qa1 := (HVA.out.below hb HVA.out.lt).c1
          have ta := (HVA.out.below hb HVA.out.lt).lt
          have qb0 := (HVB.out.below hb HVB.out.lt).c0
          have qb1 := (HVB.out.below hb HVB.out.lt).c1
          have tb := (HVB.out.below hb HVB.out.lt).lt
          have qz0 := (HVZ.out.below hb HVZ.out.lt).c0
          have qz1 := (HVZ.out.below hb HVZ.out.lt).c1
          have tz := (HVZ.out.below hb HVZ.out.lt).lt
          obtain ⟨W201, hW201⟩ : ∃ W, W = w201.alloc (.cells #[.bool bv1, .slice sv1 lv1 cv1] 25) := ⟨_, rfl⟩
          obtain ⟨gq, hgq⟩ : ∃ g, g = w201.heap.size := ⟨_, rfl⟩
          have HBW201 := Lib.hid (show Below W.heap.size W W201 by rw [hW201]; exact hb.alloc hb.size _)
          have HVn := Lib.hid (show VarAt W201 gq bv1 sv1 lv1 cv1 by rw [hW201, hgq]; exact VarAt.made _ _ _ _ _)
          have HNn := Lib.hid (show NumIs 15 W201 _ qn by rw [hW201]; exact hn.alloc _)
          have HW201 := Lib.hid hW201
          have HGq := Lib.hid hgq
          clear hn hb hW201 hgq
          have HVa_1 := Lib.hid (HVA.out.below HBW201.out HVA.out.lt)
          have HNa_1 := Lib.hid (HNA.out.below HBW201.out)
          have HVb_1 := Lib.hid (HVB.out.below HBW201.out HVB.out.lt)
          have HNb_1 := Lib.hid (HNB.out.below HBW201.out)
          have HVz_1 := Lib.hid (HVZ.out.below HBW201.out HVZ.out.lt)
          have HNz_1 := Lib.hid (HNZ.out.below HBW201.out)
          have HBW_1 := Lib.hid (HBW.out.trans (HBW201.out.mono HBW.out.size))
          clear HVA HNA HVB HNB HVZ HNZ HBW
          have HVq_1 := HVn
          have HNq_1 := HNn
          clear HVn HNn HBW201
          go_wp2_with fail
          rw [← HGq.out, ← HW201.out]
          refine (nrem1 (K := 15) (L := 15) HNa_1.out HNb_1.out (by omega) (by omega) HY0.out HRN.out).mono ?_
          rintro e w202 ⟨⟨bv2, sv2, lv2, cv2, rfl, hn⟩, hb⟩
          clear qa0 qa1 ta qb0 qb1 tb qz0 qz1 tz
          have qb0 := (HVb_1.out.below hb HVb_1.out.lt).c0
          have qb1 := (HVb_1.out.below hb HVb_1.out.lt).c1
          have tb := (HVb_1.out.below hb HVb_1.out.lt).lt
          have qz0 := (HVz_1.out.below hb HVz_1.out.lt).c0
          have qz1 := (HVz_1.out.below hb HVz_1.out.lt).c1
          have tz := (HVz_1.out.below hb HVz_1.out.lt).lt
          obtain ⟨W202, hW202⟩ : ∃ W, W = w202.alloc (.cells #[.bool bv2, .slice sv2 lv2 cv2] 25) := ⟨_, rfl⟩
          obtain ⟨gr, hgr⟩ : ∃ g, g = w202.heap.size := ⟨_, rfl⟩
          have HBW202 := Lib.hid (show Below W201.heap.size W201 W202 by rw [hW202]; exact hb.alloc hb.size _)
          have HVn := Lib.hid (show VarAt W202 gr bv2 sv2 lv2 cv2 by rw [hW202, hgr]; exact VarAt.made _ _ _ _ _)
          have HNn := Lib.hid (show NumIs 15 W202 _ rn by rw [hW202]; exact hn.alloc _)
          have HW202 := Lib.hid hW202
          have HGr := Lib.hid hgr
          clear hn hb hW202 hgr
          have HVa_2 := Lib.hid (HVa_1.out.below HBW202.out HVa_1.out.lt)
          have HNa_2 := Lib.hid (HNa_1.out.below HBW202.out)
          have HVb_2 := Lib.hid (HVb_1.out.below HBW202.out HVb_1.out.lt)
          have HNb_2 := Lib.hid (HNb_1.out.below HBW202.out)
          have HVz_2 := Lib.hid (HVz_1.out.below HBW202.out HVz_1.out.lt)
          have HNz_2 := Lib.hid (HNz_1.out.below HBW202.out)
          have HVq_2 := Lib.hid (HVq_1.out.below HBW202.out HVq_1.out.lt)
          have HNq_2 := Lib.hid (HNq_1.out.below HBW202.out)
          have HBW_2 := Lib.hid (HBW_1.out.trans (HBW202.out.mono HBW_1.out.size))
          clear HVa_1 HNa_1 HVb_1 HNb_1 HVz_1 HNz_1 HVq_1 HNq_1 HBW_1
          have HVr_2 := HVn
          have HNr_2 := HNn
          clear HVn HNn HBW202
          go_wp2_with fail
          rw [← HGr.out, ← HW202.out]
          refine (ncmpV (K := 15) (L := 0) (z := -1) HNb_2.out HNz_2.out (by omega) (by omega) (by have := HY.out; exact cmpZ_neg (by omega))).mono ?_
          rintro e w203 ⟨rfl, hb⟩
          have HBw203 := Lib.hid hb
          clear hb
          have HVa_3 := Lib.hid (HVa_2.out.below HBw203.out HVa_2.out.lt)
          have HNa_3 := Lib.hid (HNa_2.out.below HBw203.out)
          have HVb_3 := Lib.hid (HVb_2.out.below HBw203.out HVb_2.out.lt)
          have HNb_3 := Lib.hid (HNb_2.out.below HBw203.out)
          have HVz_3 := Lib.hid (HVz_2.out.below HBw203.out HVz_2.out.lt)
          have HNz_3 := Lib.hid (HNz_2.out.below HBw203.out)
          have HVq_3 := Lib.hid (HVq_2.out.below HBw203.out HVq_2.out.lt)
          have HNq_3 := Lib.hid (HNq_2.out.below HBw203.out)
          have HVr_3 := Lib.hid (HVr_2.out.below HBw203.out HVr_2.out.lt)
          have HNr_3 := Lib.hid (HNr_2.out.below HBw203.out)
          have HBW_3 := Lib.hid (HBW_2.out.trans (HBw203.out.mono HBW_2.out.size))
          clear HVa_2 HNa_2 HVb_2 HNb_2 HVz_2 HNz_2 HVq_2 HNq_2 HVr_2 HNr_2 HBW_2
          clear HBw203
          clear qb0 qb1 tb qz0 qz1 tz
          have qr0 := HVr_3.out.c0
          have qr1 := HVr_3.out.c1
          have tr := HVr_3.out.lt
          have qz0 := HVz_3.out.c0
          have qz1 := HVz_3.out.c1
          have tz := HVz_3.out.lt
          obtain ⟨W204, hW204⟩ : ∃ W, W = w203.alloc (.cells #[.bool bv2, .slice sv2 lv2 cv2] 25) := ⟨_, rfl⟩
          obtain ⟨gs, hgs⟩ : ∃ g, g = w203.heap.size := ⟨_, rfl⟩
          have HBW204 := Lib.hid (show Below (w203).heap.size (w203) W204 by rw [hW204]; exact (Below.refl _ _).alloc (Nat.le_refl _) _)
          have hgx9 : gs = (w203).heap.size := by rw [hgs]
          have HVn := Lib.hid (show VarAt W204 gs bv2 sv2 lv2 cv2 by rw [hW204, hgx9]; exact VarAt.made _ _ _ _ _)
          have HNn := Lib.hid (HNr_3.out.below HBW204.out)
          have NEas := Lib.hid (show ga ≠ gs by have := HVa_3.out.lt; omega)
          have NEbs := Lib.hid (show ga + 1 ≠ gs by have := HVb_3.out.lt; omega)
          have NEzs := Lib.hid (show gz ≠ gs by have := HVz_3.out.lt; omega)
          have NEqs := Lib.hid (show gq ≠ gs by have := HVq_3.out.lt; omega)
          have NErs := Lib.hid (show gr ≠ gs by have := HVr_3.out.lt; omega)
          have LEs := Lib.hid (show w.heap.size ≤ gs by rw [hgx9]; exact HBW_3.out.size)
          have HW204 := Lib.hid hW204
          have HGs := Lib.hid hgs
          clear hW204 hgs hgx9
          have HVa_4 := Lib.hid (HVa_3.out.below HBW204.out HVa_3.out.lt)
          have HNa_4 := Lib.hid (HNa_3.out.below HBW204.out)
          have HVb_4 := Lib.hid (HVb_3.out.below HBW204.out HVb_3.out.lt)
          have HNb_4 := Lib.hid (HNb_3.out.below HBW204.out)
          have HVz_4 := Lib.hid (HVz_3.out.below HBW204.out HVz_3.out.lt)
          have HNz_4 := Lib.hid (HNz_3.out.below HBW204.out)
          have HVq_4 := Lib.hid (HVq_3.out.below HBW204.out HVq_3.out.lt)
          have HNq_4 := Lib.hid (HNq_3.out.below HBW204.out)
          have HVr_4 := Lib.hid (HVr_3.out.below HBW204.out HVr_3.out.lt)
          have HNr_4 := Lib.hid (HNr_3.out.below HBW204.out)
          have HBW_4 := Lib.hid (HBW_3.out.trans (HBW204.out.mono HBW_3.out.size))
          clear HVa_3 HNa_3 HVb_3 HNb_3 HVz_3 HNz_3 HVq_3 HNq_3 HVr_3 HNr_3 HBW_3
          have HVs_4 := HVn
          have HNs_4 := HNn
          clear HVn HNn HBW204
          go_wp2_with fail
          rw [← HGs.out, ← HW204.out]
          refine (ncmpV (K := 15) (L := 0) (z := -1) HNr_4.out HNz_4.out (by omega) (by omega) (cmpZ_neg HR.out)).mono ?_
          rintro e w205 ⟨rfl, hb⟩
          have HBw205 := Lib.hid hb
          clear hb
          have HVa_5 := Lib.hid (HVa_4.out.below HBw205.out HVa_4.out.lt)
          have HNa_5 := Lib.hid (HNa_4.out.below HBw205.out)
          have HVb_5 := Lib.hid (HVb_4.out.below HBw205.out HVb_4.out.lt)
          have HNb_5 := Lib.hid (HNb_4.out.below HBw205.out)
          have HVz_5 := Lib.hid (HVz_4.out.below HBw205.out HVz_4.out.lt)
          have HNz_5 := Lib.hid (HNz_4.out.below HBw205.out)
          have HVq_5 := Lib.hid (HVq_4.out.below HBw205.out HVq_4.out.lt)
          have HNq_5 := Lib.hid (HNq_4.out.below HBw205.out)
          have HVr_5 := Lib.hid (HVr_4.out.below HBw205.out HVr_4.out.lt)
          have HNr_5 := Lib.hid (HNr_4.out.below HBw205.out)
          have HVs_5 := Lib.hid (HVs_4.out.below HBw205.out HVs_4.out.lt)
          have HNs_5 := Lib.hid (HNs_4.out.below HBw205.out)
          have HBW_5 := Lib.hid (HBW_4.out.trans (HBw205.out.mono HBW_4.out.size))
          clear HVa_4 HNa_4 HVb_4 HNb_4 HVz_4 HNz_4 HVq_4 HNq_4 HVr_4 HNr_4 HVs_4 HNs_4 HBW_4
          clear HBw205
          clear qr0 qr1 tr qz0 qz1 tz
          have qr0 := HVr_5.out.c0
          have qr1 := HVr_5.out.c1
          have tr := HVr_5.out.lt
          have qz0 := HVz_5.out.c0
          have qz1 := HVz_5.out.c1
          have tz := HVz_5.out.lt
          go_wp2_with fail
          refine (nsub (K := 0) (L := 15) HNz_5.out HNr_5.out (by omega) (by omega)).mono ?_
          rintro e w206 ⟨⟨bn6, sn6, ln6, cn6, rfl, hn⟩, hb⟩
          have HBw206 := Lib.hid hb
          have HNt_6 := Lib.hid hn
          clear hn
          clear hb
          have HVa_6 := Lib.hid (HVa_5.out.below HBw206.out HVa_5.out.lt)
          have HNa_6 := Lib.hid (HNa_5.out.below HBw206.out)
          have HVb_6 := Lib.hid (HVb_5.out.below HBw206.out HVb_5.out.lt)
          have HNb_6 := Lib.hid (HNb_5.out.below HBw206.out)
          have HVz_6 := Lib.hid (HVz_5.out.below HBw206.out HVz_5.out.lt)
          have HNz_6 := Lib.hid (HNz_5.out.below HBw206.out)
          have HVq_6 := Lib.hid (HVq_5.out.below HBw206.out HVq_5.out.lt)
          have HNq_6 := Lib.hid (HNq_5.out.below HBw206.out)
          have HVr_6 := Lib.hid (HVr_5.out.below HBw206.out HVr_5.out.lt)
          have HNr_6 := Lib.hid (HNr_5.out.below HBw206.out)
          have HVs_6 := Lib.hid (HVs_5.out.below HBw206.out HVs_5.out.lt)
          have HNs_6 := Lib.hid (HNs_5.out.below HBw206.out)
          have HBW_6 := Lib.hid (HBW_5.out.trans (HBw206.out.mono HBW_5.out.size))
          clear HVa_5 HNa_5 HVb_5 HNb_5 HVz_5 HNz_5 HVq_5 HNq_5 HVr_5 HNr_5 HVs_5 HNs_5 HBW_5
          clear HBw206
          clear qr0 qr1 tr qz0 qz1 tz
          have qb0 := HVb_6.out.c0
          have qb1 := HVb_6.out.c1
          have tb := HVb_6.out.lt
          have qz0 := HVz_6.out.c0
          have qz1 := HVz_6.out.c1
          have tz := HVz_6.out.lt
          have qs0 := HVs_6.out.c0
          have qs1 := HVs_6.out.c1
          have fs0 := HVs_6.out.f0 0
          have fs1 := HVs_6.out.f0 1
          have ts := HVs_6.out.lt
          have nea := NEas.out
          have neb := NEbs.out
          have nez := NEzs.out
          have neq := NEqs.out
          have ner := NErs.out
          have HVa_7 := Lib.hid (HVa_6.out.other (x := .bool bn6) (y := .slice sn6 ln6 cn6) NEas.out)
          have HVb_7 := Lib.hid (HVb_6.out.other (x := .bool bn6) (y := .slice sn6 ln6 cn6) NEbs.out)
          have HVz_7 := Lib.hid (HVz_6.out.other (x := .bool bn6) (y := .slice sn6 ln6 cn6) NEzs.out)
          have HVq_7 := Lib.hid (HVq_6.out.other (x := .bool bn6) (y := .slice sn6 ln6 cn6) NEqs.out)
          have HVr_7 := Lib.hid (HVr_6.out.other (x := .bool bn6) (y := .slice sn6 ln6 cn6) NErs.out)
          have HNa_7 := Lib.hid (HNa_6.out.set (b' := bn6) (s' := sn6) (l' := ln6) (c' := cn6) HVs_6.out)
          have HNb_7 := Lib.hid (HNb_6.out.set (b' := bn6) (s' := sn6) (l' := ln6) (c' := cn6) HVs_6.out)
          have HNz_7 := Lib.hid (HNz_6.out.set (b' := bn6) (s' := sn6) (l' := ln6) (c' := cn6) HVs_6.out)
          have HNq_7 := Lib.hid (HNq_6.out.set (b' := bn6) (s' := sn6) (l' := ln6) (c' := cn6) HVs_6.out)
          have HNr_7 := Lib.hid (HNr_6.out.set (b' := bn6) (s' := sn6) (l' := ln6) (c' := cn6) HVs_6.out)
          have HNt_7 := Lib.hid (HNt_6.out.set (b' := bn6) (s' := sn6) (l' := ln6) (c' := cn6) HVs_6.out)
          have HVs_7 := Lib.hid (HVs_6.out.set (b' := bn6) (s' := sn6) (l' := ln6) (c' := cn6))
          have HBW_7 := Lib.hid ((HBW_6.out.setCell (p := ⟨gs, 0, none⟩) LEs.out (.bool bn6)).setCell (p := ⟨gs, 1, none⟩) LEs.out (.slice sn6 ln6 cn6))
          have HNs_7 := HNt_7
          clear HVa_6 HVb_6 HVz_6 HVq_6 HVr_6 HNa_6 HNb_6 HNz_6 HNq_6 HNr_6 HNt_6 HBW_6
          obtain ⟨W208, hW208⟩ : ∃ W, W = ((w206.setCell ⟨gs, 0, none⟩ (.bool bn6)).setCell ⟨gs, 1, none⟩ (.slice sn6 ln6 cn6)).alloc (.cells #[.bool b2, .slice s2 l2 c2] 25) := ⟨_, rfl⟩
          obtain ⟨gm, hgm⟩ : ∃ g, g = w206.heap.size := ⟨_, rfl⟩
          have HBW208 := Lib.hid (show Below (((w206.setCell ⟨gs, 0, none⟩ (.bool bn6)).setCell ⟨gs, 1, none⟩ (.slice sn6 ln6 cn6))).heap.size (((w206.setCell ⟨gs, 0, none⟩ (.bool bn6)).setCell ⟨gs, 1, none⟩ (.slice sn6 ln6 cn6))) W208 by rw [hW208]; exact (Below.refl _ _).alloc (Nat.le_refl _) _)
          have hgx9 : gm = (((w206.setCell ⟨gs, 0, none⟩ (.bool bn6)).setCell ⟨gs, 1, none⟩ (.slice sn6 ln6 cn6))).heap.size := by rw [hgm]; simp
          have HVn := Lib.hid (show VarAt W208 gm b2 s2 l2 c2 by rw [hW208, hgx9]; exact VarAt.made _ _ _ _ _)
          have HNn := Lib.hid (HNb_7.out.below HBW208.out)
          have NEam := Lib.hid (show ga ≠ gm by have := HVa_7.out.lt; omega)
          have NEbm := Lib.hid (show ga + 1 ≠ gm by have := HVb_7.out.lt; omega)
          have NEzm := Lib.hid (show gz ≠ gm by have := HVz_7.out.lt; omega)
          have NEqm := Lib.hid (show gq ≠ gm by have := HVq_7.out.lt; omega)
          have NErm := Lib.hid (show gr ≠ gm by have := HVr_7.out.lt; omega)
          have NEsm := Lib.hid (show gs ≠ gm by have := HVs_7.out.lt; omega)
          have LEm := Lib.hid (show w.heap.size ≤ gm by rw [hgx9]; exact HBW_7.out.size)
          have HW208 := Lib.hid hW208
          have HGm := Lib.hid hgm
          clear hW208 hgm hgx9
          have HVa_8 := Lib.hid (HVa_7.out.below HBW208.out HVa_7.out.lt)
          have HNa_8 := Lib.hid (HNa_7.out.below HBW208.out)
          have HVb_8 := Lib.hid (HVb_7.out.below HBW208.out HVb_7.out.lt)
          have HNb_8 := Lib.hid (HNb_7.out.below HBW208.out)
          have HVz_8 := Lib.hid (HVz_7.out.below HBW208.out HVz_7.out.lt)
          have HNz_8 := Lib.hid (HNz_7.out.below HBW208.out)
          have HVq_8 := Lib.hid (HVq_7.out.below HBW208.out HVq_7.out.lt)
          have HNq_8 := Lib.hid (HNq_7.out.below HBW208.out)
          have HVr_8 := Lib.hid (HVr_7.out.below HBW208.out HVr_7.out.lt)
          have HNr_8 := Lib.hid (HNr_7.out.below HBW208.out)
          have HVs_8 := Lib.hid (HVs_7.out.below HBW208.out HVs_7.out.lt)
          have HNs_8 := Lib.hid (HNs_7.out.below HBW208.out)
          have HBW_8 := Lib.hid (HBW_7.out.trans (HBW208.out.mono HBW_7.out.size))
          clear HVa_7 HNa_7 HVb_7 HNb_7 HVz_7 HNz_7 HVq_7 HNq_7 HVr_7 HNr_7 HVs_7 HNs_7 HBW_7
          have HVm_8 := HVn
          have HNm_8 := HNn
          clear HVn HNn HBW208
          go_wp2_with fail
          rw [← HGm.out, ← HW208.out]
          refine (ncmpV (K := 15) (L := 0) (z := -1) HNb_8.out HNz_8.out (by omega) (by omega) (by have := HY.out; exact cmpZ_neg (by omega))).mono ?_
          rintro e w209 ⟨rfl, hb⟩
          have HBw209 := Lib.hid hb
          clear hb
          have HVa_9 := Lib.hid (HVa_8.out.below HBw209.out HVa_8.out.lt)
          have HNa_9 := Lib.hid (HNa_8.out.below HBw209.out)
          have HVb_9 := Lib.hid (HVb_8.out.below HBw209.out HVb_8.out.lt)
          have HNb_9 := Lib.hid (HNb_8.out.below HBw209.out)
          have HVz_9 := Lib.hid (HVz_8.out.below HBw209.out HVz_8.out.lt)
          have HNz_9 := Lib.hid (HNz_8.out.below HBw209.out)
          have HVq_9 := Lib.hid (HVq_8.out.below HBw209.out HVq_8.out.lt)
          have HNq_9 := Lib.hid (HNq_8.out.below HBw209.out)
          have HVr_9 := Lib.hid (HVr_8.out.below HBw209.out HVr_8.out.lt)
          have HNr_9 := Lib.hid (HNr_8.out.below HBw209.out)
          have HVs_9 := Lib.hid (HVs_8.out.below HBw209.out HVs_8.out.lt)
          have HNs_9 := Lib.hid (HNs_8.out.below HBw209.out)
          have HVm_9 := Lib.hid (HVm_8.out.below HBw209.out HVm_8.out.lt)
          have HNm_9 := Lib.hid (HNm_8.out.below HBw209.out)
          have HBW_9 := Lib.hid (HBW_8.out.trans (HBw209.out.mono HBW_8.out.size))
          clear HVa_8 HNa_8 HVb_8 HNb_8 HVz_8 HNz_8 HVq_8 HNq_8 HVr_8 HNr_8 HVs_8 HNs_8 HVm_8 HNm_8 HBW_8
          clear HBw209
          clear qb0 qb1 tb qz0 qz1 tz qs0 qs1 fs0 fs1 ts nea neb nez neq ner
          have qb0 := HVb_9.out.c0
          have qb1 := HVb_9.out.c1
          have tb := HVb_9.out.lt
          have qz0 := HVz_9.out.c0
          have qz1 := HVz_9.out.c1
          have tz := HVz_9.out.lt
          go_wp2_with fail
          refine (nsub (K := 0) (L := 15) HNz_9.out HNb_9.out (by omega) (by omega)).mono ?_
          rintro e w210 ⟨⟨bn10, sn10, ln10, cn10, rfl, hn⟩, hb⟩
          have HBw210 := Lib.hid hb
          have HNt_10 := Lib.hid hn
          clear hn
          clear hb
          have HVa_10 := Lib.hid (HVa_9.out.below HBw210.out HVa_9.out.lt)
          have HNa_10 := Lib.hid (HNa_9.out.below HBw210.out)
          have HVb_10 := Lib.hid (HVb_9.out.below HBw210.out HVb_9.out.lt)
          have HNb_10 := Lib.hid (HNb_9.out.below HBw210.out)
          have HVz_10 := Lib.hid (HVz_9.out.below HBw210.out HVz_9.out.lt)
          have HNz_10 := Lib.hid (HNz_9.out.below HBw210.out)
          have HVq_10 := Lib.hid (HVq_9.out.below HBw210.out HVq_9.out.lt)
          have HNq_10 := Lib.hid (HNq_9.out.below HBw210.out)
          have HVr_10 := Lib.hid (HVr_9.out.below HBw210.out HVr_9.out.lt)
          have HNr_10 := Lib.hid (HNr_9.out.below HBw210.out)
          have HVs_10 := Lib.hid (HVs_9.out.below HBw210.out HVs_9.out.lt)
          have HNs_10 := Lib.hid (HNs_9.out.below HBw210.out)
          have HVm_10 := Lib.hid (HVm_9.out.below HBw210.out HVm_9.out.lt)
          have HNm_10 := Lib.hid (HNm_9.out.below HBw210.out)
          have HBW_10 := Lib.hid (HBW_9.out.trans (HBw210.out.mono HBW_9.out.size))
          clear HVa_9 HNa_9 HVb_9 HNb_9 HVz_9 HNz_9 HVq_9 HNq_9 HVr_9 HNr_9 HVs_9 HNs_9 HVm_9 HNm_9 HBW_9
          clear HBw210
          clear qb0 qb1 tb qz0 qz1 tz
          have qm0 := HVm_10.out.c0
          have qm1 := HVm_10.out.c1
          have fm0 := HVm_10.out.f0 0
          have fm1 := HVm_10.out.f0 1
          have tm := HVm_10.out.lt
          have HVa_11 := Lib.hid (HVa_10.out.other (x := .bool bn10) (y := .slice sn10 ln10 cn10) NEam.out)
          have HVb_11 := Lib.hid (HVb_10.out.other (x := .bool bn10) (y := .slice sn10 ln10 cn10) NEbm.out)
          have HVz_11 := Lib.hid (HVz_10.out.other (x := .bool bn10) (y := .slice sn10 ln10 cn10) NEzm.out)
          have HVq_11 := Lib.hid (HVq_10.out.other (x := .bool bn10) (y := .slice sn10 ln10 cn10) NEqm.out)
          have HVr_11 := Lib.hid (HVr_10.out.other (x := .bool bn10) (y := .slice sn10 ln10 cn10) NErm.out)
          have HVs_11 := Lib.hid (HVs_10.out.other (x := .bool bn10) (y := .slice sn10 ln10 cn10) NEsm.out)
          have HNa_11 := Lib.hid (HNa_10.out.set (b' := bn10) (s' := sn10) (l' := ln10) (c' := cn10) HVm_10.out)
          have HNb_11 := Lib.hid (HNb_10.out.set (b' := bn10) (s' := sn10) (l' := ln10) (c' := cn10) HVm_10.out)
          have HNz_11 := Lib.hid (HNz_10.out.set (b' := bn10) (s' := sn10) (l' := ln10) (c' := cn10) HVm_10.out)
          have HNq_11 := Lib.hid (HNq_10.out.set (b' := bn10) (s' := sn10) (l' := ln10) (c' := cn10) HVm_10.out)
          have HNr_11 := Lib.hid (HNr_10.out.set (b' := bn10) (s' := sn10) (l' := ln10) (c' := cn10) HVm_10.out)
          have HNs_11 := Lib.hid (HNs_10.out.set (b' := bn10) (s' := sn10) (l' := ln10) (c' := cn10) HVm_10.out)
          have HNt_11 := Lib.hid (HNt_10.out.set (b' := bn10) (s' := sn10) (l' := ln10) (c' := cn10) HVm_10.out)
          have HVm_11 := Lib.hid (HVm_10.out.set (b' := bn10) (s' := sn10) (l' := ln10) (c' := cn10))
          have HBW_11 := Lib.hid ((HBW_10.out.setCell (p := ⟨gm, 0, none⟩) LEm.out (.bool bn10)).setCell (p := ⟨gm, 1, none⟩) LEm.out (.slice sn10 ln10 cn10))
          have HNm_11 := HNt_11
          clear HVa_10 HVb_10 HVz_10 HVq_10 HVr_10 HVs_10 HNa_10 HNb_10 HNz_10 HNq_10 HNr_10 HNs_10 HNt_10 HBW_10
          obtain ⟨WX, hWX⟩ : ∃ W, W = ((w210.setCell ⟨gm, 0, none⟩ (.bool bn10)).setCell ⟨gm, 1, none⟩ (.slice sn10 ln10 cn10)) := ⟨_, rfl⟩
          rw [← hWX] at HVa_11 HVb_11 HVz_11 HVq_11 HVr_11 HVs_11 HVm_11 HNa_11 HNb_11 HNz_11 HNq_11 HNr_11 HNs_11 HNm_11 HBW_11
          have HWX := Lib.hid hWX
          clear hWX
          go_wp2_with fail
          rw [← HWX.out]
          clear qm0 qm1 fm0 fm1 tm
          go_big_unhide
          (try dsimp only [List.append])
          have BC := Lib.hid (show Below WX.heap.size WX WX.drew from (Below.refl _ _).drew)
          refine wp_region_noPanic ?_
          refine wp_region_held_drew (S := fun w' => w'.cell? ⟨ga, 0, none⟩ = some (.bool b1) ∧ w'.cell? ⟨ga, 1, none⟩ = some (.slice s1 l1 c1) ∧ w'.cell? ⟨ga + 1, 0, none⟩ = some (.bool b2) ∧ w'.cell? ⟨ga + 1, 1, none⟩ = some (.slice s2 l2 c2) ∧ w'.cell? ⟨gz, 0, none⟩ = some (.bool false) ∧ w'.cell? ⟨gz, 1, none⟩ = some (.slice none 0 0) ∧ w'.cell? ⟨gq, 0, none⟩ = some (.bool bv1) ∧ w'.cell? ⟨gq, 1, none⟩ = some (.slice sv1 lv1 cv1) ∧ w'.cell? ⟨gr, 0, none⟩ = some (.bool bv2) ∧ w'.cell? ⟨gr, 1, none⟩ = some (.slice sv2 lv2 cv2) ∧ w'.cell? ⟨gs, 0, none⟩ = some (.bool bn6) ∧ w'.cell? ⟨gs, 1, none⟩ = some (.slice sn6 ln6 cn6) ∧ w'.cell? ⟨gm, 0, none⟩ = some (.bool bn10) ∧ w'.cell? ⟨gm, 1, none⟩ = some (.slice sn10 ln10 cn10)) (by kernel_rfl) (by (try dsimp only); exact ⟨(HVa_11.out.below BC.out HVa_11.out.lt).c0, (HVa_11.out.below BC.out HVa_11.out.lt).c1, (HVb_11.out.below BC.out HVb_11.out.lt).c0, (HVb_11.out.below BC.out HVb_11.out.lt).c1, (HVz_11.out.below BC.out HVz_11.out.lt).c0, (HVz_11.out.below BC.out HVz_11.out.lt).c1, (HVq_11.out.below BC.out HVq_11.out.lt).c0, (HVq_11.out.below BC.out HVq_11.out.lt).c1, (HVr_11.out.below BC.out HVr_11.out.lt).c0, (HVr_11.out.below BC.out HVr_11.out.lt).c1, (HVs_11.out.below BC.out HVs_11.out.lt).c0, (HVs_11.out.below BC.out HVs_11.out.lt).c1, (HVm_11.out.below BC.out HVm_11.out.lt).c0, (HVm_11.out.below BC.out HVm_11.out.lt).c1⟩) (fun hHeld => ?_)
          refine' take_any 0 81 (v := _) ?hib0 ?hdb0 (by kernel_rfl) (by kernel_rfl) (by kernel_rfl) (fun _ _ _ h => h) ?hyb0 hHeld ?hrb0
          case hib0 => (simp only [List.getElem?_toArray, List.getElem?_cons_zero]; rfl)
          case hdb0 => rfl
          case hyb0 =>
            refine' Or.inl ⟨?hwb0, ?hxb0⟩
            case hwb0 => rfl
            case hxb0 => (intro w hSw; (try dsimp only at hSw); go_simp; (try with_reducible rfl))
          (try simp only [Act.put, List.setIfInBounds_toArray, List.set_cons_zero, List.set_cons_succ])
          refine' take_any 1 82 (v := _) ?hib1 ?hdb1 (by kernel_rfl) (by kernel_rfl) (by kernel_rfl) (fun _ _ _ h => h) ?hyb1 hHeld ?hrb1
          case hib1 => (simp only [List.getElem?_toArray, List.getElem?_cons_succ, List.getElem?_cons_zero]; rfl)
          case hdb1 => rfl
          case hyb1 =>
            refine' Or.inl ⟨?hwb1, ?hxb1⟩
            case hwb1 => rfl
            case hxb1 => (intro w hSw; (try dsimp only at hSw); go_simp; (try with_reducible rfl))
          (try simp only [Act.put, List.setIfInBounds_toArray, List.set_cons_zero, List.set_cons_succ])
          refine' take_any 2 83 (v := _) ?hib2 ?hdb2 (by kernel_rfl) (by kernel_rfl) (by kernel_rfl) (fun _ _ _ h => h) ?hyb2 hHeld ?hrb2
          case hib2 => (simp only [List.getElem?_toArray, List.getElem?_cons_succ, List.getElem?_cons_zero]; rfl)
          case hdb2 => rfl
          case hyb2 =>
            refine' Or.inl ⟨?hwb2, ?hxb2⟩
            case hwb2 => rfl
            case hxb2 => (intro w hSw; (try dsimp only at hSw); go_simp; (try with_reducible rfl))
          (try simp only [Act.put, List.setIfInBounds_toArray, List.set_cons_zero, List.set_cons_succ])
          refine' take_any 3 84 (v := _) ?hib3 ?hdb3 (by kernel_rfl) (by kernel_rfl) (by kernel_rfl) (fun _ _ _ h => h) ?hyb3 hHeld ?hrb3
          case hib3 => (simp only [List.getElem?_toArray, List.getElem?_cons_succ, List.getElem?_cons_zero]; rfl)
          case hdb3 => rfl
          case hyb3 =>
            refine' Or.inl ⟨?hwb3, ?hxb3⟩
            case hwb3 => rfl
            case hxb3 => (intro w hSw; (try dsimp only at hSw); go_simp; (try with_reducible rfl))
          (try simp only [Act.put, List.setIfInBounds_toArray, List.set_cons_zero, List.set_cons_succ])
          refine' take_any 4 85 (v := _) ?hib4 ?hdb4 (by kernel_rfl) (by kernel_rfl) (by kernel_rfl) (fun _ _ _ h => h) ?hyb4 hHeld ?hrb4
          case hib4 => (simp only [List.getElem?_toArray, List.getElem?_cons_succ, List.getElem?_cons_zero]; rfl)
          case hdb4 => rfl
          case hyb4 =>
            refine' Or.inl ⟨?hwb4, ?hxb4⟩
            case hwb4 => rfl
            case hxb4 => (intro w hSw; (try dsimp only at hSw); go_simp; (try with_reducible rfl))
          (try simp only [Act.put, List.setIfInBounds_toArray, List.set_cons_zero, List.set_cons_succ])
          refine' take_any 5 86 (v := _) ?hib5 ?hdb5 (by kernel_rfl) (by kernel_rfl) (by kernel_rfl) (fun _ _ _ h => h) ?hyb5 hHeld ?hrb5
          case hib5 => (simp only [List.getElem?_toArray, List.getElem?_cons_succ, List.getElem?_cons_zero]; rfl)
          case hdb5 => rfl
          case hyb5 =>
            refine' Or.inl ⟨?hwb5, ?hxb5⟩
            case hwb5 => rfl
            case hxb5 => (intro w hSw; (try dsimp only at hSw); go_simp; (try with_reducible rfl))
          (try simp only [Act.put, List.setIfInBounds_toArray, List.set_cons_zero, List.set_cons_succ])
          refine' take_any 6 87 (v := _) ?hib6 ?hdb6 (by kernel_rfl) (by kernel_rfl) (by kernel_rfl) (fun _ _ _ h => h) ?hyb6 hHeld ?hrb6
          case hib6 => (simp only [List.getElem?_toArray, List.getElem?_cons_succ, List.getElem?_cons_zero]; rfl)
          case hdb6 => rfl
          case hyb6 =>
            refine' Or.inl ⟨?hwb6, ?hxb6⟩
            case hwb6 => rfl
            case hxb6 => (intro w hSw; (try dsimp only at hSw); go_simp; (try with_reducible rfl))
          (try simp only [Act.put, List.setIfInBounds_toArray, List.set_cons_zero, List.set_cons_succ])
          refine' take_any 7 88 (v := _) ?hib7 ?hdb7 (by kernel_rfl) (by kernel_rfl) (by kernel_rfl) (fun _ _ _ h => h) ?hyb7 hHeld ?hrb7
          case hib7 => (simp only [List.getElem?_toArray, List.getElem?_cons_succ, List.getElem?_cons_zero]; rfl)
          case hdb7 => rfl
          case hyb7 =>
            refine' Or.inl ⟨?hwb7, ?hxb7⟩
            case hwb7 => rfl
            case hxb7 => (intro w hSw; (try dsimp only at hSw); go_simp; (try with_reducible rfl))
          (try simp only [Act.put, List.setIfInBounds_toArray, List.set_cons_zero, List.set_cons_succ])
          refine' take_any 8 89 (v := _) ?hib8 ?hdb8 (by kernel_rfl) (by kernel_rfl) (by kernel_rfl) (fun _ _ _ h => h) ?hyb8 hHeld ?hrb8
          case hib8 => (simp only [List.getElem?_toArray, List.getElem?_cons_succ, List.getElem?_cons_zero]; rfl)
          case hdb8 => rfl
          case hyb8 =>
            refine' Or.inl ⟨?hwb8, ?hxb8⟩
            case hwb8 => rfl
            case hxb8 => (intro w hSw; (try dsimp only at hSw); go_simp; (try with_reducible rfl))
          (try simp only [Act.put, List.setIfInBounds_toArray, List.set_cons_zero, List.set_cons_succ])
          refine' take_any 9 90 (v := _) ?hib9 ?hdb9 (by kernel_rfl) (by kernel_rfl) (by kernel_rfl) (fun _ _ _ h => h) ?hyb9 hHeld ?hrb9
          case hib9 => (simp only [List.getElem?_toArray, List.getElem?_cons_succ, List.getElem?_cons_zero]; rfl)
          case hdb9 => rfl
          case hyb9 =>
            refine' Or.inl ⟨?hwb9, ?hxb9⟩
            case hwb9 => rfl
            case hxb9 => (intro w hSw; (try dsimp only at hSw); go_simp; (try with_reducible rfl))
          (try simp only [Act.put, List.setIfInBounds_toArray, List.set_cons_zero, List.set_cons_succ])
          refine' take_any 10 91 (v := _) ?hib10 ?hdb10 (by kernel_rfl) (by kernel_rfl) (by kernel_rfl) (fun _ _ _ h => h) ?hyb10 hHeld ?hrb10
          case hib10 => (simp only [List.getElem?_toArray, List.getElem?_cons_succ, List.getElem?_cons_zero]; rfl)
          case hdb10 => rfl
          case hyb10 =>
            refine' Or.inl ⟨?hwb10, ?hxb10⟩
            case hwb10 => rfl
            case hxb10 => (intro w hSw; (try dsimp only at hSw); go_simp; (try with_reducible rfl))
          (try simp only [Act.put, List.setIfInBounds_toArray, List.set_cons_zero, List.set_cons_succ])
          refine' take_any 11 92 (v := _) ?hib11 ?hdb11 (by kernel_rfl) (by kernel_rfl) (by kernel_rfl) (fun _ _ _ h => h) ?hyb11 hHeld ?hrb11
          case hib11 => (simp only [List.getElem?_toArray, List.getElem?_cons_succ, List.getElem?_cons_zero]; rfl)
          case hdb11 => rfl
          case hyb11 =>
            refine' Or.inl ⟨?hwb11, ?hxb11⟩
            case hwb11 => rfl
            case hxb11 => (intro w hSw; (try dsimp only at hSw); go_simp; (try with_reducible rfl))
          (try simp only [Act.put, List.setIfInBounds_toArray, List.set_cons_zero, List.set_cons_succ])
          refine' take_any 13 94 (v := _) ?hib13 ?hdb13 (by kernel_rfl) (by kernel_rfl) (by kernel_rfl) (fun _ _ _ h => h) ?hyb13 hHeld ?hrb13
          case hib13 => (simp only [List.getElem?_toArray, List.getElem?_cons_succ, List.getElem?_cons_zero]; rfl)
          case hdb13 => rfl
          case hyb13 =>
            refine' Or.inl ⟨?hwb13, ?hxb13⟩
            case hwb13 => rfl
            case hxb13 => (intro w hSw; (try dsimp only at hSw); go_simp; (try with_reducible rfl))
          (try simp only [Act.put, List.setIfInBounds_toArray, List.set_cons_zero, List.set_cons_succ])
          refine' take_any 15 96 (v := _) ?hib15 ?hdb15 (by kernel_rfl) (by kernel_rfl) (by kernel_rfl) (fun _ _ _ h => h) ?hyb15 hHeld ?hrb15
          case hib15 => (simp only [List.getElem?_toArray, List.getElem?_cons_succ, List.getElem?_cons_zero]; rfl)
          case hdb15 => rfl
          case hyb15 =>
            refine' Or.inl ⟨?hwb15, ?hxb15⟩
            case hwb15 => rfl
            case hxb15 => (intro w hSw; (try dsimp only at hSw); go_simp; (try with_reducible rfl))
          (try simp only [Act.put, List.setIfInBounds_toArray, List.set_cons_zero, List.set_cons_succ])
          refine' take_call 12 ?hib12 (by kernel_rfl) ?hrb12
          case hib12 => (simp only [List.getElem?_toArray, List.getElem?_cons_succ, List.getElem?_cons_zero]; rfl)
          intro K hK
          go_simp
          go_at_call 29
          refine (nmul (K := 15) (L := 15) (HNq_11.out.below BC.out) (HNb_11.out.below BC.out) (by omega) (by omega)).mono ?_
          rintro e w101 ⟨⟨b101, s101, l101, c101, rfl, hn⟩, hb⟩
          have HB1 := Lib.hid hb
          have HN1 := Lib.hid hn
          replace BC := Lib.hid (BC.out.trans (hb.mono BC.out.size))
          clear hb hn
          go_wp2_with fail
          clear hHeld
          refine hK.out _ _ (by (try dsimp only); exact ⟨(HVa_11.out.below BC.out HVa_11.out.lt).c0, (HVa_11.out.below BC.out HVa_11.out.lt).c1, (HVb_11.out.below BC.out HVb_11.out.lt).c0, (HVb_11.out.below BC.out HVb_11.out.lt).c1, (HVz_11.out.below BC.out HVz_11.out.lt).c0, (HVz_11.out.below BC.out HVz_11.out.lt).c1, (HVq_11.out.below BC.out HVq_11.out.lt).c0, (HVq_11.out.below BC.out HVq_11.out.lt).c1, (HVr_11.out.below BC.out HVr_11.out.lt).c0, (HVr_11.out.below BC.out HVr_11.out.lt).c1, (HVs_11.out.below BC.out HVs_11.out.lt).c0, (HVs_11.out.below BC.out HVs_11.out.lt).c1, (HVm_11.out.below BC.out HVm_11.out.lt).c0, (HVm_11.out.below BC.out HVm_11.out.lt).c1⟩) (fun hHeld => ?_)
          clear hK K
          (try simp only [Act.put, List.setIfInBounds_toArray, List.set_cons_zero, List.set_cons_succ])
          refine' take_call 14 ?hib14 (by kernel_rfl) ?hrb14
          case hib14 => (simp only [List.getElem?_toArray, List.getElem?_cons_succ, List.getElem?_cons_zero]; rfl)
          intro K hK
          go_simp
          have _hb := HB1.out
          clear _hb
          go_at_call 25
          refine (nadd (K := 30) (L := 15) HN1.out (HNr_11.out.below BC.out) (by omega) (by omega)).mono ?_
          rintro e w102 ⟨⟨b102, s102, l102, c102, rfl, hn⟩, hb⟩
          have HB2 := Lib.hid hb
          have HN2 := Lib.hid hn
          replace BC := Lib.hid (BC.out.trans (hb.mono BC.out.size))
          clear hb hn
          go_wp2_with fail
          clear hHeld
          refine hK.out _ _ (by (try dsimp only); exact ⟨(HVa_11.out.below BC.out HVa_11.out.lt).c0, (HVa_11.out.below BC.out HVa_11.out.lt).c1, (HVb_11.out.below BC.out HVb_11.out.lt).c0, (HVb_11.out.below BC.out HVb_11.out.lt).c1, (HVz_11.out.below BC.out HVz_11.out.lt).c0, (HVz_11.out.below BC.out HVz_11.out.lt).c1, (HVq_11.out.below BC.out HVq_11.out.lt).c0, (HVq_11.out.below BC.out HVq_11.out.lt).c1, (HVr_11.out.below BC.out HVr_11.out.lt).c0, (HVr_11.out.below BC.out HVr_11.out.lt).c1, (HVs_11.out.below BC.out HVs_11.out.lt).c0, (HVs_11.out.below BC.out HVs_11.out.lt).c1, (HVm_11.out.below BC.out HVm_11.out.lt).c0, (HVm_11.out.below BC.out HVm_11.out.lt).c1⟩) (fun hHeld => ?_)
          clear hK K
          (try simp only [Act.put, List.setIfInBounds_toArray, List.set_cons_zero, List.set_cons_succ])
          refine' take_call 16 ?hib16 (by kernel_rfl) ?hrb16
          case hib16 => (simp only [List.getElem?_toArray, List.getElem?_cons_succ, List.getElem?_cons_zero]; rfl)
          intro K hK
          go_simp
          have _hb := HB2.out
          clear _hb
          go_at_call 31
          refine (ncmp_eq (K := 46) (L := 15) HN2.out (HNa_11.out.below BC.out) (by omega) (by omega) (HBACK.out)).mono ?_
          rintro e w103 ⟨rfl, hb⟩
          have HB3 := Lib.hid hb
          replace BC := Lib.hid (BC.out.trans (hb.mono BC.out.size))
          clear hb
          go_wp2_with fail
          clear hHeld
          refine hK.out _ _ (by (try dsimp only); exact ⟨(HVa_11.out.below BC.out HVa_11.out.lt).c0, (HVa_11.out.below BC.out HVa_11.out.lt).c1, (HVb_11.out.below BC.out HVb_11.out.lt).c0, (HVb_11.out.below BC.out HVb_11.out.lt).c1, (HVz_11.out.below BC.out HVz_11.out.lt).c0, (HVz_11.out.below BC.out HVz_11.out.lt).c1, (HVq_11.out.below BC.out HVq_11.out.lt).c0, (HVq_11.out.below BC.out HVq_11.out.lt).c1, (HVr_11.out.below BC.out HVr_11.out.lt).c0, (HVr_11.out.below BC.out HVr_11.out.lt).c1, (HVs_11.out.below BC.out HVs_11.out.lt).c0, (HVs_11.out.below BC.out HVs_11.out.lt).c1, (HVm_11.out.below BC.out HVm_11.out.lt).c0, (HVm_11.out.below BC.out HVm_11.out.lt).c1⟩) (fun hHeld => ?_)
          clear hK K
          (try simp only [Act.put, List.setIfInBounds_toArray, List.set_cons_zero, List.set_cons_succ])
          refine' take_any 17 98 (v := _) ?hib17 ?hdb17 (by kernel_rfl) (by kernel_rfl) (by kernel_rfl) (fun _ _ _ h => h) ?hyb17 hHeld ?hrb17
          case hib17 => (simp only [List.getElem?_toArray, List.getElem?_cons_succ, List.getElem?_cons_zero]; rfl)
          case hdb17 => rfl
          case hyb17 =>
            refine' Or.inl ⟨?hwb17, ?hxb17⟩
            case hwb17 => rfl
            case hxb17 => (intro w hSw; (try dsimp only at hSw); go_simp; (try with_reducible rfl))
          (try simp only [Act.put, List.setIfInBounds_toArray, List.set_cons_zero, List.set_cons_succ])
          refine' take_any 18 99 (v := _) ?hib18 ?hdb18 (by kernel_rfl) (by kernel_rfl) (by kernel_rfl) (fun _ _ _ h => h) ?hyb18 hHeld ?hrb18
          case hib18 => (simp only [List.getElem?_toArray, List.getElem?_cons_succ, List.getElem?_cons_zero]; rfl)
          case hdb18 => rfl
          case hyb18 =>
            refine' Or.inl ⟨?hwb18, ?hxb18⟩
            case hwb18 => rfl
            case hxb18 => (intro w hSw; (try dsimp only at hSw); go_simp; (try with_reducible rfl))
          (try simp only [Act.put, List.setIfInBounds_toArray, List.set_cons_zero, List.set_cons_succ])
          refine' take_any 19 100 (v := _) ?hib19 ?hdb19 (by kernel_rfl) (by kernel_rfl) (by kernel_rfl) (fun _ _ _ h => h) ?hyb19 hHeld ?hrb19
          case hib19 => (simp only [List.getElem?_toArray, List.getElem?_cons_succ, List.getElem?_cons_zero]; rfl)
          case hdb19 => rfl
          case hyb19 =>
            refine' Or.inl ⟨?hwb19, ?hxb19⟩
            case hwb19 => rfl
            case hxb19 => (intro w hSw; (try dsimp only at hSw); go_simp; (try with_reducible rfl))
          (try simp only [Act.put, List.setIfInBounds_toArray, List.set_cons_zero, List.set_cons_succ])
          refine' take_any 20 101 (v := _) ?hib20 ?hdb20 (by kernel_rfl) (by kernel_rfl) (by kernel_rfl) (fun _ _ _ h => h) ?hyb20 hHeld ?hrb20
          case hib20 => (simp only [List.getElem?_toArray, List.getElem?_cons_succ, List.getElem?_cons_zero]; rfl)
          case hdb20 => rfl
          case hyb20 =>
            refine' Or.inl ⟨?hwb20, ?hxb20⟩
            case hwb20 => rfl
            case hxb20 => (intro w hSw; (try dsimp only at hSw); go_simp; (try with_reducible rfl))
          (try simp only [Act.put, List.setIfInBounds_toArray, List.set_cons_zero, List.set_cons_succ])
          refine' take_any 21 102 (v := _) ?hib21 ?hdb21 (by kernel_rfl) (by kernel_rfl) (by kernel_rfl) (fun _ _ _ h => h) ?hyb21 hHeld ?hrb21
          case hib21 => (simp only [List.getElem?_toArray, List.getElem?_cons_succ, List.getElem?_cons_zero]; rfl)
          case hdb21 => rfl
          case hyb21 =>
            refine' Or.inl ⟨?hwb21, ?hxb21⟩
            case hwb21 => rfl
            case hxb21 => (intro w hSw; (try dsimp only at hSw); go_simp; (try with_reducible rfl))
          (try simp only [Act.put, List.setIfInBounds_toArray, List.set_cons_zero, List.set_cons_succ])
          refine' take_call 22 ?hib22 (by kernel_rfl) ?hrb22
          case hib22 => (simp only [List.getElem?_toArray, List.getElem?_cons_succ, List.getElem?_cons_zero]; rfl)
          intro K hK
          go_simp
          have _hb := HB3.out
          clear _hb
          go_at_call 31
          refine (ncmpV (K := 16) (L := 16) (z := (-1)) (HNs_11.out.below BC.out) (HNm_11.out.below BC.out) (by omega) (by omega) (by have h1 := HNEAR.out; have h2 := HY.out; have h3 := HR.out; exact cmpZ_neg (by omega))).mono ?_
          rintro e w104 ⟨rfl, hb⟩
          have HB4 := Lib.hid hb
          replace BC := Lib.hid (BC.out.trans (hb.mono BC.out.size))
          clear hb
          go_wp2_with fail
          clear hHeld
          refine hK.out _ _ (by (try dsimp only); exact ⟨(HVa_11.out.below BC.out HVa_11.out.lt).c0, (HVa_11.out.below BC.out HVa_11.out.lt).c1, (HVb_11.out.below BC.out HVb_11.out.lt).c0, (HVb_11.out.below BC.out HVb_11.out.lt).c1, (HVz_11.out.below BC.out HVz_11.out.lt).c0, (HVz_11.out.below BC.out HVz_11.out.lt).c1, (HVq_11.out.below BC.out HVq_11.out.lt).c0, (HVq_11.out.below BC.out HVq_11.out.lt).c1, (HVr_11.out.below BC.out HVr_11.out.lt).c0, (HVr_11.out.below BC.out HVr_11.out.lt).c1, (HVs_11.out.below BC.out HVs_11.out.lt).c0, (HVs_11.out.below BC.out HVs_11.out.lt).c1, (HVm_11.out.below BC.out HVm_11.out.lt).c0, (HVm_11.out.below BC.out HVm_11.out.lt).c1⟩) (fun hHeld => ?_)
          clear hK K
          (try simp only [Act.put, List.setIfInBounds_toArray, List.set_cons_zero, List.set_cons_succ])
          refine' take_any 23 104 (v := _) ?hib23 ?hdb23 (by kernel_rfl) (by kernel_rfl) (by kernel_rfl) (fun _ _ _ h => h) ?hyb23 hHeld ?hrb23
          case hib23 => (simp only [List.getElem?_toArray, List.getElem?_cons_succ, List.getElem?_cons_zero]; rfl)
          case hdb23 => rfl
          case hyb23 =>
            refine' Or.inl ⟨?hwb23, ?hxb23⟩
            case hwb23 => rfl
            case hxb23 => (intro w hSw; (try dsimp only at hSw); go_simp; (try with_reducible rfl))
          (try simp only [Act.put, List.setIfInBounds_toArray, List.set_cons_zero, List.set_cons_succ])
          refine' take_any 24 105 (v := _) ?hib24 ?hdb24 (by kernel_rfl) (by kernel_rfl) (by kernel_rfl) (fun _ _ _ h => h) ?hyb24 hHeld ?hrb24
          case hib24 => (simp only [List.getElem?_toArray, List.getElem?_cons_succ, List.getElem?_cons_zero]; rfl)
          case hdb24 => rfl
          case hyb24 =>
            refine' Or.inl ⟨?hwb24, ?hxb24⟩
            case hwb24 => rfl
            case hxb24 => (intro w hSw; (try dsimp only at hSw); go_simp; (try with_reducible rfl))
          (try simp only [Act.put, List.setIfInBounds_toArray, List.set_cons_zero, List.set_cons_succ])
          refine' take_any 25 106 (v := _) ?hib25 ?hdb25 (by kernel_rfl) (by kernel_rfl) (by kernel_rfl) (fun _ _ _ h => h) ?hyb25 hHeld ?hrb25
          case hib25 => (simp only [List.getElem?_toArray, List.getElem?_cons_succ, List.getElem?_cons_zero]; rfl)
          case hdb25 => rfl
          case hyb25 =>
            refine' Or.inl ⟨?hwb25, ?hxb25⟩
            case hwb25 => rfl
            case hxb25 => (intro w hSw; (try dsimp only at hSw); go_simp; (try with_reducible rfl))
          (try simp only [Act.put, List.setIfInBounds_toArray, List.set_cons_zero, List.set_cons_succ])
          refine' take_any 26 107 (v := _) ?hib26 ?hdb26 (by kernel_rfl) (by kernel_rfl) (by kernel_rfl) (fun _ _ _ h => h) ?hyb26 hHeld ?hrb26
          case hib26 => (simp only [List.getElem?_toArray, List.getElem?_cons_succ, List.getElem?_cons_zero]; rfl)
          case hdb26 => rfl
          case hyb26 =>
            refine' Or.inl ⟨?hwb26, ?hxb26⟩
            case hwb26 => rfl
            case hxb26 => (intro w hSw; (try dsimp only at hSw); go_simp; (try with_reducible rfl))
          (try simp only [Act.put, List.setIfInBounds_toArray, List.set_cons_zero, List.set_cons_succ])
          refine' take_any 27 108 (v := _) ?hib27 ?hdb27 (by kernel_rfl) (by kernel_rfl) (by kernel_rfl) (fun _ _ _ h => h) ?hyb27 hHeld ?hrb27
          case hib27 => (simp only [List.getElem?_toArray, List.getElem?_cons_succ, List.getElem?_cons_zero]; rfl)
          case hdb27 => rfl
          case hyb27 =>
            refine' Or.inl ⟨?hwb27, ?hxb27⟩
            case hwb27 => rfl
            case hxb27 => (intro w hSw; (try dsimp only at hSw); go_simp; (try with_reducible rfl))
          (try simp only [Act.put, List.setIfInBounds_toArray, List.set_cons_zero, List.set_cons_succ])
          refine' take_call 28 ?hib28 (by kernel_rfl) ?hrb28
          case hib28 => (simp only [List.getElem?_toArray, List.getElem?_cons_succ, List.getElem?_cons_zero]; rfl)
          intro K hK
          go_simp
          have _hb := HB4.out
          clear _hb
          go_at_call 31
          refine (ncmpV (K := 15) (L := 0) (z := (-1)) (HNr_11.out.below BC.out) (HNz_11.out.below BC.out) (by omega) (by omega) (cmpZ_neg HR.out)).mono ?_
          rintro e w105 ⟨rfl, hb⟩
          have HB5 := Lib.hid hb
          replace BC := Lib.hid (BC.out.trans (hb.mono BC.out.size))
          clear hb
          go_wp2_with fail
          clear hHeld
          refine hK.out _ _ (by (try dsimp only); exact ⟨(HVa_11.out.below BC.out HVa_11.out.lt).c0, (HVa_11.out.below BC.out HVa_11.out.lt).c1, (HVb_11.out.below BC.out HVb_11.out.lt).c0, (HVb_11.out.below BC.out HVb_11.out.lt).c1, (HVz_11.out.below BC.out HVz_11.out.lt).c0, (HVz_11.out.below BC.out HVz_11.out.lt).c1, (HVq_11.out.below BC.out HVq_11.out.lt).c0, (HVq_11.out.below BC.out HVq_11.out.lt).c1, (HVr_11.out.below BC.out HVr_11.out.lt).c0, (HVr_11.out.below BC.out HVr_11.out.lt).c1, (HVs_11.out.below BC.out HVs_11.out.lt).c0, (HVs_11.out.below BC.out HVs_11.out.lt).c1, (HVm_11.out.below BC.out HVm_11.out.lt).c0, (HVm_11.out.below BC.out HVm_11.out.lt).c1⟩) (fun hHeld => ?_)
          clear hK K
          (try simp only [Act.put, List.setIfInBounds_toArray, List.set_cons_zero, List.set_cons_succ])
          refine' take_any 29 110 (v := _) ?hib29 ?hdb29 (by kernel_rfl) (by kernel_rfl) (by kernel_rfl) (fun _ _ _ h => h) ?hyb29 hHeld ?hrb29
          case hib29 => (simp only [List.getElem?_toArray, List.getElem?_cons_succ, List.getElem?_cons_zero]; rfl)
          case hdb29 => rfl
          case hyb29 =>
            refine' Or.inl ⟨?hwb29, ?hxb29⟩
            case hwb29 => rfl
            case hxb29 => (intro w hSw; (try dsimp only at hSw); go_simp; (try with_reducible rfl))
          (try simp only [Act.put, List.setIfInBounds_toArray, List.set_cons_zero, List.set_cons_succ])
          refine' take_any 30 111 (v := _) ?hib30 ?hdb30 (by kernel_rfl) (by kernel_rfl) (by kernel_rfl) (fun _ _ _ h => h) ?hyb30 hHeld ?hrb30
          case hib30 => (simp only [List.getElem?_toArray, List.getElem?_cons_succ, List.getElem?_cons_zero]; rfl)
          case hdb30 => rfl
          case hyb30 =>
            refine' Or.inl ⟨?hwb30, ?hxb30⟩
            case hwb30 => rfl
            case hxb30 => (intro w hSw; (try dsimp only at hSw); go_simp; (try with_reducible rfl))
          (try simp only [Act.put, List.setIfInBounds_toArray, List.set_cons_zero, List.set_cons_succ])
          refine' take_any 31 112 (v := _) ?hib31 ?hdb31 (by kernel_rfl) (by kernel_rfl) (by kernel_rfl) (fun _ _ _ h => h) ?hyb31 hHeld ?hrb31
          case hib31 => (simp only [List.getElem?_toArray, List.getElem?_cons_succ, List.getElem?_cons_zero]; rfl)
          case hdb31 => rfl
          case hyb31 =>
            refine' Or.inl ⟨?hwb31, ?hxb31⟩
            case hwb31 => rfl
            case hxb31 => (intro w hSw; (try dsimp only at hSw); go_simp; (try with_reducible rfl))
          (try simp only [Act.put, List.setIfInBounds_toArray, List.set_cons_zero, List.set_cons_succ])
          refine' take_any 32 113 (v := _) ?hib32 ?hdb32 (by kernel_rfl) (by kernel_rfl) (by kernel_rfl) (fun _ _ _ h => h) ?hyb32 hHeld ?hrb32
          case hib32 => (simp only [List.getElem?_toArray, List.getElem?_cons_succ, List.getElem?_cons_zero]; rfl)
          case hdb32 => rfl
          case hyb32 =>
            refine' Or.inl ⟨?hwb32, ?hxb32⟩
            case hwb32 => rfl
            case hxb32 => (intro w hSw; (try dsimp only at hSw); go_simp; (try with_reducible rfl))
          (try simp only [Act.put, List.setIfInBounds_toArray, List.set_cons_zero, List.set_cons_succ])
          refine' take_any 34 115 (v := _) ?hib34 ?hdb34 (by kernel_rfl) (by kernel_rfl) (by kernel_rfl) (fun _ _ _ h => h) ?hyb34 hHeld ?hrb34
          case hib34 => (simp only [List.getElem?_toArray, List.getElem?_cons_succ, List.getElem?_cons_zero]; rfl)
          case hdb34 => rfl
          case hyb34 =>
            refine' Or.inl ⟨?hwb34, ?hxb34⟩
            case hwb34 => rfl
            case hxb34 => (intro w hSw; (try dsimp only at hSw); go_simp; (try with_reducible rfl))
          (try simp only [Act.put, List.setIfInBounds_toArray, List.set_cons_zero, List.set_cons_succ])
          refine' take_any 35 116 (v := _) ?hib35 ?hdb35 (by kernel_rfl) (by kernel_rfl) (by kernel_rfl) (fun _ _ _ h => h) ?hyb35 hHeld ?hrb35
          case hib35 => (simp only [List.getElem?_toArray, List.getElem?_cons_succ, List.getElem?_cons_zero]; rfl)
          case hdb35 => rfl
          case hyb35 =>
            refine' Or.inl ⟨?hwb35, ?hxb35⟩
            case hwb35 => rfl
            case hxb35 => (intro w hSw; (try dsimp only at hSw); go_simp; (try with_reducible rfl))
          (try simp only [Act.put, List.setIfInBounds_toArray, List.set_cons_zero, List.set_cons_succ])
          refine' take_call 33 ?hib33 (by kernel_rfl) ?hrb33
          case hib33 => (simp only [List.getElem?_toArray, List.getElem?_cons_succ, List.getElem?_cons_zero]; rfl)
          intro K hK
          go_simp
          have _hb := HB5.out
          clear _hb
          go_at_call 31
          refine (ncmpV (K := 15) (L := 0) (z := (-1)) (HNr_11.out.below BC.out) (HNz_11.out.below BC.out) (by omega) (by omega) (cmpZ_neg HR.out)).mono ?_
          rintro e w106 ⟨rfl, hb⟩
          have HB6 := Lib.hid hb
          replace BC := Lib.hid (BC.out.trans (hb.mono BC.out.size))
          clear hb
          go_wp2_with fail
          clear hHeld
          refine hK.out _ _ (by (try dsimp only); exact ⟨(HVa_11.out.below BC.out HVa_11.out.lt).c0, (HVa_11.out.below BC.out HVa_11.out.lt).c1, (HVb_11.out.below BC.out HVb_11.out.lt).c0, (HVb_11.out.below BC.out HVb_11.out.lt).c1, (HVz_11.out.below BC.out HVz_11.out.lt).c0, (HVz_11.out.below BC.out HVz_11.out.lt).c1, (HVq_11.out.below BC.out HVq_11.out.lt).c0, (HVq_11.out.below BC.out HVq_11.out.lt).c1, (HVr_11.out.below BC.out HVr_11.out.lt).c0, (HVr_11.out.below BC.out HVr_11.out.lt).c1, (HVs_11.out.below BC.out HVs_11.out.lt).c0, (HVs_11.out.below BC.out HVs_11.out.lt).c1, (HVm_11.out.below BC.out HVm_11.out.lt).c0, (HVm_11.out.below BC.out HVm_11.out.lt).c1⟩) (fun hHeld => ?_)
          clear hK K
          (try simp only [Act.put, List.setIfInBounds_toArray, List.set_cons_zero, List.set_cons_succ])
          refine' take_call 36 ?hib36 (by kernel_rfl) ?hrb36
          case hib36 => (simp only [List.getElem?_toArray, List.getElem?_cons_succ, List.getElem?_cons_zero]; rfl)
          intro K hK
          go_simp
          have _hb := HB6.out
          clear _hb
          go_at_call 31
          refine (ncmpV (K := 15) (L := 0) (z := (-1)) (HNa_11.out.below BC.out) (HNz_11.out.below BC.out) (by omega) (by omega) (cmpZ_neg (HNEG.out HR.out))).mono ?_
          rintro e w107 ⟨rfl, hb⟩
          have HB7 := Lib.hid hb
          replace BC := Lib.hid (BC.out.trans (hb.mono BC.out.size))
          clear hb
          go_wp2_with fail
          clear hHeld
          refine hK.out _ _ (by (try dsimp only); exact ⟨(HVa_11.out.below BC.out HVa_11.out.lt).c0, (HVa_11.out.below BC.out HVa_11.out.lt).c1, (HVb_11.out.below BC.out HVb_11.out.lt).c0, (HVb_11.out.below BC.out HVb_11.out.lt).c1, (HVz_11.out.below BC.out HVz_11.out.lt).c0, (HVz_11.out.below BC.out HVz_11.out.lt).c1, (HVq_11.out.below BC.out HVq_11.out.lt).c0, (HVq_11.out.below BC.out HVq_11.out.lt).c1, (HVr_11.out.below BC.out HVr_11.out.lt).c0, (HVr_11.out.below BC.out HVr_11.out.lt).c1, (HVs_11.out.below BC.out HVs_11.out.lt).c0, (HVs_11.out.below BC.out HVs_11.out.lt).c1, (HVm_11.out.below BC.out HVm_11.out.lt).c0, (HVm_11.out.below BC.out HVm_11.out.lt).c1⟩) (fun hHeld => ?_)
          clear hK K
          (try simp only [Act.put, List.setIfInBounds_toArray, List.set_cons_zero, List.set_cons_succ])
          refine' take_any 37 118 (v := _) ?hib37 ?hdb37 (by kernel_rfl) (by kernel_rfl) (by kernel_rfl) (fun _ _ _ h => h) ?hyb37 hHeld ?hrb37
          case hib37 => (simp only [List.getElem?_toArray, List.getElem?_cons_succ, List.getElem?_cons_zero]; rfl)
          case hdb37 => rfl
          case hyb37 =>
            refine' Or.inl ⟨?hwb37, ?hxb37⟩
            case hwb37 => rfl
            case hxb37 => (intro w hSw; (try dsimp only at hSw); go_simp; (try with_reducible rfl))
          (try simp only [Act.put, List.setIfInBounds_toArray, List.set_cons_zero, List.set_cons_succ])
          refine' take_any 38 119 (v := _) ?hib38 ?hdb38 (by kernel_rfl) (by kernel_rfl) (by kernel_rfl) (fun _ _ _ h => h) ?hyb38 hHeld ?hrb38
          case hib38 => (simp only [List.getElem?_toArray, List.getElem?_cons_succ, List.getElem?_cons_zero]; rfl)
          case hdb38 => rfl
          case hyb38 =>
            refine' Or.inl ⟨?hwb38, ?hxb38⟩
            case hwb38 => rfl
            case hxb38 => (intro w hSw; (try dsimp only at hSw); go_simp; (try with_reducible rfl))
          (try simp only [Act.put, List.setIfInBounds_toArray, List.set_cons_zero, List.set_cons_succ])
          refine' take_any 39 120 (v := _) ?hib39 ?hdb39 (by kernel_rfl) (by kernel_rfl) (by kernel_rfl) (fun _ _ _ h => h) ?hyb39 hHeld ?hrb39
          case hib39 => (simp only [List.getElem?_toArray, List.getElem?_cons_succ, List.getElem?_cons_zero]; rfl)
          case hdb39 => rfl
          case hyb39 =>
            refine' Or.inl ⟨?hwb39, ?hxb39⟩
            case hwb39 => rfl
            case hxb39 => (intro w hSw; (try dsimp only at hSw); go_simp; (try with_reducible rfl))
          (try simp only [Act.put, List.setIfInBounds_toArray, List.set_cons_zero, List.set_cons_succ])
          refine' take_any 40 4 (v := _) ?hib40 ?hdb40 (by kernel_rfl) (by kernel_rfl) (by kernel_rfl) (fun _ _ _ h => h) ?hyb40 hHeld ?hrb40
          case hib40 => (simp only [List.getElem?_toArray, List.getElem?_cons_succ, List.getElem?_cons_zero]; rfl)
          case hdb40 => rfl
          case hyb40 =>
            refine' Or.inl ⟨?hwb40, ?hxb40⟩
            case hwb40 => rfl
            case hxb40 => (intro w hSw; (try dsimp only at hSw); go_simp; (try with_reducible rfl))
          (try simp only [Act.put, List.setIfInBounds_toArray, List.set_cons_zero, List.set_cons_succ])
          refine wpAnyH_done (by kernel_rfl) ?_ _
          refine NoPanic.normal ?_
          all_goals
            go_wp2
            go_ret
            exact ⟨rfl, HBW_11.out.trans (BC.out.mono HBW_11.out.size)⟩
      · have HR := Lib.hid hr
        clear hr
        as_aux_lemma =>
          go_wp2_with fail
          rw [← HG.out, ← HW.out, ← HGZ.out]
          refine (nquo1 (K := 15) (L := 15) HNA.out HNB.out (by omega) (by omega) HY0.out HQN.out).mono ?_
          rintro e w201 ⟨⟨bv1, sv1, lv1, cv1, rfl, hn⟩, hb⟩
          clear A0 A1 B0 B1 Z0 Z1
          have qa0 := (HVA.out.below hb HVA.out.lt).c0
          have qa1 := (HVA.out.below hb HVA.out.lt).c1
          have ta := (HVA.out.below hb HVA.out.lt).lt
          have qb0 := (HVB.out.below hb HVB.out.lt).c0
          have qb1 := (HVB.out.below hb HVB.out.lt).c1
          have tb := (HVB.out.below hb HVB.out.lt).lt
          have qz0 := (HVZ.out.below hb HVZ.out.lt).c0
          have qz1 := (HVZ.out.below hb HVZ.out.lt).c1
          have tz := (HVZ.out.below hb HVZ.out.lt).lt
          obtain ⟨W201, hW201⟩ : ∃ W, W = w201.alloc (.cells #[.bool bv1, .slice sv1 lv1 cv1] 25) := ⟨_, rfl⟩
          obtain ⟨gq, hgq⟩ : ∃ g, g = w201.heap.size := ⟨_, rfl⟩
          have HBW201 := Lib.hid (show Below W.heap.size W W201 by rw [hW201]; exact hb.alloc hb.size _)
          have HVn := Lib.hid (show VarAt W201 gq bv1 sv1 lv1 cv1 by rw [hW201, hgq]; exact VarAt.made _ _ _ _ _)
          have HNn := Lib.hid (show NumIs 15 W201 _ qn by rw [hW201]; exact hn.alloc _)
          have HW201 := Lib.hid hW201
          have HGq := Lib.hid hgq
          clear hn hb hW201 hgq
          have HVa_1 := Lib.hid (HVA.out.below HBW201.out HVA.out.lt)
          have HNa_1 := Lib.hid (HNA.out.below HBW201.out)
          have HVb_1 := Lib.hid (HVB.out.below HBW201.out HVB.out.lt)
          have HNb_1 := Lib.hid (HNB.out.below HBW201.out)
          have HVz_1 := Lib.hid (HVZ.out.below HBW201.out HVZ.out.lt)
          have HNz_1 := Lib.hid (HNZ.out.below HBW201.out)
          have HBW_1 := Lib.hid (HBW.out.trans (HBW201.out.mono HBW.out.size))
          clear HVA HNA HVB HNB HVZ HNZ HBW
          have HVq_1 := HVn
          have HNq_1 := HNn
          clear HVn HNn HBW201
          go_wp2_with fail
          rw [← HGq.out, ← HW201.out]
          refine (nrem1 (K := 15) (L := 15) HNa_1.out HNb_1.out (by omega) (by omega) HY0.out HRN.out).mono ?_
          rintro e w202 ⟨⟨bv2, sv2, lv2, cv2, rfl, hn⟩, hb⟩
          clear qa0 qa1 ta qb0 qb1 tb qz0 qz1 tz
          have qb0 := (HVb_1.out.below hb HVb_1.out.lt).c0
          have qb1 := (HVb_1.out.below hb HVb_1.out.lt).c1
          have tb := (HVb_1.out.below hb HVb_1.out.lt).lt
          have qz0 := (HVz_1.out.below hb HVz_1.out.lt).c0
          have qz1 := (HVz_1.out.below hb HVz_1.out.lt).c1
          have tz := (HVz_1.out.below hb HVz_1.out.lt).lt
          obtain ⟨W202, hW202⟩ : ∃ W, W = w202.alloc (.cells #[.bool bv2, .slice sv2 lv2 cv2] 25) := ⟨_, rfl⟩
          obtain ⟨gr, hgr⟩ : ∃ g, g = w202.heap.size := ⟨_, rfl⟩
          have HBW202 := Lib.hid (show Below W201.heap.size W201 W202 by rw [hW202]; exact hb.alloc hb.size _)
          have HVn := Lib.hid (show VarAt W202 gr bv2 sv2 lv2 cv2 by rw [hW202, hgr]; exact VarAt.made _ _ _ _ _)
          have HNn := Lib.hid (show NumIs 15 W202 _ rn by rw [hW202]; exact hn.alloc _)
          have HW202 := Lib.hid hW202
          have HGr := Lib.hid hgr
          clear hn hb hW202 hgr
          have HVa_2 := Lib.hid (HVa_1.out.below HBW202.out HVa_1.out.lt)
          have HNa_2 := Lib.hid (HNa_1.out.below HBW202.out)
          have HVb_2 := Lib.hid (HVb_1.out.below HBW202.out HVb_1.out.lt)
          have HNb_2 := Lib.hid (HNb_1.out.below HBW202.out)
          have HVz_2 := Lib.hid (HVz_1.out.below HBW202.out HVz_1.out.lt)
          have HNz_2 := Lib.hid (HNz_1.out.below HBW202.out)
          have HVq_2 := Lib.hid (HVq_1.out.below HBW202.out HVq_1.out.lt)
          have HNq_2 := Lib.hid (HNq_1.out.below HBW202.out)
          have HBW_2 := Lib.hid (HBW_1.out.trans (HBW202.out.mono HBW_1.out.size))
          clear HVa_1 HNa_1 HVb_1 HNb_1 HVz_1 HNz_1 HVq_1 HNq_1 HBW_1
          have HVr_2 := HVn
          have HNr_2 := HNn
          clear HVn HNn HBW202
          go_wp2_with fail
          rw [← HGr.out, ← HW202.out]
          refine (ncmpV (K := 15) (L := 0) (z := -1) HNb_2.out HNz_2.out (by omega) (by omega) (by have := HY.out; exact cmpZ_neg (by omega))).mono ?_
          rintro e w203 ⟨rfl, hb⟩
          have HBw203 := Lib.hid hb
          clear hb
          have HVa_3 := Lib.hid (HVa_2.out.below HBw203.out HVa_2.out.lt)
          have HNa_3 := Lib.hid (HNa_2.out.below HBw203.out)
          have HVb_3 := Lib.hid (HVb_2.out.below HBw203.out HVb_2.out.lt)
          have HNb_3 := Lib.hid (HNb_2.out.below HBw203.out)
          have HVz_3 := Lib.hid (HVz_2.out.below HBw203.out HVz_2.out.lt)
          have HNz_3 := Lib.hid (HNz_2.out.below HBw203.out)
          have HVq_3 := Lib.hid (HVq_2.out.below HBw203.out HVq_2.out.lt)
          have HNq_3 := Lib.hid (HNq_2.out.below HBw203.out)
          have HVr_3 := Lib.hid (HVr_2.out.below HBw203.out HVr_2.out.lt)
          have HNr_3 := Lib.hid (HNr_2.out.below HBw203.out)
          have HBW_3 := Lib.hid (HBW_2.out.trans (HBw203.out.mono HBW_2.out.size))
          clear HVa_2 HNa_2 HVb_2 HNb_2 HVz_2 HNz_2 HVq_2 HNq_2 HVr_2 HNr_2 HBW_2
          clear HBw203
          clear qb0 qb1 tb qz0 qz1 tz
          have qr0 := HVr_3.out.c0
          have qr1 := HVr_3.out.c1
          have tr := HVr_3.out.lt
          have qz0 := HVz_3.out.c0
          have qz1 := HVz_3.out.c1
          have tz := HVz_3.out.lt
          obtain ⟨W204, hW204⟩ : ∃ W, W = w203.alloc (.cells #[.bool bv2, .slice sv2 lv2 cv2] 25) := ⟨_, rfl⟩
          obtain ⟨gs, hgs⟩ : ∃ g, g = w203.heap.size := ⟨_, rfl⟩
          have HBW204 := Lib.hid (show Below (w203).heap.size (w203) W204 by rw [hW204]; exact (Below.refl _ _).alloc (Nat.le_refl _) _)
          have hgx9 : gs = (w203).heap.size := by rw [hgs]
          have HVn := Lib.hid (show VarAt W204 gs bv2 sv2 lv2 cv2 by rw [hW204, hgx9]; exact VarAt.made _ _ _ _ _)
          have HNn := Lib.hid (HNr_3.out.below HBW204.out)
          have NEas := Lib.hid (show ga ≠ gs by have := HVa_3.out.lt; omega)
          have NEbs := Lib.hid (show ga + 1 ≠ gs by have := HVb_3.out.lt; omega)
          have NEzs := Lib.hid (show gz ≠ gs by have := HVz_3.out.lt; omega)
          have NEqs := Lib.hid (show gq ≠ gs by have := HVq_3.out.lt; omega)
          have NErs := Lib.hid (show gr ≠ gs by have := HVr_3.out.lt; omega)
          have LEs := Lib.hid (show w.heap.size ≤ gs by rw [hgx9]; exact HBW_3.out.size)
          have HW204 := Lib.hid hW204
          have HGs := Lib.hid hgs
          clear hW204 hgs hgx9
          have HVa_4 := Lib.hid (HVa_3.out.below HBW204.out HVa_3.out.lt)
          have HNa_4 := Lib.hid (HNa_3.out.below HBW204.out)
          have HVb_4 := Lib.hid (HVb_3.out.below HBW204.out HVb_3.out.lt)
          have HNb_4 := Lib.hid (HNb_3.out.below HBW204.out)
          have HVz_4 := Lib.hid (HVz_3.out.below HBW204.out HVz_3.out.lt)
          have HNz_4 := Lib.hid (HNz_3.out.below HBW204.out)
          have HVq_4 := Lib.hid (HVq_3.out.below HBW204.out HVq_3.out.lt)
          have HNq_4 := Lib.hid (HNq_3.out.below HBW204.out)
          have HVr_4 := Lib.hid (HVr_3.out.below HBW204.out HVr_3.out.lt)
          have HNr_4 := Lib.hid (HNr_3.out.below HBW204.out)
          have HBW_4 := Lib.hid (HBW_3.out.trans (HBW204.out.mono HBW_3.out.size))
          clear HVa_3 HNa_3 HVb_3 HNb_3 HVz_3 HNz_3 HVq_3 HNq_3 HVr_3 HNr_3 HBW_3
          have HVs_4 := HVn
          have HNs_4 := HNn
          clear HVn HNn HBW204
          go_wp2_with fail
          rw [← HGs.out, ← HW204.out]
          refine (ncmpV (K := 15) (L := 0) (z := 0) HNr_4.out HNz_4.out (by omega) (by omega) (cmpZ_eq HR.out)).mono ?_
          rintro e w205 ⟨rfl, hb⟩
          have HBw205 := Lib.hid hb
          clear hb
          have HVa_5 := Lib.hid (HVa_4.out.below HBw205.out HVa_4.out.lt)
          have HNa_5 := Lib.hid (HNa_4.out.below HBw205.out)
          have HVb_5 := Lib.hid (HVb_4.out.below HBw205.out HVb_4.out.lt)
          have HNb_5 := Lib.hid (HNb_4.out.below HBw205.out)
          have HVz_5 := Lib.hid (HVz_4.out.below HBw205.out HVz_4.out.lt)
          have HNz_5 := Lib.hid (HNz_4.out.below HBw205.out)
          have HVq_5 := Lib.hid (HVq_4.out.below HBw205.out HVq_4.out.lt)
          have HNq_5 := Lib.hid (HNq_4.out.below HBw205.out)
          have HVr_5 := Lib.hid (HVr_4.out.below HBw205.out HVr_4.out.lt)
          have HNr_5 := Lib.hid (HNr_4.out.below HBw205.out)
          have HVs_5 := Lib.hid (HVs_4.out.below HBw205.out HVs_4.out.lt)
          have HNs_5 := Lib.hid (HNs_4.out.below HBw205.out)
          have HBW_5 := Lib.hid (HBW_4.out.trans (HBw205.out.mono HBW_4.out.size))
          clear HVa_4 HNa_4 HVb_4 HNb_4 HVz_4 HNz_4 HVq_4 HNq_4 HVr_4 HNr_4 HVs_4 HNs_4 HBW_4
          clear HBw205
          clear qr0 qr1 tr qz0 qz1 tz
          have qb0 := HVb_5.out.c0
          have qb1 := HVb_5.out.c1
          have tb := HVb_5.out.lt
          have qz0 := HVz_5.out.c0
          have qz1 := HVz_5.out.c1
          have tz := HVz_5.out.lt
          obtain ⟨W206, hW206⟩ : ∃ W, W = w205.alloc (.cells #[.bool b2, .slice s2 l2 c2] 25) := ⟨_, rfl⟩
          obtain ⟨gm, hgm⟩ : ∃ g, g = w205.heap.size := ⟨_, rfl⟩
          have HBW206 := Lib.hid (show Below (w205).heap.size (w205) W206 by rw [hW206]; exact (Below.refl _ _).alloc (Nat.le_refl _) _)
          have hgx9 : gm = (w205).heap.size := by rw [hgm]
          have HVn := Lib.hid (show VarAt W206 gm b2 s2 l2 c2 by rw [hW206, hgx9]; exact VarAt.made _ _ _ _ _)
          have HNn := Lib.hid (HNb_5.out.below HBW206.out)
          have NEam := Lib.hid (show ga ≠ gm by have := HVa_5.out.lt; omega)
          have NEbm := Lib.hid (show ga + 1 ≠ gm by have := HVb_5.out.lt; omega)
          have NEzm := Lib.hid (show gz ≠ gm by have := HVz_5.out.lt; omega)
          have NEqm := Lib.hid (show gq ≠ gm by have := HVq_5.out.lt; omega)
          have NErm := Lib.hid (show gr ≠ gm by have := HVr_5.out.lt; omega)
          have NEsm := Lib.hid (show gs ≠ gm by have := HVs_5.out.lt; omega)
          have LEm := Lib.hid (show w.heap.size ≤ gm by rw [hgx9]; exact HBW_5.out.size)
          have HW206 := Lib.hid hW206
          have HGm := Lib.hid hgm
          clear hW206 hgm hgx9
          have HVa_6 := Lib.hid (HVa_5.out.below HBW206.out HVa_5.out.lt)
          have HNa_6 := Lib.hid (HNa_5.out.below HBW206.out)
          have HVb_6 := Lib.hid (HVb_5.out.below HBW206.out HVb_5.out.lt)
          have HNb_6 := Lib.hid (HNb_5.out.below HBW206.out)
          have HVz_6 := Lib.hid (HVz_5.out.below HBW206.out HVz_5.out.lt)
          have HNz_6 := Lib.hid (HNz_5.out.below HBW206.out)
          have HVq_6 := Lib.hid (HVq_5.out.below HBW206.out HVq_5.out.lt)
          have HNq_6 := Lib.hid (HNq_5.out.below HBW206.out)
          have HVr_6 := Lib.hid (HVr_5.out.below HBW206.out HVr_5.out.lt)
          have HNr_6 := Lib.hid (HNr_5.out.below HBW206.out)
          have HVs_6 := Lib.hid (HVs_5.out.below HBW206.out HVs_5.out.lt)
          have HNs_6 := Lib.hid (HNs_5.out.below HBW206.out)
          have HBW_6 := Lib.hid (HBW_5.out.trans (HBW206.out.mono HBW_5.out.size))
          clear HVa_5 HNa_5 HVb_5 HNb_5 HVz_5 HNz_5 HVq_5 HNq_5 HVr_5 HNr_5 HVs_5 HNs_5 HBW_5
          have HVm_6 := HVn
          have HNm_6 := HNn
          clear HVn HNn HBW206
          go_wp2_with fail
          rw [← HGm.out, ← HW206.out]
          refine (ncmpV (K := 15) (L := 0) (z := -1) HNb_6.out HNz_6.out (by omega) (by omega) (by have := HY.out; exact cmpZ_neg (by omega))).mono ?_
          rintro e w207 ⟨rfl, hb⟩
          have HBw207 := Lib.hid hb
          clear hb
          have HVa_7 := Lib.hid (HVa_6.out.below HBw207.out HVa_6.out.lt)
          have HNa_7 := Lib.hid (HNa_6.out.below HBw207.out)
          have HVb_7 := Lib.hid (HVb_6.out.below HBw207.out HVb_6.out.lt)
          have HNb_7 := Lib.hid (HNb_6.out.below HBw207.out)
          have HVz_7 := Lib.hid (HVz_6.out.below HBw207.out HVz_6.out.lt)
          have HNz_7 := Lib.hid (HNz_6.out.below HBw207.out)
          have HVq_7 := Lib.hid (HVq_6.out.below HBw207.out HVq_6.out.lt)
          have HNq_7 := Lib.hid (HNq_6.out.below HBw207.out)
          have HVr_7 := Lib.hid (HVr_6.out.below HBw207.out HVr_6.out.lt)
          have HNr_7 := Lib.hid (HNr_6.out.below HBw207.out)
          have HVs_7 := Lib.hid (HVs_6.out.below HBw207.out HVs_6.out.lt)
          have HNs_7 := Lib.hid (HNs_6.out.below HBw207.out)
          have HVm_7 := Lib.hid (HVm_6.out.below HBw207.out HVm_6.out.lt)
          have HNm_7 := Lib.hid (HNm_6.out.below HBw207.out)
          have HBW_7 := Lib.hid (HBW_6.out.trans (HBw207.out.mono HBW_6.out.size))
          clear HVa_6 HNa_6 HVb_6 HNb_6 HVz_6 HNz_6 HVq_6 HNq_6 HVr_6 HNr_6 HVs_6 HNs_6 HVm_6 HNm_6 HBW_6
          clear HBw207
          clear qb0 qb1 tb qz0 qz1 tz
          have qb0 := HVb_7.out.c0
          have qb1 := HVb_7.out.c1
          have tb := HVb_7.out.lt
          have qz0 := HVz_7.out.c0
          have qz1 := HVz_7.out.c1
          have tz := HVz_7.out.lt
          go_wp2_with fail
          refine (nsub (K := 0) (L := 15) HNz_7.out HNb_7.out (by omega) (by omega)).mono ?_
          rintro e w208 ⟨⟨bn8, sn8, ln8, cn8, rfl, hn⟩, hb⟩
          have HBw208 := Lib.hid hb
          have HNt_8 := Lib.hid hn
          clear hn
          clear hb
          have HVa_8 := Lib.hid (HVa_7.out.below HBw208.out HVa_7.out.lt)
          have HNa_8 := Lib.hid (HNa_7.out.below HBw208.out)
          have HVb_8 := Lib.hid (HVb_7.out.below HBw208.out HVb_7.out.lt)
          have HNb_8 := Lib.hid (HNb_7.out.below HBw208.out)
          have HVz_8 := Lib.hid (HVz_7.out.below HBw208.out HVz_7.out.lt)
          have HNz_8 := Lib.hid (HNz_7.out.below HBw208.out)
          have HVq_8 := Lib.hid (HVq_7.out.below HBw208.out HVq_7.out.lt)
          have HNq_8 := Lib.hid (HNq_7.out.below HBw208.out)
          have HVr_8 := Lib.hid (HVr_7.out.below HBw208.out HVr_7.out.lt)
          have HNr_8 := Lib.hid (HNr_7.out.below HBw208.out)
          have HVs_8 := Lib.hid (HVs_7.out.below HBw208.out HVs_7.out.lt)
          have HNs_8 := Lib.hid (HNs_7.out.below HBw208.out)
          have HVm_8 := Lib.hid (HVm_7.out.below HBw208.out HVm_7.out.lt)
          have HNm_8 := Lib.hid (HNm_7.out.below HBw208.out)
          have HBW_8 := Lib.hid (HBW_7.out.trans (HBw208.out.mono HBW_7.out.size))
          clear HVa_7 HNa_7 HVb_7 HNb_7 HVz_7 HNz_7 HVq_7 HNq_7 HVr_7 HNr_7 HVs_7 HNs_7 HVm_7 HNm_7 HBW_7
          clear HBw208
          clear qb0 qb1 tb qz0 qz1 tz
          have qm0 := HVm_8.out.c0
          have qm1 := HVm_8.out.c1
          have fm0 := HVm_8.out.f0 0
          have fm1 := HVm_8.out.f0 1
          have tm := HVm_8.out.lt
          have HVa_9 := Lib.hid (HVa_8.out.other (x := .bool bn8) (y := .slice sn8 ln8 cn8) NEam.out)
          have HVb_9 := Lib.hid (HVb_8.out.other (x := .bool bn8) (y := .slice sn8 ln8 cn8) NEbm.out)
          have HVz_9 := Lib.hid (HVz_8.out.other (x := .bool bn8) (y := .slice sn8 ln8 cn8) NEzm.out)
          have HVq_9 := Lib.hid (HVq_8.out.other (x := .bool bn8) (y := .slice sn8 ln8 cn8) NEqm.out)
          have HVr_9 := Lib.hid (HVr_8.out.other (x := .bool bn8) (y := .slice sn8 ln8 cn8) NErm.out)
          have HVs_9 := Lib.hid (HVs_8.out.other (x := .bool bn8) (y := .slice sn8 ln8 cn8) NEsm.out)
          have HNa_9 := Lib.hid (HNa_8.out.set (b' := bn8) (s' := sn8) (l' := ln8) (c' := cn8) HVm_8.out)
          have HNb_9 := Lib.hid (HNb_8.out.set (b' := bn8) (s' := sn8) (l' := ln8) (c' := cn8) HVm_8.out)
          have HNz_9 := Lib.hid (HNz_8.out.set (b' := bn8) (s' := sn8) (l' := ln8) (c' := cn8) HVm_8.out)
          have HNq_9 := Lib.hid (HNq_8.out.set (b' := bn8) (s' := sn8) (l' := ln8) (c' := cn8) HVm_8.out)
          have HNr_9 := Lib.hid (HNr_8.out.set (b' := bn8) (s' := sn8) (l' := ln8) (c' := cn8) HVm_8.out)
          have HNs_9 := Lib.hid (HNs_8.out.set (b' := bn8) (s' := sn8) (l' := ln8) (c' := cn8) HVm_8.out)
          have HNt_9 := Lib.hid (HNt_8.out.set (b' := bn8) (s' := sn8) (l' := ln8) (c' := cn8) HVm_8.out)
          have HVm_9 := Lib.hid (HVm_8.out.set (b' := bn8) (s' := sn8) (l' := ln8) (c' := cn8))
          have HBW_9 := Lib.hid ((HBW_8.out.setCell (p := ⟨gm, 0, none⟩) LEm.out (.bool bn8)).setCell (p := ⟨gm, 1, none⟩) LEm.out (.slice sn8 ln8 cn8))
          have HNm_9 := HNt_9
          clear HVa_8 HVb_8 HVz_8 HVq_8 HVr_8 HVs_8 HNa_8 HNb_8 HNz_8 HNq_8 HNr_8 HNs_8 HNt_8 HBW_8
          obtain ⟨WX, hWX⟩ : ∃ W, W = ((w208.setCell ⟨gm, 0, none⟩ (.bool bn8)).setCell ⟨gm, 1, none⟩ (.slice sn8 ln8 cn8)) := ⟨_, rfl⟩
          rw [← hWX] at HVa_9 HVb_9 HVz_9 HVq_9 HVr_9 HVs_9 HVm_9 HNa_9 HNb_9 HNz_9 HNq_9 HNr_9 HNs_9 HNm_9 HBW_9
          have HWX := Lib.hid hWX
          clear hWX
          go_wp2_with fail
          rw [← HWX.out]
          clear qm0 qm1 fm0 fm1 tm
          go_big_unhide
          (try dsimp only [List.append])
          have BC := Lib.hid (show Below WX.heap.size WX WX.drew from (Below.refl _ _).drew)
          refine wp_region_noPanic ?_
          refine wp_region_held_drew (S := fun w' => w'.cell? ⟨ga, 0, none⟩ = some (.bool b1) ∧ w'.cell? ⟨ga, 1, none⟩ = some (.slice s1 l1 c1) ∧ w'.cell? ⟨ga + 1, 0, none⟩ = some (.bool b2) ∧ w'.cell? ⟨ga + 1, 1, none⟩ = some (.slice s2 l2 c2) ∧ w'.cell? ⟨gz, 0, none⟩ = some (.bool false) ∧ w'.cell? ⟨gz, 1, none⟩ = some (.slice none 0 0) ∧ w'.cell? ⟨gq, 0, none⟩ = some (.bool bv1) ∧ w'.cell? ⟨gq, 1, none⟩ = some (.slice sv1 lv1 cv1) ∧ w'.cell? ⟨gr, 0, none⟩ = some (.bool bv2) ∧ w'.cell? ⟨gr, 1, none⟩ = some (.slice sv2 lv2 cv2) ∧ w'.cell? ⟨gs, 0, none⟩ = some (.bool bv2) ∧ w'.cell? ⟨gs, 1, none⟩ = some (.slice sv2 lv2 cv2) ∧ w'.cell? ⟨gm, 0, none⟩ = some (.bool bn8) ∧ w'.cell? ⟨gm, 1, none⟩ = some (.slice sn8 ln8 cn8)) (by kernel_rfl) (by (try dsimp only); exact ⟨(HVa_9.out.below BC.out HVa_9.out.lt).c0, (HVa_9.out.below BC.out HVa_9.out.lt).c1, (HVb_9.out.below BC.out HVb_9.out.lt).c0, (HVb_9.out.below BC.out HVb_9.out.lt).c1, (HVz_9.out.below BC.out HVz_9.out.lt).c0, (HVz_9.out.below BC.out HVz_9.out.lt).c1, (HVq_9.out.below BC.out HVq_9.out.lt).c0, (HVq_9.out.below BC.out HVq_9.out.lt).c1, (HVr_9.out.below BC.out HVr_9.out.lt).c0, (HVr_9.out.below BC.out HVr_9.out.lt).c1, (HVs_9.out.below BC.out HVs_9.out.lt).c0, (HVs_9.out.below BC.out HVs_9.out.lt).c1, (HVm_9.out.below BC.out HVm_9.out.lt).c0, (HVm_9.out.below BC.out HVm_9.out.lt).c1⟩) (fun hHeld => ?_)
          refine' take_any 0 81 (v := _) ?hic0 ?hdc0 (by kernel_rfl) (by kernel_rfl) (by kernel_rfl) (fun _ _ _ h => h) ?hyc0 hHeld ?hrc0
          case hic0 => (simp only [List.getElem?_toArray, List.getElem?_cons_zero]; rfl)
          case hdc0 => rfl
          case hyc0 =>
            refine' Or.inl ⟨?hwc0, ?hxc0⟩
            case hwc0 => rfl
            case hxc0 => (intro w hSw; (try dsimp only at hSw); go_simp; (try with_reducible rfl))
          (try simp only [Act.put, List.setIfInBounds_toArray, List.set_cons_zero, List.set_cons_succ])
          refine' take_any 1 82 (v := _) ?hic1 ?hdc1 (by kernel_rfl) (by kernel_rfl) (by kernel_rfl) (fun _ _ _ h => h) ?hyc1 hHeld ?hrc1
          case hic1 => (simp only [List.getElem?_toArray, List.getElem?_cons_succ, List.getElem?_cons_zero]; rfl)
          case hdc1 => rfl
          case hyc1 =>
            refine' Or.inl ⟨?hwc1, ?hxc1⟩
            case hwc1 => rfl
            case hxc1 => (intro w hSw; (try dsimp only at hSw); go_simp; (try with_reducible rfl))
          (try simp only [Act.put, List.setIfInBounds_toArray, List.set_cons_zero, List.set_cons_succ])
          refine' take_any 2 83 (v := _) ?hic2 ?hdc2 (by kernel_rfl) (by kernel_rfl) (by kernel_rfl) (fun _ _ _ h => h) ?hyc2 hHeld ?hrc2
          case hic2 => (simp only [List.getElem?_toArray, List.getElem?_cons_succ, List.getElem?_cons_zero]; rfl)
          case hdc2 => rfl
          case hyc2 =>
            refine' Or.inl ⟨?hwc2, ?hxc2⟩
            case hwc2 => rfl
            case hxc2 => (intro w hSw; (try dsimp only at hSw); go_simp; (try with_reducible rfl))
          (try simp only [Act.put, List.setIfInBounds_toArray, List.set_cons_zero, List.set_cons_succ])
          refine' take_any 3 84 (v := _) ?hic3 ?hdc3 (by kernel_rfl) (by kernel_rfl) (by kernel_rfl) (fun _ _ _ h => h) ?hyc3 hHeld ?hrc3
          case hic3 => (simp only [List.getElem?_toArray, List.getElem?_cons_succ, List.getElem?_cons_zero]; rfl)
          case hdc3 => rfl
          case hyc3 =>
            refine' Or.inl ⟨?hwc3, ?hxc3⟩
            case hwc3 => rfl
            case hxc3 => (intro w hSw; (try dsimp only at hSw); go_simp; (try with_reducible rfl))
          (try simp only [Act.put, List.setIfInBounds_toArray, List.set_cons_zero, List.set_cons_succ])
          refine' take_any 4 85 (v := _) ?hic4 ?hdc4 (by kernel_rfl) (by kernel_rfl) (by kernel_rfl) (fun _ _ _ h => h) ?hyc4 hHeld ?hrc4
          case hic4 => (simp only [List.getElem?_toArray, List.getElem?_cons_succ, List.getElem?_cons_zero]; rfl)
          case hdc4 => rfl
          case hyc4 =>
            refine' Or.inl ⟨?hwc4, ?hxc4⟩
            case hwc4 => rfl
            case hxc4 => (intro w hSw; (try dsimp only at hSw); go_simp; (try with_reducible rfl))
          (try simp only [Act.put, List.setIfInBounds_toArray, List.set_cons_zero, List.set_cons_succ])
          refine' take_any 5 86 (v := _) ?hic5 ?hdc5 (by kernel_rfl) (by kernel_rfl) (by kernel_rfl) (fun _ _ _ h => h) ?hyc5 hHeld ?hrc5
          case hic5 => (simp only [List.getElem?_toArray, List.getElem?_cons_succ, List.getElem?_cons_zero]; rfl)
          case hdc5 => rfl
          case hyc5 =>
            refine' Or.inl ⟨?hwc5, ?hxc5⟩
            case hwc5 => rfl
            case hxc5 => (intro w hSw; (try dsimp only at hSw); go_simp; (try with_reducible rfl))
          (try simp only [Act.put, List.setIfInBounds_toArray, List.set_cons_zero, List.set_cons_succ])
          refine' take_any 6 87 (v := _) ?hic6 ?hdc6 (by kernel_rfl) (by kernel_rfl) (by kernel_rfl) (fun _ _ _ h => h) ?hyc6 hHeld ?hrc6
          case hic6 => (simp only [List.getElem?_toArray, List.getElem?_cons_succ, List.getElem?_cons_zero]; rfl)
          case hdc6 => rfl
          case hyc6 =>
            refine' Or.inl ⟨?hwc6, ?hxc6⟩
            case hwc6 => rfl
            case hxc6 => (intro w hSw; (try dsimp only at hSw); go_simp; (try with_reducible rfl))
          (try simp only [Act.put, List.setIfInBounds_toArray, List.set_cons_zero, List.set_cons_succ])
          refine' take_any 7 88 (v := _) ?hic7 ?hdc7 (by kernel_rfl) (by kernel_rfl) (by kernel_rfl) (fun _ _ _ h => h) ?hyc7 hHeld ?hrc7
          case hic7 => (simp only [List.getElem?_toArray, List.getElem?_cons_succ, List.getElem?_cons_zero]; rfl)
          case hdc7 => rfl
          case hyc7 =>
            refine' Or.inl ⟨?hwc7, ?hxc7⟩
            case hwc7 => rfl
            case hxc7 => (intro w hSw; (try dsimp only at hSw); go_simp; (try with_reducible rfl))
          (try simp only [Act.put, List.setIfInBounds_toArray, List.set_cons_zero, List.set_cons_succ])
          refine' take_any 8 89 (v := _) ?hic8 ?hdc8 (by kernel_rfl) (by kernel_rfl) (by kernel_rfl) (fun _ _ _ h => h) ?hyc8 hHeld ?hrc8
          case hic8 => (simp only [List.getElem?_toArray, List.getElem?_cons_succ, List.getElem?_cons_zero]; rfl)
          case hdc8 => rfl
          case hyc8 =>
            refine' Or.inl ⟨?hwc8, ?hxc8⟩
            case hwc8 => rfl
            case hxc8 => (intro w hSw; (try dsimp only at hSw); go_simp; (try with_reducible rfl))
          (try simp only [Act.put, List.setIfInBounds_toArray, List.set_cons_zero, List.set_cons_succ])
          refine' take_any 9 90 (v := _) ?hic9 ?hdc9 (by kernel_rfl) (by kernel_rfl) (by kernel_rfl) (fun _ _ _ h => h) ?hyc9 hHeld ?hrc9
          case hic9 => (simp only [List.getElem?_toArray, List.getElem?_cons_succ, List.getElem?_cons_zero]; rfl)
          case hdc9 => rfl
          case hyc9 =>
            refine' Or.inl ⟨?hwc9, ?hxc9⟩
            case hwc9 => rfl
            case hxc9 => (intro w hSw; (try dsimp only at hSw); go_simp; (try with_reducible rfl))
          (try simp only [Act.put, List.setIfInBounds_toArray, List.set_cons_zero, List.set_cons_succ])
          refine' take_any 10 91 (v := _) ?hic10 ?hdc10 (by kernel_rfl) (by kernel_rfl) (by kernel_rfl) (fun _ _ _ h => h) ?hyc10 hHeld ?hrc10
          case hic10 => (simp only [List.getElem?_toArray, List.getElem?_cons_succ, List.getElem?_cons_zero]; rfl)
          case hdc10 => rfl
          case hyc10 =>
            refine' Or.inl ⟨?hwc10, ?hxc10⟩
            case hwc10 => rfl
            case hxc10 => (intro w hSw; (try dsimp only at hSw); go_simp; (try with_reducible rfl))
          (try simp only [Act.put, List.setIfInBounds_toArray, List.set_cons_zero, List.set_cons_succ])
          refine' take_any 11 92 (v := _) ?hic11 ?hdc11 (by kernel_rfl) (by kernel_rfl) (by kernel_rfl) (fun _ _ _ h => h) ?hyc11 hHeld ?hrc11
          case hic11 => (simp only [List.getElem?_toArray, List.getElem?_cons_succ, List.getElem?_cons_zero]; rfl)
          case hdc11 => rfl
          case hyc11 =>
            refine' Or.inl ⟨?hwc11, ?hxc11⟩
            case hwc11 => rfl
            case hxc11 => (intro w hSw; (try dsimp only at hSw); go_simp; (try with_reducible rfl))
          (try simp only [Act.put, List.setIfInBounds_toArray, List.set_cons_zero, List.set_cons_succ])
          refine' take_any 13 94 (v := _) ?hic13 ?hdc13 (by kernel_rfl) (by kernel_rfl) (by kernel_rfl) (fun _ _ _ h => h) ?hyc13 hHeld ?hrc13
          case hic13 => (simp only [List.getElem?_toArray, List.getElem?_cons_succ, List.getElem?_cons_zero]; rfl)
          case hdc13 => rfl
          case hyc13 =>
            refine' Or.inl ⟨?hwc13, ?hxc13⟩
            case hwc13 => rfl
            case hxc13 => (intro w hSw; (try dsimp only at hSw); go_simp; (try with_reducible rfl))
          (try simp only [Act.put, List.setIfInBounds_toArray, List.set_cons_zero, List.set_cons_succ])
          refine' take_any 15 96 (v := _) ?hic15 ?hdc15 (by kernel_rfl) (by kernel_rfl) (by kernel_rfl) (fun _ _ _ h => h) ?hyc15 hHeld ?hrc15
          case hic15 => (simp only [List.getElem?_toArray, List.getElem?_cons_succ, List.getElem?_cons_zero]; rfl)
          case hdc15 => rfl
          case hyc15 =>
            refine' Or.inl ⟨?hwc15, ?hxc15⟩
            case hwc15 => rfl
            case hxc15 => (intro w hSw; (try dsimp only at hSw); go_simp; (try with_reducible rfl))
          (try simp only [Act.put, List.setIfInBounds_toArray, List.set_cons_zero, List.set_cons_succ])
          refine' take_call 12 ?hic12 (by kernel_rfl) ?hrc12
          case hic12 => (simp only [List.getElem?_toArray, List.getElem?_cons_succ, List.getElem?_cons_zero]; rfl)
          intro K hK
          go_simp
          go_at_call 29
          refine (nmul (K := 15) (L := 15) (HNq_9.out.below BC.out) (HNb_9.out.below BC.out) (by omega) (by omega)).mono ?_
          rintro e w101 ⟨⟨b101, s101, l101, c101, rfl, hn⟩, hb⟩
          have HB1 := Lib.hid hb
          have HN1 := Lib.hid hn
          replace BC := Lib.hid (BC.out.trans (hb.mono BC.out.size))
          clear hb hn
          go_wp2_with fail
          clear hHeld
          refine hK.out _ _ (by (try dsimp only); exact ⟨(HVa_9.out.below BC.out HVa_9.out.lt).c0, (HVa_9.out.below BC.out HVa_9.out.lt).c1, (HVb_9.out.below BC.out HVb_9.out.lt).c0, (HVb_9.out.below BC.out HVb_9.out.lt).c1, (HVz_9.out.below BC.out HVz_9.out.lt).c0, (HVz_9.out.below BC.out HVz_9.out.lt).c1, (HVq_9.out.below BC.out HVq_9.out.lt).c0, (HVq_9.out.below BC.out HVq_9.out.lt).c1, (HVr_9.out.below BC.out HVr_9.out.lt).c0, (HVr_9.out.below BC.out HVr_9.out.lt).c1, (HVs_9.out.below BC.out HVs_9.out.lt).c0, (HVs_9.out.below BC.out HVs_9.out.lt).c1, (HVm_9.out.below BC.out HVm_9.out.lt).c0, (HVm_9.out.below BC.out HVm_9.out.lt).c1⟩) (fun hHeld => ?_)
          clear hK K
          (try simp only [Act.put, List.setIfInBounds_toArray, List.set_cons_zero, List.set_cons_succ])
          refine' take_call 14 ?hic14 (by kernel_rfl) ?hrc14
          case hic14 => (simp only [List.getElem?_toArray, List.getElem?_cons_succ, List.getElem?_cons_zero]; rfl)
          intro K hK
          go_simp
          have _hb := HB1.out
          clear _hb
          go_at_call 25
          refine (nadd (K := 30) (L := 15) HN1.out (HNr_9.out.below BC.out) (by omega) (by omega)).mono ?_
          rintro e w102 ⟨⟨b102, s102, l102, c102, rfl, hn⟩, hb⟩
          have HB2 := Lib.hid hb
          have HN2 := Lib.hid hn
          replace BC := Lib.hid (BC.out.trans (hb.mono BC.out.size))
          clear hb hn
          go_wp2_with fail
          clear hHeld
          refine hK.out _ _ (by (try dsimp only); exact ⟨(HVa_9.out.below BC.out HVa_9.out.lt).c0, (HVa_9.out.below BC.out HVa_9.out.lt).c1, (HVb_9.out.below BC.out HVb_9.out.lt).c0, (HVb_9.out.below BC.out HVb_9.out.lt).c1, (HVz_9.out.below BC.out HVz_9.out.lt).c0, (HVz_9.out.below BC.out HVz_9.out.lt).c1, (HVq_9.out.below BC.out HVq_9.out.lt).c0, (HVq_9.out.below BC.out HVq_9.out.lt).c1, (HVr_9.out.below BC.out HVr_9.out.lt).c0, (HVr_9.out.below BC.out HVr_9.out.lt).c1, (HVs_9.out.below BC.out HVs_9.out.lt).c0, (HVs_9.out.below BC.out HVs_9.out.lt).c1, (HVm_9.out.below BC.out HVm_9.out.lt).c0, (HVm_9.out.below BC.out HVm_9.out.lt).c1⟩) (fun hHeld => ?_)
          clear hK K
          (try simp only [Act.put, List.setIfInBounds_toArray, List.set_cons_zero, List.set_cons_succ])
          refine' take_call 16 ?hic16 (by kernel_rfl) ?hrc16
          case hic16 => (simp only [List.getElem?_toArray, List.getElem?_cons_succ, List.getElem?_cons_zero]; rfl)
          intro K hK
          go_simp
          have _hb := HB2.out
          clear _hb
          go_at_call 31
          refine (ncmp_eq (K := 46) (L := 15) HN2.out (HNa_9.out.below BC.out) (by omega) (by omega) (HBACK.out)).mono ?_
          rintro e w103 ⟨rfl, hb⟩
          have HB3 := Lib.hid hb
          replace BC := Lib.hid (BC.out.trans (hb.mono BC.out.size))
          clear hb
          go_wp2_with fail
          clear hHeld
          refine hK.out _ _ (by (try dsimp only); exact ⟨(HVa_9.out.below BC.out HVa_9.out.lt).c0, (HVa_9.out.below BC.out HVa_9.out.lt).c1, (HVb_9.out.below BC.out HVb_9.out.lt).c0, (HVb_9.out.below BC.out HVb_9.out.lt).c1, (HVz_9.out.below BC.out HVz_9.out.lt).c0, (HVz_9.out.below BC.out HVz_9.out.lt).c1, (HVq_9.out.below BC.out HVq_9.out.lt).c0, (HVq_9.out.below BC.out HVq_9.out.lt).c1, (HVr_9.out.below BC.out HVr_9.out.lt).c0, (HVr_9.out.below BC.out HVr_9.out.lt).c1, (HVs_9.out.below BC.out HVs_9.out.lt).c0, (HVs_9.out.below BC.out HVs_9.out.lt).c1, (HVm_9.out.below BC.out HVm_9.out.lt).c0, (HVm_9.out.below BC.out HVm_9.out.lt).c1⟩) (fun hHeld => ?_)
          clear hK K
          (try simp only [Act.put, List.setIfInBounds_toArray, List.set_cons_zero, List.set_cons_succ])
          refine' take_any 17 98 (v := _) ?hic17 ?hdc17 (by kernel_rfl) (by kernel_rfl) (by kernel_rfl) (fun _ _ _ h => h) ?hyc17 hHeld ?hrc17
          case hic17 => (simp only [List.getElem?_toArray, List.getElem?_cons_succ, List.getElem?_cons_zero]; rfl)
          case hdc17 => rfl
          case hyc17 =>
            refine' Or.inl ⟨?hwc17, ?hxc17⟩
            case hwc17 => rfl
            case hxc17 => (intro w hSw; (try dsimp only at hSw); go_simp; (try with_reducible rfl))
          (try simp only [Act.put, List.setIfInBounds_toArray, List.set_cons_zero, List.set_cons_succ])
          refine' take_any 18 99 (v := _) ?hic18 ?hdc18 (by kernel_rfl) (by kernel_rfl) (by kernel_rfl) (fun _ _ _ h => h) ?hyc18 hHeld ?hrc18
          case hic18 => (simp only [List.getElem?_toArray, List.getElem?_cons_succ, List.getElem?_cons_zero]; rfl)
          case hdc18 => rfl
          case hyc18 =>
            refine' Or.inl ⟨?hwc18, ?hxc18⟩
            case hwc18 => rfl
            case hxc18 => (intro w hSw; (try dsimp only at hSw); go_simp; (try with_reducible rfl))
          (try simp only [Act.put, List.setIfInBounds_toArray, List.set_cons_zero, List.set_cons_succ])
          refine' take_any 19 100 (v := _) ?hic19 ?hdc19 (by kernel_rfl) (by kernel_rfl) (by kernel_rfl) (fun _ _ _ h => h) ?hyc19 hHeld ?hrc19
          case hic19 => (simp only [List.getElem?_toArray, List.getElem?_cons_succ, List.getElem?_cons_zero]; rfl)
          case hdc19 => rfl
          case hyc19 =>
            refine' Or.inl ⟨?hwc19, ?hxc19⟩
            case hwc19 => rfl
            case hxc19 => (intro w hSw; (try dsimp only at hSw); go_simp; (try with_reducible rfl))
          (try simp only [Act.put, List.setIfInBounds_toArray, List.set_cons_zero, List.set_cons_succ])
          refine' take_any 20 101 (v := _) ?hic20 ?hdc20 (by kernel_rfl) (by kernel_rfl) (by kernel_rfl) (fun _ _ _ h => h) ?hyc20 hHeld ?hrc20
          case hic20 => (simp only [List.getElem?_toArray, List.getElem?_cons_succ, List.getElem?_cons_zero]; rfl)
          case hdc20 => rfl
          case hyc20 =>
            refine' Or.inl ⟨?hwc20, ?hxc20⟩
            case hwc20 => rfl
            case hxc20 => (intro w hSw; (try dsimp only at hSw); go_simp; (try with_reducible rfl))
          (try simp only [Act.put, List.setIfInBounds_toArray, List.set_cons_zero, List.set_cons_succ])
          refine' take_any 21 102 (v := _) ?hic21 ?hdc21 (by kernel_rfl) (by kernel_rfl) (by kernel_rfl) (fun _ _ _ h => h) ?hyc21 hHeld ?hrc21
          case hic21 => (simp only [List.getElem?_toArray, List.getElem?_cons_succ, List.getElem?_cons_zero]; rfl)
          case hdc21 => rfl
          case hyc21 =>
            refine' Or.inl ⟨?hwc21, ?hxc21⟩
            case hwc21 => rfl
            case hxc21 => (intro w hSw; (try dsimp only at hSw); go_simp; (try with_reducible rfl))
          (try simp only [Act.put, List.setIfInBounds_toArray, List.set_cons_zero, List.set_cons_succ])
          refine' take_call 22 ?hic22 (by kernel_rfl) ?hrc22
          case hic22 => (simp only [List.getElem?_toArray, List.getElem?_cons_succ, List.getElem?_cons_zero]; rfl)
          intro K hK
          go_simp
          have _hb := HB3.out
          clear _hb
          go_at_call 31
          refine (ncmpV (K := 15) (L := 16) (z := (-1)) (HNs_9.out.below BC.out) (HNm_9.out.below BC.out) (by omega) (by omega) (by have h1 := HNEAR.out; have h2 := HY.out; have h3 := HR.out; exact cmpZ_neg (by omega))).mono ?_
          rintro e w104 ⟨rfl, hb⟩
          have HB4 := Lib.hid hb
          replace BC := Lib.hid (BC.out.trans (hb.mono BC.out.size))
          clear hb
          go_wp2_with fail
          clear hHeld
          refine hK.out _ _ (by (try dsimp only); exact ⟨(HVa_9.out.below BC.out HVa_9.out.lt).c0, (HVa_9.out.below BC.out HVa_9.out.lt).c1, (HVb_9.out.below BC.out HVb_9.out.lt).c0, (HVb_9.out.below BC.out HVb_9.out.lt).c1, (HVz_9.out.below BC.out HVz_9.out.lt).c0, (HVz_9.out.below BC.out HVz_9.out.lt).c1, (HVq_9.out.below BC.out HVq_9.out.lt).c0, (HVq_9.out.below BC.out HVq_9.out.lt).c1, (HVr_9.out.below BC.out HVr_9.out.lt).c0, (HVr_9.out.below BC.out HVr_9.out.lt).c1, (HVs_9.out.below BC.out HVs_9.out.lt).c0, (HVs_9.out.below BC.out HVs_9.out.lt).c1, (HVm_9.out.below BC.out HVm_9.out.lt).c0, (HVm_9.out.below BC.out HVm_9.out.lt).c1⟩) (fun hHeld => ?_)
          clear hK K
          (try simp only [Act.put, List.setIfInBounds_toArray, List.set_cons_zero, List.set_cons_succ])
          refine' take_any 23 104 (v := _) ?hic23 ?hdc23 (by kernel_rfl) (by kernel_rfl) (by kernel_rfl) (fun _ _ _ h => h) ?hyc23 hHeld ?hrc23
          case hic23 => (simp only [List.getElem?_toArray, List.getElem?_cons_succ, List.getElem?_cons_zero]; rfl)
          case hdc23 => rfl
          case hyc23 =>
            refine' Or.inl ⟨?hwc23, ?hxc23⟩
            case hwc23 => rfl
            case hxc23 => (intro w hSw; (try dsimp only at hSw); go_simp; (try with_reducible rfl))
          (try simp only [Act.put, List.setIfInBounds_toArray, List.set_cons_zero, List.set_cons_succ])
          refine' take_any 24 105 (v := _) ?hic24 ?hdc24 (by kernel_rfl) (by kernel_rfl) (by kernel_rfl) (fun _ _ _ h => h) ?hyc24 hHeld ?hrc24
          case hic24 => (simp only [List.getElem?_toArray, List.getElem?_cons_succ, List.getElem?_cons_zero]; rfl)
          case hdc24 => rfl
          case hyc24 =>
            refine' Or.inl ⟨?hwc24, ?hxc24⟩
            case hwc24 => rfl
            case hxc24 => (intro w hSw; (try dsimp only at hSw); go_simp; (try with_reducible rfl))
          (try simp only [Act.put, List.setIfInBounds_toArray, List.set_cons_zero, List.set_cons_succ])
          refine' take_any 25 106 (v := _) ?hic25 ?hdc25 (by kernel_rfl) (by kernel_rfl) (by kernel_rfl) (fun _ _ _ h => h) ?hyc25 hHeld ?hrc25
          case hic25 => (simp only [List.getElem?_toArray, List.getElem?_cons_succ, List.getElem?_cons_zero]; rfl)
          case hdc25 => rfl
          case hyc25 =>
            refine' Or.inl ⟨?hwc25, ?hxc25⟩
            case hwc25 => rfl
            case hxc25 => (intro w hSw; (try dsimp only at hSw); go_simp; (try with_reducible rfl))
          (try simp only [Act.put, List.setIfInBounds_toArray, List.set_cons_zero, List.set_cons_succ])
          refine' take_any 26 107 (v := _) ?hic26 ?hdc26 (by kernel_rfl) (by kernel_rfl) (by kernel_rfl) (fun _ _ _ h => h) ?hyc26 hHeld ?hrc26
          case hic26 => (simp only [List.getElem?_toArray, List.getElem?_cons_succ, List.getElem?_cons_zero]; rfl)
          case hdc26 => rfl
          case hyc26 =>
            refine' Or.inl ⟨?hwc26, ?hxc26⟩
            case hwc26 => rfl
            case hxc26 => (intro w hSw; (try dsimp only at hSw); go_simp; (try with_reducible rfl))
          (try simp only [Act.put, List.setIfInBounds_toArray, List.set_cons_zero, List.set_cons_succ])
          refine' take_any 27 108 (v := _) ?hic27 ?hdc27 (by kernel_rfl) (by kernel_rfl) (by kernel_rfl) (fun _ _ _ h => h) ?hyc27 hHeld ?hrc27
          case hic27 => (simp only [List.getElem?_toArray, List.getElem?_cons_succ, List.getElem?_cons_zero]; rfl)
          case hdc27 => rfl
          case hyc27 =>
            refine' Or.inl ⟨?hwc27, ?hxc27⟩
            case hwc27 => rfl
            case hxc27 => (intro w hSw; (try dsimp only at hSw); go_simp; (try with_reducible rfl))
          (try simp only [Act.put, List.setIfInBounds_toArray, List.set_cons_zero, List.set_cons_succ])
          refine' take_call 28 ?hic28 (by kernel_rfl) ?hrc28
          case hic28 => (simp only [List.getElem?_toArray, List.getElem?_cons_succ, List.getElem?_cons_zero]; rfl)
          intro K hK
          go_simp
          have _hb := HB4.out
          clear _hb
          go_at_call 31
          refine (ncmpV (K := 15) (L := 0) (z := 0) (HNr_9.out.below BC.out) (HNz_9.out.below BC.out) (by omega) (by omega) (cmpZ_eq HR.out)).mono ?_
          rintro e w105 ⟨rfl, hb⟩
          have HB5 := Lib.hid hb
          replace BC := Lib.hid (BC.out.trans (hb.mono BC.out.size))
          clear hb
          go_wp2_with fail
          clear hHeld
          refine hK.out _ _ (by (try dsimp only); exact ⟨(HVa_9.out.below BC.out HVa_9.out.lt).c0, (HVa_9.out.below BC.out HVa_9.out.lt).c1, (HVb_9.out.below BC.out HVb_9.out.lt).c0, (HVb_9.out.below BC.out HVb_9.out.lt).c1, (HVz_9.out.below BC.out HVz_9.out.lt).c0, (HVz_9.out.below BC.out HVz_9.out.lt).c1, (HVq_9.out.below BC.out HVq_9.out.lt).c0, (HVq_9.out.below BC.out HVq_9.out.lt).c1, (HVr_9.out.below BC.out HVr_9.out.lt).c0, (HVr_9.out.below BC.out HVr_9.out.lt).c1, (HVs_9.out.below BC.out HVs_9.out.lt).c0, (HVs_9.out.below BC.out HVs_9.out.lt).c1, (HVm_9.out.below BC.out HVm_9.out.lt).c0, (HVm_9.out.below BC.out HVm_9.out.lt).c1⟩) (fun hHeld => ?_)
          clear hK K
          (try simp only [Act.put, List.setIfInBounds_toArray, List.set_cons_zero, List.set_cons_succ])
          refine' take_any 29 110 (v := _) ?hic29 ?hdc29 (by kernel_rfl) (by kernel_rfl) (by kernel_rfl) (fun _ _ _ h => h) ?hyc29 hHeld ?hrc29
          case hic29 => (simp only [List.getElem?_toArray, List.getElem?_cons_succ, List.getElem?_cons_zero]; rfl)
          case hdc29 => rfl
          case hyc29 =>
            refine' Or.inl ⟨?hwc29, ?hxc29⟩
            case hwc29 => rfl
            case hxc29 => (intro w hSw; (try dsimp only at hSw); go_simp; (try with_reducible rfl))
          (try simp only [Act.put, List.setIfInBounds_toArray, List.set_cons_zero, List.set_cons_succ])
          refine' take_any 30 111 (v := _) ?hic30 ?hdc30 (by kernel_rfl) (by kernel_rfl) (by kernel_rfl) (fun _ _ _ h => h) ?hyc30 hHeld ?hrc30
          case hic30 => (simp only [List.getElem?_toArray, List.getElem?_cons_succ, List.getElem?_cons_zero]; rfl)
          case hdc30 => rfl
          case hyc30 =>
            refine' Or.inl ⟨?hwc30, ?hxc30⟩
            case hwc30 => rfl
            case hxc30 => (intro w hSw; (try dsimp only at hSw); go_simp; (try with_reducible rfl))
          (try simp only [Act.put, List.setIfInBounds_toArray, List.set_cons_zero, List.set_cons_succ])
          refine' take_any 31 112 (v := undef) ?hic31 ?hdc31 (by kernel_rfl) (by kernel_rfl) (by kernel_rfl) (fun _ _ _ h => h) ?hyc31 hHeld ?hrc31
          case hic31 => (simp only [List.getElem?_toArray, List.getElem?_cons_succ, List.getElem?_cons_zero]; rfl)
          case hdc31 => rfl
          case hyc31 => exact Or.inr ⟨by rfl, rfl⟩
          (try simp only [Act.put, List.setIfInBounds_toArray, List.set_cons_zero, List.set_cons_succ])
          refine' take_any 32 113 (v := undef) ?hic32 ?hdc32 (by kernel_rfl) (by kernel_rfl) (by kernel_rfl) (fun _ _ _ h => h) ?hyc32 hHeld ?hrc32
          case hic32 => (simp only [List.getElem?_toArray, List.getElem?_cons_succ, List.getElem?_cons_zero]; rfl)
          case hdc32 => rfl
          case hyc32 => exact Or.inr ⟨by rfl, rfl⟩
          (try simp only [Act.put, List.setIfInBounds_toArray, List.set_cons_zero, List.set_cons_succ])
          refine' take_any 34 115 (v := undef) ?hic34 ?hdc34 (by kernel_rfl) (by kernel_rfl) (by kernel_rfl) (fun _ _ _ h => h) ?hyc34 hHeld ?hrc34
          case hic34 => (simp only [List.getElem?_toArray, List.getElem?_cons_succ, List.getElem?_cons_zero]; rfl)
          case hdc34 => rfl
          case hyc34 => exact Or.inr ⟨by rfl, rfl⟩
          (try simp only [Act.put, List.setIfInBounds_toArray, List.set_cons_zero, List.set_cons_succ])
          refine' take_any 35 116 (v := undef) ?hic35 ?hdc35 (by kernel_rfl) (by kernel_rfl) (by kernel_rfl) (fun _ _ _ h => h) ?hyc35 hHeld ?hrc35
          case hic35 => (simp only [List.getElem?_toArray, List.getElem?_cons_succ, List.getElem?_cons_zero]; rfl)
          case hdc35 => rfl
          case hyc35 => exact Or.inr ⟨by rfl, rfl⟩
          (try simp only [Act.put, List.setIfInBounds_toArray, List.set_cons_zero, List.set_cons_succ])
          refine' take_any 33 114 (v := undef) ?hic33 ?hdc33 (by kernel_rfl) (by kernel_rfl) (by kernel_rfl) (fun _ _ _ h => h) ?hyc33 hHeld ?hrc33
          case hic33 => (simp only [List.getElem?_toArray, List.getElem?_cons_succ, List.getElem?_cons_zero]; rfl)
          case hdc33 => rfl
          case hyc33 => exact Or.inr ⟨by rfl, rfl⟩
          (try simp only [Act.put, List.setIfInBounds_toArray, List.set_cons_zero, List.set_cons_succ])
          refine' take_any 36 117 (v := undef) ?hic36 ?hdc36 (by kernel_rfl) (by kernel_rfl) (by kernel_rfl) (fun _ _ _ h => h) ?hyc36 hHeld ?hrc36
          case hic36 => (simp only [List.getElem?_toArray, List.getElem?_cons_succ, List.getElem?_cons_zero]; rfl)
          case hdc36 => rfl
          case hyc36 => exact Or.inr ⟨by rfl, rfl⟩
          (try simp only [Act.put, List.setIfInBounds_toArray, List.set_cons_zero, List.set_cons_succ])
          refine' take_any 37 118 (v := undef) ?hic37 ?hdc37 (by kernel_rfl) (by kernel_rfl) (by kernel_rfl) (fun _ _ _ h => h) ?hyc37 hHeld ?hrc37
          case hic37 => (simp only [List.getElem?_toArray, List.getElem?_cons_succ, List.getElem?_cons_zero]; rfl)
          case hdc37 => rfl
          case hyc37 => exact Or.inr ⟨by rfl, rfl⟩
          (try simp only [Act.put, List.setIfInBounds_toArray, List.set_cons_zero, List.set_cons_succ])
          refine' take_any 38 119 (v := _) ?hic38 ?hdc38 (by kernel_rfl) (by kernel_rfl) (by kernel_rfl) (fun _ _ _ h => h) ?hyc38 hHeld ?hrc38
          case hic38 => (simp only [List.getElem?_toArray, List.getElem?_cons_succ, List.getElem?_cons_zero]; rfl)
          case hdc38 => rfl
          case hyc38 =>
            refine' Or.inl ⟨?hwc38, ?hxc38⟩
            case hwc38 => rfl
            case hxc38 => (intro w hSw; (try dsimp only at hSw); go_simp; (try with_reducible rfl))
          (try simp only [Act.put, List.setIfInBounds_toArray, List.set_cons_zero, List.set_cons_succ])
          refine' take_any 39 120 (v := _) ?hic39 ?hdc39 (by kernel_rfl) (by kernel_rfl) (by kernel_rfl) (fun _ _ _ h => h) ?hyc39 hHeld ?hrc39
          case hic39 => (simp only [List.getElem?_toArray, List.getElem?_cons_succ, List.getElem?_cons_zero]; rfl)
          case hdc39 => rfl
          case hyc39 =>
            refine' Or.inl ⟨?hwc39, ?hxc39⟩
            case hwc39 => rfl
            case hxc39 => (intro w hSw; (try dsimp only at hSw); go_simp; (try with_reducible rfl))
          (try simp only [Act.put, List.setIfInBounds_toArray, List.set_cons_zero, List.set_cons_succ])
          refine' take_any 40 4 (v := _) ?hic40 ?hdc40 (by kernel_rfl) (by kernel_rfl) (by kernel_rfl) (fun _ _ _ h => h) ?hyc40 hHeld ?hrc40
          case hic40 => (simp only [List.getElem?_toArray, List.getElem?_cons_succ, List.getElem?_cons_zero]; rfl)
          case hdc40 => rfl
          case hyc40 =>
            refine' Or.inl ⟨?hwc40, ?hxc40⟩
            case hwc40 => rfl
            case hxc40 => (intro w hSw; (try dsimp only at hSw); go_simp; (try with_reducible rfl))
          (try simp only [Act.put, List.setIfInBounds_toArray, List.set_cons_zero, List.set_cons_succ])
          refine wpAnyH_done (by kernel_rfl) ?_ _
          refine NoPanic.normal ?_
          all_goals
            go_wp2
            go_ret
            exact ⟨rfl, HBW_9.out.trans (BC.out.mono HBW_9.out.size)⟩
      · have HR := Lib.hid hr
        clear hr
        as_aux_lemma =>
          go_wp2_with fail
          rw [← HG.out, ← HW.out, ← HGZ.out]
          refine (nquo1 (K := 15) (L := 15) HNA.out HNB.out (by omega) (by omega) HY0.out HQN.out).mono ?_
          rintro e w201 ⟨⟨bv1, sv1, lv1, cv1, rfl, hn⟩, hb⟩
          clear A0 A1 B0 B1 Z0 Z1
          have qa0 := (HVA.out.below hb HVA.out.lt).c0
          have qa1 := (HVA.out.below hb HVA.out.lt).c1
          have ta := (HVA.out.below hb HVA.out.lt).lt
          have qb0 := (HVB.out.below hb HVB.out.lt).c0
          have qb1 := (HVB.out.below hb HVB.out.lt).c1
          have tb := (HVB.out.below hb HVB.out.lt).lt
          have qz0 := (HVZ.out.below hb HVZ.out.lt).c0
          have qz1 := (HVZ.out.below hb HVZ.out.lt).c1
          have tz := (HVZ.out.below hb HVZ.out.lt).lt
          obtain ⟨W201, hW201⟩ : ∃ W, W = w201.alloc (.cells #[.bool bv1, .slice sv1 lv1 cv1] 25) := ⟨_, rfl⟩
          obtain ⟨gq, hgq⟩ : ∃ g, g = w201.heap.size := ⟨_, rfl⟩
          have HBW201 := Lib.hid (show Below W.heap.size W W201 by rw [hW201]; exact hb.alloc hb.size _)
          have HVn := Lib.hid (show VarAt W201 gq bv1 sv1 lv1 cv1 by rw [hW201, hgq]; exact VarAt.made _ _ _ _ _)
          have HNn := Lib.hid (show NumIs 15 W201 _ qn by rw [hW201]; exact hn.alloc _)
          have HW201 := Lib.hid hW201
          have HGq := Lib.hid hgq
          clear hn hb hW201 hgq
          have HVa_1 := Lib.hid (HVA.out.below HBW201.out HVA.out.lt)
          have HNa_1 := Lib.hid (HNA.out.below HBW201.out)
          have HVb_1 := Lib.hid (HVB.out.below HBW201.out HVB.out.lt)
          have HNb_1 := Lib.hid (HNB.out.below HBW201.out)
          have HVz_1 := Lib.hid (HVZ.out.below HBW201.out HVZ.out.lt)
          have HNz_1 := Lib.hid (HNZ.out.below HBW201.out)
          have HBW_1 := Lib.hid (HBW.out.trans (HBW201.out.mono HBW.out.size))
          clear HVA HNA HVB HNB HVZ HNZ HBW
          have HVq_1 := HVn
          have HNq_1 := HNn
          clear HVn HNn HBW201
          go_wp2_with fail
          rw [← HGq.out, ← HW201.out]
          refine (nrem1 (K := 15) (L := 15) HNa_1.out HNb_1.out (by omega) (by omega) HY0.out HRN.out).mono ?_
          rintro e w202 ⟨⟨bv2, sv2, lv2, cv2, rfl, hn⟩, hb⟩
          clear qa0 qa1 ta qb0 qb1 tb qz0 qz1 tz
          have qb0 := (HVb_1.out.below hb HVb_1.out.lt).c0
          have qb1 := (HVb_1.out.below hb HVb_1.out.lt).c1
          have tb := (HVb_1.out.below hb HVb_1.out.lt).lt
          have qz0 := (HVz_1.out.below hb HVz_1.out.lt).c0
          have qz1 := (HVz_1.out.below hb HVz_1.out.lt).c1
          have tz := (HVz_1.out.below hb HVz_1.out.lt).lt
          obtain ⟨W202, hW202⟩ : ∃ W, W = w202.alloc (.cells #[.bool bv2, .slice sv2 lv2 cv2] 25) := ⟨_, rfl⟩
          obtain ⟨gr, hgr⟩ : ∃ g, g = w202.heap.size := ⟨_, rfl⟩
          have HBW202 := Lib.hid (show Below W201.heap.size W201 W202 by rw [hW202]; exact hb.alloc hb.size _)
          have HVn := Lib.hid (show VarAt W202 gr bv2 sv2 lv2 cv2 by rw [hW202, hgr]; exact VarAt.made _ _ _ _ _)
          have HNn := Lib.hid (show NumIs 15 W202 _ rn by rw [hW202]; exact hn.alloc _)
          have HW202 := Lib.hid hW202
          have HGr := Lib.hid hgr
          clear hn hb hW202 hgr
          have HVa_2 := Lib.hid (HVa_1.out.below HBW202.out HVa_1.out.lt)
          have HNa_2 := Lib.hid (HNa_1.out.below HBW202.out)
          have HVb_2 := Lib.hid (HVb_1.out.below HBW202.out HVb_1.out.lt)
          have HNb_2 := Lib.hid (HNb_1.out.below HBW202.out)
          have HVz_2 := Lib.hid (HVz_1.out.below HBW202.out HVz_1.out.lt)
          have HNz_2 := Lib.hid (HNz_1.out.below HBW202.out)
          have HVq_2 := Lib.hid (HVq_1.out.below HBW202.out HVq_1.out.lt)
          have HNq_2 := Lib.hid (HNq_1.out.below HBW202.out)
          have HBW_2 := Lib.hid (HBW_1.out.trans (HBW202.out.mono HBW_1.out.size))
          clear HVa_1 HNa_1 HVb_1 HNb_1 HVz_1 HNz_1 HVq_1 HNq_1 HBW_1
          have HVr_2 := HVn
          have HNr_2 := HNn
          clear HVn HNn HBW202
          go_wp2_with fail
          rw [← HGr.out, ← HW202.out]
          refine (ncmpV (K := 15) (L := 0) (z := -1) HNb_2.out HNz_2.out (by omega) (by omega) (by have := HY.out; exact cmpZ_neg (by omega))).mono ?_
          rintro e w203 ⟨rfl, hb⟩
          have HBw203 := Lib.hid hb
          clear hb
          have HVa_3 := Lib.hid (HVa_2.out.below HBw203.out HVa_2.out.lt)
          have HNa_3 := Lib.hid (HNa_2.out.below HBw203.out)
          have HVb_3 := Lib.hid (HVb_2.out.below HBw203.out HVb_2.out.lt)
          have HNb_3 := Lib.hid (HNb_2.out.below HBw203.out)
          have HVz_3 := Lib.hid (HVz_2.out.below HBw203.out HVz_2.out.lt)
          have HNz_3 := Lib.hid (HNz_2.out.below HBw203.out)
          have HVq_3 := Lib.hid (HVq_2.out.below HBw203.out HVq_2.out.lt)
          have HNq_3 := Lib.hid (HNq_2.out.below HBw203.out)
          have HVr_3 := Lib.hid (HVr_2.out.below HBw203.out HVr_2.out.lt)
          have HNr_3 := Lib.hid (HNr_2.out.below HBw203.out)
          have HBW_3 := Lib.hid (HBW_2.out.trans (HBw203.out.mono HBW_2.out.size))
          clear HVa_2 HNa_2 HVb_2 HNb_2 HVz_2 HNz_2 HVq_2 HNq_2 HVr_2 HNr_2 HBW_2
          clear HBw203
          clear qb0 qb1 tb qz0 qz1 tz
          have qr0 := HVr_3.out.c0
          have qr1 := HVr_3.out.c1
          have tr := HVr_3.out.lt
          have qz0 := HVz_3.out.c0
          have qz1 := HVz_3.out.c1
          have tz := HVz_3.out.lt
          obtain ⟨W204, hW204⟩ : ∃ W, W = w203.alloc (.cells #[.bool bv2, .slice sv2 lv2 cv2] 25) := ⟨_, rfl⟩
          obtain ⟨gs, hgs⟩ : ∃ g, g = w203.heap.size := ⟨_, rfl⟩
          have HBW204 := Lib.hid (show Below (w203).heap.size (w203) W204 by rw [hW204]; exact (Below.refl _ _).alloc (Nat.le_refl _) _)
          have hgx9 : gs = (w203).heap.size := by rw [hgs]
          have HVn := Lib.hid (show VarAt W204 gs bv2 sv2 lv2 cv2 by rw [hW204, hgx9]; exact VarAt.made _ _ _ _ _)
          have HNn := Lib.hid (HNr_3.out.below HBW204.out)
          have NEas := Lib.hid (show ga ≠ gs by have := HVa_3.out.lt; omega)
          have NEbs := Lib.hid (show ga + 1 ≠ gs by have := HVb_3.out.lt; omega)
          have NEzs := Lib.hid (show gz ≠ gs by have := HVz_3.out.lt; omega)
          have NEqs := Lib.hid (show gq ≠ gs by have := HVq_3.out.lt; omega)
          have NErs := Lib.hid (show gr ≠ gs by have := HVr_3.out.lt; omega)
          have LEs := Lib.hid (show w.heap.size ≤ gs by rw [hgx9]; exact HBW_3.out.size)
          have HW204 := Lib.hid hW204
          have HGs := Lib.hid hgs
          clear hW204 hgs hgx9
          have HVa_4 := Lib.hid (HVa_3.out.below HBW204.out HVa_3.out.lt)
          have HNa_4 := Lib.hid (HNa_3.out.below HBW204.out)
          have HVb_4 := Lib.hid (HVb_3.out.below HBW204.out HVb_3.out.lt)
          have HNb_4 := Lib.hid (HNb_3.out.below HBW204.out)
          have HVz_4 := Lib.hid (HVz_3.out.below HBW204.out HVz_3.out.lt)
          have HNz_4 := Lib.hid (HNz_3.out.below HBW204.out)
          have HVq_4 := Lib.hid (HVq_3.out.below HBW204.out HVq_3.out.lt)
          have HNq_4 := Lib.hid (HNq_3.out.below HBW204.out)
          have HVr_4 := Lib.hid (HVr_3.out.below HBW204.out HVr_3.out.lt)
          have HNr_4 := Lib.hid (HNr_3.out.below HBW204.out)
          have HBW_4 := Lib.hid (HBW_3.out.trans (HBW204.out.mono HBW_3.out.size))
          clear HVa_3 HNa_3 HVb_3 HNb_3 HVz_3 HNz_3 HVq_3 HNq_3 HVr_3 HNr_3 HBW_3
          have HVs_4 := HVn
          have HNs_4 := HNn
          clear HVn HNn HBW204
          go_wp2_with fail
          rw [← HGs.out, ← HW204.out]
          refine (ncmpV (K := 15) (L := 0) (z := 1) HNr_4.out HNz_4.out (by omega) (by omega) (cmpZ_pos HR.out)).mono ?_
          rintro e w205 ⟨rfl, hb⟩
          have HBw205 := Lib.hid hb
          clear hb
          have HVa_5 := Lib.hid (HVa_4.out.below HBw205.out HVa_4.out.lt)
          have HNa_5 := Lib.hid (HNa_4.out.below HBw205.out)
          have HVb_5 := Lib.hid (HVb_4.out.below HBw205.out HVb_4.out.lt)
          have HNb_5 := Lib.hid (HNb_4.out.below HBw205.out)
          have HVz_5 := Lib.hid (HVz_4.out.below HBw205.out HVz_4.out.lt)
          have HNz_5 := Lib.hid (HNz_4.out.below HBw205.out)
          have HVq_5 := Lib.hid (HVq_4.out.below HBw205.out HVq_4.out.lt)
          have HNq_5 := Lib.hid (HNq_4.out.below HBw205.out)
          have HVr_5 := Lib.hid (HVr_4.out.below HBw205.out HVr_4.out.lt)
          have HNr_5 := Lib.hid (HNr_4.out.below HBw205.out)
          have HVs_5 := Lib.hid (HVs_4.out.below HBw205.out HVs_4.out.lt)
          have HNs_5 := Lib.hid (HNs_4.out.below HBw205.out)
          have HBW_5 := Lib.hid (HBW_4.out.trans (HBw205.out.mono HBW_4.out.size))
          clear HVa_4 HNa_4 HVb_4 HNb_4 HVz_4 HNz_4 HVq_4 HNq_4 HVr_4 HNr_4 HVs_4 HNs_4 HBW_4
          clear HBw205
          clear qr0 qr1 tr qz0 qz1 tz
          have qb0 := HVb_5.out.c0
          have qb1 := HVb_5.out.c1
          have tb := HVb_5.out.lt
          have qz0 := HVz_5.out.c0
          have qz1 := HVz_5.out.c1
          have tz := HVz_5.out.lt
          obtain ⟨W206, hW206⟩ : ∃ W, W = w205.alloc (.cells #[.bool b2, .slice s2 l2 c2] 25) := ⟨_, rfl⟩
          obtain ⟨gm, hgm⟩ : ∃ g, g = w205.heap.size := ⟨_, rfl⟩
          have HBW206 := Lib.hid (show Below (w205).heap.size (w205) W206 by rw [hW206]; exact (Below.refl _ _).alloc (Nat.le_refl _) _)
          have hgx9 : gm = (w205).heap.size := by rw [hgm]
          have HVn := Lib.hid (show VarAt W206 gm b2 s2 l2 c2 by rw [hW206, hgx9]; exact VarAt.made _ _ _ _ _)
          have HNn := Lib.hid (HNb_5.out.below HBW206.out)
          have NEam := Lib.hid (show ga ≠ gm by have := HVa_5.out.lt; omega)
          have NEbm := Lib.hid (show ga + 1 ≠ gm by have := HVb_5.out.lt; omega)
          have NEzm := Lib.hid (show gz ≠ gm by have := HVz_5.out.lt; omega)
          have NEqm := Lib.hid (show gq ≠ gm by have := HVq_5.out.lt; omega)
          have NErm := Lib.hid (show gr ≠ gm by have := HVr_5.out.lt; omega)
          have NEsm := Lib.hid (show gs ≠ gm by have := HVs_5.out.lt; omega)
          have LEm := Lib.hid (show w.heap.size ≤ gm by rw [hgx9]; exact HBW_5.out.size)
          have HW206 := Lib.hid hW206
          have HGm := Lib.hid hgm
          clear hW206 hgm hgx9
          have HVa_6 := Lib.hid (HVa_5.out.below HBW206.out HVa_5.out.lt)
          have HNa_6 := Lib.hid (HNa_5.out.below HBW206.out)
          have HVb_6 := Lib.hid (HVb_5.out.below HBW206.out HVb_5.out.lt)
          have HNb_6 := Lib.hid (HNb_5.out.below HBW206.out)
          have HVz_6 := Lib.hid (HVz_5.out.below HBW206.out HVz_5.out.lt)
          have HNz_6 := Lib.hid (HNz_5.out.below HBW206.out)
          have HVq_6 := Lib.hid (HVq_5.out.below HBW206.out HVq_5.out.lt)
          have HNq_6 := Lib.hid (HNq_5.out.below HBW206.out)
          have HVr_6 := Lib.hid (HVr_5.out.below HBW206.out HVr_5.out.lt)
          have HNr_6 := Lib.hid (HNr_5.out.below HBW206.out)
          have HVs_6 := Lib.hid (HVs_5.out.below HBW206.out HVs_5.out.lt)
          have HNs_6 := Lib.hid (HNs_5.out.below HBW206.out)
          have HBW_6 := Lib.hid (HBW_5.out.trans (HBW206.out.mono HBW_5.out.size))
          clear HVa_5 HNa_5 HVb_5 HNb_5 HVz_5 HNz_5 HVq_5 HNq_5 HVr_5 HNr_5 HVs_5 HNs_5 HBW_5
          have HVm_6 := HVn
          have HNm_6 := HNn
          clear HVn HNn HBW206
          go_wp2_with fail
          rw [← HGm.out, ← HW206.out]
          refine (ncmpV (K := 15) (L := 0) (z := -1) HNb_6.out HNz_6.out (by omega) (by omega) (by have := HY.out; exact cmpZ_neg (by omega))).mono ?_
          rintro e w207 ⟨rfl, hb⟩
          have HBw207 := Lib.hid hb
          clear hb
          have HVa_7 := Lib.hid (HVa_6.out.below HBw207.out HVa_6.out.lt)
          have HNa_7 := Lib.hid (HNa_6.out.below HBw207.out)
          have HVb_7 := Lib.hid (HVb_6.out.below HBw207.out HVb_6.out.lt)
          have HNb_7 := Lib.hid (HNb_6.out.below HBw207.out)
          have HVz_7 := Lib.hid (HVz_6.out.below HBw207.out HVz_6.out.lt)
          have HNz_7 := Lib.hid (HNz_6.out.below HBw207.out)
          have HVq_7 := Lib.hid (HVq_6.out.below HBw207.out HVq_6.out.lt)
          have HNq_7 := Lib.hid (HNq_6.out.below HBw207.out)
          have HVr_7 := Lib.hid (HVr_6.out.below HBw207.out HVr_6.out.lt)
          have HNr_7 := Lib.hid (HNr_6.out.below HBw207.out)
          have HVs_7 := Lib.hid (HVs_6.out.below HBw207.out HVs_6.out.lt)
          have HNs_7 := Lib.hid (HNs_6.out.below HBw207.out)
          have HVm_7 := Lib.hid (HVm_6.out.below HBw207.out HVm_6.out.lt)
          have HNm_7 := Lib.hid (HNm_6.out.below HBw207.out)
          have HBW_7 := Lib.hid (HBW_6.out.trans (HBw207.out.mono HBW_6.out.size))
          clear HVa_6 HNa_6 HVb_6 HNb_6 HVz_6 HNz_6 HVq_6 HNq_6 HVr_6 HNr_6 HVs_6 HNs_6 HVm_6 HNm_6 HBW_6
          clear HBw207
          clear qb0 qb1 tb qz0 qz1 tz
          have qb0 := HVb_7.out.c0
          have qb1 := HVb_7.out.c1
          have tb := HVb_7.out.lt
          have qz0 := HVz_7.out.c0
          have qz1 := HVz_7.out.c1
          have tz := HVz_7.out.lt
          go_wp2_with fail
          refine (nsub (K := 0) (L := 15) HNz_7.out HNb_7.out (by omega) (by omega)).mono ?_
          rintro e w208 ⟨⟨bn8, sn8, ln8, cn8, rfl, hn⟩, hb⟩
          have HBw208 := Lib.hid hb
          have HNt_8 := Lib.hid hn
          clear hn
          clear hb
          have HVa_8 := Lib.hid (HVa_7.out.below HBw208.out HVa_7.out.lt)
          have HNa_8 := Lib.hid (HNa_7.out.below HBw208.out)
          have HVb_8 := Lib.hid (HVb_7.out.below HBw208.out HVb_7.out.lt)
          have HNb_8 := Lib.hid (HNb_7.out.below HBw208.out)
          have HVz_8 := Lib.hid (HVz_7.out.below HBw208.out HVz_7.out.lt)
          have HNz_8 := Lib.hid (HNz_7.out.below HBw208.out)
          have HVq_8 := Lib.hid (HVq_7.out.below HBw208.out HVq_7.out.lt)
          have HNq_8 := Lib.hid (HNq_7.out.below HBw208.out)
          have HVr_8 := Lib.hid (HVr_7.out.below HBw208.out HVr_7.out.lt)
          have HNr_8 := Lib.hid (HNr_7.out.below HBw208.out)
          have HVs_8 := Lib.hid (HVs_7.out.below HBw208.out HVs_7.out.lt)
          have HNs_8 := Lib.hid (HNs_7.out.below HBw208.out)
          have HVm_8 := Lib.hid (HVm_7.out.below HBw208.out HVm_7.out.lt)
          have HNm_8 := Lib.hid (HNm_7.out.below HBw208.out)
          have HBW_8 := Lib.hid (HBW_7.out.trans (HBw208.out.mono HBW_7.out.size))
          clear HVa_7 HNa_7 HVb_7 HNb_7 HVz_7 HNz_7 HVq_7 HNq_7 HVr_7 HNr_7 HVs_7 HNs_7 HVm_7 HNm_7 HBW_7
          clear HBw208
          clear qb0 qb1 tb qz0 qz1 tz
          have qm0 := HVm_8.out.c0
          have qm1 := HVm_8.out.c1
          have fm0 := HVm_8.out.f0 0
          have fm1 := HVm_8.out.f0 1
          have tm := HVm_8.out.lt
          have HVa_9 := Lib.hid (HVa_8.out.other (x := .bool bn8) (y := .slice sn8 ln8 cn8) NEam.out)
          have HVb_9 := Lib.hid (HVb_8.out.other (x := .bool bn8) (y := .slice sn8 ln8 cn8) NEbm.out)
          have HVz_9 := Lib.hid (HVz_8.out.other (x := .bool bn8) (y := .slice sn8 ln8 cn8) NEzm.out)
          have HVq_9 := Lib.hid (HVq_8.out.other (x := .bool bn8) (y := .slice sn8 ln8 cn8) NEqm.out)
          have HVr_9 := Lib.hid (HVr_8.out.other (x := .bool bn8) (y := .slice sn8 ln8 cn8) NErm.out)
          have HVs_9 := Lib.hid (HVs_8.out.other (x := .bool bn8) (y := .slice sn8 ln8 cn8) NEsm.out)
          have HNa_9 := Lib.hid (HNa_8.out.set (b' := bn8) (s' := sn8) (l' := ln8) (c' := cn8) HVm_8.out)
          have HNb_9 := Lib.hid (HNb_8.out.set (b' := bn8) (s' := sn8) (l' := ln8) (c' := cn8) HVm_8.out)
          have HNz_9 := Lib.hid (HNz_8.out.set (b' := bn8) (s' := sn8) (l' := ln8) (c' := cn8) HVm_8.out)
          have HNq_9 := Lib.hid (HNq_8.out.set (b' := bn8) (s' := sn8) (l' := ln8) (c' := cn8) HVm_8.out)
          have HNr_9 := Lib.hid (HNr_8.out.set (b' := bn8) (s' := sn8) (l' := ln8) (c' := cn8) HVm_8.out)
          have HNs_9 := Lib.hid (HNs_8.out.set (b' := bn8) (s' := sn8) (l' := ln8) (c' := cn8) HVm_8.out)
          have HNt_9 := Lib.hid (HNt_8.out.set (b' := bn8) (s' := sn8) (l' := ln8) (c' := cn8) HVm_8.out)
          have HVm_9 := Lib.hid (HVm_8.out.set (b' := bn8) (s' := sn8) (l' := ln8) (c' := cn8))
          have HBW_9 := Lib.hid ((HBW_8.out.setCell (p := ⟨gm, 0, none⟩) LEm.out (.bool bn8)).setCell (p := ⟨gm, 1, none⟩) LEm.out (.slice sn8 ln8 cn8))
          have HNm_9 := HNt_9
          clear HVa_8 HVb_8 HVz_8 HVq_8 HVr_8 HVs_8 HNa_8 HNb_8 HNz_8 HNq_8 HNr_8 HNs_8 HNt_8 HBW_8
          obtain ⟨WX, hWX⟩ : ∃ W, W = ((w208.setCell ⟨gm, 0, none⟩ (.bool bn8)).setCell ⟨gm, 1, none⟩ (.slice sn8 ln8 cn8)) := ⟨_, rfl⟩
          rw [← hWX] at HVa_9 HVb_9 HVz_9 HVq_9 HVr_9 HVs_9 HVm_9 HNa_9 HNb_9 HNz_9 HNq_9 HNr_9 HNs_9 HNm_9 HBW_9
          have HWX := Lib.hid hWX
          clear hWX
          go_wp2_with fail
          rw [← HWX.out]
          clear qm0 qm1 fm0 fm1 tm
          go_big_unhide
          (try dsimp only [List.append])
          have BC := Lib.hid (show Below WX.heap.size WX WX.drew from (Below.refl _ _).drew)
          refine wp_region_noPanic ?_
          refine wp_region_held_drew (S := fun w' => w'.cell? ⟨ga, 0, none⟩ = some (.bool b1) ∧ w'.cell? ⟨ga, 1, none⟩ = some (.slice s1 l1 c1) ∧ w'.cell? ⟨ga + 1, 0, none⟩ = some (.bool b2) ∧ w'.cell? ⟨ga + 1, 1, none⟩ = some (.slice s2 l2 c2) ∧ w'.cell? ⟨gz, 0, none⟩ = some (.bool false) ∧ w'.cell? ⟨gz, 1, none⟩ = some (.slice none 0 0) ∧ w'.cell? ⟨gq, 0, none⟩ = some (.bool bv1) ∧ w'.cell? ⟨gq, 1, none⟩ = some (.slice sv1 lv1 cv1) ∧ w'.cell? ⟨gr, 0, none⟩ = some (.bool bv2) ∧ w'.cell? ⟨gr, 1, none⟩ = some (.slice sv2 lv2 cv2) ∧ w'.cell? ⟨gs, 0, none⟩ = some (.bool bv2) ∧ w'.cell? ⟨gs, 1, none⟩ = some (.slice sv2 lv2 cv2) ∧ w'.cell? ⟨gm, 0, none⟩ = some (.bool bn8) ∧ w'.cell? ⟨gm, 1, none⟩ = some (.slice sn8 ln8 cn8)) (by kernel_rfl) (by (try dsimp only); exact ⟨(HVa_9.out.below BC.out HVa_9.out.lt).c0, (HVa_9.out.below BC.out HVa_9.out.lt).c1, (HVb_9.out.below BC.out HVb_9.out.lt).c0, (HVb_9.out.below BC.out HVb_9.out.lt).c1, (HVz_9.out.below BC.out HVz_9.out.lt).c0, (HVz_9.out.below BC.out HVz_9.out.lt).c1, (HVq_9.out.below BC.out HVq_9.out.lt).c0, (HVq_9.out.below BC.out HVq_9.out.lt).c1, (HVr_9.out.below BC.out HVr_9.out.lt).c0, (HVr_9.out.below BC.out HVr_9.out.lt).c1, (HVs_9.out.below BC.out HVs_9.out.lt).c0, (HVs_9.out.below BC.out HVs_9.out.lt).c1, (HVm_9.out.below BC.out HVm_9.out.lt).c0, (HVm_9.out.below BC.out HVm_9.out.lt).c1⟩) (fun hHeld => ?_)
          refine' take_any 0 81 (v := _) ?hid0 ?hdd0 (by kernel_rfl) (by kernel_rfl) (by kernel_rfl) (fun _ _ _ h => h) ?hyd0 hHeld ?hrd0
          case hid0 => (simp only [List.getElem?_toArray, List.getElem?_cons_zero]; rfl)
          case hdd0 => rfl
          case hyd0 =>
            refine' Or.inl ⟨?hwd0, ?hxd0⟩
            case hwd0 => rfl
            case hxd0 => (intro w hSw; (try dsimp only at hSw); go_simp; (try with_reducible rfl))
          (try simp only [Act.put, List.setIfInBounds_toArray, List.set_cons_zero, List.set_cons_succ])
          refine' take_any 1 82 (v := _) ?hid1 ?hdd1 (by kernel_rfl) (by kernel_rfl) (by kernel_rfl) (fun _ _ _ h => h) ?hyd1 hHeld ?hrd1
          case hid1 => (simp only [List.getElem?_toArray, List.getElem?_cons_succ, List.getElem?_cons_zero]; rfl)
          case hdd1 => rfl
          case hyd1 =>
            refine' Or.inl ⟨?hwd1, ?hxd1⟩
            case hwd1 => rfl
            case hxd1 => (intro w hSw; (try dsimp only at hSw); go_simp; (try with_reducible rfl))
          (try simp only [Act.put, List.setIfInBounds_toArray, List.set_cons_zero, List.set_cons_succ])
          refine' take_any 2 83 (v := _) ?hid2 ?hdd2 (by kernel_rfl) (by kernel_rfl) (by kernel_rfl) (fun _ _ _ h => h) ?hyd2 hHeld ?hrd2
          case hid2 => (simp only [List.getElem?_toArray, List.getElem?_cons_succ, List.getElem?_cons_zero]; rfl)
          case hdd2 => rfl
          case hyd2 =>
            refine' Or.inl ⟨?hwd2, ?hxd2⟩
            case hwd2 => rfl
            case hxd2 => (intro w hSw; (try dsimp only at hSw); go_simp; (try with_reducible rfl))
          (try simp only [Act.put, List.setIfInBounds_toArray, List.set_cons_zero, List.set_cons_succ])
          refine' take_any 3 84 (v := _) ?hid3 ?hdd3 (by kernel_rfl) (by kernel_rfl) (by kernel_rfl) (fun _ _ _ h => h) ?hyd3 hHeld ?hrd3
          case hid3 => (simp only [List.getElem?_toArray, List.getElem?_cons_succ, List.getElem?_cons_zero]; rfl)
          case hdd3 => rfl
          case hyd3 =>
            refine' Or.inl ⟨?hwd3, ?hxd3⟩
            case hwd3 => rfl
            case hxd3 => (intro w hSw; (try dsimp only at hSw); go_simp; (try with_reducible rfl))
          (try simp only [Act.put, List.setIfInBounds_toArray, List.set_cons_zero, List.set_cons_succ])
          refine' take_any 4 85 (v := _) ?hid4 ?hdd4 (by kernel_rfl) (by kernel_rfl) (by kernel_rfl) (fun _ _ _ h => h) ?hyd4 hHeld ?hrd4
          case hid4 => (simp only [List.getElem?_toArray, List.getElem?_cons_succ, List.getElem?_cons_zero]; rfl)
          case hdd4 => rfl
          case hyd4 =>
            refine' Or.inl ⟨?hwd4, ?hxd4⟩
            case hwd4 => rfl
            case hxd4 => (intro w hSw; (try dsimp only at hSw); go_simp; (try with_reducible rfl))
          (try simp only [Act.put, List.setIfInBounds_toArray, List.set_cons_zero, List.set_cons_succ])
          refine' take_any 5 86 (v := _) ?hid5 ?hdd5 (by kernel_rfl) (by kernel_rfl) (by kernel_rfl) (fun _ _ _ h => h) ?hyd5 hHeld ?hrd5
          case hid5 => (simp only [List.getElem?_toArray, List.getElem?_cons_succ, List.getElem?_cons_zero]; rfl)
          case hdd5 => rfl
          case hyd5 =>
            refine' Or.inl ⟨?hwd5, ?hxd5⟩
            case hwd5 => rfl
            case hxd5 => (intro w hSw; (try dsimp only at hSw); go_simp; (try with_reducible rfl))
          (try simp only [Act.put, List.setIfInBounds_toArray, List.set_cons_zero, List.set_cons_succ])
          refine' take_any 6 87 (v := _) ?hid6 ?hdd6 (by kernel_rfl) (by kernel_rfl) (by kernel_rfl) (fun _ _ _ h => h) ?hyd6 hHeld ?hrd6
          case hid6 => (simp only [List.getElem?_toArray, List.getElem?_cons_succ, List.getElem?_cons_zero]; rfl)
          case hdd6 => rfl
          case hyd6 =>
            refine' Or.inl ⟨?hwd6, ?hxd6⟩
            case hwd6 => rfl
            case hxd6 => (intro w hSw; (try dsimp only at hSw); go_simp; (try with_reducible rfl))
          (try simp only [Act.put, List.setIfInBounds_toArray, List.set_cons_zero, List.set_cons_succ])
          refine' take_any 7 88 (v := _) ?hid7 ?hdd7 (by kernel_rfl) (by kernel_rfl) (by kernel_rfl) (fun _ _ _ h => h) ?hyd7 hHeld ?hrd7
          case hid7 => (simp only [List.getElem?_toArray, List.getElem?_cons_succ, List.getElem?_cons_zero]; rfl)
          case hdd7 => rfl
          case hyd7 =>
            refine' Or.inl ⟨?hwd7, ?hxd7⟩
            case hwd7 => rfl
            case hxd7 => (intro w hSw; (try dsimp only at hSw); go_simp; (try with_reducible rfl))
          (try simp only [Act.put, List.setIfInBounds_toArray, List.set_cons_zero, List.set_cons_succ])
          refine' take_any 8 89 (v := _) ?hid8 ?hdd8 (by kernel_rfl) (by kernel_rfl) (by kernel_rfl) (fun _ _ _ h => h) ?hyd8 hHeld ?hrd8
          case hid8 => (simp only [List.getElem?_toArray, List.getElem?_cons_succ, List.getElem?_cons_zero]; rfl)
          case hdd8 => rfl
          case hyd8 =>
            refine' Or.inl ⟨?hwd8, ?hxd8⟩
            case hwd8 => rfl
            case hxd8 => (intro w hSw; (try dsimp only at hSw); go_simp; (try with_reducible rfl))
          (try simp only [Act.put, List.setIfInBounds_toArray, List.set_cons_zero, List.set_cons_succ])
          refine' take_any 9 90 (v := _) ?hid9 ?hdd9 (by kernel_rfl) (by kernel_rfl) (by kernel_rfl) (fun _ _ _ h => h) ?hyd9 hHeld ?hrd9
          case hid9 => (simp only [List.getElem?_toArray, List.getElem?_cons_succ, List.getElem?_cons_zero]; rfl)
          case hdd9 => rfl
          case hyd9 =>
            refine' Or.inl ⟨?hwd9, ?hxd9⟩
            case hwd9 => rfl
            case hxd9 => (intro w hSw; (try dsimp only at hSw); go_simp; (try with_reducible rfl))
          (try simp only [Act.put, List.setIfInBounds_toArray, List.set_cons_zero, List.set_cons_succ])
          refine' take_any 10 91 (v := _) ?hid10 ?hdd10 (by kernel_rfl) (by kernel_rfl) (by kernel_rfl) (fun _ _ _ h => h) ?hyd10 hHeld ?hrd10
          case hid10 => (simp only [List.getElem?_toArray, List.getElem?_cons_succ, List.getElem?_cons_zero]; rfl)
          case hdd10 => rfl
          case hyd10 =>
            refine' Or.inl ⟨?hwd10, ?hxd10⟩
            case hwd10 => rfl
            case hxd10 => (intro w hSw; (try dsimp only at hSw); go_simp; (try with_reducible rfl))
          (try simp only [Act.put, List.setIfInBounds_toArray, List.set_cons_zero, List.set_cons_succ])
          refine' take_any 11 92 (v := _) ?hid11 ?hdd11 (by kernel_rfl) (by kernel_rfl) (by kernel_rfl) (fun _ _ _ h => h) ?hyd11 hHeld ?hrd11
          case hid11 => (simp only [List.getElem?_toArray, List.getElem?_cons_succ, List.getElem?_cons_zero]; rfl)
          case hdd11 => rfl
          case hyd11 =>
            refine' Or.inl ⟨?hwd11, ?hxd11⟩
            case hwd11 => rfl
            case hxd11 => (intro w hSw; (try dsimp only at hSw); go_simp; (try with_reducible rfl))
          (try simp only [Act.put, List.setIfInBounds_toArray, List.set_cons_zero, List.set_cons_succ])
          refine' take_any 13 94 (v := _) ?hid13 ?hdd13 (by kernel_rfl) (by kernel_rfl) (by kernel_rfl) (fun _ _ _ h => h) ?hyd13 hHeld ?hrd13
          case hid13 => (simp only [List.getElem?_toArray, List.getElem?_cons_succ, List.getElem?_cons_zero]; rfl)
          case hdd13 => rfl
          case hyd13 =>
            refine' Or.inl ⟨?hwd13, ?hxd13⟩
            case hwd13 => rfl
            case hxd13 => (intro w hSw; (try dsimp only at hSw); go_simp; (try with_reducible rfl))
          (try simp only [Act.put, List.setIfInBounds_toArray, List.set_cons_zero, List.set_cons_succ])
          refine' take_any 15 96 (v := _) ?hid15 ?hdd15 (by kernel_rfl) (by kernel_rfl) (by kernel_rfl) (fun _ _ _ h => h) ?hyd15 hHeld ?hrd15
          case hid15 => (simp only [List.getElem?_toArray, List.getElem?_cons_succ, List.getElem?_cons_zero]; rfl)
          case hdd15 => rfl
          case hyd15 =>
            refine' Or.inl ⟨?hwd15, ?hxd15⟩
            case hwd15 => rfl
            case hxd15 => (intro w hSw; (try dsimp only at hSw); go_simp; (try with_reducible rfl))
          (try simp only [Act.put, List.setIfInBounds_toArray, List.set_cons_zero, List.set_cons_succ])
          refine' take_call 12 ?hid12 (by kernel_rfl) ?hrd12
          case hid12 => (simp only [List.getElem?_toArray, List.getElem?_cons_succ, List.getElem?_cons_zero]; rfl)
          intro K hK
          go_simp
          go_at_call 29
          refine (nmul (K := 15) (L := 15) (HNq_9.out.below BC.out) (HNb_9.out.below BC.out) (by omega) (by omega)).mono ?_
          rintro e w101 ⟨⟨b101, s101, l101, c101, rfl, hn⟩, hb⟩
          have HB1 := Lib.hid hb
          have HN1 := Lib.hid hn
          replace BC := Lib.hid (BC.out.trans (hb.mono BC.out.size))
          clear hb hn
          go_wp2_with fail
          clear hHeld
          refine hK.out _ _ (by (try dsimp only); exact ⟨(HVa_9.out.below BC.out HVa_9.out.lt).c0, (HVa_9.out.below BC.out HVa_9.out.lt).c1, (HVb_9.out.below BC.out HVb_9.out.lt).c0, (HVb_9.out.below BC.out HVb_9.out.lt).c1, (HVz_9.out.below BC.out HVz_9.out.lt).c0, (HVz_9.out.below BC.out HVz_9.out.lt).c1, (HVq_9.out.below BC.out HVq_9.out.lt).c0, (HVq_9.out.below BC.out HVq_9.out.lt).c1, (HVr_9.out.below BC.out HVr_9.out.lt).c0, (HVr_9.out.below BC.out HVr_9.out.lt).c1, (HVs_9.out.below BC.out HVs_9.out.lt).c0, (HVs_9.out.below BC.out HVs_9.out.lt).c1, (HVm_9.out.below BC.out HVm_9.out.lt).c0, (HVm_9.out.below BC.out HVm_9.out.lt).c1⟩) (fun hHeld => ?_)
          clear hK K
          (try simp only [Act.put, List.setIfInBounds_toArray, List.set_cons_zero, List.set_cons_succ])
          refine' take_call 14 ?hid14 (by kernel_rfl) ?hrd14
          case hid14 => (simp only [List.getElem?_toArray, List.getElem?_cons_succ, List.getElem?_cons_zero]; rfl)
          intro K hK
          go_simp
          have _hb := HB1.out
          clear _hb
          go_at_call 25
          refine (nadd (K := 30) (L := 15) HN1.out (HNr_9.out.below BC.out) (by omega) (by omega)).mono ?_
          rintro e w102 ⟨⟨b102, s102, l102, c102, rfl, hn⟩, hb⟩
          have HB2 := Lib.hid hb
          have HN2 := Lib.hid hn
          replace BC := Lib.hid (BC.out.trans (hb.mono BC.out.size))
          clear hb hn
          go_wp2_with fail
          clear hHeld
          refine hK.out _ _ (by (try dsimp only); exact ⟨(HVa_9.out.below BC.out HVa_9.out.lt).c0, (HVa_9.out.below BC.out HVa_9.out.lt).c1, (HVb_9.out.below BC.out HVb_9.out.lt).c0, (HVb_9.out.below BC.out HVb_9.out.lt).c1, (HVz_9.out.below BC.out HVz_9.out.lt).c0, (HVz_9.out.below BC.out HVz_9.out.lt).c1, (HVq_9.out.below BC.out HVq_9.out.lt).c0, (HVq_9.out.below BC.out HVq_9.out.lt).c1, (HVr_9.out.below BC.out HVr_9.out.lt).c0, (HVr_9.out.below BC.out HVr_9.out.lt).c1, (HVs_9.out.below BC.out HVs_9.out.lt).c0, (HVs_9.out.below BC.out HVs_9.out.lt).c1, (HVm_9.out.below BC.out HVm_9.out.lt).c0, (HVm_9.out.below BC.out HVm_9.out.lt).c1⟩) (fun hHeld => ?_)
          clear hK K
          (try simp only [Act.put, List.setIfInBounds_toArray, List.set_cons_zero, List.set_cons_succ])
          refine' take_call 16 ?hid16 (by kernel_rfl) ?hrd16
          case hid16 => (simp only [List.getElem?_toArray, List.getElem?_cons_succ, List.getElem?_cons_zero]; rfl)
          intro K hK
          go_simp
          have _hb := HB2.out
          clear _hb
          go_at_call 31
          refine (ncmp_eq (K := 46) (L := 15) HN2.out (HNa_9.out.below BC.out) (by omega) (by omega) (HBACK.out)).mono ?_
          rintro e w103 ⟨rfl, hb⟩
          have HB3 := Lib.hid hb
          replace BC := Lib.hid (BC.out.trans (hb.mono BC.out.size))
          clear hb
          go_wp2_with fail
          clear hHeld
          refine hK.out _ _ (by (try dsimp only); exact ⟨(HVa_9.out.below BC.out HVa_9.out.lt).c0, (HVa_9.out.below BC.out HVa_9.out.lt).c1, (HVb_9.out.below BC.out HVb_9.out.lt).c0, (HVb_9.out.below BC.out HVb_9.out.lt).c1, (HVz_9.out.below BC.out HVz_9.out.lt).c0, (HVz_9.out.below BC.out HVz_9.out.lt).c1, (HVq_9.out.below BC.out HVq_9.out.lt).c0, (HVq_9.out.below BC.out HVq_9.out.lt).c1, (HVr_9.out.below BC.out HVr_9.out.lt).c0, (HVr_9.out.below BC.out HVr_9.out.lt).c1, (HVs_9.out.below BC.out HVs_9.out.lt).c0, (HVs_9.out.below BC.out HVs_9.out.lt).c1, (HVm_9.out.below BC.out HVm_9.out.lt).c0, (HVm_9.out.below BC.out HVm_9.out.lt).c1⟩) (fun hHeld => ?_)
          clear hK K
          (try simp only [Act.put, List.setIfInBounds_toArray, List.set_cons_zero, List.set_cons_succ])
          refine' take_any 17 98 (v := _) ?hid17 ?hdd17 (by kernel_rfl) (by kernel_rfl) (by kernel_rfl) (fun _ _ _ h => h) ?hyd17 hHeld ?hrd17
          case hid17 => (simp only [List.getElem?_toArray, List.getElem?_cons_succ, List.getElem?_cons_zero]; rfl)
          case hdd17 => rfl
          case hyd17 =>
            refine' Or.inl ⟨?hwd17, ?hxd17⟩
            case hwd17 => rfl
            case hxd17 => (intro w hSw; (try dsimp only at hSw); go_simp; (try with_reducible rfl))
          (try simp only [Act.put, List.setIfInBounds_toArray, List.set_cons_zero, List.set_cons_succ])
          refine' take_any 18 99 (v := _) ?hid18 ?hdd18 (by kernel_rfl) (by kernel_rfl) (by kernel_rfl) (fun _ _ _ h => h) ?hyd18 hHeld ?hrd18
          case hid18 => (simp only [List.getElem?_toArray, List.getElem?_cons_succ, List.getElem?_cons_zero]; rfl)
          case hdd18 => rfl
          case hyd18 =>
            refine' Or.inl ⟨?hwd18, ?hxd18⟩
            case hwd18 => rfl
            case hxd18 => (intro w hSw; (try dsimp only at hSw); go_simp; (try with_reducible rfl))
          (try simp only [Act.put, List.setIfInBounds_toArray, List.set_cons_zero, List.set_cons_succ])
          refine' take_any 19 100 (v := _) ?hid19 ?hdd19 (by kernel_rfl) (by kernel_rfl) (by kernel_rfl) (fun _ _ _ h => h) ?hyd19 hHeld ?hrd19
          case hid19 => (simp only [List.getElem?_toArray, List.getElem?_cons_succ, List.getElem?_cons_zero]; rfl)
          case hdd19 => rfl
          case hyd19 =>
            refine' Or.inl ⟨?hwd19, ?hxd19⟩
            case hwd19 => rfl
            case hxd19 => (intro w hSw; (try dsimp only at hSw); go_simp; (try with_reducible rfl))
          (try simp only [Act.put, List.setIfInBounds_toArray, List.set_cons_zero, List.set_cons_succ])
          refine' take_any 20 101 (v := _) ?hid20 ?hdd20 (by kernel_rfl) (by kernel_rfl) (by kernel_rfl) (fun _ _ _ h => h) ?hyd20 hHeld ?hrd20
          case hid20 => (simp only [List.getElem?_toArray, List.getElem?_cons_succ, List.getElem?_cons_zero]; rfl)
          case hdd20 => rfl
          case hyd20 =>
            refine' Or.inl ⟨?hwd20, ?hxd20⟩
            case hwd20 => rfl
            case hxd20 => (intro w hSw; (try dsimp only at hSw); go_simp; (try with_reducible rfl))
          (try simp only [Act.put, List.setIfInBounds_toArray, List.set_cons_zero, List.set_cons_succ])
          refine' take_any 21 102 (v := _) ?hid21 ?hdd21 (by kernel_rfl) (by kernel_rfl) (by kernel_rfl) (fun _ _ _ h => h) ?hyd21 hHeld ?hrd21
          case hid21 => (simp only [List.getElem?_toArray, List.getElem?_cons_succ, List.getElem?_cons_zero]; rfl)
          case hdd21 => rfl
          case hyd21 =>
            refine' Or.inl ⟨?hwd21, ?hxd21⟩
            case hwd21 => rfl
            case hxd21 => (intro w hSw; (try dsimp only at hSw); go_simp; (try with_reducible rfl))
          (try simp only [Act.put, List.setIfInBounds_toArray, List.set_cons_zero, List.set_cons_succ])
          refine' take_call 22 ?hid22 (by kernel_rfl) ?hrd22
          case hid22 => (simp only [List.getElem?_toArray, List.getElem?_cons_succ, List.getElem?_cons_zero]; rfl)
          intro K hK
          go_simp
          have _hb := HB3.out
          clear _hb
          go_at_call 31
          refine (ncmpV (K := 15) (L := 16) (z := (-1)) (HNs_9.out.below BC.out) (HNm_9.out.below BC.out) (by omega) (by omega) (by have h1 := HNEAR.out; have h2 := HY.out; have h3 := HR.out; exact cmpZ_neg (by omega))).mono ?_
          rintro e w104 ⟨rfl, hb⟩
          have HB4 := Lib.hid hb
          replace BC := Lib.hid (BC.out.trans (hb.mono BC.out.size))
          clear hb
          go_wp2_with fail
          clear hHeld
          refine hK.out _ _ (by (try dsimp only); exact ⟨(HVa_9.out.below BC.out HVa_9.out.lt).c0, (HVa_9.out.below BC.out HVa_9.out.lt).c1, (HVb_9.out.below BC.out HVb_9.out.lt).c0, (HVb_9.out.below BC.out HVb_9.out.lt).c1, (HVz_9.out.below BC.out HVz_9.out.lt).c0, (HVz_9.out.below BC.out HVz_9.out.lt).c1, (HVq_9.out.below BC.out HVq_9.out.lt).c0, (HVq_9.out.below BC.out HVq_9.out.lt).c1, (HVr_9.out.below BC.out HVr_9.out.lt).c0, (HVr_9.out.below BC.out HVr_9.out.lt).c1, (HVs_9.out.below BC.out HVs_9.out.lt).c0, (HVs_9.out.below BC.out HVs_9.out.lt).c1, (HVm_9.out.below BC.out HVm_9.out.lt).c0, (HVm_9.out.below BC.out HVm_9.out.lt).c1⟩) (fun hHeld => ?_)
          clear hK K
          (try simp only [Act.put, List.setIfInBounds_toArray, List.set_cons_zero, List.set_cons_succ])
          refine' take_any 23 104 (v := _) ?hid23 ?hdd23 (by kernel_rfl) (by kernel_rfl) (by kernel_rfl) (fun _ _ _ h => h) ?hyd23 hHeld ?hrd23
          case hid23 => (simp only [List.getElem?_toArray, List.getElem?_cons_succ, List.getElem?_cons_zero]; rfl)
          case hdd23 => rfl
          case hyd23 =>
            refine' Or.inl ⟨?hwd23, ?hxd23⟩
            case hwd23 => rfl
            case hxd23 => (intro w hSw; (try dsimp only at hSw); go_simp; (try with_reducible rfl))
          (try simp only [Act.put, List.setIfInBounds_toArray, List.set_cons_zero, List.set_cons_succ])
          refine' take_any 24 105 (v := _) ?hid24 ?hdd24 (by kernel_rfl) (by kernel_rfl) (by kernel_rfl) (fun _ _ _ h => h) ?hyd24 hHeld ?hrd24
          case hid24 => (simp only [List.getElem?_toArray, List.getElem?_cons_succ, List.getElem?_cons_zero]; rfl)
          case hdd24 => rfl
          case hyd24 =>
            refine' Or.inl ⟨?hwd24, ?hxd24⟩
            case hwd24 => rfl
            case hxd24 => (intro w hSw; (try dsimp only at hSw); go_simp; (try with_reducible rfl))
          (try simp only [Act.put, List.setIfInBounds_toArray, List.set_cons_zero, List.set_cons_succ])
          refine' take_any 25 106 (v := _) ?hid25 ?hdd25 (by kernel_rfl) (by kernel_rfl) (by kernel_rfl) (fun _ _ _ h => h) ?hyd25 hHeld ?hrd25
          case hid25 => (simp only [List.getElem?_toArray, List.getElem?_cons_succ, List.getElem?_cons_zero]; rfl)
          case hdd25 => rfl
          case hyd25 =>
            refine' Or.inl ⟨?hwd25, ?hxd25⟩
            case hwd25 => rfl
            case hxd25 => (intro w hSw; (try dsimp only at hSw); go_simp; (try with_reducible rfl))
          (try simp only [Act.put, List.setIfInBounds_toArray, List.set_cons_zero, List.set_cons_succ])
          refine' take_any 26 107 (v := _) ?hid26 ?hdd26 (by kernel_rfl) (by kernel_rfl) (by kernel_rfl) (fun _ _ _ h => h) ?hyd26 hHeld ?hrd26
          case hid26 => (simp only [List.getElem?_toArray, List.getElem?_cons_succ, List.getElem?_cons_zero]; rfl)
          case hdd26 => rfl
          case hyd26 =>
            refine' Or.inl ⟨?hwd26, ?hxd26⟩
            case hwd26 => rfl
            case hxd26 => (intro w hSw; (try dsimp only at hSw); go_simp; (try with_reducible rfl))
          (try simp only [Act.put, List.setIfInBounds_toArray, List.set_cons_zero, List.set_cons_succ])
          refine' take_any 27 108 (v := _) ?hid27 ?hdd27 (by kernel_rfl) (by kernel_rfl) (by kernel_rfl) (fun _ _ _ h => h) ?hyd27 hHeld ?hrd27
          case hid27 => (simp only [List.getElem?_toArray, List.getElem?_cons_succ, List.getElem?_cons_zero]; rfl)
          case hdd27 => rfl
          case hyd27 =>
            refine' Or.inl ⟨?hwd27, ?hxd27⟩
            case hwd27 => rfl
            case hxd27 => (intro w hSw; (try dsimp only at hSw); go_simp; (try with_reducible rfl))
          (try simp only [Act.put, List.setIfInBounds_toArray, List.set_cons_zero, List.set_cons_succ])
          refine' take_call 28 ?hid28 (by kernel_rfl) ?hrd28
          case hid28 => (simp only [List.getElem?_toArray, List.getElem?_cons_succ, List.getElem?_cons_zero]; rfl)
          intro K hK
          go_simp
          have _hb := HB4.out
          clear _hb
          go_at_call 31
          refine (ncmpV (K := 15) (L := 0) (z := 1) (HNr_9.out.below BC.out) (HNz_9.out.below BC.out) (by omega) (by omega) (cmpZ_pos HR.out)).mono ?_
          rintro e w105 ⟨rfl, hb⟩
          have HB5 := Lib.hid hb
          replace BC := Lib.hid (BC.out.trans (hb.mono BC.out.size))
          clear hb
          go_wp2_with fail
          clear hHeld
          refine hK.out _ _ (by (try dsimp only); exact ⟨(HVa_9.out.below BC.out HVa_9.out.lt).c0, (HVa_9.out.below BC.out HVa_9.out.lt).c1, (HVb_9.out.below BC.out HVb_9.out.lt).c0, (HVb_9.out.below BC.out HVb_9.out.lt).c1, (HVz_9.out.below BC.out HVz_9.out.lt).c0, (HVz_9.out.below BC.out HVz_9.out.lt).c1, (HVq_9.out.below BC.out HVq_9.out.lt).c0, (HVq_9.out.below BC.out HVq_9.out.lt).c1, (HVr_9.out.below BC.out HVr_9.out.lt).c0, (HVr_9.out.below BC.out HVr_9.out.lt).c1, (HVs_9.out.below BC.out HVs_9.out.lt).c0, (HVs_9.out.below BC.out HVs_9.out.lt).c1, (HVm_9.out.below BC.out HVm_9.out.lt).c0, (HVm_9.out.below BC.out HVm_9.out.lt).c1⟩) (fun hHeld => ?_)
          clear hK K
          (try simp only [Act.put, List.setIfInBounds_toArray, List.set_cons_zero, List.set_cons_succ])
          refine' take_any 29 110 (v := _) ?hid29 ?hdd29 (by kernel_rfl) (by kernel_rfl) (by kernel_rfl) (fun _ _ _ h => h) ?hyd29 hHeld ?hrd29
          case hid29 => (simp only [List.getElem?_toArray, List.getElem?_cons_succ, List.getElem?_cons_zero]; rfl)
          case hdd29 => rfl
          case hyd29 =>
            refine' Or.inl ⟨?hwd29, ?hxd29⟩
            case hwd29 => rfl
            case hxd29 => (intro w hSw; (try dsimp only at hSw); go_simp; (try with_reducible rfl))
          (try simp only [Act.put, List.setIfInBounds_toArray, List.set_cons_zero, List.set_cons_succ])
          refine' take_any 30 111 (v := _) ?hid30 ?hdd30 (by kernel_rfl) (by kernel_rfl) (by kernel_rfl) (fun _ _ _ h => h) ?hyd30 hHeld ?hrd30
          case hid30 => (simp only [List.getElem?_toArray, List.getElem?_cons_succ, List.getElem?_cons_zero]; rfl)
          case hdd30 => rfl
          case hyd30 =>
            refine' Or.inl ⟨?hwd30, ?hxd30⟩
            case hwd30 => rfl
            case hxd30 => (intro w hSw; (try dsimp only at hSw); go_simp; (try with_reducible rfl))
          (try simp only [Act.put, List.setIfInBounds_toArray, List.set_cons_zero, List.set_cons_succ])
          refine' take_any 31 112 (v := _) ?hid31 ?hdd31 (by kernel_rfl) (by kernel_rfl) (by kernel_rfl) (fun _ _ _ h => h) ?hyd31 hHeld ?hrd31
          case hid31 => (simp only [List.getElem?_toArray, List.getElem?_cons_succ, List.getElem?_cons_zero]; rfl)
          case hdd31 => rfl
          case hyd31 =>
            refine' Or.inl ⟨?hwd31, ?hxd31⟩
            case hwd31 => rfl
            case hxd31 => (intro w hSw; (try dsimp only at hSw); go_simp; (try with_reducible rfl))
          (try simp only [Act.put, List.setIfInBounds_toArray, List.set_cons_zero, List.set_cons_succ])
          refine' take_any 32 113 (v := _) ?hid32 ?hdd32 (by kernel_rfl) (by kernel_rfl) (by kernel_rfl) (fun _ _ _ h => h) ?hyd32 hHeld ?hrd32
          case hid32 => (simp only [List.getElem?_toArray, List.getElem?_cons_succ, List.getElem?_cons_zero]; rfl)
          case hdd32 => rfl
          case hyd32 =>
            refine' Or.inl ⟨?hwd32, ?hxd32⟩
            case hwd32 => rfl
            case hxd32 => (intro w hSw; (try dsimp only at hSw); go_simp; (try with_reducible rfl))
          (try simp only [Act.put, List.setIfInBounds_toArray, List.set_cons_zero, List.set_cons_succ])
          refine' take_any 34 115 (v := _) ?hid34 ?hdd34 (by kernel_rfl) (by kernel_rfl) (by kernel_rfl) (fun _ _ _ h => h) ?hyd34 hHeld ?hrd34
          case hid34 => (simp only [List.getElem?_toArray, List.getElem?_cons_succ, List.getElem?_cons_zero]; rfl)
          case hdd34 => rfl
          case hyd34 =>
            refine' Or.inl ⟨?hwd34, ?hxd34⟩
            case hwd34 => rfl
            case hxd34 => (intro w hSw; (try dsimp only at hSw); go_simp; (try with_reducible rfl))
          (try simp only [Act.put, List.setIfInBounds_toArray, List.set_cons_zero, List.set_cons_succ])
          refine' take_any 35 116 (v := _) ?hid35 ?hdd35 (by kernel_rfl) (by kernel_rfl) (by kernel_rfl) (fun _ _ _ h => h) ?hyd35 hHeld ?hrd35
          case hid35 => (simp only [List.getElem?_toArray, List.getElem?_cons_succ, List.getElem?_cons_zero]; rfl)
          case hdd35 => rfl
          case hyd35 =>
            refine' Or.inl ⟨?hwd35, ?hxd35⟩
            case hwd35 => rfl
            case hxd35 => (intro w hSw; (try dsimp only at hSw); go_simp; (try with_reducible rfl))
          (try simp only [Act.put, List.setIfInBounds_toArray, List.set_cons_zero, List.set_cons_succ])
          refine' take_call 33 ?hid33 (by kernel_rfl) ?hrd33
          case hid33 => (simp only [List.getElem?_toArray, List.getElem?_cons_succ, List.getElem?_cons_zero]; rfl)
          intro K hK
          go_simp
          have _hb := HB5.out
          clear _hb
          go_at_call 31
          refine (ncmpV (K := 15) (L := 0) (z := 1) (HNr_9.out.below BC.out) (HNz_9.out.below BC.out) (by omega) (by omega) (cmpZ_pos HR.out)).mono ?_
          rintro e w106 ⟨rfl, hb⟩
          have HB6 := Lib.hid hb
          replace BC := Lib.hid (BC.out.trans (hb.mono BC.out.size))
          clear hb
          go_wp2_with fail
          clear hHeld
          refine hK.out _ _ (by (try dsimp only); exact ⟨(HVa_9.out.below BC.out HVa_9.out.lt).c0, (HVa_9.out.below BC.out HVa_9.out.lt).c1, (HVb_9.out.below BC.out HVb_9.out.lt).c0, (HVb_9.out.below BC.out HVb_9.out.lt).c1, (HVz_9.out.below BC.out HVz_9.out.lt).c0, (HVz_9.out.below BC.out HVz_9.out.lt).c1, (HVq_9.out.below BC.out HVq_9.out.lt).c0, (HVq_9.out.below BC.out HVq_9.out.lt).c1, (HVr_9.out.below BC.out HVr_9.out.lt).c0, (HVr_9.out.below BC.out HVr_9.out.lt).c1, (HVs_9.out.below BC.out HVs_9.out.lt).c0, (HVs_9.out.below BC.out HVs_9.out.lt).c1, (HVm_9.out.below BC.out HVm_9.out.lt).c0, (HVm_9.out.below BC.out HVm_9.out.lt).c1⟩) (fun hHeld => ?_)
          clear hK K
          (try simp only [Act.put, List.setIfInBounds_toArray, List.set_cons_zero, List.set_cons_succ])
          refine' take_call 36 ?hid36 (by kernel_rfl) ?hrd36
          case hid36 => (simp only [List.getElem?_toArray, List.getElem?_cons_succ, List.getElem?_cons_zero]; rfl)
          intro K hK
          go_simp
          have _hb := HB6.out
          clear _hb
          go_at_call 31
          refine (ncmpV (K := 15) (L := 0) (z := 1) (HNa_9.out.below BC.out) (HNz_9.out.below BC.out) (by omega) (by omega) (cmpZ_pos (HPOS.out HR.out))).mono ?_
          rintro e w107 ⟨rfl, hb⟩
          have HB7 := Lib.hid hb
          replace BC := Lib.hid (BC.out.trans (hb.mono BC.out.size))
          clear hb
          go_wp2_with fail
          clear hHeld
          refine hK.out _ _ (by (try dsimp only); exact ⟨(HVa_9.out.below BC.out HVa_9.out.lt).c0, (HVa_9.out.below BC.out HVa_9.out.lt).c1, (HVb_9.out.below BC.out HVb_9.out.lt).c0, (HVb_9.out.below BC.out HVb_9.out.lt).c1, (HVz_9.out.below BC.out HVz_9.out.lt).c0, (HVz_9.out.below BC.out HVz_9.out.lt).c1, (HVq_9.out.below BC.out HVq_9.out.lt).c0, (HVq_9.out.below BC.out HVq_9.out.lt).c1, (HVr_9.out.below BC.out HVr_9.out.lt).c0, (HVr_9.out.below BC.out HVr_9.out.lt).c1, (HVs_9.out.below BC.out HVs_9.out.lt).c0, (HVs_9.out.below BC.out HVs_9.out.lt).c1, (HVm_9.out.below BC.out HVm_9.out.lt).c0, (HVm_9.out.below BC.out HVm_9.out.lt).c1⟩) (fun hHeld => ?_)
          clear hK K
          (try simp only [Act.put, List.setIfInBounds_toArray, List.set_cons_zero, List.set_cons_succ])
          refine' take_any 37 118 (v := _) ?hid37 ?hdd37 (by kernel_rfl) (by kernel_rfl) (by kernel_rfl) (fun _ _ _ h => h) ?hyd37 hHeld ?hrd37
          case hid37 => (simp only [List.getElem?_toArray, List.getElem?_cons_succ, List.getElem?_cons_zero]; rfl)
          case hdd37 => rfl
          case hyd37 =>
            refine' Or.inl ⟨?hwd37, ?hxd37⟩
            case hwd37 => rfl
            case hxd37 => (intro w hSw; (try dsimp only at hSw); go_simp; (try with_reducible rfl))
          (try simp only [Act.put, List.setIfInBounds_toArray, List.set_cons_zero, List.set_cons_succ])
          refine' take_any 38 119 (v := _) ?hid38 ?hdd38 (by kernel_rfl) (by kernel_rfl) (by kernel_rfl) (fun _ _ _ h => h) ?hyd38 hHeld ?hrd38
          case hid38 => (simp only [List.getElem?_toArray, List.getElem?_cons_succ, List.getElem?_cons_zero]; rfl)
          case hdd38 => rfl
          case hyd38 =>
            refine' Or.inl ⟨?hwd38, ?hxd38⟩
            case hwd38 => rfl
            case hxd38 => (intro w hSw; (try dsimp only at hSw); go_simp; (try with_reducible rfl))
          (try simp only [Act.put, List.setIfInBounds_toArray, List.set_cons_zero, List.set_cons_succ])
          refine' take_any 39 120 (v := _) ?hid39 ?hdd39 (by kernel_rfl) (by kernel_rfl) (by kernel_rfl) (fun _ _ _ h => h) ?hyd39 hHeld ?hrd39
          case hid39 => (simp only [List.getElem?_toArray, List.getElem?_cons_succ, List.getElem?_cons_zero]; rfl)
          case hdd39 => rfl
          case hyd39 =>
            refine' Or.inl ⟨?hwd39, ?hxd39⟩
            case hwd39 => rfl
            case hxd39 => (intro w hSw; (try dsimp only at hSw); go_simp; (try with_reducible rfl))
          (try simp only [Act.put, List.setIfInBounds_toArray, List.set_cons_zero, List.set_cons_succ])
          refine' take_any 40 4 (v := _) ?hid40 ?hdd40 (by kernel_rfl) (by kernel_rfl) (by kernel_rfl) (fun _ _ _ h => h) ?hyd40 hHeld ?hrd40
          case hid40 => (simp only [List.getElem?_toArray, List.getElem?_cons_succ, List.getElem?_cons_zero]; rfl)
          case hdd40 => rfl
          case hyd40 =>
            refine' Or.inl ⟨?hwd40, ?hxd40⟩
            case hwd40 => rfl
            case hxd40 => (intro w hSw; (try dsimp only at hSw); go_simp; (try with_reducible rfl))
          (try simp only [Act.put, List.setIfInBounds_toArray, List.set_cons_zero, List.set_cons_succ])
          refine wpAnyH_done (by kernel_rfl) ?_ _
          refine NoPanic.normal ?_
          all_goals
            go_wp2
            go_ret
            exact ⟨rfl, HBW_9.out.trans (BC.out.mono HBW_9.out.size)⟩
    · have HY := Lib.hid hy
      clear hy hy0
      rcases Int.lt_trichotomy rn 0 with hr | hr | hr
      · have HR := Lib.hid hr
        clear hr
        as_aux_lemma =>
          go_wp2_with fail
          rw [← HG.out, ← HW.out, ← HGZ.out]
          refine (nquo1 (K := 15) (L := 15) HNA.out HNB.out (by omega) (by omega) HY0.out HQN.out).mono ?_
          rintro e w201 ⟨⟨bv1, sv1, lv1, cv1, rfl, hn⟩, hb⟩
          clear A0 A1 B0 B1 Z0 Z1
          have qa0 := (HVA.out.below hb HVA.out.lt).c0
          have qa1 := (HVA.out.below hb HVA.out.lt).c1
          have ta := (HVA.out.below hb HVA.out.lt).lt
          have qb0 := (HVB.out.below hb HVB.out.lt).c0
          have qb1 := (HVB.out.below hb HVB.out.lt).c1
          have tb := (HVB.out.below hb HVB.out.lt).lt
          have qz0 := (HVZ.out.below hb HVZ.out.lt).c0
          have qz1 := (HVZ.out.below hb HVZ.out.lt).c1
          have tz := (HVZ.out.below hb HVZ.out.lt).lt
          obtain ⟨W201, hW201⟩ : ∃ W, W = w201.alloc (.cells #[.bool bv1, .slice sv1 lv1 cv1] 25) := ⟨_, rfl⟩
          obtain ⟨gq, hgq⟩ : ∃ g, g = w201.heap.size := ⟨_, rfl⟩
          have HBW201 := Lib.hid (show Below W.heap.size W W201 by rw [hW201]; exact hb.alloc hb.size _)
          have HVn := Lib.hid (show VarAt W201 gq bv1 sv1 lv1 cv1 by rw [hW201, hgq]; exact VarAt.made _ _ _ _ _)
          have HNn := Lib.hid (show NumIs 15 W201 _ qn by rw [hW201]; exact hn.alloc _)
          have HW201 := Lib.hid hW201
          have HGq := Lib.hid hgq
          clear hn hb hW201 hgq
          have HVa_1 := Lib.hid (HVA.out.below HBW201.out HVA.out.lt)
          have HNa_1 := Lib.hid (HNA.out.below HBW201.out)
          have HVb_1 := Lib.hid (HVB.out.below HBW201.out HVB.out.lt)
          have HNb_1 := Lib.hid (HNB.out.below HBW201.out)
          have HVz_1 := Lib.hid (HVZ.out.below HBW201.out HVZ.out.lt)
          have HNz_1 := Lib.hid (HNZ.out.below HBW201.out)
          have HBW_1 := Lib.hid (HBW.out.trans (HBW201.out.mono HBW.out.size))
          clear HVA HNA HVB HNB HVZ HNZ HBW
          have HVq_1 := HVn
          have HNq_1 := HNn
          clear HVn HNn HBW201
          go_wp2_with fail
          rw [← HGq.out, ← HW201.out]
          refine (nrem1 (K := 15) (L := 15) HNa_1.out HNb_1.out (by omega) (by omega) HY0.out HRN.out).mono ?_
          rintro e w202 ⟨⟨bv2, sv2, lv2, cv2, rfl, hn⟩, hb⟩
          clear qa0 qa1 ta qb0 qb1 tb qz0 qz1 tz
          have qb0 := (HVb_1.out.below hb HVb_1.out.lt).c0
          have qb1 := (HVb_1.out.below hb HVb_1.out.lt).c1
          have tb := (HVb_1.out.below hb HVb_1.out.lt).lt
          have qz0 := (HVz_1.out.below hb HVz_1.out.lt).c0
          have qz1 := (HVz_1.out.below hb HVz_1.out.lt).c1
          have tz := (HVz_1.out.below hb HVz_1.out.lt).lt
          obtain ⟨W202, hW202⟩ : ∃ W, W = w202.alloc (.cells #[.bool bv2, .slice sv2 lv2 cv2] 25) := ⟨_, rfl⟩
          obtain ⟨gr, hgr⟩ : ∃ g, g = w202.heap.size := ⟨_, rfl⟩
          have HBW202 := Lib.hid (show Below W201.heap.size W201 W202 by rw [hW202]; exact hb.alloc hb.size _)
          have HVn := Lib.hid (show VarAt W202 gr bv2 sv2 lv2 cv2 by rw [hW202, hgr]; exact VarAt.made _ _ _ _ _)
          have HNn := Lib.hid (show NumIs 15 W202 _ rn by rw [hW202]; exact hn.alloc _)
          have HW202 := Lib.hid hW202
          have HGr := Lib.hid hgr
          clear hn hb hW202 hgr
          have HVa_2 := Lib.hid (HVa_1.out.below HBW202.out HVa_1.out.lt)
          have HNa_2 := Lib.hid (HNa_1.out.below HBW202.out)
          have HVb_2 := Lib.hid (HVb_1.out.below HBW202.out HVb_1.out.lt)
          have HNb_2 := Lib.hid (HNb_1.out.below HBW202.out)
          have HVz_2 := Lib.hid (HVz_1.out.below HBW202.out HVz_1.out.lt)
          have HNz_2 := Lib.hid (HNz_1.out.below HBW202.out)
          have HVq_2 := Lib.hid (HVq_1.out.below HBW202.out HVq_1.out.lt)
          have HNq_2 := Lib.hid (HNq_1.out.below HBW202.out)
          have HBW_2 := Lib.hid (HBW_1.out.trans (HBW202.out.mono HBW_1.out.size))
          clear HVa_1 HNa_1 HVb_1 HNb_1 HVz_1 HNz_1 HVq_1 HNq_1 HBW_1
          have HVr_2 := HVn
          have HNr_2 := HNn
          clear HVn HNn HBW202
          go_wp2_with fail
          rw [← HGr.out, ← HW202.out]
          refine (ncmpV (K := 15) (L := 0) (z := 1) HNb_2.out HNz_2.out (by omega) (by omega) (by have := HY.out; exact cmpZ_pos (by omega))).mono ?_
          rintro e w203 ⟨rfl, hb⟩
          have HBw203 := Lib.hid hb
          clear hb
          have HVa_3 := Lib.hid (HVa_2.out.below HBw203.out HVa_2.out.lt)
          have HNa_3 := Lib.hid (HNa_2.out.below HBw203.out)
          have HVb_3 := Lib.hid (HVb_2.out.below HBw203.out HVb_2.out.lt)
          have HNb_3 := Lib.hid (HNb_2.out.below HBw203.out)
          have HVz_3 := Lib.hid (HVz_2.out.below HBw203.out HVz_2.out.lt)
          have HNz_3 := Lib.hid (HNz_2.out.below HBw203.out)
          have HVq_3 := Lib.hid (HVq_2.out.below HBw203.out HVq_2.out.lt)
          have HNq_3 := Lib.hid (HNq_2.out.below HBw203.out)
          have HVr_3 := Lib.hid (HVr_2.out.below HBw203.out HVr_2.out.lt)
          have HNr_3 := Lib.hid (HNr_2.out.below HBw203.out)
          have HBW_3 := Lib.hid (HBW_2.out.trans (HBw203.out.mono HBW_2.out.size))
          clear HVa_2 HNa_2 HVb_2 HNb_2 HVz_2 HNz_2 HVq_2 HNq_2 HVr_2 HNr_2 HBW_2
          clear HBw203
          clear qb0 qb1 tb qz0 qz1 tz
          have qr0 := HVr_3.out.c0
          have qr1 := HVr_3.out.c1
          have tr := HVr_3.out.lt
          have qz0 := HVz_3.out.c0
          have qz1 := HVz_3.out.c1
          have tz := HVz_3.out.lt
          obtain ⟨W204, hW204⟩ : ∃ W, W = w203.alloc (.cells #[.bool bv2, .slice sv2 lv2 cv2] 25) := ⟨_, rfl⟩
          obtain ⟨gs, hgs⟩ : ∃ g, g = w203.heap.size := ⟨_, rfl⟩
          have HBW204 := Lib.hid (show Below (w203).heap.size (w203) W204 by rw [hW204]; exact (Below.refl _ _).alloc (Nat.le_refl _) _)
          have hgx9 : gs = (w203).heap.size := by rw [hgs]
          have HVn := Lib.hid (show VarAt W204 gs bv2 sv2 lv2 cv2 by rw [hW204, hgx9]; exact VarAt.made _ _ _ _ _)
          have HNn := Lib.hid (HNr_3.out.below HBW204.out)
          have NEas := Lib.hid (show ga ≠ gs by have := HVa_3.out.lt; omega)
          have NEbs := Lib.hid (show ga + 1 ≠ gs by have := HVb_3.out.lt; omega)
          have NEzs := Lib.hid (show gz ≠ gs by have := HVz_3.out.lt; omega)
          have NEqs := Lib.hid (show gq ≠ gs by have := HVq_3.out.lt; omega)
          have NErs := Lib.hid (show gr ≠ gs by have := HVr_3.out.lt; omega)
          have LEs := Lib.hid (show w.heap.size ≤ gs by rw [hgx9]; exact HBW_3.out.size)
          have HW204 := Lib.hid hW204
          have HGs := Lib.hid hgs
          clear hW204 hgs hgx9
          have HVa_4 := Lib.hid (HVa_3.out.below HBW204.out HVa_3.out.lt)
          have HNa_4 := Lib.hid (HNa_3.out.below HBW204.out)
          have HVb_4 := Lib.hid (HVb_3.out.below HBW204.out HVb_3.out.lt)
          have HNb_4 := Lib.hid (HNb_3.out.below HBW204.out)
          have HVz_4 := Lib.hid (HVz_3.out.below HBW204.out HVz_3.out.lt)
          have HNz_4 := Lib.hid (HNz_3.out.below HBW204.out)
          have HVq_4 := Lib.hid (HVq_3.out.below HBW204.out HVq_3.out.lt)
          have HNq_4 := Lib.hid (HNq_3.out.below HBW204.out)
          have HVr_4 := Lib.hid (HVr_3.out.below HBW204.out HVr_3.out.lt)
          have HNr_4 := Lib.hid (HNr_3.out.below HBW204.out)
          have HBW_4 := Lib.hid (HBW_3.out.trans (HBW204.out.mono HBW_3.out.size))
          clear HVa_3 HNa_3 HVb_3 HNb_3 HVz_3 HNz_3 HVq_3 HNq_3 HVr_3 HNr_3 HBW_3
          have HVs_4 := HVn
          have HNs_4 := HNn
          clear HVn HNn HBW204
          go_wp2_with fail
          rw [← HGs.out, ← HW204.out]
          refine (ncmpV (K := 15) (L := 0) (z := -1) HNr_4.out HNz_4.out (by omega) (by omega) (cmpZ_neg HR.out)).mono ?_
          rintro e w205 ⟨rfl, hb⟩
          have HBw205 := Lib.hid hb
          clear hb
          have HVa_5 := Lib.hid (HVa_4.out.below HBw205.out HVa_4.out.lt)
          have HNa_5 := Lib.hid (HNa_4.out.below HBw205.out)
          have HVb_5 := Lib.hid (HVb_4.out.below HBw205.out HVb_4.out.lt)
          have HNb_5 := Lib.hid (HNb_4.out.below HBw205.out)
          have HVz_5 := Lib.hid (HVz_4.out.below HBw205.out HVz_4.out.lt)
          have HNz_5 := Lib.hid (HNz_4.out.below HBw205.out)
          have HVq_5 := Lib.hid (HVq_4.out.below HBw205.out HVq_4.out.lt)
          have HNq_5 := Lib.hid (HNq_4.out.below HBw205.out)
          have HVr_5 := Lib.hid (HVr_4.out.below HBw205.out HVr_4.out.lt)
          have HNr_5 := Lib.hid (HNr_4.out.below HBw205.out)
          have HVs_5 := Lib.hid (HVs_4.out.below HBw205.out HVs_4.out.lt)
          have HNs_5 := Lib.hid (HNs_4.out.below HBw205.out)
          have HBW_5 := Lib.hid (HBW_4.out.trans (HBw205.out.mono HBW_4.out.size))
          clear HVa_4 HNa_4 HVb_4 HNb_4 HVz_4 HNz_4 HVq_4 HNq_4 HVr_4 HNr_4 HVs_4 HNs_4 HBW_4
          clear HBw205
          clear qr0 qr1 tr qz0 qz1 tz
          have qr0 := HVr_5.out.c0
          have qr1 := HVr_5.out.c1
          have tr := HVr_5.out.lt
          have qz0 := HVz_5.out.c0
          have qz1 := HVz_5.out.c1
          have tz := HVz_5.out.lt
          go_wp2_with fail
          refine (nsub (K := 0) (L := 15) HNz_5.out HNr_5.out (by omega) (by omega)).mono ?_
          rintro e w206 ⟨⟨bn6, sn6, ln6, cn6, rfl, hn⟩, hb⟩
          have HBw206 := Lib.hid hb
          have HNt_6 := Lib.hid hn
          clear hn
          clear hb
          have HVa_6 := Lib.hid (HVa_5.out.below HBw206.out HVa_5.out.lt)
          have HNa_6 := Lib.hid (HNa_5.out.below HBw206.out)
          have HVb_6 := Lib.hid (HVb_5.out.below HBw206.out HVb_5.out.lt)
          have HNb_6 := Lib.hid (HNb_5.out.below HBw206.out)
          have HVz_6 := Lib.hid (HVz_5.out.below HBw206.out HVz_5.out.lt)
          have HNz_6 := Lib.hid (HNz_5.out.below HBw206.out)
          have HVq_6 := Lib.hid (HVq_5.out.below HBw206.out HVq_5.out.lt)
          have HNq_6 := Lib.hid (HNq_5.out.below HBw206.out)
          have HVr_6 := Lib.hid (HVr_5.out.below HBw206.out HVr_5.out.lt)
          have HNr_6 := Lib.hid (HNr_5.out.below HBw206.out)
          have HVs_6 := Lib.hid (HVs_5.out.below HBw206.out HVs_5.out.lt)
          have HNs_6 := Lib.hid (HNs_5.out.below HBw206.out)
          have HBW_6 := Lib.hid (HBW_5.out.trans (HBw206.out.mono HBW_5.out.size))
          clear HVa_5 HNa_5 HVb_5 HNb_5 HVz_5 HNz_5 HVq_5 HNq_5 HVr_5 HNr_5 HVs_5 HNs_5 HBW_5
          clear HBw206
          clear qr0 qr1 tr qz0 qz1 tz
          have qb0 := HVb_6.out.c0
          have qb1 := HVb_6.out.c1
          have tb := HVb_6.out.lt
          have qz0 := HVz_6.out.c0
          have qz1 := HVz_6.out.c1
          have tz := HVz_6.out.lt
          have qs0 := HVs_6.out.c0
          have qs1 := HVs_6.out.c1
          have fs0 := HVs_6.out.f0 0
          have fs1 := HVs_6.out.f0 1
          have ts := HVs_6.out.lt
          have nea := NEas.out
          have neb := NEbs.out
          have nez := NEzs.out
          have neq := NEqs.out
          have ner := NErs.out
          have HVa_7 := Lib.hid (HVa_6.out.other (x := .bool bn6) (y := .slice sn6 ln6 cn6) NEas.out)
          have HVb_7 := Lib.hid (HVb_6.out.other (x := .bool bn6) (y := .slice sn6 ln6 cn6) NEbs.out)
          have HVz_7 := Lib.hid (HVz_6.out.other (x := .bool bn6) (y := .slice sn6 ln6 cn6) NEzs.out)
          have HVq_7 := Lib.hid (HVq_6.out.other (x := .bool bn6) (y := .slice sn6 ln6 cn6) NEqs.out)
          have HVr_7 := Lib.hid (HVr_6.out.other (x := .bool bn6) (y := .slice sn6 ln6 cn6) NErs.out)
          have HNa_7 := Lib.hid (HNa_6.out.set (b' := bn6) (s' := sn6) (l' := ln6) (c' := cn6) HVs_6.out)
          have HNb_7 := Lib.hid (HNb_6.out.set (b' := bn6) (s' := sn6) (l' := ln6) (c' := cn6) HVs_6.out)
          have HNz_7 := Lib.hid (HNz_6.out.set (b' := bn6) (s' := sn6) (l' := ln6) (c' := cn6) HVs_6.out)
          have HNq_7 := Lib.hid (HNq_6.out.set (b' := bn6) (s' := sn6) (l' := ln6) (c' := cn6) HVs_6.out)
          have HNr_7 := Lib.hid (HNr_6.out.set (b' := bn6) (s' := sn6) (l' := ln6) (c' := cn6) HVs_6.out)
          have HNt_7 := Lib.hid (HNt_6.out.set (b' := bn6) (s' := sn6) (l' := ln6) (c' := cn6) HVs_6.out)
          have HVs_7 := Lib.hid (HVs_6.out.set (b' := bn6) (s' := sn6) (l' := ln6) (c' := cn6))
          have HBW_7 := Lib.hid ((HBW_6.out.setCell (p := ⟨gs, 0, none⟩) LEs.out (.bool bn6)).setCell (p := ⟨gs, 1, none⟩) LEs.out (.slice sn6 ln6 cn6))
          have HNs_7 := HNt_7
          clear HVa_6 HVb_6 HVz_6 HVq_6 HVr_6 HNa_6 HNb_6 HNz_6 HNq_6 HNr_6 HNt_6 HBW_6
          obtain ⟨W208, hW208⟩ : ∃ W, W = ((w206.setCell ⟨gs, 0, none⟩ (.bool bn6)).setCell ⟨gs, 1, none⟩ (.slice sn6 ln6 cn6)).alloc (.cells #[.bool b2, .slice s2 l2 c2] 25) := ⟨_, rfl⟩
          obtain ⟨gm, hgm⟩ : ∃ g, g = w206.heap.size := ⟨_, rfl⟩
          have HBW208 := Lib.hid (show Below (((w206.setCell ⟨gs, 0, none⟩ (.bool bn6)).setCell ⟨gs, 1, none⟩ (.slice sn6 ln6 cn6))).heap.size (((w206.setCell ⟨gs, 0, none⟩ (.bool bn6)).setCell ⟨gs, 1, none⟩ (.slice sn6 ln6 cn6))) W208 by rw [hW208]; exact (Below.refl _ _).alloc (Nat.le_refl _) _)
          have hgx9 : gm = (((w206.setCell ⟨gs, 0, none⟩ (.bool bn6)).setCell ⟨gs, 1, none⟩ (.slice sn6 ln6 cn6))).heap.size := by rw [hgm]; simp
          have HVn := Lib.hid (show VarAt W208 gm b2 s2 l2 c2 by rw [hW208, hgx9]; exact VarAt.made _ _ _ _ _)
          have HNn := Lib.hid (HNb_7.out.below HBW208.out)
          have NEam := Lib.hid (show ga ≠ gm by have := HVa_7.out.lt; omega)
          have NEbm := Lib.hid (show ga + 1 ≠ gm by have := HVb_7.out.lt; omega)
          have NEzm := Lib.hid (show gz ≠ gm by have := HVz_7.out.lt; omega)
          have NEqm := Lib.hid (show gq ≠ gm by have := HVq_7.out.lt; omega)
          have NErm := Lib.hid (show gr ≠ gm by have := HVr_7.out.lt; omega)
          have NEsm := Lib.hid (show gs ≠ gm by have := HVs_7.out.lt; omega)
          have LEm := Lib.hid (show w.heap.size ≤ gm by rw [hgx9]; exact HBW_7.out.size)
          have HW208 := Lib.hid hW208
          have HGm := Lib.hid hgm
          clear hW208 hgm hgx9
          have HVa_8 := Lib.hid (HVa_7.out.below HBW208.out HVa_7.out.lt)
          have HNa_8 := Lib.hid (HNa_7.out.below HBW208.out)
          have HVb_8 := Lib.hid (HVb_7.out.below HBW208.out HVb_7.out.lt)
          have HNb_8 := Lib.hid (HNb_7.out.below HBW208.out)
          have HVz_8 := Lib.hid (HVz_7.out.below HBW208.out HVz_7.out.lt)
          have HNz_8 := Lib.hid (HNz_7.out.below HBW208.out)
          have HVq_8 := Lib.hid (HVq_7.out.below HBW208.out HVq_7.out.lt)
          have HNq_8 := Lib.hid (HNq_7.out.below HBW208.out)
          have HVr_8 := Lib.hid (HVr_7.out.below HBW208.out HVr_7.out.lt)
          have HNr_8 := Lib.hid (HNr_7.out.below HBW208.out)
          have HVs_8 := Lib.hid (HVs_7.out.below HBW208.out HVs_7.out.lt)
          have HNs_8 := Lib.hid (HNs_7.out.below HBW208.out)
          have HBW_8 := Lib.hid (HBW_7.out.trans (HBW208.out.mono HBW_7.out.size))
          clear HVa_7 HNa_7 HVb_7 HNb_7 HVz_7 HNz_7 HVq_7 HNq_7 HVr_7 HNr_7 HVs_7 HNs_7 HBW_7
          have HVm_8 := HVn
          have HNm_8 := HNn
          clear HVn HNn HBW208
          go_wp2_with fail
          rw [← HGm.out, ← HW208.out]
          refine (ncmpV (K := 15) (L := 0) (z := 1) HNb_8.out HNz_8.out (by omega) (by omega) (by have := HY.out; exact cmpZ_pos (by omega))).mono ?_
          rintro e w209 ⟨rfl, hb⟩
          have HBw209 := Lib.hid hb
          clear hb
          have HVa_9 := Lib.hid (HVa_8.out.below HBw209.out HVa_8.out.lt)
          have HNa_9 := Lib.hid (HNa_8.out.below HBw209.out)
          have HVb_9 := Lib.hid (HVb_8.out.below HBw209.out HVb_8.out.lt)
          have HNb_9 := Lib.hid (HNb_8.out.below HBw209.out)
          have HVz_9 := Lib.hid (HVz_8.out.below HBw209.out HVz_8.out.lt)
          have HNz_9 := Lib.hid (HNz_8.out.below HBw209.out)
          have HVq_9 := Lib.hid (HVq_8.out.below HBw209.out HVq_8.out.lt)
          have HNq_9 := Lib.hid (HNq_8.out.below HBw209.out)
          have HVr_9 := Lib.hid (HVr_8.out.below HBw209.out HVr_8.out.lt)
          have HNr_9 := Lib.hid (HNr_8.out.below HBw209.out)
          have HVs_9 := Lib.hid (HVs_8.out.below HBw209.out HVs_8.out.lt)
          have HNs_9 := Lib.hid (HNs_8.out.below HBw209.out)
          have HVm_9 := Lib.hid (HVm_8.out.below HBw209.out HVm_8.out.lt)
          have HNm_9 := Lib.hid (HNm_8.out.below HBw209.out)
          have HBW_9 := Lib.hid (HBW_8.out.trans (HBw209.out.mono HBW_8.out.size))
          clear HVa_8 HNa_8 HVb_8 HNb_8 HVz_8 HNz_8 HVq_8 HNq_8 HVr_8 HNr_8 HVs_8 HNs_8 HVm_8 HNm_8 HBW_8
          clear HBw209
          clear qb0 qb1 tb qz0 qz1 tz qs0 qs1 fs0 fs1 ts nea neb nez neq ner
          go_wp2_with fail
          go_big_unhide
          (try dsimp only [List.append])
          have BC := Lib.hid (show Below w209.heap.size w209 w209.drew from (Below.refl _ _).drew)
          refine wp_region_noPanic ?_
          refine wp_region_held_drew (S := fun w' => w'.cell? ⟨ga, 0, none⟩ = some (.bool b1) ∧ w'.cell? ⟨ga, 1, none⟩ = some (.slice s1 l1 c1) ∧ w'.cell? ⟨ga + 1, 0, none⟩ = some (.bool b2) ∧ w'.cell? ⟨ga + 1, 1, none⟩ = some (.slice s2 l2 c2) ∧ w'.cell? ⟨gz, 0, none⟩ = some (.bool false) ∧ w'.cell? ⟨gz, 1, none⟩ = some (.slice none 0 0) ∧ w'.cell? ⟨gq, 0, none⟩ = some (.bool bv1) ∧ w'.cell? ⟨gq, 1, none⟩ = some (.slice sv1 lv1 cv1) ∧ w'.cell? ⟨gr, 0, none⟩ = some (.bool bv2) ∧ w'.cell? ⟨gr, 1, none⟩ = some (.slice sv2 lv2 cv2) ∧ w'.cell? ⟨gs, 0, none⟩ = some (.bool bn6) ∧ w'.cell? ⟨gs, 1, none⟩ = some (.slice sn6 ln6 cn6) ∧ w'.cell? ⟨gm, 0, none⟩ = some (.bool b2) ∧ w'.cell? ⟨gm, 1, none⟩ = some (.slice s2 l2 c2)) (by kernel_rfl) (by (try dsimp only); exact ⟨(HVa_9.out.below BC.out HVa_9.out.lt).c0, (HVa_9.out.below BC.out HVa_9.out.lt).c1, (HVb_9.out.below BC.out HVb_9.out.lt).c0, (HVb_9.out.below BC.out HVb_9.out.lt).c1, (HVz_9.out.below BC.out HVz_9.out.lt).c0, (HVz_9.out.below BC.out HVz_9.out.lt).c1, (HVq_9.out.below BC.out HVq_9.out.lt).c0, (HVq_9.out.below BC.out HVq_9.out.lt).c1, (HVr_9.out.below BC.out HVr_9.out.lt).c0, (HVr_9.out.below BC.out HVr_9.out.lt).c1, (HVs_9.out.below BC.out HVs_9.out.lt).c0, (HVs_9.out.below BC.out HVs_9.out.lt).c1, (HVm_9.out.below BC.out HVm_9.out.lt).c0, (HVm_9.out.below BC.out HVm_9.out.lt).c1⟩) (fun hHeld => ?_)
          refine' take_any 0 81 (v := _) ?hie0 ?hde0 (by kernel_rfl) (by kernel_rfl) (by kernel_rfl) (fun _ _ _ h => h) ?hye0 hHeld ?hre0
          case hie0 => (simp only [List.getElem?_toArray, List.getElem?_cons_zero]; rfl)
          case hde0 => rfl
          case hye0 =>
            refine' Or.inl ⟨?hwe0, ?hxe0⟩
            case hwe0 => rfl
            case hxe0 => (intro w hSw; (try dsimp only at hSw); go_simp; (try with_reducible rfl))
          (try simp only [Act.put, List.setIfInBounds_toArray, List.set_cons_zero, List.set_cons_succ])
          refine' take_any 1 82 (v := _) ?hie1 ?hde1 (by kernel_rfl) (by kernel_rfl) (by kernel_rfl) (fun _ _ _ h => h) ?hye1 hHeld ?hre1
          case hie1 => (simp only [List.getElem?_toArray, List.getElem?_cons_succ, List.getElem?_cons_zero]; rfl)
          case hde1 => rfl
          case hye1 =>
            refine' Or.inl ⟨?hwe1, ?hxe1⟩
            case hwe1 => rfl
            case hxe1 => (intro w hSw; (try dsimp only at hSw); go_simp; (try with_reducible rfl))
          (try simp only [Act.put, List.setIfInBounds_toArray, List.set_cons_zero, List.set_cons_succ])
          refine' take_any 2 83 (v := _) ?hie2 ?hde2 (by kernel_rfl) (by kernel_rfl) (by kernel_rfl) (fun _ _ _ h => h) ?hye2 hHeld ?hre2
          case hie2 => (simp only [List.getElem?_toArray, List.getElem?_cons_succ, List.getElem?_cons_zero]; rfl)
          case hde2 => rfl
          case hye2 =>
            refine' Or.inl ⟨?hwe2, ?hxe2⟩
            case hwe2 => rfl
            case hxe2 => (intro w hSw; (try dsimp only at hSw); go_simp; (try with_reducible rfl))
          (try simp only [Act.put, List.setIfInBounds_toArray, List.set_cons_zero, List.set_cons_succ])
          refine' take_any 3 84 (v := _) ?hie3 ?hde3 (by kernel_rfl) (by kernel_rfl) (by kernel_rfl) (fun _ _ _ h => h) ?hye3 hHeld ?hre3
          case hie3 => (simp only [List.getElem?_toArray, List.getElem?_cons_succ, List.getElem?_cons_zero]; rfl)
          case hde3 => rfl
          case hye3 =>
            refine' Or.inl ⟨?hwe3, ?hxe3⟩
            case hwe3 => rfl
            case hxe3 => (intro w hSw; (try dsimp only at hSw); go_simp; (try with_reducible rfl))
          (try simp only [Act.put, List.setIfInBounds_toArray, List.set_cons_zero, List.set_cons_succ])
          refine' take_any 4 85 (v := _) ?hie4 ?hde4 (by kernel_rfl) (by kernel_rfl) (by kernel_rfl) (fun _ _ _ h => h) ?hye4 hHeld ?hre4
          case hie4 => (simp only [List.getElem?_toArray, List.getElem?_cons_succ, List.getElem?_cons_zero]; rfl)
          case hde4 => rfl
          case hye4 =>
            refine' Or.inl ⟨?hwe4, ?hxe4⟩
            case hwe4 => rfl
            case hxe4 => (intro w hSw; (try dsimp only at hSw); go_simp; (try with_reducible rfl))
          (try simp only [Act.put, List.setIfInBounds_toArray, List.set_cons_zero, List.set_cons_succ])
          refine' take_any 5 86 (v := _) ?hie5 ?hde5 (by kernel_rfl) (by kernel_rfl) (by kernel_rfl) (fun _ _ _ h => h) ?hye5 hHeld ?hre5
          case hie5 => (simp only [List.getElem?_toArray, List.getElem?_cons_succ, List.getElem?_cons_zero]; rfl)
          case hde5 => rfl
          case hye5 =>
            refine' Or.inl ⟨?hwe5, ?hxe5⟩
            case hwe5 => rfl
            case hxe5 => (intro w hSw; (try dsimp only at hSw); go_simp; (try with_reducible rfl))
          (try simp only [Act.put, List.setIfInBounds_toArray, List.set_cons_zero, List.set_cons_succ])
          refine' take_any 6 87 (v := _) ?hie6 ?hde6 (by kernel_rfl) (by kernel_rfl) (by kernel_rfl) (fun _ _ _ h => h) ?hye6 hHeld ?hre6
          case hie6 => (simp only [List.getElem?_toArray, List.getElem?_cons_succ, List.getElem?_cons_zero]; rfl)
          case hde6 => rfl
          case hye6 =>
            refine' Or.inl ⟨?hwe6, ?hxe6⟩
            case hwe6 => rfl
            case hxe6 => (intro w hSw; (try dsimp only at hSw); go_simp; (try with_reducible rfl))
          (try simp only [Act.put, List.setIfInBounds_toArray, List.set_cons_zero, List.set_cons_succ])
          refine' take_any 7 88 (v := _) ?hie7 ?hde7 (by kernel_rfl) (by kernel_rfl) (by kernel_rfl) (fun _ _ _ h => h) ?hye7 hHeld ?hre7
          case hie7 => (simp only [List.getElem?_toArray, List.getElem?_cons_succ, List.getElem?_cons_zero]; rfl)
          case hde7 => rfl
          case hye7 =>
            refine' Or.inl ⟨?hwe7, ?hxe7⟩
            case hwe7 => rfl
            case hxe7 => (intro w hSw; (try dsimp only at hSw); go_simp; (try with_reducible rfl))
          (try simp only [Act.put, List.setIfInBounds_toArray, List.set_cons_zero, List.set_cons_succ])
          refine' take_any 8 89 (v := _) ?hie8 ?hde8 (by kernel_rfl) (by kernel_rfl) (by kernel_rfl) (fun _ _ _ h => h) ?hye8 hHeld ?hre8
          case hie8 => (simp only [List.getElem?_toArray, List.getElem?_cons_succ, List.getElem?_cons_zero]; rfl)
          case hde8 => rfl
          case hye8 =>
            refine' Or.inl ⟨?hwe8, ?hxe8⟩
            case hwe8 => rfl
            case hxe8 => (intro w hSw; (try dsimp only at hSw); go_simp; (try with_reducible rfl))
          (try simp only [Act.put, List.setIfInBounds_toArray, List.set_cons_zero, List.set_cons_succ])
          refine' take_any 9 90 (v := _) ?hie9 ?hde9 (by kernel_rfl) (by kernel_rfl) (by kernel_rfl) (fun _ _ _ h => h) ?hye9 hHeld ?hre9
          case hie9 => (simp only [List.getElem?_toArray, List.getElem?_cons_succ, List.getElem?_cons_zero]; rfl)
          case hde9 => rfl
          case hye9 =>
            refine' Or.inl ⟨?hwe9, ?hxe9⟩
            case hwe9 => rfl
            case hxe9 => (intro w hSw; (try dsimp only at hSw); go_simp; (try with_reducible rfl))
          (try simp only [Act.put, List.setIfInBounds_toArray, List.set_cons_zero, List.set_cons_succ])
          refine' take_any 10 91 (v := _) ?hie10 ?hde10 (by kernel_rfl) (by kernel_rfl) (by kernel_rfl) (fun _ _ _ h => h) ?hye10 hHeld ?hre10
          case hie10 => (simp only [List.getElem?_toArray, List.getElem?_cons_succ, List.getElem?_cons_zero]; rfl)
          case hde10 => rfl
          case hye10 =>
            refine' Or.inl ⟨?hwe10, ?hxe10⟩
            case hwe10 => rfl
            case hxe10 => (intro w hSw; (try dsimp only at hSw); go_simp; (try with_reducible rfl))
          (try simp only [Act.put, List.setIfInBounds_toArray, List.set_cons_zero, List.set_cons_succ])
          refine' take_any 11 92 (v := _) ?hie11 ?hde11 (by kernel_rfl) (by kernel_rfl) (by kernel_rfl) (fun _ _ _ h => h) ?hye11 hHeld ?hre11
          case hie11 => (simp only [List.getElem?_toArray, List.getElem?_cons_succ, List.getElem?_cons_zero]; rfl)
          case hde11 => rfl
          case hye11 =>
            refine' Or.inl ⟨?hwe11, ?hxe11⟩
            case hwe11 => rfl
            case hxe11 => (intro w hSw; (try dsimp only at hSw); go_simp; (try with_reducible rfl))
          (try simp only [Act.put, List.setIfInBounds_toArray, List.set_cons_zero, List.set_cons_succ])
          refine' take_any 13 94 (v := _) ?hie13 ?hde13 (by kernel_rfl) (by kernel_rfl) (by kernel_rfl) (fun _ _ _ h => h) ?hye13 hHeld ?hre13
          case hie13 => (simp only [List.getElem?_toArray, List.getElem?_cons_succ, List.getElem?_cons_zero]; rfl)
          case hde13 => rfl
          case hye13 =>
            refine' Or.inl ⟨?hwe13, ?hxe13⟩
            case hwe13 => rfl
            case hxe13 => (intro w hSw; (try dsimp only at hSw); go_simp; (try with_reducible rfl))
          (try simp only [Act.put, List.setIfInBounds_toArray, List.set_cons_zero, List.set_cons_succ])
          refine' take_any 15 96 (v := _) ?hie15 ?hde15 (by kernel_rfl) (by kernel_rfl) (by kernel_rfl) (fun _ _ _ h => h) ?hye15 hHeld ?hre15
          case hie15 => (simp only [List.getElem?_toArray, List.getElem?_cons_succ, List.getElem?_cons_zero]; rfl)
          case hde15 => rfl
          case hye15 =>
            refine' Or.inl ⟨?hwe15, ?hxe15⟩
            case hwe15 => rfl
            case hxe15 => (intro w hSw; (try dsimp only at hSw); go_simp; (try with_reducible rfl))
          (try simp only [Act.put, List.setIfInBounds_toArray, List.set_cons_zero, List.set_cons_succ])
          refine' take_call 12 ?hie12 (by kernel_rfl) ?hre12
          case hie12 => (simp only [List.getElem?_toArray, List.getElem?_cons_succ, List.getElem?_cons_zero]; rfl)
          intro K hK
          go_simp
          go_at_call 29
          refine (nmul (K := 15) (L := 15) (HNq_9.out.below BC.out) (HNb_9.out.below BC.out) (by omega) (by omega)).mono ?_
          rintro e w101 ⟨⟨b101, s101, l101, c101, rfl, hn⟩, hb⟩
          have HB1 := Lib.hid hb
          have HN1 := Lib.hid hn
          replace BC := Lib.hid (BC.out.trans (hb.mono BC.out.size))
          clear hb hn
          go_wp2_with fail
          clear hHeld
          refine hK.out _ _ (by (try dsimp only); exact ⟨(HVa_9.out.below BC.out HVa_9.out.lt).c0, (HVa_9.out.below BC.out HVa_9.out.lt).c1, (HVb_9.out.below BC.out HVb_9.out.lt).c0, (HVb_9.out.below BC.out HVb_9.out.lt).c1, (HVz_9.out.below BC.out HVz_9.out.lt).c0, (HVz_9.out.below BC.out HVz_9.out.lt).c1, (HVq_9.out.below BC.out HVq_9.out.lt).c0, (HVq_9.out.below BC.out HVq_9.out.lt).c1, (HVr_9.out.below BC.out HVr_9.out.lt).c0, (HVr_9.out.below BC.out HVr_9.out.lt).c1, (HVs_9.out.below BC.out HVs_9.out.lt).c0, (HVs_9.out.below BC.out HVs_9.out.lt).c1, (HVm_9.out.below BC.out HVm_9.out.lt).c0, (HVm_9.out.below BC.out HVm_9.out.lt).c1⟩) (fun hHeld => ?_)
          clear hK K
          (try simp only [Act.put, List.setIfInBounds_toArray, List.set_cons_zero, List.set_cons_succ])
          refine' take_call 14 ?hie14 (by kernel_rfl) ?hre14
          case hie14 => (simp only [List.getElem?_toArray, List.getElem?_cons_succ, List.getElem?_cons_zero]; rfl)
          intro K hK
          go_simp
          have _hb := HB1.out
          clear _hb
          go_at_call 25
          refine (nadd (K := 30) (L := 15) HN1.out (HNr_9.out.below BC.out) (by omega) (by omega)).mono ?_
          rintro e w102 ⟨⟨b102, s102, l102, c102, rfl, hn⟩, hb⟩
          have HB2 := Lib.hid hb
          have HN2 := Lib.hid hn
          replace BC := Lib.hid (BC.out.trans (hb.mono BC.out.size))
          clear hb hn
          go_wp2_with fail
          clear hHeld
          refine hK.out _ _ (by (try dsimp only); exact ⟨(HVa_9.out.below BC.out HVa_9.out.lt).c0, (HVa_9.out.below BC.out HVa_9.out.lt).c1, (HVb_9.out.below BC.out HVb_9.out.lt).c0, (HVb_9.out.below BC.out HVb_9.out.lt).c1, (HVz_9.out.below BC.out HVz_9.out.lt).c0, (HVz_9.out.below BC.out HVz_9.out.lt).c1, (HVq_9.out.below BC.out HVq_9.out.lt).c0, (HVq_9.out.below BC.out HVq_9.out.lt).c1, (HVr_9.out.below BC.out HVr_9.out.lt).c0, (HVr_9.out.below BC.out HVr_9.out.lt).c1, (HVs_9.out.below BC.out HVs_9.out.lt).c0, (HVs_9.out.below BC.out HVs_9.out.lt).c1, (HVm_9.out.below BC.out HVm_9.out.lt).c0, (HVm_9.out.below BC.out HVm_9.out.lt).c1⟩) (fun hHeld => ?_)
          clear hK K
          (try simp only [Act.put, List.setIfInBounds_toArray, List.set_cons_zero, List.set_cons_succ])
          refine' take_call 16 ?hie16 (by kernel_rfl) ?hre16
          case hie16 => (simp only [List.getElem?_toArray, List.getElem?_cons_succ, List.getElem?_cons_zero]; rfl)
          intro K hK
          go_simp
          have _hb := HB2.out
          clear _hb
          go_at_call 31
          refine (ncmp_eq (K := 46) (L := 15) HN2.out (HNa_9.out.below BC.out) (by omega) (by omega) (HBACK.out)).mono ?_
          rintro e w103 ⟨rfl, hb⟩
          have HB3 := Lib.hid hb
          replace BC := Lib.hid (BC.out.trans (hb.mono BC.out.size))
          clear hb
          go_wp2_with fail
          clear hHeld
          refine hK.out _ _ (by (try dsimp only); exact ⟨(HVa_9.out.below BC.out HVa_9.out.lt).c0, (HVa_9.out.below BC.out HVa_9.out.lt).c1, (HVb_9.out.below BC.out HVb_9.out.lt).c0, (HVb_9.out.below BC.out HVb_9.out.lt).c1, (HVz_9.out.below BC.out HVz_9.out.lt).c0, (HVz_9.out.below BC.out HVz_9.out.lt).c1, (HVq_9.out.below BC.out HVq_9.out.lt).c0, (HVq_9.out.below BC.out HVq_9.out.lt).c1, (HVr_9.out.below BC.out HVr_9.out.lt).c0, (HVr_9.out.below BC.out HVr_9.out.lt).c1, (HVs_9.out.below BC.out HVs_9.out.lt).c0, (HVs_9.out.below BC.out HVs_9.out.lt).c1, (HVm_9.out.below BC.out HVm_9.out.lt).c0, (HVm_9.out.below BC.out HVm_9.out.lt).c1⟩) (fun hHeld => ?_)
          clear hK K
          (try simp only [Act.put, List.setIfInBounds_toArray, List.set_cons_zero, List.set_cons_succ])
          refine' take_any 17 98 (v := _) ?hie17 ?hde17 (by kernel_rfl) (by kernel_rfl) (by kernel_rfl) (fun _ _ _ h => h) ?hye17 hHeld ?hre17
          case hie17 => (simp only [List.getElem?_toArray, List.getElem?_cons_succ, List.getElem?_cons_zero]; rfl)
          case hde17 => rfl
          case hye17 =>
            refine' Or.inl ⟨?hwe17, ?hxe17⟩
            case hwe17 => rfl
            case hxe17 => (intro w hSw; (try dsimp only at hSw); go_simp; (try with_reducible rfl))
          (try simp only [Act.put, List.setIfInBounds_toArray, List.set_cons_zero, List.set_cons_succ])
          refine' take_any 18 99 (v := _) ?hie18 ?hde18 (by kernel_rfl) (by kernel_rfl) (by kernel_rfl) (fun _ _ _ h => h) ?hye18 hHeld ?hre18
          case hie18 => (simp only [List.getElem?_toArray, List.getElem?_cons_succ, List.getElem?_cons_zero]; rfl)
          case hde18 => rfl
          case hye18 =>
            refine' Or.inl ⟨?hwe18, ?hxe18⟩
            case hwe18 => rfl
            case hxe18 => (intro w hSw; (try dsimp only at hSw); go_simp; (try with_reducible rfl))
          (try simp only [Act.put, List.setIfInBounds_toArray, List.set_cons_zero, List.set_cons_succ])
          refine' take_any 19 100 (v := _) ?hie19 ?hde19 (by kernel_rfl) (by kernel_rfl) (by kernel_rfl) (fun _ _ _ h => h) ?hye19 hHeld ?hre19
          case hie19 => (simp only [List.getElem?_toArray, List.getElem?_cons_succ, List.getElem?_cons_zero]; rfl)
          case hde19 => rfl
          case hye19 =>
            refine' Or.inl ⟨?hwe19, ?hxe19⟩
            case hwe19 => rfl
            case hxe19 => (intro w hSw; (try dsimp only at hSw); go_simp; (try with_reducible rfl))
          (try simp only [Act.put, List.setIfInBounds_toArray, List.set_cons_zero, List.set_cons_succ])
          refine' take_any 20 101 (v := _) ?hie20 ?hde20 (by kernel_rfl) (by kernel_rfl) (by kernel_rfl) (fun _ _ _ h => h) ?hye20 hHeld ?hre20
          case hie20 => (simp only [List.getElem?_toArray, List.getElem?_cons_succ, List.getElem?_cons_zero]; rfl)
          case hde20 => rfl
          case hye20 =>
            refine' Or.inl ⟨?hwe20, ?hxe20⟩
            case hwe20 => rfl
            case hxe20 => (intro w hSw; (try dsimp only at hSw); go_simp; (try with_reducible rfl))
          (try simp only [Act.put, List.setIfInBounds_toArray, List.set_cons_zero, List.set_cons_succ])
          refine' take_any 21 102 (v := _) ?hie21 ?hde21 (by kernel_rfl) (by kernel_rfl) (by kernel_rfl) (fun _ _ _ h => h) ?hye21 hHeld ?hre21
          case hie21 => (simp only [List.getElem?_toArray, List.getElem?_cons_succ, List.getElem?_cons_zero]; rfl)
          case hde21 => rfl
          case hye21 =>
            refine' Or.inl ⟨?hwe21, ?hxe21⟩
            case hwe21 => rfl
            case hxe21 => (intro w hSw; (try dsimp only at hSw); go_simp; (try with_reducible rfl))
          (try simp only [Act.put, List.setIfInBounds_toArray, List.set_cons_zero, List.set_cons_succ])
          refine' take_call 22 ?hie22 (by kernel_rfl) ?hre22
          case hie22 => (simp only [List.getElem?_toArray, List.getElem?_cons_succ, List.getElem?_cons_zero]; rfl)
          intro K hK
          go_simp
          have _hb := HB3.out
          clear _hb
          go_at_call 31
          refine (ncmpV (K := 16) (L := 15) (z := (-1)) (HNs_9.out.below BC.out) (HNm_9.out.below BC.out) (by omega) (by omega) (by have h1 := HNEAR.out; have h2 := HY.out; have h3 := HR.out; exact cmpZ_neg (by omega))).mono ?_
          rintro e w104 ⟨rfl, hb⟩
          have HB4 := Lib.hid hb
          replace BC := Lib.hid (BC.out.trans (hb.mono BC.out.size))
          clear hb
          go_wp2_with fail
          clear hHeld
          refine hK.out _ _ (by (try dsimp only); exact ⟨(HVa_9.out.below BC.out HVa_9.out.lt).c0, (HVa_9.out.below BC.out HVa_9.out.lt).c1, (HVb_9.out.below BC.out HVb_9.out.lt).c0, (HVb_9.out.below BC.out HVb_9.out.lt).c1, (HVz_9.out.below BC.out HVz_9.out.lt).c0, (HVz_9.out.below BC.out HVz_9.out.lt).c1, (HVq_9.out.below BC.out HVq_9.out.lt).c0, (HVq_9.out.below BC.out HVq_9.out.lt).c1, (HVr_9.out.below BC.out HVr_9.out.lt).c0, (HVr_9.out.below BC.out HVr_9.out.lt).c1, (HVs_9.out.below BC.out HVs_9.out.lt).c0, (HVs_9.out.below BC.out HVs_9.out.lt).c1, (HVm_9.out.below BC.out HVm_9.out.lt).c0, (HVm_9.out.below BC.out HVm_9.out.lt).c1⟩) (fun hHeld => ?_)
          clear hK K
          (try simp only [Act.put, List.setIfInBounds_toArray, List.set_cons_zero, List.set_cons_succ])
          refine' take_any 23 104 (v := _) ?hie23 ?hde23 (by kernel_rfl) (by kernel_rfl) (by kernel_rfl) (fun _ _ _ h => h) ?hye23 hHeld ?hre23
          case hie23 => (simp only [List.getElem?_toArray, List.getElem?_cons_succ, List.getElem?_cons_zero]; rfl)
          case hde23 => rfl
          case hye23 =>
            refine' Or.inl ⟨?hwe23, ?hxe23⟩
            case hwe23 => rfl
            case hxe23 => (intro w hSw; (try dsimp only at hSw); go_simp; (try with_reducible rfl))
          (try simp only [Act.put, List.setIfInBounds_toArray, List.set_cons_zero, List.set_cons_succ])
          refine' take_any 24 105 (v := _) ?hie24 ?hde24 (by kernel_rfl) (by kernel_rfl) (by kernel_rfl) (fun _ _ _ h => h) ?hye24 hHeld ?hre24
          case hie24 => (simp only [List.getElem?_toArray, List.getElem?_cons_succ, List.getElem?_cons_zero]; rfl)
          case hde24 => rfl
          case hye24 =>
            refine' Or.inl ⟨?hwe24, ?hxe24⟩
            case hwe24 => rfl
            case hxe24 => (intro w hSw; (try dsimp only at hSw); go_simp; (try with_reducible rfl))
          (try simp only [Act.put, List.setIfInBounds_toArray, List.set_cons_zero, List.set_cons_succ])
          refine' take_any 25 106 (v := _) ?hie25 ?hde25 (by kernel_rfl) (by kernel_rfl) (by kernel_rfl) (fun _ _ _ h => h) ?hye25 hHeld ?hre25
          case hie25 => (simp only [List.getElem?_toArray, List.getElem?_cons_succ, List.getElem?_cons_zero]; rfl)
          case hde25 => rfl
          case hye25 =>
            refine' Or.inl ⟨?hwe25, ?hxe25⟩
            case hwe25 => rfl
            case hxe25 => (intro w hSw; (try dsimp only at hSw); go_simp; (try with_reducible rfl))
          (try simp only [Act.put, List.setIfInBounds_toArray, List.set_cons_zero, List.set_cons_succ])
          refine' take_any 26 107 (v := _) ?hie26 ?hde26 (by kernel_rfl) (by kernel_rfl) (by kernel_rfl) (fun _ _ _ h => h) ?hye26 hHeld ?hre26
          case hie26 => (simp only [List.getElem?_toArray, List.getElem?_cons_succ, List.getElem?_cons_zero]; rfl)
          case hde26 => rfl
          case hye26 =>
            refine' Or.inl ⟨?hwe26, ?hxe26⟩
            case hwe26 => rfl
            case hxe26 => (intro w hSw; (try dsimp only at hSw); go_simp; (try with_reducible rfl))
          (try simp only [Act.put, List.setIfInBounds_toArray, List.set_cons_zero, List.set_cons_succ])
          refine' take_any 27 108 (v := _) ?hie27 ?hde27 (by kernel_rfl) (by kernel_rfl) (by kernel_rfl) (fun _ _ _ h => h) ?hye27 hHeld ?hre27
          case hie27 => (simp only [List.getElem?_toArray, List.getElem?_cons_succ, List.getElem?_cons_zero]; rfl)
          case hde27 => rfl
          case hye27 =>
            refine' Or.inl ⟨?hwe27, ?hxe27⟩
            case hwe27 => rfl
            case hxe27 => (intro w hSw; (try dsimp only at hSw); go_simp; (try with_reducible rfl))
          (try simp only [Act.put, List.setIfInBounds_toArray, List.set_cons_zero, List.set_cons_succ])
          refine' take_call 28 ?hie28 (by kernel_rfl) ?hre28
          case hie28 => (simp only [List.getElem?_toArray, List.getElem?_cons_succ, List.getElem?_cons_zero]; rfl)
          intro K hK
          go_simp
          have _hb := HB4.out
          clear _hb
          go_at_call 31
          refine (ncmpV (K := 15) (L := 0) (z := (-1)) (HNr_9.out.below BC.out) (HNz_9.out.below BC.out) (by omega) (by omega) (cmpZ_neg HR.out)).mono ?_
          rintro e w105 ⟨rfl, hb⟩
          have HB5 := Lib.hid hb
          replace BC := Lib.hid (BC.out.trans (hb.mono BC.out.size))
          clear hb
          go_wp2_with fail
          clear hHeld
          refine hK.out _ _ (by (try dsimp only); exact ⟨(HVa_9.out.below BC.out HVa_9.out.lt).c0, (HVa_9.out.below BC.out HVa_9.out.lt).c1, (HVb_9.out.below BC.out HVb_9.out.lt).c0, (HVb_9.out.below BC.out HVb_9.out.lt).c1, (HVz_9.out.below BC.out HVz_9.out.lt).c0, (HVz_9.out.below BC.out HVz_9.out.lt).c1, (HVq_9.out.below BC.out HVq_9.out.lt).c0, (HVq_9.out.below BC.out HVq_9.out.lt).c1, (HVr_9.out.below BC.out HVr_9.out.lt).c0, (HVr_9.out.below BC.out HVr_9.out.lt).c1, (HVs_9.out.below BC.out HVs_9.out.lt).c0, (HVs_9.out.below BC.out HVs_9.out.lt).c1, (HVm_9.out.below BC.out HVm_9.out.lt).c0, (HVm_9.out.below BC.out HVm_9.out.lt).c1⟩) (fun hHeld => ?_)
          clear hK K
          (try simp only [Act.put, List.setIfInBounds_toArray, List.set_cons_zero, List.set_cons_succ])
          refine' take_any 29 110 (v := _) ?hie29 ?hde29 (by kernel_rfl) (by kernel_rfl) (by kernel_rfl) (fun _ _ _ h => h) ?hye29 hHeld ?hre29
          case hie29 => (simp only [List.getElem?_toArray, List.getElem?_cons_succ, List.getElem?_cons_zero]; rfl)
          case hde29 => rfl
          case hye29 =>
            refine' Or.inl ⟨?hwe29, ?hxe29⟩
            case hwe29 => rfl
            case hxe29 => (intro w hSw; (try dsimp only at hSw); go_simp; (try with_reducible rfl))
          (try simp only [Act.put, List.setIfInBounds_toArray, List.set_cons_zero, List.set_cons_succ])
          refine' take_any 30 111 (v := _) ?hie30 ?hde30 (by kernel_rfl) (by kernel_rfl) (by kernel_rfl) (fun _ _ _ h => h) ?hye30 hHeld ?hre30
          case hie30 => (simp only [List.getElem?_toArray, List.getElem?_cons_succ, List.getElem?_cons_zero]; rfl)
          case hde30 => rfl
          case hye30 =>
            refine' Or.inl ⟨?hwe30, ?hxe30⟩
            case hwe30 => rfl
            case hxe30 => (intro w hSw; (try dsimp only at hSw); go_simp; (try with_reducible rfl))
          (try simp only [Act.put, List.setIfInBounds_toArray, List.set_cons_zero, List.set_cons_succ])
          refine' take_any 31 112 (v := _) ?hie31 ?hde31 (by kernel_rfl) (by kernel_rfl) (by kernel_rfl) (fun _ _ _ h => h) ?hye31 hHeld ?hre31
          case hie31 => (simp only [List.getElem?_toArray, List.getElem?_cons_succ, List.getElem?_cons_zero]; rfl)
          case hde31 => rfl
          case hye31 =>
            refine' Or.inl ⟨?hwe31, ?hxe31⟩
            case hwe31 => rfl
            case hxe31 => (intro w hSw; (try dsimp only at hSw); go_simp; (try with_reducible rfl))
          (try simp only [Act.put, List.setIfInBounds_toArray, List.set_cons_zero, List.set_cons_succ])
          refine' take_any 32 113 (v := _) ?hie32 ?hde32 (by kernel_rfl) (by kernel_rfl) (by kernel_rfl) (fun _ _ _ h => h) ?hye32 hHeld ?hre32
          case hie32 => (simp only [List.getElem?_toArray, List.getElem?_cons_succ, List.getElem?_cons_zero]; rfl)
          case hde32 => rfl
          case hye32 =>
            refine' Or.inl ⟨?hwe32, ?hxe32⟩
            case hwe32 => rfl
            case hxe32 => (intro w hSw; (try dsimp only at hSw); go_simp; (try with_reducible rfl))
          (try simp only [Act.put, List.setIfInBounds_toArray, List.set_cons_zero, List.set_cons_succ])
          refine' take_any 34 115 (v := _) ?hie34 ?hde34 (by kernel_rfl) (by kernel_rfl) (by kernel_rfl) (fun _ _ _ h => h) ?hye34 hHeld ?hre34
          case hie34 => (simp only [List.getElem?_toArray, List.getElem?_cons_succ, List.getElem?_cons_zero]; rfl)
          case hde34 => rfl
          case hye34 =>
            refine' Or.inl ⟨?hwe34, ?hxe34⟩
            case hwe34 => rfl
            case hxe34 => (intro w hSw; (try dsimp only at hSw); go_simp; (try with_reducible rfl))
          (try simp only [Act.put, List.setIfInBounds_toArray, List.set_cons_zero, List.set_cons_succ])
          refine' take_any 35 116 (v := _) ?hie35 ?hde35 (by kernel_rfl) (by kernel_rfl) (by kernel_rfl) (fun _ _ _ h => h) ?hye35 hHeld ?hre35
          case hie35 => (simp only [List.getElem?_toArray, List.getElem?_cons_succ, List.getElem?_cons_zero]; rfl)
          case hde35 => rfl
          case hye35 =>
            refine' Or.inl ⟨?hwe35, ?hxe35⟩
            case hwe35 => rfl
            case hxe35 => (intro w hSw; (try dsimp only at hSw); go_simp; (try with_reducible rfl))
          (try simp only [Act.put, List.setIfInBounds_toArray, List.set_cons_zero, List.set_cons_succ])
          refine' take_call 33 ?hie33 (by kernel_rfl) ?hre33
          case hie33 => (simp only [List.getElem?_toArray, List.getElem?_cons_succ, List.getElem?_cons_zero]; rfl)
          intro K hK
          go_simp
          have _hb := HB5.out
          clear _hb
          go_at_call 31
          refine (ncmpV (K := 15) (L := 0) (z := (-1)) (HNr_9.out.below BC.out) (HNz_9.out.below BC.out) (by omega) (by omega) (cmpZ_neg HR.out)).mono ?_
          rintro e w106 ⟨rfl, hb⟩
          have HB6 := Lib.hid hb
          replace BC := Lib.hid (BC.out.trans (hb.mono BC.out.size))
          clear hb
          go_wp2_with fail
          clear hHeld
          refine hK.out _ _ (by (try dsimp only); exact ⟨(HVa_9.out.below BC.out HVa_9.out.lt).c0, (HVa_9.out.below BC.out HVa_9.out.lt).c1, (HVb_9.out.below BC.out HVb_9.out.lt).c0, (HVb_9.out.below BC.out HVb_9.out.lt).c1, (HVz_9.out.below BC.out HVz_9.out.lt).c0, (HVz_9.out.below BC.out HVz_9.out.lt).c1, (HVq_9.out.below BC.out HVq_9.out.lt).c0, (HVq_9.out.below BC.out HVq_9.out.lt).c1, (HVr_9.out.below BC.out HVr_9.out.lt).c0, (HVr_9.out.below BC.out HVr_9.out.lt).c1, (HVs_9.out.below BC.out HVs_9.out.lt).c0, (HVs_9.out.below BC.out HVs_9.out.lt).c1, (HVm_9.out.below BC.out HVm_9.out.lt).c0, (HVm_9.out.below BC.out HVm_9.out.lt).c1⟩) (fun hHeld => ?_)
          clear hK K
          (try simp only [Act.put, List.setIfInBounds_toArray, List.set_cons_zero, List.set_cons_succ])
          refine' take_call 36 ?hie36 (by kernel_rfl) ?hre36
          case hie36 => (simp only [List.getElem?_toArray, List.getElem?_cons_succ, List.getElem?_cons_zero]; rfl)
          intro K hK
          go_simp
          have _hb := HB6.out
          clear _hb
          go_at_call 31
          refine (ncmpV (K := 15) (L := 0) (z := (-1)) (HNa_9.out.below BC.out) (HNz_9.out.below BC.out) (by omega) (by omega) (cmpZ_neg (HNEG.out HR.out))).mono ?_
          rintro e w107 ⟨rfl, hb⟩
          have HB7 := Lib.hid hb
          replace BC := Lib.hid (BC.out.trans (hb.mono BC.out.size))
          clear hb
          go_wp2_with fail
          clear hHeld
          refine hK.out _ _ (by (try dsimp only); exact ⟨(HVa_9.out.below BC.out HVa_9.out.lt).c0, (HVa_9.out.below BC.out HVa_9.out.lt).c1, (HVb_9.out.below BC.out HVb_9.out.lt).c0, (HVb_9.out.below BC.out HVb_9.out.lt).c1, (HVz_9.out.below BC.out HVz_9.out.lt).c0, (HVz_9.out.below BC.out HVz_9.out.lt).c1, (HVq_9.out.below BC.out HVq_9.out.lt).c0, (HVq_9.out.below BC.out HVq_9.out.lt).c1, (HVr_9.out.below BC.out HVr_9.out.lt).c0, (HVr_9.out.below BC.out HVr_9.out.lt).c1, (HVs_9.out.below BC.out HVs_9.out.lt).c0, (HVs_9.out.below BC.out HVs_9.out.lt).c1, (HVm_9.out.below BC.out HVm_9.out.lt).c0, (HVm_9.out.below BC.out HVm_9.out.lt).c1⟩) (fun hHeld => ?_)
          clear hK K
          (try simp only [Act.put, List.setIfInBounds_toArray, List.set_cons_zero, List.set_cons_succ])
          refine' take_any 37 118 (v := _) ?hie37 ?hde37 (by kernel_rfl) (by kernel_rfl) (by kernel_rfl) (fun _ _ _ h => h) ?hye37 hHeld ?hre37
          case hie37 => (simp only [List.getElem?_toArray, List.getElem?_cons_succ, List.getElem?_cons_zero]; rfl)
          case hde37 => rfl
          case hye37 =>
            refine' Or.inl ⟨?hwe37, ?hxe37⟩
            case hwe37 => rfl
            case hxe37 => (intro w hSw; (try dsimp only at hSw); go_simp; (try with_reducible rfl))
          (try simp only [Act.put, List.setIfInBounds_toArray, List.set_cons_zero, List.set_cons_succ])
          refine' take_any 38 119 (v := _) ?hie38 ?hde38 (by kernel_rfl) (by kernel_rfl) (by kernel_rfl) (fun _ _ _ h => h) ?hye38 hHeld ?hre38
          case hie38 => (simp only [List.getElem?_toArray, List.getElem?_cons_succ, List.getElem?_cons_zero]; rfl)
          case hde38 => rfl
          case hye38 =>
            refine' Or.inl ⟨?hwe38, ?hxe38⟩
            case hwe38 => rfl
            case hxe38 => (intro w hSw; (try dsimp only at hSw); go_simp; (try with_reducible rfl))
          (try simp only [Act.put, List.setIfInBounds_toArray, List.set_cons_zero, List.set_cons_succ])
          refine' take_any 39 120 (v := _) ?hie39 ?hde39 (by kernel_rfl) (by kernel_rfl) (by kernel_rfl) (fun _ _ _ h => h) ?hye39 hHeld ?hre39
          case hie39 => (simp only [List.getElem?_toArray, List.getElem?_cons_succ, List.getElem?_cons_zero]; rfl)
          case hde39 => rfl
          case hye39 =>
            refine' Or.inl ⟨?hwe39, ?hxe39⟩
            case hwe39 => rfl
            case hxe39 => (intro w hSw; (try dsimp only at hSw); go_simp; (try with_reducible rfl))
          (try simp only [Act.put, List.setIfInBounds_toArray, List.set_cons_zero, List.set_cons_succ])
          refine' take_any 40 4 (v := _) ?hie40 ?hde40 (by kernel_rfl) (by kernel_rfl) (by kernel_rfl) (fun _ _ _ h => h) ?hye40 hHeld ?hre40
          case hie40 => (simp only [List.getElem?_toArray, List.getElem?_cons_succ, List.getElem?_cons_zero]; rfl)
          case hde40 => rfl
          case hye40 =>
            refine' Or.inl ⟨?hwe40, ?hxe40⟩
            case hwe40 => rfl
            case hxe40 => (intro w hSw; (try dsimp only at hSw); go_simp; (try with_reducible rfl))
          (try simp only [Act.put, List.setIfInBounds_toArray, List.set_cons_zero, List.set_cons_succ])
          refine wpAnyH_done (by kernel_rfl) ?_ _
          refine NoPanic.normal ?_
          all_goals
            go_wp2
            go_ret
            exact ⟨rfl, HBW_9.out.trans (BC.out.mono HBW_9.out.size)⟩
      · have HR := Lib.hid hr
        clear hr
        as_aux_lemma =>
          go_wp2_with fail
          rw [← HG.out, ← HW.out, ← HGZ.out]
          refine (nquo1 (K := 15) (L := 15) HNA.out HNB.out (by omega) (by omega) HY0.out HQN.out).mono ?_
          rintro e w201 ⟨⟨bv1, sv1, lv1, cv1, rfl, hn⟩, hb⟩
          clear A0 A1 B0 B1 Z0 Z1
          have qa0 := (HVA.out.below hb HVA.out.lt).c0
          have qa1 := (HVA.out.below hb HVA.out.lt).c1
          have ta := (HVA.out.below hb HVA.out.lt).lt
          have qb0 := (HVB.out.below hb HVB.out.lt).c0
          have qb1 := (HVB.out.below hb HVB.out.lt).c1
          have tb := (HVB.out.below hb HVB.out.lt).lt
          have qz0 := (HVZ.out.below hb HVZ.out.lt).c0
          have qz1 := (HVZ.out.below hb HVZ.out.lt).c1
          have tz := (HVZ.out.below hb HVZ.out.lt).lt
          obtain ⟨W201, hW201⟩ : ∃ W, W = w201.alloc (.cells #[.bool bv1, .slice sv1 lv1 cv1] 25) := ⟨_, rfl⟩
          obtain ⟨gq, hgq⟩ : ∃ g, g = w201.heap.size := ⟨_, rfl⟩
          have HBW201 := Lib.hid (show Below W.heap.size W W201 by rw [hW201]; exact hb.alloc hb.size _)
          have HVn := Lib.hid (show VarAt W201 gq bv1 sv1 lv1 cv1 by rw [hW201, hgq]; exact VarAt.made _ _ _ _ _)
          have HNn := Lib.hid (show NumIs 15 W201 _ qn by rw [hW201]; exact hn.alloc _)
          have HW201 := Lib.hid hW201
          have HGq := Lib.hid hgq
          clear hn hb hW201 hgq
          have HVa_1 := Lib.hid (HVA.out.below HBW201.out HVA.out.lt)
          have HNa_1 := Lib.hid (HNA.out.below HBW201.out)
          have HVb_1 := Lib.hid (HVB.out.below HBW201.out HVB.out.lt)
          have HNb_1 := Lib.hid (HNB.out.below HBW201.out)
          have HVz_1 := Lib.hid (HVZ.out.below HBW201.out HVZ.out.lt)
          have HNz_1 := Lib.hid (HNZ.out.below HBW201.out)
          have HBW_1 := Lib.hid (HBW.out.trans (HBW201.out.mono HBW.out.size))
          clear HVA HNA HVB HNB HVZ HNZ HBW
          have HVq_1 := HVn
          have HNq_1 := HNn
          clear HVn HNn HBW201
          go_wp2_with fail
          rw [← HGq.out, ← HW201.out]
          refine (nrem1 (K := 15) (L := 15) HNa_1.out HNb_1.out (by omega) (by omega) HY0.out HRN.out).mono ?_
          rintro e w202 ⟨⟨bv2, sv2, lv2, cv2, rfl, hn⟩, hb⟩
          clear qa0 qa1 ta qb0 qb1 tb qz0 qz1 tz
          have qb0 := (HVb_1.out.below hb HVb_1.out.lt).c0
          have qb1 := (HVb_1.out.below hb HVb_1.out.lt).c1
          have tb := (HVb_1.out.below hb HVb_1.out.lt).lt
          have qz0 := (HVz_1.out.below hb HVz_1.out.lt).c0
          have qz1 := (HVz_1.out.below hb HVz_1.out.lt).c1
          have tz := (HVz_1.out.below hb HVz_1.out.lt).lt
          obtain ⟨W202, hW202⟩ : ∃ W, W = w202.alloc (.cells #[.bool bv2, .slice sv2 lv2 cv2] 25) := ⟨_, rfl⟩
          obtain ⟨gr, hgr⟩ : ∃ g, g = w202.heap.size := ⟨_, rfl⟩
          have HBW202 := Lib.hid (show Below W201.heap.size W201 W202 by rw [hW202]; exact hb.alloc hb.size _)
          have HVn := Lib.hid (show VarAt W202 gr bv2 sv2 lv2 cv2 by rw [hW202, hgr]; exact VarAt.made _ _ _ _ _)
          have HNn := Lib.hid (show NumIs 15 W202 _ rn by rw [hW202]; exact hn.alloc _)
          have HW202 := Lib.hid hW202
          have HGr := Lib.hid hgr
          clear hn hb hW202 hgr
          have HVa_2 := Lib.hid (HVa_1.out.below HBW202.out HVa_1.out.lt)
          have HNa_2 := Lib.hid (HNa_1.out.below HBW202.out)
          have HVb_2 := Lib.hid (HVb_1.out.below HBW202.out HVb_1.out.lt)
          have HNb_2 := Lib.hid (HNb_1.out.below HBW202.out)
          have HVz_2 := Lib.hid (HVz_1.out.below HBW202.out HVz_1.out.lt)
          have HNz_2 := Lib.hid (HNz_1.out.below HBW202.out)
          have HVq_2 := Lib.hid (HVq_1.out.below HBW202.out HVq_1.out.lt)
          have HNq_2 := Lib.hid (HNq_1.out.below HBW202.out)
          have HBW_2 := Lib.hid (HBW_1.out.trans (HBW202.out.mono HBW_1.out.size))
          clear HVa_1 HNa_1 HVb_1 HNb_1 HVz_1 HNz_1 HVq_1 HNq_1 HBW_1
          have HVr_2 := HVn
          have HNr_2 := HNn
          clear HVn HNn HBW202
          go_wp2_with fail
          rw [← HGr.out, ← HW202.out]
          refine (ncmpV (K := 15) (L := 0) (z := 1) HNb_2.out HNz_2.out (by omega) (by omega) (by have := HY.out; exact cmpZ_pos (by omega))).mono ?_
          rintro e w203 ⟨rfl, hb⟩
          have HBw203 := Lib.hid hb
          clear hb
          have HVa_3 := Lib.hid (HVa_2.out.below HBw203.out HVa_2.out.lt)
          have HNa_3 := Lib.hid (HNa_2.out.below HBw203.out)
          have HVb_3 := Lib.hid (HVb_2.out.below HBw203.out HVb_2.out.lt)
          have HNb_3 := Lib.hid (HNb_2.out.below HBw203.out)
          have HVz_3 := Lib.hid (HVz_2.out.below HBw203.out HVz_2.out.lt)
          have HNz_3 := Lib.hid (HNz_2.out.below HBw203.out)
          have HVq_3 := Lib.hid (HVq_2.out.below HBw203.out HVq_2.out.lt)
          have HNq_3 := Lib.hid (HNq_2.out.below HBw203.out)
          have HVr_3 := Lib.hid (HVr_2.out.below HBw203.out HVr_2.out.lt)
          have HNr_3 := Lib.hid (HNr_2.out.below HBw203.out)
          have HBW_3 := Lib.hid (HBW_2.out.trans (HBw203.out.mono HBW_2.out.size))
          clear HVa_2 HNa_2 HVb_2 HNb_2 HVz_2 HNz_2 HVq_2 HNq_2 HVr_2 HNr_2 HBW_2
          clear HBw203
          clear qb0 qb1 tb qz0 qz1 tz
          have qr0 := HVr_3.out.c0
          have qr1 := HVr_3.out.c1
          have tr := HVr_3.out.lt
          have qz0 := HVz_3.out.c0
          have qz1 := HVz_3.out.c1
          have tz := HVz_3.out.lt
          obtain ⟨W204, hW204⟩ : ∃ W, W = w203.alloc (.cells #[.bool bv2, .slice sv2 lv2 cv2] 25) := ⟨_, rfl⟩
          obtain ⟨gs, hgs⟩ : ∃ g, g = w203.heap.size := ⟨_, rfl⟩
          have HBW204 := Lib.hid (show Below (w203).heap.size (w203) W204 by rw [hW204]; exact (Below.refl _ _).alloc (Nat.le_refl _) _)
          have hgx9 : gs = (w203).heap.size := by rw [hgs]
          have HVn := Lib.hid (show VarAt W204 gs bv2 sv2 lv2 cv2 by rw [hW204, hgx9]; exact VarAt.made _ _ _ _ _)
          have HNn := Lib.hid (HNr_3.out.below HBW204.out)
          have NEas := Lib.hid (show ga ≠ gs by have := HVa_3.out.lt; omega)
          have NEbs := Lib.hid (show ga + 1 ≠ gs by have := HVb_3.out.lt; omega)
          have NEzs := Lib.hid (show gz ≠ gs by have := HVz_3.out.lt; omega)
          have NEqs := Lib.hid (show gq ≠ gs by have := HVq_3.out.lt; omega)
          have NErs := Lib.hid (show gr ≠ gs by have := HVr_3.out.lt; omega)
          have LEs := Lib.hid (show w.heap.size ≤ gs by rw [hgx9]; exact HBW_3.out.size)
          have HW204 := Lib.hid hW204
          have HGs := Lib.hid hgs
          clear hW204 hgs hgx9
          have HVa_4 := Lib.hid (HVa_3.out.below HBW204.out HVa_3.out.lt)
          have HNa_4 := Lib.hid (HNa_3.out.below HBW204.out)
          have HVb_4 := Lib.hid (HVb_3.out.below HBW204.out HVb_3.out.lt)
          have HNb_4 := Lib.hid (HNb_3.out.below HBW204.out)
          have HVz_4 := Lib.hid (HVz_3.out.below HBW204.out HVz_3.out.lt)
          have HNz_4 := Lib.hid (HNz_3.out.below HBW204.out)
          have HVq_4 := Lib.hid (HVq_3.out.below HBW204.out HVq_3.out.lt)
          have HNq_4 := Lib.hid (HNq_3.out.below HBW204.out)
          have HVr_4 := Lib.hid (HVr_3.out.below HBW204.out HVr_3.out.lt)
          have HNr_4 := Lib.hid (HNr_3.out.below HBW204.out)
          have HBW_4 := Lib.hid (HBW_3.out.trans (HBW204.out.mono HBW_3.out.size))
          clear HVa_3 HNa_3 HVb_3 HNb_3 HVz_3 HNz_3 HVq_3 HNq_3 HVr_3 HNr_3 HBW_3
          have HVs_4 := HVn
          have HNs_4 := HNn
          clear HVn HNn HBW204
          go_wp2_with fail
          rw [← HGs.out, ← HW204.out]
          refine (ncmpV (K := 15) (L := 0) (z := 0) HNr_4.out HNz_4.out (by omega) (by omega) (cmpZ_eq HR.out)).mono ?_
          rintro e w205 ⟨rfl, hb⟩
          have HBw205 := Lib.hid hb
          clear hb
          have HVa_5 := Lib.hid (HVa_4.out.below HBw205.out HVa_4.out.lt)
          have HNa_5 := Lib.hid (HNa_4.out.below HBw205.out)
          have HVb_5 := Lib.hid (HVb_4.out.below HBw205.out HVb_4.out.lt)
          have HNb_5 := Lib.hid (HNb_4.out.below HBw205.out)
          have HVz_5 := Lib.hid (HVz_4.out.below HBw205.out HVz_4.out.lt)
          have HNz_5 := Lib.hid (HNz_4.out.below HBw205.out)
          have HVq_5 := Lib.hid (HVq_4.out.below HBw205.out HVq_4.out.lt)
          have HNq_5 := Lib.hid (HNq_4.out.below HBw205.out)
          have HVr_5 := Lib.hid (HVr_4.out.below HBw205.out HVr_4.out.lt)
          have HNr_5 := Lib.hid (HNr_4.out.below HBw205.out)
          have HVs_5 := Lib.hid (HVs_4.out.below HBw205.out HVs_4.out.lt)
          have HNs_5 := Lib.hid (HNs_4.out.below HBw205.out)
          have HBW_5 := Lib.hid (HBW_4.out.trans (HBw205.out.mono HBW_4.out.size))
          clear HVa_4 HNa_4 HVb_4 HNb_4 HVz_4 HNz_4 HVq_4 HNq_4 HVr_4 HNr_4 HVs_4 HNs_4 HBW_4
          clear HBw205
          clear qr0 qr1 tr qz0 qz1 tz
          have qb0 := HVb_5.out.c0
          have qb1 := HVb_5.out.c1
          have tb := HVb_5.out.lt
          have qz0 := HVz_5.out.c0
          have qz1 := HVz_5.out.c1
          have tz := HVz_5.out.lt
          obtain ⟨W206, hW206⟩ : ∃ W, W = w205.alloc (.cells #[.bool b2, .slice s2 l2 c2] 25) := ⟨_, rfl⟩
          obtain ⟨gm, hgm⟩ : ∃ g, g = w205.heap.size := ⟨_, rfl⟩
          have HBW206 := Lib.hid (show Below (w205).heap.size (w205) W206 by rw [hW206]; exact (Below.refl _ _).alloc (Nat.le_refl _) _)
          have hgx9 : gm = (w205).heap.size := by rw [hgm]
          have HVn := Lib.hid (show VarAt W206 gm b2 s2 l2 c2 by rw [hW206, hgx9]; exact VarAt.made _ _ _ _ _)
          have HNn := Lib.hid (HNb_5.out.below HBW206.out)
          have NEam := Lib.hid (show ga ≠ gm by have := HVa_5.out.lt; omega)
          have NEbm := Lib.hid (show ga + 1 ≠ gm by have := HVb_5.out.lt; omega)
          have NEzm := Lib.hid (show gz ≠ gm by have := HVz_5.out.lt; omega)
          have NEqm := Lib.hid (show gq ≠ gm by have := HVq_5.out.lt; omega)
          have NErm := Lib.hid (show gr ≠ gm by have := HVr_5.out.lt; omega)
          have NEsm := Lib.hid (show gs ≠ gm by have := HVs_5.out.lt; omega)
          have LEm := Lib.hid (show w.heap.size ≤ gm by rw [hgx9]; exact HBW_5.out.size)
          have HW206 := Lib.hid hW206
          have HGm := Lib.hid hgm
          clear hW206 hgm hgx9
          have HVa_6 := Lib.hid (HVa_5.out.below HBW206.out HVa_5.out.lt)
          have HNa_6 := Lib.hid (HNa_5.out.below HBW206.out)
          have HVb_6 := Lib.hid (HVb_5.out.below HBW206.out HVb_5.out.lt)
          have HNb_6 := Lib.hid (HNb_5.out.below HBW206.out)
          have HVz_6 := Lib.hid (HVz_5.out.below HBW206.out HVz_5.out.lt)
          have HNz_6 := Lib.hid (HNz_5.out.below HBW206.out)
          have HVq_6 := Lib.hid (HVq_5.out.below HBW206.out HVq_5.out.lt)
          have HNq_6 := Lib.hid (HNq_5.out.below HBW206.out)
          have HVr_6 := Lib.hid (HVr_5.out.below HBW206.out HVr_5.out.lt)
          have HNr_6 := Lib.hid (HNr_5.out.below HBW206.out)
          have HVs_6 := Lib.hid (HVs_5.out.below HBW206.out HVs_5.out.lt)
          have HNs_6 := Lib.hid (HNs_5.out.below HBW206.out)
          have HBW_6 := Lib.hid (HBW_5.out.trans (HBW206.out.mono HBW_5.out.size))
          clear HVa_5 HNa_5 HVb_5 HNb_5 HVz_5 HNz_5 HVq_5 HNq_5 HVr_5 HNr_5 HVs_5 HNs_5 HBW_5
          have HVm_6 := HVn
          have HNm_6 := HNn
          clear HVn HNn HBW206
          go_wp2_with fail
          rw [← HGm.out, ← HW206.out]
          refine (ncmpV (K := 15) (L := 0) (z := 1) HNb_6.out HNz_6.out (by omega) (by omega) (by have := HY.out; exact cmpZ_pos (by omega))).mono ?_
          rintro e w207 ⟨rfl, hb⟩
          have HBw207 := Lib.hid hb
          clear hb
          have HVa_7 := Lib.hid (HVa_6.out.below HBw207.out HVa_6.out.lt)
          have HNa_7 := Lib.hid (HNa_6.out.below HBw207.out)
          have HVb_7 := Lib.hid (HVb_6.out.below HBw207.out HVb_6.out.lt)
          have HNb_7 := Lib.hid (HNb_6.out.below HBw207.out)
          have HVz_7 := Lib.hid (HVz_6.out.below HBw207.out HVz_6.out.lt)
          have HNz_7 := Lib.hid (HNz_6.out.below HBw207.out)
          have HVq_7 := Lib.hid (HVq_6.out.below HBw207.out HVq_6.out.lt)
          have HNq_7 := Lib.hid (HNq_6.out.below HBw207.out)
          have HVr_7 := Lib.hid (HVr_6.out.below HBw207.out HVr_6.out.lt)
          have HNr_7 := Lib.hid (HNr_6.out.below HBw207.out)
          have HVs_7 := Lib.hid (HVs_6.out.below HBw207.out HVs_6.out.lt)
          have HNs_7 := Lib.hid (HNs_6.out.below HBw207.out)
          have HVm_7 := Lib.hid (HVm_6.out.below HBw207.out HVm_6.out.lt)
          have HNm_7 := Lib.hid (HNm_6.out.below HBw207.out)
          have HBW_7 := Lib.hid (HBW_6.out.trans (HBw207.out.mono HBW_6.out.size))
          clear HVa_6 HNa_6 HVb_6 HNb_6 HVz_6 HNz_6 HVq_6 HNq_6 HVr_6 HNr_6 HVs_6 HNs_6 HVm_6 HNm_6 HBW_6
          clear HBw207
          clear qb0 qb1 tb qz0 qz1 tz
          go_wp2_with fail
          go_big_unhide
          (try dsimp only [List.append])
          have BC := Lib.hid (show Below w207.heap.size w207 w207.drew from (Below.refl _ _).drew)
          refine wp_region_noPanic ?_
          refine wp_region_held_drew (S := fun w' => w'.cell? ⟨ga, 0, none⟩ = some (.bool b1) ∧ w'.cell? ⟨ga, 1, none⟩ = some (.slice s1 l1 c1) ∧ w'.cell? ⟨ga + 1, 0, none⟩ = some (.bool b2) ∧ w'.cell? ⟨ga + 1, 1, none⟩ = some (.slice s2 l2 c2) ∧ w'.cell? ⟨gz, 0, none⟩ = some (.bool false) ∧ w'.cell? ⟨gz, 1, none⟩ = some (.slice none 0 0) ∧ w'.cell? ⟨gq, 0, none⟩ = some (.bool bv1) ∧ w'.cell? ⟨gq, 1, none⟩ = some (.slice sv1 lv1 cv1) ∧ w'.cell? ⟨gr, 0, none⟩ = some (.bool bv2) ∧ w'.cell? ⟨gr, 1, none⟩ = some (.slice sv2 lv2 cv2) ∧ w'.cell? ⟨gs, 0, none⟩ = some (.bool bv2) ∧ w'.cell? ⟨gs, 1, none⟩ = some (.slice sv2 lv2 cv2) ∧ w'.cell? ⟨gm, 0, none⟩ = some (.bool b2) ∧ w'.cell? ⟨gm, 1, none⟩ = some (.slice s2 l2 c2)) (by kernel_rfl) (by (try dsimp only); exact ⟨(HVa_7.out.below BC.out HVa_7.out.lt).c0, (HVa_7.out.below BC.out HVa_7.out.lt).c1, (HVb_7.out.below BC.out HVb_7.out.lt).c0, (HVb_7.out.below BC.out HVb_7.out.lt).c1, (HVz_7.out.below BC.out HVz_7.out.lt).c0, (HVz_7.out.below BC.out HVz_7.out.lt).c1, (HVq_7.out.below BC.out HVq_7.out.lt).c0, (HVq_7.out.below BC.out HVq_7.out.lt).c1, (HVr_7.out.below BC.out HVr_7.out.lt).c0, (HVr_7.out.below BC.out HVr_7.out.lt).c1, (HVs_7.out.below BC.out HVs_7.out.lt).c0, (HVs_7.out.below BC.out HVs_7.out.lt).c1, (HVm_7.out.below BC.out HVm_7.out.lt).c0, (HVm_7.out.below BC.out HVm_7.out.lt).c1⟩) (fun hHeld => ?_)
          refine' take_any 0 81 (v := _) ?hif0 ?hdf0 (by kernel_rfl) (by kernel_rfl) (by kernel_rfl) (fun _ _ _ h => h) ?hyf0 hHeld ?hrf0
          case hif0 => (simp only [List.getElem?_toArray, List.getElem?_cons_zero]; rfl)
          case hdf0 => rfl
          case hyf0 =>
            refine' Or.inl ⟨?hwf0, ?hxf0⟩
            case hwf0 => rfl
            case hxf0 => (intro w hSw; (try dsimp only at hSw); go_simp; (try with_reducible rfl))
          (try simp only [Act.put, List.setIfInBounds_toArray, List.set_cons_zero, List.set_cons_succ])
          refine' take_any 1 82 (v := _) ?hif1 ?hdf1 (by kernel_rfl) (by kernel_rfl) (by kernel_rfl) (fun _ _ _ h => h) ?hyf1 hHeld ?hrf1
          case hif1 => (simp only [List.getElem?_toArray, List.getElem?_cons_succ, List.getElem?_cons_zero]; rfl)
          case hdf1 => rfl
          case hyf1 =>
            refine' Or.inl ⟨?hwf1, ?hxf1⟩
            case hwf1 => rfl
            case hxf1 => (intro w hSw; (try dsimp only at hSw); go_simp; (try with_reducible rfl))
          (try simp only [Act.put, List.setIfInBounds_toArray, List.set_cons_zero, List.set_cons_succ])
          refine' take_any 2 83 (v := _) ?hif2 ?hdf2 (by kernel_rfl) (by kernel_rfl) (by kernel_rfl) (fun _ _ _ h => h) ?hyf2 hHeld ?hrf2
          case hif2 => (simp only [List.getElem?_toArray, List.getElem?_cons_succ, List.getElem?_cons_zero]; rfl)
          case hdf2 => rfl
          case hyf2 =>
            refine' Or.inl ⟨?hwf2, ?hxf2⟩
            case hwf2 => rfl
            case hxf2 => (intro w hSw; (try dsimp only at hSw); go_simp; (try with_reducible rfl))
          (try simp only [Act.put, List.setIfInBounds_toArray, List.set_cons_zero, List.set_cons_succ])
          refine' take_any 3 84 (v := _) ?hif3 ?hdf3 (by kernel_rfl) (by kernel_rfl) (by kernel_rfl) (fun _ _ _ h => h) ?hyf3 hHeld ?hrf3
          case hif3 => (simp only [List.getElem?_toArray, List.getElem?_cons_succ, List.getElem?_cons_zero]; rfl)
          case hdf3 => rfl
          case hyf3 =>
            refine' Or.inl ⟨?hwf3, ?hxf3⟩
            case hwf3 => rfl
            case hxf3 => (intro w hSw; (try dsimp only at hSw); go_simp; (try with_reducible rfl))
          (try simp only [Act.put, List.setIfInBounds_toArray, List.set_cons_zero, List.set_cons_succ])
          refine' take_any 4 85 (v := _) ?hif4 ?hdf4 (by kernel_rfl) (by kernel_rfl) (by kernel_rfl) (fun _ _ _ h => h) ?hyf4 hHeld ?hrf4
          case hif4 => (simp only [List.getElem?_toArray, List.getElem?_cons_succ, List.getElem?_cons_zero]; rfl)
          case hdf4 => rfl
          case hyf4 =>
            refine' Or.inl ⟨?hwf4, ?hxf4⟩
            case hwf4 => rfl
            case hxf4 => (intro w hSw; (try dsimp only at hSw); go_simp; (try with_reducible rfl))
          (try simp only [Act.put, List.setIfInBounds_toArray, List.set_cons_zero, List.set_cons_succ])
          refine' take_any 5 86 (v := _) ?hif5 ?hdf5 (by kernel_rfl) (by kernel_rfl) (by kernel_rfl) (fun _ _ _ h => h) ?hyf5 hHeld ?hrf5
          case hif5 => (simp only [List.getElem?_toArray, List.getElem?_cons_succ, List.getElem?_cons_zero]; rfl)
          case hdf5 => rfl
          case hyf5 =>
            refine' Or.inl ⟨?hwf5, ?hxf5⟩
            case hwf5 => rfl
            case hxf5 => (intro w hSw; (try dsimp only at hSw); go_simp; (try with_reducible rfl))
          (try simp only [Act.put, List.setIfInBounds_toArray, List.set_cons_zero, List.set_cons_succ])
          refine' take_any 6 87 (v := _) ?hif6 ?hdf6 (by kernel_rfl) (by kernel_rfl) (by kernel_rfl) (fun _ _ _ h => h) ?hyf6 hHeld ?hrf6
          case hif6 => (simp only [List.getElem?_toArray, List.getElem?_cons_succ, List.getElem?_cons_zero]; rfl)
          case hdf6 => rfl
          case hyf6 =>
            refine' Or.inl ⟨?hwf6, ?hxf6⟩
            case hwf6 => rfl
            case hxf6 => (intro w hSw; (try dsimp only at hSw); go_simp; (try with_reducible rfl))
          (try simp only [Act.put, List.setIfInBounds_toArray, List.set_cons_zero, List.set_cons_succ])
          refine' take_any 7 88 (v := _) ?hif7 ?hdf7 (by kernel_rfl) (by kernel_rfl) (by kernel_rfl) (fun _ _ _ h => h) ?hyf7 hHeld ?hrf7
          case hif7 => (simp only [List.getElem?_toArray, List.getElem?_cons_succ, List.getElem?_cons_zero]; rfl)
          case hdf7 => rfl
          case hyf7 =>
            refine' Or.inl ⟨?hwf7, ?hxf7⟩
            case hwf7 => rfl
            case hxf7 => (intro w hSw; (try dsimp only at hSw); go_simp; (try with_reducible rfl))
          (try simp only [Act.put, List.setIfInBounds_toArray, List.set_cons_zero, List.set_cons_succ])
          refine' take_any 8 89 (v := _) ?hif8 ?hdf8 (by kernel_rfl) (by kernel_rfl) (by kernel_rfl) (fun _ _ _ h => h) ?hyf8 hHeld ?hrf8
          case hif8 => (simp only [List.getElem?_toArray, List.getElem?_cons_succ, List.getElem?_cons_zero]; rfl)
          case hdf8 => rfl
          case hyf8 =>
            refine' Or.inl ⟨?hwf8, ?hxf8⟩
            case hwf8 => rfl
            case hxf8 => (intro w hSw; (try dsimp only at hSw); go_simp; (try with_reducible rfl))
          (try simp only [Act.put, List.setIfInBounds_toArray, List.set_cons_zero, List.set_cons_succ])
          refine' take_any 9 90 (v := _) ?hif9 ?hdf9 (by kernel_rfl) (by kernel_rfl) (by kernel_rfl) (fun _ _ _ h => h) ?hyf9 hHeld ?hrf9
          case hif9 => (simp only [List.getElem?_toArray, List.getElem?_cons_succ, List.getElem?_cons_zero]; rfl)
          case hdf9 => rfl
          case hyf9 =>
            refine' Or.inl ⟨?hwf9, ?hxf9⟩
            case hwf9 => rfl
            case hxf9 => (intro w hSw; (try dsimp only at hSw); go_simp; (try with_reducible rfl))
          (try simp only [Act.put, List.setIfInBounds_toArray, List.set_cons_zero, List.set_cons_succ])
          refine' take_any 10 91 (v := _) ?hif10 ?hdf10 (by kernel_rfl) (by kernel_rfl) (by kernel_rfl) (fun _ _ _ h => h) ?hyf10 hHeld ?hrf10
          case hif10 => (simp only [List.getElem?_toArray, List.getElem?_cons_succ, List.getElem?_cons_zero]; rfl)
          case hdf10 => rfl
          case hyf10 =>
            refine' Or.inl ⟨?hwf10, ?hxf10⟩
            case hwf10 => rfl
            case hxf10 => (intro w hSw; (try dsimp only at hSw); go_simp; (try with_reducible rfl))
          (try simp only [Act.put, List.setIfInBounds_toArray, List.set_cons_zero, List.set_cons_succ])
          refine' take_any 11 92 (v := _) ?hif11 ?hdf11 (by kernel_rfl) (by kernel_rfl) (by kernel_rfl) (fun _ _ _ h => h) ?hyf11 hHeld ?hrf11
          case hif11 => (simp only [List.getElem?_toArray, List.getElem?_cons_succ, List.getElem?_cons_zero]; rfl)
          case hdf11 => rfl
          case hyf11 =>
            refine' Or.inl ⟨?hwf11, ?hxf11⟩
            case hwf11 => rfl
            case hxf11 => (intro w hSw; (try dsimp only at hSw); go_simp; (try with_reducible rfl))
          (try simp only [Act.put, List.setIfInBounds_toArray, List.set_cons_zero, List.set_cons_succ])
          refine' take_any 13 94 (v := _) ?hif13 ?hdf13 (by kernel_rfl) (by kernel_rfl) (by kernel_rfl) (fun _ _ _ h => h) ?hyf13 hHeld ?hrf13
          case hif13 => (simp only [List.getElem?_toArray, List.getElem?_cons_succ, List.getElem?_cons_zero]; rfl)
          case hdf13 => rfl
          case hyf13 =>
            refine' Or.inl ⟨?hwf13, ?hxf13⟩
            case hwf13 => rfl
            case hxf13 => (intro w hSw; (try dsimp only at hSw); go_simp; (try with_reducible rfl))
          (try simp only [Act.put, List.setIfInBounds_toArray, List.set_cons_zero, List.set_cons_succ])
          refine' take_any 15 96 (v := _) ?hif15 ?hdf15 (by kernel_rfl) (by kernel_rfl) (by kernel_rfl) (fun _ _ _ h => h) ?hyf15 hHeld ?hrf15
          case hif15 => (simp only [List.getElem?_toArray, List.getElem?_cons_succ, List.getElem?_cons_zero]; rfl)
          case hdf15 => rfl
          case hyf15 =>
            refine' Or.inl ⟨?hwf15, ?hxf15⟩
            case hwf15 => rfl
            case hxf15 => (intro w hSw; (try dsimp only at hSw); go_simp; (try with_reducible rfl))
          (try simp only [Act.put, List.setIfInBounds_toArray, List.set_cons_zero, List.set_cons_succ])
          refine' take_call 12 ?hif12 (by kernel_rfl) ?hrf12
          case hif12 => (simp only [List.getElem?_toArray, List.getElem?_cons_succ, List.getElem?_cons_zero]; rfl)
          intro K hK
          go_simp
          go_at_call 29
          refine (nmul (K := 15) (L := 15) (HNq_7.out.below BC.out) (HNb_7.out.below BC.out) (by omega) (by omega)).mono ?_
          rintro e w101 ⟨⟨b101, s101, l101, c101, rfl, hn⟩, hb⟩
          have HB1 := Lib.hid hb
          have HN1 := Lib.hid hn
          replace BC := Lib.hid (BC.out.trans (hb.mono BC.out.size))
          clear hb hn
          go_wp2_with fail
          clear hHeld
          refine hK.out _ _ (by (try dsimp only); exact ⟨(HVa_7.out.below BC.out HVa_7.out.lt).c0, (HVa_7.out.below BC.out HVa_7.out.lt).c1, (HVb_7.out.below BC.out HVb_7.out.lt).c0, (HVb_7.out.below BC.out HVb_7.out.lt).c1, (HVz_7.out.below BC.out HVz_7.out.lt).c0, (HVz_7.out.below BC.out HVz_7.out.lt).c1, (HVq_7.out.below BC.out HVq_7.out.lt).c0, (HVq_7.out.below BC.out HVq_7.out.lt).c1, (HVr_7.out.below BC.out HVr_7.out.lt).c0, (HVr_7.out.below BC.out HVr_7.out.lt).c1, (HVs_7.out.below BC.out HVs_7.out.lt).c0, (HVs_7.out.below BC.out HVs_7.out.lt).c1, (HVm_7.out.below BC.out HVm_7.out.lt).c0, (HVm_7.out.below BC.out HVm_7.out.lt).c1⟩) (fun hHeld => ?_)
          clear hK K
          (try simp only [Act.put, List.setIfInBounds_toArray, List.set_cons_zero, List.set_cons_succ])
          refine' take_call 14 ?hif14 (by kernel_rfl) ?hrf14
          case hif14 => (simp only [List.getElem?_toArray, List.getElem?_cons_succ, List.getElem?_cons_zero]; rfl)
          intro K hK
          go_simp
          have _hb := HB1.out
          clear _hb
          go_at_call 25
          refine (nadd (K := 30) (L := 15) HN1.out (HNr_7.out.below BC.out) (by omega) (by omega)).mono ?_
          rintro e w102 ⟨⟨b102, s102, l102, c102, rfl, hn⟩, hb⟩
          have HB2 := Lib.hid hb
          have HN2 := Lib.hid hn
          replace BC := Lib.hid (BC.out.trans (hb.mono BC.out.size))
          clear hb hn
          go_wp2_with fail
          clear hHeld
          refine hK.out _ _ (by (try dsimp only); exact ⟨(HVa_7.out.below BC.out HVa_7.out.lt).c0, (HVa_7.out.below BC.out HVa_7.out.lt).c1, (HVb_7.out.below BC.out HVb_7.out.lt).c0, (HVb_7.out.below BC.out HVb_7.out.lt).c1, (HVz_7.out.below BC.out HVz_7.out.lt).c0, (HVz_7.out.below BC.out HVz_7.out.lt).c1, (HVq_7.out.below BC.out HVq_7.out.lt).c0, (HVq_7.out.below BC.out HVq_7.out.lt).c1, (HVr_7.out.below BC.out HVr_7.out.lt).c0, (HVr_7.out.below BC.out HVr_7.out.lt).c1, (HVs_7.out.below BC.out HVs_7.out.lt).c0, (HVs_7.out.below BC.out HVs_7.out.lt).c1, (HVm_7.out.below BC.out HVm_7.out.lt).c0, (HVm_7.out.below BC.out HVm_7.out.lt).c1⟩) (fun hHeld => ?_)
          clear hK K
          (try simp only [Act.put, List.setIfInBounds_toArray, List.set_cons_zero, List.set_cons_succ])
          refine' take_call 16 ?hif16 (by kernel_rfl) ?hrf16
          case hif16 => (simp only [List.getElem?_toArray, List.getElem?_cons_succ, List.getElem?_cons_zero]; rfl)
          intro K hK
          go_simp
          have _hb := HB2.out
          clear _hb
          go_at_call 31
          refine (ncmp_eq (K := 46) (L := 15) HN2.out (HNa_7.out.below BC.out) (by omega) (by omega) (HBACK.out)).mono ?_
          rintro e w103 ⟨rfl, hb⟩
          have HB3 := Lib.hid hb
          replace BC := Lib.hid (BC.out.trans (hb.mono BC.out.size))
          clear hb
          go_wp2_with fail
          clear hHeld
          refine hK.out _ _ (by (try dsimp only); exact ⟨(HVa_7.out.below BC.out HVa_7.out.lt).c0, (HVa_7.out.below BC.out HVa_7.out.lt).c1, (HVb_7.out.below BC.out HVb_7.out.lt).c0, (HVb_7.out.below BC.out HVb_7.out.lt).c1, (HVz_7.out.below BC.out HVz_7.out.lt).c0, (HVz_7.out.below BC.out HVz_7.out.lt).c1, (HVq_7.out.below BC.out HVq_7.out.lt).c0, (HVq_7.out.below BC.out HVq_7.out.lt).c1, (HVr_7.out.below BC.out HVr_7.out.lt).c0, (HVr_7.out.below BC.out HVr_7.out.lt).c1, (HVs_7.out.below BC.out HVs_7.out.lt).c0, (HVs_7.out.below BC.out HVs_7.out.lt).c1, (HVm_7.out.below BC.out HVm_7.out.lt).c0, (HVm_7.out.below BC.out HVm_7.out.lt).c1⟩) (fun hHeld => ?_)
          clear hK K
          (try simp only [Act.put, List.setIfInBounds_toArray, List.set_cons_zero, List.set_cons_succ])
          refine' take_any 17 98 (v := _) ?hif17 ?hdf17 (by kernel_rfl) (by kernel_rfl) (by kernel_rfl) (fun _ _ _ h => h) ?hyf17 hHeld ?hrf17
          case hif17 => (simp only [List.getElem?_toArray, List.getElem?_cons_succ, List.getElem?_cons_zero]; rfl)
          case hdf17 => rfl
          case hyf17 =>
            refine' Or.inl ⟨?hwf17, ?hxf17⟩
            case hwf17 => rfl
            case hxf17 => (intro w hSw; (try dsimp only at hSw); go_simp; (try with_reducible rfl))
          (try simp only [Act.put, List.setIfInBounds_toArray, List.set_cons_zero, List.set_cons_succ])
          refine' take_any 18 99 (v := _) ?hif18 ?hdf18 (by kernel_rfl) (by kernel_rfl) (by kernel_rfl) (fun _ _ _ h => h) ?hyf18 hHeld ?hrf18
          case hif18 => (simp only [List.getElem?_toArray, List.getElem?_cons_succ, List.getElem?_cons_zero]; rfl)
          case hdf18 => rfl
          case hyf18 =>
            refine' Or.inl ⟨?hwf18, ?hxf18⟩
            case hwf18 => rfl
            case hxf18 => (intro w hSw; (try dsimp only at hSw); go_simp; (try with_reducible rfl))
          (try simp only [Act.put, List.setIfInBounds_toArray, List.set_cons_zero, List.set_cons_succ])
          refine' take_any 19 100 (v := _) ?hif19 ?hdf19 (by kernel_rfl) (by kernel_rfl) (by kernel_rfl) (fun _ _ _ h => h) ?hyf19 hHeld ?hrf19
          case hif19 => (simp only [List.getElem?_toArray, List.getElem?_cons_succ, List.getElem?_cons_zero]; rfl)
          case hdf19 => rfl
          case hyf19 =>
            refine' Or.inl ⟨?hwf19, ?hxf19⟩
            case hwf19 => rfl
            case hxf19 => (intro w hSw; (try dsimp only at hSw); go_simp; (try with_reducible rfl))
          (try simp only [Act.put, List.setIfInBounds_toArray, List.set_cons_zero, List.set_cons_succ])
          refine' take_any 20 101 (v := _) ?hif20 ?hdf20 (by kernel_rfl) (by kernel_rfl) (by kernel_rfl) (fun _ _ _ h => h) ?hyf20 hHeld ?hrf20
          case hif20 => (simp only [List.getElem?_toArray, List.getElem?_cons_succ, List.getElem?_cons_zero]; rfl)
          case hdf20 => rfl
          case hyf20 =>
            refine' Or.inl ⟨?hwf20, ?hxf20⟩
            case hwf20 => rfl
            case hxf20 => (intro w hSw; (try dsimp only at hSw); go_simp; (try with_reducible rfl))
          (try simp only [Act.put, List.setIfInBounds_toArray, List.set_cons_zero, List.set_cons_succ])
          refine' take_any 21 102 (v := _) ?hif21 ?hdf21 (by kernel_rfl) (by kernel_rfl) (by kernel_rfl) (fun _ _ _ h => h) ?hyf21 hHeld ?hrf21
          case hif21 => (simp only [List.getElem?_toArray, List.getElem?_cons_succ, List.getElem?_cons_zero]; rfl)
          case hdf21 => rfl
          case hyf21 =>
            refine' Or.inl ⟨?hwf21, ?hxf21⟩
            case hwf21 => rfl
            case hxf21 => (intro w hSw; (try dsimp only at hSw); go_simp; (try with_reducible rfl))
          (try simp only [Act.put, List.setIfInBounds_toArray, List.set_cons_zero, List.set_cons_succ])
          refine' take_call 22 ?hif22 (by kernel_rfl) ?hrf22
          case hif22 => (simp only [List.getElem?_toArray, List.getElem?_cons_succ, List.getElem?_cons_zero]; rfl)
          intro K hK
          go_simp
          have _hb := HB3.out
          clear _hb
          go_at_call 31
          refine (ncmpV (K := 15) (L := 15) (z := (-1)) (HNs_7.out.below BC.out) (HNm_7.out.below BC.out) (by omega) (by omega) (by have h1 := HNEAR.out; have h2 := HY.out; have h3 := HR.out; exact cmpZ_neg (by omega))).mono ?_
          rintro e w104 ⟨rfl, hb⟩
          have HB4 := Lib.hid hb
          replace BC := Lib.hid (BC.out.trans (hb.mono BC.out.size))
          clear hb
          go_wp2_with fail
          clear hHeld
          refine hK.out _ _ (by (try dsimp only); exact ⟨(HVa_7.out.below BC.out HVa_7.out.lt).c0, (HVa_7.out.below BC.out HVa_7.out.lt).c1, (HVb_7.out.below BC.out HVb_7.out.lt).c0, (HVb_7.out.below BC.out HVb_7.out.lt).c1, (HVz_7.out.below BC.out HVz_7.out.lt).c0, (HVz_7.out.below BC.out HVz_7.out.lt).c1, (HVq_7.out.below BC.out HVq_7.out.lt).c0, (HVq_7.out.below BC.out HVq_7.out.lt).c1, (HVr_7.out.below BC.out HVr_7.out.lt).c0, (HVr_7.out.below BC.out HVr_7.out.lt).c1, (HVs_7.out.below BC.out HVs_7.out.lt).c0, (HVs_7.out.below BC.out HVs_7.out.lt).c1, (HVm_7.out.below BC.out HVm_7.out.lt).c0, (HVm_7.out.below BC.out HVm_7.out.lt).c1⟩) (fun hHeld => ?_)
          clear hK K
          (try simp only [Act.put, List.setIfInBounds_toArray, List.set_cons_zero, List.set_cons_succ])
          refine' take_any 23 104 (v := _) ?hif23 ?hdf23 (by kernel_rfl) (by kernel_rfl) (by kernel_rfl) (fun _ _ _ h => h) ?hyf23 hHeld ?hrf23
          case hif23 => (simp only [List.getElem?_toArray, List.getElem?_cons_succ, List.getElem?_cons_zero]; rfl)
          case hdf23 => rfl
          case hyf23 =>
            refine' Or.inl ⟨?hwf23, ?hxf23⟩
            case hwf23 => rfl
            case hxf23 => (intro w hSw; (try dsimp only at hSw); go_simp; (try with_reducible rfl))
          (try simp only [Act.put, List.setIfInBounds_toArray, List.set_cons_zero, List.set_cons_succ])
          refine' take_any 24 105 (v := _) ?hif24 ?hdf24 (by kernel_rfl) (by kernel_rfl) (by kernel_rfl) (fun _ _ _ h => h) ?hyf24 hHeld ?hrf24
          case hif24 => (simp only [List.getElem?_toArray, List.getElem?_cons_succ, List.getElem?_cons_zero]; rfl)
          case hdf24 => rfl
          case hyf24 =>
            refine' Or.inl ⟨?hwf24, ?hxf24⟩
            case hwf24 => rfl
            case hxf24 => (intro w hSw; (try dsimp only at hSw); go_simp; (try with_reducible rfl))
          (try simp only [Act.put, List.setIfInBounds_toArray, List.set_cons_zero, List.set_cons_succ])
          refine' take_any 25 106 (v := _) ?hif25 ?hdf25 (by kernel_rfl) (by kernel_rfl) (by kernel_rfl) (fun _ _ _ h => h) ?hyf25 hHeld ?hrf25
          case hif25 => (simp only [List.getElem?_toArray, List.getElem?_cons_succ, List.getElem?_cons_zero]; rfl)
          case hdf25 => rfl
          case hyf25 =>
            refine' Or.inl ⟨?hwf25, ?hxf25⟩
            case hwf25 => rfl
            case hxf25 => (intro w hSw; (try dsimp only at hSw); go_simp; (try with_reducible rfl))
          (try simp only [Act.put, List.setIfInBounds_toArray, List.set_cons_zero, List.set_cons_succ])
          refine' take_any 26 107 (v := _) ?hif26 ?hdf26 (by kernel_rfl) (by kernel_rfl) (by kernel_rfl) (fun _ _ _ h => h) ?hyf26 hHeld ?hrf26
          case hif26 => (simp only [List.getElem?_toArray, List.getElem?_cons_succ, List.getElem?_cons_zero]; rfl)
          case hdf26 => rfl
          case hyf26 =>
            refine' Or.inl ⟨?hwf26, ?hxf26⟩
            case hwf26 => rfl
            case hxf26 => (intro w hSw; (try dsimp only at hSw); go_simp; (try with_reducible rfl))
          (try simp only [Act.put, List.setIfInBounds_toArray, List.set_cons_zero, List.set_cons_succ])
          refine' take_any 27 108 (v := _) ?hif27 ?hdf27 (by kernel_rfl) (by kernel_rfl) (by kernel_rfl) (fun _ _ _ h => h) ?hyf27 hHeld ?hrf27
          case hif27 => (simp only [List.getElem?_toArray, List.getElem?_cons_succ, List.getElem?_cons_zero]; rfl)
          case hdf27 => rfl
          case hyf27 =>
            refine' Or.inl ⟨?hwf27, ?hxf27⟩
            case hwf27 => rfl
            case hxf27 => (intro w hSw; (try dsimp only at hSw); go_simp; (try with_reducible rfl))
          (try simp only [Act.put, List.setIfInBounds_toArray, List.set_cons_zero, List.set_cons_succ])
          refine' take_call 28 ?hif28 (by kernel_rfl) ?hrf28
          case hif28 => (simp only [List.getElem?_toArray, List.getElem?_cons_succ, List.getElem?_cons_zero]; rfl)
          intro K hK
          go_simp
          have _hb := HB4.out
          clear _hb
          go_at_call 31
          refine (ncmpV (K := 15) (L := 0) (z := 0) (HNr_7.out.below BC.out) (HNz_7.out.below BC.out) (by omega) (by omega) (cmpZ_eq HR.out)).mono ?_
          rintro e w105 ⟨rfl, hb⟩
          have HB5 := Lib.hid hb
          replace BC := Lib.hid (BC.out.trans (hb.mono BC.out.size))
          clear hb
          go_wp2_with fail
          clear hHeld
          refine hK.out _ _ (by (try dsimp only); exact ⟨(HVa_7.out.below BC.out HVa_7.out.lt).c0, (HVa_7.out.below BC.out HVa_7.out.lt).c1, (HVb_7.out.below BC.out HVb_7.out.lt).c0, (HVb_7.out.below BC.out HVb_7.out.lt).c1, (HVz_7.out.below BC.out HVz_7.out.lt).c0, (HVz_7.out.below BC.out HVz_7.out.lt).c1, (HVq_7.out.below BC.out HVq_7.out.lt).c0, (HVq_7.out.below BC.out HVq_7.out.lt).c1, (HVr_7.out.below BC.out HVr_7.out.lt).c0, (HVr_7.out.below BC.out HVr_7.out.lt).c1, (HVs_7.out.below BC.out HVs_7.out.lt).c0, (HVs_7.out.below BC.out HVs_7.out.lt).c1, (HVm_7.out.below BC.out HVm_7.out.lt).c0, (HVm_7.out.below BC.out HVm_7.out.lt).c1⟩) (fun hHeld => ?_)
          clear hK K
          (try simp only [Act.put, List.setIfInBounds_toArray, List.set_cons_zero, List.set_cons_succ])
          refine' take_any 29 110 (v := _) ?hif29 ?hdf29 (by kernel_rfl) (by kernel_rfl) (by kernel_rfl) (fun _ _ _ h => h) ?hyf29 hHeld ?hrf29
          case hif29 => (simp only [List.getElem?_toArray, List.getElem?_cons_succ, List.getElem?_cons_zero]; rfl)
          case hdf29 => rfl
          case hyf29 =>
            refine' Or.inl ⟨?hwf29, ?hxf29⟩
            case hwf29 => rfl
            case hxf29 => (intro w hSw; (try dsimp only at hSw); go_simp; (try with_reducible rfl))
          (try simp only [Act.put, List.setIfInBounds_toArray, List.set_cons_zero, List.set_cons_succ])
          refine' take_any 30 111 (v := _) ?hif30 ?hdf30 (by kernel_rfl) (by kernel_rfl) (by kernel_rfl) (fun _ _ _ h => h) ?hyf30 hHeld ?hrf30
          case hif30 => (simp only [List.getElem?_toArray, List.getElem?_cons_succ, List.getElem?_cons_zero]; rfl)
          case hdf30 => rfl
          case hyf30 =>
            refine' Or.inl ⟨?hwf30, ?hxf30⟩
            case hwf30 => rfl
            case hxf30 => (intro w hSw; (try dsimp only at hSw); go_simp; (try with_reducible rfl))
          (try simp only [Act.put, List.setIfInBounds_toArray, List.set_cons_zero, List.set_cons_succ])
          refine' take_any 31 112 (v := undef) ?hif31 ?hdf31 (by kernel_rfl) (by kernel_rfl) (by kernel_rfl) (fun _ _ _ h => h) ?hyf31 hHeld ?hrf31
          case hif31 => (simp only [List.getElem?_toArray, List.getElem?_cons_succ, List.getElem?_cons_zero]; rfl)
          case hdf31 => rfl
          case hyf31 => exact Or.inr ⟨by rfl, rfl⟩
          (try simp only [Act.put, List.setIfInBounds_toArray, List.set_cons_zero, List.set_cons_succ])
          refine' take_any 32 113 (v := undef) ?hif32 ?hdf32 (by kernel_rfl) (by kernel_rfl) (by kernel_rfl) (fun _ _ _ h => h) ?hyf32 hHeld ?hrf32
          case hif32 => (simp only [List.getElem?_toArray, List.getElem?_cons_succ, List.getElem?_cons_zero]; rfl)
          case hdf32 => rfl
          case hyf32 => exact Or.inr ⟨by rfl, rfl⟩
          (try simp only [Act.put, List.setIfInBounds_toArray, List.set_cons_zero, List.set_cons_succ])
          refine' take_any 34 115 (v := undef) ?hif34 ?hdf34 (by kernel_rfl) (by kernel_rfl) (by kernel_rfl) (fun _ _ _ h => h) ?hyf34 hHeld ?hrf34
          case hif34 => (simp only [List.getElem?_toArray, List.getElem?_cons_succ, List.getElem?_cons_zero]; rfl)
          case hdf34 => rfl
          case hyf34 => exact Or.inr ⟨by rfl, rfl⟩
          (try simp only [Act.put, List.setIfInBounds_toArray, List.set_cons_zero, List.set_cons_succ])
          refine' take_any 35 116 (v := undef) ?hif35 ?hdf35 (by kernel_rfl) (by kernel_rfl) (by kernel_rfl) (fun _ _ _ h => h) ?hyf35 hHeld ?hrf35
          case hif35 => (simp only [List.getElem?_toArray, List.getElem?_cons_succ, List.getElem?_cons_zero]; rfl)
          case hdf35 => rfl
          case hyf35 => exact Or.inr ⟨by rfl, rfl⟩
          (try simp only [Act.put, List.setIfInBounds_toArray, List.set_cons_zero, List.set_cons_succ])
          refine' take_any 33 114 (v := undef) ?hif33 ?hdf33 (by kernel_rfl) (by kernel_rfl) (by kernel_rfl) (fun _ _ _ h => h) ?hyf33 hHeld ?hrf33
          case hif33 => (simp only [List.getElem?_toArray, List.getElem?_cons_succ, List.getElem?_cons_zero]; rfl)
          case hdf33 => rfl
          case hyf33 => exact Or.inr ⟨by rfl, rfl⟩
          (try simp only [Act.put, List.setIfInBounds_toArray, List.set_cons_zero, List.set_cons_succ])
          refine' take_any 36 117 (v := undef) ?hif36 ?hdf36 (by kernel_rfl) (by kernel_rfl) (by kernel_rfl) (fun _ _ _ h => h) ?hyf36 hHeld ?hrf36
          case hif36 => (simp only [List.getElem?_toArray, List.getElem?_cons_succ, List.getElem?_cons_zero]; rfl)
          case hdf36 => rfl
          case hyf36 => exact Or.inr ⟨by rfl, rfl⟩
          (try simp only [Act.put, List.setIfInBounds_toArray, List.set_cons_zero, List.set_cons_succ])
          refine' take_any 37 118 (v := undef) ?hif37 ?hdf37 (by kernel_rfl) (by kernel_rfl) (by kernel_rfl) (fun _ _ _ h => h) ?hyf37 hHeld ?hrf37
          case hif37 => (simp only [List.getElem?_toArray, List.getElem?_cons_succ, List.getElem?_cons_zero]; rfl)
          case hdf37 => rfl
          case hyf37 => exact Or.inr ⟨by rfl, rfl⟩
          (try simp only [Act.put, List.setIfInBounds_toArray, List.set_cons_zero, List.set_cons_succ])
          refine' take_any 38 119 (v := _) ?hif38 ?hdf38 (by kernel_rfl) (by kernel_rfl) (by kernel_rfl) (fun _ _ _ h => h) ?hyf38 hHeld ?hrf38
          case hif38 => (simp only [List.getElem?_toArray, List.getElem?_cons_succ, List.getElem?_cons_zero]; rfl)
          case hdf38 => rfl
          case hyf38 =>
            refine' Or.inl ⟨?hwf38, ?hxf38⟩
            case hwf38 => rfl
            case hxf38 => (intro w hSw; (try dsimp only at hSw); go_simp; (try with_reducible rfl))
          (try simp only [Act.put, List.setIfInBounds_toArray, List.set_cons_zero, List.set_cons_succ])
          refine' take_any 39 120 (v := _) ?hif39 ?hdf39 (by kernel_rfl) (by kernel_rfl) (by kernel_rfl) (fun _ _ _ h => h) ?hyf39 hHeld ?hrf39
          case hif39 => (simp only [List.getElem?_toArray, List.getElem?_cons_succ, List.getElem?_cons_zero]; rfl)
          case hdf39 => rfl
          case hyf39 =>
            refine' Or.inl ⟨?hwf39, ?hxf39⟩
            case hwf39 => rfl
            case hxf39 => (intro w hSw; (try dsimp only at hSw); go_simp; (try with_reducible rfl))
          (try simp only [Act.put, List.setIfInBounds_toArray, List.set_cons_zero, List.set_cons_succ])
          refine' take_any 40 4 (v := _) ?hif40 ?hdf40 (by kernel_rfl) (by kernel_rfl) (by kernel_rfl) (fun _ _ _ h => h) ?hyf40 hHeld ?hrf40
          case hif40 => (simp only [List.getElem?_toArray, List.getElem?_cons_succ, List.getElem?_cons_zero]; rfl)
          case hdf40 => rfl
          case hyf40 =>
            refine' Or.inl ⟨?hwf40, ?hxf40⟩
            case hwf40 => rfl
            case hxf40 => (intro w hSw; (try dsimp only at hSw); go_simp; (try with_reducible rfl))
          (try simp only [Act.put, List.setIfInBounds_toArray, List.set_cons_zero, List.set_cons_succ])
          refine wpAnyH_done (by kernel_rfl) ?_ _
          refine NoPanic.normal ?_
          all_goals
            go_wp2
            go_ret
            exact ⟨rfl, HBW_7.out.trans (BC.out.mono HBW_7.out.size)⟩
      · have HR := Lib.hid hr
        clear hr
        as_aux_lemma =>
          go_wp2_with fail
          rw [← HG.out, ← HW.out, ← HGZ.out]
          refine (nquo1 (K := 15) (L := 15) HNA.out HNB.out (by omega) (by omega) HY0.out HQN.out).mono ?_
          rintro e w201 ⟨⟨bv1, sv1, lv1, cv1, rfl, hn⟩, hb⟩
          clear A0 A1 B0 B1 Z0 Z1
          have qa0 := (HVA.out.below hb HVA.out.lt).c0
          have qa1 := (HVA.out.below hb HVA.out.lt).c1
          have ta := (HVA.out.below hb HVA.out.lt).lt
          have qb0 := (HVB.out.below hb HVB.out.lt).c0
          have qb1 := (HVB.out.below hb HVB.out.lt).c1
          have tb := (HVB.out.below hb HVB.out.lt).lt
          have qz0 := (HVZ.out.below hb HVZ.out.lt).c0
          have qz1 := (HVZ.out.below hb HVZ.out.lt).c1
          have tz := (HVZ.out.below hb HVZ.out.lt).lt
          obtain ⟨W201, hW201⟩ : ∃ W, W = w201.alloc (.cells #[.bool bv1, .slice sv1 lv1 cv1] 25) := ⟨_, rfl⟩
          obtain ⟨gq, hgq⟩ : ∃ g, g = w201.heap.size := ⟨_, rfl⟩
          have HBW201 := Lib.hid (show Below W.heap.size W W201 by rw [hW201]; exact hb.alloc hb.size _)
          have HVn := Lib.hid (show VarAt W201 gq bv1 sv1 lv1 cv1 by rw [hW201, hgq]; exact VarAt.made _ _ _ _ _)
          have HNn := Lib.hid (show NumIs 15 W201 _ qn by rw [hW201]; exact hn.alloc _)
          have HW201 := Lib.hid hW201
          have HGq := Lib.hid hgq
          clear hn hb hW201 hgq
          have HVa_1 := Lib.hid (HVA.out.below HBW201.out HVA.out.lt)
          have HNa_1 := Lib.hid (HNA.out.below HBW201.out)
          have HVb_1 := Lib.hid (HVB.out.below HBW201.out HVB.out.lt)
          have HNb_1 := Lib.hid (HNB.out.below HBW201.out)
          have HVz_1 := Lib.hid (HVZ.out.below HBW201.out HVZ.out.lt)
          have HNz_1 := Lib.hid (HNZ.out.below HBW201.out)
          have HBW_1 := Lib.hid (HBW.out.trans (HBW201.out.mono HBW.out.size))
          clear HVA HNA HVB HNB HVZ HNZ HBW
          have HVq_1 := HVn
          have HNq_1 := HNn
          clear HVn HNn HBW201
          go_wp2_with fail
          rw [← HGq.out, ← HW201.out]
          refine (nrem1 (K := 15) (L := 15) HNa_1.out HNb_1.out (by omega) (by omega) HY0.out HRN.out).mono ?_
          rintro e w202 ⟨⟨bv2, sv2, lv2, cv2, rfl, hn⟩, hb⟩
          clear qa0 qa1 ta qb0 qb1 tb qz0 qz1 tz
          have qb0 := (HVb_1.out.below hb HVb_1.out.lt).c0
          have qb1 := (HVb_1.out.below hb HVb_1.out.lt).c1
          have tb := (HVb_1.out.below hb HVb_1.out.lt).lt
          have qz0 := (HVz_1.out.below hb HVz_1.out.lt).c0
          have qz1 := (HVz_1.out.below hb HVz_1.out.lt).c1
          have tz := (HVz_1.out.below hb HVz_1.out.lt).lt
          obtain ⟨W202, hW202⟩ : ∃ W, W = w202.alloc (.cells #[.bool bv2, .slice sv2 lv2 cv2] 25) := ⟨_, rfl⟩
          obtain ⟨gr, hgr⟩ : ∃ g, g = w202.heap.size := ⟨_, rfl⟩
          have HBW202 := Lib.hid (show Below W201.heap.size W201 W202 by rw [hW202]; exact hb.alloc hb.size _)
          have HVn := Lib.hid (show VarAt W202 gr bv2 sv2 lv2 cv2 by rw [hW202, hgr]; exact VarAt.made _ _ _ _ _)
          have HNn := Lib.hid (show NumIs 15 W202 _ rn by rw [hW202]; exact hn.alloc _)
          have HW202 := Lib.hid hW202
          have HGr := Lib.hid hgr
          clear hn hb hW202 hgr
          have HVa_2 := Lib.hid (HVa_1.out.below HBW202.out HVa_1.out.lt)
          have HNa_2 := Lib.hid (HNa_1.out.below HBW202.out)
          have HVb_2 := Lib.hid (HVb_1.out.below HBW202.out HVb_1.out.lt)
          have HNb_2 := Lib.hid (HNb_1.out.below HBW202.out)
          have HVz_2 := Lib.hid (HVz_1.out.below HBW202.out HVz_1.out.lt)
          have HNz_2 := Lib.hid (HNz_1.out.below HBW202.out)
          have HVq_2 := Lib.hid (HVq_1.out.below HBW202.out HVq_1.out.lt)
          have HNq_2 := Lib.hid (HNq_1.out.below HBW202.out)
          have HBW_2 := Lib.hid (HBW_1.out.trans (HBW202.out.mono HBW_1.out.size))
          clear HVa_1 HNa_1 HVb_1 HNb_1 HVz_1 HNz_1 HVq_1 HNq_1 HBW_1
          have HVr_2 := HVn
          have HNr_2 := HNn
          clear HVn HNn HBW202
          go_wp2_with fail
          rw [← HGr.out, ← HW202.out]
          refine (ncmpV (K := 15) (L := 0) (z := 1) HNb_2.out HNz_2.out (by omega) (by omega) (by have := HY.out; exact cmpZ_pos (by omega))).mono ?_
          rintro e w203 ⟨rfl, hb⟩
          have HBw203 := Lib.hid hb
          clear hb
          have HVa_3 := Lib.hid (HVa_2.out.below HBw203.out HVa_2.out.lt)
          have HNa_3 := Lib.hid (HNa_2.out.below HBw203.out)
          have HVb_3 := Lib.hid (HVb_2.out.below HBw203.out HVb_2.out.lt)
          have HNb_3 := Lib.hid (HNb_2.out.below HBw203.out)
          have HVz_3 := Lib.hid (HVz_2.out.below HBw203.out HVz_2.out.lt)
          have HNz_3 := Lib.hid (HNz_2.out.below HBw203.out)
          have HVq_3 := Lib.hid (HVq_2.out.below HBw203.out HVq_2.out.lt)
          have HNq_3 := Lib.hid (HNq_2.out.below HBw203.out)
          have HVr_3 := Lib.hid (HVr_2.out.below HBw203.out HVr_2.out.lt)
          have HNr_3 := Lib.hid (HNr_2.out.below HBw203.out)
          have HBW_3 := Lib.hid (HBW_2.out.trans (HBw203.out.mono HBW_2.out.size))
          clear HVa_2 HNa_2 HVb_2 HNb_2 HVz_2 HNz_2 HVq_2 HNq_2 HVr_2 HNr_2 HBW_2
          clear HBw203
          clear qb0 qb1 tb qz0 qz1 tz
          have qr0 := HVr_3.out.c0
          have qr1 := HVr_3.out.c1
          have tr := HVr_3.out.lt
          have qz0 := HVz_3.out.c0
          have qz1 := HVz_3.out.c1
          have tz := HVz_3.out.lt
          obtain ⟨W204, hW204⟩ : ∃ W, W = w203.alloc (.cells #[.bool bv2, .slice sv2 lv2 cv2] 25) := ⟨_, rfl⟩
          obtain ⟨gs, hgs⟩ : ∃ g, g = w203.heap.size := ⟨_, rfl⟩
          have HBW204 := Lib.hid (show Below (w203).heap.size (w203) W204 by rw [hW204]; exact (Below.refl _ _).alloc (Nat.le_refl _) _)
          have hgx9 : gs = (w203).heap.size := by rw [hgs]
          have HVn := Lib.hid (show VarAt W204 gs bv2 sv2 lv2 cv2 by rw [hW204, hgx9]; exact VarAt.made _ _ _ _ _)
          have HNn := Lib.hid (HNr_3.out.below HBW204.out)
          have NEas := Lib.hid (show ga ≠ gs by have := HVa_3.out.lt; omega)
          have NEbs := Lib.hid (show ga + 1 ≠ gs by have := HVb_3.out.lt; omega)
          have NEzs := Lib.hid (show gz ≠ gs by have := HVz_3.out.lt; omega)
          have NEqs := Lib.hid (show gq ≠ gs by have := HVq_3.out.lt; omega)
          have NErs := Lib.hid (show gr ≠ gs by have := HVr_3.out.lt; omega)
          have LEs := Lib.hid (show w.heap.size ≤ gs by rw [hgx9]; exact HBW_3.out.size)
          have HW204 := Lib.hid hW204
          have HGs := Lib.hid hgs
          clear hW204 hgs hgx9
          have HVa_4 := Lib.hid (HVa_3.out.below HBW204.out HVa_3.out.lt)
          have HNa_4 := Lib.hid (HNa_3.out.below HBW204.out)
          have HVb_4 := Lib.hid (HVb_3.out.below HBW204.out HVb_3.out.lt)
          have HNb_4 := Lib.hid (HNb_3.out.below HBW204.out)
          have HVz_4 := Lib.hid (HVz_3.out.below HBW204.out HVz_3.out.lt)
          have HNz_4 := Lib.hid (HNz_3.out.below HBW204.out)
          have HVq_4 := Lib.hid (HVq_3.out.below HBW204.out HVq_3.out.lt)
          have HNq_4 := Lib.hid (HNq_3.out.below HBW204.out)
          have HVr_4 := Lib.hid (HVr_3.out.below HBW204.out HVr_3.out.lt)
          have HNr_4 := Lib.hid (HNr_3.out.below HBW204.out)
          have HBW_4 := Lib.hid (HBW_3.out.trans (HBW204.out.mono HBW_3.out.size))
          clear HVa_3 HNa_3 HVb_3 HNb_3 HVz_3 HNz_3 HVq_3 HNq_3 HVr_3 HNr_3 HBW_3
          have HVs_4 := HVn
          have HNs_4 := HNn
          clear HVn HNn HBW204
          go_wp2_with fail
          rw [← HGs.out, ← HW204.out]
          refine (ncmpV (K := 15) (L := 0) (z := 1) HNr_4.out HNz_4.out (by omega) (by omega) (cmpZ_pos HR.out)).mono ?_
          rintro e w205 ⟨rfl, hb⟩
          have HBw205 := Lib.hid hb
          clear hb
          have HVa_5 := Lib.hid (HVa_4.out.below HBw205.out HVa_4.out.lt)
          have HNa_5 := Lib.hid (HNa_4.out.below HBw205.out)
          have HVb_5 := Lib.hid (HVb_4.out.below HBw205.out HVb_4.out.lt)
          have HNb_5 := Lib.hid (HNb_4.out.below HBw205.out)
          have HVz_5 := Lib.hid (HVz_4.out.below HBw205.out HVz_4.out.lt)
          have HNz_5 := Lib.hid (HNz_4.out.below HBw205.out)
          have HVq_5 := Lib.hid (HVq_4.out.below HBw205.out HVq_4.out.lt)
          have HNq_5 := Lib.hid (HNq_4.out.below HBw205.out)
          have HVr_5 := Lib.hid (HVr_4.out.below HBw205.out HVr_4.out.lt)
          have HNr_5 := Lib.hid (HNr_4.out.below HBw205.out)
          have HVs_5 := Lib.hid (HVs_4.out.below HBw205.out HVs_4.out.lt)
          have HNs_5 := Lib.hid (HNs_4.out.below HBw205.out)
          have HBW_5 := Lib.hid (HBW_4.out.trans (HBw205.out.mono HBW_4.out.size))
          clear HVa_4 HNa_4 HVb_4 HNb_4 HVz_4 HNz_4 HVq_4 HNq_4 HVr_4 HNr_4 HVs_4 HNs_4 HBW_4
          clear HBw205
          clear qr0 qr1 tr qz0 qz1 tz
          have qb0 := HVb_5.out.c0
          have qb1 := HVb_5.out.c1
          have tb := HVb_5.out.lt
          have qz0 := HVz_5.out.c0
          have qz1 := HVz_5.out.c1
          have tz := HVz_5.out.lt
          obtain ⟨W206, hW206⟩ : ∃ W, W = w205.alloc (.cells #[.bool b2, .slice s2 l2 c2] 25) := ⟨_, rfl⟩
          obtain ⟨gm, hgm⟩ : ∃ g, g = w205.heap.size := ⟨_, rfl⟩
          have HBW206 := Lib.hid (show Below (w205).heap.size (w205) W206 by rw [hW206]; exact (Below.refl _ _).alloc (Nat.le_refl _) _)
          have hgx9 : gm = (w205).heap.size := by rw [hgm]
          have HVn := Lib.hid (show VarAt W206 gm b2 s2 l2 c2 by rw [hW206, hgx9]; exact VarAt.made _ _ _ _ _)
          have HNn := Lib.hid (HNb_5.out.below HBW206.out)
          have NEam := Lib.hid (show ga ≠ gm by have := HVa_5.out.lt; omega)
          have NEbm := Lib.hid (show ga + 1 ≠ gm by have := HVb_5.out.lt; omega)
          have NEzm := Lib.hid (show gz ≠ gm by have := HVz_5.out.lt; omega)
          have NEqm := Lib.hid (show gq ≠ gm by have := HVq_5.out.lt; omega)
          have NErm := Lib.hid (show gr ≠ gm by have := HVr_5.out.lt; omega)
          have NEsm := Lib.hid (show gs ≠ gm by have := HVs_5.out.lt; omega)
          have LEm := Lib.hid (show w.heap.size ≤ gm by rw [hgx9]; exact HBW_5.out.size)
          have HW206 := Lib.hid hW206
          have HGm := Lib.hid hgm
          clear hW206 hgm hgx9
          have HVa_6 := Lib.hid (HVa_5.out.below HBW206.out HVa_5.out.lt)
          have HNa_6 := Lib.hid (HNa_5.out.below HBW206.out)
          have HVb_6 := Lib.hid (HVb_5.out.below HBW206.out HVb_5.out.lt)
          have HNb_6 := Lib.hid (HNb_5.out.below HBW206.out)
          have HVz_6 := Lib.hid (HVz_5.out.below HBW206.out HVz_5.out.lt)
          have HNz_6 := Lib.hid (HNz_5.out.below HBW206.out)
          have HVq_6 := Lib.hid (HVq_5.out.below HBW206.out HVq_5.out.lt)
          have HNq_6 := Lib.hid (HNq_5.out.below HBW206.out)
          have HVr_6 := Lib.hid (HVr_5.out.below HBW206.out HVr_5.out.lt)
          have HNr_6 := Lib.hid (HNr_5.out.below HBW206.out)
          have HVs_6 := Lib.hid (HVs_5.out.below HBW206.out HVs_5.out.lt)
          have HNs_6 := Lib.hid (HNs_5.out.below HBW206.out)
          have HBW_6 := Lib.hid (HBW_5.out.trans (HBW206.out.mono HBW_5.out.size))
          clear HVa_5 HNa_5 HVb_5 HNb_5 HVz_5 HNz_5 HVq_5 HNq_5 HVr_5 HNr_5 HVs_5 HNs_5 HBW_5
          have HVm_6 := HVn
          have HNm_6 := HNn
          clear HVn HNn HBW206
          go_wp2_with fail
          rw [← HGm.out, ← HW206.out]
          refine (ncmpV (K := 15) (L := 0) (z := 1) HNb_6.out HNz_6.out (by omega) (by omega) (by have := HY.out; exact cmpZ_pos (by omega))).mono ?_
          rintro e w207 ⟨rfl, hb⟩
          have HBw207 := Lib.hid hb
          clear hb
          have HVa_7 := Lib.hid (HVa_6.out.below HBw207.out HVa_6.out.lt)
          have HNa_7 := Lib.hid (HNa_6.out.below HBw207.out)
          have HVb_7 := Lib.hid (HVb_6.out.below HBw207.out HVb_6.out.lt)
          have HNb_7 := Lib.hid (HNb_6.out.below HBw207.out)
          have HVz_7 := Lib.hid (HVz_6.out.below HBw207.out HVz_6.out.lt)
          have HNz_7 := Lib.hid (HNz_6.out.below HBw207.out)
          have HVq_7 := Lib.hid (HVq_6.out.below HBw207.out HVq_6.out.lt)
          have HNq_7 := Lib.hid (HNq_6.out.below HBw207.out)
          have HVr_7 := Lib.hid (HVr_6.out.below HBw207.out HVr_6.out.lt)
          have HNr_7 := Lib.hid (HNr_6.out.below HBw207.out)
          have HVs_7 := Lib.hid (HVs_6.out.below HBw207.out HVs_6.out.lt)
          have HNs_7 := Lib.hid (HNs_6.out.below HBw207.out)
          have HVm_7 := Lib.hid (HVm_6.out.below HBw207.out HVm_6.out.lt)
          have HNm_7 := Lib.hid (HNm_6.out.below HBw207.out)
          have HBW_7 := Lib.hid (HBW_6.out.trans (HBw207.out.mono HBW_6.out.size))
          clear HVa_6 HNa_6 HVb_6 HNb_6 HVz_6 HNz_6 HVq_6 HNq_6 HVr_6 HNr_6 HVs_6 HNs_6 HVm_6 HNm_6 HBW_6
          clear HBw207
          clear qb0 qb1 tb qz0 qz1 tz
          go_wp2_with fail
          go_big_unhide
          (try dsimp only [List.append])
          have BC := Lib.hid (show Below w207.heap.size w207 w207.drew from (Below.refl _ _).drew)
          refine wp_region_noPanic ?_
          refine wp_region_held_drew (S := fun w' => w'.cell? ⟨ga, 0, none⟩ = some (.bool b1) ∧ w'.cell? ⟨ga, 1, none⟩ = some (.slice s1 l1 c1) ∧ w'.cell? ⟨ga + 1, 0, none⟩ = some (.bool b2) ∧ w'.cell? ⟨ga + 1, 1, none⟩ = some (.slice s2 l2 c2) ∧ w'.cell? ⟨gz, 0, none⟩ = some (.bool false) ∧ w'.cell? ⟨gz, 1, none⟩ = some (.slice none 0 0) ∧ w'.cell? ⟨gq, 0, none⟩ = some (.bool bv1) ∧ w'.cell? ⟨gq, 1, none⟩ = some (.slice sv1 lv1 cv1) ∧ w'.cell? ⟨gr, 0, none⟩ = some (.bool bv2) ∧ w'.cell? ⟨gr, 1, none⟩ = some (.slice sv2 lv2 cv2) ∧ w'.cell? ⟨gs, 0, none⟩ = some (.bool bv2) ∧ w'.cell? ⟨gs, 1, none⟩ = some (.slice sv2 lv2 cv2) ∧ w'.cell? ⟨gm, 0, none⟩ = some (.bool b2) ∧ w'.cell? ⟨gm, 1, none⟩ = some (.slice s2 l2 c2)) (by kernel_rfl) (by (try dsimp only); exact ⟨(HVa_7.out.below BC.out HVa_7.out.lt).c0, (HVa_7.out.below BC.out HVa_7.out.lt).c1, (HVb_7.out.below BC.out HVb_7.out.lt).c0, (HVb_7.out.below BC.out HVb_7.out.lt).c1, (HVz_7.out.below BC.out HVz_7.out.lt).c0, (HVz_7.out.below BC.out HVz_7.out.lt).c1, (HVq_7.out.below BC.out HVq_7.out.lt).c0, (HVq_7.out.below BC.out HVq_7.out.lt).c1, (HVr_7.out.below BC.out HVr_7.out.lt).c0, (HVr_7.out.below BC.out HVr_7.out.lt).c1, (HVs_7.out.below BC.out HVs_7.out.lt).c0, (HVs_7.out.below BC.out HVs_7.out.lt).c1, (HVm_7.out.below BC.out HVm_7.out.lt).c0, (HVm_7.out.below BC.out HVm_7.out.lt).c1⟩) (fun hHeld => ?_)
          refine' take_any 0 81 (v := _) ?hig0 ?hdg0 (by kernel_rfl) (by kernel_rfl) (by kernel_rfl) (fun _ _ _ h => h) ?hyg0 hHeld ?hrg0
          case hig0 => (simp only [List.getElem?_toArray, List.getElem?_cons_zero]; rfl)
          case hdg0 => rfl
          case hyg0 =>
            refine' Or.inl ⟨?hwg0, ?hxg0⟩
            case hwg0 => rfl
            case hxg0 => (intro w hSw; (try dsimp only at hSw); go_simp; (try with_reducible rfl))
          (try simp only [Act.put, List.setIfInBounds_toArray, List.set_cons_zero, List.set_cons_succ])
          refine' take_any 1 82 (v := _) ?hig1 ?hdg1 (by kernel_rfl) (by kernel_rfl) (by kernel_rfl) (fun _ _ _ h => h) ?hyg1 hHeld ?hrg1
          case hig1 => (simp only [List.getElem?_toArray, List.getElem?_cons_succ, List.getElem?_cons_zero]; rfl)
          case hdg1 => rfl
          case hyg1 =>
            refine' Or.inl ⟨?hwg1, ?hxg1⟩
            case hwg1 => rfl
            case hxg1 => (intro w hSw; (try dsimp only at hSw); go_simp; (try with_reducible rfl))
          (try simp only [Act.put, List.setIfInBounds_toArray, List.set_cons_zero, List.set_cons_succ])
          refine' take_any 2 83 (v := _) ?hig2 ?hdg2 (by kernel_rfl) (by kernel_rfl) (by kernel_rfl) (fun _ _ _ h => h) ?hyg2 hHeld ?hrg2
          case hig2 => (simp only [List.getElem?_toArray, List.getElem?_cons_succ, List.getElem?_cons_zero]; rfl)
          case hdg2 => rfl
          case hyg2 =>
            refine' Or.inl ⟨?hwg2, ?hxg2⟩
            case hwg2 => rfl
            case hxg2 => (intro w hSw; (try dsimp only at hSw); go_simp; (try with_reducible rfl))
          (try simp only [Act.put, List.setIfInBounds_toArray, List.set_cons_zero, List.set_cons_succ])
          refine' take_any 3 84 (v := _) ?hig3 ?hdg3 (by kernel_rfl) (by kernel_rfl) (by kernel_rfl) (fun _ _ _ h => h) ?hyg3 hHeld ?hrg3
          case hig3 => (simp only [List.getElem?_toArray, List.getElem?_cons_succ, List.getElem?_cons_zero]; rfl)
          case hdg3 => rfl
          case hyg3 =>
            refine' Or.inl ⟨?hwg3, ?hxg3⟩
            case hwg3 => rfl
            case hxg3 => (intro w hSw; (try dsimp only at hSw); go_simp; (try with_reducible rfl))
          (try simp only [Act.put, List.setIfInBounds_toArray, List.set_cons_zero, List.set_cons_succ])
          refine' take_any 4 85 (v := _) ?hig4 ?hdg4 (by kernel_rfl) (by kernel_rfl) (by kernel_rfl) (fun _ _ _ h => h) ?hyg4 hHeld ?hrg4
          case hig4 => (simp only [List.getElem?_toArray, List.getElem?_cons_succ, List.getElem?_cons_zero]; rfl)
          case hdg4 => rfl
          case hyg4 =>
            refine' Or.inl ⟨?hwg4, ?hxg4⟩
            case hwg4 => rfl
            case hxg4 => (intro w hSw; (try dsimp only at hSw); go_simp; (try with_reducible rfl))
          (try simp only [Act.put, List.setIfInBounds_toArray, List.set_cons_zero, List.set_cons_succ])
          refine' take_any 5 86 (v := _) ?hig5 ?hdg5 (by kernel_rfl) (by kernel_rfl) (by kernel_rfl) (fun _ _ _ h => h) ?hyg5 hHeld ?hrg5
          case hig5 => (simp only [List.getElem?_toArray, List.getElem?_cons_succ, List.getElem?_cons_zero]; rfl)
          case hdg5 => rfl
          case hyg5 =>
            refine' Or.inl ⟨?hwg5, ?hxg5⟩
            case hwg5 => rfl
            case hxg5 => (intro w hSw; (try dsimp only at hSw); go_simp; (try with_reducible rfl))
          (try simp only [Act.put, List.setIfInBounds_toArray, List.set_cons_zero, List.set_cons_succ])
          refine' take_any 6 87 (v := _) ?hig6 ?hdg6 (by kernel_rfl) (by kernel_rfl) (by kernel_rfl) (fun _ _ _ h => h) ?hyg6 hHeld ?hrg6
          case hig6 => (simp only [List.getElem?_toArray, List.getElem?_cons_succ, List.getElem?_cons_zero]; rfl)
          case hdg6 => rfl
          case hyg6 =>
            refine' Or.inl ⟨?hwg6, ?hxg6⟩
            case hwg6 => rfl
            case hxg6 => (intro w hSw; (try dsimp only at hSw); go_simp; (try with_reducible rfl))
          (try simp only [Act.put, List.setIfInBounds_toArray, List.set_cons_zero, List.set_cons_succ])
          refine' take_any 7 88 (v := _) ?hig7 ?hdg7 (by kernel_rfl) (by kernel_rfl) (by kernel_rfl) (fun _ _ _ h => h) ?hyg7 hHeld ?hrg7
          case hig7 => (simp only [List.getElem?_toArray, List.getElem?_cons_succ, List.getElem?_cons_zero]; rfl)
          case hdg7 => rfl
          case hyg7 =>
            refine' Or.inl ⟨?hwg7, ?hxg7⟩
            case hwg7 => rfl
            case hxg7 => (intro w hSw; (try dsimp only at hSw); go_simp; (try with_reducible rfl))
          (try simp only [Act.put, List.setIfInBounds_toArray, List.set_cons_zero, List.set_cons_succ])
          refine' take_any 8 89 (v := _) ?hig8 ?hdg8 (by kernel_rfl) (by kernel_rfl) (by kernel_rfl) (fun _ _ _ h => h) ?hyg8 hHeld ?hrg8
          case hig8 => (simp only [List.getElem?_toArray, List.getElem?_cons_succ, List.getElem?_cons_zero]; rfl)
          case hdg8 => rfl
          case hyg8 =>
            refine' Or.inl ⟨?hwg8, ?hxg8⟩
            case hwg8 => rfl
            case hxg8 => (intro w hSw; (try dsimp only at hSw); go_simp; (try with_reducible rfl))
          (try simp only [Act.put, List.setIfInBounds_toArray, List.set_cons_zero, List.set_cons_succ])
          refine' take_any 9 90 (v := _) ?hig9 ?hdg9 (by kernel_rfl) (by kernel_rfl) (by kernel_rfl) (fun _ _ _ h => h) ?hyg9 hHeld ?hrg9
          case hig9 => (simp only [List.getElem?_toArray, List.getElem?_cons_succ, List.getElem?_cons_zero]; rfl)
          case hdg9 => rfl
          case hyg9 =>
            refine' Or.inl ⟨?hwg9, ?hxg9⟩
            case hwg9 => rfl
            case hxg9 => (intro w hSw; (try dsimp only at hSw); go_simp; (try with_reducible rfl))
          (try simp only [Act.put, List.setIfInBounds_toArray, List.set_cons_zero, List.set_cons_succ])
          refine' take_any 10 91 (v := _) ?hig10 ?hdg10 (by kernel_rfl) (by kernel_rfl) (by kernel_rfl) (fun _ _ _ h => h) ?hyg10 hHeld ?hrg10
          case hig10 => (simp only [List.getElem?_toArray, List.getElem?_cons_succ, List.getElem?_cons_zero]; rfl)
          case hdg10 => rfl
          case hyg10 =>
            refine' Or.inl ⟨?hwg10, ?hxg10⟩
            case hwg10 => rfl
            case hxg10 => (intro w hSw; (try dsimp only at hSw); go_simp; (try with_reducible rfl))
          (try simp only [Act.put, List.setIfInBounds_toArray, List.set_cons_zero, List.set_cons_succ])
          refine' take_any 11 92 (v := _) ?hig11 ?hdg11 (by kernel_rfl) (by kernel_rfl) (by kernel_rfl) (fun _ _ _ h => h) ?hyg11 hHeld ?hrg11
          case hig11 => (simp only [List.getElem?_toArray, List.getElem?_cons_succ, List.getElem?_cons_zero]; rfl)
          case hdg11 => rfl
          case hyg11 =>
            refine' Or.inl ⟨?hwg11, ?hxg11⟩
            case hwg11 => rfl
            case hxg11 => (intro w hSw; (try dsimp only at hSw); go_simp; (try with_reducible rfl))
          (try simp only [Act.put, List.setIfInBounds_toArray, List.set_cons_zero, List.set_cons_succ])
          refine' take_any 13 94 (v := _) ?hig13 ?hdg13 (by kernel_rfl) (by kernel_rfl) (by kernel_rfl) (fun _ _ _ h => h) ?hyg13 hHeld ?hrg13
          case hig13 => (simp only [List.getElem?_toArray, List.getElem?_cons_succ, List.getElem?_cons_zero]; rfl)
          case hdg13 => rfl
          case hyg13 =>
            refine' Or.inl ⟨?hwg13, ?hxg13⟩
            case hwg13 => rfl
            case hxg13 => (intro w hSw; (try dsimp only at hSw); go_simp; (try with_reducible rfl))
          (try simp only [Act.put, List.setIfInBounds_toArray, List.set_cons_zero, List.set_cons_succ])
          refine' take_any 15 96 (v := _) ?hig15 ?hdg15 (by kernel_rfl) (by kernel_rfl) (by kernel_rfl) (fun _ _ _ h => h) ?hyg15 hHeld ?hrg15
          case hig15 => (simp only [List.getElem?_toArray, List.getElem?_cons_succ, List.getElem?_cons_zero]; rfl)
          case hdg15 => rfl
          case hyg15 =>
            refine' Or.inl ⟨?hwg15, ?hxg15⟩
            case hwg15 => rfl
            case hxg15 => (intro w hSw; (try dsimp only at hSw); go_simp; (try with_reducible rfl))
          (try simp only [Act.put, List.setIfInBounds_toArray, List.set_cons_zero, List.set_cons_succ])
          refine' take_call 12 ?hig12 (by kernel_rfl) ?hrg12
          case hig12 => (simp only [List.getElem?_toArray, List.getElem?_cons_succ, List.getElem?_cons_zero]; rfl)
          intro K hK
          go_simp
          go_at_call 29
          refine (nmul (K := 15) (L := 15) (HNq_7.out.below BC.out) (HNb_7.out.below BC.out) (by omega) (by omega)).mono ?_
          rintro e w101 ⟨⟨b101, s101, l101, c101, rfl, hn⟩, hb⟩
          have HB1 := Lib.hid hb
          have HN1 := Lib.hid hn
          replace BC := Lib.hid (BC.out.trans (hb.mono BC.out.size))
          clear hb hn
          go_wp2_with fail
          clear hHeld
          refine hK.out _ _ (by (try dsimp only); exact ⟨(HVa_7.out.below BC.out HVa_7.out.lt).c0, (HVa_7.out.below BC.out HVa_7.out.lt).c1, (HVb_7.out.below BC.out HVb_7.out.lt).c0, (HVb_7.out.below BC.out HVb_7.out.lt).c1, (HVz_7.out.below BC.out HVz_7.out.lt).c0, (HVz_7.out.below BC.out HVz_7.out.lt).c1, (HVq_7.out.below BC.out HVq_7.out.lt).c0, (HVq_7.out.below BC.out HVq_7.out.lt).c1, (HVr_7.out.below BC.out HVr_7.out.lt).c0, (HVr_7.out.below BC.out HVr_7.out.lt).c1, (HVs_7.out.below BC.out HVs_7.out.lt).c0, (HVs_7.out.below BC.out HVs_7.out.lt).c1, (HVm_7.out.below BC.out HVm_7.out.lt).c0, (HVm_7.out.below BC.out HVm_7.out.lt).c1⟩) (fun hHeld => ?_)
          clear hK K
          (try simp only [Act.put, List.setIfInBounds_toArray, List.set_cons_zero, List.set_cons_succ])
          refine' take_call 14 ?hig14 (by kernel_rfl) ?hrg14
          case hig14 => (simp only [List.getElem?_toArray, List.getElem?_cons_succ, List.getElem?_cons_zero]; rfl)
          intro K hK
          go_simp
          have _hb := HB1.out
          clear _hb
          go_at_call 25
          refine (nadd (K := 30) (L := 15) HN1.out (HNr_7.out.below BC.out) (by omega) (by omega)).mono ?_
          rintro e w102 ⟨⟨b102, s102, l102, c102, rfl, hn⟩, hb⟩
          have HB2 := Lib.hid hb
          have HN2 := Lib.hid hn
          replace BC := Lib.hid (BC.out.trans (hb.mono BC.out.size))
          clear hb hn
          go_wp2_with fail
          clear hHeld
          refine hK.out _ _ (by (try dsimp only); exact ⟨(HVa_7.out.below BC.out HVa_7.out.lt).c0, (HVa_7.out.below BC.out HVa_7.out.lt).c1, (HVb_7.out.below BC.out HVb_7.out.lt).c0, (HVb_7.out.below BC.out HVb_7.out.lt).c1, (HVz_7.out.below BC.out HVz_7.out.lt).c0, (HVz_7.out.below BC.out HVz_7.out.lt).c1, (HVq_7.out.below BC.out HVq_7.out.lt).c0, (HVq_7.out.below BC.out HVq_7.out.lt).c1, (HVr_7.out.below BC.out HVr_7.out.lt).c0, (HVr_7.out.below BC.out HVr_7.out.lt).c1, (HVs_7.out.below BC.out HVs_7.out.lt).c0, (HVs_7.out.below BC.out HVs_7.out.lt).c1, (HVm_7.out.below BC.out HVm_7.out.lt).c0, (HVm_7.out.below BC.out HVm_7.out.lt).c1⟩) (fun hHeld => ?_)
          clear hK K
          (try simp only [Act.put, List.setIfInBounds_toArray, List.set_cons_zero, List.set_cons_succ])
          refine' take_call 16 ?hig16 (by kernel_rfl) ?hrg16
          case hig16 => (simp only [List.getElem?_toArray, List.getElem?_cons_succ, List.getElem?_cons_zero]; rfl)
          intro K hK
          go_simp
          have _hb := HB2.out
          clear _hb
          go_at_call 31
          refine (ncmp_eq (K := 46) (L := 15) HN2.out (HNa_7.out.below BC.out) (by omega) (by omega) (HBACK.out)).mono ?_
          rintro e w103 ⟨rfl, hb⟩
          have HB3 := Lib.hid hb
          replace BC := Lib.hid (BC.out.trans (hb.mono BC.out.size))
          clear hb
          go_wp2_with fail
          clear hHeld
          refine hK.out _ _ (by (try dsimp only); exact ⟨(HVa_7.out.below BC.out HVa_7.out.lt).c0, (HVa_7.out.below BC.out HVa_7.out.lt).c1, (HVb_7.out.below BC.out HVb_7.out.lt).c0, (HVb_7.out.below BC.out HVb_7.out.lt).c1, (HVz_7.out.below BC.out HVz_7.out.lt).c0, (HVz_7.out.below BC.out HVz_7.out.lt).c1, (HVq_7.out.below BC.out HVq_7.out.lt).c0, (HVq_7.out.below BC.out HVq_7.out.lt).c1, (HVr_7.out.below BC.out HVr_7.out.lt).c0, (HVr_7.out.below BC.out HVr_7.out.lt).c1, (HVs_7.out.below BC.out HVs_7.out.lt).c0, (HVs_7.out.below BC.out HVs_7.out.lt).c1, (HVm_7.out.below BC.out HVm_7.out.lt).c0, (HVm_7.out.below BC.out HVm_7.out.lt).c1⟩) (fun hHeld => ?_)
          clear hK K
          (try simp only [Act.put, List.setIfInBounds_toArray, List.set_cons_zero, List.set_cons_succ])
          refine' take_any 17 98 (v := _) ?hig17 ?hdg17 (by kernel_rfl) (by kernel_rfl) (by kernel_rfl) (fun _ _ _ h => h) ?hyg17 hHeld ?hrg17
          case hig17 => (simp only [List.getElem?_toArray, List.getElem?_cons_succ, List.getElem?_cons_zero]; rfl)
          case hdg17 => rfl
          case hyg17 =>
            refine' Or.inl ⟨?hwg17, ?hxg17⟩
            case hwg17 => rfl
            case hxg17 => (intro w hSw; (try dsimp only at hSw); go_simp; (try with_reducible rfl))
          (try simp only [Act.put, List.setIfInBounds_toArray, List.set_cons_zero, List.set_cons_succ])
          refine' take_any 18 99 (v := _) ?hig18 ?hdg18 (by kernel_rfl) (by kernel_rfl) (by kernel_rfl) (fun _ _ _ h => h) ?hyg18 hHeld ?hrg18
          case hig18 => (simp only [List.getElem?_toArray, List.getElem?_cons_succ, List.getElem?_cons_zero]; rfl)
          case hdg18 => rfl
          case hyg18 =>
            refine' Or.inl ⟨?hwg18, ?hxg18⟩
            case hwg18 => rfl
            case hxg18 => (intro w hSw; (try dsimp only at hSw); go_simp; (try with_reducible rfl))
          (try simp only [Act.put, List.setIfInBounds_toArray, List.set_cons_zero, List.set_cons_succ])
          refine' take_any 19 100 (v := _) ?hig19 ?hdg19 (by kernel_rfl) (by kernel_rfl) (by kernel_rfl) (fun _ _ _ h => h) ?hyg19 hHeld ?hrg19
          case hig19 => (simp only [List.getElem?_toArray, List.getElem?_cons_succ, List.getElem?_cons_zero]; rfl)
          case hdg19 => rfl
          case hyg19 =>
            refine' Or.inl ⟨?hwg19, ?hxg19⟩
            case hwg19 => rfl
            case hxg19 => (intro w hSw; (try dsimp only at hSw); go_simp; (try with_reducible rfl))
          (try simp only [Act.put, List.setIfInBounds_toArray, List.set_cons_zero, List.set_cons_succ])
          refine' take_any 20 101 (v := _) ?hig20 ?hdg20 (by kernel_rfl) (by kernel_rfl) (by kernel_rfl) (fun _ _ _ h => h) ?hyg20 hHeld ?hrg20
          case hig20 => (simp only [List.getElem?_toArray, List.getElem?_cons_succ, List.getElem?_cons_zero]; rfl)
          case hdg20 => rfl
          case hyg20 =>
            refine' Or.inl ⟨?hwg20, ?hxg20⟩
            case hwg20 => rfl
            case hxg20 => (intro w hSw; (try dsimp only at hSw); go_simp; (try with_reducible rfl))
          (try simp only [Act.put, List.setIfInBounds_toArray, List.set_cons_zero, List.set_cons_succ])
          refine' take_any 21 102 (v := _) ?hig21 ?hdg21 (by kernel_rfl) (by kernel_rfl) (by kernel_rfl) (fun _ _ _ h => h) ?hyg21 hHeld ?hrg21
          case hig21 => (simp only [List.getElem?_toArray, List.getElem?_cons_succ, List.getElem?_cons_zero]; rfl)
          case hdg21 => rfl
          case hyg21 =>
            refine' Or.inl ⟨?hwg21, ?hxg21⟩
            case hwg21 => rfl
            case hxg21 => (intro w hSw; (try dsimp only at hSw); go_simp; (try with_reducible rfl))
          (try simp only [Act.put, List.setIfInBounds_toArray, List.set_cons_zero, List.set_cons_succ])
          refine' take_call 22 ?hig22 (by kernel_rfl) ?hrg22
          case hig22 => (simp only [List.getElem?_toArray, List.getElem?_cons_succ, List.getElem?_cons_zero]; rfl)
          intro K hK
          go_simp
          have _hb := HB3.out
          clear _hb
          go_at_call 31
          refine (ncmpV (K := 15) (L := 15) (z := (-1)) (HNs_7.out.below BC.out) (HNm_7.out.below BC.out) (by omega) (by omega) (by have h1 := HNEAR.out; have h2 := HY.out; have h3 := HR.out; exact cmpZ_neg (by omega))).mono ?_
          rintro e w104 ⟨rfl, hb⟩
          have HB4 := Lib.hid hb
          replace BC := Lib.hid (BC.out.trans (hb.mono BC.out.size))
          clear hb
          go_wp2_with fail
          clear hHeld
          refine hK.out _ _ (by (try dsimp only); exact ⟨(HVa_7.out.below BC.out HVa_7.out.lt).c0, (HVa_7.out.below BC.out HVa_7.out.lt).c1, (HVb_7.out.below BC.out HVb_7.out.lt).c0, (HVb_7.out.below BC.out HVb_7.out.lt).c1, (HVz_7.out.below BC.out HVz_7.out.lt).c0, (HVz_7.out.below BC.out HVz_7.out.lt).c1, (HVq_7.out.below BC.out HVq_7.out.lt).c0, (HVq_7.out.below BC.out HVq_7.out.lt).c1, (HVr_7.out.below BC.out HVr_7.out.lt).c0, (HVr_7.out.below BC.out HVr_7.out.lt).c1, (HVs_7.out.below BC.out HVs_7.out.lt).c0, (HVs_7.out.below BC.out HVs_7.out.lt).c1, (HVm_7.out.below BC.out HVm_7.out.lt).c0, (HVm_7.out.below BC.out HVm_7.out.lt).c1⟩) (fun hHeld => ?_)
          clear hK K
          (try simp only [Act.put, List.setIfInBounds_toArray, List.set_cons_zero, List.set_cons_succ])
          refine' take_any 23 104 (v := _) ?hig23 ?hdg23 (by kernel_rfl) (by kernel_rfl) (by kernel_rfl) (fun _ _ _ h => h) ?hyg23 hHeld ?hrg23
          case hig23 => (simp only [List.getElem?_toArray, List.getElem?_cons_succ, List.getElem?_cons_zero]; rfl)
          case hdg23 => rfl
          case hyg23 =>
            refine' Or.inl ⟨?hwg23, ?hxg23⟩
            case hwg23 => rfl
            case hxg23 => (intro w hSw; (try dsimp only at hSw); go_simp; (try with_reducible rfl))
          (try simp only [Act.put, List.setIfInBounds_toArray, List.set_cons_zero, List.set_cons_succ])
          refine' take_any 24 105 (v := _) ?hig24 ?hdg24 (by kernel_rfl) (by kernel_rfl) (by kernel_rfl) (fun _ _ _ h => h) ?hyg24 hHeld ?hrg24
          case hig24 => (simp only [List.getElem?_toArray, List.getElem?_cons_succ, List.getElem?_cons_zero]; rfl)
          case hdg24 => rfl
          case hyg24 =>
            refine' Or.inl ⟨?hwg24, ?hxg24⟩
            case hwg24 => rfl
            case hxg24 => (intro w hSw; (try dsimp only at hSw); go_simp; (try with_reducible rfl))
          (try simp only [Act.put, List.setIfInBounds_toArray, List.set_cons_zero, List.set_cons_succ])
          refine' take_any 25 106 (v := _) ?hig25 ?hdg25 (by kernel_rfl) (by kernel_rfl) (by kernel_rfl) (fun _ _ _ h => h) ?hyg25 hHeld ?hrg25
          case hig25 => (simp only [List.getElem?_toArray, List.getElem?_cons_succ, List.getElem?_cons_zero]; rfl)
          case hdg25 => rfl
          case hyg25 =>
            refine' Or.inl ⟨?hwg25, ?hxg25⟩
            case hwg25 => rfl
            case hxg25 => (intro w hSw; (try dsimp only at hSw); go_simp; (try with_reducible rfl))
          (try simp only [Act.put, List.setIfInBounds_toArray, List.set_cons_zero, List.set_cons_succ])
          refine' take_any 26 107 (v := _) ?hig26 ?hdg26 (by kernel_rfl) (by kernel_rfl) (by kernel_rfl) (fun _ _ _ h => h) ?hyg26 hHeld ?hrg26
          case hig26 => (simp only [List.getElem?_toArray, List.getElem?_cons_succ, List.getElem?_cons_zero]; rfl)
          case hdg26 => rfl
          case hyg26 =>
            refine' Or.inl ⟨?hwg26, ?hxg26⟩
            case hwg26 => rfl
            case hxg26 => (intro w hSw; (try dsimp only at hSw); go_simp; (try with_reducible rfl))
          (try simp only [Act.put, List.setIfInBounds_toArray, List.set_cons_zero, List.set_cons_succ])
          refine' take_any 27 108 (v := _) ?hig27 ?hdg27 (by kernel_rfl) (by kernel_rfl) (by kernel_rfl) (fun _ _ _ h => h) ?hyg27 hHeld ?hrg27
          case hig27 => (simp only [List.getElem?_toArray, List.getElem?_cons_succ, List.getElem?_cons_zero]; rfl)
          case hdg27 => rfl
          case hyg27 =>
            refine' Or.inl ⟨?hwg27, ?hxg27⟩
            case hwg27 => rfl
            case hxg27 => (intro w hSw; (try dsimp only at hSw); go_simp; (try with_reducible rfl))
          (try simp only [Act.put, List.setIfInBounds_toArray, List.set_cons_zero, List.set_cons_succ])
          refine' take_call 28 ?hig28 (by kernel_rfl) ?hrg28
          case hig28 => (simp only [List.getElem?_toArray, List.getElem?_cons_succ, List.getElem?_cons_zero]; rfl)
          intro K hK
          go_simp
          have _hb := HB4.out
          clear _hb
          go_at_call 31
          refine (ncmpV (K := 15) (L := 0) (z := 1) (HNr_7.out.below BC.out) (HNz_7.out.below BC.out) (by omega) (by omega) (cmpZ_pos HR.out)).mono ?_
          rintro e w105 ⟨rfl, hb⟩
          have HB5 := Lib.hid hb
          replace BC := Lib.hid (BC.out.trans (hb.mono BC.out.size))
          clear hb
          go_wp2_with fail
          clear hHeld
          refine hK.out _ _ (by (try dsimp only); exact ⟨(HVa_7.out.below BC.out HVa_7.out.lt).c0, (HVa_7.out.below BC.out HVa_7.out.lt).c1, (HVb_7.out.below BC.out HVb_7.out.lt).c0, (HVb_7.out.below BC.out HVb_7.out.lt).c1, (HVz_7.out.below BC.out HVz_7.out.lt).c0, (HVz_7.out.below BC.out HVz_7.out.lt).c1, (HVq_7.out.below BC.out HVq_7.out.lt).c0, (HVq_7.out.below BC.out HVq_7.out.lt).c1, (HVr_7.out.below BC.out HVr_7.out.lt).c0, (HVr_7.out.below BC.out HVr_7.out.lt).c1, (HVs_7.out.below BC.out HVs_7.out.lt).c0, (HVs_7.out.below BC.out HVs_7.out.lt).c1, (HVm_7.out.below BC.out HVm_7.out.lt).c0, (HVm_7.out.below BC.out HVm_7.out.lt).c1⟩) (fun hHeld => ?_)
          clear hK K
          (try simp only [Act.put, List.setIfInBounds_toArray, List.set_cons_zero, List.set_cons_succ])
          refine' take_any 29 110 (v := _) ?hig29 ?hdg29 (by kernel_rfl) (by kernel_rfl) (by kernel_rfl) (fun _ _ _ h => h) ?hyg29 hHeld ?hrg29
          case hig29 => (simp only [List.getElem?_toArray, List.getElem?_cons_succ, List.getElem?_cons_zero]; rfl)
          case hdg29 => rfl
          case hyg29 =>
            refine' Or.inl ⟨?hwg29, ?hxg29⟩
            case hwg29 => rfl
            case hxg29 => (intro w hSw; (try dsimp only at hSw); go_simp; (try with_reducible rfl))
          (try simp only [Act.put, List.setIfInBounds_toArray, List.set_cons_zero, List.set_cons_succ])
          refine' take_any 30 111 (v := _) ?hig30 ?hdg30 (by kernel_rfl) (by kernel_rfl) (by kernel_rfl) (fun _ _ _ h => h) ?hyg30 hHeld ?hrg30
          case hig30 => (simp only [List.getElem?_toArray, List.getElem?_cons_succ, List.getElem?_cons_zero]; rfl)
          case hdg30 => rfl
          case hyg30 =>
            refine' Or.inl ⟨?hwg30, ?hxg30⟩
            case hwg30 => rfl
            case hxg30 => (intro w hSw; (try dsimp only at hSw); go_simp; (try with_reducible rfl))
          (try simp only [Act.put, List.setIfInBounds_toArray, List.set_cons_zero, List.set_cons_succ])
          refine' take_any 31 112 (v := _) ?hig31 ?hdg31 (by kernel_rfl) (by kernel_rfl) (by kernel_rfl) (fun _ _ _ h => h) ?hyg31 hHeld ?hrg31
          case hig31 => (simp only [List.getElem?_toArray, List.getElem?_cons_succ, List.getElem?_cons_zero]; rfl)
          case hdg31 => rfl
          case hyg31 =>
            refine' Or.inl ⟨?hwg31, ?hxg31⟩
            case hwg31 => rfl
            case hxg31 => (intro w hSw; (try dsimp only at hSw); go_simp; (try with_reducible rfl))
          (try simp only [Act.put, List.setIfInBounds_toArray, List.set_cons_zero, List.set_cons_succ])
          refine' take_any 32 113 (v := _) ?hig32 ?hdg32 (by kernel_rfl) (by kernel_rfl) (by kernel_rfl) (fun _ _ _ h => h) ?hyg32 hHeld ?hrg32
          case hig32 => (simp only [List.getElem?_toArray, List.getElem?_cons_succ, List.getElem?_cons_zero]; rfl)
          case hdg32 => rfl
          case hyg32 =>
            refine' Or.inl ⟨?hwg32, ?hxg32⟩
            case hwg32 => rfl
            case hxg32 => (intro w hSw; (try dsimp only at hSw); go_simp; (try with_reducible rfl))
          (try simp only [Act.put, List.setIfInBounds_toArray, List.set_cons_zero, List.set_cons_succ])
          refine' take_any 34 115 (v := _) ?hig34 ?hdg34 (by kernel_rfl) (by kernel_rfl) (by kernel_rfl) (fun _ _ _ h => h) ?hyg34 hHeld ?hrg34
          case hig34 => (simp only [List.getElem?_toArray, List.getElem?_cons_succ, List.getElem?_cons_zero]; rfl)
          case hdg34 => rfl
          case hyg34 =>
            refine' Or.inl ⟨?hwg34, ?hxg34⟩
            case hwg34 => rfl
            case hxg34 => (intro w hSw; (try dsimp only at hSw); go_simp; (try with_reducible rfl))
          (try simp only [Act.put, List.setIfInBounds_toArray, List.set_cons_zero, List.set_cons_succ])
          refine' take_any 35 116 (v := _) ?hig35 ?hdg35 (by kernel_rfl) (by kernel_rfl) (by kernel_rfl) (fun _ _ _ h => h) ?hyg35 hHeld ?hrg35
          case hig35 => (simp only [List.getElem?_toArray, List.getElem?_cons_succ, List.getElem?_cons_zero]; rfl)
          case hdg35 => rfl
          case hyg35 =>
            refine' Or.inl ⟨?hwg35, ?hxg35⟩
            case hwg35 => rfl
            case hxg35 => (intro w hSw; (try dsimp only at hSw); go_simp; (try with_reducible rfl))
          (try simp only [Act.put, List.setIfInBounds_toArray, List.set_cons_zero, List.set_cons_succ])
          refine' take_call 33 ?hig33 (by kernel_rfl) ?hrg33
          case hig33 => (simp only [List.getElem?_toArray, List.getElem?_cons_succ, List.getElem?_cons_zero]; rfl)
          intro K hK
          go_simp
          have _hb := HB5.out
          clear _hb
          go_at_call 31
          refine (ncmpV (K := 15) (L := 0) (z := 1) (HNr_7.out.below BC.out) (HNz_7.out.below BC.out) (by omega) (by omega) (cmpZ_pos HR.out)).mono ?_
          rintro e w106 ⟨rfl, hb⟩
          have HB6 := Lib.hid hb
          replace BC := Lib.hid (BC.out.trans (hb.mono BC.out.size))
          clear hb
          go_wp2_with fail
          clear hHeld
          refine hK.out _ _ (by (try dsimp only); exact ⟨(HVa_7.out.below BC.out HVa_7.out.lt).c0, (HVa_7.out.below BC.out HVa_7.out.lt).c1, (HVb_7.out.below BC.out HVb_7.out.lt).c0, (HVb_7.out.below BC.out HVb_7.out.lt).c1, (HVz_7.out.below BC.out HVz_7.out.lt).c0, (HVz_7.out.below BC.out HVz_7.out.lt).c1, (HVq_7.out.below BC.out HVq_7.out.lt).c0, (HVq_7.out.below BC.out HVq_7.out.lt).c1, (HVr_7.out.below BC.out HVr_7.out.lt).c0, (HVr_7.out.below BC.out HVr_7.out.lt).c1, (HVs_7.out.below BC.out HVs_7.out.lt).c0, (HVs_7.out.below BC.out HVs_7.out.lt).c1, (HVm_7.out.below BC.out HVm_7.out.lt).c0, (HVm_7.out.below BC.out HVm_7.out.lt).c1⟩) (fun hHeld => ?_)
          clear hK K
          (try simp only [Act.put, List.setIfInBounds_toArray, List.set_cons_zero, List.set_cons_succ])
          refine' take_call 36 ?hig36 (by kernel_rfl) ?hrg36
          case hig36 => (simp only [List.getElem?_toArray, List.getElem?_cons_succ, List.getElem?_cons_zero]; rfl)
          intro K hK
          go_simp
          have _hb := HB6.out
          clear _hb
          go_at_call 31
          refine (ncmpV (K := 15) (L := 0) (z := 1) (HNa_7.out.below BC.out) (HNz_7.out.below BC.out) (by omega) (by omega) (cmpZ_pos (HPOS.out HR.out))).mono ?_
          rintro e w107 ⟨rfl, hb⟩
          have HB7 := Lib.hid hb
          replace BC := Lib.hid (BC.out.trans (hb.mono BC.out.size))
          clear hb
          go_wp2_with fail
          clear hHeld
          refine hK.out _ _ (by (try dsimp only); exact ⟨(HVa_7.out.below BC.out HVa_7.out.lt).c0, (HVa_7.out.below BC.out HVa_7.out.lt).c1, (HVb_7.out.below BC.out HVb_7.out.lt).c0, (HVb_7.out.below BC.out HVb_7.out.lt).c1, (HVz_7.out.below BC.out HVz_7.out.lt).c0, (HVz_7.out.below BC.out HVz_7.out.lt).c1, (HVq_7.out.below BC.out HVq_7.out.lt).c0, (HVq_7.out.below BC.out HVq_7.out.lt).c1, (HVr_7.out.below BC.out HVr_7.out.lt).c0, (HVr_7.out.below BC.out HVr_7.out.lt).c1, (HVs_7.out.below BC.out HVs_7.out.lt).c0, (HVs_7.out.below BC.out HVs_7.out.lt).c1, (HVm_7.out.below BC.out HVm_7.out.lt).c0, (HVm_7.out.below BC.out HVm_7.out.lt).c1⟩) (fun hHeld => ?_)
          clear hK K
          (try simp only [Act.put, List.setIfInBounds_toArray, List.set_cons_zero, List.set_cons_succ])
          refine' take_any 37 118 (v := _) ?hig37 ?hdg37 (by kernel_rfl) (by kernel_rfl) (by kernel_rfl) (fun _ _ _ h => h) ?hyg37 hHeld ?hrg37
          case hig37 => (simp only [List.getElem?_toArray, List.getElem?_cons_succ, List.getElem?_cons_zero]; rfl)
          case hdg37 => rfl
          case hyg37 =>
            refine' Or.inl ⟨?hwg37, ?hxg37⟩
            case hwg37 => rfl
            case hxg37 => (intro w hSw; (try dsimp only at hSw); go_simp; (try with_reducible rfl))
          (try simp only [Act.put, List.setIfInBounds_toArray, List.set_cons_zero, List.set_cons_succ])
          refine' take_any 38 119 (v := _) ?hig38 ?hdg38 (by kernel_rfl) (by kernel_rfl) (by kernel_rfl) (fun _ _ _ h => h) ?hyg38 hHeld ?hrg38
          case hig38 => (simp only [List.getElem?_toArray, List.getElem?_cons_succ, List.getElem?_cons_zero]; rfl)
          case hdg38 => rfl
          case hyg38 =>
            refine' Or.inl ⟨?hwg38, ?hxg38⟩
            case hwg38 => rfl
            case hxg38 => (intro w hSw; (try dsimp only at hSw); go_simp; (try with_reducible rfl))
          (try simp only [Act.put, List.setIfInBounds_toArray, List.set_cons_zero, List.set_cons_succ])
          refine' take_any 39 120 (v := _) ?hig39 ?hdg39 (by kernel_rfl) (by kernel_rfl) (by kernel_rfl) (fun _ _ _ h => h) ?hyg39 hHeld ?hrg39
          case hig39 => (simp only [List.getElem?_toArray, List.getElem?_cons_succ, List.getElem?_cons_zero]; rfl)
          case hdg39 => rfl
          case hyg39 =>
            refine' Or.inl ⟨?hwg39, ?hxg39⟩
            case hwg39 => rfl
            case hxg39 => (intro w hSw; (try dsimp only at hSw); go_simp; (try with_reducible rfl))
          (try simp only [Act.put, List.setIfInBounds_toArray, List.set_cons_zero, List.set_cons_succ])
          refine' take_any 40 4 (v := _) ?hig40 ?hdg40 (by kernel_rfl) (by kernel_rfl) (by kernel_rfl) (fun _ _ _ h => h) ?hyg40 hHeld ?hrg40
          case hig40 => (simp only [List.getElem?_toArray, List.getElem?_cons_succ, List.getElem?_cons_zero]; rfl)
          case hdg40 => rfl
          case hyg40 =>
            refine' Or.inl ⟨?hwg40, ?hxg40⟩
            case hwg40 => rfl
            case hxg40 => (intro w hSw; (try dsimp only at hSw); go_simp; (try with_reducible rfl))
          (try simp only [Act.put, List.setIfInBounds_toArray, List.set_cons_zero, List.set_cons_succ])
          refine wpAnyH_done (by kernel_rfl) ?_ _
          refine NoPanic.normal ?_
          all_goals
            go_wp2
            go_ret
            exact ⟨rfl, HBW_7.out.trans (BC.out.mono HBW_7.out.size)⟩
end Go.Proofs.YtibhfcnjmilepaaDoor
