import Derived.Test.YtibhfcnjmilepaaDoorNumAT
import Derived.Test.YtibhfcnjmilepaaDoorNumPl
import Derived.Deep.RegionHeld3
namespace Go.Proofs.YtibhfcnjmilepaaDoor
open Go.RowKit

set_option maxRecDepth 100000 in
set_option maxHeartbeats 8000000 in
theorem back_any (s t : ByteArray) (w : World) (ht : TabW w) :
    Calls Tryd.prog 7 #[.string s, .string t] w fun e w' => e = .returned (.bool true) ∧ Below w.heap.size w w' := by
  have HA := Lib.hid (awake_any w ht)
  have HT := Lib.hid ht
  clear ht
  go_enter Tryd.func7, Tryd.ntmps7
  go_wp2_with fail
  refine HA.out.mono ?_
  rintro e w1 ⟨rfl, hb1⟩
  have H1 := Lib.hid (ptwo_all s t w1)
  have HB1 := Lib.hid hb1
  clear hb1
  go_wp2_with fail
  refine H1.out.mono ?_
  rintro e w2 ⟨⟨b1, s1, l1, c1, b2, s2, l2, c2, ok, rfl, hk⟩, hb2⟩
  cases ok with
  | false =>
    have HB2 := Lib.hid (show Below w.heap.size w _ from (HB1.out.trans (hb2.mono HB1.out.size)))
    clear hb2 hk
    go_wp2
    go_ret
    exact ⟨rfl, (HB2.out.alloc HB2.out.size _).alloc (Nat.le_trans HB2.out.size (by simp)) _⟩
  | true =>
  obtain ⟨x, y, hx, hy, _, _⟩ := hk rfl
  have hx1 := (hx.alloc (.cells #[.bool b1, .slice s1 l1 c1] 25)).alloc (.cells #[.bool b2, .slice s2 l2 c2] 25)
  have hy1 := (hy.alloc (.cells #[.bool b1, .slice s1 l1 c1] 25)).alloc (.cells #[.bool b2, .slice s2 l2 c2] 25)
  obtain ⟨ga, hga⟩ : ∃ ga, ga = w2.heap.size := ⟨_, rfl⟩
  obtain ⟨W, hW⟩ : ∃ W, W = (w2.alloc (.cells #[.bool b1, .slice s1 l1 c1] 25)).alloc (.cells #[.bool b2, .slice s2 l2 c2] 25) := ⟨_, rfl⟩
  have hBW2 : Below w2.heap.size w2 W := by rw [hW]; exact ((Below.refl _ _).alloc (Nat.le_refl _) _).alloc (by simp) _
  have va : VarAt W ga b1 s1 l1 c1 := by rw [hW, hga]; exact VarAt.made1 _ _ _ _ _ _
  have vb : VarAt W (ga + 1) b2 s2 l2 c2 := by rw [hW, hga]; exact VarAt.made2 _ _ _ _ _ _
  rw [← hW] at hx1 hy1
  have HBW := Lib.hid ((HB1.out.trans (hb2.mono HB1.out.size)).trans (hBW2.mono (HB1.out.trans (hb2.mono HB1.out.size)).size))
  have HVA := Lib.hid va
  have HVB := Lib.hid vb
  have HNA := Lib.hid hx1
  have HNB := Lib.hid hy1
  have HW := Lib.hid hW
  have HG := Lib.hid hga
  obtain ⟨SA, hSA⟩ : ∃ S, (⟨(textZ x).toArray⟩ : ByteArray) = S := ⟨_, rfl⟩
  obtain ⟨SB, hSB⟩ : ∃ S, (⟨(textZ y).toArray⟩ : ByteArray) = S := ⟨_, rfl⟩
  obtain ⟨mb, hmb⟩ : ∃ mb, decide (x < 0) = mb := ⟨_, rfl⟩
  have HSA := Lib.hid hSA
  have HSB := Lib.hid hSB
  have HMB := Lib.hid hmb
  clear hx hy hx1 hy1 hb2 hBW2 va vb hW hga hk H1 HA HB1 hSA hSB hmb
  rcases Int.lt_trichotomy x y with hr | hr | hr
  · have HR := Lib.hid hr
    have hne := text_ne HSA.out HSB.out (show x ≠ y by omega)
    clear hr
    cases hs : smallB x with
    | true =>
      have HS := Lib.hid hs
      clear hs
      as_aux_lemma =>
        go_wp2_with fail
        rw [← HG.out, ← HW.out]
        refine (ntextS (K := 15) SA HSA.out HNA.out (by omega) (HT.out.below HBW.out)).mono ?_
        rintro e w201 ⟨rfl, hb⟩
        have HBw201 := Lib.hid hb
        clear hb
        have HVa_1 := Lib.hid (HVA.out.below HBw201.out HVA.out.lt)
        have HNa_1 := Lib.hid (HNA.out.below HBw201.out)
        have HVb_1 := Lib.hid (HVB.out.below HBw201.out HVB.out.lt)
        have HNb_1 := Lib.hid (HNB.out.below HBw201.out)
        have HBW_1 := Lib.hid (HBW.out.trans (HBw201.out.mono HBW.out.size))
        clear HVA HNA HVB HNB HBW
        clear HBw201
        have qa0 := HVa_1.out.c0
        have qa1 := HVa_1.out.c1
        have ta := HVa_1.out.lt
        have qb0 := HVb_1.out.c0
        have qb1 := HVb_1.out.c1
        have tb := HVb_1.out.lt
        go_wp2_with fail
        refine (nreadT (K := 15) x SA HSA.out HNa_1.out.2 (by omega) _).mono ?_
        rintro e w202 ⟨⟨bv2, sv2, lv2, cv2, rfl, hn⟩, hb⟩
        clear qa0 qa1 ta qb0 qb1 tb
        have qa0 := (HVa_1.out.below hb HVa_1.out.lt).c0
        have qa1 := (HVa_1.out.below hb HVa_1.out.lt).c1
        have ta := (HVa_1.out.below hb HVa_1.out.lt).lt
        have qb0 := (HVb_1.out.below hb HVb_1.out.lt).c0
        have qb1 := (HVb_1.out.below hb HVb_1.out.lt).c1
        have tb := (HVb_1.out.below hb HVb_1.out.lt).lt
        obtain ⟨W202, hW202⟩ : ∃ W, W = w202.alloc (.cells #[.bool bv2, .slice sv2 lv2 cv2] 25) := ⟨_, rfl⟩
        obtain ⟨gc, hgc⟩ : ∃ g, g = w202.heap.size := ⟨_, rfl⟩
        have HBW202 := Lib.hid (show Below w201.heap.size w201 W202 by rw [hW202]; exact hb.alloc hb.size _)
        have HVn := Lib.hid (show VarAt W202 gc bv2 sv2 lv2 cv2 by rw [hW202, hgc]; exact VarAt.made _ _ _ _ _)
        have HNn := Lib.hid (show NumIs 16 W202 _ x by rw [hW202]; exact hn.alloc _)
        have HW202 := Lib.hid hW202
        have HGc := Lib.hid hgc
        clear hn hb hW202 hgc
        have HVa_2 := Lib.hid (HVa_1.out.below HBW202.out HVa_1.out.lt)
        have HNa_2 := Lib.hid (HNa_1.out.below HBW202.out)
        have HVb_2 := Lib.hid (HVb_1.out.below HBW202.out HVb_1.out.lt)
        have HNb_2 := Lib.hid (HNb_1.out.below HBW202.out)
        have HBW_2 := Lib.hid (HBW_1.out.trans (HBW202.out.mono HBW_1.out.size))
        clear HVa_1 HNa_1 HVb_1 HNb_1 HBW_1
        have HVc_2 := HVn
        have HNc_2 := HNn
        clear HVn HNn HBW202
        go_wp2_with fail
        rw [← HGc.out, ← HW202.out]
        refine (nparts mb HMB.out HNa_2.out (by omega)).mono ?_
        rintro e wp ⟨⟨sp, lp, cp, rfl, hu⟩, hb⟩
        have HU := Lib.hid hu
        have HBp := Lib.hid hb
        clear hb hu
        have HVa_3 := Lib.hid (HVa_2.out.below HBp.out HVa_2.out.lt)
        have HNa_3 := Lib.hid (HNa_2.out.below HBp.out)
        have HVb_3 := Lib.hid (HVb_2.out.below HBp.out HVb_2.out.lt)
        have HNb_3 := Lib.hid (HNb_2.out.below HBp.out)
        have HVc_3 := Lib.hid (HVc_2.out.below HBp.out HVc_2.out.lt)
        have HNc_3 := Lib.hid (HNc_2.out.below HBp.out)
        have HBW_3 := Lib.hid (HBW_2.out.trans (HBp.out.mono HBW_2.out.size))
        clear HVa_2 HNa_2 HVb_2 HNb_2 HVc_2 HNc_2 HBW_2
        clear HBp
        clear qa0 qa1 ta qb0 qb1 tb
        have qa0 := HVa_3.out.c0
        have qa1 := HVa_3.out.c1
        have ta := HVa_3.out.lt
        have qb0 := HVb_3.out.c0
        have qb1 := HVb_3.out.c1
        have tb := HVb_3.out.lt
        go_wp2_with fail
        refine (njoin (K := 15) mb HMB.out HNa_3.out.2 (by omega) HU.out).mono ?_
        rintro e w204 ⟨⟨bv4, sv4, lv4, cv4, rfl, hn⟩, hb⟩
        clear qa0 qa1 ta qb0 qb1 tb
        have qa0 := (HVa_3.out.below hb HVa_3.out.lt).c0
        have qa1 := (HVa_3.out.below hb HVa_3.out.lt).c1
        have ta := (HVa_3.out.below hb HVa_3.out.lt).lt
        have qb0 := (HVb_3.out.below hb HVb_3.out.lt).c0
        have qb1 := (HVb_3.out.below hb HVb_3.out.lt).c1
        have tb := (HVb_3.out.below hb HVb_3.out.lt).lt
        obtain ⟨W204, hW204⟩ : ∃ W, W = w204.alloc (.cells #[.bool bv4, .slice sv4 lv4 cv4] 25) := ⟨_, rfl⟩
        obtain ⟨gd, hgd⟩ : ∃ g, g = w204.heap.size := ⟨_, rfl⟩
        have HBW204 := Lib.hid (show Below wp.heap.size wp W204 by rw [hW204]; exact hb.alloc hb.size _)
        have HVn := Lib.hid (show VarAt W204 gd bv4 sv4 lv4 cv4 by rw [hW204, hgd]; exact VarAt.made _ _ _ _ _)
        have HNn := Lib.hid (show NumIs 15 W204 _ x by rw [hW204]; exact hn.alloc _)
        have HW204 := Lib.hid hW204
        have HGd := Lib.hid hgd
        clear hn hb hW204 hgd
        have HVa_4 := Lib.hid (HVa_3.out.below HBW204.out HVa_3.out.lt)
        have HNa_4 := Lib.hid (HNa_3.out.below HBW204.out)
        have HVb_4 := Lib.hid (HVb_3.out.below HBW204.out HVb_3.out.lt)
        have HNb_4 := Lib.hid (HNb_3.out.below HBW204.out)
        have HVc_4 := Lib.hid (HVc_3.out.below HBW204.out HVc_3.out.lt)
        have HNc_4 := Lib.hid (HNc_3.out.below HBW204.out)
        have HBW_4 := Lib.hid (HBW_3.out.trans (HBW204.out.mono HBW_3.out.size))
        clear HVa_3 HNa_3 HVb_3 HNb_3 HVc_3 HNc_3 HBW_3
        have HVd_4 := HVn
        have HNd_4 := HNn
        clear HVn HNn HBW204
        clear HU
        go_wp2_with fail
        rw [← HGd.out, ← HW204.out]
        refine (nsmallY HNa_4.out (by omega) HS.out).mono ?_
        rintro e w205 ⟨rfl, hb⟩
        have HBw205 := Lib.hid hb
        clear hb
        have HVa_5 := Lib.hid (HVa_4.out.below HBw205.out HVa_4.out.lt)
        have HNa_5 := Lib.hid (HNa_4.out.below HBw205.out)
        have HVb_5 := Lib.hid (HVb_4.out.below HBw205.out HVb_4.out.lt)
        have HNb_5 := Lib.hid (HNb_4.out.below HBw205.out)
        have HVc_5 := Lib.hid (HVc_4.out.below HBw205.out HVc_4.out.lt)
        have HNc_5 := Lib.hid (HNc_4.out.below HBw205.out)
        have HVd_5 := Lib.hid (HVd_4.out.below HBw205.out HVd_4.out.lt)
        have HNd_5 := Lib.hid (HNd_4.out.below HBw205.out)
        have HBW_5 := Lib.hid (HBW_4.out.trans (HBw205.out.mono HBW_4.out.size))
        clear HVa_4 HNa_4 HVb_4 HNb_4 HVc_4 HNc_4 HVd_4 HNd_4 HBW_4
        clear HBw205
        clear qa0 qa1 ta qb0 qb1 tb
        go_wp2_with fail
        go_big_unhide
        have HTB := Lib.hid (HT.out.below HBW_5.out)
        (try dsimp only [List.append])
        have BC := Lib.hid (show Below w205.heap.size w205 w205.drew from (Below.refl _ _).drew)
        refine wp_region_noPanic ?_
        refine wp_region_held_drew (S := fun w' => w'.cell? ⟨ga, 0, none⟩ = some (.bool b1) ∧ w'.cell? ⟨ga, 1, none⟩ = some (.slice s1 l1 c1) ∧ w'.cell? ⟨ga + 1, 0, none⟩ = some (.bool b2) ∧ w'.cell? ⟨ga + 1, 1, none⟩ = some (.slice s2 l2 c2) ∧ w'.cell? ⟨gc, 0, none⟩ = some (.bool bv2) ∧ w'.cell? ⟨gc, 1, none⟩ = some (.slice sv2 lv2 cv2) ∧ w'.cell? ⟨gd, 0, none⟩ = some (.bool bv4) ∧ w'.cell? ⟨gd, 1, none⟩ = some (.slice sv4 lv4 cv4)) (by kernel_rfl) (by (try dsimp only); exact ⟨(HVa_5.out.below BC.out HVa_5.out.lt).c0, (HVa_5.out.below BC.out HVa_5.out.lt).c1, (HVb_5.out.below BC.out HVb_5.out.lt).c0, (HVb_5.out.below BC.out HVb_5.out.lt).c1, (HVc_5.out.below BC.out HVc_5.out.lt).c0, (HVc_5.out.below BC.out HVc_5.out.lt).c1, (HVd_5.out.below BC.out HVd_5.out.lt).c0, (HVd_5.out.below BC.out HVd_5.out.lt).c1⟩) (fun hHeld => ?_)
        refine' take_any 0 50 (v := _) ?hib0 ?hdb0 (by kernel_rfl) (by kernel_rfl) (by kernel_rfl) (fun _ _ _ h => h) ?hyb0 hHeld ?hrb0
        case hib0 => (simp only [List.getElem?_toArray, List.getElem?_cons_zero]; rfl)
        case hdb0 => rfl
        case hyb0 =>
          refine' Or.inl ⟨?hwb0, ?hxb0⟩
          case hwb0 => rfl
          case hxb0 => (intro w hSw; (try dsimp only at hSw); go_simp; (try with_reducible rfl))
        (try simp only [Act.put, List.setIfInBounds_toArray, List.set_cons_zero, List.set_cons_succ])
        refine' take_any 1 51 (v := _) ?hib1 ?hdb1 (by kernel_rfl) (by kernel_rfl) (by kernel_rfl) (fun _ _ _ h => h) ?hyb1 hHeld ?hrb1
        case hib1 => (simp only [List.getElem?_toArray, List.getElem?_cons_succ, List.getElem?_cons_zero]; rfl)
        case hdb1 => rfl
        case hyb1 =>
          refine' Or.inl ⟨?hwb1, ?hxb1⟩
          case hwb1 => rfl
          case hxb1 => (intro w hSw; (try dsimp only at hSw); go_simp; (try with_reducible rfl))
        (try simp only [Act.put, List.setIfInBounds_toArray, List.set_cons_zero, List.set_cons_succ])
        refine' take_any 2 52 (v := _) ?hib2 ?hdb2 (by kernel_rfl) (by kernel_rfl) (by kernel_rfl) (fun _ _ _ h => h) ?hyb2 hHeld ?hrb2
        case hib2 => (simp only [List.getElem?_toArray, List.getElem?_cons_succ, List.getElem?_cons_zero]; rfl)
        case hdb2 => rfl
        case hyb2 =>
          refine' Or.inl ⟨?hwb2, ?hxb2⟩
          case hwb2 => rfl
          case hxb2 => (intro w hSw; (try dsimp only at hSw); go_simp; (try with_reducible rfl))
        (try simp only [Act.put, List.setIfInBounds_toArray, List.set_cons_zero, List.set_cons_succ])
        refine' take_any 3 53 (v := _) ?hib3 ?hdb3 (by kernel_rfl) (by kernel_rfl) (by kernel_rfl) (fun _ _ _ h => h) ?hyb3 hHeld ?hrb3
        case hib3 => (simp only [List.getElem?_toArray, List.getElem?_cons_succ, List.getElem?_cons_zero]; rfl)
        case hdb3 => rfl
        case hyb3 =>
          refine' Or.inl ⟨?hwb3, ?hxb3⟩
          case hwb3 => rfl
          case hxb3 => (intro w hSw; (try dsimp only at hSw); go_simp; (try with_reducible rfl))
        (try simp only [Act.put, List.setIfInBounds_toArray, List.set_cons_zero, List.set_cons_succ])
        refine' take_any 4 54 (v := _) ?hib4 ?hdb4 (by kernel_rfl) (by kernel_rfl) (by kernel_rfl) (fun _ _ _ h => h) ?hyb4 hHeld ?hrb4
        case hib4 => (simp only [List.getElem?_toArray, List.getElem?_cons_succ, List.getElem?_cons_zero]; rfl)
        case hdb4 => rfl
        case hyb4 =>
          refine' Or.inl ⟨?hwb4, ?hxb4⟩
          case hwb4 => rfl
          case hxb4 => (intro w hSw; (try dsimp only at hSw); go_simp; (try with_reducible rfl))
        (try simp only [Act.put, List.setIfInBounds_toArray, List.set_cons_zero, List.set_cons_succ])
        refine' take_any 5 55 (v := _) ?hib5 ?hdb5 (by kernel_rfl) (by kernel_rfl) (by kernel_rfl) (fun _ _ _ h => h) ?hyb5 hHeld ?hrb5
        case hib5 => (simp only [List.getElem?_toArray, List.getElem?_cons_succ, List.getElem?_cons_zero]; rfl)
        case hdb5 => rfl
        case hyb5 =>
          refine' Or.inl ⟨?hwb5, ?hxb5⟩
          case hwb5 => rfl
          case hxb5 => (intro w hSw; (try dsimp only at hSw); go_simp; (try with_reducible rfl))
        (try simp only [Act.put, List.setIfInBounds_toArray, List.set_cons_zero, List.set_cons_succ])
        refine' take_any 6 56 (v := _) ?hib6 ?hdb6 (by kernel_rfl) (by kernel_rfl) (by kernel_rfl) (fun _ _ _ h => h) ?hyb6 hHeld ?hrb6
        case hib6 => (simp only [List.getElem?_toArray, List.getElem?_cons_succ, List.getElem?_cons_zero]; rfl)
        case hdb6 => rfl
        case hyb6 =>
          refine' Or.inl ⟨?hwb6, ?hxb6⟩
          case hwb6 => rfl
          case hxb6 => (intro w hSw; (try dsimp only at hSw); go_simp; (try with_reducible rfl))
        (try simp only [Act.put, List.setIfInBounds_toArray, List.set_cons_zero, List.set_cons_succ])
        refine' take_any 7 57 (v := _) ?hib7 ?hdb7 (by kernel_rfl) (by kernel_rfl) (by kernel_rfl) (fun _ _ _ h => h) ?hyb7 hHeld ?hrb7
        case hib7 => (simp only [List.getElem?_toArray, List.getElem?_cons_succ, List.getElem?_cons_zero]; rfl)
        case hdb7 => rfl
        case hyb7 =>
          refine' Or.inl ⟨?hwb7, ?hxb7⟩
          case hwb7 => rfl
          case hxb7 => (intro w hSw; (try dsimp only at hSw); go_simp; (try with_reducible rfl))
        (try simp only [Act.put, List.setIfInBounds_toArray, List.set_cons_zero, List.set_cons_succ])
        refine' take_call 8 ?hib8 (by kernel_rfl) ?hrb8
        case hib8 => (simp only [List.getElem?_toArray, List.getElem?_cons_succ, List.getElem?_cons_zero]; rfl)
        intro K hK
        go_simp
        go_at_call 31
        refine (ncmpV (K := 16) (L := 15) (z := 0) (HNc_5.out.below BC.out) (HNa_5.out.below BC.out) (by omega) (by omega) (cmpZ_eq rfl)).mono ?_
        rintro e w101 ⟨rfl, hb⟩
        have HB1 := Lib.hid hb
        replace BC := Lib.hid (BC.out.trans (hb.mono BC.out.size))
        clear hb
        go_wp2_with fail
        clear hHeld
        refine hK.out _ _ (by (try dsimp only); exact ⟨(HVa_5.out.below BC.out HVa_5.out.lt).c0, (HVa_5.out.below BC.out HVa_5.out.lt).c1, (HVb_5.out.below BC.out HVb_5.out.lt).c0, (HVb_5.out.below BC.out HVb_5.out.lt).c1, (HVc_5.out.below BC.out HVc_5.out.lt).c0, (HVc_5.out.below BC.out HVc_5.out.lt).c1, (HVd_5.out.below BC.out HVd_5.out.lt).c0, (HVd_5.out.below BC.out HVd_5.out.lt).c1⟩) (fun hHeld => ?_)
        clear hK K
        (try simp only [Act.put, List.setIfInBounds_toArray, List.set_cons_zero, List.set_cons_succ])
        refine' take_any 9 59 (v := _) ?hib9 ?hdb9 (by kernel_rfl) (by kernel_rfl) (by kernel_rfl) (fun _ _ _ h => h) ?hyb9 hHeld ?hrb9
        case hib9 => (simp only [List.getElem?_toArray, List.getElem?_cons_succ, List.getElem?_cons_zero]; rfl)
        case hdb9 => rfl
        case hyb9 =>
          refine' Or.inl ⟨?hwb9, ?hxb9⟩
          case hwb9 => rfl
          case hxb9 => (intro w hSw; (try dsimp only at hSw); go_simp; (try with_reducible rfl))
        (try simp only [Act.put, List.setIfInBounds_toArray, List.set_cons_zero, List.set_cons_succ])
        refine' take_any 10 60 (v := _) ?hib10 ?hdb10 (by kernel_rfl) (by kernel_rfl) (by kernel_rfl) (fun _ _ _ h => h) ?hyb10 hHeld ?hrb10
        case hib10 => (simp only [List.getElem?_toArray, List.getElem?_cons_succ, List.getElem?_cons_zero]; rfl)
        case hdb10 => rfl
        case hyb10 =>
          refine' Or.inl ⟨?hwb10, ?hxb10⟩
          case hwb10 => rfl
          case hxb10 => (intro w hSw; (try dsimp only at hSw); go_simp; (try with_reducible rfl))
        (try simp only [Act.put, List.setIfInBounds_toArray, List.set_cons_zero, List.set_cons_succ])
        refine' take_any 11 61 (v := _) ?hib11 ?hdb11 (by kernel_rfl) (by kernel_rfl) (by kernel_rfl) (fun _ _ _ h => h) ?hyb11 hHeld ?hrb11
        case hib11 => (simp only [List.getElem?_toArray, List.getElem?_cons_succ, List.getElem?_cons_zero]; rfl)
        case hdb11 => rfl
        case hyb11 =>
          refine' Or.inl ⟨?hwb11, ?hxb11⟩
          case hwb11 => rfl
          case hxb11 => (intro w hSw; (try dsimp only at hSw); go_simp; (try with_reducible rfl))
        (try simp only [Act.put, List.setIfInBounds_toArray, List.set_cons_zero, List.set_cons_succ])
        refine' take_any 12 62 (v := _) ?hib12 ?hdb12 (by kernel_rfl) (by kernel_rfl) (by kernel_rfl) (fun _ _ _ h => h) ?hyb12 hHeld ?hrb12
        case hib12 => (simp only [List.getElem?_toArray, List.getElem?_cons_succ, List.getElem?_cons_zero]; rfl)
        case hdb12 => rfl
        case hyb12 =>
          refine' Or.inl ⟨?hwb12, ?hxb12⟩
          case hwb12 => rfl
          case hxb12 => (intro w hSw; (try dsimp only at hSw); go_simp; (try with_reducible rfl))
        (try simp only [Act.put, List.setIfInBounds_toArray, List.set_cons_zero, List.set_cons_succ])
        refine' take_any 13 63 (v := _) ?hib13 ?hdb13 (by kernel_rfl) (by kernel_rfl) (by kernel_rfl) (fun _ _ _ h => h) ?hyb13 hHeld ?hrb13
        case hib13 => (simp only [List.getElem?_toArray, List.getElem?_cons_succ, List.getElem?_cons_zero]; rfl)
        case hdb13 => rfl
        case hyb13 =>
          refine' Or.inl ⟨?hwb13, ?hxb13⟩
          case hwb13 => rfl
          case hxb13 => (intro w hSw; (try dsimp only at hSw); go_simp; (try with_reducible rfl))
        (try simp only [Act.put, List.setIfInBounds_toArray, List.set_cons_zero, List.set_cons_succ])
        refine' take_any 14 64 (v := _) ?hib14 ?hdb14 (by kernel_rfl) (by kernel_rfl) (by kernel_rfl) (fun _ _ _ h => h) ?hyb14 hHeld ?hrb14
        case hib14 => (simp only [List.getElem?_toArray, List.getElem?_cons_succ, List.getElem?_cons_zero]; rfl)
        case hdb14 => rfl
        case hyb14 =>
          refine' Or.inl ⟨?hwb14, ?hxb14⟩
          case hwb14 => rfl
          case hxb14 => (intro w hSw; (try dsimp only at hSw); go_simp; (try with_reducible rfl))
        (try simp only [Act.put, List.setIfInBounds_toArray, List.set_cons_zero, List.set_cons_succ])
        refine' take_any 15 65 (v := _) ?hib15 ?hdb15 (by kernel_rfl) (by kernel_rfl) (by kernel_rfl) (fun _ _ _ h => h) ?hyb15 hHeld ?hrb15
        case hib15 => (simp only [List.getElem?_toArray, List.getElem?_cons_succ, List.getElem?_cons_zero]; rfl)
        case hdb15 => rfl
        case hyb15 =>
          refine' Or.inl ⟨?hwb15, ?hxb15⟩
          case hwb15 => rfl
          case hxb15 => (intro w hSw; (try dsimp only at hSw); go_simp; (try with_reducible rfl))
        (try simp only [Act.put, List.setIfInBounds_toArray, List.set_cons_zero, List.set_cons_succ])
        refine' take_any 16 66 (v := _) ?hib16 ?hdb16 (by kernel_rfl) (by kernel_rfl) (by kernel_rfl) (fun _ _ _ h => h) ?hyb16 hHeld ?hrb16
        case hib16 => (simp only [List.getElem?_toArray, List.getElem?_cons_succ, List.getElem?_cons_zero]; rfl)
        case hdb16 => rfl
        case hyb16 =>
          refine' Or.inl ⟨?hwb16, ?hxb16⟩
          case hwb16 => rfl
          case hxb16 => (intro w hSw; (try dsimp only at hSw); go_simp; (try with_reducible rfl))
        (try simp only [Act.put, List.setIfInBounds_toArray, List.set_cons_zero, List.set_cons_succ])
        refine' take_any 17 67 (v := _) ?hib17 ?hdb17 (by kernel_rfl) (by kernel_rfl) (by kernel_rfl) (fun _ _ _ h => h) ?hyb17 hHeld ?hrb17
        case hib17 => (simp only [List.getElem?_toArray, List.getElem?_cons_succ, List.getElem?_cons_zero]; rfl)
        case hdb17 => rfl
        case hyb17 =>
          refine' Or.inl ⟨?hwb17, ?hxb17⟩
          case hwb17 => rfl
          case hxb17 => (intro w hSw; (try dsimp only at hSw); go_simp; (try with_reducible rfl))
        (try simp only [Act.put, List.setIfInBounds_toArray, List.set_cons_zero, List.set_cons_succ])
        refine' take_call 18 ?hib18 (by kernel_rfl) ?hrb18
        case hib18 => (simp only [List.getElem?_toArray, List.getElem?_cons_succ, List.getElem?_cons_zero]; rfl)
        intro K hK
        go_simp
        have _hb := HB1.out
        clear _hb
        go_at_call 31
        refine (ncmpV (K := 15) (L := 15) (z := 0) (HNd_5.out.below BC.out) (HNa_5.out.below BC.out) (by omega) (by omega) (cmpZ_eq rfl)).mono ?_
        rintro e w102 ⟨rfl, hb⟩
        have HB2 := Lib.hid hb
        replace BC := Lib.hid (BC.out.trans (hb.mono BC.out.size))
        clear hb
        go_wp2_with fail
        clear hHeld
        refine hK.out _ _ (by (try dsimp only); exact ⟨(HVa_5.out.below BC.out HVa_5.out.lt).c0, (HVa_5.out.below BC.out HVa_5.out.lt).c1, (HVb_5.out.below BC.out HVb_5.out.lt).c0, (HVb_5.out.below BC.out HVb_5.out.lt).c1, (HVc_5.out.below BC.out HVc_5.out.lt).c0, (HVc_5.out.below BC.out HVc_5.out.lt).c1, (HVd_5.out.below BC.out HVd_5.out.lt).c0, (HVd_5.out.below BC.out HVd_5.out.lt).c1⟩) (fun hHeld => ?_)
        clear hK K
        (try simp only [Act.put, List.setIfInBounds_toArray, List.set_cons_zero, List.set_cons_succ])
        refine' take_any 19 69 (v := _) ?hib19 ?hdb19 (by kernel_rfl) (by kernel_rfl) (by kernel_rfl) (fun _ _ _ h => h) ?hyb19 hHeld ?hrb19
        case hib19 => (simp only [List.getElem?_toArray, List.getElem?_cons_succ, List.getElem?_cons_zero]; rfl)
        case hdb19 => rfl
        case hyb19 =>
          refine' Or.inl ⟨?hwb19, ?hxb19⟩
          case hwb19 => rfl
          case hxb19 => (intro w hSw; (try dsimp only at hSw); go_simp; (try with_reducible rfl))
        (try simp only [Act.put, List.setIfInBounds_toArray, List.set_cons_zero, List.set_cons_succ])
        refine' take_any 20 70 (v := _) ?hib20 ?hdb20 (by kernel_rfl) (by kernel_rfl) (by kernel_rfl) (fun _ _ _ h => h) ?hyb20 hHeld ?hrb20
        case hib20 => (simp only [List.getElem?_toArray, List.getElem?_cons_succ, List.getElem?_cons_zero]; rfl)
        case hdb20 => rfl
        case hyb20 =>
          refine' Or.inl ⟨?hwb20, ?hxb20⟩
          case hwb20 => rfl
          case hxb20 => (intro w hSw; (try dsimp only at hSw); go_simp; (try with_reducible rfl))
        (try simp only [Act.put, List.setIfInBounds_toArray, List.set_cons_zero, List.set_cons_succ])
        refine' take_any 21 71 (v := _) ?hib21 ?hdb21 (by kernel_rfl) (by kernel_rfl) (by kernel_rfl) (fun _ _ _ h => h) ?hyb21 hHeld ?hrb21
        case hib21 => (simp only [List.getElem?_toArray, List.getElem?_cons_succ, List.getElem?_cons_zero]; rfl)
        case hdb21 => rfl
        case hyb21 =>
          refine' Or.inl ⟨?hwb21, ?hxb21⟩
          case hwb21 => rfl
          case hxb21 => (intro w hSw; (try dsimp only at hSw); go_simp; (try with_reducible rfl))
        (try simp only [Act.put, List.setIfInBounds_toArray, List.set_cons_zero, List.set_cons_succ])
        refine' take_any 22 72 (v := _) ?hib22 ?hdb22 (by kernel_rfl) (by kernel_rfl) (by kernel_rfl) (fun _ _ _ h => h) ?hyb22 hHeld ?hrb22
        case hib22 => (simp only [List.getElem?_toArray, List.getElem?_cons_succ, List.getElem?_cons_zero]; rfl)
        case hdb22 => rfl
        case hyb22 =>
          refine' Or.inl ⟨?hwb22, ?hxb22⟩
          case hwb22 => rfl
          case hxb22 => (intro w hSw; (try dsimp only at hSw); go_simp; (try with_reducible rfl))
        (try simp only [Act.put, List.setIfInBounds_toArray, List.set_cons_zero, List.set_cons_succ])
        refine' take_any 24 74 (v := _) ?hib24 ?hdb24 (by kernel_rfl) (by kernel_rfl) (by kernel_rfl) (fun _ _ _ h => h) ?hyb24 hHeld ?hrb24
        case hib24 => (simp only [List.getElem?_toArray, List.getElem?_cons_succ, List.getElem?_cons_zero]; rfl)
        case hdb24 => rfl
        case hyb24 =>
          refine' Or.inl ⟨?hwb24, ?hxb24⟩
          case hwb24 => rfl
          case hxb24 => (intro w hSw; (try dsimp only at hSw); go_simp; (try with_reducible rfl))
        (try simp only [Act.put, List.setIfInBounds_toArray, List.set_cons_zero, List.set_cons_succ])
        refine' take_any 27 77 (v := _) ?hib27 ?hdb27 (by kernel_rfl) (by kernel_rfl) (by kernel_rfl) (fun _ _ _ h => h) ?hyb27 hHeld ?hrb27
        case hib27 => (simp only [List.getElem?_toArray, List.getElem?_cons_succ, List.getElem?_cons_zero]; rfl)
        case hdb27 => rfl
        case hyb27 =>
          refine' Or.inl ⟨?hwb27, ?hxb27⟩
          case hwb27 => rfl
          case hxb27 => (intro w hSw; (try dsimp only at hSw); go_simp; (try with_reducible rfl))
        (try simp only [Act.put, List.setIfInBounds_toArray, List.set_cons_zero, List.set_cons_succ])
        refine' take_any 28 78 (v := _) ?hib28 ?hdb28 (by kernel_rfl) (by kernel_rfl) (by kernel_rfl) (fun _ _ _ h => h) ?hyb28 hHeld ?hrb28
        case hib28 => (simp only [List.getElem?_toArray, List.getElem?_cons_succ, List.getElem?_cons_zero]; rfl)
        case hdb28 => rfl
        case hyb28 =>
          refine' Or.inl ⟨?hwb28, ?hxb28⟩
          case hwb28 => rfl
          case hxb28 => (intro w hSw; (try dsimp only at hSw); go_simp; (try with_reducible rfl))
        (try simp only [Act.put, List.setIfInBounds_toArray, List.set_cons_zero, List.set_cons_succ])
        refine' take_call 23 ?hib23 (by kernel_rfl) ?hrb23
        case hib23 => (simp only [List.getElem?_toArray, List.getElem?_cons_succ, List.getElem?_cons_zero]; rfl)
        intro K hK
        go_simp
        have _hb := HB2.out
        clear _hb
        go_at_call 11
        refine (ntextS (K := 15) SA HSA.out (HNa_5.out.below BC.out) (by omega) (HTB.out.below BC.out)).mono ?_
        rintro e w103 ⟨rfl, hb⟩
        have HB3 := Lib.hid hb
        replace BC := Lib.hid (BC.out.trans (hb.mono BC.out.size))
        clear hb
        go_wp2_with fail
        clear hHeld
        refine hK.out _ _ (by (try dsimp only); exact ⟨(HVa_5.out.below BC.out HVa_5.out.lt).c0, (HVa_5.out.below BC.out HVa_5.out.lt).c1, (HVb_5.out.below BC.out HVb_5.out.lt).c0, (HVb_5.out.below BC.out HVb_5.out.lt).c1, (HVc_5.out.below BC.out HVc_5.out.lt).c0, (HVc_5.out.below BC.out HVc_5.out.lt).c1, (HVd_5.out.below BC.out HVd_5.out.lt).c0, (HVd_5.out.below BC.out HVd_5.out.lt).c1⟩) (fun hHeld => ?_)
        clear hK K
        (try simp only [Act.put, List.setIfInBounds_toArray, List.set_cons_zero, List.set_cons_succ])
        refine' take_call 25 ?hib25 (by kernel_rfl) ?hrb25
        case hib25 => (simp only [List.getElem?_toArray, List.getElem?_cons_succ, List.getElem?_cons_zero]; rfl)
        intro K hK
        go_simp
        have _hb := HB3.out
        clear _hb
        go_at_call 11
        refine (ntextS (K := 15) SB HSB.out (HNb_5.out.below BC.out) (by omega) (HTB.out.below BC.out)).mono ?_
        rintro e w104 ⟨rfl, hb⟩
        have HB4 := Lib.hid hb
        replace BC := Lib.hid (BC.out.trans (hb.mono BC.out.size))
        clear hb
        go_wp2_with fail
        clear hHeld
        refine hK.out _ _ (by (try dsimp only); exact ⟨(HVa_5.out.below BC.out HVa_5.out.lt).c0, (HVa_5.out.below BC.out HVa_5.out.lt).c1, (HVb_5.out.below BC.out HVb_5.out.lt).c0, (HVb_5.out.below BC.out HVb_5.out.lt).c1, (HVc_5.out.below BC.out HVc_5.out.lt).c0, (HVc_5.out.below BC.out HVc_5.out.lt).c1, (HVd_5.out.below BC.out HVd_5.out.lt).c0, (HVd_5.out.below BC.out HVd_5.out.lt).c1⟩) (fun hHeld => ?_)
        clear hK K
        (try simp only [Act.put, List.setIfInBounds_toArray, List.set_cons_zero, List.set_cons_succ])
        refine' take_any 26 76 (v := _) ?hib26 ?hdb26 (by kernel_rfl) (by kernel_rfl) (by kernel_rfl) (fun _ _ _ h => h) ?hyb26 hHeld ?hrb26
        case hib26 => (simp only [List.getElem?_toArray, List.getElem?_cons_succ, List.getElem?_cons_zero]; rfl)
        case hdb26 => rfl
        case hyb26 =>
          refine' Or.inl ⟨?hwb26, ?hxb26⟩
          case hwb26 => rfl
          case hxb26 => (intro w hSw; (try dsimp only at hSw); go_simp; (try with_reducible rfl))
        (try simp only [Act.put, List.setIfInBounds_toArray, List.set_cons_zero, List.set_cons_succ])
        refine' take_call 29 ?hib29 (by kernel_rfl) ?hrb29
        case hib29 => (simp only [List.getElem?_toArray, List.getElem?_cons_succ, List.getElem?_cons_zero]; rfl)
        intro K hK
        go_simp
        have _hb := HB4.out
        clear _hb
        go_at_call 31
        refine (ncmpV (K := 15) (L := 15) (z := (-1)) (HNa_5.out.below BC.out) (HNb_5.out.below BC.out) (by omega) (by omega) (cmpZ_neg HR.out)).mono ?_
        rintro e w105 ⟨rfl, hb⟩
        have HB5 := Lib.hid hb
        replace BC := Lib.hid (BC.out.trans (hb.mono BC.out.size))
        clear hb
        go_wp2_with fail
        clear hHeld
        refine hK.out _ _ (by (try dsimp only); exact ⟨(HVa_5.out.below BC.out HVa_5.out.lt).c0, (HVa_5.out.below BC.out HVa_5.out.lt).c1, (HVb_5.out.below BC.out HVb_5.out.lt).c0, (HVb_5.out.below BC.out HVb_5.out.lt).c1, (HVc_5.out.below BC.out HVc_5.out.lt).c0, (HVc_5.out.below BC.out HVc_5.out.lt).c1, (HVd_5.out.below BC.out HVd_5.out.lt).c0, (HVd_5.out.below BC.out HVd_5.out.lt).c1⟩) (fun hHeld => ?_)
        clear hK K
        (try simp only [Act.put, List.setIfInBounds_toArray, List.set_cons_zero, List.set_cons_succ])
        refine' take_any 30 80 (v := _) ?hib30 ?hdb30 (by kernel_rfl) (by kernel_rfl) (by kernel_rfl) (fun _ _ _ h => h) ?hyb30 hHeld ?hrb30
        case hib30 => (simp only [List.getElem?_toArray, List.getElem?_cons_succ, List.getElem?_cons_zero]; rfl)
        case hdb30 => rfl
        case hyb30 =>
          refine' Or.inl ⟨?hwb30, ?hxb30⟩
          case hwb30 => rfl
          case hxb30 => (intro w hSw; (try dsimp only at hSw); go_simp; (try with_reducible rfl))
        (try simp only [Act.put, List.setIfInBounds_toArray, List.set_cons_zero, List.set_cons_succ])
        refine' take_any 31 81 (v := _) ?hib31 ?hdb31 (by kernel_rfl) (by kernel_rfl) (by kernel_rfl) (fun _ _ _ h => h) ?hyb31 hHeld ?hrb31
        case hib31 => (simp only [List.getElem?_toArray, List.getElem?_cons_succ, List.getElem?_cons_zero]; rfl)
        case hdb31 => rfl
        case hyb31 =>
          refine' Or.inl ⟨?hwb31, ?hxb31⟩
          case hwb31 => rfl
          case hxb31 => (intro w hSw; (try dsimp only at hSw); go_simp; (try with_reducible rfl))
        (try simp only [Act.put, List.setIfInBounds_toArray, List.set_cons_zero, List.set_cons_succ])
        refine' take_any 32 82 (v := _) ?hib32 ?hdb32 (by kernel_rfl) (by kernel_rfl) (by kernel_rfl) (fun _ _ _ h => h) ?hyb32 hHeld ?hrb32
        case hib32 => (simp only [List.getElem?_toArray, List.getElem?_cons_succ, List.getElem?_cons_zero]; rfl)
        case hdb32 => rfl
        case hyb32 =>
          refine' Or.inl ⟨?hwb32, ?hxb32⟩
          case hwb32 => rfl
          case hxb32 => (intro w hSw; (try dsimp only at hSw); go_simp; (try with_reducible rfl))
        (try simp only [Act.put, List.setIfInBounds_toArray, List.set_cons_zero, List.set_cons_succ])
        refine' take_any 33 83 (v := _) ?hib33 ?hdb33 (by kernel_rfl) (by kernel_rfl) (by kernel_rfl) (fun _ _ _ h => h) ?hyb33 hHeld ?hrb33
        case hib33 => (simp only [List.getElem?_toArray, List.getElem?_cons_succ, List.getElem?_cons_zero]; rfl)
        case hdb33 => rfl
        case hyb33 =>
          refine' Or.inl ⟨?hwb33, ?hxb33⟩
          case hwb33 => rfl
          case hxb33 => (intro w hSw; (try dsimp only at hSw); go_simp; (try with_reducible rfl))
        (try simp only [Act.put, List.setIfInBounds_toArray, List.set_cons_zero, List.set_cons_succ])
        refine' take_any 34 84 (v := _) ?hib34 ?hdb34 (by kernel_rfl) (by kernel_rfl) (by kernel_rfl) (fun _ _ _ h => h) ?hyb34 hHeld ?hrb34
        case hib34 => (simp only [List.getElem?_toArray, List.getElem?_cons_succ, List.getElem?_cons_zero]; rfl)
        case hdb34 => rfl
        case hyb34 =>
          refine' Or.inl ⟨?hwb34, ?hxb34⟩
          case hwb34 => rfl
          case hxb34 => (intro w hSw; (try dsimp only at hSw); go_simp; (try with_reducible rfl))
        (try simp only [Act.put, List.setIfInBounds_toArray, List.set_cons_zero, List.set_cons_succ])
        refine' take_any 35 85 (v := _) ?hib35 ?hdb35 (by kernel_rfl) (by kernel_rfl) (by kernel_rfl) (fun _ _ _ h => h) ?hyb35 hHeld ?hrb35
        case hib35 => (simp only [List.getElem?_toArray, List.getElem?_cons_succ, List.getElem?_cons_zero]; rfl)
        case hdb35 => rfl
        case hyb35 =>
          refine' Or.inl ⟨?hwb35, ?hxb35⟩
          case hwb35 => rfl
          case hxb35 => (intro w hSw; (try dsimp only at hSw); go_simp; (try with_reducible rfl))
        (try simp only [Act.put, List.setIfInBounds_toArray, List.set_cons_zero, List.set_cons_succ])
        refine' take_any 37 87 (v := _) ?hib37 ?hdb37 (by kernel_rfl) (by kernel_rfl) (by kernel_rfl) (fun _ _ _ h => h) ?hyb37 hHeld ?hrb37
        case hib37 => (simp only [List.getElem?_toArray, List.getElem?_cons_succ, List.getElem?_cons_zero]; rfl)
        case hdb37 => rfl
        case hyb37 =>
          refine' Or.inl ⟨?hwb37, ?hxb37⟩
          case hwb37 => rfl
          case hxb37 => (intro w hSw; (try dsimp only at hSw); go_simp; (try with_reducible rfl))
        (try simp only [Act.put, List.setIfInBounds_toArray, List.set_cons_zero, List.set_cons_succ])
        refine' take_any 38 88 (v := _) ?hib38 ?hdb38 (by kernel_rfl) (by kernel_rfl) (by kernel_rfl) (fun _ _ _ h => h) ?hyb38 hHeld ?hrb38
        case hib38 => (simp only [List.getElem?_toArray, List.getElem?_cons_succ, List.getElem?_cons_zero]; rfl)
        case hdb38 => rfl
        case hyb38 =>
          refine' Or.inl ⟨?hwb38, ?hxb38⟩
          case hwb38 => rfl
          case hxb38 => (intro w hSw; (try dsimp only at hSw); go_simp; (try with_reducible rfl))
        (try simp only [Act.put, List.setIfInBounds_toArray, List.set_cons_zero, List.set_cons_succ])
        refine' take_call 36 ?hib36 (by kernel_rfl) ?hrb36
        case hib36 => (simp only [List.getElem?_toArray, List.getElem?_cons_succ, List.getElem?_cons_zero]; rfl)
        intro K hK
        go_simp
        have _hb := HB5.out
        clear _hb
        go_at_call 31
        refine (ncmpV (K := 15) (L := 15) (z := (-1)) (HNa_5.out.below BC.out) (HNb_5.out.below BC.out) (by omega) (by omega) (cmpZ_neg HR.out)).mono ?_
        rintro e w106 ⟨rfl, hb⟩
        have HB6 := Lib.hid hb
        replace BC := Lib.hid (BC.out.trans (hb.mono BC.out.size))
        clear hb
        go_wp2_with fail
        clear hHeld
        refine hK.out _ _ (by (try dsimp only); exact ⟨(HVa_5.out.below BC.out HVa_5.out.lt).c0, (HVa_5.out.below BC.out HVa_5.out.lt).c1, (HVb_5.out.below BC.out HVb_5.out.lt).c0, (HVb_5.out.below BC.out HVb_5.out.lt).c1, (HVc_5.out.below BC.out HVc_5.out.lt).c0, (HVc_5.out.below BC.out HVc_5.out.lt).c1, (HVd_5.out.below BC.out HVd_5.out.lt).c0, (HVd_5.out.below BC.out HVd_5.out.lt).c1⟩) (fun hHeld => ?_)
        clear hK K
        (try simp only [Act.put, List.setIfInBounds_toArray, List.set_cons_zero, List.set_cons_succ])
        refine' take_call 39 ?hib39 (by kernel_rfl) ?hrb39
        case hib39 => (simp only [List.getElem?_toArray, List.getElem?_cons_succ, List.getElem?_cons_zero]; rfl)
        intro K hK
        go_simp
        have _hb := HB6.out
        clear _hb
        go_at_call 31
        refine (ncmpV (K := 15) (L := 15) (z := 1) (HNb_5.out.below BC.out) (HNa_5.out.below BC.out) (by omega) (by omega) (cmpZ_pos HR.out)).mono ?_
        rintro e w107 ⟨rfl, hb⟩
        have HB7 := Lib.hid hb
        replace BC := Lib.hid (BC.out.trans (hb.mono BC.out.size))
        clear hb
        go_wp2_with fail
        clear hHeld
        refine hK.out _ _ (by (try dsimp only); exact ⟨(HVa_5.out.below BC.out HVa_5.out.lt).c0, (HVa_5.out.below BC.out HVa_5.out.lt).c1, (HVb_5.out.below BC.out HVb_5.out.lt).c0, (HVb_5.out.below BC.out HVb_5.out.lt).c1, (HVc_5.out.below BC.out HVc_5.out.lt).c0, (HVc_5.out.below BC.out HVc_5.out.lt).c1, (HVd_5.out.below BC.out HVd_5.out.lt).c0, (HVd_5.out.below BC.out HVd_5.out.lt).c1⟩) (fun hHeld => ?_)
        clear hK K
        (try simp only [Act.put, List.setIfInBounds_toArray, List.set_cons_zero, List.set_cons_succ])
        refine' take_any 40 90 (v := _) ?hib40 ?hdb40 (by kernel_rfl) (by kernel_rfl) (by kernel_rfl) (fun _ _ _ h => h) ?hyb40 hHeld ?hrb40
        case hib40 => (simp only [List.getElem?_toArray, List.getElem?_cons_succ, List.getElem?_cons_zero]; rfl)
        case hdb40 => rfl
        case hyb40 =>
          refine' Or.inl ⟨?hwb40, ?hxb40⟩
          case hwb40 => rfl
          case hxb40 => (intro w hSw; (try dsimp only at hSw); go_simp; (try with_reducible rfl))
        (try simp only [Act.put, List.setIfInBounds_toArray, List.set_cons_zero, List.set_cons_succ])
        refine' take_any 41 91 (v := _) ?hib41 ?hdb41 (by kernel_rfl) (by kernel_rfl) (by kernel_rfl) (fun _ _ _ h => h) ?hyb41 hHeld ?hrb41
        case hib41 => (simp only [List.getElem?_toArray, List.getElem?_cons_succ, List.getElem?_cons_zero]; rfl)
        case hdb41 => rfl
        case hyb41 =>
          refine' Or.inl ⟨?hwb41, ?hxb41⟩
          case hwb41 => rfl
          case hxb41 => (intro w hSw; (try dsimp only at hSw); go_simp; (try with_reducible rfl))
        (try simp only [Act.put, List.setIfInBounds_toArray, List.set_cons_zero, List.set_cons_succ])
        refine' take_any 42 92 (v := _) ?hib42 ?hdb42 (by kernel_rfl) (by kernel_rfl) (by kernel_rfl) (fun _ _ _ h => h) ?hyb42 hHeld ?hrb42
        case hib42 => (simp only [List.getElem?_toArray, List.getElem?_cons_succ, List.getElem?_cons_zero]; rfl)
        case hdb42 => rfl
        case hyb42 =>
          refine' Or.inl ⟨?hwb42, ?hxb42⟩
          case hwb42 => rfl
          case hxb42 => (intro w hSw; (try dsimp only at hSw); go_simp; (try with_reducible rfl))
        (try simp only [Act.put, List.setIfInBounds_toArray, List.set_cons_zero, List.set_cons_succ])
        refine' take_any 43 93 (v := _) ?hib43 ?hdb43 (by kernel_rfl) (by kernel_rfl) (by kernel_rfl) (fun _ _ _ h => h) ?hyb43 hHeld ?hrb43
        case hib43 => (simp only [List.getElem?_toArray, List.getElem?_cons_succ, List.getElem?_cons_zero]; rfl)
        case hdb43 => rfl
        case hyb43 =>
          refine' Or.inl ⟨?hwb43, ?hxb43⟩
          case hwb43 => rfl
          case hxb43 => (intro w hSw; (try dsimp only at hSw); go_simp; (try with_reducible rfl))
        (try simp only [Act.put, List.setIfInBounds_toArray, List.set_cons_zero, List.set_cons_succ])
        refine' take_any 44 94 (v := _) ?hib44 ?hdb44 (by kernel_rfl) (by kernel_rfl) (by kernel_rfl) (fun _ _ _ h => h) ?hyb44 hHeld ?hrb44
        case hib44 => (simp only [List.getElem?_toArray, List.getElem?_cons_succ, List.getElem?_cons_zero]; rfl)
        case hdb44 => rfl
        case hyb44 =>
          refine' Or.inl ⟨?hwb44, ?hxb44⟩
          case hwb44 => rfl
          case hxb44 => (intro w hSw; (try dsimp only at hSw); go_simp; (try with_reducible rfl))
        (try simp only [Act.put, List.setIfInBounds_toArray, List.set_cons_zero, List.set_cons_succ])
        refine' take_any 45 95 (v := _) ?hib45 ?hdb45 (by kernel_rfl) (by kernel_rfl) (by kernel_rfl) (fun _ _ _ h => h) ?hyb45 hHeld ?hrb45
        case hib45 => (simp only [List.getElem?_toArray, List.getElem?_cons_succ, List.getElem?_cons_zero]; rfl)
        case hdb45 => rfl
        case hyb45 =>
          refine' Or.inl ⟨?hwb45, ?hxb45⟩
          case hwb45 => rfl
          case hxb45 => (intro w hSw; (try dsimp only at hSw); go_simp; (try with_reducible rfl))
        (try simp only [Act.put, List.setIfInBounds_toArray, List.set_cons_zero, List.set_cons_succ])
        refine' take_any 46 96 (v := _) ?hib46 ?hdb46 (by kernel_rfl) (by kernel_rfl) (by kernel_rfl) (fun _ _ _ h => h) ?hyb46 hHeld ?hrb46
        case hib46 => (simp only [List.getElem?_toArray, List.getElem?_cons_succ, List.getElem?_cons_zero]; rfl)
        case hdb46 => rfl
        case hyb46 =>
          refine' Or.inl ⟨?hwb46, ?hxb46⟩
          case hwb46 => rfl
          case hxb46 => (intro w hSw; (try dsimp only at hSw); go_simp; (try with_reducible rfl))
        (try simp only [Act.put, List.setIfInBounds_toArray, List.set_cons_zero, List.set_cons_succ])
        refine' take_any 47 97 (v := _) ?hib47 ?hdb47 (by kernel_rfl) (by kernel_rfl) (by kernel_rfl) (fun _ _ _ h => h) ?hyb47 hHeld ?hrb47
        case hib47 => (simp only [List.getElem?_toArray, List.getElem?_cons_succ, List.getElem?_cons_zero]; rfl)
        case hdb47 => rfl
        case hyb47 =>
          refine' Or.inl ⟨?hwb47, ?hxb47⟩
          case hwb47 => rfl
          case hxb47 => (intro w hSw; (try dsimp only at hSw); go_simp; (try with_reducible rfl))
        (try simp only [Act.put, List.setIfInBounds_toArray, List.set_cons_zero, List.set_cons_succ])
        refine' take_any 49 99 (v := _) ?hib49 ?hdb49 (by kernel_rfl) (by kernel_rfl) (by kernel_rfl) (fun _ _ _ h => h) ?hyb49 hHeld ?hrb49
        case hib49 => (simp only [List.getElem?_toArray, List.getElem?_cons_succ, List.getElem?_cons_zero]; rfl)
        case hdb49 => rfl
        case hyb49 =>
          refine' Or.inl ⟨?hwb49, ?hxb49⟩
          case hwb49 => rfl
          case hxb49 => (intro w hSw; (try dsimp only at hSw); go_simp; (try with_reducible rfl))
        (try simp only [Act.put, List.setIfInBounds_toArray, List.set_cons_zero, List.set_cons_succ])
        refine' take_call 48 ?hib48 (by kernel_rfl) ?hrb48
        case hib48 => (simp only [List.getElem?_toArray, List.getElem?_cons_succ, List.getElem?_cons_zero]; rfl)
        intro K hK
        go_simp
        have _hb := HB7.out
        clear _hb
        go_at_call 17
        refine (nof x (small_range HS.out).1 (small_range HS.out).2 _).mono ?_
        rintro e w108 ⟨⟨b108, s108, l108, c108, rfl, hn⟩, hb⟩
        have HB8 := Lib.hid hb
        have HN8 := Lib.hid hn
        replace BC := Lib.hid (BC.out.trans (hb.mono BC.out.size))
        clear hb hn
        go_wp2_with fail
        clear hHeld
        refine hK.out _ _ (by (try dsimp only); exact ⟨(HVa_5.out.below BC.out HVa_5.out.lt).c0, (HVa_5.out.below BC.out HVa_5.out.lt).c1, (HVb_5.out.below BC.out HVb_5.out.lt).c0, (HVb_5.out.below BC.out HVb_5.out.lt).c1, (HVc_5.out.below BC.out HVc_5.out.lt).c0, (HVc_5.out.below BC.out HVc_5.out.lt).c1, (HVd_5.out.below BC.out HVd_5.out.lt).c0, (HVd_5.out.below BC.out HVd_5.out.lt).c1⟩) (fun hHeld => ?_)
        clear hK K
        (try simp only [Act.put, List.setIfInBounds_toArray, List.set_cons_zero, List.set_cons_succ])
        refine' take_call 50 ?hib50 (by kernel_rfl) ?hrb50
        case hib50 => (simp only [List.getElem?_toArray, List.getElem?_cons_succ, List.getElem?_cons_zero]; rfl)
        intro K hK
        go_simp
        have _hb := HB8.out
        clear _hb
        go_at_call 31
        refine (ncmpV (K := 3) (L := 15) (z := 0) HN8.out (HNa_5.out.below BC.out) (by omega) (by omega) (cmpZ_eq rfl)).mono ?_
        rintro e w109 ⟨rfl, hb⟩
        have HB9 := Lib.hid hb
        replace BC := Lib.hid (BC.out.trans (hb.mono BC.out.size))
        clear hb
        go_wp2_with fail
        clear hHeld
        refine hK.out _ _ (by (try dsimp only); exact ⟨(HVa_5.out.below BC.out HVa_5.out.lt).c0, (HVa_5.out.below BC.out HVa_5.out.lt).c1, (HVb_5.out.below BC.out HVb_5.out.lt).c0, (HVb_5.out.below BC.out HVb_5.out.lt).c1, (HVc_5.out.below BC.out HVc_5.out.lt).c0, (HVc_5.out.below BC.out HVc_5.out.lt).c1, (HVd_5.out.below BC.out HVd_5.out.lt).c0, (HVd_5.out.below BC.out HVd_5.out.lt).c1⟩) (fun hHeld => ?_)
        clear hK K
        (try simp only [Act.put, List.setIfInBounds_toArray, List.set_cons_zero, List.set_cons_succ])
        refine' take_any 51 101 (v := _) ?hib51 ?hdb51 (by kernel_rfl) (by kernel_rfl) (by kernel_rfl) (fun _ _ _ h => h) ?hyb51 hHeld ?hrb51
        case hib51 => (simp only [List.getElem?_toArray, List.getElem?_cons_succ, List.getElem?_cons_zero]; rfl)
        case hdb51 => rfl
        case hyb51 =>
          refine' Or.inl ⟨?hwb51, ?hxb51⟩
          case hwb51 => rfl
          case hxb51 => (intro w hSw; (try dsimp only at hSw); go_simp; (try with_reducible rfl))
        (try simp only [Act.put, List.setIfInBounds_toArray, List.set_cons_zero, List.set_cons_succ])
        refine' take_any 52 102 (v := _) ?hib52 ?hdb52 (by kernel_rfl) (by kernel_rfl) (by kernel_rfl) (fun _ _ _ h => h) ?hyb52 hHeld ?hrb52
        case hib52 => (simp only [List.getElem?_toArray, List.getElem?_cons_succ, List.getElem?_cons_zero]; rfl)
        case hdb52 => rfl
        case hyb52 =>
          refine' Or.inl ⟨?hwb52, ?hxb52⟩
          case hwb52 => rfl
          case hxb52 => (intro w hSw; (try dsimp only at hSw); go_simp; (try with_reducible rfl))
        (try simp only [Act.put, List.setIfInBounds_toArray, List.set_cons_zero, List.set_cons_succ])
        refine' take_any 53 103 (v := _) ?hib53 ?hdb53 (by kernel_rfl) (by kernel_rfl) (by kernel_rfl) (fun _ _ _ h => h) ?hyb53 hHeld ?hrb53
        case hib53 => (simp only [List.getElem?_toArray, List.getElem?_cons_succ, List.getElem?_cons_zero]; rfl)
        case hdb53 => rfl
        case hyb53 =>
          refine' Or.inl ⟨?hwb53, ?hxb53⟩
          case hwb53 => rfl
          case hxb53 => (intro w hSw; (try dsimp only at hSw); go_simp; (try with_reducible rfl))
        (try simp only [Act.put, List.setIfInBounds_toArray, List.set_cons_zero, List.set_cons_succ])
        refine' take_any 54 4 (v := _) ?hib54 ?hdb54 (by kernel_rfl) (by kernel_rfl) (by kernel_rfl) (fun _ _ _ h => h) ?hyb54 hHeld ?hrb54
        case hib54 => (simp only [List.getElem?_toArray, List.getElem?_cons_succ, List.getElem?_cons_zero]; rfl)
        case hdb54 => rfl
        case hyb54 =>
          refine' Or.inl ⟨?hwb54, ?hxb54⟩
          case hwb54 => rfl
          case hxb54 => (intro w hSw; (try dsimp only at hSw); go_simp; (try with_reducible rfl))
        (try simp only [Act.put, List.setIfInBounds_toArray, List.set_cons_zero, List.set_cons_succ])
        refine wpAnyH_done (by kernel_rfl) ?_ _
        refine NoPanic.normal ?_
        go_wp2
        go_ret
        exact ⟨rfl, HBW_5.out.trans (BC.out.mono HBW_5.out.size)⟩
    | false =>
      have HS := Lib.hid hs
      clear hs
      as_aux_lemma =>
        go_wp2_with fail
        rw [← HG.out, ← HW.out]
        refine (ntextS (K := 15) SA HSA.out HNA.out (by omega) (HT.out.below HBW.out)).mono ?_
        rintro e w201 ⟨rfl, hb⟩
        have HBw201 := Lib.hid hb
        clear hb
        have HVa_1 := Lib.hid (HVA.out.below HBw201.out HVA.out.lt)
        have HNa_1 := Lib.hid (HNA.out.below HBw201.out)
        have HVb_1 := Lib.hid (HVB.out.below HBw201.out HVB.out.lt)
        have HNb_1 := Lib.hid (HNB.out.below HBw201.out)
        have HBW_1 := Lib.hid (HBW.out.trans (HBw201.out.mono HBW.out.size))
        clear HVA HNA HVB HNB HBW
        clear HBw201
        have qa0 := HVa_1.out.c0
        have qa1 := HVa_1.out.c1
        have ta := HVa_1.out.lt
        have qb0 := HVb_1.out.c0
        have qb1 := HVb_1.out.c1
        have tb := HVb_1.out.lt
        go_wp2_with fail
        refine (nreadT (K := 15) x SA HSA.out HNa_1.out.2 (by omega) _).mono ?_
        rintro e w202 ⟨⟨bv2, sv2, lv2, cv2, rfl, hn⟩, hb⟩
        clear qa0 qa1 ta qb0 qb1 tb
        have qa0 := (HVa_1.out.below hb HVa_1.out.lt).c0
        have qa1 := (HVa_1.out.below hb HVa_1.out.lt).c1
        have ta := (HVa_1.out.below hb HVa_1.out.lt).lt
        have qb0 := (HVb_1.out.below hb HVb_1.out.lt).c0
        have qb1 := (HVb_1.out.below hb HVb_1.out.lt).c1
        have tb := (HVb_1.out.below hb HVb_1.out.lt).lt
        obtain ⟨W202, hW202⟩ : ∃ W, W = w202.alloc (.cells #[.bool bv2, .slice sv2 lv2 cv2] 25) := ⟨_, rfl⟩
        obtain ⟨gc, hgc⟩ : ∃ g, g = w202.heap.size := ⟨_, rfl⟩
        have HBW202 := Lib.hid (show Below w201.heap.size w201 W202 by rw [hW202]; exact hb.alloc hb.size _)
        have HVn := Lib.hid (show VarAt W202 gc bv2 sv2 lv2 cv2 by rw [hW202, hgc]; exact VarAt.made _ _ _ _ _)
        have HNn := Lib.hid (show NumIs 16 W202 _ x by rw [hW202]; exact hn.alloc _)
        have HW202 := Lib.hid hW202
        have HGc := Lib.hid hgc
        clear hn hb hW202 hgc
        have HVa_2 := Lib.hid (HVa_1.out.below HBW202.out HVa_1.out.lt)
        have HNa_2 := Lib.hid (HNa_1.out.below HBW202.out)
        have HVb_2 := Lib.hid (HVb_1.out.below HBW202.out HVb_1.out.lt)
        have HNb_2 := Lib.hid (HNb_1.out.below HBW202.out)
        have HBW_2 := Lib.hid (HBW_1.out.trans (HBW202.out.mono HBW_1.out.size))
        clear HVa_1 HNa_1 HVb_1 HNb_1 HBW_1
        have HVc_2 := HVn
        have HNc_2 := HNn
        clear HVn HNn HBW202
        go_wp2_with fail
        rw [← HGc.out, ← HW202.out]
        refine (nparts mb HMB.out HNa_2.out (by omega)).mono ?_
        rintro e wp ⟨⟨sp, lp, cp, rfl, hu⟩, hb⟩
        have HU := Lib.hid hu
        have HBp := Lib.hid hb
        clear hb hu
        have HVa_3 := Lib.hid (HVa_2.out.below HBp.out HVa_2.out.lt)
        have HNa_3 := Lib.hid (HNa_2.out.below HBp.out)
        have HVb_3 := Lib.hid (HVb_2.out.below HBp.out HVb_2.out.lt)
        have HNb_3 := Lib.hid (HNb_2.out.below HBp.out)
        have HVc_3 := Lib.hid (HVc_2.out.below HBp.out HVc_2.out.lt)
        have HNc_3 := Lib.hid (HNc_2.out.below HBp.out)
        have HBW_3 := Lib.hid (HBW_2.out.trans (HBp.out.mono HBW_2.out.size))
        clear HVa_2 HNa_2 HVb_2 HNb_2 HVc_2 HNc_2 HBW_2
        clear HBp
        clear qa0 qa1 ta qb0 qb1 tb
        have qa0 := HVa_3.out.c0
        have qa1 := HVa_3.out.c1
        have ta := HVa_3.out.lt
        have qb0 := HVb_3.out.c0
        have qb1 := HVb_3.out.c1
        have tb := HVb_3.out.lt
        go_wp2_with fail
        refine (njoin (K := 15) mb HMB.out HNa_3.out.2 (by omega) HU.out).mono ?_
        rintro e w204 ⟨⟨bv4, sv4, lv4, cv4, rfl, hn⟩, hb⟩
        clear qa0 qa1 ta qb0 qb1 tb
        have qa0 := (HVa_3.out.below hb HVa_3.out.lt).c0
        have qa1 := (HVa_3.out.below hb HVa_3.out.lt).c1
        have ta := (HVa_3.out.below hb HVa_3.out.lt).lt
        have qb0 := (HVb_3.out.below hb HVb_3.out.lt).c0
        have qb1 := (HVb_3.out.below hb HVb_3.out.lt).c1
        have tb := (HVb_3.out.below hb HVb_3.out.lt).lt
        obtain ⟨W204, hW204⟩ : ∃ W, W = w204.alloc (.cells #[.bool bv4, .slice sv4 lv4 cv4] 25) := ⟨_, rfl⟩
        obtain ⟨gd, hgd⟩ : ∃ g, g = w204.heap.size := ⟨_, rfl⟩
        have HBW204 := Lib.hid (show Below wp.heap.size wp W204 by rw [hW204]; exact hb.alloc hb.size _)
        have HVn := Lib.hid (show VarAt W204 gd bv4 sv4 lv4 cv4 by rw [hW204, hgd]; exact VarAt.made _ _ _ _ _)
        have HNn := Lib.hid (show NumIs 15 W204 _ x by rw [hW204]; exact hn.alloc _)
        have HW204 := Lib.hid hW204
        have HGd := Lib.hid hgd
        clear hn hb hW204 hgd
        have HVa_4 := Lib.hid (HVa_3.out.below HBW204.out HVa_3.out.lt)
        have HNa_4 := Lib.hid (HNa_3.out.below HBW204.out)
        have HVb_4 := Lib.hid (HVb_3.out.below HBW204.out HVb_3.out.lt)
        have HNb_4 := Lib.hid (HNb_3.out.below HBW204.out)
        have HVc_4 := Lib.hid (HVc_3.out.below HBW204.out HVc_3.out.lt)
        have HNc_4 := Lib.hid (HNc_3.out.below HBW204.out)
        have HBW_4 := Lib.hid (HBW_3.out.trans (HBW204.out.mono HBW_3.out.size))
        clear HVa_3 HNa_3 HVb_3 HNb_3 HVc_3 HNc_3 HBW_3
        have HVd_4 := HVn
        have HNd_4 := HNn
        clear HVn HNn HBW204
        clear HU
        go_wp2_with fail
        rw [← HGd.out, ← HW204.out]
        refine (nsmallN HNa_4.out (by omega) HS.out).mono ?_
        rintro e w205 ⟨rfl, hb⟩
        have HBw205 := Lib.hid hb
        clear hb
        have HVa_5 := Lib.hid (HVa_4.out.below HBw205.out HVa_4.out.lt)
        have HNa_5 := Lib.hid (HNa_4.out.below HBw205.out)
        have HVb_5 := Lib.hid (HVb_4.out.below HBw205.out HVb_4.out.lt)
        have HNb_5 := Lib.hid (HNb_4.out.below HBw205.out)
        have HVc_5 := Lib.hid (HVc_4.out.below HBw205.out HVc_4.out.lt)
        have HNc_5 := Lib.hid (HNc_4.out.below HBw205.out)
        have HVd_5 := Lib.hid (HVd_4.out.below HBw205.out HVd_4.out.lt)
        have HNd_5 := Lib.hid (HNd_4.out.below HBw205.out)
        have HBW_5 := Lib.hid (HBW_4.out.trans (HBw205.out.mono HBW_4.out.size))
        clear HVa_4 HNa_4 HVb_4 HNb_4 HVc_4 HNc_4 HVd_4 HNd_4 HBW_4
        clear HBw205
        clear qa0 qa1 ta qb0 qb1 tb
        go_wp2_with fail
        go_big_unhide
        have HTB := Lib.hid (HT.out.below HBW_5.out)
        (try dsimp only [List.append])
        have BC := Lib.hid (show Below w205.heap.size w205 w205.drew from (Below.refl _ _).drew)
        refine wp_region_noPanic ?_
        refine wp_region_held_drew (S := fun w' => w'.cell? ⟨ga, 0, none⟩ = some (.bool b1) ∧ w'.cell? ⟨ga, 1, none⟩ = some (.slice s1 l1 c1) ∧ w'.cell? ⟨ga + 1, 0, none⟩ = some (.bool b2) ∧ w'.cell? ⟨ga + 1, 1, none⟩ = some (.slice s2 l2 c2) ∧ w'.cell? ⟨gc, 0, none⟩ = some (.bool bv2) ∧ w'.cell? ⟨gc, 1, none⟩ = some (.slice sv2 lv2 cv2) ∧ w'.cell? ⟨gd, 0, none⟩ = some (.bool bv4) ∧ w'.cell? ⟨gd, 1, none⟩ = some (.slice sv4 lv4 cv4)) (by kernel_rfl) (by (try dsimp only); exact ⟨(HVa_5.out.below BC.out HVa_5.out.lt).c0, (HVa_5.out.below BC.out HVa_5.out.lt).c1, (HVb_5.out.below BC.out HVb_5.out.lt).c0, (HVb_5.out.below BC.out HVb_5.out.lt).c1, (HVc_5.out.below BC.out HVc_5.out.lt).c0, (HVc_5.out.below BC.out HVc_5.out.lt).c1, (HVd_5.out.below BC.out HVd_5.out.lt).c0, (HVd_5.out.below BC.out HVd_5.out.lt).c1⟩) (fun hHeld => ?_)
        refine' take_any 0 50 (v := _) ?hic0 ?hdc0 (by kernel_rfl) (by kernel_rfl) (by kernel_rfl) (fun _ _ _ h => h) ?hyc0 hHeld ?hrc0
        case hic0 => (simp only [List.getElem?_toArray, List.getElem?_cons_zero]; rfl)
        case hdc0 => rfl
        case hyc0 =>
          refine' Or.inl ⟨?hwc0, ?hxc0⟩
          case hwc0 => rfl
          case hxc0 => (intro w hSw; (try dsimp only at hSw); go_simp; (try with_reducible rfl))
        (try simp only [Act.put, List.setIfInBounds_toArray, List.set_cons_zero, List.set_cons_succ])
        refine' take_any 1 51 (v := _) ?hic1 ?hdc1 (by kernel_rfl) (by kernel_rfl) (by kernel_rfl) (fun _ _ _ h => h) ?hyc1 hHeld ?hrc1
        case hic1 => (simp only [List.getElem?_toArray, List.getElem?_cons_succ, List.getElem?_cons_zero]; rfl)
        case hdc1 => rfl
        case hyc1 =>
          refine' Or.inl ⟨?hwc1, ?hxc1⟩
          case hwc1 => rfl
          case hxc1 => (intro w hSw; (try dsimp only at hSw); go_simp; (try with_reducible rfl))
        (try simp only [Act.put, List.setIfInBounds_toArray, List.set_cons_zero, List.set_cons_succ])
        refine' take_any 2 52 (v := _) ?hic2 ?hdc2 (by kernel_rfl) (by kernel_rfl) (by kernel_rfl) (fun _ _ _ h => h) ?hyc2 hHeld ?hrc2
        case hic2 => (simp only [List.getElem?_toArray, List.getElem?_cons_succ, List.getElem?_cons_zero]; rfl)
        case hdc2 => rfl
        case hyc2 =>
          refine' Or.inl ⟨?hwc2, ?hxc2⟩
          case hwc2 => rfl
          case hxc2 => (intro w hSw; (try dsimp only at hSw); go_simp; (try with_reducible rfl))
        (try simp only [Act.put, List.setIfInBounds_toArray, List.set_cons_zero, List.set_cons_succ])
        refine' take_any 3 53 (v := _) ?hic3 ?hdc3 (by kernel_rfl) (by kernel_rfl) (by kernel_rfl) (fun _ _ _ h => h) ?hyc3 hHeld ?hrc3
        case hic3 => (simp only [List.getElem?_toArray, List.getElem?_cons_succ, List.getElem?_cons_zero]; rfl)
        case hdc3 => rfl
        case hyc3 =>
          refine' Or.inl ⟨?hwc3, ?hxc3⟩
          case hwc3 => rfl
          case hxc3 => (intro w hSw; (try dsimp only at hSw); go_simp; (try with_reducible rfl))
        (try simp only [Act.put, List.setIfInBounds_toArray, List.set_cons_zero, List.set_cons_succ])
        refine' take_any 4 54 (v := _) ?hic4 ?hdc4 (by kernel_rfl) (by kernel_rfl) (by kernel_rfl) (fun _ _ _ h => h) ?hyc4 hHeld ?hrc4
        case hic4 => (simp only [List.getElem?_toArray, List.getElem?_cons_succ, List.getElem?_cons_zero]; rfl)
        case hdc4 => rfl
        case hyc4 =>
          refine' Or.inl ⟨?hwc4, ?hxc4⟩
          case hwc4 => rfl
          case hxc4 => (intro w hSw; (try dsimp only at hSw); go_simp; (try with_reducible rfl))
        (try simp only [Act.put, List.setIfInBounds_toArray, List.set_cons_zero, List.set_cons_succ])
        refine' take_any 5 55 (v := _) ?hic5 ?hdc5 (by kernel_rfl) (by kernel_rfl) (by kernel_rfl) (fun _ _ _ h => h) ?hyc5 hHeld ?hrc5
        case hic5 => (simp only [List.getElem?_toArray, List.getElem?_cons_succ, List.getElem?_cons_zero]; rfl)
        case hdc5 => rfl
        case hyc5 =>
          refine' Or.inl ⟨?hwc5, ?hxc5⟩
          case hwc5 => rfl
          case hxc5 => (intro w hSw; (try dsimp only at hSw); go_simp; (try with_reducible rfl))
        (try simp only [Act.put, List.setIfInBounds_toArray, List.set_cons_zero, List.set_cons_succ])
        refine' take_any 6 56 (v := _) ?hic6 ?hdc6 (by kernel_rfl) (by kernel_rfl) (by kernel_rfl) (fun _ _ _ h => h) ?hyc6 hHeld ?hrc6
        case hic6 => (simp only [List.getElem?_toArray, List.getElem?_cons_succ, List.getElem?_cons_zero]; rfl)
        case hdc6 => rfl
        case hyc6 =>
          refine' Or.inl ⟨?hwc6, ?hxc6⟩
          case hwc6 => rfl
          case hxc6 => (intro w hSw; (try dsimp only at hSw); go_simp; (try with_reducible rfl))
        (try simp only [Act.put, List.setIfInBounds_toArray, List.set_cons_zero, List.set_cons_succ])
        refine' take_any 7 57 (v := _) ?hic7 ?hdc7 (by kernel_rfl) (by kernel_rfl) (by kernel_rfl) (fun _ _ _ h => h) ?hyc7 hHeld ?hrc7
        case hic7 => (simp only [List.getElem?_toArray, List.getElem?_cons_succ, List.getElem?_cons_zero]; rfl)
        case hdc7 => rfl
        case hyc7 =>
          refine' Or.inl ⟨?hwc7, ?hxc7⟩
          case hwc7 => rfl
          case hxc7 => (intro w hSw; (try dsimp only at hSw); go_simp; (try with_reducible rfl))
        (try simp only [Act.put, List.setIfInBounds_toArray, List.set_cons_zero, List.set_cons_succ])
        refine' take_call 8 ?hic8 (by kernel_rfl) ?hrc8
        case hic8 => (simp only [List.getElem?_toArray, List.getElem?_cons_succ, List.getElem?_cons_zero]; rfl)
        intro K hK
        go_simp
        go_at_call 31
        refine (ncmpV (K := 16) (L := 15) (z := 0) (HNc_5.out.below BC.out) (HNa_5.out.below BC.out) (by omega) (by omega) (cmpZ_eq rfl)).mono ?_
        rintro e w101 ⟨rfl, hb⟩
        have HB1 := Lib.hid hb
        replace BC := Lib.hid (BC.out.trans (hb.mono BC.out.size))
        clear hb
        go_wp2_with fail
        clear hHeld
        refine hK.out _ _ (by (try dsimp only); exact ⟨(HVa_5.out.below BC.out HVa_5.out.lt).c0, (HVa_5.out.below BC.out HVa_5.out.lt).c1, (HVb_5.out.below BC.out HVb_5.out.lt).c0, (HVb_5.out.below BC.out HVb_5.out.lt).c1, (HVc_5.out.below BC.out HVc_5.out.lt).c0, (HVc_5.out.below BC.out HVc_5.out.lt).c1, (HVd_5.out.below BC.out HVd_5.out.lt).c0, (HVd_5.out.below BC.out HVd_5.out.lt).c1⟩) (fun hHeld => ?_)
        clear hK K
        (try simp only [Act.put, List.setIfInBounds_toArray, List.set_cons_zero, List.set_cons_succ])
        refine' take_any 9 59 (v := _) ?hic9 ?hdc9 (by kernel_rfl) (by kernel_rfl) (by kernel_rfl) (fun _ _ _ h => h) ?hyc9 hHeld ?hrc9
        case hic9 => (simp only [List.getElem?_toArray, List.getElem?_cons_succ, List.getElem?_cons_zero]; rfl)
        case hdc9 => rfl
        case hyc9 =>
          refine' Or.inl ⟨?hwc9, ?hxc9⟩
          case hwc9 => rfl
          case hxc9 => (intro w hSw; (try dsimp only at hSw); go_simp; (try with_reducible rfl))
        (try simp only [Act.put, List.setIfInBounds_toArray, List.set_cons_zero, List.set_cons_succ])
        refine' take_any 10 60 (v := _) ?hic10 ?hdc10 (by kernel_rfl) (by kernel_rfl) (by kernel_rfl) (fun _ _ _ h => h) ?hyc10 hHeld ?hrc10
        case hic10 => (simp only [List.getElem?_toArray, List.getElem?_cons_succ, List.getElem?_cons_zero]; rfl)
        case hdc10 => rfl
        case hyc10 =>
          refine' Or.inl ⟨?hwc10, ?hxc10⟩
          case hwc10 => rfl
          case hxc10 => (intro w hSw; (try dsimp only at hSw); go_simp; (try with_reducible rfl))
        (try simp only [Act.put, List.setIfInBounds_toArray, List.set_cons_zero, List.set_cons_succ])
        refine' take_any 11 61 (v := _) ?hic11 ?hdc11 (by kernel_rfl) (by kernel_rfl) (by kernel_rfl) (fun _ _ _ h => h) ?hyc11 hHeld ?hrc11
        case hic11 => (simp only [List.getElem?_toArray, List.getElem?_cons_succ, List.getElem?_cons_zero]; rfl)
        case hdc11 => rfl
        case hyc11 =>
          refine' Or.inl ⟨?hwc11, ?hxc11⟩
          case hwc11 => rfl
          case hxc11 => (intro w hSw; (try dsimp only at hSw); go_simp; (try with_reducible rfl))
        (try simp only [Act.put, List.setIfInBounds_toArray, List.set_cons_zero, List.set_cons_succ])
        refine' take_any 12 62 (v := _) ?hic12 ?hdc12 (by kernel_rfl) (by kernel_rfl) (by kernel_rfl) (fun _ _ _ h => h) ?hyc12 hHeld ?hrc12
        case hic12 => (simp only [List.getElem?_toArray, List.getElem?_cons_succ, List.getElem?_cons_zero]; rfl)
        case hdc12 => rfl
        case hyc12 =>
          refine' Or.inl ⟨?hwc12, ?hxc12⟩
          case hwc12 => rfl
          case hxc12 => (intro w hSw; (try dsimp only at hSw); go_simp; (try with_reducible rfl))
        (try simp only [Act.put, List.setIfInBounds_toArray, List.set_cons_zero, List.set_cons_succ])
        refine' take_any 13 63 (v := _) ?hic13 ?hdc13 (by kernel_rfl) (by kernel_rfl) (by kernel_rfl) (fun _ _ _ h => h) ?hyc13 hHeld ?hrc13
        case hic13 => (simp only [List.getElem?_toArray, List.getElem?_cons_succ, List.getElem?_cons_zero]; rfl)
        case hdc13 => rfl
        case hyc13 =>
          refine' Or.inl ⟨?hwc13, ?hxc13⟩
          case hwc13 => rfl
          case hxc13 => (intro w hSw; (try dsimp only at hSw); go_simp; (try with_reducible rfl))
        (try simp only [Act.put, List.setIfInBounds_toArray, List.set_cons_zero, List.set_cons_succ])
        refine' take_any 14 64 (v := _) ?hic14 ?hdc14 (by kernel_rfl) (by kernel_rfl) (by kernel_rfl) (fun _ _ _ h => h) ?hyc14 hHeld ?hrc14
        case hic14 => (simp only [List.getElem?_toArray, List.getElem?_cons_succ, List.getElem?_cons_zero]; rfl)
        case hdc14 => rfl
        case hyc14 =>
          refine' Or.inl ⟨?hwc14, ?hxc14⟩
          case hwc14 => rfl
          case hxc14 => (intro w hSw; (try dsimp only at hSw); go_simp; (try with_reducible rfl))
        (try simp only [Act.put, List.setIfInBounds_toArray, List.set_cons_zero, List.set_cons_succ])
        refine' take_any 15 65 (v := _) ?hic15 ?hdc15 (by kernel_rfl) (by kernel_rfl) (by kernel_rfl) (fun _ _ _ h => h) ?hyc15 hHeld ?hrc15
        case hic15 => (simp only [List.getElem?_toArray, List.getElem?_cons_succ, List.getElem?_cons_zero]; rfl)
        case hdc15 => rfl
        case hyc15 =>
          refine' Or.inl ⟨?hwc15, ?hxc15⟩
          case hwc15 => rfl
          case hxc15 => (intro w hSw; (try dsimp only at hSw); go_simp; (try with_reducible rfl))
        (try simp only [Act.put, List.setIfInBounds_toArray, List.set_cons_zero, List.set_cons_succ])
        refine' take_any 16 66 (v := _) ?hic16 ?hdc16 (by kernel_rfl) (by kernel_rfl) (by kernel_rfl) (fun _ _ _ h => h) ?hyc16 hHeld ?hrc16
        case hic16 => (simp only [List.getElem?_toArray, List.getElem?_cons_succ, List.getElem?_cons_zero]; rfl)
        case hdc16 => rfl
        case hyc16 =>
          refine' Or.inl ⟨?hwc16, ?hxc16⟩
          case hwc16 => rfl
          case hxc16 => (intro w hSw; (try dsimp only at hSw); go_simp; (try with_reducible rfl))
        (try simp only [Act.put, List.setIfInBounds_toArray, List.set_cons_zero, List.set_cons_succ])
        refine' take_any 17 67 (v := _) ?hic17 ?hdc17 (by kernel_rfl) (by kernel_rfl) (by kernel_rfl) (fun _ _ _ h => h) ?hyc17 hHeld ?hrc17
        case hic17 => (simp only [List.getElem?_toArray, List.getElem?_cons_succ, List.getElem?_cons_zero]; rfl)
        case hdc17 => rfl
        case hyc17 =>
          refine' Or.inl ⟨?hwc17, ?hxc17⟩
          case hwc17 => rfl
          case hxc17 => (intro w hSw; (try dsimp only at hSw); go_simp; (try with_reducible rfl))
        (try simp only [Act.put, List.setIfInBounds_toArray, List.set_cons_zero, List.set_cons_succ])
        refine' take_call 18 ?hic18 (by kernel_rfl) ?hrc18
        case hic18 => (simp only [List.getElem?_toArray, List.getElem?_cons_succ, List.getElem?_cons_zero]; rfl)
        intro K hK
        go_simp
        have _hb := HB1.out
        clear _hb
        go_at_call 31
        refine (ncmpV (K := 15) (L := 15) (z := 0) (HNd_5.out.below BC.out) (HNa_5.out.below BC.out) (by omega) (by omega) (cmpZ_eq rfl)).mono ?_
        rintro e w102 ⟨rfl, hb⟩
        have HB2 := Lib.hid hb
        replace BC := Lib.hid (BC.out.trans (hb.mono BC.out.size))
        clear hb
        go_wp2_with fail
        clear hHeld
        refine hK.out _ _ (by (try dsimp only); exact ⟨(HVa_5.out.below BC.out HVa_5.out.lt).c0, (HVa_5.out.below BC.out HVa_5.out.lt).c1, (HVb_5.out.below BC.out HVb_5.out.lt).c0, (HVb_5.out.below BC.out HVb_5.out.lt).c1, (HVc_5.out.below BC.out HVc_5.out.lt).c0, (HVc_5.out.below BC.out HVc_5.out.lt).c1, (HVd_5.out.below BC.out HVd_5.out.lt).c0, (HVd_5.out.below BC.out HVd_5.out.lt).c1⟩) (fun hHeld => ?_)
        clear hK K
        (try simp only [Act.put, List.setIfInBounds_toArray, List.set_cons_zero, List.set_cons_succ])
        refine' take_any 19 69 (v := _) ?hic19 ?hdc19 (by kernel_rfl) (by kernel_rfl) (by kernel_rfl) (fun _ _ _ h => h) ?hyc19 hHeld ?hrc19
        case hic19 => (simp only [List.getElem?_toArray, List.getElem?_cons_succ, List.getElem?_cons_zero]; rfl)
        case hdc19 => rfl
        case hyc19 =>
          refine' Or.inl ⟨?hwc19, ?hxc19⟩
          case hwc19 => rfl
          case hxc19 => (intro w hSw; (try dsimp only at hSw); go_simp; (try with_reducible rfl))
        (try simp only [Act.put, List.setIfInBounds_toArray, List.set_cons_zero, List.set_cons_succ])
        refine' take_any 20 70 (v := _) ?hic20 ?hdc20 (by kernel_rfl) (by kernel_rfl) (by kernel_rfl) (fun _ _ _ h => h) ?hyc20 hHeld ?hrc20
        case hic20 => (simp only [List.getElem?_toArray, List.getElem?_cons_succ, List.getElem?_cons_zero]; rfl)
        case hdc20 => rfl
        case hyc20 =>
          refine' Or.inl ⟨?hwc20, ?hxc20⟩
          case hwc20 => rfl
          case hxc20 => (intro w hSw; (try dsimp only at hSw); go_simp; (try with_reducible rfl))
        (try simp only [Act.put, List.setIfInBounds_toArray, List.set_cons_zero, List.set_cons_succ])
        refine' take_any 21 71 (v := _) ?hic21 ?hdc21 (by kernel_rfl) (by kernel_rfl) (by kernel_rfl) (fun _ _ _ h => h) ?hyc21 hHeld ?hrc21
        case hic21 => (simp only [List.getElem?_toArray, List.getElem?_cons_succ, List.getElem?_cons_zero]; rfl)
        case hdc21 => rfl
        case hyc21 =>
          refine' Or.inl ⟨?hwc21, ?hxc21⟩
          case hwc21 => rfl
          case hxc21 => (intro w hSw; (try dsimp only at hSw); go_simp; (try with_reducible rfl))
        (try simp only [Act.put, List.setIfInBounds_toArray, List.set_cons_zero, List.set_cons_succ])
        refine' take_any 22 72 (v := _) ?hic22 ?hdc22 (by kernel_rfl) (by kernel_rfl) (by kernel_rfl) (fun _ _ _ h => h) ?hyc22 hHeld ?hrc22
        case hic22 => (simp only [List.getElem?_toArray, List.getElem?_cons_succ, List.getElem?_cons_zero]; rfl)
        case hdc22 => rfl
        case hyc22 =>
          refine' Or.inl ⟨?hwc22, ?hxc22⟩
          case hwc22 => rfl
          case hxc22 => (intro w hSw; (try dsimp only at hSw); go_simp; (try with_reducible rfl))
        (try simp only [Act.put, List.setIfInBounds_toArray, List.set_cons_zero, List.set_cons_succ])
        refine' take_any 24 74 (v := _) ?hic24 ?hdc24 (by kernel_rfl) (by kernel_rfl) (by kernel_rfl) (fun _ _ _ h => h) ?hyc24 hHeld ?hrc24
        case hic24 => (simp only [List.getElem?_toArray, List.getElem?_cons_succ, List.getElem?_cons_zero]; rfl)
        case hdc24 => rfl
        case hyc24 =>
          refine' Or.inl ⟨?hwc24, ?hxc24⟩
          case hwc24 => rfl
          case hxc24 => (intro w hSw; (try dsimp only at hSw); go_simp; (try with_reducible rfl))
        (try simp only [Act.put, List.setIfInBounds_toArray, List.set_cons_zero, List.set_cons_succ])
        refine' take_any 27 77 (v := _) ?hic27 ?hdc27 (by kernel_rfl) (by kernel_rfl) (by kernel_rfl) (fun _ _ _ h => h) ?hyc27 hHeld ?hrc27
        case hic27 => (simp only [List.getElem?_toArray, List.getElem?_cons_succ, List.getElem?_cons_zero]; rfl)
        case hdc27 => rfl
        case hyc27 =>
          refine' Or.inl ⟨?hwc27, ?hxc27⟩
          case hwc27 => rfl
          case hxc27 => (intro w hSw; (try dsimp only at hSw); go_simp; (try with_reducible rfl))
        (try simp only [Act.put, List.setIfInBounds_toArray, List.set_cons_zero, List.set_cons_succ])
        refine' take_any 28 78 (v := _) ?hic28 ?hdc28 (by kernel_rfl) (by kernel_rfl) (by kernel_rfl) (fun _ _ _ h => h) ?hyc28 hHeld ?hrc28
        case hic28 => (simp only [List.getElem?_toArray, List.getElem?_cons_succ, List.getElem?_cons_zero]; rfl)
        case hdc28 => rfl
        case hyc28 =>
          refine' Or.inl ⟨?hwc28, ?hxc28⟩
          case hwc28 => rfl
          case hxc28 => (intro w hSw; (try dsimp only at hSw); go_simp; (try with_reducible rfl))
        (try simp only [Act.put, List.setIfInBounds_toArray, List.set_cons_zero, List.set_cons_succ])
        refine' take_call 23 ?hic23 (by kernel_rfl) ?hrc23
        case hic23 => (simp only [List.getElem?_toArray, List.getElem?_cons_succ, List.getElem?_cons_zero]; rfl)
        intro K hK
        go_simp
        have _hb := HB2.out
        clear _hb
        go_at_call 11
        refine (ntextS (K := 15) SA HSA.out (HNa_5.out.below BC.out) (by omega) (HTB.out.below BC.out)).mono ?_
        rintro e w103 ⟨rfl, hb⟩
        have HB3 := Lib.hid hb
        replace BC := Lib.hid (BC.out.trans (hb.mono BC.out.size))
        clear hb
        go_wp2_with fail
        clear hHeld
        refine hK.out _ _ (by (try dsimp only); exact ⟨(HVa_5.out.below BC.out HVa_5.out.lt).c0, (HVa_5.out.below BC.out HVa_5.out.lt).c1, (HVb_5.out.below BC.out HVb_5.out.lt).c0, (HVb_5.out.below BC.out HVb_5.out.lt).c1, (HVc_5.out.below BC.out HVc_5.out.lt).c0, (HVc_5.out.below BC.out HVc_5.out.lt).c1, (HVd_5.out.below BC.out HVd_5.out.lt).c0, (HVd_5.out.below BC.out HVd_5.out.lt).c1⟩) (fun hHeld => ?_)
        clear hK K
        (try simp only [Act.put, List.setIfInBounds_toArray, List.set_cons_zero, List.set_cons_succ])
        refine' take_call 25 ?hic25 (by kernel_rfl) ?hrc25
        case hic25 => (simp only [List.getElem?_toArray, List.getElem?_cons_succ, List.getElem?_cons_zero]; rfl)
        intro K hK
        go_simp
        have _hb := HB3.out
        clear _hb
        go_at_call 11
        refine (ntextS (K := 15) SB HSB.out (HNb_5.out.below BC.out) (by omega) (HTB.out.below BC.out)).mono ?_
        rintro e w104 ⟨rfl, hb⟩
        have HB4 := Lib.hid hb
        replace BC := Lib.hid (BC.out.trans (hb.mono BC.out.size))
        clear hb
        go_wp2_with fail
        clear hHeld
        refine hK.out _ _ (by (try dsimp only); exact ⟨(HVa_5.out.below BC.out HVa_5.out.lt).c0, (HVa_5.out.below BC.out HVa_5.out.lt).c1, (HVb_5.out.below BC.out HVb_5.out.lt).c0, (HVb_5.out.below BC.out HVb_5.out.lt).c1, (HVc_5.out.below BC.out HVc_5.out.lt).c0, (HVc_5.out.below BC.out HVc_5.out.lt).c1, (HVd_5.out.below BC.out HVd_5.out.lt).c0, (HVd_5.out.below BC.out HVd_5.out.lt).c1⟩) (fun hHeld => ?_)
        clear hK K
        (try simp only [Act.put, List.setIfInBounds_toArray, List.set_cons_zero, List.set_cons_succ])
        refine' take_any 26 76 (v := _) ?hic26 ?hdc26 (by kernel_rfl) (by kernel_rfl) (by kernel_rfl) (fun _ _ _ h => h) ?hyc26 hHeld ?hrc26
        case hic26 => (simp only [List.getElem?_toArray, List.getElem?_cons_succ, List.getElem?_cons_zero]; rfl)
        case hdc26 => rfl
        case hyc26 =>
          refine' Or.inl ⟨?hwc26, ?hxc26⟩
          case hwc26 => rfl
          case hxc26 => (intro w hSw; (try dsimp only at hSw); go_simp; (try with_reducible rfl))
        (try simp only [Act.put, List.setIfInBounds_toArray, List.set_cons_zero, List.set_cons_succ])
        refine' take_call 29 ?hic29 (by kernel_rfl) ?hrc29
        case hic29 => (simp only [List.getElem?_toArray, List.getElem?_cons_succ, List.getElem?_cons_zero]; rfl)
        intro K hK
        go_simp
        have _hb := HB4.out
        clear _hb
        go_at_call 31
        refine (ncmpV (K := 15) (L := 15) (z := (-1)) (HNa_5.out.below BC.out) (HNb_5.out.below BC.out) (by omega) (by omega) (cmpZ_neg HR.out)).mono ?_
        rintro e w105 ⟨rfl, hb⟩
        have HB5 := Lib.hid hb
        replace BC := Lib.hid (BC.out.trans (hb.mono BC.out.size))
        clear hb
        go_wp2_with fail
        clear hHeld
        refine hK.out _ _ (by (try dsimp only); exact ⟨(HVa_5.out.below BC.out HVa_5.out.lt).c0, (HVa_5.out.below BC.out HVa_5.out.lt).c1, (HVb_5.out.below BC.out HVb_5.out.lt).c0, (HVb_5.out.below BC.out HVb_5.out.lt).c1, (HVc_5.out.below BC.out HVc_5.out.lt).c0, (HVc_5.out.below BC.out HVc_5.out.lt).c1, (HVd_5.out.below BC.out HVd_5.out.lt).c0, (HVd_5.out.below BC.out HVd_5.out.lt).c1⟩) (fun hHeld => ?_)
        clear hK K
        (try simp only [Act.put, List.setIfInBounds_toArray, List.set_cons_zero, List.set_cons_succ])
        refine' take_any 30 80 (v := _) ?hic30 ?hdc30 (by kernel_rfl) (by kernel_rfl) (by kernel_rfl) (fun _ _ _ h => h) ?hyc30 hHeld ?hrc30
        case hic30 => (simp only [List.getElem?_toArray, List.getElem?_cons_succ, List.getElem?_cons_zero]; rfl)
        case hdc30 => rfl
        case hyc30 =>
          refine' Or.inl ⟨?hwc30, ?hxc30⟩
          case hwc30 => rfl
          case hxc30 => (intro w hSw; (try dsimp only at hSw); go_simp; (try with_reducible rfl))
        (try simp only [Act.put, List.setIfInBounds_toArray, List.set_cons_zero, List.set_cons_succ])
        refine' take_any 31 81 (v := _) ?hic31 ?hdc31 (by kernel_rfl) (by kernel_rfl) (by kernel_rfl) (fun _ _ _ h => h) ?hyc31 hHeld ?hrc31
        case hic31 => (simp only [List.getElem?_toArray, List.getElem?_cons_succ, List.getElem?_cons_zero]; rfl)
        case hdc31 => rfl
        case hyc31 =>
          refine' Or.inl ⟨?hwc31, ?hxc31⟩
          case hwc31 => rfl
          case hxc31 => (intro w hSw; (try dsimp only at hSw); go_simp; (try with_reducible rfl))
        (try simp only [Act.put, List.setIfInBounds_toArray, List.set_cons_zero, List.set_cons_succ])
        refine' take_any 32 82 (v := _) ?hic32 ?hdc32 (by kernel_rfl) (by kernel_rfl) (by kernel_rfl) (fun _ _ _ h => h) ?hyc32 hHeld ?hrc32
        case hic32 => (simp only [List.getElem?_toArray, List.getElem?_cons_succ, List.getElem?_cons_zero]; rfl)
        case hdc32 => rfl
        case hyc32 =>
          refine' Or.inl ⟨?hwc32, ?hxc32⟩
          case hwc32 => rfl
          case hxc32 => (intro w hSw; (try dsimp only at hSw); go_simp; (try with_reducible rfl))
        (try simp only [Act.put, List.setIfInBounds_toArray, List.set_cons_zero, List.set_cons_succ])
        refine' take_any 33 83 (v := _) ?hic33 ?hdc33 (by kernel_rfl) (by kernel_rfl) (by kernel_rfl) (fun _ _ _ h => h) ?hyc33 hHeld ?hrc33
        case hic33 => (simp only [List.getElem?_toArray, List.getElem?_cons_succ, List.getElem?_cons_zero]; rfl)
        case hdc33 => rfl
        case hyc33 =>
          refine' Or.inl ⟨?hwc33, ?hxc33⟩
          case hwc33 => rfl
          case hxc33 => (intro w hSw; (try dsimp only at hSw); go_simp; (try with_reducible rfl))
        (try simp only [Act.put, List.setIfInBounds_toArray, List.set_cons_zero, List.set_cons_succ])
        refine' take_any 34 84 (v := _) ?hic34 ?hdc34 (by kernel_rfl) (by kernel_rfl) (by kernel_rfl) (fun _ _ _ h => h) ?hyc34 hHeld ?hrc34
        case hic34 => (simp only [List.getElem?_toArray, List.getElem?_cons_succ, List.getElem?_cons_zero]; rfl)
        case hdc34 => rfl
        case hyc34 =>
          refine' Or.inl ⟨?hwc34, ?hxc34⟩
          case hwc34 => rfl
          case hxc34 => (intro w hSw; (try dsimp only at hSw); go_simp; (try with_reducible rfl))
        (try simp only [Act.put, List.setIfInBounds_toArray, List.set_cons_zero, List.set_cons_succ])
        refine' take_any 35 85 (v := _) ?hic35 ?hdc35 (by kernel_rfl) (by kernel_rfl) (by kernel_rfl) (fun _ _ _ h => h) ?hyc35 hHeld ?hrc35
        case hic35 => (simp only [List.getElem?_toArray, List.getElem?_cons_succ, List.getElem?_cons_zero]; rfl)
        case hdc35 => rfl
        case hyc35 =>
          refine' Or.inl ⟨?hwc35, ?hxc35⟩
          case hwc35 => rfl
          case hxc35 => (intro w hSw; (try dsimp only at hSw); go_simp; (try with_reducible rfl))
        (try simp only [Act.put, List.setIfInBounds_toArray, List.set_cons_zero, List.set_cons_succ])
        refine' take_any 37 87 (v := _) ?hic37 ?hdc37 (by kernel_rfl) (by kernel_rfl) (by kernel_rfl) (fun _ _ _ h => h) ?hyc37 hHeld ?hrc37
        case hic37 => (simp only [List.getElem?_toArray, List.getElem?_cons_succ, List.getElem?_cons_zero]; rfl)
        case hdc37 => rfl
        case hyc37 =>
          refine' Or.inl ⟨?hwc37, ?hxc37⟩
          case hwc37 => rfl
          case hxc37 => (intro w hSw; (try dsimp only at hSw); go_simp; (try with_reducible rfl))
        (try simp only [Act.put, List.setIfInBounds_toArray, List.set_cons_zero, List.set_cons_succ])
        refine' take_any 38 88 (v := _) ?hic38 ?hdc38 (by kernel_rfl) (by kernel_rfl) (by kernel_rfl) (fun _ _ _ h => h) ?hyc38 hHeld ?hrc38
        case hic38 => (simp only [List.getElem?_toArray, List.getElem?_cons_succ, List.getElem?_cons_zero]; rfl)
        case hdc38 => rfl
        case hyc38 =>
          refine' Or.inl ⟨?hwc38, ?hxc38⟩
          case hwc38 => rfl
          case hxc38 => (intro w hSw; (try dsimp only at hSw); go_simp; (try with_reducible rfl))
        (try simp only [Act.put, List.setIfInBounds_toArray, List.set_cons_zero, List.set_cons_succ])
        refine' take_call 36 ?hic36 (by kernel_rfl) ?hrc36
        case hic36 => (simp only [List.getElem?_toArray, List.getElem?_cons_succ, List.getElem?_cons_zero]; rfl)
        intro K hK
        go_simp
        have _hb := HB5.out
        clear _hb
        go_at_call 31
        refine (ncmpV (K := 15) (L := 15) (z := (-1)) (HNa_5.out.below BC.out) (HNb_5.out.below BC.out) (by omega) (by omega) (cmpZ_neg HR.out)).mono ?_
        rintro e w106 ⟨rfl, hb⟩
        have HB6 := Lib.hid hb
        replace BC := Lib.hid (BC.out.trans (hb.mono BC.out.size))
        clear hb
        go_wp2_with fail
        clear hHeld
        refine hK.out _ _ (by (try dsimp only); exact ⟨(HVa_5.out.below BC.out HVa_5.out.lt).c0, (HVa_5.out.below BC.out HVa_5.out.lt).c1, (HVb_5.out.below BC.out HVb_5.out.lt).c0, (HVb_5.out.below BC.out HVb_5.out.lt).c1, (HVc_5.out.below BC.out HVc_5.out.lt).c0, (HVc_5.out.below BC.out HVc_5.out.lt).c1, (HVd_5.out.below BC.out HVd_5.out.lt).c0, (HVd_5.out.below BC.out HVd_5.out.lt).c1⟩) (fun hHeld => ?_)
        clear hK K
        (try simp only [Act.put, List.setIfInBounds_toArray, List.set_cons_zero, List.set_cons_succ])
        refine' take_call 39 ?hic39 (by kernel_rfl) ?hrc39
        case hic39 => (simp only [List.getElem?_toArray, List.getElem?_cons_succ, List.getElem?_cons_zero]; rfl)
        intro K hK
        go_simp
        have _hb := HB6.out
        clear _hb
        go_at_call 31
        refine (ncmpV (K := 15) (L := 15) (z := 1) (HNb_5.out.below BC.out) (HNa_5.out.below BC.out) (by omega) (by omega) (cmpZ_pos HR.out)).mono ?_
        rintro e w107 ⟨rfl, hb⟩
        have HB7 := Lib.hid hb
        replace BC := Lib.hid (BC.out.trans (hb.mono BC.out.size))
        clear hb
        go_wp2_with fail
        clear hHeld
        refine hK.out _ _ (by (try dsimp only); exact ⟨(HVa_5.out.below BC.out HVa_5.out.lt).c0, (HVa_5.out.below BC.out HVa_5.out.lt).c1, (HVb_5.out.below BC.out HVb_5.out.lt).c0, (HVb_5.out.below BC.out HVb_5.out.lt).c1, (HVc_5.out.below BC.out HVc_5.out.lt).c0, (HVc_5.out.below BC.out HVc_5.out.lt).c1, (HVd_5.out.below BC.out HVd_5.out.lt).c0, (HVd_5.out.below BC.out HVd_5.out.lt).c1⟩) (fun hHeld => ?_)
        clear hK K
        (try simp only [Act.put, List.setIfInBounds_toArray, List.set_cons_zero, List.set_cons_succ])
        refine' take_any 40 90 (v := _) ?hic40 ?hdc40 (by kernel_rfl) (by kernel_rfl) (by kernel_rfl) (fun _ _ _ h => h) ?hyc40 hHeld ?hrc40
        case hic40 => (simp only [List.getElem?_toArray, List.getElem?_cons_succ, List.getElem?_cons_zero]; rfl)
        case hdc40 => rfl
        case hyc40 =>
          refine' Or.inl ⟨?hwc40, ?hxc40⟩
          case hwc40 => rfl
          case hxc40 => (intro w hSw; (try dsimp only at hSw); go_simp; (try with_reducible rfl))
        (try simp only [Act.put, List.setIfInBounds_toArray, List.set_cons_zero, List.set_cons_succ])
        refine' take_any 41 91 (v := _) ?hic41 ?hdc41 (by kernel_rfl) (by kernel_rfl) (by kernel_rfl) (fun _ _ _ h => h) ?hyc41 hHeld ?hrc41
        case hic41 => (simp only [List.getElem?_toArray, List.getElem?_cons_succ, List.getElem?_cons_zero]; rfl)
        case hdc41 => rfl
        case hyc41 =>
          refine' Or.inl ⟨?hwc41, ?hxc41⟩
          case hwc41 => rfl
          case hxc41 => (intro w hSw; (try dsimp only at hSw); go_simp; (try with_reducible rfl))
        (try simp only [Act.put, List.setIfInBounds_toArray, List.set_cons_zero, List.set_cons_succ])
        refine' take_any 42 92 (v := _) ?hic42 ?hdc42 (by kernel_rfl) (by kernel_rfl) (by kernel_rfl) (fun _ _ _ h => h) ?hyc42 hHeld ?hrc42
        case hic42 => (simp only [List.getElem?_toArray, List.getElem?_cons_succ, List.getElem?_cons_zero]; rfl)
        case hdc42 => rfl
        case hyc42 =>
          refine' Or.inl ⟨?hwc42, ?hxc42⟩
          case hwc42 => rfl
          case hxc42 => (intro w hSw; (try dsimp only at hSw); go_simp; (try with_reducible rfl))
        (try simp only [Act.put, List.setIfInBounds_toArray, List.set_cons_zero, List.set_cons_succ])
        refine' take_any 43 93 (v := _) ?hic43 ?hdc43 (by kernel_rfl) (by kernel_rfl) (by kernel_rfl) (fun _ _ _ h => h) ?hyc43 hHeld ?hrc43
        case hic43 => (simp only [List.getElem?_toArray, List.getElem?_cons_succ, List.getElem?_cons_zero]; rfl)
        case hdc43 => rfl
        case hyc43 =>
          refine' Or.inl ⟨?hwc43, ?hxc43⟩
          case hwc43 => rfl
          case hxc43 => (intro w hSw; (try dsimp only at hSw); go_simp; (try with_reducible rfl))
        (try simp only [Act.put, List.setIfInBounds_toArray, List.set_cons_zero, List.set_cons_succ])
        refine' take_any 44 94 (v := _) ?hic44 ?hdc44 (by kernel_rfl) (by kernel_rfl) (by kernel_rfl) (fun _ _ _ h => h) ?hyc44 hHeld ?hrc44
        case hic44 => (simp only [List.getElem?_toArray, List.getElem?_cons_succ, List.getElem?_cons_zero]; rfl)
        case hdc44 => rfl
        case hyc44 =>
          refine' Or.inl ⟨?hwc44, ?hxc44⟩
          case hwc44 => rfl
          case hxc44 => (intro w hSw; (try dsimp only at hSw); go_simp; (try with_reducible rfl))
        (try simp only [Act.put, List.setIfInBounds_toArray, List.set_cons_zero, List.set_cons_succ])
        refine' take_any 45 95 (v := _) ?hic45 ?hdc45 (by kernel_rfl) (by kernel_rfl) (by kernel_rfl) (fun _ _ _ h => h) ?hyc45 hHeld ?hrc45
        case hic45 => (simp only [List.getElem?_toArray, List.getElem?_cons_succ, List.getElem?_cons_zero]; rfl)
        case hdc45 => rfl
        case hyc45 =>
          refine' Or.inl ⟨?hwc45, ?hxc45⟩
          case hwc45 => rfl
          case hxc45 => (intro w hSw; (try dsimp only at hSw); go_simp; (try with_reducible rfl))
        (try simp only [Act.put, List.setIfInBounds_toArray, List.set_cons_zero, List.set_cons_succ])
        refine' take_any 46 96 (v := _) ?hic46 ?hdc46 (by kernel_rfl) (by kernel_rfl) (by kernel_rfl) (fun _ _ _ h => h) ?hyc46 hHeld ?hrc46
        case hic46 => (simp only [List.getElem?_toArray, List.getElem?_cons_succ, List.getElem?_cons_zero]; rfl)
        case hdc46 => rfl
        case hyc46 =>
          refine' Or.inl ⟨?hwc46, ?hxc46⟩
          case hwc46 => rfl
          case hxc46 => (intro w hSw; (try dsimp only at hSw); go_simp; (try with_reducible rfl))
        (try simp only [Act.put, List.setIfInBounds_toArray, List.set_cons_zero, List.set_cons_succ])
        refine' take_any 47 97 (v := undef) ?hic47 ?hdc47 (by kernel_rfl) (by kernel_rfl) (by kernel_rfl) (fun _ _ _ h => h) ?hyc47 hHeld ?hrc47
        case hic47 => (simp only [List.getElem?_toArray, List.getElem?_cons_succ, List.getElem?_cons_zero]; rfl)
        case hdc47 => rfl
        case hyc47 => exact Or.inr ⟨by rfl, rfl⟩
        (try simp only [Act.put, List.setIfInBounds_toArray, List.set_cons_zero, List.set_cons_succ])
        refine' take_any 49 99 (v := undef) ?hic49 ?hdc49 (by kernel_rfl) (by kernel_rfl) (by kernel_rfl) (fun _ _ _ h => h) ?hyc49 hHeld ?hrc49
        case hic49 => (simp only [List.getElem?_toArray, List.getElem?_cons_succ, List.getElem?_cons_zero]; rfl)
        case hdc49 => rfl
        case hyc49 => exact Or.inr ⟨by rfl, rfl⟩
        (try simp only [Act.put, List.setIfInBounds_toArray, List.set_cons_zero, List.set_cons_succ])
        refine' take_any 48 98 (v := undef) ?hic48 ?hdc48 (by kernel_rfl) (by kernel_rfl) (by kernel_rfl) (fun _ _ _ h => h) ?hyc48 hHeld ?hrc48
        case hic48 => (simp only [List.getElem?_toArray, List.getElem?_cons_succ, List.getElem?_cons_zero]; rfl)
        case hdc48 => rfl
        case hyc48 => exact Or.inr ⟨by rfl, rfl⟩
        (try simp only [Act.put, List.setIfInBounds_toArray, List.set_cons_zero, List.set_cons_succ])
        refine' take_any 50 100 (v := undef) ?hic50 ?hdc50 (by kernel_rfl) (by kernel_rfl) (by kernel_rfl) (fun _ _ _ h => h) ?hyc50 hHeld ?hrc50
        case hic50 => (simp only [List.getElem?_toArray, List.getElem?_cons_succ, List.getElem?_cons_zero]; rfl)
        case hdc50 => rfl
        case hyc50 => exact Or.inr ⟨by rfl, rfl⟩
        (try simp only [Act.put, List.setIfInBounds_toArray, List.set_cons_zero, List.set_cons_succ])
        refine' take_any 51 101 (v := undef) ?hic51 ?hdc51 (by kernel_rfl) (by kernel_rfl) (by kernel_rfl) (fun _ _ _ h => h) ?hyc51 hHeld ?hrc51
        case hic51 => (simp only [List.getElem?_toArray, List.getElem?_cons_succ, List.getElem?_cons_zero]; rfl)
        case hdc51 => rfl
        case hyc51 => exact Or.inr ⟨by rfl, rfl⟩
        (try simp only [Act.put, List.setIfInBounds_toArray, List.set_cons_zero, List.set_cons_succ])
        refine' take_any 52 102 (v := _) ?hic52 ?hdc52 (by kernel_rfl) (by kernel_rfl) (by kernel_rfl) (fun _ _ _ h => h) ?hyc52 hHeld ?hrc52
        case hic52 => (simp only [List.getElem?_toArray, List.getElem?_cons_succ, List.getElem?_cons_zero]; rfl)
        case hdc52 => rfl
        case hyc52 =>
          refine' Or.inl ⟨?hwc52, ?hxc52⟩
          case hwc52 => rfl
          case hxc52 => (intro w hSw; (try dsimp only at hSw); go_simp; (try with_reducible rfl))
        (try simp only [Act.put, List.setIfInBounds_toArray, List.set_cons_zero, List.set_cons_succ])
        refine' take_any 53 103 (v := _) ?hic53 ?hdc53 (by kernel_rfl) (by kernel_rfl) (by kernel_rfl) (fun _ _ _ h => h) ?hyc53 hHeld ?hrc53
        case hic53 => (simp only [List.getElem?_toArray, List.getElem?_cons_succ, List.getElem?_cons_zero]; rfl)
        case hdc53 => rfl
        case hyc53 =>
          refine' Or.inl ⟨?hwc53, ?hxc53⟩
          case hwc53 => rfl
          case hxc53 => (intro w hSw; (try dsimp only at hSw); go_simp; (try with_reducible rfl))
        (try simp only [Act.put, List.setIfInBounds_toArray, List.set_cons_zero, List.set_cons_succ])
        refine' take_any 54 4 (v := _) ?hic54 ?hdc54 (by kernel_rfl) (by kernel_rfl) (by kernel_rfl) (fun _ _ _ h => h) ?hyc54 hHeld ?hrc54
        case hic54 => (simp only [List.getElem?_toArray, List.getElem?_cons_succ, List.getElem?_cons_zero]; rfl)
        case hdc54 => rfl
        case hyc54 =>
          refine' Or.inl ⟨?hwc54, ?hxc54⟩
          case hwc54 => rfl
          case hxc54 => (intro w hSw; (try dsimp only at hSw); go_simp; (try with_reducible rfl))
        (try simp only [Act.put, List.setIfInBounds_toArray, List.set_cons_zero, List.set_cons_succ])
        refine wpAnyH_done (by kernel_rfl) ?_ _
        refine NoPanic.normal ?_
        go_wp2
        go_ret
        exact ⟨rfl, HBW_5.out.trans (BC.out.mono HBW_5.out.size)⟩
  · have HR := Lib.hid hr
    obtain rfl : SA = SB := by rw [← HSA.out, ← HSB.out, hr]
    clear hr
    cases hs : smallB x with
    | true =>
      have HS := Lib.hid hs
      clear hs
      as_aux_lemma =>
        go_wp2_with fail
        rw [← HG.out, ← HW.out]
        refine (ntextS (K := 15) SA HSA.out HNA.out (by omega) (HT.out.below HBW.out)).mono ?_
        rintro e w201 ⟨rfl, hb⟩
        have HBw201 := Lib.hid hb
        clear hb
        have HVa_1 := Lib.hid (HVA.out.below HBw201.out HVA.out.lt)
        have HNa_1 := Lib.hid (HNA.out.below HBw201.out)
        have HVb_1 := Lib.hid (HVB.out.below HBw201.out HVB.out.lt)
        have HNb_1 := Lib.hid (HNB.out.below HBw201.out)
        have HBW_1 := Lib.hid (HBW.out.trans (HBw201.out.mono HBW.out.size))
        clear HVA HNA HVB HNB HBW
        clear HBw201
        have qa0 := HVa_1.out.c0
        have qa1 := HVa_1.out.c1
        have ta := HVa_1.out.lt
        have qb0 := HVb_1.out.c0
        have qb1 := HVb_1.out.c1
        have tb := HVb_1.out.lt
        go_wp2_with fail
        refine (nreadT (K := 15) x SA HSA.out HNa_1.out.2 (by omega) _).mono ?_
        rintro e w202 ⟨⟨bv2, sv2, lv2, cv2, rfl, hn⟩, hb⟩
        clear qa0 qa1 ta qb0 qb1 tb
        have qa0 := (HVa_1.out.below hb HVa_1.out.lt).c0
        have qa1 := (HVa_1.out.below hb HVa_1.out.lt).c1
        have ta := (HVa_1.out.below hb HVa_1.out.lt).lt
        have qb0 := (HVb_1.out.below hb HVb_1.out.lt).c0
        have qb1 := (HVb_1.out.below hb HVb_1.out.lt).c1
        have tb := (HVb_1.out.below hb HVb_1.out.lt).lt
        obtain ⟨W202, hW202⟩ : ∃ W, W = w202.alloc (.cells #[.bool bv2, .slice sv2 lv2 cv2] 25) := ⟨_, rfl⟩
        obtain ⟨gc, hgc⟩ : ∃ g, g = w202.heap.size := ⟨_, rfl⟩
        have HBW202 := Lib.hid (show Below w201.heap.size w201 W202 by rw [hW202]; exact hb.alloc hb.size _)
        have HVn := Lib.hid (show VarAt W202 gc bv2 sv2 lv2 cv2 by rw [hW202, hgc]; exact VarAt.made _ _ _ _ _)
        have HNn := Lib.hid (show NumIs 16 W202 _ x by rw [hW202]; exact hn.alloc _)
        have HW202 := Lib.hid hW202
        have HGc := Lib.hid hgc
        clear hn hb hW202 hgc
        have HVa_2 := Lib.hid (HVa_1.out.below HBW202.out HVa_1.out.lt)
        have HNa_2 := Lib.hid (HNa_1.out.below HBW202.out)
        have HVb_2 := Lib.hid (HVb_1.out.below HBW202.out HVb_1.out.lt)
        have HNb_2 := Lib.hid (HNb_1.out.below HBW202.out)
        have HBW_2 := Lib.hid (HBW_1.out.trans (HBW202.out.mono HBW_1.out.size))
        clear HVa_1 HNa_1 HVb_1 HNb_1 HBW_1
        have HVc_2 := HVn
        have HNc_2 := HNn
        clear HVn HNn HBW202
        go_wp2_with fail
        rw [← HGc.out, ← HW202.out]
        refine (nparts mb HMB.out HNa_2.out (by omega)).mono ?_
        rintro e wp ⟨⟨sp, lp, cp, rfl, hu⟩, hb⟩
        have HU := Lib.hid hu
        have HBp := Lib.hid hb
        clear hb hu
        have HVa_3 := Lib.hid (HVa_2.out.below HBp.out HVa_2.out.lt)
        have HNa_3 := Lib.hid (HNa_2.out.below HBp.out)
        have HVb_3 := Lib.hid (HVb_2.out.below HBp.out HVb_2.out.lt)
        have HNb_3 := Lib.hid (HNb_2.out.below HBp.out)
        have HVc_3 := Lib.hid (HVc_2.out.below HBp.out HVc_2.out.lt)
        have HNc_3 := Lib.hid (HNc_2.out.below HBp.out)
        have HBW_3 := Lib.hid (HBW_2.out.trans (HBp.out.mono HBW_2.out.size))
        clear HVa_2 HNa_2 HVb_2 HNb_2 HVc_2 HNc_2 HBW_2
        clear HBp
        clear qa0 qa1 ta qb0 qb1 tb
        have qa0 := HVa_3.out.c0
        have qa1 := HVa_3.out.c1
        have ta := HVa_3.out.lt
        have qb0 := HVb_3.out.c0
        have qb1 := HVb_3.out.c1
        have tb := HVb_3.out.lt
        go_wp2_with fail
        refine (njoin (K := 15) mb HMB.out HNa_3.out.2 (by omega) HU.out).mono ?_
        rintro e w204 ⟨⟨bv4, sv4, lv4, cv4, rfl, hn⟩, hb⟩
        clear qa0 qa1 ta qb0 qb1 tb
        have qa0 := (HVa_3.out.below hb HVa_3.out.lt).c0
        have qa1 := (HVa_3.out.below hb HVa_3.out.lt).c1
        have ta := (HVa_3.out.below hb HVa_3.out.lt).lt
        have qb0 := (HVb_3.out.below hb HVb_3.out.lt).c0
        have qb1 := (HVb_3.out.below hb HVb_3.out.lt).c1
        have tb := (HVb_3.out.below hb HVb_3.out.lt).lt
        obtain ⟨W204, hW204⟩ : ∃ W, W = w204.alloc (.cells #[.bool bv4, .slice sv4 lv4 cv4] 25) := ⟨_, rfl⟩
        obtain ⟨gd, hgd⟩ : ∃ g, g = w204.heap.size := ⟨_, rfl⟩
        have HBW204 := Lib.hid (show Below wp.heap.size wp W204 by rw [hW204]; exact hb.alloc hb.size _)
        have HVn := Lib.hid (show VarAt W204 gd bv4 sv4 lv4 cv4 by rw [hW204, hgd]; exact VarAt.made _ _ _ _ _)
        have HNn := Lib.hid (show NumIs 15 W204 _ x by rw [hW204]; exact hn.alloc _)
        have HW204 := Lib.hid hW204
        have HGd := Lib.hid hgd
        clear hn hb hW204 hgd
        have HVa_4 := Lib.hid (HVa_3.out.below HBW204.out HVa_3.out.lt)
        have HNa_4 := Lib.hid (HNa_3.out.below HBW204.out)
        have HVb_4 := Lib.hid (HVb_3.out.below HBW204.out HVb_3.out.lt)
        have HNb_4 := Lib.hid (HNb_3.out.below HBW204.out)
        have HVc_4 := Lib.hid (HVc_3.out.below HBW204.out HVc_3.out.lt)
        have HNc_4 := Lib.hid (HNc_3.out.below HBW204.out)
        have HBW_4 := Lib.hid (HBW_3.out.trans (HBW204.out.mono HBW_3.out.size))
        clear HVa_3 HNa_3 HVb_3 HNb_3 HVc_3 HNc_3 HBW_3
        have HVd_4 := HVn
        have HNd_4 := HNn
        clear HVn HNn HBW204
        clear HU
        go_wp2_with fail
        rw [← HGd.out, ← HW204.out]
        refine (nsmallY HNa_4.out (by omega) HS.out).mono ?_
        rintro e w205 ⟨rfl, hb⟩
        have HBw205 := Lib.hid hb
        clear hb
        have HVa_5 := Lib.hid (HVa_4.out.below HBw205.out HVa_4.out.lt)
        have HNa_5 := Lib.hid (HNa_4.out.below HBw205.out)
        have HVb_5 := Lib.hid (HVb_4.out.below HBw205.out HVb_4.out.lt)
        have HNb_5 := Lib.hid (HNb_4.out.below HBw205.out)
        have HVc_5 := Lib.hid (HVc_4.out.below HBw205.out HVc_4.out.lt)
        have HNc_5 := Lib.hid (HNc_4.out.below HBw205.out)
        have HVd_5 := Lib.hid (HVd_4.out.below HBw205.out HVd_4.out.lt)
        have HNd_5 := Lib.hid (HNd_4.out.below HBw205.out)
        have HBW_5 := Lib.hid (HBW_4.out.trans (HBw205.out.mono HBW_4.out.size))
        clear HVa_4 HNa_4 HVb_4 HNb_4 HVc_4 HNc_4 HVd_4 HNd_4 HBW_4
        clear HBw205
        clear qa0 qa1 ta qb0 qb1 tb
        go_wp2_with fail
        go_big_unhide
        have HTB := Lib.hid (HT.out.below HBW_5.out)
        (try dsimp only [List.append])
        have BC := Lib.hid (show Below w205.heap.size w205 w205.drew from (Below.refl _ _).drew)
        refine wp_region_noPanic ?_
        refine wp_region_held_drew (S := fun w' => w'.cell? ⟨ga, 0, none⟩ = some (.bool b1) ∧ w'.cell? ⟨ga, 1, none⟩ = some (.slice s1 l1 c1) ∧ w'.cell? ⟨ga + 1, 0, none⟩ = some (.bool b2) ∧ w'.cell? ⟨ga + 1, 1, none⟩ = some (.slice s2 l2 c2) ∧ w'.cell? ⟨gc, 0, none⟩ = some (.bool bv2) ∧ w'.cell? ⟨gc, 1, none⟩ = some (.slice sv2 lv2 cv2) ∧ w'.cell? ⟨gd, 0, none⟩ = some (.bool bv4) ∧ w'.cell? ⟨gd, 1, none⟩ = some (.slice sv4 lv4 cv4)) (by kernel_rfl) (by (try dsimp only); exact ⟨(HVa_5.out.below BC.out HVa_5.out.lt).c0, (HVa_5.out.below BC.out HVa_5.out.lt).c1, (HVb_5.out.below BC.out HVb_5.out.lt).c0, (HVb_5.out.below BC.out HVb_5.out.lt).c1, (HVc_5.out.below BC.out HVc_5.out.lt).c0, (HVc_5.out.below BC.out HVc_5.out.lt).c1, (HVd_5.out.below BC.out HVd_5.out.lt).c0, (HVd_5.out.below BC.out HVd_5.out.lt).c1⟩) (fun hHeld => ?_)
        refine' take_any 0 50 (v := _) ?hid0 ?hdd0 (by kernel_rfl) (by kernel_rfl) (by kernel_rfl) (fun _ _ _ h => h) ?hyd0 hHeld ?hrd0
        case hid0 => (simp only [List.getElem?_toArray, List.getElem?_cons_zero]; rfl)
        case hdd0 => rfl
        case hyd0 =>
          refine' Or.inl ⟨?hwd0, ?hxd0⟩
          case hwd0 => rfl
          case hxd0 => (intro w hSw; (try dsimp only at hSw); go_simp; (try with_reducible rfl))
        (try simp only [Act.put, List.setIfInBounds_toArray, List.set_cons_zero, List.set_cons_succ])
        refine' take_any 1 51 (v := _) ?hid1 ?hdd1 (by kernel_rfl) (by kernel_rfl) (by kernel_rfl) (fun _ _ _ h => h) ?hyd1 hHeld ?hrd1
        case hid1 => (simp only [List.getElem?_toArray, List.getElem?_cons_succ, List.getElem?_cons_zero]; rfl)
        case hdd1 => rfl
        case hyd1 =>
          refine' Or.inl ⟨?hwd1, ?hxd1⟩
          case hwd1 => rfl
          case hxd1 => (intro w hSw; (try dsimp only at hSw); go_simp; (try with_reducible rfl))
        (try simp only [Act.put, List.setIfInBounds_toArray, List.set_cons_zero, List.set_cons_succ])
        refine' take_any 2 52 (v := _) ?hid2 ?hdd2 (by kernel_rfl) (by kernel_rfl) (by kernel_rfl) (fun _ _ _ h => h) ?hyd2 hHeld ?hrd2
        case hid2 => (simp only [List.getElem?_toArray, List.getElem?_cons_succ, List.getElem?_cons_zero]; rfl)
        case hdd2 => rfl
        case hyd2 =>
          refine' Or.inl ⟨?hwd2, ?hxd2⟩
          case hwd2 => rfl
          case hxd2 => (intro w hSw; (try dsimp only at hSw); go_simp; (try with_reducible rfl))
        (try simp only [Act.put, List.setIfInBounds_toArray, List.set_cons_zero, List.set_cons_succ])
        refine' take_any 3 53 (v := _) ?hid3 ?hdd3 (by kernel_rfl) (by kernel_rfl) (by kernel_rfl) (fun _ _ _ h => h) ?hyd3 hHeld ?hrd3
        case hid3 => (simp only [List.getElem?_toArray, List.getElem?_cons_succ, List.getElem?_cons_zero]; rfl)
        case hdd3 => rfl
        case hyd3 =>
          refine' Or.inl ⟨?hwd3, ?hxd3⟩
          case hwd3 => rfl
          case hxd3 => (intro w hSw; (try dsimp only at hSw); go_simp; (try with_reducible rfl))
        (try simp only [Act.put, List.setIfInBounds_toArray, List.set_cons_zero, List.set_cons_succ])
        refine' take_any 4 54 (v := _) ?hid4 ?hdd4 (by kernel_rfl) (by kernel_rfl) (by kernel_rfl) (fun _ _ _ h => h) ?hyd4 hHeld ?hrd4
        case hid4 => (simp only [List.getElem?_toArray, List.getElem?_cons_succ, List.getElem?_cons_zero]; rfl)
        case hdd4 => rfl
        case hyd4 =>
          refine' Or.inl ⟨?hwd4, ?hxd4⟩
          case hwd4 => rfl
          case hxd4 => (intro w hSw; (try dsimp only at hSw); go_simp; (try with_reducible rfl))
        (try simp only [Act.put, List.setIfInBounds_toArray, List.set_cons_zero, List.set_cons_succ])
        refine' take_any 5 55 (v := _) ?hid5 ?hdd5 (by kernel_rfl) (by kernel_rfl) (by kernel_rfl) (fun _ _ _ h => h) ?hyd5 hHeld ?hrd5
        case hid5 => (simp only [List.getElem?_toArray, List.getElem?_cons_succ, List.getElem?_cons_zero]; rfl)
        case hdd5 => rfl
        case hyd5 =>
          refine' Or.inl ⟨?hwd5, ?hxd5⟩
          case hwd5 => rfl
          case hxd5 => (intro w hSw; (try dsimp only at hSw); go_simp; (try with_reducible rfl))
        (try simp only [Act.put, List.setIfInBounds_toArray, List.set_cons_zero, List.set_cons_succ])
        refine' take_any 6 56 (v := _) ?hid6 ?hdd6 (by kernel_rfl) (by kernel_rfl) (by kernel_rfl) (fun _ _ _ h => h) ?hyd6 hHeld ?hrd6
        case hid6 => (simp only [List.getElem?_toArray, List.getElem?_cons_succ, List.getElem?_cons_zero]; rfl)
        case hdd6 => rfl
        case hyd6 =>
          refine' Or.inl ⟨?hwd6, ?hxd6⟩
          case hwd6 => rfl
          case hxd6 => (intro w hSw; (try dsimp only at hSw); go_simp; (try with_reducible rfl))
        (try simp only [Act.put, List.setIfInBounds_toArray, List.set_cons_zero, List.set_cons_succ])
        refine' take_any 7 57 (v := _) ?hid7 ?hdd7 (by kernel_rfl) (by kernel_rfl) (by kernel_rfl) (fun _ _ _ h => h) ?hyd7 hHeld ?hrd7
        case hid7 => (simp only [List.getElem?_toArray, List.getElem?_cons_succ, List.getElem?_cons_zero]; rfl)
        case hdd7 => rfl
        case hyd7 =>
          refine' Or.inl ⟨?hwd7, ?hxd7⟩
          case hwd7 => rfl
          case hxd7 => (intro w hSw; (try dsimp only at hSw); go_simp; (try with_reducible rfl))
        (try simp only [Act.put, List.setIfInBounds_toArray, List.set_cons_zero, List.set_cons_succ])
        refine' take_call 8 ?hid8 (by kernel_rfl) ?hrd8
        case hid8 => (simp only [List.getElem?_toArray, List.getElem?_cons_succ, List.getElem?_cons_zero]; rfl)
        intro K hK
        go_simp
        go_at_call 31
        refine (ncmpV (K := 16) (L := 15) (z := 0) (HNc_5.out.below BC.out) (HNa_5.out.below BC.out) (by omega) (by omega) (cmpZ_eq rfl)).mono ?_
        rintro e w101 ⟨rfl, hb⟩
        have HB1 := Lib.hid hb
        replace BC := Lib.hid (BC.out.trans (hb.mono BC.out.size))
        clear hb
        go_wp2_with fail
        clear hHeld
        refine hK.out _ _ (by (try dsimp only); exact ⟨(HVa_5.out.below BC.out HVa_5.out.lt).c0, (HVa_5.out.below BC.out HVa_5.out.lt).c1, (HVb_5.out.below BC.out HVb_5.out.lt).c0, (HVb_5.out.below BC.out HVb_5.out.lt).c1, (HVc_5.out.below BC.out HVc_5.out.lt).c0, (HVc_5.out.below BC.out HVc_5.out.lt).c1, (HVd_5.out.below BC.out HVd_5.out.lt).c0, (HVd_5.out.below BC.out HVd_5.out.lt).c1⟩) (fun hHeld => ?_)
        clear hK K
        (try simp only [Act.put, List.setIfInBounds_toArray, List.set_cons_zero, List.set_cons_succ])
        refine' take_any 9 59 (v := _) ?hid9 ?hdd9 (by kernel_rfl) (by kernel_rfl) (by kernel_rfl) (fun _ _ _ h => h) ?hyd9 hHeld ?hrd9
        case hid9 => (simp only [List.getElem?_toArray, List.getElem?_cons_succ, List.getElem?_cons_zero]; rfl)
        case hdd9 => rfl
        case hyd9 =>
          refine' Or.inl ⟨?hwd9, ?hxd9⟩
          case hwd9 => rfl
          case hxd9 => (intro w hSw; (try dsimp only at hSw); go_simp; (try with_reducible rfl))
        (try simp only [Act.put, List.setIfInBounds_toArray, List.set_cons_zero, List.set_cons_succ])
        refine' take_any 10 60 (v := _) ?hid10 ?hdd10 (by kernel_rfl) (by kernel_rfl) (by kernel_rfl) (fun _ _ _ h => h) ?hyd10 hHeld ?hrd10
        case hid10 => (simp only [List.getElem?_toArray, List.getElem?_cons_succ, List.getElem?_cons_zero]; rfl)
        case hdd10 => rfl
        case hyd10 =>
          refine' Or.inl ⟨?hwd10, ?hxd10⟩
          case hwd10 => rfl
          case hxd10 => (intro w hSw; (try dsimp only at hSw); go_simp; (try with_reducible rfl))
        (try simp only [Act.put, List.setIfInBounds_toArray, List.set_cons_zero, List.set_cons_succ])
        refine' take_any 11 61 (v := _) ?hid11 ?hdd11 (by kernel_rfl) (by kernel_rfl) (by kernel_rfl) (fun _ _ _ h => h) ?hyd11 hHeld ?hrd11
        case hid11 => (simp only [List.getElem?_toArray, List.getElem?_cons_succ, List.getElem?_cons_zero]; rfl)
        case hdd11 => rfl
        case hyd11 =>
          refine' Or.inl ⟨?hwd11, ?hxd11⟩
          case hwd11 => rfl
          case hxd11 => (intro w hSw; (try dsimp only at hSw); go_simp; (try with_reducible rfl))
        (try simp only [Act.put, List.setIfInBounds_toArray, List.set_cons_zero, List.set_cons_succ])
        refine' take_any 12 62 (v := _) ?hid12 ?hdd12 (by kernel_rfl) (by kernel_rfl) (by kernel_rfl) (fun _ _ _ h => h) ?hyd12 hHeld ?hrd12
        case hid12 => (simp only [List.getElem?_toArray, List.getElem?_cons_succ, List.getElem?_cons_zero]; rfl)
        case hdd12 => rfl
        case hyd12 =>
          refine' Or.inl ⟨?hwd12, ?hxd12⟩
          case hwd12 => rfl
          case hxd12 => (intro w hSw; (try dsimp only at hSw); go_simp; (try with_reducible rfl))
        (try simp only [Act.put, List.setIfInBounds_toArray, List.set_cons_zero, List.set_cons_succ])
        refine' take_any 13 63 (v := _) ?hid13 ?hdd13 (by kernel_rfl) (by kernel_rfl) (by kernel_rfl) (fun _ _ _ h => h) ?hyd13 hHeld ?hrd13
        case hid13 => (simp only [List.getElem?_toArray, List.getElem?_cons_succ, List.getElem?_cons_zero]; rfl)
        case hdd13 => rfl
        case hyd13 =>
          refine' Or.inl ⟨?hwd13, ?hxd13⟩
          case hwd13 => rfl
          case hxd13 => (intro w hSw; (try dsimp only at hSw); go_simp; (try with_reducible rfl))
        (try simp only [Act.put, List.setIfInBounds_toArray, List.set_cons_zero, List.set_cons_succ])
        refine' take_any 14 64 (v := _) ?hid14 ?hdd14 (by kernel_rfl) (by kernel_rfl) (by kernel_rfl) (fun _ _ _ h => h) ?hyd14 hHeld ?hrd14
        case hid14 => (simp only [List.getElem?_toArray, List.getElem?_cons_succ, List.getElem?_cons_zero]; rfl)
        case hdd14 => rfl
        case hyd14 =>
          refine' Or.inl ⟨?hwd14, ?hxd14⟩
          case hwd14 => rfl
          case hxd14 => (intro w hSw; (try dsimp only at hSw); go_simp; (try with_reducible rfl))
        (try simp only [Act.put, List.setIfInBounds_toArray, List.set_cons_zero, List.set_cons_succ])
        refine' take_any 15 65 (v := _) ?hid15 ?hdd15 (by kernel_rfl) (by kernel_rfl) (by kernel_rfl) (fun _ _ _ h => h) ?hyd15 hHeld ?hrd15
        case hid15 => (simp only [List.getElem?_toArray, List.getElem?_cons_succ, List.getElem?_cons_zero]; rfl)
        case hdd15 => rfl
        case hyd15 =>
          refine' Or.inl ⟨?hwd15, ?hxd15⟩
          case hwd15 => rfl
          case hxd15 => (intro w hSw; (try dsimp only at hSw); go_simp; (try with_reducible rfl))
        (try simp only [Act.put, List.setIfInBounds_toArray, List.set_cons_zero, List.set_cons_succ])
        refine' take_any 16 66 (v := _) ?hid16 ?hdd16 (by kernel_rfl) (by kernel_rfl) (by kernel_rfl) (fun _ _ _ h => h) ?hyd16 hHeld ?hrd16
        case hid16 => (simp only [List.getElem?_toArray, List.getElem?_cons_succ, List.getElem?_cons_zero]; rfl)
        case hdd16 => rfl
        case hyd16 =>
          refine' Or.inl ⟨?hwd16, ?hxd16⟩
          case hwd16 => rfl
          case hxd16 => (intro w hSw; (try dsimp only at hSw); go_simp; (try with_reducible rfl))
        (try simp only [Act.put, List.setIfInBounds_toArray, List.set_cons_zero, List.set_cons_succ])
        refine' take_any 17 67 (v := _) ?hid17 ?hdd17 (by kernel_rfl) (by kernel_rfl) (by kernel_rfl) (fun _ _ _ h => h) ?hyd17 hHeld ?hrd17
        case hid17 => (simp only [List.getElem?_toArray, List.getElem?_cons_succ, List.getElem?_cons_zero]; rfl)
        case hdd17 => rfl
        case hyd17 =>
          refine' Or.inl ⟨?hwd17, ?hxd17⟩
          case hwd17 => rfl
          case hxd17 => (intro w hSw; (try dsimp only at hSw); go_simp; (try with_reducible rfl))
        (try simp only [Act.put, List.setIfInBounds_toArray, List.set_cons_zero, List.set_cons_succ])
        refine' take_call 18 ?hid18 (by kernel_rfl) ?hrd18
        case hid18 => (simp only [List.getElem?_toArray, List.getElem?_cons_succ, List.getElem?_cons_zero]; rfl)
        intro K hK
        go_simp
        have _hb := HB1.out
        clear _hb
        go_at_call 31
        refine (ncmpV (K := 15) (L := 15) (z := 0) (HNd_5.out.below BC.out) (HNa_5.out.below BC.out) (by omega) (by omega) (cmpZ_eq rfl)).mono ?_
        rintro e w102 ⟨rfl, hb⟩
        have HB2 := Lib.hid hb
        replace BC := Lib.hid (BC.out.trans (hb.mono BC.out.size))
        clear hb
        go_wp2_with fail
        clear hHeld
        refine hK.out _ _ (by (try dsimp only); exact ⟨(HVa_5.out.below BC.out HVa_5.out.lt).c0, (HVa_5.out.below BC.out HVa_5.out.lt).c1, (HVb_5.out.below BC.out HVb_5.out.lt).c0, (HVb_5.out.below BC.out HVb_5.out.lt).c1, (HVc_5.out.below BC.out HVc_5.out.lt).c0, (HVc_5.out.below BC.out HVc_5.out.lt).c1, (HVd_5.out.below BC.out HVd_5.out.lt).c0, (HVd_5.out.below BC.out HVd_5.out.lt).c1⟩) (fun hHeld => ?_)
        clear hK K
        (try simp only [Act.put, List.setIfInBounds_toArray, List.set_cons_zero, List.set_cons_succ])
        refine' take_any 19 69 (v := _) ?hid19 ?hdd19 (by kernel_rfl) (by kernel_rfl) (by kernel_rfl) (fun _ _ _ h => h) ?hyd19 hHeld ?hrd19
        case hid19 => (simp only [List.getElem?_toArray, List.getElem?_cons_succ, List.getElem?_cons_zero]; rfl)
        case hdd19 => rfl
        case hyd19 =>
          refine' Or.inl ⟨?hwd19, ?hxd19⟩
          case hwd19 => rfl
          case hxd19 => (intro w hSw; (try dsimp only at hSw); go_simp; (try with_reducible rfl))
        (try simp only [Act.put, List.setIfInBounds_toArray, List.set_cons_zero, List.set_cons_succ])
        refine' take_any 20 70 (v := _) ?hid20 ?hdd20 (by kernel_rfl) (by kernel_rfl) (by kernel_rfl) (fun _ _ _ h => h) ?hyd20 hHeld ?hrd20
        case hid20 => (simp only [List.getElem?_toArray, List.getElem?_cons_succ, List.getElem?_cons_zero]; rfl)
        case hdd20 => rfl
        case hyd20 =>
          refine' Or.inl ⟨?hwd20, ?hxd20⟩
          case hwd20 => rfl
          case hxd20 => (intro w hSw; (try dsimp only at hSw); go_simp; (try with_reducible rfl))
        (try simp only [Act.put, List.setIfInBounds_toArray, List.set_cons_zero, List.set_cons_succ])
        refine' take_any 21 71 (v := _) ?hid21 ?hdd21 (by kernel_rfl) (by kernel_rfl) (by kernel_rfl) (fun _ _ _ h => h) ?hyd21 hHeld ?hrd21
        case hid21 => (simp only [List.getElem?_toArray, List.getElem?_cons_succ, List.getElem?_cons_zero]; rfl)
        case hdd21 => rfl
        case hyd21 =>
          refine' Or.inl ⟨?hwd21, ?hxd21⟩
          case hwd21 => rfl
          case hxd21 => (intro w hSw; (try dsimp only at hSw); go_simp; (try with_reducible rfl))
        (try simp only [Act.put, List.setIfInBounds_toArray, List.set_cons_zero, List.set_cons_succ])
        refine' take_any 22 72 (v := _) ?hid22 ?hdd22 (by kernel_rfl) (by kernel_rfl) (by kernel_rfl) (fun _ _ _ h => h) ?hyd22 hHeld ?hrd22
        case hid22 => (simp only [List.getElem?_toArray, List.getElem?_cons_succ, List.getElem?_cons_zero]; rfl)
        case hdd22 => rfl
        case hyd22 =>
          refine' Or.inl ⟨?hwd22, ?hxd22⟩
          case hwd22 => rfl
          case hxd22 => (intro w hSw; (try dsimp only at hSw); go_simp; (try with_reducible rfl))
        (try simp only [Act.put, List.setIfInBounds_toArray, List.set_cons_zero, List.set_cons_succ])
        refine' take_any 24 74 (v := _) ?hid24 ?hdd24 (by kernel_rfl) (by kernel_rfl) (by kernel_rfl) (fun _ _ _ h => h) ?hyd24 hHeld ?hrd24
        case hid24 => (simp only [List.getElem?_toArray, List.getElem?_cons_succ, List.getElem?_cons_zero]; rfl)
        case hdd24 => rfl
        case hyd24 =>
          refine' Or.inl ⟨?hwd24, ?hxd24⟩
          case hwd24 => rfl
          case hxd24 => (intro w hSw; (try dsimp only at hSw); go_simp; (try with_reducible rfl))
        (try simp only [Act.put, List.setIfInBounds_toArray, List.set_cons_zero, List.set_cons_succ])
        refine' take_any 27 77 (v := _) ?hid27 ?hdd27 (by kernel_rfl) (by kernel_rfl) (by kernel_rfl) (fun _ _ _ h => h) ?hyd27 hHeld ?hrd27
        case hid27 => (simp only [List.getElem?_toArray, List.getElem?_cons_succ, List.getElem?_cons_zero]; rfl)
        case hdd27 => rfl
        case hyd27 =>
          refine' Or.inl ⟨?hwd27, ?hxd27⟩
          case hwd27 => rfl
          case hxd27 => (intro w hSw; (try dsimp only at hSw); go_simp; (try with_reducible rfl))
        (try simp only [Act.put, List.setIfInBounds_toArray, List.set_cons_zero, List.set_cons_succ])
        refine' take_any 28 78 (v := _) ?hid28 ?hdd28 (by kernel_rfl) (by kernel_rfl) (by kernel_rfl) (fun _ _ _ h => h) ?hyd28 hHeld ?hrd28
        case hid28 => (simp only [List.getElem?_toArray, List.getElem?_cons_succ, List.getElem?_cons_zero]; rfl)
        case hdd28 => rfl
        case hyd28 =>
          refine' Or.inl ⟨?hwd28, ?hxd28⟩
          case hwd28 => rfl
          case hxd28 => (intro w hSw; (try dsimp only at hSw); go_simp; (try with_reducible rfl))
        (try simp only [Act.put, List.setIfInBounds_toArray, List.set_cons_zero, List.set_cons_succ])
        refine' take_call 23 ?hid23 (by kernel_rfl) ?hrd23
        case hid23 => (simp only [List.getElem?_toArray, List.getElem?_cons_succ, List.getElem?_cons_zero]; rfl)
        intro K hK
        go_simp
        have _hb := HB2.out
        clear _hb
        go_at_call 11
        refine (ntextS (K := 15) SA HSA.out (HNa_5.out.below BC.out) (by omega) (HTB.out.below BC.out)).mono ?_
        rintro e w103 ⟨rfl, hb⟩
        have HB3 := Lib.hid hb
        replace BC := Lib.hid (BC.out.trans (hb.mono BC.out.size))
        clear hb
        go_wp2_with fail
        clear hHeld
        refine hK.out _ _ (by (try dsimp only); exact ⟨(HVa_5.out.below BC.out HVa_5.out.lt).c0, (HVa_5.out.below BC.out HVa_5.out.lt).c1, (HVb_5.out.below BC.out HVb_5.out.lt).c0, (HVb_5.out.below BC.out HVb_5.out.lt).c1, (HVc_5.out.below BC.out HVc_5.out.lt).c0, (HVc_5.out.below BC.out HVc_5.out.lt).c1, (HVd_5.out.below BC.out HVd_5.out.lt).c0, (HVd_5.out.below BC.out HVd_5.out.lt).c1⟩) (fun hHeld => ?_)
        clear hK K
        (try simp only [Act.put, List.setIfInBounds_toArray, List.set_cons_zero, List.set_cons_succ])
        refine' take_call 25 ?hid25 (by kernel_rfl) ?hrd25
        case hid25 => (simp only [List.getElem?_toArray, List.getElem?_cons_succ, List.getElem?_cons_zero]; rfl)
        intro K hK
        go_simp
        have _hb := HB3.out
        clear _hb
        go_at_call 11
        refine (ntextS (K := 15) SA HSB.out (HNb_5.out.below BC.out) (by omega) (HTB.out.below BC.out)).mono ?_
        rintro e w104 ⟨rfl, hb⟩
        have HB4 := Lib.hid hb
        replace BC := Lib.hid (BC.out.trans (hb.mono BC.out.size))
        clear hb
        go_wp2_with fail
        clear hHeld
        refine hK.out _ _ (by (try dsimp only); exact ⟨(HVa_5.out.below BC.out HVa_5.out.lt).c0, (HVa_5.out.below BC.out HVa_5.out.lt).c1, (HVb_5.out.below BC.out HVb_5.out.lt).c0, (HVb_5.out.below BC.out HVb_5.out.lt).c1, (HVc_5.out.below BC.out HVc_5.out.lt).c0, (HVc_5.out.below BC.out HVc_5.out.lt).c1, (HVd_5.out.below BC.out HVd_5.out.lt).c0, (HVd_5.out.below BC.out HVd_5.out.lt).c1⟩) (fun hHeld => ?_)
        clear hK K
        (try simp only [Act.put, List.setIfInBounds_toArray, List.set_cons_zero, List.set_cons_succ])
        refine' take_any 26 76 (v := _) ?hid26 ?hdd26 (by kernel_rfl) (by kernel_rfl) (by kernel_rfl) (fun _ _ _ h => h) ?hyd26 hHeld ?hrd26
        case hid26 => (simp only [List.getElem?_toArray, List.getElem?_cons_succ, List.getElem?_cons_zero]; rfl)
        case hdd26 => rfl
        case hyd26 =>
          refine' Or.inl ⟨?hwd26, ?hxd26⟩
          case hwd26 => rfl
          case hxd26 => (intro w hSw; (try dsimp only at hSw); go_simp; (try with_reducible rfl))
        (try simp only [Act.put, List.setIfInBounds_toArray, List.set_cons_zero, List.set_cons_succ])
        refine' take_call 29 ?hid29 (by kernel_rfl) ?hrd29
        case hid29 => (simp only [List.getElem?_toArray, List.getElem?_cons_succ, List.getElem?_cons_zero]; rfl)
        intro K hK
        go_simp
        have _hb := HB4.out
        clear _hb
        go_at_call 31
        refine (ncmpV (K := 15) (L := 15) (z := 0) (HNa_5.out.below BC.out) (HNb_5.out.below BC.out) (by omega) (by omega) (cmpZ_eq HR.out)).mono ?_
        rintro e w105 ⟨rfl, hb⟩
        have HB5 := Lib.hid hb
        replace BC := Lib.hid (BC.out.trans (hb.mono BC.out.size))
        clear hb
        go_wp2_with fail
        clear hHeld
        refine hK.out _ _ (by (try dsimp only); exact ⟨(HVa_5.out.below BC.out HVa_5.out.lt).c0, (HVa_5.out.below BC.out HVa_5.out.lt).c1, (HVb_5.out.below BC.out HVb_5.out.lt).c0, (HVb_5.out.below BC.out HVb_5.out.lt).c1, (HVc_5.out.below BC.out HVc_5.out.lt).c0, (HVc_5.out.below BC.out HVc_5.out.lt).c1, (HVd_5.out.below BC.out HVd_5.out.lt).c0, (HVd_5.out.below BC.out HVd_5.out.lt).c1⟩) (fun hHeld => ?_)
        clear hK K
        (try simp only [Act.put, List.setIfInBounds_toArray, List.set_cons_zero, List.set_cons_succ])
        refine' take_any 30 80 (v := _) ?hid30 ?hdd30 (by kernel_rfl) (by kernel_rfl) (by kernel_rfl) (fun _ _ _ h => h) ?hyd30 hHeld ?hrd30
        case hid30 => (simp only [List.getElem?_toArray, List.getElem?_cons_succ, List.getElem?_cons_zero]; rfl)
        case hdd30 => rfl
        case hyd30 =>
          refine' Or.inl ⟨?hwd30, ?hxd30⟩
          case hwd30 => rfl
          case hxd30 => (intro w hSw; (try dsimp only at hSw); go_simp; (try with_reducible rfl))
        (try simp only [Act.put, List.setIfInBounds_toArray, List.set_cons_zero, List.set_cons_succ])
        refine' take_any 31 81 (v := _) ?hid31 ?hdd31 (by kernel_rfl) (by kernel_rfl) (by kernel_rfl) (fun _ _ _ h => h) ?hyd31 hHeld ?hrd31
        case hid31 => (simp only [List.getElem?_toArray, List.getElem?_cons_succ, List.getElem?_cons_zero]; rfl)
        case hdd31 => rfl
        case hyd31 =>
          refine' Or.inl ⟨?hwd31, ?hxd31⟩
          case hwd31 => rfl
          case hxd31 => (intro w hSw; (try dsimp only at hSw); go_simp; (try with_reducible rfl))
        (try simp only [Act.put, List.setIfInBounds_toArray, List.set_cons_zero, List.set_cons_succ])
        refine' take_any 32 82 (v := _) ?hid32 ?hdd32 (by kernel_rfl) (by kernel_rfl) (by kernel_rfl) (fun _ _ _ h => h) ?hyd32 hHeld ?hrd32
        case hid32 => (simp only [List.getElem?_toArray, List.getElem?_cons_succ, List.getElem?_cons_zero]; rfl)
        case hdd32 => rfl
        case hyd32 =>
          refine' Or.inl ⟨?hwd32, ?hxd32⟩
          case hwd32 => rfl
          case hxd32 => (intro w hSw; (try dsimp only at hSw); go_simp; (try with_reducible rfl))
        (try simp only [Act.put, List.setIfInBounds_toArray, List.set_cons_zero, List.set_cons_succ])
        refine' take_any 33 83 (v := _) ?hid33 ?hdd33 (by kernel_rfl) (by kernel_rfl) (by kernel_rfl) (fun _ _ _ h => h) ?hyd33 hHeld ?hrd33
        case hid33 => (simp only [List.getElem?_toArray, List.getElem?_cons_succ, List.getElem?_cons_zero]; rfl)
        case hdd33 => rfl
        case hyd33 =>
          refine' Or.inl ⟨?hwd33, ?hxd33⟩
          case hwd33 => rfl
          case hxd33 => (intro w hSw; (try dsimp only at hSw); go_simp; (try with_reducible rfl))
        (try simp only [Act.put, List.setIfInBounds_toArray, List.set_cons_zero, List.set_cons_succ])
        refine' take_any 34 84 (v := _) ?hid34 ?hdd34 (by kernel_rfl) (by kernel_rfl) (by kernel_rfl) (fun _ _ _ h => h) ?hyd34 hHeld ?hrd34
        case hid34 => (simp only [List.getElem?_toArray, List.getElem?_cons_succ, List.getElem?_cons_zero]; rfl)
        case hdd34 => rfl
        case hyd34 =>
          refine' Or.inl ⟨?hwd34, ?hxd34⟩
          case hwd34 => rfl
          case hxd34 => (intro w hSw; (try dsimp only at hSw); go_simp; (try with_reducible rfl))
        (try simp only [Act.put, List.setIfInBounds_toArray, List.set_cons_zero, List.set_cons_succ])
        refine' take_any 35 85 (v := _) ?hid35 ?hdd35 (by kernel_rfl) (by kernel_rfl) (by kernel_rfl) (fun _ _ _ h => h) ?hyd35 hHeld ?hrd35
        case hid35 => (simp only [List.getElem?_toArray, List.getElem?_cons_succ, List.getElem?_cons_zero]; rfl)
        case hdd35 => rfl
        case hyd35 =>
          refine' Or.inl ⟨?hwd35, ?hxd35⟩
          case hwd35 => rfl
          case hxd35 => (intro w hSw; (try dsimp only at hSw); go_simp; (try with_reducible rfl))
        (try simp only [Act.put, List.setIfInBounds_toArray, List.set_cons_zero, List.set_cons_succ])
        refine' take_any 37 87 (v := _) ?hid37 ?hdd37 (by kernel_rfl) (by kernel_rfl) (by kernel_rfl) (fun _ _ _ h => h) ?hyd37 hHeld ?hrd37
        case hid37 => (simp only [List.getElem?_toArray, List.getElem?_cons_succ, List.getElem?_cons_zero]; rfl)
        case hdd37 => rfl
        case hyd37 =>
          refine' Or.inl ⟨?hwd37, ?hxd37⟩
          case hwd37 => rfl
          case hxd37 => (intro w hSw; (try dsimp only at hSw); go_simp; (try with_reducible rfl))
        (try simp only [Act.put, List.setIfInBounds_toArray, List.set_cons_zero, List.set_cons_succ])
        refine' take_any 38 88 (v := _) ?hid38 ?hdd38 (by kernel_rfl) (by kernel_rfl) (by kernel_rfl) (fun _ _ _ h => h) ?hyd38 hHeld ?hrd38
        case hid38 => (simp only [List.getElem?_toArray, List.getElem?_cons_succ, List.getElem?_cons_zero]; rfl)
        case hdd38 => rfl
        case hyd38 =>
          refine' Or.inl ⟨?hwd38, ?hxd38⟩
          case hwd38 => rfl
          case hxd38 => (intro w hSw; (try dsimp only at hSw); go_simp; (try with_reducible rfl))
        (try simp only [Act.put, List.setIfInBounds_toArray, List.set_cons_zero, List.set_cons_succ])
        refine' take_call 36 ?hid36 (by kernel_rfl) ?hrd36
        case hid36 => (simp only [List.getElem?_toArray, List.getElem?_cons_succ, List.getElem?_cons_zero]; rfl)
        intro K hK
        go_simp
        have _hb := HB5.out
        clear _hb
        go_at_call 31
        refine (ncmpV (K := 15) (L := 15) (z := 0) (HNa_5.out.below BC.out) (HNb_5.out.below BC.out) (by omega) (by omega) (cmpZ_eq HR.out)).mono ?_
        rintro e w106 ⟨rfl, hb⟩
        have HB6 := Lib.hid hb
        replace BC := Lib.hid (BC.out.trans (hb.mono BC.out.size))
        clear hb
        go_wp2_with fail
        clear hHeld
        refine hK.out _ _ (by (try dsimp only); exact ⟨(HVa_5.out.below BC.out HVa_5.out.lt).c0, (HVa_5.out.below BC.out HVa_5.out.lt).c1, (HVb_5.out.below BC.out HVb_5.out.lt).c0, (HVb_5.out.below BC.out HVb_5.out.lt).c1, (HVc_5.out.below BC.out HVc_5.out.lt).c0, (HVc_5.out.below BC.out HVc_5.out.lt).c1, (HVd_5.out.below BC.out HVd_5.out.lt).c0, (HVd_5.out.below BC.out HVd_5.out.lt).c1⟩) (fun hHeld => ?_)
        clear hK K
        (try simp only [Act.put, List.setIfInBounds_toArray, List.set_cons_zero, List.set_cons_succ])
        refine' take_call 39 ?hid39 (by kernel_rfl) ?hrd39
        case hid39 => (simp only [List.getElem?_toArray, List.getElem?_cons_succ, List.getElem?_cons_zero]; rfl)
        intro K hK
        go_simp
        have _hb := HB6.out
        clear _hb
        go_at_call 31
        refine (ncmpV (K := 15) (L := 15) (z := 0) (HNb_5.out.below BC.out) (HNa_5.out.below BC.out) (by omega) (by omega) (cmpZ_eq HR.out.symm)).mono ?_
        rintro e w107 ⟨rfl, hb⟩
        have HB7 := Lib.hid hb
        replace BC := Lib.hid (BC.out.trans (hb.mono BC.out.size))
        clear hb
        go_wp2_with fail
        clear hHeld
        refine hK.out _ _ (by (try dsimp only); exact ⟨(HVa_5.out.below BC.out HVa_5.out.lt).c0, (HVa_5.out.below BC.out HVa_5.out.lt).c1, (HVb_5.out.below BC.out HVb_5.out.lt).c0, (HVb_5.out.below BC.out HVb_5.out.lt).c1, (HVc_5.out.below BC.out HVc_5.out.lt).c0, (HVc_5.out.below BC.out HVc_5.out.lt).c1, (HVd_5.out.below BC.out HVd_5.out.lt).c0, (HVd_5.out.below BC.out HVd_5.out.lt).c1⟩) (fun hHeld => ?_)
        clear hK K
        (try simp only [Act.put, List.setIfInBounds_toArray, List.set_cons_zero, List.set_cons_succ])
        refine' take_any 40 90 (v := _) ?hid40 ?hdd40 (by kernel_rfl) (by kernel_rfl) (by kernel_rfl) (fun _ _ _ h => h) ?hyd40 hHeld ?hrd40
        case hid40 => (simp only [List.getElem?_toArray, List.getElem?_cons_succ, List.getElem?_cons_zero]; rfl)
        case hdd40 => rfl
        case hyd40 =>
          refine' Or.inl ⟨?hwd40, ?hxd40⟩
          case hwd40 => rfl
          case hxd40 => (intro w hSw; (try dsimp only at hSw); go_simp; (try with_reducible rfl))
        (try simp only [Act.put, List.setIfInBounds_toArray, List.set_cons_zero, List.set_cons_succ])
        refine' take_any 41 91 (v := _) ?hid41 ?hdd41 (by kernel_rfl) (by kernel_rfl) (by kernel_rfl) (fun _ _ _ h => h) ?hyd41 hHeld ?hrd41
        case hid41 => (simp only [List.getElem?_toArray, List.getElem?_cons_succ, List.getElem?_cons_zero]; rfl)
        case hdd41 => rfl
        case hyd41 =>
          refine' Or.inl ⟨?hwd41, ?hxd41⟩
          case hwd41 => rfl
          case hxd41 => (intro w hSw; (try dsimp only at hSw); go_simp; (try with_reducible rfl))
        (try simp only [Act.put, List.setIfInBounds_toArray, List.set_cons_zero, List.set_cons_succ])
        refine' take_any 42 92 (v := _) ?hid42 ?hdd42 (by kernel_rfl) (by kernel_rfl) (by kernel_rfl) (fun _ _ _ h => h) ?hyd42 hHeld ?hrd42
        case hid42 => (simp only [List.getElem?_toArray, List.getElem?_cons_succ, List.getElem?_cons_zero]; rfl)
        case hdd42 => rfl
        case hyd42 =>
          refine' Or.inl ⟨?hwd42, ?hxd42⟩
          case hwd42 => rfl
          case hxd42 => (intro w hSw; (try dsimp only at hSw); go_simp; (try with_reducible rfl))
        (try simp only [Act.put, List.setIfInBounds_toArray, List.set_cons_zero, List.set_cons_succ])
        refine' take_any 43 93 (v := _) ?hid43 ?hdd43 (by kernel_rfl) (by kernel_rfl) (by kernel_rfl) (fun _ _ _ h => h) ?hyd43 hHeld ?hrd43
        case hid43 => (simp only [List.getElem?_toArray, List.getElem?_cons_succ, List.getElem?_cons_zero]; rfl)
        case hdd43 => rfl
        case hyd43 =>
          refine' Or.inl ⟨?hwd43, ?hxd43⟩
          case hwd43 => rfl
          case hxd43 => (intro w hSw; (try dsimp only at hSw); go_simp; (try with_reducible rfl))
        (try simp only [Act.put, List.setIfInBounds_toArray, List.set_cons_zero, List.set_cons_succ])
        refine' take_any 44 94 (v := _) ?hid44 ?hdd44 (by kernel_rfl) (by kernel_rfl) (by kernel_rfl) (fun _ _ _ h => h) ?hyd44 hHeld ?hrd44
        case hid44 => (simp only [List.getElem?_toArray, List.getElem?_cons_succ, List.getElem?_cons_zero]; rfl)
        case hdd44 => rfl
        case hyd44 =>
          refine' Or.inl ⟨?hwd44, ?hxd44⟩
          case hwd44 => rfl
          case hxd44 => (intro w hSw; (try dsimp only at hSw); go_simp; (try with_reducible rfl))
        (try simp only [Act.put, List.setIfInBounds_toArray, List.set_cons_zero, List.set_cons_succ])
        refine' take_any 45 95 (v := _) ?hid45 ?hdd45 (by kernel_rfl) (by kernel_rfl) (by kernel_rfl) (fun _ _ _ h => h) ?hyd45 hHeld ?hrd45
        case hid45 => (simp only [List.getElem?_toArray, List.getElem?_cons_succ, List.getElem?_cons_zero]; rfl)
        case hdd45 => rfl
        case hyd45 =>
          refine' Or.inl ⟨?hwd45, ?hxd45⟩
          case hwd45 => rfl
          case hxd45 => (intro w hSw; (try dsimp only at hSw); go_simp; (try with_reducible rfl))
        (try simp only [Act.put, List.setIfInBounds_toArray, List.set_cons_zero, List.set_cons_succ])
        refine' take_any 46 96 (v := _) ?hid46 ?hdd46 (by kernel_rfl) (by kernel_rfl) (by kernel_rfl) (fun _ _ _ h => h) ?hyd46 hHeld ?hrd46
        case hid46 => (simp only [List.getElem?_toArray, List.getElem?_cons_succ, List.getElem?_cons_zero]; rfl)
        case hdd46 => rfl
        case hyd46 =>
          refine' Or.inl ⟨?hwd46, ?hxd46⟩
          case hwd46 => rfl
          case hxd46 => (intro w hSw; (try dsimp only at hSw); go_simp; (try with_reducible rfl))
        (try simp only [Act.put, List.setIfInBounds_toArray, List.set_cons_zero, List.set_cons_succ])
        refine' take_any 47 97 (v := _) ?hid47 ?hdd47 (by kernel_rfl) (by kernel_rfl) (by kernel_rfl) (fun _ _ _ h => h) ?hyd47 hHeld ?hrd47
        case hid47 => (simp only [List.getElem?_toArray, List.getElem?_cons_succ, List.getElem?_cons_zero]; rfl)
        case hdd47 => rfl
        case hyd47 =>
          refine' Or.inl ⟨?hwd47, ?hxd47⟩
          case hwd47 => rfl
          case hxd47 => (intro w hSw; (try dsimp only at hSw); go_simp; (try with_reducible rfl))
        (try simp only [Act.put, List.setIfInBounds_toArray, List.set_cons_zero, List.set_cons_succ])
        refine' take_any 49 99 (v := _) ?hid49 ?hdd49 (by kernel_rfl) (by kernel_rfl) (by kernel_rfl) (fun _ _ _ h => h) ?hyd49 hHeld ?hrd49
        case hid49 => (simp only [List.getElem?_toArray, List.getElem?_cons_succ, List.getElem?_cons_zero]; rfl)
        case hdd49 => rfl
        case hyd49 =>
          refine' Or.inl ⟨?hwd49, ?hxd49⟩
          case hwd49 => rfl
          case hxd49 => (intro w hSw; (try dsimp only at hSw); go_simp; (try with_reducible rfl))
        (try simp only [Act.put, List.setIfInBounds_toArray, List.set_cons_zero, List.set_cons_succ])
        refine' take_call 48 ?hid48 (by kernel_rfl) ?hrd48
        case hid48 => (simp only [List.getElem?_toArray, List.getElem?_cons_succ, List.getElem?_cons_zero]; rfl)
        intro K hK
        go_simp
        have _hb := HB7.out
        clear _hb
        go_at_call 17
        refine (nof x (small_range HS.out).1 (small_range HS.out).2 _).mono ?_
        rintro e w108 ⟨⟨b108, s108, l108, c108, rfl, hn⟩, hb⟩
        have HB8 := Lib.hid hb
        have HN8 := Lib.hid hn
        replace BC := Lib.hid (BC.out.trans (hb.mono BC.out.size))
        clear hb hn
        go_wp2_with fail
        clear hHeld
        refine hK.out _ _ (by (try dsimp only); exact ⟨(HVa_5.out.below BC.out HVa_5.out.lt).c0, (HVa_5.out.below BC.out HVa_5.out.lt).c1, (HVb_5.out.below BC.out HVb_5.out.lt).c0, (HVb_5.out.below BC.out HVb_5.out.lt).c1, (HVc_5.out.below BC.out HVc_5.out.lt).c0, (HVc_5.out.below BC.out HVc_5.out.lt).c1, (HVd_5.out.below BC.out HVd_5.out.lt).c0, (HVd_5.out.below BC.out HVd_5.out.lt).c1⟩) (fun hHeld => ?_)
        clear hK K
        (try simp only [Act.put, List.setIfInBounds_toArray, List.set_cons_zero, List.set_cons_succ])
        refine' take_call 50 ?hid50 (by kernel_rfl) ?hrd50
        case hid50 => (simp only [List.getElem?_toArray, List.getElem?_cons_succ, List.getElem?_cons_zero]; rfl)
        intro K hK
        go_simp
        have _hb := HB8.out
        clear _hb
        go_at_call 31
        refine (ncmpV (K := 3) (L := 15) (z := 0) HN8.out (HNa_5.out.below BC.out) (by omega) (by omega) (cmpZ_eq rfl)).mono ?_
        rintro e w109 ⟨rfl, hb⟩
        have HB9 := Lib.hid hb
        replace BC := Lib.hid (BC.out.trans (hb.mono BC.out.size))
        clear hb
        go_wp2_with fail
        clear hHeld
        refine hK.out _ _ (by (try dsimp only); exact ⟨(HVa_5.out.below BC.out HVa_5.out.lt).c0, (HVa_5.out.below BC.out HVa_5.out.lt).c1, (HVb_5.out.below BC.out HVb_5.out.lt).c0, (HVb_5.out.below BC.out HVb_5.out.lt).c1, (HVc_5.out.below BC.out HVc_5.out.lt).c0, (HVc_5.out.below BC.out HVc_5.out.lt).c1, (HVd_5.out.below BC.out HVd_5.out.lt).c0, (HVd_5.out.below BC.out HVd_5.out.lt).c1⟩) (fun hHeld => ?_)
        clear hK K
        (try simp only [Act.put, List.setIfInBounds_toArray, List.set_cons_zero, List.set_cons_succ])
        refine' take_any 51 101 (v := _) ?hid51 ?hdd51 (by kernel_rfl) (by kernel_rfl) (by kernel_rfl) (fun _ _ _ h => h) ?hyd51 hHeld ?hrd51
        case hid51 => (simp only [List.getElem?_toArray, List.getElem?_cons_succ, List.getElem?_cons_zero]; rfl)
        case hdd51 => rfl
        case hyd51 =>
          refine' Or.inl ⟨?hwd51, ?hxd51⟩
          case hwd51 => rfl
          case hxd51 => (intro w hSw; (try dsimp only at hSw); go_simp; (try with_reducible rfl))
        (try simp only [Act.put, List.setIfInBounds_toArray, List.set_cons_zero, List.set_cons_succ])
        refine' take_any 52 102 (v := _) ?hid52 ?hdd52 (by kernel_rfl) (by kernel_rfl) (by kernel_rfl) (fun _ _ _ h => h) ?hyd52 hHeld ?hrd52
        case hid52 => (simp only [List.getElem?_toArray, List.getElem?_cons_succ, List.getElem?_cons_zero]; rfl)
        case hdd52 => rfl
        case hyd52 =>
          refine' Or.inl ⟨?hwd52, ?hxd52⟩
          case hwd52 => rfl
          case hxd52 => (intro w hSw; (try dsimp only at hSw); go_simp; (try with_reducible rfl))
        (try simp only [Act.put, List.setIfInBounds_toArray, List.set_cons_zero, List.set_cons_succ])
        refine' take_any 53 103 (v := _) ?hid53 ?hdd53 (by kernel_rfl) (by kernel_rfl) (by kernel_rfl) (fun _ _ _ h => h) ?hyd53 hHeld ?hrd53
        case hid53 => (simp only [List.getElem?_toArray, List.getElem?_cons_succ, List.getElem?_cons_zero]; rfl)
        case hdd53 => rfl
        case hyd53 =>
          refine' Or.inl ⟨?hwd53, ?hxd53⟩
          case hwd53 => rfl
          case hxd53 => (intro w hSw; (try dsimp only at hSw); go_simp; (try with_reducible rfl))
        (try simp only [Act.put, List.setIfInBounds_toArray, List.set_cons_zero, List.set_cons_succ])
        refine' take_any 54 4 (v := _) ?hid54 ?hdd54 (by kernel_rfl) (by kernel_rfl) (by kernel_rfl) (fun _ _ _ h => h) ?hyd54 hHeld ?hrd54
        case hid54 => (simp only [List.getElem?_toArray, List.getElem?_cons_succ, List.getElem?_cons_zero]; rfl)
        case hdd54 => rfl
        case hyd54 =>
          refine' Or.inl ⟨?hwd54, ?hxd54⟩
          case hwd54 => rfl
          case hxd54 => (intro w hSw; (try dsimp only at hSw); go_simp; (try with_reducible rfl))
        (try simp only [Act.put, List.setIfInBounds_toArray, List.set_cons_zero, List.set_cons_succ])
        refine wpAnyH_done (by kernel_rfl) ?_ _
        refine NoPanic.normal ?_
        go_wp2
        go_ret
        exact ⟨rfl, HBW_5.out.trans (BC.out.mono HBW_5.out.size)⟩
    | false =>
      have HS := Lib.hid hs
      clear hs
      as_aux_lemma =>
        go_wp2_with fail
        rw [← HG.out, ← HW.out]
        refine (ntextS (K := 15) SA HSA.out HNA.out (by omega) (HT.out.below HBW.out)).mono ?_
        rintro e w201 ⟨rfl, hb⟩
        have HBw201 := Lib.hid hb
        clear hb
        have HVa_1 := Lib.hid (HVA.out.below HBw201.out HVA.out.lt)
        have HNa_1 := Lib.hid (HNA.out.below HBw201.out)
        have HVb_1 := Lib.hid (HVB.out.below HBw201.out HVB.out.lt)
        have HNb_1 := Lib.hid (HNB.out.below HBw201.out)
        have HBW_1 := Lib.hid (HBW.out.trans (HBw201.out.mono HBW.out.size))
        clear HVA HNA HVB HNB HBW
        clear HBw201
        have qa0 := HVa_1.out.c0
        have qa1 := HVa_1.out.c1
        have ta := HVa_1.out.lt
        have qb0 := HVb_1.out.c0
        have qb1 := HVb_1.out.c1
        have tb := HVb_1.out.lt
        go_wp2_with fail
        refine (nreadT (K := 15) x SA HSA.out HNa_1.out.2 (by omega) _).mono ?_
        rintro e w202 ⟨⟨bv2, sv2, lv2, cv2, rfl, hn⟩, hb⟩
        clear qa0 qa1 ta qb0 qb1 tb
        have qa0 := (HVa_1.out.below hb HVa_1.out.lt).c0
        have qa1 := (HVa_1.out.below hb HVa_1.out.lt).c1
        have ta := (HVa_1.out.below hb HVa_1.out.lt).lt
        have qb0 := (HVb_1.out.below hb HVb_1.out.lt).c0
        have qb1 := (HVb_1.out.below hb HVb_1.out.lt).c1
        have tb := (HVb_1.out.below hb HVb_1.out.lt).lt
        obtain ⟨W202, hW202⟩ : ∃ W, W = w202.alloc (.cells #[.bool bv2, .slice sv2 lv2 cv2] 25) := ⟨_, rfl⟩
        obtain ⟨gc, hgc⟩ : ∃ g, g = w202.heap.size := ⟨_, rfl⟩
        have HBW202 := Lib.hid (show Below w201.heap.size w201 W202 by rw [hW202]; exact hb.alloc hb.size _)
        have HVn := Lib.hid (show VarAt W202 gc bv2 sv2 lv2 cv2 by rw [hW202, hgc]; exact VarAt.made _ _ _ _ _)
        have HNn := Lib.hid (show NumIs 16 W202 _ x by rw [hW202]; exact hn.alloc _)
        have HW202 := Lib.hid hW202
        have HGc := Lib.hid hgc
        clear hn hb hW202 hgc
        have HVa_2 := Lib.hid (HVa_1.out.below HBW202.out HVa_1.out.lt)
        have HNa_2 := Lib.hid (HNa_1.out.below HBW202.out)
        have HVb_2 := Lib.hid (HVb_1.out.below HBW202.out HVb_1.out.lt)
        have HNb_2 := Lib.hid (HNb_1.out.below HBW202.out)
        have HBW_2 := Lib.hid (HBW_1.out.trans (HBW202.out.mono HBW_1.out.size))
        clear HVa_1 HNa_1 HVb_1 HNb_1 HBW_1
        have HVc_2 := HVn
        have HNc_2 := HNn
        clear HVn HNn HBW202
        go_wp2_with fail
        rw [← HGc.out, ← HW202.out]
        refine (nparts mb HMB.out HNa_2.out (by omega)).mono ?_
        rintro e wp ⟨⟨sp, lp, cp, rfl, hu⟩, hb⟩
        have HU := Lib.hid hu
        have HBp := Lib.hid hb
        clear hb hu
        have HVa_3 := Lib.hid (HVa_2.out.below HBp.out HVa_2.out.lt)
        have HNa_3 := Lib.hid (HNa_2.out.below HBp.out)
        have HVb_3 := Lib.hid (HVb_2.out.below HBp.out HVb_2.out.lt)
        have HNb_3 := Lib.hid (HNb_2.out.below HBp.out)
        have HVc_3 := Lib.hid (HVc_2.out.below HBp.out HVc_2.out.lt)
        have HNc_3 := Lib.hid (HNc_2.out.below HBp.out)
        have HBW_3 := Lib.hid (HBW_2.out.trans (HBp.out.mono HBW_2.out.size))
        clear HVa_2 HNa_2 HVb_2 HNb_2 HVc_2 HNc_2 HBW_2
        clear HBp
        clear qa0 qa1 ta qb0 qb1 tb
        have qa0 := HVa_3.out.c0
        have qa1 := HVa_3.out.c1
        have ta := HVa_3.out.lt
        have qb0 := HVb_3.out.c0
        have qb1 := HVb_3.out.c1
        have tb := HVb_3.out.lt
        go_wp2_with fail
        refine (njoin (K := 15) mb HMB.out HNa_3.out.2 (by omega) HU.out).mono ?_
        rintro e w204 ⟨⟨bv4, sv4, lv4, cv4, rfl, hn⟩, hb⟩
        clear qa0 qa1 ta qb0 qb1 tb
        have qa0 := (HVa_3.out.below hb HVa_3.out.lt).c0
        have qa1 := (HVa_3.out.below hb HVa_3.out.lt).c1
        have ta := (HVa_3.out.below hb HVa_3.out.lt).lt
        have qb0 := (HVb_3.out.below hb HVb_3.out.lt).c0
        have qb1 := (HVb_3.out.below hb HVb_3.out.lt).c1
        have tb := (HVb_3.out.below hb HVb_3.out.lt).lt
        obtain ⟨W204, hW204⟩ : ∃ W, W = w204.alloc (.cells #[.bool bv4, .slice sv4 lv4 cv4] 25) := ⟨_, rfl⟩
        obtain ⟨gd, hgd⟩ : ∃ g, g = w204.heap.size := ⟨_, rfl⟩
        have HBW204 := Lib.hid (show Below wp.heap.size wp W204 by rw [hW204]; exact hb.alloc hb.size _)
        have HVn := Lib.hid (show VarAt W204 gd bv4 sv4 lv4 cv4 by rw [hW204, hgd]; exact VarAt.made _ _ _ _ _)
        have HNn := Lib.hid (show NumIs 15 W204 _ x by rw [hW204]; exact hn.alloc _)
        have HW204 := Lib.hid hW204
        have HGd := Lib.hid hgd
        clear hn hb hW204 hgd
        have HVa_4 := Lib.hid (HVa_3.out.below HBW204.out HVa_3.out.lt)
        have HNa_4 := Lib.hid (HNa_3.out.below HBW204.out)
        have HVb_4 := Lib.hid (HVb_3.out.below HBW204.out HVb_3.out.lt)
        have HNb_4 := Lib.hid (HNb_3.out.below HBW204.out)
        have HVc_4 := Lib.hid (HVc_3.out.below HBW204.out HVc_3.out.lt)
        have HNc_4 := Lib.hid (HNc_3.out.below HBW204.out)
        have HBW_4 := Lib.hid (HBW_3.out.trans (HBW204.out.mono HBW_3.out.size))
        clear HVa_3 HNa_3 HVb_3 HNb_3 HVc_3 HNc_3 HBW_3
        have HVd_4 := HVn
        have HNd_4 := HNn
        clear HVn HNn HBW204
        clear HU
        go_wp2_with fail
        rw [← HGd.out, ← HW204.out]
        refine (nsmallN HNa_4.out (by omega) HS.out).mono ?_
        rintro e w205 ⟨rfl, hb⟩
        have HBw205 := Lib.hid hb
        clear hb
        have HVa_5 := Lib.hid (HVa_4.out.below HBw205.out HVa_4.out.lt)
        have HNa_5 := Lib.hid (HNa_4.out.below HBw205.out)
        have HVb_5 := Lib.hid (HVb_4.out.below HBw205.out HVb_4.out.lt)
        have HNb_5 := Lib.hid (HNb_4.out.below HBw205.out)
        have HVc_5 := Lib.hid (HVc_4.out.below HBw205.out HVc_4.out.lt)
        have HNc_5 := Lib.hid (HNc_4.out.below HBw205.out)
        have HVd_5 := Lib.hid (HVd_4.out.below HBw205.out HVd_4.out.lt)
        have HNd_5 := Lib.hid (HNd_4.out.below HBw205.out)
        have HBW_5 := Lib.hid (HBW_4.out.trans (HBw205.out.mono HBW_4.out.size))
        clear HVa_4 HNa_4 HVb_4 HNb_4 HVc_4 HNc_4 HVd_4 HNd_4 HBW_4
        clear HBw205
        clear qa0 qa1 ta qb0 qb1 tb
        go_wp2_with fail
        go_big_unhide
        have HTB := Lib.hid (HT.out.below HBW_5.out)
        (try dsimp only [List.append])
        have BC := Lib.hid (show Below w205.heap.size w205 w205.drew from (Below.refl _ _).drew)
        refine wp_region_noPanic ?_
        refine wp_region_held_drew (S := fun w' => w'.cell? ⟨ga, 0, none⟩ = some (.bool b1) ∧ w'.cell? ⟨ga, 1, none⟩ = some (.slice s1 l1 c1) ∧ w'.cell? ⟨ga + 1, 0, none⟩ = some (.bool b2) ∧ w'.cell? ⟨ga + 1, 1, none⟩ = some (.slice s2 l2 c2) ∧ w'.cell? ⟨gc, 0, none⟩ = some (.bool bv2) ∧ w'.cell? ⟨gc, 1, none⟩ = some (.slice sv2 lv2 cv2) ∧ w'.cell? ⟨gd, 0, none⟩ = some (.bool bv4) ∧ w'.cell? ⟨gd, 1, none⟩ = some (.slice sv4 lv4 cv4)) (by kernel_rfl) (by (try dsimp only); exact ⟨(HVa_5.out.below BC.out HVa_5.out.lt).c0, (HVa_5.out.below BC.out HVa_5.out.lt).c1, (HVb_5.out.below BC.out HVb_5.out.lt).c0, (HVb_5.out.below BC.out HVb_5.out.lt).c1, (HVc_5.out.below BC.out HVc_5.out.lt).c0, (HVc_5.out.below BC.out HVc_5.out.lt).c1, (HVd_5.out.below BC.out HVd_5.out.lt).c0, (HVd_5.out.below BC.out HVd_5.out.lt).c1⟩) (fun hHeld => ?_)
        refine' take_any 0 50 (v := _) ?hie0 ?hde0 (by kernel_rfl) (by kernel_rfl) (by kernel_rfl) (fun _ _ _ h => h) ?hye0 hHeld ?hre0
        case hie0 => (simp only [List.getElem?_toArray, List.getElem?_cons_zero]; rfl)
        case hde0 => rfl
        case hye0 =>
          refine' Or.inl ⟨?hwe0, ?hxe0⟩
          case hwe0 => rfl
          case hxe0 => (intro w hSw; (try dsimp only at hSw); go_simp; (try with_reducible rfl))
        (try simp only [Act.put, List.setIfInBounds_toArray, List.set_cons_zero, List.set_cons_succ])
        refine' take_any 1 51 (v := _) ?hie1 ?hde1 (by kernel_rfl) (by kernel_rfl) (by kernel_rfl) (fun _ _ _ h => h) ?hye1 hHeld ?hre1
        case hie1 => (simp only [List.getElem?_toArray, List.getElem?_cons_succ, List.getElem?_cons_zero]; rfl)
        case hde1 => rfl
        case hye1 =>
          refine' Or.inl ⟨?hwe1, ?hxe1⟩
          case hwe1 => rfl
          case hxe1 => (intro w hSw; (try dsimp only at hSw); go_simp; (try with_reducible rfl))
        (try simp only [Act.put, List.setIfInBounds_toArray, List.set_cons_zero, List.set_cons_succ])
        refine' take_any 2 52 (v := _) ?hie2 ?hde2 (by kernel_rfl) (by kernel_rfl) (by kernel_rfl) (fun _ _ _ h => h) ?hye2 hHeld ?hre2
        case hie2 => (simp only [List.getElem?_toArray, List.getElem?_cons_succ, List.getElem?_cons_zero]; rfl)
        case hde2 => rfl
        case hye2 =>
          refine' Or.inl ⟨?hwe2, ?hxe2⟩
          case hwe2 => rfl
          case hxe2 => (intro w hSw; (try dsimp only at hSw); go_simp; (try with_reducible rfl))
        (try simp only [Act.put, List.setIfInBounds_toArray, List.set_cons_zero, List.set_cons_succ])
        refine' take_any 3 53 (v := _) ?hie3 ?hde3 (by kernel_rfl) (by kernel_rfl) (by kernel_rfl) (fun _ _ _ h => h) ?hye3 hHeld ?hre3
        case hie3 => (simp only [List.getElem?_toArray, List.getElem?_cons_succ, List.getElem?_cons_zero]; rfl)
        case hde3 => rfl
        case hye3 =>
          refine' Or.inl ⟨?hwe3, ?hxe3⟩
          case hwe3 => rfl
          case hxe3 => (intro w hSw; (try dsimp only at hSw); go_simp; (try with_reducible rfl))
        (try simp only [Act.put, List.setIfInBounds_toArray, List.set_cons_zero, List.set_cons_succ])
        refine' take_any 4 54 (v := _) ?hie4 ?hde4 (by kernel_rfl) (by kernel_rfl) (by kernel_rfl) (fun _ _ _ h => h) ?hye4 hHeld ?hre4
        case hie4 => (simp only [List.getElem?_toArray, List.getElem?_cons_succ, List.getElem?_cons_zero]; rfl)
        case hde4 => rfl
        case hye4 =>
          refine' Or.inl ⟨?hwe4, ?hxe4⟩
          case hwe4 => rfl
          case hxe4 => (intro w hSw; (try dsimp only at hSw); go_simp; (try with_reducible rfl))
        (try simp only [Act.put, List.setIfInBounds_toArray, List.set_cons_zero, List.set_cons_succ])
        refine' take_any 5 55 (v := _) ?hie5 ?hde5 (by kernel_rfl) (by kernel_rfl) (by kernel_rfl) (fun _ _ _ h => h) ?hye5 hHeld ?hre5
        case hie5 => (simp only [List.getElem?_toArray, List.getElem?_cons_succ, List.getElem?_cons_zero]; rfl)
        case hde5 => rfl
        case hye5 =>
          refine' Or.inl ⟨?hwe5, ?hxe5⟩
          case hwe5 => rfl
          case hxe5 => (intro w hSw; (try dsimp only at hSw); go_simp; (try with_reducible rfl))
        (try simp only [Act.put, List.setIfInBounds_toArray, List.set_cons_zero, List.set_cons_succ])
        refine' take_any 6 56 (v := _) ?hie6 ?hde6 (by kernel_rfl) (by kernel_rfl) (by kernel_rfl) (fun _ _ _ h => h) ?hye6 hHeld ?hre6
        case hie6 => (simp only [List.getElem?_toArray, List.getElem?_cons_succ, List.getElem?_cons_zero]; rfl)
        case hde6 => rfl
        case hye6 =>
          refine' Or.inl ⟨?hwe6, ?hxe6⟩
          case hwe6 => rfl
          case hxe6 => (intro w hSw; (try dsimp only at hSw); go_simp; (try with_reducible rfl))
        (try simp only [Act.put, List.setIfInBounds_toArray, List.set_cons_zero, List.set_cons_succ])
        refine' take_any 7 57 (v := _) ?hie7 ?hde7 (by kernel_rfl) (by kernel_rfl) (by kernel_rfl) (fun _ _ _ h => h) ?hye7 hHeld ?hre7
        case hie7 => (simp only [List.getElem?_toArray, List.getElem?_cons_succ, List.getElem?_cons_zero]; rfl)
        case hde7 => rfl
        case hye7 =>
          refine' Or.inl ⟨?hwe7, ?hxe7⟩
          case hwe7 => rfl
          case hxe7 => (intro w hSw; (try dsimp only at hSw); go_simp; (try with_reducible rfl))
        (try simp only [Act.put, List.setIfInBounds_toArray, List.set_cons_zero, List.set_cons_succ])
        refine' take_call 8 ?hie8 (by kernel_rfl) ?hre8
        case hie8 => (simp only [List.getElem?_toArray, List.getElem?_cons_succ, List.getElem?_cons_zero]; rfl)
        intro K hK
        go_simp
        go_at_call 31
        refine (ncmpV (K := 16) (L := 15) (z := 0) (HNc_5.out.below BC.out) (HNa_5.out.below BC.out) (by omega) (by omega) (cmpZ_eq rfl)).mono ?_
        rintro e w101 ⟨rfl, hb⟩
        have HB1 := Lib.hid hb
        replace BC := Lib.hid (BC.out.trans (hb.mono BC.out.size))
        clear hb
        go_wp2_with fail
        clear hHeld
        refine hK.out _ _ (by (try dsimp only); exact ⟨(HVa_5.out.below BC.out HVa_5.out.lt).c0, (HVa_5.out.below BC.out HVa_5.out.lt).c1, (HVb_5.out.below BC.out HVb_5.out.lt).c0, (HVb_5.out.below BC.out HVb_5.out.lt).c1, (HVc_5.out.below BC.out HVc_5.out.lt).c0, (HVc_5.out.below BC.out HVc_5.out.lt).c1, (HVd_5.out.below BC.out HVd_5.out.lt).c0, (HVd_5.out.below BC.out HVd_5.out.lt).c1⟩) (fun hHeld => ?_)
        clear hK K
        (try simp only [Act.put, List.setIfInBounds_toArray, List.set_cons_zero, List.set_cons_succ])
        refine' take_any 9 59 (v := _) ?hie9 ?hde9 (by kernel_rfl) (by kernel_rfl) (by kernel_rfl) (fun _ _ _ h => h) ?hye9 hHeld ?hre9
        case hie9 => (simp only [List.getElem?_toArray, List.getElem?_cons_succ, List.getElem?_cons_zero]; rfl)
        case hde9 => rfl
        case hye9 =>
          refine' Or.inl ⟨?hwe9, ?hxe9⟩
          case hwe9 => rfl
          case hxe9 => (intro w hSw; (try dsimp only at hSw); go_simp; (try with_reducible rfl))
        (try simp only [Act.put, List.setIfInBounds_toArray, List.set_cons_zero, List.set_cons_succ])
        refine' take_any 10 60 (v := _) ?hie10 ?hde10 (by kernel_rfl) (by kernel_rfl) (by kernel_rfl) (fun _ _ _ h => h) ?hye10 hHeld ?hre10
        case hie10 => (simp only [List.getElem?_toArray, List.getElem?_cons_succ, List.getElem?_cons_zero]; rfl)
        case hde10 => rfl
        case hye10 =>
          refine' Or.inl ⟨?hwe10, ?hxe10⟩
          case hwe10 => rfl
          case hxe10 => (intro w hSw; (try dsimp only at hSw); go_simp; (try with_reducible rfl))
        (try simp only [Act.put, List.setIfInBounds_toArray, List.set_cons_zero, List.set_cons_succ])
        refine' take_any 11 61 (v := _) ?hie11 ?hde11 (by kernel_rfl) (by kernel_rfl) (by kernel_rfl) (fun _ _ _ h => h) ?hye11 hHeld ?hre11
        case hie11 => (simp only [List.getElem?_toArray, List.getElem?_cons_succ, List.getElem?_cons_zero]; rfl)
        case hde11 => rfl
        case hye11 =>
          refine' Or.inl ⟨?hwe11, ?hxe11⟩
          case hwe11 => rfl
          case hxe11 => (intro w hSw; (try dsimp only at hSw); go_simp; (try with_reducible rfl))
        (try simp only [Act.put, List.setIfInBounds_toArray, List.set_cons_zero, List.set_cons_succ])
        refine' take_any 12 62 (v := _) ?hie12 ?hde12 (by kernel_rfl) (by kernel_rfl) (by kernel_rfl) (fun _ _ _ h => h) ?hye12 hHeld ?hre12
        case hie12 => (simp only [List.getElem?_toArray, List.getElem?_cons_succ, List.getElem?_cons_zero]; rfl)
        case hde12 => rfl
        case hye12 =>
          refine' Or.inl ⟨?hwe12, ?hxe12⟩
          case hwe12 => rfl
          case hxe12 => (intro w hSw; (try dsimp only at hSw); go_simp; (try with_reducible rfl))
        (try simp only [Act.put, List.setIfInBounds_toArray, List.set_cons_zero, List.set_cons_succ])
        refine' take_any 13 63 (v := _) ?hie13 ?hde13 (by kernel_rfl) (by kernel_rfl) (by kernel_rfl) (fun _ _ _ h => h) ?hye13 hHeld ?hre13
        case hie13 => (simp only [List.getElem?_toArray, List.getElem?_cons_succ, List.getElem?_cons_zero]; rfl)
        case hde13 => rfl
        case hye13 =>
          refine' Or.inl ⟨?hwe13, ?hxe13⟩
          case hwe13 => rfl
          case hxe13 => (intro w hSw; (try dsimp only at hSw); go_simp; (try with_reducible rfl))
        (try simp only [Act.put, List.setIfInBounds_toArray, List.set_cons_zero, List.set_cons_succ])
        refine' take_any 14 64 (v := _) ?hie14 ?hde14 (by kernel_rfl) (by kernel_rfl) (by kernel_rfl) (fun _ _ _ h => h) ?hye14 hHeld ?hre14
        case hie14 => (simp only [List.getElem?_toArray, List.getElem?_cons_succ, List.getElem?_cons_zero]; rfl)
        case hde14 => rfl
        case hye14 =>
          refine' Or.inl ⟨?hwe14, ?hxe14⟩
          case hwe14 => rfl
          case hxe14 => (intro w hSw; (try dsimp only at hSw); go_simp; (try with_reducible rfl))
        (try simp only [Act.put, List.setIfInBounds_toArray, List.set_cons_zero, List.set_cons_succ])
        refine' take_any 15 65 (v := _) ?hie15 ?hde15 (by kernel_rfl) (by kernel_rfl) (by kernel_rfl) (fun _ _ _ h => h) ?hye15 hHeld ?hre15
        case hie15 => (simp only [List.getElem?_toArray, List.getElem?_cons_succ, List.getElem?_cons_zero]; rfl)
        case hde15 => rfl
        case hye15 =>
          refine' Or.inl ⟨?hwe15, ?hxe15⟩
          case hwe15 => rfl
          case hxe15 => (intro w hSw; (try dsimp only at hSw); go_simp; (try with_reducible rfl))
        (try simp only [Act.put, List.setIfInBounds_toArray, List.set_cons_zero, List.set_cons_succ])
        refine' take_any 16 66 (v := _) ?hie16 ?hde16 (by kernel_rfl) (by kernel_rfl) (by kernel_rfl) (fun _ _ _ h => h) ?hye16 hHeld ?hre16
        case hie16 => (simp only [List.getElem?_toArray, List.getElem?_cons_succ, List.getElem?_cons_zero]; rfl)
        case hde16 => rfl
        case hye16 =>
          refine' Or.inl ⟨?hwe16, ?hxe16⟩
          case hwe16 => rfl
          case hxe16 => (intro w hSw; (try dsimp only at hSw); go_simp; (try with_reducible rfl))
        (try simp only [Act.put, List.setIfInBounds_toArray, List.set_cons_zero, List.set_cons_succ])
        refine' take_any 17 67 (v := _) ?hie17 ?hde17 (by kernel_rfl) (by kernel_rfl) (by kernel_rfl) (fun _ _ _ h => h) ?hye17 hHeld ?hre17
        case hie17 => (simp only [List.getElem?_toArray, List.getElem?_cons_succ, List.getElem?_cons_zero]; rfl)
        case hde17 => rfl
        case hye17 =>
          refine' Or.inl ⟨?hwe17, ?hxe17⟩
          case hwe17 => rfl
          case hxe17 => (intro w hSw; (try dsimp only at hSw); go_simp; (try with_reducible rfl))
        (try simp only [Act.put, List.setIfInBounds_toArray, List.set_cons_zero, List.set_cons_succ])
        refine' take_call 18 ?hie18 (by kernel_rfl) ?hre18
        case hie18 => (simp only [List.getElem?_toArray, List.getElem?_cons_succ, List.getElem?_cons_zero]; rfl)
        intro K hK
        go_simp
        have _hb := HB1.out
        clear _hb
        go_at_call 31
        refine (ncmpV (K := 15) (L := 15) (z := 0) (HNd_5.out.below BC.out) (HNa_5.out.below BC.out) (by omega) (by omega) (cmpZ_eq rfl)).mono ?_
        rintro e w102 ⟨rfl, hb⟩
        have HB2 := Lib.hid hb
        replace BC := Lib.hid (BC.out.trans (hb.mono BC.out.size))
        clear hb
        go_wp2_with fail
        clear hHeld
        refine hK.out _ _ (by (try dsimp only); exact ⟨(HVa_5.out.below BC.out HVa_5.out.lt).c0, (HVa_5.out.below BC.out HVa_5.out.lt).c1, (HVb_5.out.below BC.out HVb_5.out.lt).c0, (HVb_5.out.below BC.out HVb_5.out.lt).c1, (HVc_5.out.below BC.out HVc_5.out.lt).c0, (HVc_5.out.below BC.out HVc_5.out.lt).c1, (HVd_5.out.below BC.out HVd_5.out.lt).c0, (HVd_5.out.below BC.out HVd_5.out.lt).c1⟩) (fun hHeld => ?_)
        clear hK K
        (try simp only [Act.put, List.setIfInBounds_toArray, List.set_cons_zero, List.set_cons_succ])
        refine' take_any 19 69 (v := _) ?hie19 ?hde19 (by kernel_rfl) (by kernel_rfl) (by kernel_rfl) (fun _ _ _ h => h) ?hye19 hHeld ?hre19
        case hie19 => (simp only [List.getElem?_toArray, List.getElem?_cons_succ, List.getElem?_cons_zero]; rfl)
        case hde19 => rfl
        case hye19 =>
          refine' Or.inl ⟨?hwe19, ?hxe19⟩
          case hwe19 => rfl
          case hxe19 => (intro w hSw; (try dsimp only at hSw); go_simp; (try with_reducible rfl))
        (try simp only [Act.put, List.setIfInBounds_toArray, List.set_cons_zero, List.set_cons_succ])
        refine' take_any 20 70 (v := _) ?hie20 ?hde20 (by kernel_rfl) (by kernel_rfl) (by kernel_rfl) (fun _ _ _ h => h) ?hye20 hHeld ?hre20
        case hie20 => (simp only [List.getElem?_toArray, List.getElem?_cons_succ, List.getElem?_cons_zero]; rfl)
        case hde20 => rfl
        case hye20 =>
          refine' Or.inl ⟨?hwe20, ?hxe20⟩
          case hwe20 => rfl
          case hxe20 => (intro w hSw; (try dsimp only at hSw); go_simp; (try with_reducible rfl))
        (try simp only [Act.put, List.setIfInBounds_toArray, List.set_cons_zero, List.set_cons_succ])
        refine' take_any 21 71 (v := _) ?hie21 ?hde21 (by kernel_rfl) (by kernel_rfl) (by kernel_rfl) (fun _ _ _ h => h) ?hye21 hHeld ?hre21
        case hie21 => (simp only [List.getElem?_toArray, List.getElem?_cons_succ, List.getElem?_cons_zero]; rfl)
        case hde21 => rfl
        case hye21 =>
          refine' Or.inl ⟨?hwe21, ?hxe21⟩
          case hwe21 => rfl
          case hxe21 => (intro w hSw; (try dsimp only at hSw); go_simp; (try with_reducible rfl))
        (try simp only [Act.put, List.setIfInBounds_toArray, List.set_cons_zero, List.set_cons_succ])
        refine' take_any 22 72 (v := _) ?hie22 ?hde22 (by kernel_rfl) (by kernel_rfl) (by kernel_rfl) (fun _ _ _ h => h) ?hye22 hHeld ?hre22
        case hie22 => (simp only [List.getElem?_toArray, List.getElem?_cons_succ, List.getElem?_cons_zero]; rfl)
        case hde22 => rfl
        case hye22 =>
          refine' Or.inl ⟨?hwe22, ?hxe22⟩
          case hwe22 => rfl
          case hxe22 => (intro w hSw; (try dsimp only at hSw); go_simp; (try with_reducible rfl))
        (try simp only [Act.put, List.setIfInBounds_toArray, List.set_cons_zero, List.set_cons_succ])
        refine' take_any 24 74 (v := _) ?hie24 ?hde24 (by kernel_rfl) (by kernel_rfl) (by kernel_rfl) (fun _ _ _ h => h) ?hye24 hHeld ?hre24
        case hie24 => (simp only [List.getElem?_toArray, List.getElem?_cons_succ, List.getElem?_cons_zero]; rfl)
        case hde24 => rfl
        case hye24 =>
          refine' Or.inl ⟨?hwe24, ?hxe24⟩
          case hwe24 => rfl
          case hxe24 => (intro w hSw; (try dsimp only at hSw); go_simp; (try with_reducible rfl))
        (try simp only [Act.put, List.setIfInBounds_toArray, List.set_cons_zero, List.set_cons_succ])
        refine' take_any 27 77 (v := _) ?hie27 ?hde27 (by kernel_rfl) (by kernel_rfl) (by kernel_rfl) (fun _ _ _ h => h) ?hye27 hHeld ?hre27
        case hie27 => (simp only [List.getElem?_toArray, List.getElem?_cons_succ, List.getElem?_cons_zero]; rfl)
        case hde27 => rfl
        case hye27 =>
          refine' Or.inl ⟨?hwe27, ?hxe27⟩
          case hwe27 => rfl
          case hxe27 => (intro w hSw; (try dsimp only at hSw); go_simp; (try with_reducible rfl))
        (try simp only [Act.put, List.setIfInBounds_toArray, List.set_cons_zero, List.set_cons_succ])
        refine' take_any 28 78 (v := _) ?hie28 ?hde28 (by kernel_rfl) (by kernel_rfl) (by kernel_rfl) (fun _ _ _ h => h) ?hye28 hHeld ?hre28
        case hie28 => (simp only [List.getElem?_toArray, List.getElem?_cons_succ, List.getElem?_cons_zero]; rfl)
        case hde28 => rfl
        case hye28 =>
          refine' Or.inl ⟨?hwe28, ?hxe28⟩
          case hwe28 => rfl
          case hxe28 => (intro w hSw; (try dsimp only at hSw); go_simp; (try with_reducible rfl))
        (try simp only [Act.put, List.setIfInBounds_toArray, List.set_cons_zero, List.set_cons_succ])
        refine' take_call 23 ?hie23 (by kernel_rfl) ?hre23
        case hie23 => (simp only [List.getElem?_toArray, List.getElem?_cons_succ, List.getElem?_cons_zero]; rfl)
        intro K hK
        go_simp
        have _hb := HB2.out
        clear _hb
        go_at_call 11
        refine (ntextS (K := 15) SA HSA.out (HNa_5.out.below BC.out) (by omega) (HTB.out.below BC.out)).mono ?_
        rintro e w103 ⟨rfl, hb⟩
        have HB3 := Lib.hid hb
        replace BC := Lib.hid (BC.out.trans (hb.mono BC.out.size))
        clear hb
        go_wp2_with fail
        clear hHeld
        refine hK.out _ _ (by (try dsimp only); exact ⟨(HVa_5.out.below BC.out HVa_5.out.lt).c0, (HVa_5.out.below BC.out HVa_5.out.lt).c1, (HVb_5.out.below BC.out HVb_5.out.lt).c0, (HVb_5.out.below BC.out HVb_5.out.lt).c1, (HVc_5.out.below BC.out HVc_5.out.lt).c0, (HVc_5.out.below BC.out HVc_5.out.lt).c1, (HVd_5.out.below BC.out HVd_5.out.lt).c0, (HVd_5.out.below BC.out HVd_5.out.lt).c1⟩) (fun hHeld => ?_)
        clear hK K
        (try simp only [Act.put, List.setIfInBounds_toArray, List.set_cons_zero, List.set_cons_succ])
        refine' take_call 25 ?hie25 (by kernel_rfl) ?hre25
        case hie25 => (simp only [List.getElem?_toArray, List.getElem?_cons_succ, List.getElem?_cons_zero]; rfl)
        intro K hK
        go_simp
        have _hb := HB3.out
        clear _hb
        go_at_call 11
        refine (ntextS (K := 15) SA HSB.out (HNb_5.out.below BC.out) (by omega) (HTB.out.below BC.out)).mono ?_
        rintro e w104 ⟨rfl, hb⟩
        have HB4 := Lib.hid hb
        replace BC := Lib.hid (BC.out.trans (hb.mono BC.out.size))
        clear hb
        go_wp2_with fail
        clear hHeld
        refine hK.out _ _ (by (try dsimp only); exact ⟨(HVa_5.out.below BC.out HVa_5.out.lt).c0, (HVa_5.out.below BC.out HVa_5.out.lt).c1, (HVb_5.out.below BC.out HVb_5.out.lt).c0, (HVb_5.out.below BC.out HVb_5.out.lt).c1, (HVc_5.out.below BC.out HVc_5.out.lt).c0, (HVc_5.out.below BC.out HVc_5.out.lt).c1, (HVd_5.out.below BC.out HVd_5.out.lt).c0, (HVd_5.out.below BC.out HVd_5.out.lt).c1⟩) (fun hHeld => ?_)
        clear hK K
        (try simp only [Act.put, List.setIfInBounds_toArray, List.set_cons_zero, List.set_cons_succ])
        refine' take_any 26 76 (v := _) ?hie26 ?hde26 (by kernel_rfl) (by kernel_rfl) (by kernel_rfl) (fun _ _ _ h => h) ?hye26 hHeld ?hre26
        case hie26 => (simp only [List.getElem?_toArray, List.getElem?_cons_succ, List.getElem?_cons_zero]; rfl)
        case hde26 => rfl
        case hye26 =>
          refine' Or.inl ⟨?hwe26, ?hxe26⟩
          case hwe26 => rfl
          case hxe26 => (intro w hSw; (try dsimp only at hSw); go_simp; (try with_reducible rfl))
        (try simp only [Act.put, List.setIfInBounds_toArray, List.set_cons_zero, List.set_cons_succ])
        refine' take_call 29 ?hie29 (by kernel_rfl) ?hre29
        case hie29 => (simp only [List.getElem?_toArray, List.getElem?_cons_succ, List.getElem?_cons_zero]; rfl)
        intro K hK
        go_simp
        have _hb := HB4.out
        clear _hb
        go_at_call 31
        refine (ncmpV (K := 15) (L := 15) (z := 0) (HNa_5.out.below BC.out) (HNb_5.out.below BC.out) (by omega) (by omega) (cmpZ_eq HR.out)).mono ?_
        rintro e w105 ⟨rfl, hb⟩
        have HB5 := Lib.hid hb
        replace BC := Lib.hid (BC.out.trans (hb.mono BC.out.size))
        clear hb
        go_wp2_with fail
        clear hHeld
        refine hK.out _ _ (by (try dsimp only); exact ⟨(HVa_5.out.below BC.out HVa_5.out.lt).c0, (HVa_5.out.below BC.out HVa_5.out.lt).c1, (HVb_5.out.below BC.out HVb_5.out.lt).c0, (HVb_5.out.below BC.out HVb_5.out.lt).c1, (HVc_5.out.below BC.out HVc_5.out.lt).c0, (HVc_5.out.below BC.out HVc_5.out.lt).c1, (HVd_5.out.below BC.out HVd_5.out.lt).c0, (HVd_5.out.below BC.out HVd_5.out.lt).c1⟩) (fun hHeld => ?_)
        clear hK K
        (try simp only [Act.put, List.setIfInBounds_toArray, List.set_cons_zero, List.set_cons_succ])
        refine' take_any 30 80 (v := _) ?hie30 ?hde30 (by kernel_rfl) (by kernel_rfl) (by kernel_rfl) (fun _ _ _ h => h) ?hye30 hHeld ?hre30
        case hie30 => (simp only [List.getElem?_toArray, List.getElem?_cons_succ, List.getElem?_cons_zero]; rfl)
        case hde30 => rfl
        case hye30 =>
          refine' Or.inl ⟨?hwe30, ?hxe30⟩
          case hwe30 => rfl
          case hxe30 => (intro w hSw; (try dsimp only at hSw); go_simp; (try with_reducible rfl))
        (try simp only [Act.put, List.setIfInBounds_toArray, List.set_cons_zero, List.set_cons_succ])
        refine' take_any 31 81 (v := _) ?hie31 ?hde31 (by kernel_rfl) (by kernel_rfl) (by kernel_rfl) (fun _ _ _ h => h) ?hye31 hHeld ?hre31
        case hie31 => (simp only [List.getElem?_toArray, List.getElem?_cons_succ, List.getElem?_cons_zero]; rfl)
        case hde31 => rfl
        case hye31 =>
          refine' Or.inl ⟨?hwe31, ?hxe31⟩
          case hwe31 => rfl
          case hxe31 => (intro w hSw; (try dsimp only at hSw); go_simp; (try with_reducible rfl))
        (try simp only [Act.put, List.setIfInBounds_toArray, List.set_cons_zero, List.set_cons_succ])
        refine' take_any 32 82 (v := _) ?hie32 ?hde32 (by kernel_rfl) (by kernel_rfl) (by kernel_rfl) (fun _ _ _ h => h) ?hye32 hHeld ?hre32
        case hie32 => (simp only [List.getElem?_toArray, List.getElem?_cons_succ, List.getElem?_cons_zero]; rfl)
        case hde32 => rfl
        case hye32 =>
          refine' Or.inl ⟨?hwe32, ?hxe32⟩
          case hwe32 => rfl
          case hxe32 => (intro w hSw; (try dsimp only at hSw); go_simp; (try with_reducible rfl))
        (try simp only [Act.put, List.setIfInBounds_toArray, List.set_cons_zero, List.set_cons_succ])
        refine' take_any 33 83 (v := _) ?hie33 ?hde33 (by kernel_rfl) (by kernel_rfl) (by kernel_rfl) (fun _ _ _ h => h) ?hye33 hHeld ?hre33
        case hie33 => (simp only [List.getElem?_toArray, List.getElem?_cons_succ, List.getElem?_cons_zero]; rfl)
        case hde33 => rfl
        case hye33 =>
          refine' Or.inl ⟨?hwe33, ?hxe33⟩
          case hwe33 => rfl
          case hxe33 => (intro w hSw; (try dsimp only at hSw); go_simp; (try with_reducible rfl))
        (try simp only [Act.put, List.setIfInBounds_toArray, List.set_cons_zero, List.set_cons_succ])
        refine' take_any 34 84 (v := _) ?hie34 ?hde34 (by kernel_rfl) (by kernel_rfl) (by kernel_rfl) (fun _ _ _ h => h) ?hye34 hHeld ?hre34
        case hie34 => (simp only [List.getElem?_toArray, List.getElem?_cons_succ, List.getElem?_cons_zero]; rfl)
        case hde34 => rfl
        case hye34 =>
          refine' Or.inl ⟨?hwe34, ?hxe34⟩
          case hwe34 => rfl
          case hxe34 => (intro w hSw; (try dsimp only at hSw); go_simp; (try with_reducible rfl))
        (try simp only [Act.put, List.setIfInBounds_toArray, List.set_cons_zero, List.set_cons_succ])
        refine' take_any 35 85 (v := _) ?hie35 ?hde35 (by kernel_rfl) (by kernel_rfl) (by kernel_rfl) (fun _ _ _ h => h) ?hye35 hHeld ?hre35
        case hie35 => (simp only [List.getElem?_toArray, List.getElem?_cons_succ, List.getElem?_cons_zero]; rfl)
        case hde35 => rfl
        case hye35 =>
          refine' Or.inl ⟨?hwe35, ?hxe35⟩
          case hwe35 => rfl
          case hxe35 => (intro w hSw; (try dsimp only at hSw); go_simp; (try with_reducible rfl))
        (try simp only [Act.put, List.setIfInBounds_toArray, List.set_cons_zero, List.set_cons_succ])
        refine' take_any 37 87 (v := _) ?hie37 ?hde37 (by kernel_rfl) (by kernel_rfl) (by kernel_rfl) (fun _ _ _ h => h) ?hye37 hHeld ?hre37
        case hie37 => (simp only [List.getElem?_toArray, List.getElem?_cons_succ, List.getElem?_cons_zero]; rfl)
        case hde37 => rfl
        case hye37 =>
          refine' Or.inl ⟨?hwe37, ?hxe37⟩
          case hwe37 => rfl
          case hxe37 => (intro w hSw; (try dsimp only at hSw); go_simp; (try with_reducible rfl))
        (try simp only [Act.put, List.setIfInBounds_toArray, List.set_cons_zero, List.set_cons_succ])
        refine' take_any 38 88 (v := _) ?hie38 ?hde38 (by kernel_rfl) (by kernel_rfl) (by kernel_rfl) (fun _ _ _ h => h) ?hye38 hHeld ?hre38
        case hie38 => (simp only [List.getElem?_toArray, List.getElem?_cons_succ, List.getElem?_cons_zero]; rfl)
        case hde38 => rfl
        case hye38 =>
          refine' Or.inl ⟨?hwe38, ?hxe38⟩
          case hwe38 => rfl
          case hxe38 => (intro w hSw; (try dsimp only at hSw); go_simp; (try with_reducible rfl))
        (try simp only [Act.put, List.setIfInBounds_toArray, List.set_cons_zero, List.set_cons_succ])
        refine' take_call 36 ?hie36 (by kernel_rfl) ?hre36
        case hie36 => (simp only [List.getElem?_toArray, List.getElem?_cons_succ, List.getElem?_cons_zero]; rfl)
        intro K hK
        go_simp
        have _hb := HB5.out
        clear _hb
        go_at_call 31
        refine (ncmpV (K := 15) (L := 15) (z := 0) (HNa_5.out.below BC.out) (HNb_5.out.below BC.out) (by omega) (by omega) (cmpZ_eq HR.out)).mono ?_
        rintro e w106 ⟨rfl, hb⟩
        have HB6 := Lib.hid hb
        replace BC := Lib.hid (BC.out.trans (hb.mono BC.out.size))
        clear hb
        go_wp2_with fail
        clear hHeld
        refine hK.out _ _ (by (try dsimp only); exact ⟨(HVa_5.out.below BC.out HVa_5.out.lt).c0, (HVa_5.out.below BC.out HVa_5.out.lt).c1, (HVb_5.out.below BC.out HVb_5.out.lt).c0, (HVb_5.out.below BC.out HVb_5.out.lt).c1, (HVc_5.out.below BC.out HVc_5.out.lt).c0, (HVc_5.out.below BC.out HVc_5.out.lt).c1, (HVd_5.out.below BC.out HVd_5.out.lt).c0, (HVd_5.out.below BC.out HVd_5.out.lt).c1⟩) (fun hHeld => ?_)
        clear hK K
        (try simp only [Act.put, List.setIfInBounds_toArray, List.set_cons_zero, List.set_cons_succ])
        refine' take_call 39 ?hie39 (by kernel_rfl) ?hre39
        case hie39 => (simp only [List.getElem?_toArray, List.getElem?_cons_succ, List.getElem?_cons_zero]; rfl)
        intro K hK
        go_simp
        have _hb := HB6.out
        clear _hb
        go_at_call 31
        refine (ncmpV (K := 15) (L := 15) (z := 0) (HNb_5.out.below BC.out) (HNa_5.out.below BC.out) (by omega) (by omega) (cmpZ_eq HR.out.symm)).mono ?_
        rintro e w107 ⟨rfl, hb⟩
        have HB7 := Lib.hid hb
        replace BC := Lib.hid (BC.out.trans (hb.mono BC.out.size))
        clear hb
        go_wp2_with fail
        clear hHeld
        refine hK.out _ _ (by (try dsimp only); exact ⟨(HVa_5.out.below BC.out HVa_5.out.lt).c0, (HVa_5.out.below BC.out HVa_5.out.lt).c1, (HVb_5.out.below BC.out HVb_5.out.lt).c0, (HVb_5.out.below BC.out HVb_5.out.lt).c1, (HVc_5.out.below BC.out HVc_5.out.lt).c0, (HVc_5.out.below BC.out HVc_5.out.lt).c1, (HVd_5.out.below BC.out HVd_5.out.lt).c0, (HVd_5.out.below BC.out HVd_5.out.lt).c1⟩) (fun hHeld => ?_)
        clear hK K
        (try simp only [Act.put, List.setIfInBounds_toArray, List.set_cons_zero, List.set_cons_succ])
        refine' take_any 40 90 (v := _) ?hie40 ?hde40 (by kernel_rfl) (by kernel_rfl) (by kernel_rfl) (fun _ _ _ h => h) ?hye40 hHeld ?hre40
        case hie40 => (simp only [List.getElem?_toArray, List.getElem?_cons_succ, List.getElem?_cons_zero]; rfl)
        case hde40 => rfl
        case hye40 =>
          refine' Or.inl ⟨?hwe40, ?hxe40⟩
          case hwe40 => rfl
          case hxe40 => (intro w hSw; (try dsimp only at hSw); go_simp; (try with_reducible rfl))
        (try simp only [Act.put, List.setIfInBounds_toArray, List.set_cons_zero, List.set_cons_succ])
        refine' take_any 41 91 (v := _) ?hie41 ?hde41 (by kernel_rfl) (by kernel_rfl) (by kernel_rfl) (fun _ _ _ h => h) ?hye41 hHeld ?hre41
        case hie41 => (simp only [List.getElem?_toArray, List.getElem?_cons_succ, List.getElem?_cons_zero]; rfl)
        case hde41 => rfl
        case hye41 =>
          refine' Or.inl ⟨?hwe41, ?hxe41⟩
          case hwe41 => rfl
          case hxe41 => (intro w hSw; (try dsimp only at hSw); go_simp; (try with_reducible rfl))
        (try simp only [Act.put, List.setIfInBounds_toArray, List.set_cons_zero, List.set_cons_succ])
        refine' take_any 42 92 (v := _) ?hie42 ?hde42 (by kernel_rfl) (by kernel_rfl) (by kernel_rfl) (fun _ _ _ h => h) ?hye42 hHeld ?hre42
        case hie42 => (simp only [List.getElem?_toArray, List.getElem?_cons_succ, List.getElem?_cons_zero]; rfl)
        case hde42 => rfl
        case hye42 =>
          refine' Or.inl ⟨?hwe42, ?hxe42⟩
          case hwe42 => rfl
          case hxe42 => (intro w hSw; (try dsimp only at hSw); go_simp; (try with_reducible rfl))
        (try simp only [Act.put, List.setIfInBounds_toArray, List.set_cons_zero, List.set_cons_succ])
        refine' take_any 43 93 (v := _) ?hie43 ?hde43 (by kernel_rfl) (by kernel_rfl) (by kernel_rfl) (fun _ _ _ h => h) ?hye43 hHeld ?hre43
        case hie43 => (simp only [List.getElem?_toArray, List.getElem?_cons_succ, List.getElem?_cons_zero]; rfl)
        case hde43 => rfl
        case hye43 =>
          refine' Or.inl ⟨?hwe43, ?hxe43⟩
          case hwe43 => rfl
          case hxe43 => (intro w hSw; (try dsimp only at hSw); go_simp; (try with_reducible rfl))
        (try simp only [Act.put, List.setIfInBounds_toArray, List.set_cons_zero, List.set_cons_succ])
        refine' take_any 44 94 (v := _) ?hie44 ?hde44 (by kernel_rfl) (by kernel_rfl) (by kernel_rfl) (fun _ _ _ h => h) ?hye44 hHeld ?hre44
        case hie44 => (simp only [List.getElem?_toArray, List.getElem?_cons_succ, List.getElem?_cons_zero]; rfl)
        case hde44 => rfl
        case hye44 =>
          refine' Or.inl ⟨?hwe44, ?hxe44⟩
          case hwe44 => rfl
          case hxe44 => (intro w hSw; (try dsimp only at hSw); go_simp; (try with_reducible rfl))
        (try simp only [Act.put, List.setIfInBounds_toArray, List.set_cons_zero, List.set_cons_succ])
        refine' take_any 45 95 (v := _) ?hie45 ?hde45 (by kernel_rfl) (by kernel_rfl) (by kernel_rfl) (fun _ _ _ h => h) ?hye45 hHeld ?hre45
        case hie45 => (simp only [List.getElem?_toArray, List.getElem?_cons_succ, List.getElem?_cons_zero]; rfl)
        case hde45 => rfl
        case hye45 =>
          refine' Or.inl ⟨?hwe45, ?hxe45⟩
          case hwe45 => rfl
          case hxe45 => (intro w hSw; (try dsimp only at hSw); go_simp; (try with_reducible rfl))
        (try simp only [Act.put, List.setIfInBounds_toArray, List.set_cons_zero, List.set_cons_succ])
        refine' take_any 46 96 (v := _) ?hie46 ?hde46 (by kernel_rfl) (by kernel_rfl) (by kernel_rfl) (fun _ _ _ h => h) ?hye46 hHeld ?hre46
        case hie46 => (simp only [List.getElem?_toArray, List.getElem?_cons_succ, List.getElem?_cons_zero]; rfl)
        case hde46 => rfl
        case hye46 =>
          refine' Or.inl ⟨?hwe46, ?hxe46⟩
          case hwe46 => rfl
          case hxe46 => (intro w hSw; (try dsimp only at hSw); go_simp; (try with_reducible rfl))
        (try simp only [Act.put, List.setIfInBounds_toArray, List.set_cons_zero, List.set_cons_succ])
        refine' take_any 47 97 (v := undef) ?hie47 ?hde47 (by kernel_rfl) (by kernel_rfl) (by kernel_rfl) (fun _ _ _ h => h) ?hye47 hHeld ?hre47
        case hie47 => (simp only [List.getElem?_toArray, List.getElem?_cons_succ, List.getElem?_cons_zero]; rfl)
        case hde47 => rfl
        case hye47 => exact Or.inr ⟨by rfl, rfl⟩
        (try simp only [Act.put, List.setIfInBounds_toArray, List.set_cons_zero, List.set_cons_succ])
        refine' take_any 49 99 (v := undef) ?hie49 ?hde49 (by kernel_rfl) (by kernel_rfl) (by kernel_rfl) (fun _ _ _ h => h) ?hye49 hHeld ?hre49
        case hie49 => (simp only [List.getElem?_toArray, List.getElem?_cons_succ, List.getElem?_cons_zero]; rfl)
        case hde49 => rfl
        case hye49 => exact Or.inr ⟨by rfl, rfl⟩
        (try simp only [Act.put, List.setIfInBounds_toArray, List.set_cons_zero, List.set_cons_succ])
        refine' take_any 48 98 (v := undef) ?hie48 ?hde48 (by kernel_rfl) (by kernel_rfl) (by kernel_rfl) (fun _ _ _ h => h) ?hye48 hHeld ?hre48
        case hie48 => (simp only [List.getElem?_toArray, List.getElem?_cons_succ, List.getElem?_cons_zero]; rfl)
        case hde48 => rfl
        case hye48 => exact Or.inr ⟨by rfl, rfl⟩
        (try simp only [Act.put, List.setIfInBounds_toArray, List.set_cons_zero, List.set_cons_succ])
        refine' take_any 50 100 (v := undef) ?hie50 ?hde50 (by kernel_rfl) (by kernel_rfl) (by kernel_rfl) (fun _ _ _ h => h) ?hye50 hHeld ?hre50
        case hie50 => (simp only [List.getElem?_toArray, List.getElem?_cons_succ, List.getElem?_cons_zero]; rfl)
        case hde50 => rfl
        case hye50 => exact Or.inr ⟨by rfl, rfl⟩
        (try simp only [Act.put, List.setIfInBounds_toArray, List.set_cons_zero, List.set_cons_succ])
        refine' take_any 51 101 (v := undef) ?hie51 ?hde51 (by kernel_rfl) (by kernel_rfl) (by kernel_rfl) (fun _ _ _ h => h) ?hye51 hHeld ?hre51
        case hie51 => (simp only [List.getElem?_toArray, List.getElem?_cons_succ, List.getElem?_cons_zero]; rfl)
        case hde51 => rfl
        case hye51 => exact Or.inr ⟨by rfl, rfl⟩
        (try simp only [Act.put, List.setIfInBounds_toArray, List.set_cons_zero, List.set_cons_succ])
        refine' take_any 52 102 (v := _) ?hie52 ?hde52 (by kernel_rfl) (by kernel_rfl) (by kernel_rfl) (fun _ _ _ h => h) ?hye52 hHeld ?hre52
        case hie52 => (simp only [List.getElem?_toArray, List.getElem?_cons_succ, List.getElem?_cons_zero]; rfl)
        case hde52 => rfl
        case hye52 =>
          refine' Or.inl ⟨?hwe52, ?hxe52⟩
          case hwe52 => rfl
          case hxe52 => (intro w hSw; (try dsimp only at hSw); go_simp; (try with_reducible rfl))
        (try simp only [Act.put, List.setIfInBounds_toArray, List.set_cons_zero, List.set_cons_succ])
        refine' take_any 53 103 (v := _) ?hie53 ?hde53 (by kernel_rfl) (by kernel_rfl) (by kernel_rfl) (fun _ _ _ h => h) ?hye53 hHeld ?hre53
        case hie53 => (simp only [List.getElem?_toArray, List.getElem?_cons_succ, List.getElem?_cons_zero]; rfl)
        case hde53 => rfl
        case hye53 =>
          refine' Or.inl ⟨?hwe53, ?hxe53⟩
          case hwe53 => rfl
          case hxe53 => (intro w hSw; (try dsimp only at hSw); go_simp; (try with_reducible rfl))
        (try simp only [Act.put, List.setIfInBounds_toArray, List.set_cons_zero, List.set_cons_succ])
        refine' take_any 54 4 (v := _) ?hie54 ?hde54 (by kernel_rfl) (by kernel_rfl) (by kernel_rfl) (fun _ _ _ h => h) ?hye54 hHeld ?hre54
        case hie54 => (simp only [List.getElem?_toArray, List.getElem?_cons_succ, List.getElem?_cons_zero]; rfl)
        case hde54 => rfl
        case hye54 =>
          refine' Or.inl ⟨?hwe54, ?hxe54⟩
          case hwe54 => rfl
          case hxe54 => (intro w hSw; (try dsimp only at hSw); go_simp; (try with_reducible rfl))
        (try simp only [Act.put, List.setIfInBounds_toArray, List.set_cons_zero, List.set_cons_succ])
        refine wpAnyH_done (by kernel_rfl) ?_ _
        refine NoPanic.normal ?_
        go_wp2
        go_ret
        exact ⟨rfl, HBW_5.out.trans (BC.out.mono HBW_5.out.size)⟩
  · have HR := Lib.hid hr
    have hne := text_ne HSA.out HSB.out (show x ≠ y by omega)
    clear hr
    cases hs : smallB x with
    | true =>
      have HS := Lib.hid hs
      clear hs
      as_aux_lemma =>
        go_wp2_with fail
        rw [← HG.out, ← HW.out]
        refine (ntextS (K := 15) SA HSA.out HNA.out (by omega) (HT.out.below HBW.out)).mono ?_
        rintro e w201 ⟨rfl, hb⟩
        have HBw201 := Lib.hid hb
        clear hb
        have HVa_1 := Lib.hid (HVA.out.below HBw201.out HVA.out.lt)
        have HNa_1 := Lib.hid (HNA.out.below HBw201.out)
        have HVb_1 := Lib.hid (HVB.out.below HBw201.out HVB.out.lt)
        have HNb_1 := Lib.hid (HNB.out.below HBw201.out)
        have HBW_1 := Lib.hid (HBW.out.trans (HBw201.out.mono HBW.out.size))
        clear HVA HNA HVB HNB HBW
        clear HBw201
        have qa0 := HVa_1.out.c0
        have qa1 := HVa_1.out.c1
        have ta := HVa_1.out.lt
        have qb0 := HVb_1.out.c0
        have qb1 := HVb_1.out.c1
        have tb := HVb_1.out.lt
        go_wp2_with fail
        refine (nreadT (K := 15) x SA HSA.out HNa_1.out.2 (by omega) _).mono ?_
        rintro e w202 ⟨⟨bv2, sv2, lv2, cv2, rfl, hn⟩, hb⟩
        clear qa0 qa1 ta qb0 qb1 tb
        have qa0 := (HVa_1.out.below hb HVa_1.out.lt).c0
        have qa1 := (HVa_1.out.below hb HVa_1.out.lt).c1
        have ta := (HVa_1.out.below hb HVa_1.out.lt).lt
        have qb0 := (HVb_1.out.below hb HVb_1.out.lt).c0
        have qb1 := (HVb_1.out.below hb HVb_1.out.lt).c1
        have tb := (HVb_1.out.below hb HVb_1.out.lt).lt
        obtain ⟨W202, hW202⟩ : ∃ W, W = w202.alloc (.cells #[.bool bv2, .slice sv2 lv2 cv2] 25) := ⟨_, rfl⟩
        obtain ⟨gc, hgc⟩ : ∃ g, g = w202.heap.size := ⟨_, rfl⟩
        have HBW202 := Lib.hid (show Below w201.heap.size w201 W202 by rw [hW202]; exact hb.alloc hb.size _)
        have HVn := Lib.hid (show VarAt W202 gc bv2 sv2 lv2 cv2 by rw [hW202, hgc]; exact VarAt.made _ _ _ _ _)
        have HNn := Lib.hid (show NumIs 16 W202 _ x by rw [hW202]; exact hn.alloc _)
        have HW202 := Lib.hid hW202
        have HGc := Lib.hid hgc
        clear hn hb hW202 hgc
        have HVa_2 := Lib.hid (HVa_1.out.below HBW202.out HVa_1.out.lt)
        have HNa_2 := Lib.hid (HNa_1.out.below HBW202.out)
        have HVb_2 := Lib.hid (HVb_1.out.below HBW202.out HVb_1.out.lt)
        have HNb_2 := Lib.hid (HNb_1.out.below HBW202.out)
        have HBW_2 := Lib.hid (HBW_1.out.trans (HBW202.out.mono HBW_1.out.size))
        clear HVa_1 HNa_1 HVb_1 HNb_1 HBW_1
        have HVc_2 := HVn
        have HNc_2 := HNn
        clear HVn HNn HBW202
        go_wp2_with fail
        rw [← HGc.out, ← HW202.out]
        refine (nparts mb HMB.out HNa_2.out (by omega)).mono ?_
        rintro e wp ⟨⟨sp, lp, cp, rfl, hu⟩, hb⟩
        have HU := Lib.hid hu
        have HBp := Lib.hid hb
        clear hb hu
        have HVa_3 := Lib.hid (HVa_2.out.below HBp.out HVa_2.out.lt)
        have HNa_3 := Lib.hid (HNa_2.out.below HBp.out)
        have HVb_3 := Lib.hid (HVb_2.out.below HBp.out HVb_2.out.lt)
        have HNb_3 := Lib.hid (HNb_2.out.below HBp.out)
        have HVc_3 := Lib.hid (HVc_2.out.below HBp.out HVc_2.out.lt)
        have HNc_3 := Lib.hid (HNc_2.out.below HBp.out)
        have HBW_3 := Lib.hid (HBW_2.out.trans (HBp.out.mono HBW_2.out.size))
        clear HVa_2 HNa_2 HVb_2 HNb_2 HVc_2 HNc_2 HBW_2
        clear HBp
        clear qa0 qa1 ta qb0 qb1 tb
        have qa0 := HVa_3.out.c0
        have qa1 := HVa_3.out.c1
        have ta := HVa_3.out.lt
        have qb0 := HVb_3.out.c0
        have qb1 := HVb_3.out.c1
        have tb := HVb_3.out.lt
        go_wp2_with fail
        refine (njoin (K := 15) mb HMB.out HNa_3.out.2 (by omega) HU.out).mono ?_
        rintro e w204 ⟨⟨bv4, sv4, lv4, cv4, rfl, hn⟩, hb⟩
        clear qa0 qa1 ta qb0 qb1 tb
        have qa0 := (HVa_3.out.below hb HVa_3.out.lt).c0
        have qa1 := (HVa_3.out.below hb HVa_3.out.lt).c1
        have ta := (HVa_3.out.below hb HVa_3.out.lt).lt
        have qb0 := (HVb_3.out.below hb HVb_3.out.lt).c0
        have qb1 := (HVb_3.out.below hb HVb_3.out.lt).c1
        have tb := (HVb_3.out.below hb HVb_3.out.lt).lt
        obtain ⟨W204, hW204⟩ : ∃ W, W = w204.alloc (.cells #[.bool bv4, .slice sv4 lv4 cv4] 25) := ⟨_, rfl⟩
        obtain ⟨gd, hgd⟩ : ∃ g, g = w204.heap.size := ⟨_, rfl⟩
        have HBW204 := Lib.hid (show Below wp.heap.size wp W204 by rw [hW204]; exact hb.alloc hb.size _)
        have HVn := Lib.hid (show VarAt W204 gd bv4 sv4 lv4 cv4 by rw [hW204, hgd]; exact VarAt.made _ _ _ _ _)
        have HNn := Lib.hid (show NumIs 15 W204 _ x by rw [hW204]; exact hn.alloc _)
        have HW204 := Lib.hid hW204
        have HGd := Lib.hid hgd
        clear hn hb hW204 hgd
        have HVa_4 := Lib.hid (HVa_3.out.below HBW204.out HVa_3.out.lt)
        have HNa_4 := Lib.hid (HNa_3.out.below HBW204.out)
        have HVb_4 := Lib.hid (HVb_3.out.below HBW204.out HVb_3.out.lt)
        have HNb_4 := Lib.hid (HNb_3.out.below HBW204.out)
        have HVc_4 := Lib.hid (HVc_3.out.below HBW204.out HVc_3.out.lt)
        have HNc_4 := Lib.hid (HNc_3.out.below HBW204.out)
        have HBW_4 := Lib.hid (HBW_3.out.trans (HBW204.out.mono HBW_3.out.size))
        clear HVa_3 HNa_3 HVb_3 HNb_3 HVc_3 HNc_3 HBW_3
        have HVd_4 := HVn
        have HNd_4 := HNn
        clear HVn HNn HBW204
        clear HU
        go_wp2_with fail
        rw [← HGd.out, ← HW204.out]
        refine (nsmallY HNa_4.out (by omega) HS.out).mono ?_
        rintro e w205 ⟨rfl, hb⟩
        have HBw205 := Lib.hid hb
        clear hb
        have HVa_5 := Lib.hid (HVa_4.out.below HBw205.out HVa_4.out.lt)
        have HNa_5 := Lib.hid (HNa_4.out.below HBw205.out)
        have HVb_5 := Lib.hid (HVb_4.out.below HBw205.out HVb_4.out.lt)
        have HNb_5 := Lib.hid (HNb_4.out.below HBw205.out)
        have HVc_5 := Lib.hid (HVc_4.out.below HBw205.out HVc_4.out.lt)
        have HNc_5 := Lib.hid (HNc_4.out.below HBw205.out)
        have HVd_5 := Lib.hid (HVd_4.out.below HBw205.out HVd_4.out.lt)
        have HNd_5 := Lib.hid (HNd_4.out.below HBw205.out)
        have HBW_5 := Lib.hid (HBW_4.out.trans (HBw205.out.mono HBW_4.out.size))
        clear HVa_4 HNa_4 HVb_4 HNb_4 HVc_4 HNc_4 HVd_4 HNd_4 HBW_4
        clear HBw205
        clear qa0 qa1 ta qb0 qb1 tb
        go_wp2_with fail
        go_big_unhide
        have HTB := Lib.hid (HT.out.below HBW_5.out)
        (try dsimp only [List.append])
        have BC := Lib.hid (show Below w205.heap.size w205 w205.drew from (Below.refl _ _).drew)
        refine wp_region_noPanic ?_
        refine wp_region_held_drew (S := fun w' => w'.cell? ⟨ga, 0, none⟩ = some (.bool b1) ∧ w'.cell? ⟨ga, 1, none⟩ = some (.slice s1 l1 c1) ∧ w'.cell? ⟨ga + 1, 0, none⟩ = some (.bool b2) ∧ w'.cell? ⟨ga + 1, 1, none⟩ = some (.slice s2 l2 c2) ∧ w'.cell? ⟨gc, 0, none⟩ = some (.bool bv2) ∧ w'.cell? ⟨gc, 1, none⟩ = some (.slice sv2 lv2 cv2) ∧ w'.cell? ⟨gd, 0, none⟩ = some (.bool bv4) ∧ w'.cell? ⟨gd, 1, none⟩ = some (.slice sv4 lv4 cv4)) (by kernel_rfl) (by (try dsimp only); exact ⟨(HVa_5.out.below BC.out HVa_5.out.lt).c0, (HVa_5.out.below BC.out HVa_5.out.lt).c1, (HVb_5.out.below BC.out HVb_5.out.lt).c0, (HVb_5.out.below BC.out HVb_5.out.lt).c1, (HVc_5.out.below BC.out HVc_5.out.lt).c0, (HVc_5.out.below BC.out HVc_5.out.lt).c1, (HVd_5.out.below BC.out HVd_5.out.lt).c0, (HVd_5.out.below BC.out HVd_5.out.lt).c1⟩) (fun hHeld => ?_)
        refine' take_any 0 50 (v := _) ?hif0 ?hdf0 (by kernel_rfl) (by kernel_rfl) (by kernel_rfl) (fun _ _ _ h => h) ?hyf0 hHeld ?hrf0
        case hif0 => (simp only [List.getElem?_toArray, List.getElem?_cons_zero]; rfl)
        case hdf0 => rfl
        case hyf0 =>
          refine' Or.inl ⟨?hwf0, ?hxf0⟩
          case hwf0 => rfl
          case hxf0 => (intro w hSw; (try dsimp only at hSw); go_simp; (try with_reducible rfl))
        (try simp only [Act.put, List.setIfInBounds_toArray, List.set_cons_zero, List.set_cons_succ])
        refine' take_any 1 51 (v := _) ?hif1 ?hdf1 (by kernel_rfl) (by kernel_rfl) (by kernel_rfl) (fun _ _ _ h => h) ?hyf1 hHeld ?hrf1
        case hif1 => (simp only [List.getElem?_toArray, List.getElem?_cons_succ, List.getElem?_cons_zero]; rfl)
        case hdf1 => rfl
        case hyf1 =>
          refine' Or.inl ⟨?hwf1, ?hxf1⟩
          case hwf1 => rfl
          case hxf1 => (intro w hSw; (try dsimp only at hSw); go_simp; (try with_reducible rfl))
        (try simp only [Act.put, List.setIfInBounds_toArray, List.set_cons_zero, List.set_cons_succ])
        refine' take_any 2 52 (v := _) ?hif2 ?hdf2 (by kernel_rfl) (by kernel_rfl) (by kernel_rfl) (fun _ _ _ h => h) ?hyf2 hHeld ?hrf2
        case hif2 => (simp only [List.getElem?_toArray, List.getElem?_cons_succ, List.getElem?_cons_zero]; rfl)
        case hdf2 => rfl
        case hyf2 =>
          refine' Or.inl ⟨?hwf2, ?hxf2⟩
          case hwf2 => rfl
          case hxf2 => (intro w hSw; (try dsimp only at hSw); go_simp; (try with_reducible rfl))
        (try simp only [Act.put, List.setIfInBounds_toArray, List.set_cons_zero, List.set_cons_succ])
        refine' take_any 3 53 (v := _) ?hif3 ?hdf3 (by kernel_rfl) (by kernel_rfl) (by kernel_rfl) (fun _ _ _ h => h) ?hyf3 hHeld ?hrf3
        case hif3 => (simp only [List.getElem?_toArray, List.getElem?_cons_succ, List.getElem?_cons_zero]; rfl)
        case hdf3 => rfl
        case hyf3 =>
          refine' Or.inl ⟨?hwf3, ?hxf3⟩
          case hwf3 => rfl
          case hxf3 => (intro w hSw; (try dsimp only at hSw); go_simp; (try with_reducible rfl))
        (try simp only [Act.put, List.setIfInBounds_toArray, List.set_cons_zero, List.set_cons_succ])
        refine' take_any 4 54 (v := _) ?hif4 ?hdf4 (by kernel_rfl) (by kernel_rfl) (by kernel_rfl) (fun _ _ _ h => h) ?hyf4 hHeld ?hrf4
        case hif4 => (simp only [List.getElem?_toArray, List.getElem?_cons_succ, List.getElem?_cons_zero]; rfl)
        case hdf4 => rfl
        case hyf4 =>
          refine' Or.inl ⟨?hwf4, ?hxf4⟩
          case hwf4 => rfl
          case hxf4 => (intro w hSw; (try dsimp only at hSw); go_simp; (try with_reducible rfl))
        (try simp only [Act.put, List.setIfInBounds_toArray, List.set_cons_zero, List.set_cons_succ])
        refine' take_any 5 55 (v := _) ?hif5 ?hdf5 (by kernel_rfl) (by kernel_rfl) (by kernel_rfl) (fun _ _ _ h => h) ?hyf5 hHeld ?hrf5
        case hif5 => (simp only [List.getElem?_toArray, List.getElem?_cons_succ, List.getElem?_cons_zero]; rfl)
        case hdf5 => rfl
        case hyf5 =>
          refine' Or.inl ⟨?hwf5, ?hxf5⟩
          case hwf5 => rfl
          case hxf5 => (intro w hSw; (try dsimp only at hSw); go_simp; (try with_reducible rfl))
        (try simp only [Act.put, List.setIfInBounds_toArray, List.set_cons_zero, List.set_cons_succ])
        refine' take_any 6 56 (v := _) ?hif6 ?hdf6 (by kernel_rfl) (by kernel_rfl) (by kernel_rfl) (fun _ _ _ h => h) ?hyf6 hHeld ?hrf6
        case hif6 => (simp only [List.getElem?_toArray, List.getElem?_cons_succ, List.getElem?_cons_zero]; rfl)
        case hdf6 => rfl
        case hyf6 =>
          refine' Or.inl ⟨?hwf6, ?hxf6⟩
          case hwf6 => rfl
          case hxf6 => (intro w hSw; (try dsimp only at hSw); go_simp; (try with_reducible rfl))
        (try simp only [Act.put, List.setIfInBounds_toArray, List.set_cons_zero, List.set_cons_succ])
        refine' take_any 7 57 (v := _) ?hif7 ?hdf7 (by kernel_rfl) (by kernel_rfl) (by kernel_rfl) (fun _ _ _ h => h) ?hyf7 hHeld ?hrf7
        case hif7 => (simp only [List.getElem?_toArray, List.getElem?_cons_succ, List.getElem?_cons_zero]; rfl)
        case hdf7 => rfl
        case hyf7 =>
          refine' Or.inl ⟨?hwf7, ?hxf7⟩
          case hwf7 => rfl
          case hxf7 => (intro w hSw; (try dsimp only at hSw); go_simp; (try with_reducible rfl))
        (try simp only [Act.put, List.setIfInBounds_toArray, List.set_cons_zero, List.set_cons_succ])
        refine' take_call 8 ?hif8 (by kernel_rfl) ?hrf8
        case hif8 => (simp only [List.getElem?_toArray, List.getElem?_cons_succ, List.getElem?_cons_zero]; rfl)
        intro K hK
        go_simp
        go_at_call 31
        refine (ncmpV (K := 16) (L := 15) (z := 0) (HNc_5.out.below BC.out) (HNa_5.out.below BC.out) (by omega) (by omega) (cmpZ_eq rfl)).mono ?_
        rintro e w101 ⟨rfl, hb⟩
        have HB1 := Lib.hid hb
        replace BC := Lib.hid (BC.out.trans (hb.mono BC.out.size))
        clear hb
        go_wp2_with fail
        clear hHeld
        refine hK.out _ _ (by (try dsimp only); exact ⟨(HVa_5.out.below BC.out HVa_5.out.lt).c0, (HVa_5.out.below BC.out HVa_5.out.lt).c1, (HVb_5.out.below BC.out HVb_5.out.lt).c0, (HVb_5.out.below BC.out HVb_5.out.lt).c1, (HVc_5.out.below BC.out HVc_5.out.lt).c0, (HVc_5.out.below BC.out HVc_5.out.lt).c1, (HVd_5.out.below BC.out HVd_5.out.lt).c0, (HVd_5.out.below BC.out HVd_5.out.lt).c1⟩) (fun hHeld => ?_)
        clear hK K
        (try simp only [Act.put, List.setIfInBounds_toArray, List.set_cons_zero, List.set_cons_succ])
        refine' take_any 9 59 (v := _) ?hif9 ?hdf9 (by kernel_rfl) (by kernel_rfl) (by kernel_rfl) (fun _ _ _ h => h) ?hyf9 hHeld ?hrf9
        case hif9 => (simp only [List.getElem?_toArray, List.getElem?_cons_succ, List.getElem?_cons_zero]; rfl)
        case hdf9 => rfl
        case hyf9 =>
          refine' Or.inl ⟨?hwf9, ?hxf9⟩
          case hwf9 => rfl
          case hxf9 => (intro w hSw; (try dsimp only at hSw); go_simp; (try with_reducible rfl))
        (try simp only [Act.put, List.setIfInBounds_toArray, List.set_cons_zero, List.set_cons_succ])
        refine' take_any 10 60 (v := _) ?hif10 ?hdf10 (by kernel_rfl) (by kernel_rfl) (by kernel_rfl) (fun _ _ _ h => h) ?hyf10 hHeld ?hrf10
        case hif10 => (simp only [List.getElem?_toArray, List.getElem?_cons_succ, List.getElem?_cons_zero]; rfl)
        case hdf10 => rfl
        case hyf10 =>
          refine' Or.inl ⟨?hwf10, ?hxf10⟩
          case hwf10 => rfl
          case hxf10 => (intro w hSw; (try dsimp only at hSw); go_simp; (try with_reducible rfl))
        (try simp only [Act.put, List.setIfInBounds_toArray, List.set_cons_zero, List.set_cons_succ])
        refine' take_any 11 61 (v := _) ?hif11 ?hdf11 (by kernel_rfl) (by kernel_rfl) (by kernel_rfl) (fun _ _ _ h => h) ?hyf11 hHeld ?hrf11
        case hif11 => (simp only [List.getElem?_toArray, List.getElem?_cons_succ, List.getElem?_cons_zero]; rfl)
        case hdf11 => rfl
        case hyf11 =>
          refine' Or.inl ⟨?hwf11, ?hxf11⟩
          case hwf11 => rfl
          case hxf11 => (intro w hSw; (try dsimp only at hSw); go_simp; (try with_reducible rfl))
        (try simp only [Act.put, List.setIfInBounds_toArray, List.set_cons_zero, List.set_cons_succ])
        refine' take_any 12 62 (v := _) ?hif12 ?hdf12 (by kernel_rfl) (by kernel_rfl) (by kernel_rfl) (fun _ _ _ h => h) ?hyf12 hHeld ?hrf12
        case hif12 => (simp only [List.getElem?_toArray, List.getElem?_cons_succ, List.getElem?_cons_zero]; rfl)
        case hdf12 => rfl
        case hyf12 =>
          refine' Or.inl ⟨?hwf12, ?hxf12⟩
          case hwf12 => rfl
          case hxf12 => (intro w hSw; (try dsimp only at hSw); go_simp; (try with_reducible rfl))
        (try simp only [Act.put, List.setIfInBounds_toArray, List.set_cons_zero, List.set_cons_succ])
        refine' take_any 13 63 (v := _) ?hif13 ?hdf13 (by kernel_rfl) (by kernel_rfl) (by kernel_rfl) (fun _ _ _ h => h) ?hyf13 hHeld ?hrf13
        case hif13 => (simp only [List.getElem?_toArray, List.getElem?_cons_succ, List.getElem?_cons_zero]; rfl)
        case hdf13 => rfl
        case hyf13 =>
          refine' Or.inl ⟨?hwf13, ?hxf13⟩
          case hwf13 => rfl
          case hxf13 => (intro w hSw; (try dsimp only at hSw); go_simp; (try with_reducible rfl))
        (try simp only [Act.put, List.setIfInBounds_toArray, List.set_cons_zero, List.set_cons_succ])
        refine' take_any 14 64 (v := _) ?hif14 ?hdf14 (by kernel_rfl) (by kernel_rfl) (by kernel_rfl) (fun _ _ _ h => h) ?hyf14 hHeld ?hrf14
        case hif14 => (simp only [List.getElem?_toArray, List.getElem?_cons_succ, List.getElem?_cons_zero]; rfl)
        case hdf14 => rfl
        case hyf14 =>
          refine' Or.inl ⟨?hwf14, ?hxf14⟩
          case hwf14 => rfl
          case hxf14 => (intro w hSw; (try dsimp only at hSw); go_simp; (try with_reducible rfl))
        (try simp only [Act.put, List.setIfInBounds_toArray, List.set_cons_zero, List.set_cons_succ])
        refine' take_any 15 65 (v := _) ?hif15 ?hdf15 (by kernel_rfl) (by kernel_rfl) (by kernel_rfl) (fun _ _ _ h => h) ?hyf15 hHeld ?hrf15
        case hif15 => (simp only [List.getElem?_toArray, List.getElem?_cons_succ, List.getElem?_cons_zero]; rfl)
        case hdf15 => rfl
        case hyf15 =>
          refine' Or.inl ⟨?hwf15, ?hxf15⟩
          case hwf15 => rfl
          case hxf15 => (intro w hSw; (try dsimp only at hSw); go_simp; (try with_reducible rfl))
        (try simp only [Act.put, List.setIfInBounds_toArray, List.set_cons_zero, List.set_cons_succ])
        refine' take_any 16 66 (v := _) ?hif16 ?hdf16 (by kernel_rfl) (by kernel_rfl) (by kernel_rfl) (fun _ _ _ h => h) ?hyf16 hHeld ?hrf16
        case hif16 => (simp only [List.getElem?_toArray, List.getElem?_cons_succ, List.getElem?_cons_zero]; rfl)
        case hdf16 => rfl
        case hyf16 =>
          refine' Or.inl ⟨?hwf16, ?hxf16⟩
          case hwf16 => rfl
          case hxf16 => (intro w hSw; (try dsimp only at hSw); go_simp; (try with_reducible rfl))
        (try simp only [Act.put, List.setIfInBounds_toArray, List.set_cons_zero, List.set_cons_succ])
        refine' take_any 17 67 (v := _) ?hif17 ?hdf17 (by kernel_rfl) (by kernel_rfl) (by kernel_rfl) (fun _ _ _ h => h) ?hyf17 hHeld ?hrf17
        case hif17 => (simp only [List.getElem?_toArray, List.getElem?_cons_succ, List.getElem?_cons_zero]; rfl)
        case hdf17 => rfl
        case hyf17 =>
          refine' Or.inl ⟨?hwf17, ?hxf17⟩
          case hwf17 => rfl
          case hxf17 => (intro w hSw; (try dsimp only at hSw); go_simp; (try with_reducible rfl))
        (try simp only [Act.put, List.setIfInBounds_toArray, List.set_cons_zero, List.set_cons_succ])
        refine' take_call 18 ?hif18 (by kernel_rfl) ?hrf18
        case hif18 => (simp only [List.getElem?_toArray, List.getElem?_cons_succ, List.getElem?_cons_zero]; rfl)
        intro K hK
        go_simp
        have _hb := HB1.out
        clear _hb
        go_at_call 31
        refine (ncmpV (K := 15) (L := 15) (z := 0) (HNd_5.out.below BC.out) (HNa_5.out.below BC.out) (by omega) (by omega) (cmpZ_eq rfl)).mono ?_
        rintro e w102 ⟨rfl, hb⟩
        have HB2 := Lib.hid hb
        replace BC := Lib.hid (BC.out.trans (hb.mono BC.out.size))
        clear hb
        go_wp2_with fail
        clear hHeld
        refine hK.out _ _ (by (try dsimp only); exact ⟨(HVa_5.out.below BC.out HVa_5.out.lt).c0, (HVa_5.out.below BC.out HVa_5.out.lt).c1, (HVb_5.out.below BC.out HVb_5.out.lt).c0, (HVb_5.out.below BC.out HVb_5.out.lt).c1, (HVc_5.out.below BC.out HVc_5.out.lt).c0, (HVc_5.out.below BC.out HVc_5.out.lt).c1, (HVd_5.out.below BC.out HVd_5.out.lt).c0, (HVd_5.out.below BC.out HVd_5.out.lt).c1⟩) (fun hHeld => ?_)
        clear hK K
        (try simp only [Act.put, List.setIfInBounds_toArray, List.set_cons_zero, List.set_cons_succ])
        refine' take_any 19 69 (v := _) ?hif19 ?hdf19 (by kernel_rfl) (by kernel_rfl) (by kernel_rfl) (fun _ _ _ h => h) ?hyf19 hHeld ?hrf19
        case hif19 => (simp only [List.getElem?_toArray, List.getElem?_cons_succ, List.getElem?_cons_zero]; rfl)
        case hdf19 => rfl
        case hyf19 =>
          refine' Or.inl ⟨?hwf19, ?hxf19⟩
          case hwf19 => rfl
          case hxf19 => (intro w hSw; (try dsimp only at hSw); go_simp; (try with_reducible rfl))
        (try simp only [Act.put, List.setIfInBounds_toArray, List.set_cons_zero, List.set_cons_succ])
        refine' take_any 20 70 (v := _) ?hif20 ?hdf20 (by kernel_rfl) (by kernel_rfl) (by kernel_rfl) (fun _ _ _ h => h) ?hyf20 hHeld ?hrf20
        case hif20 => (simp only [List.getElem?_toArray, List.getElem?_cons_succ, List.getElem?_cons_zero]; rfl)
        case hdf20 => rfl
        case hyf20 =>
          refine' Or.inl ⟨?hwf20, ?hxf20⟩
          case hwf20 => rfl
          case hxf20 => (intro w hSw; (try dsimp only at hSw); go_simp; (try with_reducible rfl))
        (try simp only [Act.put, List.setIfInBounds_toArray, List.set_cons_zero, List.set_cons_succ])
        refine' take_any 21 71 (v := _) ?hif21 ?hdf21 (by kernel_rfl) (by kernel_rfl) (by kernel_rfl) (fun _ _ _ h => h) ?hyf21 hHeld ?hrf21
        case hif21 => (simp only [List.getElem?_toArray, List.getElem?_cons_succ, List.getElem?_cons_zero]; rfl)
        case hdf21 => rfl
        case hyf21 =>
          refine' Or.inl ⟨?hwf21, ?hxf21⟩
          case hwf21 => rfl
          case hxf21 => (intro w hSw; (try dsimp only at hSw); go_simp; (try with_reducible rfl))
        (try simp only [Act.put, List.setIfInBounds_toArray, List.set_cons_zero, List.set_cons_succ])
        refine' take_any 22 72 (v := _) ?hif22 ?hdf22 (by kernel_rfl) (by kernel_rfl) (by kernel_rfl) (fun _ _ _ h => h) ?hyf22 hHeld ?hrf22
        case hif22 => (simp only [List.getElem?_toArray, List.getElem?_cons_succ, List.getElem?_cons_zero]; rfl)
        case hdf22 => rfl
        case hyf22 =>
          refine' Or.inl ⟨?hwf22, ?hxf22⟩
          case hwf22 => rfl
          case hxf22 => (intro w hSw; (try dsimp only at hSw); go_simp; (try with_reducible rfl))
        (try simp only [Act.put, List.setIfInBounds_toArray, List.set_cons_zero, List.set_cons_succ])
        refine' take_any 24 74 (v := _) ?hif24 ?hdf24 (by kernel_rfl) (by kernel_rfl) (by kernel_rfl) (fun _ _ _ h => h) ?hyf24 hHeld ?hrf24
        case hif24 => (simp only [List.getElem?_toArray, List.getElem?_cons_succ, List.getElem?_cons_zero]; rfl)
        case hdf24 => rfl
        case hyf24 =>
          refine' Or.inl ⟨?hwf24, ?hxf24⟩
          case hwf24 => rfl
          case hxf24 => (intro w hSw; (try dsimp only at hSw); go_simp; (try with_reducible rfl))
        (try simp only [Act.put, List.setIfInBounds_toArray, List.set_cons_zero, List.set_cons_succ])
        refine' take_any 27 77 (v := _) ?hif27 ?hdf27 (by kernel_rfl) (by kernel_rfl) (by kernel_rfl) (fun _ _ _ h => h) ?hyf27 hHeld ?hrf27
        case hif27 => (simp only [List.getElem?_toArray, List.getElem?_cons_succ, List.getElem?_cons_zero]; rfl)
        case hdf27 => rfl
        case hyf27 =>
          refine' Or.inl ⟨?hwf27, ?hxf27⟩
          case hwf27 => rfl
          case hxf27 => (intro w hSw; (try dsimp only at hSw); go_simp; (try with_reducible rfl))
        (try simp only [Act.put, List.setIfInBounds_toArray, List.set_cons_zero, List.set_cons_succ])
        refine' take_any 28 78 (v := _) ?hif28 ?hdf28 (by kernel_rfl) (by kernel_rfl) (by kernel_rfl) (fun _ _ _ h => h) ?hyf28 hHeld ?hrf28
        case hif28 => (simp only [List.getElem?_toArray, List.getElem?_cons_succ, List.getElem?_cons_zero]; rfl)
        case hdf28 => rfl
        case hyf28 =>
          refine' Or.inl ⟨?hwf28, ?hxf28⟩
          case hwf28 => rfl
          case hxf28 => (intro w hSw; (try dsimp only at hSw); go_simp; (try with_reducible rfl))
        (try simp only [Act.put, List.setIfInBounds_toArray, List.set_cons_zero, List.set_cons_succ])
        refine' take_call 23 ?hif23 (by kernel_rfl) ?hrf23
        case hif23 => (simp only [List.getElem?_toArray, List.getElem?_cons_succ, List.getElem?_cons_zero]; rfl)
        intro K hK
        go_simp
        have _hb := HB2.out
        clear _hb
        go_at_call 11
        refine (ntextS (K := 15) SA HSA.out (HNa_5.out.below BC.out) (by omega) (HTB.out.below BC.out)).mono ?_
        rintro e w103 ⟨rfl, hb⟩
        have HB3 := Lib.hid hb
        replace BC := Lib.hid (BC.out.trans (hb.mono BC.out.size))
        clear hb
        go_wp2_with fail
        clear hHeld
        refine hK.out _ _ (by (try dsimp only); exact ⟨(HVa_5.out.below BC.out HVa_5.out.lt).c0, (HVa_5.out.below BC.out HVa_5.out.lt).c1, (HVb_5.out.below BC.out HVb_5.out.lt).c0, (HVb_5.out.below BC.out HVb_5.out.lt).c1, (HVc_5.out.below BC.out HVc_5.out.lt).c0, (HVc_5.out.below BC.out HVc_5.out.lt).c1, (HVd_5.out.below BC.out HVd_5.out.lt).c0, (HVd_5.out.below BC.out HVd_5.out.lt).c1⟩) (fun hHeld => ?_)
        clear hK K
        (try simp only [Act.put, List.setIfInBounds_toArray, List.set_cons_zero, List.set_cons_succ])
        refine' take_call 25 ?hif25 (by kernel_rfl) ?hrf25
        case hif25 => (simp only [List.getElem?_toArray, List.getElem?_cons_succ, List.getElem?_cons_zero]; rfl)
        intro K hK
        go_simp
        have _hb := HB3.out
        clear _hb
        go_at_call 11
        refine (ntextS (K := 15) SB HSB.out (HNb_5.out.below BC.out) (by omega) (HTB.out.below BC.out)).mono ?_
        rintro e w104 ⟨rfl, hb⟩
        have HB4 := Lib.hid hb
        replace BC := Lib.hid (BC.out.trans (hb.mono BC.out.size))
        clear hb
        go_wp2_with fail
        clear hHeld
        refine hK.out _ _ (by (try dsimp only); exact ⟨(HVa_5.out.below BC.out HVa_5.out.lt).c0, (HVa_5.out.below BC.out HVa_5.out.lt).c1, (HVb_5.out.below BC.out HVb_5.out.lt).c0, (HVb_5.out.below BC.out HVb_5.out.lt).c1, (HVc_5.out.below BC.out HVc_5.out.lt).c0, (HVc_5.out.below BC.out HVc_5.out.lt).c1, (HVd_5.out.below BC.out HVd_5.out.lt).c0, (HVd_5.out.below BC.out HVd_5.out.lt).c1⟩) (fun hHeld => ?_)
        clear hK K
        (try simp only [Act.put, List.setIfInBounds_toArray, List.set_cons_zero, List.set_cons_succ])
        refine' take_any 26 76 (v := _) ?hif26 ?hdf26 (by kernel_rfl) (by kernel_rfl) (by kernel_rfl) (fun _ _ _ h => h) ?hyf26 hHeld ?hrf26
        case hif26 => (simp only [List.getElem?_toArray, List.getElem?_cons_succ, List.getElem?_cons_zero]; rfl)
        case hdf26 => rfl
        case hyf26 =>
          refine' Or.inl ⟨?hwf26, ?hxf26⟩
          case hwf26 => rfl
          case hxf26 => (intro w hSw; (try dsimp only at hSw); go_simp; (try with_reducible rfl))
        (try simp only [Act.put, List.setIfInBounds_toArray, List.set_cons_zero, List.set_cons_succ])
        refine' take_call 29 ?hif29 (by kernel_rfl) ?hrf29
        case hif29 => (simp only [List.getElem?_toArray, List.getElem?_cons_succ, List.getElem?_cons_zero]; rfl)
        intro K hK
        go_simp
        have _hb := HB4.out
        clear _hb
        go_at_call 31
        refine (ncmpV (K := 15) (L := 15) (z := 1) (HNa_5.out.below BC.out) (HNb_5.out.below BC.out) (by omega) (by omega) (cmpZ_pos HR.out)).mono ?_
        rintro e w105 ⟨rfl, hb⟩
        have HB5 := Lib.hid hb
        replace BC := Lib.hid (BC.out.trans (hb.mono BC.out.size))
        clear hb
        go_wp2_with fail
        clear hHeld
        refine hK.out _ _ (by (try dsimp only); exact ⟨(HVa_5.out.below BC.out HVa_5.out.lt).c0, (HVa_5.out.below BC.out HVa_5.out.lt).c1, (HVb_5.out.below BC.out HVb_5.out.lt).c0, (HVb_5.out.below BC.out HVb_5.out.lt).c1, (HVc_5.out.below BC.out HVc_5.out.lt).c0, (HVc_5.out.below BC.out HVc_5.out.lt).c1, (HVd_5.out.below BC.out HVd_5.out.lt).c0, (HVd_5.out.below BC.out HVd_5.out.lt).c1⟩) (fun hHeld => ?_)
        clear hK K
        (try simp only [Act.put, List.setIfInBounds_toArray, List.set_cons_zero, List.set_cons_succ])
        refine' take_any 30 80 (v := _) ?hif30 ?hdf30 (by kernel_rfl) (by kernel_rfl) (by kernel_rfl) (fun _ _ _ h => h) ?hyf30 hHeld ?hrf30
        case hif30 => (simp only [List.getElem?_toArray, List.getElem?_cons_succ, List.getElem?_cons_zero]; rfl)
        case hdf30 => rfl
        case hyf30 =>
          refine' Or.inl ⟨?hwf30, ?hxf30⟩
          case hwf30 => rfl
          case hxf30 => (intro w hSw; (try dsimp only at hSw); go_simp; (try with_reducible rfl))
        (try simp only [Act.put, List.setIfInBounds_toArray, List.set_cons_zero, List.set_cons_succ])
        refine' take_any 31 81 (v := _) ?hif31 ?hdf31 (by kernel_rfl) (by kernel_rfl) (by kernel_rfl) (fun _ _ _ h => h) ?hyf31 hHeld ?hrf31
        case hif31 => (simp only [List.getElem?_toArray, List.getElem?_cons_succ, List.getElem?_cons_zero]; rfl)
        case hdf31 => rfl
        case hyf31 =>
          refine' Or.inl ⟨?hwf31, ?hxf31⟩
          case hwf31 => rfl
          case hxf31 => (intro w hSw; (try dsimp only at hSw); go_simp; (try with_reducible rfl))
        (try simp only [Act.put, List.setIfInBounds_toArray, List.set_cons_zero, List.set_cons_succ])
        refine' take_any 32 82 (v := _) ?hif32 ?hdf32 (by kernel_rfl) (by kernel_rfl) (by kernel_rfl) (fun _ _ _ h => h) ?hyf32 hHeld ?hrf32
        case hif32 => (simp only [List.getElem?_toArray, List.getElem?_cons_succ, List.getElem?_cons_zero]; rfl)
        case hdf32 => rfl
        case hyf32 =>
          refine' Or.inl ⟨?hwf32, ?hxf32⟩
          case hwf32 => rfl
          case hxf32 => (intro w hSw; (try dsimp only at hSw); go_simp; (try with_reducible rfl))
        (try simp only [Act.put, List.setIfInBounds_toArray, List.set_cons_zero, List.set_cons_succ])
        refine' take_any 33 83 (v := _) ?hif33 ?hdf33 (by kernel_rfl) (by kernel_rfl) (by kernel_rfl) (fun _ _ _ h => h) ?hyf33 hHeld ?hrf33
        case hif33 => (simp only [List.getElem?_toArray, List.getElem?_cons_succ, List.getElem?_cons_zero]; rfl)
        case hdf33 => rfl
        case hyf33 =>
          refine' Or.inl ⟨?hwf33, ?hxf33⟩
          case hwf33 => rfl
          case hxf33 => (intro w hSw; (try dsimp only at hSw); go_simp; (try with_reducible rfl))
        (try simp only [Act.put, List.setIfInBounds_toArray, List.set_cons_zero, List.set_cons_succ])
        refine' take_any 34 84 (v := _) ?hif34 ?hdf34 (by kernel_rfl) (by kernel_rfl) (by kernel_rfl) (fun _ _ _ h => h) ?hyf34 hHeld ?hrf34
        case hif34 => (simp only [List.getElem?_toArray, List.getElem?_cons_succ, List.getElem?_cons_zero]; rfl)
        case hdf34 => rfl
        case hyf34 =>
          refine' Or.inl ⟨?hwf34, ?hxf34⟩
          case hwf34 => rfl
          case hxf34 => (intro w hSw; (try dsimp only at hSw); go_simp; (try with_reducible rfl))
        (try simp only [Act.put, List.setIfInBounds_toArray, List.set_cons_zero, List.set_cons_succ])
        refine' take_any 35 85 (v := _) ?hif35 ?hdf35 (by kernel_rfl) (by kernel_rfl) (by kernel_rfl) (fun _ _ _ h => h) ?hyf35 hHeld ?hrf35
        case hif35 => (simp only [List.getElem?_toArray, List.getElem?_cons_succ, List.getElem?_cons_zero]; rfl)
        case hdf35 => rfl
        case hyf35 =>
          refine' Or.inl ⟨?hwf35, ?hxf35⟩
          case hwf35 => rfl
          case hxf35 => (intro w hSw; (try dsimp only at hSw); go_simp; (try with_reducible rfl))
        (try simp only [Act.put, List.setIfInBounds_toArray, List.set_cons_zero, List.set_cons_succ])
        refine' take_any 37 87 (v := _) ?hif37 ?hdf37 (by kernel_rfl) (by kernel_rfl) (by kernel_rfl) (fun _ _ _ h => h) ?hyf37 hHeld ?hrf37
        case hif37 => (simp only [List.getElem?_toArray, List.getElem?_cons_succ, List.getElem?_cons_zero]; rfl)
        case hdf37 => rfl
        case hyf37 =>
          refine' Or.inl ⟨?hwf37, ?hxf37⟩
          case hwf37 => rfl
          case hxf37 => (intro w hSw; (try dsimp only at hSw); go_simp; (try with_reducible rfl))
        (try simp only [Act.put, List.setIfInBounds_toArray, List.set_cons_zero, List.set_cons_succ])
        refine' take_any 38 88 (v := _) ?hif38 ?hdf38 (by kernel_rfl) (by kernel_rfl) (by kernel_rfl) (fun _ _ _ h => h) ?hyf38 hHeld ?hrf38
        case hif38 => (simp only [List.getElem?_toArray, List.getElem?_cons_succ, List.getElem?_cons_zero]; rfl)
        case hdf38 => rfl
        case hyf38 =>
          refine' Or.inl ⟨?hwf38, ?hxf38⟩
          case hwf38 => rfl
          case hxf38 => (intro w hSw; (try dsimp only at hSw); go_simp; (try with_reducible rfl))
        (try simp only [Act.put, List.setIfInBounds_toArray, List.set_cons_zero, List.set_cons_succ])
        refine' take_call 36 ?hif36 (by kernel_rfl) ?hrf36
        case hif36 => (simp only [List.getElem?_toArray, List.getElem?_cons_succ, List.getElem?_cons_zero]; rfl)
        intro K hK
        go_simp
        have _hb := HB5.out
        clear _hb
        go_at_call 31
        refine (ncmpV (K := 15) (L := 15) (z := 1) (HNa_5.out.below BC.out) (HNb_5.out.below BC.out) (by omega) (by omega) (cmpZ_pos HR.out)).mono ?_
        rintro e w106 ⟨rfl, hb⟩
        have HB6 := Lib.hid hb
        replace BC := Lib.hid (BC.out.trans (hb.mono BC.out.size))
        clear hb
        go_wp2_with fail
        clear hHeld
        refine hK.out _ _ (by (try dsimp only); exact ⟨(HVa_5.out.below BC.out HVa_5.out.lt).c0, (HVa_5.out.below BC.out HVa_5.out.lt).c1, (HVb_5.out.below BC.out HVb_5.out.lt).c0, (HVb_5.out.below BC.out HVb_5.out.lt).c1, (HVc_5.out.below BC.out HVc_5.out.lt).c0, (HVc_5.out.below BC.out HVc_5.out.lt).c1, (HVd_5.out.below BC.out HVd_5.out.lt).c0, (HVd_5.out.below BC.out HVd_5.out.lt).c1⟩) (fun hHeld => ?_)
        clear hK K
        (try simp only [Act.put, List.setIfInBounds_toArray, List.set_cons_zero, List.set_cons_succ])
        refine' take_call 39 ?hif39 (by kernel_rfl) ?hrf39
        case hif39 => (simp only [List.getElem?_toArray, List.getElem?_cons_succ, List.getElem?_cons_zero]; rfl)
        intro K hK
        go_simp
        have _hb := HB6.out
        clear _hb
        go_at_call 31
        refine (ncmpV (K := 15) (L := 15) (z := (-1)) (HNb_5.out.below BC.out) (HNa_5.out.below BC.out) (by omega) (by omega) (cmpZ_neg HR.out)).mono ?_
        rintro e w107 ⟨rfl, hb⟩
        have HB7 := Lib.hid hb
        replace BC := Lib.hid (BC.out.trans (hb.mono BC.out.size))
        clear hb
        go_wp2_with fail
        clear hHeld
        refine hK.out _ _ (by (try dsimp only); exact ⟨(HVa_5.out.below BC.out HVa_5.out.lt).c0, (HVa_5.out.below BC.out HVa_5.out.lt).c1, (HVb_5.out.below BC.out HVb_5.out.lt).c0, (HVb_5.out.below BC.out HVb_5.out.lt).c1, (HVc_5.out.below BC.out HVc_5.out.lt).c0, (HVc_5.out.below BC.out HVc_5.out.lt).c1, (HVd_5.out.below BC.out HVd_5.out.lt).c0, (HVd_5.out.below BC.out HVd_5.out.lt).c1⟩) (fun hHeld => ?_)
        clear hK K
        (try simp only [Act.put, List.setIfInBounds_toArray, List.set_cons_zero, List.set_cons_succ])
        refine' take_any 40 90 (v := _) ?hif40 ?hdf40 (by kernel_rfl) (by kernel_rfl) (by kernel_rfl) (fun _ _ _ h => h) ?hyf40 hHeld ?hrf40
        case hif40 => (simp only [List.getElem?_toArray, List.getElem?_cons_succ, List.getElem?_cons_zero]; rfl)
        case hdf40 => rfl
        case hyf40 =>
          refine' Or.inl ⟨?hwf40, ?hxf40⟩
          case hwf40 => rfl
          case hxf40 => (intro w hSw; (try dsimp only at hSw); go_simp; (try with_reducible rfl))
        (try simp only [Act.put, List.setIfInBounds_toArray, List.set_cons_zero, List.set_cons_succ])
        refine' take_any 41 91 (v := _) ?hif41 ?hdf41 (by kernel_rfl) (by kernel_rfl) (by kernel_rfl) (fun _ _ _ h => h) ?hyf41 hHeld ?hrf41
        case hif41 => (simp only [List.getElem?_toArray, List.getElem?_cons_succ, List.getElem?_cons_zero]; rfl)
        case hdf41 => rfl
        case hyf41 =>
          refine' Or.inl ⟨?hwf41, ?hxf41⟩
          case hwf41 => rfl
          case hxf41 => (intro w hSw; (try dsimp only at hSw); go_simp; (try with_reducible rfl))
        (try simp only [Act.put, List.setIfInBounds_toArray, List.set_cons_zero, List.set_cons_succ])
        refine' take_any 42 92 (v := _) ?hif42 ?hdf42 (by kernel_rfl) (by kernel_rfl) (by kernel_rfl) (fun _ _ _ h => h) ?hyf42 hHeld ?hrf42
        case hif42 => (simp only [List.getElem?_toArray, List.getElem?_cons_succ, List.getElem?_cons_zero]; rfl)
        case hdf42 => rfl
        case hyf42 =>
          refine' Or.inl ⟨?hwf42, ?hxf42⟩
          case hwf42 => rfl
          case hxf42 => (intro w hSw; (try dsimp only at hSw); go_simp; (try with_reducible rfl))
        (try simp only [Act.put, List.setIfInBounds_toArray, List.set_cons_zero, List.set_cons_succ])
        refine' take_any 43 93 (v := _) ?hif43 ?hdf43 (by kernel_rfl) (by kernel_rfl) (by kernel_rfl) (fun _ _ _ h => h) ?hyf43 hHeld ?hrf43
        case hif43 => (simp only [List.getElem?_toArray, List.getElem?_cons_succ, List.getElem?_cons_zero]; rfl)
        case hdf43 => rfl
        case hyf43 =>
          refine' Or.inl ⟨?hwf43, ?hxf43⟩
          case hwf43 => rfl
          case hxf43 => (intro w hSw; (try dsimp only at hSw); go_simp; (try with_reducible rfl))
        (try simp only [Act.put, List.setIfInBounds_toArray, List.set_cons_zero, List.set_cons_succ])
        refine' take_any 44 94 (v := _) ?hif44 ?hdf44 (by kernel_rfl) (by kernel_rfl) (by kernel_rfl) (fun _ _ _ h => h) ?hyf44 hHeld ?hrf44
        case hif44 => (simp only [List.getElem?_toArray, List.getElem?_cons_succ, List.getElem?_cons_zero]; rfl)
        case hdf44 => rfl
        case hyf44 =>
          refine' Or.inl ⟨?hwf44, ?hxf44⟩
          case hwf44 => rfl
          case hxf44 => (intro w hSw; (try dsimp only at hSw); go_simp; (try with_reducible rfl))
        (try simp only [Act.put, List.setIfInBounds_toArray, List.set_cons_zero, List.set_cons_succ])
        refine' take_any 45 95 (v := _) ?hif45 ?hdf45 (by kernel_rfl) (by kernel_rfl) (by kernel_rfl) (fun _ _ _ h => h) ?hyf45 hHeld ?hrf45
        case hif45 => (simp only [List.getElem?_toArray, List.getElem?_cons_succ, List.getElem?_cons_zero]; rfl)
        case hdf45 => rfl
        case hyf45 =>
          refine' Or.inl ⟨?hwf45, ?hxf45⟩
          case hwf45 => rfl
          case hxf45 => (intro w hSw; (try dsimp only at hSw); go_simp; (try with_reducible rfl))
        (try simp only [Act.put, List.setIfInBounds_toArray, List.set_cons_zero, List.set_cons_succ])
        refine' take_any 46 96 (v := _) ?hif46 ?hdf46 (by kernel_rfl) (by kernel_rfl) (by kernel_rfl) (fun _ _ _ h => h) ?hyf46 hHeld ?hrf46
        case hif46 => (simp only [List.getElem?_toArray, List.getElem?_cons_succ, List.getElem?_cons_zero]; rfl)
        case hdf46 => rfl
        case hyf46 =>
          refine' Or.inl ⟨?hwf46, ?hxf46⟩
          case hwf46 => rfl
          case hxf46 => (intro w hSw; (try dsimp only at hSw); go_simp; (try with_reducible rfl))
        (try simp only [Act.put, List.setIfInBounds_toArray, List.set_cons_zero, List.set_cons_succ])
        refine' take_any 47 97 (v := _) ?hif47 ?hdf47 (by kernel_rfl) (by kernel_rfl) (by kernel_rfl) (fun _ _ _ h => h) ?hyf47 hHeld ?hrf47
        case hif47 => (simp only [List.getElem?_toArray, List.getElem?_cons_succ, List.getElem?_cons_zero]; rfl)
        case hdf47 => rfl
        case hyf47 =>
          refine' Or.inl ⟨?hwf47, ?hxf47⟩
          case hwf47 => rfl
          case hxf47 => (intro w hSw; (try dsimp only at hSw); go_simp; (try with_reducible rfl))
        (try simp only [Act.put, List.setIfInBounds_toArray, List.set_cons_zero, List.set_cons_succ])
        refine' take_any 49 99 (v := _) ?hif49 ?hdf49 (by kernel_rfl) (by kernel_rfl) (by kernel_rfl) (fun _ _ _ h => h) ?hyf49 hHeld ?hrf49
        case hif49 => (simp only [List.getElem?_toArray, List.getElem?_cons_succ, List.getElem?_cons_zero]; rfl)
        case hdf49 => rfl
        case hyf49 =>
          refine' Or.inl ⟨?hwf49, ?hxf49⟩
          case hwf49 => rfl
          case hxf49 => (intro w hSw; (try dsimp only at hSw); go_simp; (try with_reducible rfl))
        (try simp only [Act.put, List.setIfInBounds_toArray, List.set_cons_zero, List.set_cons_succ])
        refine' take_call 48 ?hif48 (by kernel_rfl) ?hrf48
        case hif48 => (simp only [List.getElem?_toArray, List.getElem?_cons_succ, List.getElem?_cons_zero]; rfl)
        intro K hK
        go_simp
        have _hb := HB7.out
        clear _hb
        go_at_call 17
        refine (nof x (small_range HS.out).1 (small_range HS.out).2 _).mono ?_
        rintro e w108 ⟨⟨b108, s108, l108, c108, rfl, hn⟩, hb⟩
        have HB8 := Lib.hid hb
        have HN8 := Lib.hid hn
        replace BC := Lib.hid (BC.out.trans (hb.mono BC.out.size))
        clear hb hn
        go_wp2_with fail
        clear hHeld
        refine hK.out _ _ (by (try dsimp only); exact ⟨(HVa_5.out.below BC.out HVa_5.out.lt).c0, (HVa_5.out.below BC.out HVa_5.out.lt).c1, (HVb_5.out.below BC.out HVb_5.out.lt).c0, (HVb_5.out.below BC.out HVb_5.out.lt).c1, (HVc_5.out.below BC.out HVc_5.out.lt).c0, (HVc_5.out.below BC.out HVc_5.out.lt).c1, (HVd_5.out.below BC.out HVd_5.out.lt).c0, (HVd_5.out.below BC.out HVd_5.out.lt).c1⟩) (fun hHeld => ?_)
        clear hK K
        (try simp only [Act.put, List.setIfInBounds_toArray, List.set_cons_zero, List.set_cons_succ])
        refine' take_call 50 ?hif50 (by kernel_rfl) ?hrf50
        case hif50 => (simp only [List.getElem?_toArray, List.getElem?_cons_succ, List.getElem?_cons_zero]; rfl)
        intro K hK
        go_simp
        have _hb := HB8.out
        clear _hb
        go_at_call 31
        refine (ncmpV (K := 3) (L := 15) (z := 0) HN8.out (HNa_5.out.below BC.out) (by omega) (by omega) (cmpZ_eq rfl)).mono ?_
        rintro e w109 ⟨rfl, hb⟩
        have HB9 := Lib.hid hb
        replace BC := Lib.hid (BC.out.trans (hb.mono BC.out.size))
        clear hb
        go_wp2_with fail
        clear hHeld
        refine hK.out _ _ (by (try dsimp only); exact ⟨(HVa_5.out.below BC.out HVa_5.out.lt).c0, (HVa_5.out.below BC.out HVa_5.out.lt).c1, (HVb_5.out.below BC.out HVb_5.out.lt).c0, (HVb_5.out.below BC.out HVb_5.out.lt).c1, (HVc_5.out.below BC.out HVc_5.out.lt).c0, (HVc_5.out.below BC.out HVc_5.out.lt).c1, (HVd_5.out.below BC.out HVd_5.out.lt).c0, (HVd_5.out.below BC.out HVd_5.out.lt).c1⟩) (fun hHeld => ?_)
        clear hK K
        (try simp only [Act.put, List.setIfInBounds_toArray, List.set_cons_zero, List.set_cons_succ])
        refine' take_any 51 101 (v := _) ?hif51 ?hdf51 (by kernel_rfl) (by kernel_rfl) (by kernel_rfl) (fun _ _ _ h => h) ?hyf51 hHeld ?hrf51
        case hif51 => (simp only [List.getElem?_toArray, List.getElem?_cons_succ, List.getElem?_cons_zero]; rfl)
        case hdf51 => rfl
        case hyf51 =>
          refine' Or.inl ⟨?hwf51, ?hxf51⟩
          case hwf51 => rfl
          case hxf51 => (intro w hSw; (try dsimp only at hSw); go_simp; (try with_reducible rfl))
        (try simp only [Act.put, List.setIfInBounds_toArray, List.set_cons_zero, List.set_cons_succ])
        refine' take_any 52 102 (v := _) ?hif52 ?hdf52 (by kernel_rfl) (by kernel_rfl) (by kernel_rfl) (fun _ _ _ h => h) ?hyf52 hHeld ?hrf52
        case hif52 => (simp only [List.getElem?_toArray, List.getElem?_cons_succ, List.getElem?_cons_zero]; rfl)
        case hdf52 => rfl
        case hyf52 =>
          refine' Or.inl ⟨?hwf52, ?hxf52⟩
          case hwf52 => rfl
          case hxf52 => (intro w hSw; (try dsimp only at hSw); go_simp; (try with_reducible rfl))
        (try simp only [Act.put, List.setIfInBounds_toArray, List.set_cons_zero, List.set_cons_succ])
        refine' take_any 53 103 (v := _) ?hif53 ?hdf53 (by kernel_rfl) (by kernel_rfl) (by kernel_rfl) (fun _ _ _ h => h) ?hyf53 hHeld ?hrf53
        case hif53 => (simp only [List.getElem?_toArray, List.getElem?_cons_succ, List.getElem?_cons_zero]; rfl)
        case hdf53 => rfl
        case hyf53 =>
          refine' Or.inl ⟨?hwf53, ?hxf53⟩
          case hwf53 => rfl
          case hxf53 => (intro w hSw; (try dsimp only at hSw); go_simp; (try with_reducible rfl))
        (try simp only [Act.put, List.setIfInBounds_toArray, List.set_cons_zero, List.set_cons_succ])
        refine' take_any 54 4 (v := _) ?hif54 ?hdf54 (by kernel_rfl) (by kernel_rfl) (by kernel_rfl) (fun _ _ _ h => h) ?hyf54 hHeld ?hrf54
        case hif54 => (simp only [List.getElem?_toArray, List.getElem?_cons_succ, List.getElem?_cons_zero]; rfl)
        case hdf54 => rfl
        case hyf54 =>
          refine' Or.inl ⟨?hwf54, ?hxf54⟩
          case hwf54 => rfl
          case hxf54 => (intro w hSw; (try dsimp only at hSw); go_simp; (try with_reducible rfl))
        (try simp only [Act.put, List.setIfInBounds_toArray, List.set_cons_zero, List.set_cons_succ])
        refine wpAnyH_done (by kernel_rfl) ?_ _
        refine NoPanic.normal ?_
        go_wp2
        go_ret
        exact ⟨rfl, HBW_5.out.trans (BC.out.mono HBW_5.out.size)⟩
    | false =>
      have HS := Lib.hid hs
      clear hs
      as_aux_lemma =>
        go_wp2_with fail
        rw [← HG.out, ← HW.out]
        refine (ntextS (K := 15) SA HSA.out HNA.out (by omega) (HT.out.below HBW.out)).mono ?_
        rintro e w201 ⟨rfl, hb⟩
        have HBw201 := Lib.hid hb
        clear hb
        have HVa_1 := Lib.hid (HVA.out.below HBw201.out HVA.out.lt)
        have HNa_1 := Lib.hid (HNA.out.below HBw201.out)
        have HVb_1 := Lib.hid (HVB.out.below HBw201.out HVB.out.lt)
        have HNb_1 := Lib.hid (HNB.out.below HBw201.out)
        have HBW_1 := Lib.hid (HBW.out.trans (HBw201.out.mono HBW.out.size))
        clear HVA HNA HVB HNB HBW
        clear HBw201
        have qa0 := HVa_1.out.c0
        have qa1 := HVa_1.out.c1
        have ta := HVa_1.out.lt
        have qb0 := HVb_1.out.c0
        have qb1 := HVb_1.out.c1
        have tb := HVb_1.out.lt
        go_wp2_with fail
        refine (nreadT (K := 15) x SA HSA.out HNa_1.out.2 (by omega) _).mono ?_
        rintro e w202 ⟨⟨bv2, sv2, lv2, cv2, rfl, hn⟩, hb⟩
        clear qa0 qa1 ta qb0 qb1 tb
        have qa0 := (HVa_1.out.below hb HVa_1.out.lt).c0
        have qa1 := (HVa_1.out.below hb HVa_1.out.lt).c1
        have ta := (HVa_1.out.below hb HVa_1.out.lt).lt
        have qb0 := (HVb_1.out.below hb HVb_1.out.lt).c0
        have qb1 := (HVb_1.out.below hb HVb_1.out.lt).c1
        have tb := (HVb_1.out.below hb HVb_1.out.lt).lt
        obtain ⟨W202, hW202⟩ : ∃ W, W = w202.alloc (.cells #[.bool bv2, .slice sv2 lv2 cv2] 25) := ⟨_, rfl⟩
        obtain ⟨gc, hgc⟩ : ∃ g, g = w202.heap.size := ⟨_, rfl⟩
        have HBW202 := Lib.hid (show Below w201.heap.size w201 W202 by rw [hW202]; exact hb.alloc hb.size _)
        have HVn := Lib.hid (show VarAt W202 gc bv2 sv2 lv2 cv2 by rw [hW202, hgc]; exact VarAt.made _ _ _ _ _)
        have HNn := Lib.hid (show NumIs 16 W202 _ x by rw [hW202]; exact hn.alloc _)
        have HW202 := Lib.hid hW202
        have HGc := Lib.hid hgc
        clear hn hb hW202 hgc
        have HVa_2 := Lib.hid (HVa_1.out.below HBW202.out HVa_1.out.lt)
        have HNa_2 := Lib.hid (HNa_1.out.below HBW202.out)
        have HVb_2 := Lib.hid (HVb_1.out.below HBW202.out HVb_1.out.lt)
        have HNb_2 := Lib.hid (HNb_1.out.below HBW202.out)
        have HBW_2 := Lib.hid (HBW_1.out.trans (HBW202.out.mono HBW_1.out.size))
        clear HVa_1 HNa_1 HVb_1 HNb_1 HBW_1
        have HVc_2 := HVn
        have HNc_2 := HNn
        clear HVn HNn HBW202
        go_wp2_with fail
        rw [← HGc.out, ← HW202.out]
        refine (nparts mb HMB.out HNa_2.out (by omega)).mono ?_
        rintro e wp ⟨⟨sp, lp, cp, rfl, hu⟩, hb⟩
        have HU := Lib.hid hu
        have HBp := Lib.hid hb
        clear hb hu
        have HVa_3 := Lib.hid (HVa_2.out.below HBp.out HVa_2.out.lt)
        have HNa_3 := Lib.hid (HNa_2.out.below HBp.out)
        have HVb_3 := Lib.hid (HVb_2.out.below HBp.out HVb_2.out.lt)
        have HNb_3 := Lib.hid (HNb_2.out.below HBp.out)
        have HVc_3 := Lib.hid (HVc_2.out.below HBp.out HVc_2.out.lt)
        have HNc_3 := Lib.hid (HNc_2.out.below HBp.out)
        have HBW_3 := Lib.hid (HBW_2.out.trans (HBp.out.mono HBW_2.out.size))
        clear HVa_2 HNa_2 HVb_2 HNb_2 HVc_2 HNc_2 HBW_2
        clear HBp
        clear qa0 qa1 ta qb0 qb1 tb
        have qa0 := HVa_3.out.c0
        have qa1 := HVa_3.out.c1
        have ta := HVa_3.out.lt
        have qb0 := HVb_3.out.c0
        have qb1 := HVb_3.out.c1
        have tb := HVb_3.out.lt
        go_wp2_with fail
        refine (njoin (K := 15) mb HMB.out HNa_3.out.2 (by omega) HU.out).mono ?_
        rintro e w204 ⟨⟨bv4, sv4, lv4, cv4, rfl, hn⟩, hb⟩
        clear qa0 qa1 ta qb0 qb1 tb
        have qa0 := (HVa_3.out.below hb HVa_3.out.lt).c0
        have qa1 := (HVa_3.out.below hb HVa_3.out.lt).c1
        have ta := (HVa_3.out.below hb HVa_3.out.lt).lt
        have qb0 := (HVb_3.out.below hb HVb_3.out.lt).c0
        have qb1 := (HVb_3.out.below hb HVb_3.out.lt).c1
        have tb := (HVb_3.out.below hb HVb_3.out.lt).lt
        obtain ⟨W204, hW204⟩ : ∃ W, W = w204.alloc (.cells #[.bool bv4, .slice sv4 lv4 cv4] 25) := ⟨_, rfl⟩
        obtain ⟨gd, hgd⟩ : ∃ g, g = w204.heap.size := ⟨_, rfl⟩
        have HBW204 := Lib.hid (show Below wp.heap.size wp W204 by rw [hW204]; exact hb.alloc hb.size _)
        have HVn := Lib.hid (show VarAt W204 gd bv4 sv4 lv4 cv4 by rw [hW204, hgd]; exact VarAt.made _ _ _ _ _)
        have HNn := Lib.hid (show NumIs 15 W204 _ x by rw [hW204]; exact hn.alloc _)
        have HW204 := Lib.hid hW204
        have HGd := Lib.hid hgd
        clear hn hb hW204 hgd
        have HVa_4 := Lib.hid (HVa_3.out.below HBW204.out HVa_3.out.lt)
        have HNa_4 := Lib.hid (HNa_3.out.below HBW204.out)
        have HVb_4 := Lib.hid (HVb_3.out.below HBW204.out HVb_3.out.lt)
        have HNb_4 := Lib.hid (HNb_3.out.below HBW204.out)
        have HVc_4 := Lib.hid (HVc_3.out.below HBW204.out HVc_3.out.lt)
        have HNc_4 := Lib.hid (HNc_3.out.below HBW204.out)
        have HBW_4 := Lib.hid (HBW_3.out.trans (HBW204.out.mono HBW_3.out.size))
        clear HVa_3 HNa_3 HVb_3 HNb_3 HVc_3 HNc_3 HBW_3
        have HVd_4 := HVn
        have HNd_4 := HNn
        clear HVn HNn HBW204
        clear HU
        go_wp2_with fail
        rw [← HGd.out, ← HW204.out]
        refine (nsmallN HNa_4.out (by omega) HS.out).mono ?_
        rintro e w205 ⟨rfl, hb⟩
        have HBw205 := Lib.hid hb
        clear hb
        have HVa_5 := Lib.hid (HVa_4.out.below HBw205.out HVa_4.out.lt)
        have HNa_5 := Lib.hid (HNa_4.out.below HBw205.out)
        have HVb_5 := Lib.hid (HVb_4.out.below HBw205.out HVb_4.out.lt)
        have HNb_5 := Lib.hid (HNb_4.out.below HBw205.out)
        have HVc_5 := Lib.hid (HVc_4.out.below HBw205.out HVc_4.out.lt)
        have HNc_5 := Lib.hid (HNc_4.out.below HBw205.out)
        have HVd_5 := Lib.hid (HVd_4.out.below HBw205.out HVd_4.out.lt)
        have HNd_5 := Lib.hid (HNd_4.out.below HBw205.out)
        have HBW_5 := Lib.hid (HBW_4.out.trans (HBw205.out.mono HBW_4.out.size))
        clear HVa_4 HNa_4 HVb_4 HNb_4 HVc_4 HNc_4 HVd_4 HNd_4 HBW_4
        clear HBw205
        clear qa0 qa1 ta qb0 qb1 tb
        go_wp2_with fail
        go_big_unhide
        have HTB := Lib.hid (HT.out.below HBW_5.out)
        (try dsimp only [List.append])
        have BC := Lib.hid (show Below w205.heap.size w205 w205.drew from (Below.refl _ _).drew)
        refine wp_region_noPanic ?_
        refine wp_region_held_drew (S := fun w' => w'.cell? ⟨ga, 0, none⟩ = some (.bool b1) ∧ w'.cell? ⟨ga, 1, none⟩ = some (.slice s1 l1 c1) ∧ w'.cell? ⟨ga + 1, 0, none⟩ = some (.bool b2) ∧ w'.cell? ⟨ga + 1, 1, none⟩ = some (.slice s2 l2 c2) ∧ w'.cell? ⟨gc, 0, none⟩ = some (.bool bv2) ∧ w'.cell? ⟨gc, 1, none⟩ = some (.slice sv2 lv2 cv2) ∧ w'.cell? ⟨gd, 0, none⟩ = some (.bool bv4) ∧ w'.cell? ⟨gd, 1, none⟩ = some (.slice sv4 lv4 cv4)) (by kernel_rfl) (by (try dsimp only); exact ⟨(HVa_5.out.below BC.out HVa_5.out.lt).c0, (HVa_5.out.below BC.out HVa_5.out.lt).c1, (HVb_5.out.below BC.out HVb_5.out.lt).c0, (HVb_5.out.below BC.out HVb_5.out.lt).c1, (HVc_5.out.below BC.out HVc_5.out.lt).c0, (HVc_5.out.below BC.out HVc_5.out.lt).c1, (HVd_5.out.below BC.out HVd_5.out.lt).c0, (HVd_5.out.below BC.out HVd_5.out.lt).c1⟩) (fun hHeld => ?_)
        refine' take_any 0 50 (v := _) ?hig0 ?hdg0 (by kernel_rfl) (by kernel_rfl) (by kernel_rfl) (fun _ _ _ h => h) ?hyg0 hHeld ?hrg0
        case hig0 => (simp only [List.getElem?_toArray, List.getElem?_cons_zero]; rfl)
        case hdg0 => rfl
        case hyg0 =>
          refine' Or.inl ⟨?hwg0, ?hxg0⟩
          case hwg0 => rfl
          case hxg0 => (intro w hSw; (try dsimp only at hSw); go_simp; (try with_reducible rfl))
        (try simp only [Act.put, List.setIfInBounds_toArray, List.set_cons_zero, List.set_cons_succ])
        refine' take_any 1 51 (v := _) ?hig1 ?hdg1 (by kernel_rfl) (by kernel_rfl) (by kernel_rfl) (fun _ _ _ h => h) ?hyg1 hHeld ?hrg1
        case hig1 => (simp only [List.getElem?_toArray, List.getElem?_cons_succ, List.getElem?_cons_zero]; rfl)
        case hdg1 => rfl
        case hyg1 =>
          refine' Or.inl ⟨?hwg1, ?hxg1⟩
          case hwg1 => rfl
          case hxg1 => (intro w hSw; (try dsimp only at hSw); go_simp; (try with_reducible rfl))
        (try simp only [Act.put, List.setIfInBounds_toArray, List.set_cons_zero, List.set_cons_succ])
        refine' take_any 2 52 (v := _) ?hig2 ?hdg2 (by kernel_rfl) (by kernel_rfl) (by kernel_rfl) (fun _ _ _ h => h) ?hyg2 hHeld ?hrg2
        case hig2 => (simp only [List.getElem?_toArray, List.getElem?_cons_succ, List.getElem?_cons_zero]; rfl)
        case hdg2 => rfl
        case hyg2 =>
          refine' Or.inl ⟨?hwg2, ?hxg2⟩
          case hwg2 => rfl
          case hxg2 => (intro w hSw; (try dsimp only at hSw); go_simp; (try with_reducible rfl))
        (try simp only [Act.put, List.setIfInBounds_toArray, List.set_cons_zero, List.set_cons_succ])
        refine' take_any 3 53 (v := _) ?hig3 ?hdg3 (by kernel_rfl) (by kernel_rfl) (by kernel_rfl) (fun _ _ _ h => h) ?hyg3 hHeld ?hrg3
        case hig3 => (simp only [List.getElem?_toArray, List.getElem?_cons_succ, List.getElem?_cons_zero]; rfl)
        case hdg3 => rfl
        case hyg3 =>
          refine' Or.inl ⟨?hwg3, ?hxg3⟩
          case hwg3 => rfl
          case hxg3 => (intro w hSw; (try dsimp only at hSw); go_simp; (try with_reducible rfl))
        (try simp only [Act.put, List.setIfInBounds_toArray, List.set_cons_zero, List.set_cons_succ])
        refine' take_any 4 54 (v := _) ?hig4 ?hdg4 (by kernel_rfl) (by kernel_rfl) (by kernel_rfl) (fun _ _ _ h => h) ?hyg4 hHeld ?hrg4
        case hig4 => (simp only [List.getElem?_toArray, List.getElem?_cons_succ, List.getElem?_cons_zero]; rfl)
        case hdg4 => rfl
        case hyg4 =>
          refine' Or.inl ⟨?hwg4, ?hxg4⟩
          case hwg4 => rfl
          case hxg4 => (intro w hSw; (try dsimp only at hSw); go_simp; (try with_reducible rfl))
        (try simp only [Act.put, List.setIfInBounds_toArray, List.set_cons_zero, List.set_cons_succ])
        refine' take_any 5 55 (v := _) ?hig5 ?hdg5 (by kernel_rfl) (by kernel_rfl) (by kernel_rfl) (fun _ _ _ h => h) ?hyg5 hHeld ?hrg5
        case hig5 => (simp only [List.getElem?_toArray, List.getElem?_cons_succ, List.getElem?_cons_zero]; rfl)
        case hdg5 => rfl
        case hyg5 =>
          refine' Or.inl ⟨?hwg5, ?hxg5⟩
          case hwg5 => rfl
          case hxg5 => (intro w hSw; (try dsimp only at hSw); go_simp; (try with_reducible rfl))
        (try simp only [Act.put, List.setIfInBounds_toArray, List.set_cons_zero, List.set_cons_succ])
        refine' take_any 6 56 (v := _) ?hig6 ?hdg6 (by kernel_rfl) (by kernel_rfl) (by kernel_rfl) (fun _ _ _ h => h) ?hyg6 hHeld ?hrg6
        case hig6 => (simp only [List.getElem?_toArray, List.getElem?_cons_succ, List.getElem?_cons_zero]; rfl)
        case hdg6 => rfl
        case hyg6 =>
          refine' Or.inl ⟨?hwg6, ?hxg6⟩
          case hwg6 => rfl
          case hxg6 => (intro w hSw; (try dsimp only at hSw); go_simp; (try with_reducible rfl))
        (try simp only [Act.put, List.setIfInBounds_toArray, List.set_cons_zero, List.set_cons_succ])
        refine' take_any 7 57 (v := _) ?hig7 ?hdg7 (by kernel_rfl) (by kernel_rfl) (by kernel_rfl) (fun _ _ _ h => h) ?hyg7 hHeld ?hrg7
        case hig7 => (simp only [List.getElem?_toArray, List.getElem?_cons_succ, List.getElem?_cons_zero]; rfl)
        case hdg7 => rfl
        case hyg7 =>
          refine' Or.inl ⟨?hwg7, ?hxg7⟩
          case hwg7 => rfl
          case hxg7 => (intro w hSw; (try dsimp only at hSw); go_simp; (try with_reducible rfl))
        (try simp only [Act.put, List.setIfInBounds_toArray, List.set_cons_zero, List.set_cons_succ])
        refine' take_call 8 ?hig8 (by kernel_rfl) ?hrg8
        case hig8 => (simp only [List.getElem?_toArray, List.getElem?_cons_succ, List.getElem?_cons_zero]; rfl)
        intro K hK
        go_simp
        go_at_call 31
        refine (ncmpV (K := 16) (L := 15) (z := 0) (HNc_5.out.below BC.out) (HNa_5.out.below BC.out) (by omega) (by omega) (cmpZ_eq rfl)).mono ?_
        rintro e w101 ⟨rfl, hb⟩
        have HB1 := Lib.hid hb
        replace BC := Lib.hid (BC.out.trans (hb.mono BC.out.size))
        clear hb
        go_wp2_with fail
        clear hHeld
        refine hK.out _ _ (by (try dsimp only); exact ⟨(HVa_5.out.below BC.out HVa_5.out.lt).c0, (HVa_5.out.below BC.out HVa_5.out.lt).c1, (HVb_5.out.below BC.out HVb_5.out.lt).c0, (HVb_5.out.below BC.out HVb_5.out.lt).c1, (HVc_5.out.below BC.out HVc_5.out.lt).c0, (HVc_5.out.below BC.out HVc_5.out.lt).c1, (HVd_5.out.below BC.out HVd_5.out.lt).c0, (HVd_5.out.below BC.out HVd_5.out.lt).c1⟩) (fun hHeld => ?_)
        clear hK K
        (try simp only [Act.put, List.setIfInBounds_toArray, List.set_cons_zero, List.set_cons_succ])
        refine' take_any 9 59 (v := _) ?hig9 ?hdg9 (by kernel_rfl) (by kernel_rfl) (by kernel_rfl) (fun _ _ _ h => h) ?hyg9 hHeld ?hrg9
        case hig9 => (simp only [List.getElem?_toArray, List.getElem?_cons_succ, List.getElem?_cons_zero]; rfl)
        case hdg9 => rfl
        case hyg9 =>
          refine' Or.inl ⟨?hwg9, ?hxg9⟩
          case hwg9 => rfl
          case hxg9 => (intro w hSw; (try dsimp only at hSw); go_simp; (try with_reducible rfl))
        (try simp only [Act.put, List.setIfInBounds_toArray, List.set_cons_zero, List.set_cons_succ])
        refine' take_any 10 60 (v := _) ?hig10 ?hdg10 (by kernel_rfl) (by kernel_rfl) (by kernel_rfl) (fun _ _ _ h => h) ?hyg10 hHeld ?hrg10
        case hig10 => (simp only [List.getElem?_toArray, List.getElem?_cons_succ, List.getElem?_cons_zero]; rfl)
        case hdg10 => rfl
        case hyg10 =>
          refine' Or.inl ⟨?hwg10, ?hxg10⟩
          case hwg10 => rfl
          case hxg10 => (intro w hSw; (try dsimp only at hSw); go_simp; (try with_reducible rfl))
        (try simp only [Act.put, List.setIfInBounds_toArray, List.set_cons_zero, List.set_cons_succ])
        refine' take_any 11 61 (v := _) ?hig11 ?hdg11 (by kernel_rfl) (by kernel_rfl) (by kernel_rfl) (fun _ _ _ h => h) ?hyg11 hHeld ?hrg11
        case hig11 => (simp only [List.getElem?_toArray, List.getElem?_cons_succ, List.getElem?_cons_zero]; rfl)
        case hdg11 => rfl
        case hyg11 =>
          refine' Or.inl ⟨?hwg11, ?hxg11⟩
          case hwg11 => rfl
          case hxg11 => (intro w hSw; (try dsimp only at hSw); go_simp; (try with_reducible rfl))
        (try simp only [Act.put, List.setIfInBounds_toArray, List.set_cons_zero, List.set_cons_succ])
        refine' take_any 12 62 (v := _) ?hig12 ?hdg12 (by kernel_rfl) (by kernel_rfl) (by kernel_rfl) (fun _ _ _ h => h) ?hyg12 hHeld ?hrg12
        case hig12 => (simp only [List.getElem?_toArray, List.getElem?_cons_succ, List.getElem?_cons_zero]; rfl)
        case hdg12 => rfl
        case hyg12 =>
          refine' Or.inl ⟨?hwg12, ?hxg12⟩
          case hwg12 => rfl
          case hxg12 => (intro w hSw; (try dsimp only at hSw); go_simp; (try with_reducible rfl))
        (try simp only [Act.put, List.setIfInBounds_toArray, List.set_cons_zero, List.set_cons_succ])
        refine' take_any 13 63 (v := _) ?hig13 ?hdg13 (by kernel_rfl) (by kernel_rfl) (by kernel_rfl) (fun _ _ _ h => h) ?hyg13 hHeld ?hrg13
        case hig13 => (simp only [List.getElem?_toArray, List.getElem?_cons_succ, List.getElem?_cons_zero]; rfl)
        case hdg13 => rfl
        case hyg13 =>
          refine' Or.inl ⟨?hwg13, ?hxg13⟩
          case hwg13 => rfl
          case hxg13 => (intro w hSw; (try dsimp only at hSw); go_simp; (try with_reducible rfl))
        (try simp only [Act.put, List.setIfInBounds_toArray, List.set_cons_zero, List.set_cons_succ])
        refine' take_any 14 64 (v := _) ?hig14 ?hdg14 (by kernel_rfl) (by kernel_rfl) (by kernel_rfl) (fun _ _ _ h => h) ?hyg14 hHeld ?hrg14
        case hig14 => (simp only [List.getElem?_toArray, List.getElem?_cons_succ, List.getElem?_cons_zero]; rfl)
        case hdg14 => rfl
        case hyg14 =>
          refine' Or.inl ⟨?hwg14, ?hxg14⟩
          case hwg14 => rfl
          case hxg14 => (intro w hSw; (try dsimp only at hSw); go_simp; (try with_reducible rfl))
        (try simp only [Act.put, List.setIfInBounds_toArray, List.set_cons_zero, List.set_cons_succ])
        refine' take_any 15 65 (v := _) ?hig15 ?hdg15 (by kernel_rfl) (by kernel_rfl) (by kernel_rfl) (fun _ _ _ h => h) ?hyg15 hHeld ?hrg15
        case hig15 => (simp only [List.getElem?_toArray, List.getElem?_cons_succ, List.getElem?_cons_zero]; rfl)
        case hdg15 => rfl
        case hyg15 =>
          refine' Or.inl ⟨?hwg15, ?hxg15⟩
          case hwg15 => rfl
          case hxg15 => (intro w hSw; (try dsimp only at hSw); go_simp; (try with_reducible rfl))
        (try simp only [Act.put, List.setIfInBounds_toArray, List.set_cons_zero, List.set_cons_succ])
        refine' take_any 16 66 (v := _) ?hig16 ?hdg16 (by kernel_rfl) (by kernel_rfl) (by kernel_rfl) (fun _ _ _ h => h) ?hyg16 hHeld ?hrg16
        case hig16 => (simp only [List.getElem?_toArray, List.getElem?_cons_succ, List.getElem?_cons_zero]; rfl)
        case hdg16 => rfl
        case hyg16 =>
          refine' Or.inl ⟨?hwg16, ?hxg16⟩
          case hwg16 => rfl
          case hxg16 => (intro w hSw; (try dsimp only at hSw); go_simp; (try with_reducible rfl))
        (try simp only [Act.put, List.setIfInBounds_toArray, List.set_cons_zero, List.set_cons_succ])
        refine' take_any 17 67 (v := _) ?hig17 ?hdg17 (by kernel_rfl) (by kernel_rfl) (by kernel_rfl) (fun _ _ _ h => h) ?hyg17 hHeld ?hrg17
        case hig17 => (simp only [List.getElem?_toArray, List.getElem?_cons_succ, List.getElem?_cons_zero]; rfl)
        case hdg17 => rfl
        case hyg17 =>
          refine' Or.inl ⟨?hwg17, ?hxg17⟩
          case hwg17 => rfl
          case hxg17 => (intro w hSw; (try dsimp only at hSw); go_simp; (try with_reducible rfl))
        (try simp only [Act.put, List.setIfInBounds_toArray, List.set_cons_zero, List.set_cons_succ])
        refine' take_call 18 ?hig18 (by kernel_rfl) ?hrg18
        case hig18 => (simp only [List.getElem?_toArray, List.getElem?_cons_succ, List.getElem?_cons_zero]; rfl)
        intro K hK
        go_simp
        have _hb := HB1.out
        clear _hb
        go_at_call 31
        refine (ncmpV (K := 15) (L := 15) (z := 0) (HNd_5.out.below BC.out) (HNa_5.out.below BC.out) (by omega) (by omega) (cmpZ_eq rfl)).mono ?_
        rintro e w102 ⟨rfl, hb⟩
        have HB2 := Lib.hid hb
        replace BC := Lib.hid (BC.out.trans (hb.mono BC.out.size))
        clear hb
        go_wp2_with fail
        clear hHeld
        refine hK.out _ _ (by (try dsimp only); exact ⟨(HVa_5.out.below BC.out HVa_5.out.lt).c0, (HVa_5.out.below BC.out HVa_5.out.lt).c1, (HVb_5.out.below BC.out HVb_5.out.lt).c0, (HVb_5.out.below BC.out HVb_5.out.lt).c1, (HVc_5.out.below BC.out HVc_5.out.lt).c0, (HVc_5.out.below BC.out HVc_5.out.lt).c1, (HVd_5.out.below BC.out HVd_5.out.lt).c0, (HVd_5.out.below BC.out HVd_5.out.lt).c1⟩) (fun hHeld => ?_)
        clear hK K
        (try simp only [Act.put, List.setIfInBounds_toArray, List.set_cons_zero, List.set_cons_succ])
        refine' take_any 19 69 (v := _) ?hig19 ?hdg19 (by kernel_rfl) (by kernel_rfl) (by kernel_rfl) (fun _ _ _ h => h) ?hyg19 hHeld ?hrg19
        case hig19 => (simp only [List.getElem?_toArray, List.getElem?_cons_succ, List.getElem?_cons_zero]; rfl)
        case hdg19 => rfl
        case hyg19 =>
          refine' Or.inl ⟨?hwg19, ?hxg19⟩
          case hwg19 => rfl
          case hxg19 => (intro w hSw; (try dsimp only at hSw); go_simp; (try with_reducible rfl))
        (try simp only [Act.put, List.setIfInBounds_toArray, List.set_cons_zero, List.set_cons_succ])
        refine' take_any 20 70 (v := _) ?hig20 ?hdg20 (by kernel_rfl) (by kernel_rfl) (by kernel_rfl) (fun _ _ _ h => h) ?hyg20 hHeld ?hrg20
        case hig20 => (simp only [List.getElem?_toArray, List.getElem?_cons_succ, List.getElem?_cons_zero]; rfl)
        case hdg20 => rfl
        case hyg20 =>
          refine' Or.inl ⟨?hwg20, ?hxg20⟩
          case hwg20 => rfl
          case hxg20 => (intro w hSw; (try dsimp only at hSw); go_simp; (try with_reducible rfl))
        (try simp only [Act.put, List.setIfInBounds_toArray, List.set_cons_zero, List.set_cons_succ])
        refine' take_any 21 71 (v := _) ?hig21 ?hdg21 (by kernel_rfl) (by kernel_rfl) (by kernel_rfl) (fun _ _ _ h => h) ?hyg21 hHeld ?hrg21
        case hig21 => (simp only [List.getElem?_toArray, List.getElem?_cons_succ, List.getElem?_cons_zero]; rfl)
        case hdg21 => rfl
        case hyg21 =>
          refine' Or.inl ⟨?hwg21, ?hxg21⟩
          case hwg21 => rfl
          case hxg21 => (intro w hSw; (try dsimp only at hSw); go_simp; (try with_reducible rfl))
        (try simp only [Act.put, List.setIfInBounds_toArray, List.set_cons_zero, List.set_cons_succ])
        refine' take_any 22 72 (v := _) ?hig22 ?hdg22 (by kernel_rfl) (by kernel_rfl) (by kernel_rfl) (fun _ _ _ h => h) ?hyg22 hHeld ?hrg22
        case hig22 => (simp only [List.getElem?_toArray, List.getElem?_cons_succ, List.getElem?_cons_zero]; rfl)
        case hdg22 => rfl
        case hyg22 =>
          refine' Or.inl ⟨?hwg22, ?hxg22⟩
          case hwg22 => rfl
          case hxg22 => (intro w hSw; (try dsimp only at hSw); go_simp; (try with_reducible rfl))
        (try simp only [Act.put, List.setIfInBounds_toArray, List.set_cons_zero, List.set_cons_succ])
        refine' take_any 24 74 (v := _) ?hig24 ?hdg24 (by kernel_rfl) (by kernel_rfl) (by kernel_rfl) (fun _ _ _ h => h) ?hyg24 hHeld ?hrg24
        case hig24 => (simp only [List.getElem?_toArray, List.getElem?_cons_succ, List.getElem?_cons_zero]; rfl)
        case hdg24 => rfl
        case hyg24 =>
          refine' Or.inl ⟨?hwg24, ?hxg24⟩
          case hwg24 => rfl
          case hxg24 => (intro w hSw; (try dsimp only at hSw); go_simp; (try with_reducible rfl))
        (try simp only [Act.put, List.setIfInBounds_toArray, List.set_cons_zero, List.set_cons_succ])
        refine' take_any 27 77 (v := _) ?hig27 ?hdg27 (by kernel_rfl) (by kernel_rfl) (by kernel_rfl) (fun _ _ _ h => h) ?hyg27 hHeld ?hrg27
        case hig27 => (simp only [List.getElem?_toArray, List.getElem?_cons_succ, List.getElem?_cons_zero]; rfl)
        case hdg27 => rfl
        case hyg27 =>
          refine' Or.inl ⟨?hwg27, ?hxg27⟩
          case hwg27 => rfl
          case hxg27 => (intro w hSw; (try dsimp only at hSw); go_simp; (try with_reducible rfl))
        (try simp only [Act.put, List.setIfInBounds_toArray, List.set_cons_zero, List.set_cons_succ])
        refine' take_any 28 78 (v := _) ?hig28 ?hdg28 (by kernel_rfl) (by kernel_rfl) (by kernel_rfl) (fun _ _ _ h => h) ?hyg28 hHeld ?hrg28
        case hig28 => (simp only [List.getElem?_toArray, List.getElem?_cons_succ, List.getElem?_cons_zero]; rfl)
        case hdg28 => rfl
        case hyg28 =>
          refine' Or.inl ⟨?hwg28, ?hxg28⟩
          case hwg28 => rfl
          case hxg28 => (intro w hSw; (try dsimp only at hSw); go_simp; (try with_reducible rfl))
        (try simp only [Act.put, List.setIfInBounds_toArray, List.set_cons_zero, List.set_cons_succ])
        refine' take_call 23 ?hig23 (by kernel_rfl) ?hrg23
        case hig23 => (simp only [List.getElem?_toArray, List.getElem?_cons_succ, List.getElem?_cons_zero]; rfl)
        intro K hK
        go_simp
        have _hb := HB2.out
        clear _hb
        go_at_call 11
        refine (ntextS (K := 15) SA HSA.out (HNa_5.out.below BC.out) (by omega) (HTB.out.below BC.out)).mono ?_
        rintro e w103 ⟨rfl, hb⟩
        have HB3 := Lib.hid hb
        replace BC := Lib.hid (BC.out.trans (hb.mono BC.out.size))
        clear hb
        go_wp2_with fail
        clear hHeld
        refine hK.out _ _ (by (try dsimp only); exact ⟨(HVa_5.out.below BC.out HVa_5.out.lt).c0, (HVa_5.out.below BC.out HVa_5.out.lt).c1, (HVb_5.out.below BC.out HVb_5.out.lt).c0, (HVb_5.out.below BC.out HVb_5.out.lt).c1, (HVc_5.out.below BC.out HVc_5.out.lt).c0, (HVc_5.out.below BC.out HVc_5.out.lt).c1, (HVd_5.out.below BC.out HVd_5.out.lt).c0, (HVd_5.out.below BC.out HVd_5.out.lt).c1⟩) (fun hHeld => ?_)
        clear hK K
        (try simp only [Act.put, List.setIfInBounds_toArray, List.set_cons_zero, List.set_cons_succ])
        refine' take_call 25 ?hig25 (by kernel_rfl) ?hrg25
        case hig25 => (simp only [List.getElem?_toArray, List.getElem?_cons_succ, List.getElem?_cons_zero]; rfl)
        intro K hK
        go_simp
        have _hb := HB3.out
        clear _hb
        go_at_call 11
        refine (ntextS (K := 15) SB HSB.out (HNb_5.out.below BC.out) (by omega) (HTB.out.below BC.out)).mono ?_
        rintro e w104 ⟨rfl, hb⟩
        have HB4 := Lib.hid hb
        replace BC := Lib.hid (BC.out.trans (hb.mono BC.out.size))
        clear hb
        go_wp2_with fail
        clear hHeld
        refine hK.out _ _ (by (try dsimp only); exact ⟨(HVa_5.out.below BC.out HVa_5.out.lt).c0, (HVa_5.out.below BC.out HVa_5.out.lt).c1, (HVb_5.out.below BC.out HVb_5.out.lt).c0, (HVb_5.out.below BC.out HVb_5.out.lt).c1, (HVc_5.out.below BC.out HVc_5.out.lt).c0, (HVc_5.out.below BC.out HVc_5.out.lt).c1, (HVd_5.out.below BC.out HVd_5.out.lt).c0, (HVd_5.out.below BC.out HVd_5.out.lt).c1⟩) (fun hHeld => ?_)
        clear hK K
        (try simp only [Act.put, List.setIfInBounds_toArray, List.set_cons_zero, List.set_cons_succ])
        refine' take_any 26 76 (v := _) ?hig26 ?hdg26 (by kernel_rfl) (by kernel_rfl) (by kernel_rfl) (fun _ _ _ h => h) ?hyg26 hHeld ?hrg26
        case hig26 => (simp only [List.getElem?_toArray, List.getElem?_cons_succ, List.getElem?_cons_zero]; rfl)
        case hdg26 => rfl
        case hyg26 =>
          refine' Or.inl ⟨?hwg26, ?hxg26⟩
          case hwg26 => rfl
          case hxg26 => (intro w hSw; (try dsimp only at hSw); go_simp; (try with_reducible rfl))
        (try simp only [Act.put, List.setIfInBounds_toArray, List.set_cons_zero, List.set_cons_succ])
        refine' take_call 29 ?hig29 (by kernel_rfl) ?hrg29
        case hig29 => (simp only [List.getElem?_toArray, List.getElem?_cons_succ, List.getElem?_cons_zero]; rfl)
        intro K hK
        go_simp
        have _hb := HB4.out
        clear _hb
        go_at_call 31
        refine (ncmpV (K := 15) (L := 15) (z := 1) (HNa_5.out.below BC.out) (HNb_5.out.below BC.out) (by omega) (by omega) (cmpZ_pos HR.out)).mono ?_
        rintro e w105 ⟨rfl, hb⟩
        have HB5 := Lib.hid hb
        replace BC := Lib.hid (BC.out.trans (hb.mono BC.out.size))
        clear hb
        go_wp2_with fail
        clear hHeld
        refine hK.out _ _ (by (try dsimp only); exact ⟨(HVa_5.out.below BC.out HVa_5.out.lt).c0, (HVa_5.out.below BC.out HVa_5.out.lt).c1, (HVb_5.out.below BC.out HVb_5.out.lt).c0, (HVb_5.out.below BC.out HVb_5.out.lt).c1, (HVc_5.out.below BC.out HVc_5.out.lt).c0, (HVc_5.out.below BC.out HVc_5.out.lt).c1, (HVd_5.out.below BC.out HVd_5.out.lt).c0, (HVd_5.out.below BC.out HVd_5.out.lt).c1⟩) (fun hHeld => ?_)
        clear hK K
        (try simp only [Act.put, List.setIfInBounds_toArray, List.set_cons_zero, List.set_cons_succ])
        refine' take_any 30 80 (v := _) ?hig30 ?hdg30 (by kernel_rfl) (by kernel_rfl) (by kernel_rfl) (fun _ _ _ h => h) ?hyg30 hHeld ?hrg30
        case hig30 => (simp only [List.getElem?_toArray, List.getElem?_cons_succ, List.getElem?_cons_zero]; rfl)
        case hdg30 => rfl
        case hyg30 =>
          refine' Or.inl ⟨?hwg30, ?hxg30⟩
          case hwg30 => rfl
          case hxg30 => (intro w hSw; (try dsimp only at hSw); go_simp; (try with_reducible rfl))
        (try simp only [Act.put, List.setIfInBounds_toArray, List.set_cons_zero, List.set_cons_succ])
        refine' take_any 31 81 (v := _) ?hig31 ?hdg31 (by kernel_rfl) (by kernel_rfl) (by kernel_rfl) (fun _ _ _ h => h) ?hyg31 hHeld ?hrg31
        case hig31 => (simp only [List.getElem?_toArray, List.getElem?_cons_succ, List.getElem?_cons_zero]; rfl)
        case hdg31 => rfl
        case hyg31 =>
          refine' Or.inl ⟨?hwg31, ?hxg31⟩
          case hwg31 => rfl
          case hxg31 => (intro w hSw; (try dsimp only at hSw); go_simp; (try with_reducible rfl))
        (try simp only [Act.put, List.setIfInBounds_toArray, List.set_cons_zero, List.set_cons_succ])
        refine' take_any 32 82 (v := _) ?hig32 ?hdg32 (by kernel_rfl) (by kernel_rfl) (by kernel_rfl) (fun _ _ _ h => h) ?hyg32 hHeld ?hrg32
        case hig32 => (simp only [List.getElem?_toArray, List.getElem?_cons_succ, List.getElem?_cons_zero]; rfl)
        case hdg32 => rfl
        case hyg32 =>
          refine' Or.inl ⟨?hwg32, ?hxg32⟩
          case hwg32 => rfl
          case hxg32 => (intro w hSw; (try dsimp only at hSw); go_simp; (try with_reducible rfl))
        (try simp only [Act.put, List.setIfInBounds_toArray, List.set_cons_zero, List.set_cons_succ])
        refine' take_any 33 83 (v := _) ?hig33 ?hdg33 (by kernel_rfl) (by kernel_rfl) (by kernel_rfl) (fun _ _ _ h => h) ?hyg33 hHeld ?hrg33
        case hig33 => (simp only [List.getElem?_toArray, List.getElem?_cons_succ, List.getElem?_cons_zero]; rfl)
        case hdg33 => rfl
        case hyg33 =>
          refine' Or.inl ⟨?hwg33, ?hxg33⟩
          case hwg33 => rfl
          case hxg33 => (intro w hSw; (try dsimp only at hSw); go_simp; (try with_reducible rfl))
        (try simp only [Act.put, List.setIfInBounds_toArray, List.set_cons_zero, List.set_cons_succ])
        refine' take_any 34 84 (v := _) ?hig34 ?hdg34 (by kernel_rfl) (by kernel_rfl) (by kernel_rfl) (fun _ _ _ h => h) ?hyg34 hHeld ?hrg34
        case hig34 => (simp only [List.getElem?_toArray, List.getElem?_cons_succ, List.getElem?_cons_zero]; rfl)
        case hdg34 => rfl
        case hyg34 =>
          refine' Or.inl ⟨?hwg34, ?hxg34⟩
          case hwg34 => rfl
          case hxg34 => (intro w hSw; (try dsimp only at hSw); go_simp; (try with_reducible rfl))
        (try simp only [Act.put, List.setIfInBounds_toArray, List.set_cons_zero, List.set_cons_succ])
        refine' take_any 35 85 (v := _) ?hig35 ?hdg35 (by kernel_rfl) (by kernel_rfl) (by kernel_rfl) (fun _ _ _ h => h) ?hyg35 hHeld ?hrg35
        case hig35 => (simp only [List.getElem?_toArray, List.getElem?_cons_succ, List.getElem?_cons_zero]; rfl)
        case hdg35 => rfl
        case hyg35 =>
          refine' Or.inl ⟨?hwg35, ?hxg35⟩
          case hwg35 => rfl
          case hxg35 => (intro w hSw; (try dsimp only at hSw); go_simp; (try with_reducible rfl))
        (try simp only [Act.put, List.setIfInBounds_toArray, List.set_cons_zero, List.set_cons_succ])
        refine' take_any 37 87 (v := _) ?hig37 ?hdg37 (by kernel_rfl) (by kernel_rfl) (by kernel_rfl) (fun _ _ _ h => h) ?hyg37 hHeld ?hrg37
        case hig37 => (simp only [List.getElem?_toArray, List.getElem?_cons_succ, List.getElem?_cons_zero]; rfl)
        case hdg37 => rfl
        case hyg37 =>
          refine' Or.inl ⟨?hwg37, ?hxg37⟩
          case hwg37 => rfl
          case hxg37 => (intro w hSw; (try dsimp only at hSw); go_simp; (try with_reducible rfl))
        (try simp only [Act.put, List.setIfInBounds_toArray, List.set_cons_zero, List.set_cons_succ])
        refine' take_any 38 88 (v := _) ?hig38 ?hdg38 (by kernel_rfl) (by kernel_rfl) (by kernel_rfl) (fun _ _ _ h => h) ?hyg38 hHeld ?hrg38
        case hig38 => (simp only [List.getElem?_toArray, List.getElem?_cons_succ, List.getElem?_cons_zero]; rfl)
        case hdg38 => rfl
        case hyg38 =>
          refine' Or.inl ⟨?hwg38, ?hxg38⟩
          case hwg38 => rfl
          case hxg38 => (intro w hSw; (try dsimp only at hSw); go_simp; (try with_reducible rfl))
        (try simp only [Act.put, List.setIfInBounds_toArray, List.set_cons_zero, List.set_cons_succ])
        refine' take_call 36 ?hig36 (by kernel_rfl) ?hrg36
        case hig36 => (simp only [List.getElem?_toArray, List.getElem?_cons_succ, List.getElem?_cons_zero]; rfl)
        intro K hK
        go_simp
        have _hb := HB5.out
        clear _hb
        go_at_call 31
        refine (ncmpV (K := 15) (L := 15) (z := 1) (HNa_5.out.below BC.out) (HNb_5.out.below BC.out) (by omega) (by omega) (cmpZ_pos HR.out)).mono ?_
        rintro e w106 ⟨rfl, hb⟩
        have HB6 := Lib.hid hb
        replace BC := Lib.hid (BC.out.trans (hb.mono BC.out.size))
        clear hb
        go_wp2_with fail
        clear hHeld
        refine hK.out _ _ (by (try dsimp only); exact ⟨(HVa_5.out.below BC.out HVa_5.out.lt).c0, (HVa_5.out.below BC.out HVa_5.out.lt).c1, (HVb_5.out.below BC.out HVb_5.out.lt).c0, (HVb_5.out.below BC.out HVb_5.out.lt).c1, (HVc_5.out.below BC.out HVc_5.out.lt).c0, (HVc_5.out.below BC.out HVc_5.out.lt).c1, (HVd_5.out.below BC.out HVd_5.out.lt).c0, (HVd_5.out.below BC.out HVd_5.out.lt).c1⟩) (fun hHeld => ?_)
        clear hK K
        (try simp only [Act.put, List.setIfInBounds_toArray, List.set_cons_zero, List.set_cons_succ])
        refine' take_call 39 ?hig39 (by kernel_rfl) ?hrg39
        case hig39 => (simp only [List.getElem?_toArray, List.getElem?_cons_succ, List.getElem?_cons_zero]; rfl)
        intro K hK
        go_simp
        have _hb := HB6.out
        clear _hb
        go_at_call 31
        refine (ncmpV (K := 15) (L := 15) (z := (-1)) (HNb_5.out.below BC.out) (HNa_5.out.below BC.out) (by omega) (by omega) (cmpZ_neg HR.out)).mono ?_
        rintro e w107 ⟨rfl, hb⟩
        have HB7 := Lib.hid hb
        replace BC := Lib.hid (BC.out.trans (hb.mono BC.out.size))
        clear hb
        go_wp2_with fail
        clear hHeld
        refine hK.out _ _ (by (try dsimp only); exact ⟨(HVa_5.out.below BC.out HVa_5.out.lt).c0, (HVa_5.out.below BC.out HVa_5.out.lt).c1, (HVb_5.out.below BC.out HVb_5.out.lt).c0, (HVb_5.out.below BC.out HVb_5.out.lt).c1, (HVc_5.out.below BC.out HVc_5.out.lt).c0, (HVc_5.out.below BC.out HVc_5.out.lt).c1, (HVd_5.out.below BC.out HVd_5.out.lt).c0, (HVd_5.out.below BC.out HVd_5.out.lt).c1⟩) (fun hHeld => ?_)
        clear hK K
        (try simp only [Act.put, List.setIfInBounds_toArray, List.set_cons_zero, List.set_cons_succ])
        refine' take_any 40 90 (v := _) ?hig40 ?hdg40 (by kernel_rfl) (by kernel_rfl) (by kernel_rfl) (fun _ _ _ h => h) ?hyg40 hHeld ?hrg40
        case hig40 => (simp only [List.getElem?_toArray, List.getElem?_cons_succ, List.getElem?_cons_zero]; rfl)
        case hdg40 => rfl
        case hyg40 =>
          refine' Or.inl ⟨?hwg40, ?hxg40⟩
          case hwg40 => rfl
          case hxg40 => (intro w hSw; (try dsimp only at hSw); go_simp; (try with_reducible rfl))
        (try simp only [Act.put, List.setIfInBounds_toArray, List.set_cons_zero, List.set_cons_succ])
        refine' take_any 41 91 (v := _) ?hig41 ?hdg41 (by kernel_rfl) (by kernel_rfl) (by kernel_rfl) (fun _ _ _ h => h) ?hyg41 hHeld ?hrg41
        case hig41 => (simp only [List.getElem?_toArray, List.getElem?_cons_succ, List.getElem?_cons_zero]; rfl)
        case hdg41 => rfl
        case hyg41 =>
          refine' Or.inl ⟨?hwg41, ?hxg41⟩
          case hwg41 => rfl
          case hxg41 => (intro w hSw; (try dsimp only at hSw); go_simp; (try with_reducible rfl))
        (try simp only [Act.put, List.setIfInBounds_toArray, List.set_cons_zero, List.set_cons_succ])
        refine' take_any 42 92 (v := _) ?hig42 ?hdg42 (by kernel_rfl) (by kernel_rfl) (by kernel_rfl) (fun _ _ _ h => h) ?hyg42 hHeld ?hrg42
        case hig42 => (simp only [List.getElem?_toArray, List.getElem?_cons_succ, List.getElem?_cons_zero]; rfl)
        case hdg42 => rfl
        case hyg42 =>
          refine' Or.inl ⟨?hwg42, ?hxg42⟩
          case hwg42 => rfl
          case hxg42 => (intro w hSw; (try dsimp only at hSw); go_simp; (try with_reducible rfl))
        (try simp only [Act.put, List.setIfInBounds_toArray, List.set_cons_zero, List.set_cons_succ])
        refine' take_any 43 93 (v := _) ?hig43 ?hdg43 (by kernel_rfl) (by kernel_rfl) (by kernel_rfl) (fun _ _ _ h => h) ?hyg43 hHeld ?hrg43
        case hig43 => (simp only [List.getElem?_toArray, List.getElem?_cons_succ, List.getElem?_cons_zero]; rfl)
        case hdg43 => rfl
        case hyg43 =>
          refine' Or.inl ⟨?hwg43, ?hxg43⟩
          case hwg43 => rfl
          case hxg43 => (intro w hSw; (try dsimp only at hSw); go_simp; (try with_reducible rfl))
        (try simp only [Act.put, List.setIfInBounds_toArray, List.set_cons_zero, List.set_cons_succ])
        refine' take_any 44 94 (v := _) ?hig44 ?hdg44 (by kernel_rfl) (by kernel_rfl) (by kernel_rfl) (fun _ _ _ h => h) ?hyg44 hHeld ?hrg44
        case hig44 => (simp only [List.getElem?_toArray, List.getElem?_cons_succ, List.getElem?_cons_zero]; rfl)
        case hdg44 => rfl
        case hyg44 =>
          refine' Or.inl ⟨?hwg44, ?hxg44⟩
          case hwg44 => rfl
          case hxg44 => (intro w hSw; (try dsimp only at hSw); go_simp; (try with_reducible rfl))
        (try simp only [Act.put, List.setIfInBounds_toArray, List.set_cons_zero, List.set_cons_succ])
        refine' take_any 45 95 (v := _) ?hig45 ?hdg45 (by kernel_rfl) (by kernel_rfl) (by kernel_rfl) (fun _ _ _ h => h) ?hyg45 hHeld ?hrg45
        case hig45 => (simp only [List.getElem?_toArray, List.getElem?_cons_succ, List.getElem?_cons_zero]; rfl)
        case hdg45 => rfl
        case hyg45 =>
          refine' Or.inl ⟨?hwg45, ?hxg45⟩
          case hwg45 => rfl
          case hxg45 => (intro w hSw; (try dsimp only at hSw); go_simp; (try with_reducible rfl))
        (try simp only [Act.put, List.setIfInBounds_toArray, List.set_cons_zero, List.set_cons_succ])
        refine' take_any 46 96 (v := _) ?hig46 ?hdg46 (by kernel_rfl) (by kernel_rfl) (by kernel_rfl) (fun _ _ _ h => h) ?hyg46 hHeld ?hrg46
        case hig46 => (simp only [List.getElem?_toArray, List.getElem?_cons_succ, List.getElem?_cons_zero]; rfl)
        case hdg46 => rfl
        case hyg46 =>
          refine' Or.inl ⟨?hwg46, ?hxg46⟩
          case hwg46 => rfl
          case hxg46 => (intro w hSw; (try dsimp only at hSw); go_simp; (try with_reducible rfl))
        (try simp only [Act.put, List.setIfInBounds_toArray, List.set_cons_zero, List.set_cons_succ])
        refine' take_any 47 97 (v := undef) ?hig47 ?hdg47 (by kernel_rfl) (by kernel_rfl) (by kernel_rfl) (fun _ _ _ h => h) ?hyg47 hHeld ?hrg47
        case hig47 => (simp only [List.getElem?_toArray, List.getElem?_cons_succ, List.getElem?_cons_zero]; rfl)
        case hdg47 => rfl
        case hyg47 => exact Or.inr ⟨by rfl, rfl⟩
        (try simp only [Act.put, List.setIfInBounds_toArray, List.set_cons_zero, List.set_cons_succ])
        refine' take_any 49 99 (v := undef) ?hig49 ?hdg49 (by kernel_rfl) (by kernel_rfl) (by kernel_rfl) (fun _ _ _ h => h) ?hyg49 hHeld ?hrg49
        case hig49 => (simp only [List.getElem?_toArray, List.getElem?_cons_succ, List.getElem?_cons_zero]; rfl)
        case hdg49 => rfl
        case hyg49 => exact Or.inr ⟨by rfl, rfl⟩
        (try simp only [Act.put, List.setIfInBounds_toArray, List.set_cons_zero, List.set_cons_succ])
        refine' take_any 48 98 (v := undef) ?hig48 ?hdg48 (by kernel_rfl) (by kernel_rfl) (by kernel_rfl) (fun _ _ _ h => h) ?hyg48 hHeld ?hrg48
        case hig48 => (simp only [List.getElem?_toArray, List.getElem?_cons_succ, List.getElem?_cons_zero]; rfl)
        case hdg48 => rfl
        case hyg48 => exact Or.inr ⟨by rfl, rfl⟩
        (try simp only [Act.put, List.setIfInBounds_toArray, List.set_cons_zero, List.set_cons_succ])
        refine' take_any 50 100 (v := undef) ?hig50 ?hdg50 (by kernel_rfl) (by kernel_rfl) (by kernel_rfl) (fun _ _ _ h => h) ?hyg50 hHeld ?hrg50
        case hig50 => (simp only [List.getElem?_toArray, List.getElem?_cons_succ, List.getElem?_cons_zero]; rfl)
        case hdg50 => rfl
        case hyg50 => exact Or.inr ⟨by rfl, rfl⟩
        (try simp only [Act.put, List.setIfInBounds_toArray, List.set_cons_zero, List.set_cons_succ])
        refine' take_any 51 101 (v := undef) ?hig51 ?hdg51 (by kernel_rfl) (by kernel_rfl) (by kernel_rfl) (fun _ _ _ h => h) ?hyg51 hHeld ?hrg51
        case hig51 => (simp only [List.getElem?_toArray, List.getElem?_cons_succ, List.getElem?_cons_zero]; rfl)
        case hdg51 => rfl
        case hyg51 => exact Or.inr ⟨by rfl, rfl⟩
        (try simp only [Act.put, List.setIfInBounds_toArray, List.set_cons_zero, List.set_cons_succ])
        refine' take_any 52 102 (v := _) ?hig52 ?hdg52 (by kernel_rfl) (by kernel_rfl) (by kernel_rfl) (fun _ _ _ h => h) ?hyg52 hHeld ?hrg52
        case hig52 => (simp only [List.getElem?_toArray, List.getElem?_cons_succ, List.getElem?_cons_zero]; rfl)
        case hdg52 => rfl
        case hyg52 =>
          refine' Or.inl ⟨?hwg52, ?hxg52⟩
          case hwg52 => rfl
          case hxg52 => (intro w hSw; (try dsimp only at hSw); go_simp; (try with_reducible rfl))
        (try simp only [Act.put, List.setIfInBounds_toArray, List.set_cons_zero, List.set_cons_succ])
        refine' take_any 53 103 (v := _) ?hig53 ?hdg53 (by kernel_rfl) (by kernel_rfl) (by kernel_rfl) (fun _ _ _ h => h) ?hyg53 hHeld ?hrg53
        case hig53 => (simp only [List.getElem?_toArray, List.getElem?_cons_succ, List.getElem?_cons_zero]; rfl)
        case hdg53 => rfl
        case hyg53 =>
          refine' Or.inl ⟨?hwg53, ?hxg53⟩
          case hwg53 => rfl
          case hxg53 => (intro w hSw; (try dsimp only at hSw); go_simp; (try with_reducible rfl))
        (try simp only [Act.put, List.setIfInBounds_toArray, List.set_cons_zero, List.set_cons_succ])
        refine' take_any 54 4 (v := _) ?hig54 ?hdg54 (by kernel_rfl) (by kernel_rfl) (by kernel_rfl) (fun _ _ _ h => h) ?hyg54 hHeld ?hrg54
        case hig54 => (simp only [List.getElem?_toArray, List.getElem?_cons_succ, List.getElem?_cons_zero]; rfl)
        case hdg54 => rfl
        case hyg54 =>
          refine' Or.inl ⟨?hwg54, ?hxg54⟩
          case hwg54 => rfl
          case hxg54 => (intro w hSw; (try dsimp only at hSw); go_simp; (try with_reducible rfl))
        (try simp only [Act.put, List.setIfInBounds_toArray, List.set_cons_zero, List.set_cons_succ])
        refine wpAnyH_done (by kernel_rfl) ?_ _
        refine NoPanic.normal ?_
        go_wp2
        go_ret
        exact ⟨rfl, HBW_5.out.trans (BC.out.mono HBW_5.out.size)⟩
end Go.Proofs.YtibhfcnjmilepaaDoor
