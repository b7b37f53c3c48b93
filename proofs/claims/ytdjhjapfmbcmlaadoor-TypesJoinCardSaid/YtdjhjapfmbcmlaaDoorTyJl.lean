import Derived.Test.YtdjhjapfmbcmlaaDoorTyLw
import Derived.Test.YtdjhjapfmbcmlaaDoorTyJd
import Derived.Deep.RegionHeld3
namespace Go.Proofs.YtdjhjapfmbcmlaaDoor
open Go.RowKit

set_option maxRecDepth 100000 in
set_option maxHeartbeats 32000000 in
/-- what is above both -/
theorem join_law (xy yy : Ty) (vx vy : Value) (w : World) (hFN : FN w) (rx : RngT xy) (hx : TyVN N0 w vx xy) (ry : RngT yy) (hy : TyVN N0 w vy yy) :
    Calls Tryd.prog 6 #[vx, vy] w fun e w' => e = .returned (.bool true) ∧ Below w.heap.size w w' := by
  obtain ⟨xa, xf, xp, xpa, xnp, xpc, xk, xfa, xnf, xfc, rfl⟩ := (hx : TyVN N0 w vx xy).shape
  have HXx := Lib.hid hx
  obtain ⟨ya, yf, yp, ypa, ynp, ypc, yk, yfa, ynf, yfc, rfl⟩ := (hy : TyVN N0 w vy yy).shape
  have HXy := Lib.hid hy
  have HFN := Lib.hid hFN
  have HB := Lib.hid (Below.refl w.heap.size w)
  clear hFN hx hy
  have HLx := Lib.hid (light_sz (t := xy))
  have HRx := Lib.hid rx
  have HLy := Lib.hid (light_sz (t := yy))
  have HRy := Lib.hid ry
  clear rx ry
  obtain ⟨W1, hW1⟩ : ∃ W, W = w.alloc (.cells #[.bool xa, .int .i64 xf, .int .i64 xp, (.slice xpa xnp xpc), .int .i64 xk, (.slice xfa xnf xfc)] 24) := ⟨_, rfl⟩
  have hb : Below w.heap.size w W1 := by rw [hW1]; exact (Below.refl _ _).alloc (Nat.le_refl _) _
  have HHW1 := Lib.hid hW1
  clear hW1
  have HBx := Lib.hid (show BoxAt W1 w.heap.size xa xf xp (.slice xpa xnp xpc) xk (.slice xfa xnf xfc) by rw [HHW1.out]; exact BoxAt.made _ _ _ _ _ _ _)
  have HSW1 := Lib.hid (show W1.heap.size = w.heap.size + 1 by rw [HHW1.out, alloc_hs])
  have HVx := Lib.hid (HXx.out.below hb)
  clear HXx
  replace HFN := Lib.hid (HFN.out.below hb)
  replace HB := Lib.hid (HB.out.trans (hb.mono HB.out.size))
  clear hb
  replace HXy := Lib.hid (HXy.out.below (show Below w.heap.size w W1 by rw [HHW1.out]; exact (Below.refl _ _).alloc (Nat.le_refl _) _))
  obtain ⟨W2, hW2⟩ : ∃ W, W = W1.alloc (.cells #[.bool ya, .int .i64 yf, .int .i64 yp, (.slice ypa ynp ypc), .int .i64 yk, (.slice yfa ynf yfc)] 24) := ⟨_, rfl⟩
  have hb : Below W1.heap.size W1 W2 := by rw [hW2]; exact (Below.refl _ _).alloc (Nat.le_refl _) _
  have HHW2 := Lib.hid hW2
  clear hW2
  replace HBx := Lib.hid (HBx.out.keep hb)
  replace HVx := Lib.hid (HVx.out.below hb)
  have HBy := Lib.hid (show BoxAt W2 W1.heap.size ya yf yp (.slice ypa ynp ypc) yk (.slice yfa ynf yfc) by rw [HHW2.out]; exact BoxAt.made _ _ _ _ _ _ _)
  replace HBy := Lib.hid (by have h := HBy.out; rw [HSW1.out] at h; exact h)
  have HSW2 := Lib.hid (show W2.heap.size = w.heap.size + 1 + 1 by rw [HHW2.out, alloc_hs, HSW1.out])
  have HVy := Lib.hid (HXy.out.below hb)
  clear HXy
  replace HFN := Lib.hid (HFN.out.below hb)
  replace HB := Lib.hid (HB.out.trans (hb.mono HB.out.size))
  clear hb
  have HTW2 := HHW2.out
  rw [HHW1.out] at HTW2
  have HUW2 := Lib.hid HTW2
  clear HTW2
  go_enter Tryd.func6, Tryd.ntmps6
  go_wp2_with fail
  rw [← HUW2.out]
  refine (awake_p W2 HFN.out).mono ?_
  rintro e w3 ⟨rfl, hb⟩
  replace HBx := Lib.hid (HBx.out.keep hb)
  replace HVx := Lib.hid (HVx.out.below hb)
  replace HBy := Lib.hid (HBy.out.keep hb)
  replace HVy := Lib.hid (HVy.out.below hb)
  replace HFN := Lib.hid (HFN.out.below hb)
  replace HB := Lib.hid (HB.out.trans (hb.mono HB.out.size))
  clear hb
  have x0 := HBx.out.c0
  have x1 := HBx.out.c1
  have x2 := HBx.out.c2
  have x3 := HBx.out.c3
  have x4 := HBx.out.c4
  have x5 := HBx.out.c5
  go_wp2_with fail
  refine (light_any xy _ w3 HVx.out.v).mono ?_
  rintro e w4 ⟨rfl, hb⟩
  replace HBx := Lib.hid (HBx.out.keep hb)
  replace HVx := Lib.hid (HVx.out.below hb)
  replace HBy := Lib.hid (HBy.out.keep hb)
  replace HVy := Lib.hid (HVy.out.below hb)
  replace HFN := Lib.hid (HFN.out.below hb)
  replace HB := Lib.hid (HB.out.trans (hb.mono HB.out.size))
  clear hb
  clear x0 x1 x2 x3 x4 x5
  have y0 := HBy.out.c0
  have y1 := HBy.out.c1
  have y2 := HBy.out.c2
  have y3 := HBy.out.c3
  have y4 := HBy.out.c4
  have y5 := HBy.out.c5
  go_wp2_with fail
  refine (light_any yy _ w4 HVy.out.v).mono ?_
  rintro e w5 ⟨rfl, hb⟩
  replace HBx := Lib.hid (HBx.out.keep hb)
  replace HVx := Lib.hid (HVx.out.below hb)
  replace HBy := Lib.hid (HBy.out.keep hb)
  replace HVy := Lib.hid (HVy.out.below hb)
  replace HFN := Lib.hid (HFN.out.below hb)
  replace HB := Lib.hid (HB.out.trans (hb.mono HB.out.size))
  clear hb
  clear y0 y1 y2 y3 y4 y5
  obtain ⟨lx, hlx⟩ : ∃ b, b = lightT xy := ⟨_, rfl⟩
  rw [← hlx]
  replace HLx := Lib.hid (show lx = true → szT xy < 120 by rw [hlx]; exact HLx.out)
  clear hlx
  obtain ⟨ly, hly⟩ : ∃ b, b = lightT yy := ⟨_, rfl⟩
  rw [← hly]
  replace HLy := Lib.hid (show ly = true → szT yy < 120 by rw [hly]; exact HLy.out)
  clear hly
  cases lx with
  | false =>
    go_wp2
    go_ret
    exact ⟨rfl, HB.out⟩
  | true =>
    cases ly with
    | false =>
      go_wp2
      go_ret
      exact ⟨rfl, HB.out⟩
    | true =>
      replace HLx := Lib.hid (Nat.le_trans (Nat.le_of_lt (HLx.out rfl)) (show 120 ≤ 300 by decide))
      replace HLy := Lib.hid (Nat.le_trans (Nat.le_of_lt (HLy.out rfl)) (show 120 ≤ 300 by decide))
      have x0 := HBx.out.c0
      have x1 := HBx.out.c1
      have x2 := HBx.out.c2
      have x3 := HBx.out.c3
      have x4 := HBx.out.c4
      have x5 := HBx.out.c5
      go_wp2_with fail
      refine (right_l xy _ w5 HLx.out HRx.out HVx.out).mono ?_
      rintro e w6 ⟨rfl, hb⟩
      replace HBx := Lib.hid (HBx.out.keep hb)
      replace HVx := Lib.hid (HVx.out.below hb)
      replace HBy := Lib.hid (HBy.out.keep hb)
      replace HVy := Lib.hid (HVy.out.below hb)
      replace HFN := Lib.hid (HFN.out.below hb)
      replace HB := Lib.hid (HB.out.trans (hb.mono HB.out.size))
      clear hb
      clear x0 x1 x2 x3 x4 x5
      obtain ⟨zx, hzx⟩ : ∃ b, b = deepF 20 xy := ⟨_, rfl⟩
      rw [← hzx]
      have HZx := Lib.hid hzx
      clear hzx
      cases zx with
      | false =>
        go_wp2
        go_ret
        exact ⟨rfl, HB.out⟩
      | true =>
        have HOKx := Lib.hid (deep_ok HZx.out.symm)
        have y0 := HBy.out.c0
        have y1 := HBy.out.c1
        have y2 := HBy.out.c2
        have y3 := HBy.out.c3
        have y4 := HBy.out.c4
        have y5 := HBy.out.c5
        go_wp2_with fail
        refine (right_l yy _ w6 HLy.out HRy.out HVy.out).mono ?_
        rintro e w7 ⟨rfl, hb⟩
        replace HBx := Lib.hid (HBx.out.keep hb)
        replace HVx := Lib.hid (HVx.out.below hb)
        replace HBy := Lib.hid (HBy.out.keep hb)
        replace HVy := Lib.hid (HVy.out.below hb)
        replace HFN := Lib.hid (HFN.out.below hb)
        replace HB := Lib.hid (HB.out.trans (hb.mono HB.out.size))
        clear hb
        clear y0 y1 y2 y3 y4 y5
        obtain ⟨zy, hzy⟩ : ∃ b, b = deepF 20 yy := ⟨_, rfl⟩
        rw [← hzy]
        have HZy := Lib.hid hzy
        clear hzy
        cases zy with
        | false =>
          go_wp2
          go_ret
          exact ⟨rfl, HB.out⟩
        | true =>
          have HOKy := Lib.hid (deep_ok HZy.out.symm)
          obtain ⟨jy, hj⟩ : ∃ j, j = joinT xy yy := ⟨_, rfl⟩
          obtain ⟨ky, hk⟩ : ∃ j, j = joinT yy xy := ⟨_, rfl⟩
          have HJ := Lib.hid hj
          have HK := Lib.hid hk
          clear hj hk
          have x0 := HBx.out.c0
          have x1 := HBx.out.c1
          have x2 := HBx.out.c2
          have x3 := HBx.out.c3
          have x4 := HBx.out.c4
          have x5 := HBx.out.c5
          have y0 := HBy.out.c0
          have y1 := HBy.out.c1
          have y2 := HBy.out.c2
          have y3 := HBy.out.c3
          have y4 := HBy.out.c4
          have y5 := HBy.out.c5
          go_wp2_with fail
          refine (join_e xy yy jy HJ.out.symm _ _ w7 HOKx.out HOKy.out HLx.out HLy.out HVx.out HVy.out).mono ?_
          rintro e w8 ⟨⟨v, rfl, hv⟩, hb⟩
          obtain ⟨ja, jf, jp, jpa, jnp, jpc, jk, jfa, jnf, jfc, rfl⟩ := hv.shape
          have HVV := Lib.hid hv
          clear hv
          replace HBx := Lib.hid (HBx.out.keep hb)
          replace HVx := Lib.hid (HVx.out.below hb)
          replace HBy := Lib.hid (HBy.out.keep hb)
          replace HVy := Lib.hid (HVy.out.below hb)
          replace HFN := Lib.hid (HFN.out.below hb)
          replace HB := Lib.hid (HB.out.trans (hb.mono HB.out.size))
          clear hb
          obtain ⟨W9, hW9⟩ : ∃ W, W = w8.alloc (.cells #[.bool ja, .int .i64 jf, .int .i64 jp, (.slice jpa jnp jpc), .int .i64 jk, (.slice jfa jnf jfc)] 24) := ⟨_, rfl⟩
          have hb : Below w8.heap.size w8 W9 := by rw [hW9]; exact (Below.refl _ _).alloc (Nat.le_refl _) _
          have HHW9 := Lib.hid hW9
          clear hW9
          replace HBx := Lib.hid (HBx.out.keep hb)
          replace HVx := Lib.hid (HVx.out.below hb)
          replace HBy := Lib.hid (HBy.out.keep hb)
          replace HVy := Lib.hid (HVy.out.below hb)
          have HBj := Lib.hid (show BoxAt W9 w8.heap.size ja jf jp (.slice jpa jnp jpc) jk (.slice jfa jnf jfc) by rw [HHW9.out]; exact BoxAt.made _ _ _ _ _ _ _)
          have HSW9 := Lib.hid (show W9.heap.size = w8.heap.size + 1 by rw [HHW9.out, alloc_hs])
          have HVj := Lib.hid (HVV.out.below hb)
          clear HVV
          replace HFN := Lib.hid (HFN.out.below hb)
          replace HB := Lib.hid (HB.out.trans (hb.mono HB.out.size))
          clear hb
          clear x0 x1 x2 x3 x4 x5 y0 y1 y2 y3 y4 y5
          have x0 := HBx.out.c0
          have x1 := HBx.out.c1
          have x2 := HBx.out.c2
          have x3 := HBx.out.c3
          have x4 := HBx.out.c4
          have x5 := HBx.out.c5
          have y0 := HBy.out.c0
          have y1 := HBy.out.c1
          have y2 := HBy.out.c2
          have y3 := HBy.out.c3
          have y4 := HBy.out.c4
          have y5 := HBy.out.c5
          rw [HHW9.out] at x0 x1 x2 x3 x4 x5 y0 y1 y2 y3 y4 y5
          go_wp2_with fail
          rw [← HHW9.out]
          refine (join_e yy xy ky HK.out.symm _ _ W9 HOKy.out HOKx.out HLy.out HLx.out HVy.out HVx.out).mono ?_
          rintro e w10 ⟨⟨v, rfl, hv⟩, hb⟩
          obtain ⟨ka, kf, kp, kpa, knp, kpc, kk, kfa, knf, kfc, rfl⟩ := hv.shape
          have HVV := Lib.hid hv
          clear hv
          replace HBx := Lib.hid (HBx.out.keep hb)
          replace HVx := Lib.hid (HVx.out.below hb)
          replace HBy := Lib.hid (HBy.out.keep hb)
          replace HVy := Lib.hid (HVy.out.below hb)
          replace HBj := Lib.hid (HBj.out.keep hb)
          replace HVj := Lib.hid (HVj.out.below hb)
          replace HFN := Lib.hid (HFN.out.below hb)
          replace HB := Lib.hid (HB.out.trans (hb.mono HB.out.size))
          clear hb
          obtain ⟨W11, hW11⟩ : ∃ W, W = w10.alloc (.cells #[.bool ka, .int .i64 kf, .int .i64 kp, (.slice kpa knp kpc), .int .i64 kk, (.slice kfa knf kfc)] 24) := ⟨_, rfl⟩
          have hb : Below w10.heap.size w10 W11 := by rw [hW11]; exact (Below.refl _ _).alloc (Nat.le_refl _) _
          have HHW11 := Lib.hid hW11
          clear hW11
          replace HBx := Lib.hid (HBx.out.keep hb)
          replace HVx := Lib.hid (HVx.out.below hb)
          replace HBy := Lib.hid (HBy.out.keep hb)
          replace HVy := Lib.hid (HVy.out.below hb)
          replace HBj := Lib.hid (HBj.out.keep hb)
          replace HVj := Lib.hid (HVj.out.below hb)
          have HBk := Lib.hid (show BoxAt W11 w10.heap.size ka kf kp (.slice kpa knp kpc) kk (.slice kfa knf kfc) by rw [HHW11.out]; exact BoxAt.made _ _ _ _ _ _ _)
          have HSW11 := Lib.hid (show W11.heap.size = w10.heap.size + 1 by rw [HHW11.out, alloc_hs])
          have HVk := Lib.hid (HVV.out.below hb)
          clear HVV
          replace HFN := Lib.hid (HFN.out.below hb)
          replace HB := Lib.hid (HB.out.trans (hb.mono HB.out.size))
          clear hb
          clear x0 x1 x2 x3 x4 x5 y0 y1 y2 y3 y4 y5
          have j0 := HBj.out.c0
          have j1 := HBj.out.c1
          have j2 := HBj.out.c2
          have j3 := HBj.out.c3
          have j4 := HBj.out.c4
          have j5 := HBj.out.c5
          rw [HHW11.out] at j0 j1 j2 j3 j4 j5
          go_wp2_with fail
          rw [← HHW11.out]
          refine (right_any jy _ W11 HVj.out.v).mono ?_
          rintro e w12 ⟨rfl, hb⟩
          replace HBx := Lib.hid (HBx.out.keep hb)
          replace HVx := Lib.hid (HVx.out.below hb)
          replace HBy := Lib.hid (HBy.out.keep hb)
          replace HVy := Lib.hid (HVy.out.below hb)
          replace HBj := Lib.hid (HBj.out.keep hb)
          replace HVj := Lib.hid (HVj.out.below hb)
          replace HBk := Lib.hid (HBk.out.keep hb)
          replace HVk := Lib.hid (HVk.out.below hb)
          replace HFN := Lib.hid (HFN.out.below hb)
          replace HB := Lib.hid (HB.out.trans (hb.mono HB.out.size))
          clear hb
          clear j0 j1 j2 j3 j4 j5
          obtain ⟨tj, htj⟩ : ∃ b, b = rightT jy := ⟨_, rfl⟩
          rw [← htj]
          have HTJ := Lib.hid htj
          clear htj
          cases tj with
          | false =>
            go_wp2
            go_ret
            exact ⟨rfl, HB.out⟩
          | true =>
            have k0 := HBk.out.c0
            have k1 := HBk.out.c1
            have k2 := HBk.out.c2
            have k3 := HBk.out.c3
            have k4 := HBk.out.c4
            have k5 := HBk.out.c5
            go_wp2_with fail
            refine (right_any ky _ w12 HVk.out.v).mono ?_
            rintro e w13 ⟨rfl, hb⟩
            replace HBx := Lib.hid (HBx.out.keep hb)
            replace HVx := Lib.hid (HVx.out.below hb)
            replace HBy := Lib.hid (HBy.out.keep hb)
            replace HVy := Lib.hid (HVy.out.below hb)
            replace HBj := Lib.hid (HBj.out.keep hb)
            replace HVj := Lib.hid (HVj.out.below hb)
            replace HBk := Lib.hid (HBk.out.keep hb)
            replace HVk := Lib.hid (HVk.out.below hb)
            replace HFN := Lib.hid (HFN.out.below hb)
            replace HB := Lib.hid (HB.out.trans (hb.mono HB.out.size))
            clear hb
            clear k0 k1 k2 k3 k4 k5
            obtain ⟨tk, htk⟩ : ∃ b, b = rightT ky := ⟨_, rfl⟩
            rw [← htk]
            have HTK := Lib.hid htk
            clear htk
            cases tk with
            | false =>
              go_wp2
              go_ret
              exact ⟨rfl, HB.out⟩
            | true =>
              have HOKj := Lib.hid (right_ok HTJ.out.symm)
              have HOKk := Lib.hid (right_ok HTK.out.symm)
              have HLj := Lib.hid (right_sz HTJ.out.symm)
              have HLk := Lib.hid (right_sz HTK.out.symm)
              have HS1 := Lib.hid (show subT xy jy = true by rw [HJ.out]; exact (sub_join xy yy HOKx.out HOKy.out).1)
              have HS2 := Lib.hid (show subT yy jy = true by rw [HJ.out]; exact (sub_join xy yy HOKx.out HOKy.out).2)
              have HS3 := Lib.hid (show subT jy ky = true by rw [HJ.out, HK.out]; exact join_swap xy yy HOKx.out HOKy.out)
              have HS4 := Lib.hid (show subT ky jy = true by rw [HJ.out, HK.out]; exact join_swap yy xy HOKy.out HOKx.out)
              go_upto_region 10 with fail
              have BC := Lib.hid (show Below w13.heap.size w13 w13.drew from (Below.refl _ _).drew)
              (try dsimp only [List.append])
              refine wp_region_noPanic ?_
              refine wp_region_held_drew (S := (fun w' => w'.cell? ⟨w.heap.size, 0, none⟩ = some (.bool xa) ∧ w'.cell? ⟨w.heap.size, 1, none⟩ = some (.int .i64 xf) ∧ w'.cell? ⟨w.heap.size, 2, none⟩ = some (.int .i64 xp) ∧ w'.cell? ⟨w.heap.size, 3, none⟩ = some ((.slice xpa xnp xpc)) ∧ w'.cell? ⟨w.heap.size, 4, none⟩ = some (.int .i64 xk) ∧ w'.cell? ⟨w.heap.size, 5, none⟩ = some ((.slice xfa xnf xfc)))) (by kernel_rfl) (by (try dsimp only); exact ⟨(HBx.out.keep BC.out).c0, (HBx.out.keep BC.out).c1, (HBx.out.keep BC.out).c2, (HBx.out.keep BC.out).c3, (HBx.out.keep BC.out).c4, (HBx.out.keep BC.out).c5⟩) (fun hHeld => ?_)
              refine' take_any 0 48 (v := _) ?hi74 ?hd74 (by kernel_rfl) (by kernel_rfl) (by kernel_rfl) (fun _ _ _ h => h) ?hy74 hHeld ?hr74
              case hi74 => (simp only [List.getElem?_toArray, List.getElem?_cons_zero]; rfl)
              case hd74 => rfl
              case hy74 =>
                refine' Or.inl ⟨?hw74, ?hx74⟩
                case hw74 => rfl
                case hx74 => (intro w hSw; (try dsimp only at hSw); go_simp; (try with_reducible rfl))
              (try simp only [Act.put, List.setIfInBounds_toArray, List.set_cons_zero, List.set_cons_succ])
              refine' take_any 1 49 (v := _) ?hi75 ?hd75 (by kernel_rfl) (by kernel_rfl) (by kernel_rfl) (fun _ _ _ h => h) ?hy75 hHeld ?hr75
              case hi75 => (simp only [List.getElem?_toArray, List.getElem?_cons_succ, List.getElem?_cons_zero]; rfl)
              case hd75 => rfl
              case hy75 =>
                refine' Or.inl ⟨?hw75, ?hx75⟩
                case hw75 => rfl
                case hx75 => (intro w hSw; (try dsimp only at hSw); go_simp; (try with_reducible rfl))
              (try simp only [Act.put, List.setIfInBounds_toArray, List.set_cons_zero, List.set_cons_succ])
              refine' take_any 3 51 (v := _) ?hi76 ?hd76 (by kernel_rfl) (by kernel_rfl) (by kernel_rfl) (fun _ _ _ h => h) ?hy76 hHeld ?hr76
              case hi76 => (simp only [List.getElem?_toArray, List.getElem?_cons_succ, List.getElem?_cons_zero]; rfl)
              case hd76 => rfl
              case hy76 =>
                refine' Or.inl ⟨?hw76, ?hx76⟩
                case hw76 => rfl
                case hx76 => (intro w hSw; (try dsimp only at hSw); go_simp; (try with_reducible rfl))
              (try simp only [Act.put, List.setIfInBounds_toArray, List.set_cons_zero, List.set_cons_succ])
              refine' take_call 2 ?hi78 (by kernel_rfl) ?hr78
              case hi78 => (simp only [List.getElem?_toArray, List.getElem?_cons_succ, List.getElem?_cons_zero]; rfl)
              intro K hK
              go_simp
              go_at_call 18
              refine (join_e xy xy xy (join_self xy HOKx.out) _ _ _ HOKx.out HOKx.out HLx.out HLx.out (HVx.out.below BC.out) (HVx.out.below BC.out)).mono ?_
              rintro e z77 ⟨⟨v, rfl, hv⟩, hb⟩
              have H1 := Lib.hid hv
              clear hv
              obtain ⟨qa, qf, qp, qpa, qnp, qpc, qk, qfa, qnf, qfc, rfl⟩ := H1.out.shape
              replace BC := Lib.hid (BC.out.trans (hb.mono BC.out.size))
              clear hb
              go_wp2_with fail
              clear hHeld
              refine hK.out _ _ (by (try dsimp only); exact ⟨(HBx.out.keep BC.out).c0, (HBx.out.keep BC.out).c1, (HBx.out.keep BC.out).c2, (HBx.out.keep BC.out).c3, (HBx.out.keep BC.out).c4, (HBx.out.keep BC.out).c5⟩) (fun hHeld => ?_)
              clear hK K
              (try simp only [Act.put, List.setIfInBounds_toArray, List.set_cons_zero, List.set_cons_succ])
              refine' take_call 4 ?hi80 (by kernel_rfl) ?hr80
              case hi80 => (simp only [List.getElem?_toArray, List.getElem?_cons_succ, List.getElem?_cons_zero]; rfl)
              intro K hK
              go_simp
              go_at_call 13
              refine (same_y xy _ _ _ H1.out (HVx.out.below BC.out)).mono ?_
              rintro e z79 ⟨rfl, hb⟩
              clear H1
              replace BC := Lib.hid (BC.out.trans (hb.mono BC.out.size))
              clear hb
              go_wp2_with fail
              clear hHeld
              refine hK.out _ _ (by (try dsimp only); exact ⟨(HBx.out.keep BC.out).c0, (HBx.out.keep BC.out).c1, (HBx.out.keep BC.out).c2, (HBx.out.keep BC.out).c3, (HBx.out.keep BC.out).c4, (HBx.out.keep BC.out).c5⟩) (fun hHeld => ?_)
              clear hK K
              (try simp only [Act.put, List.setIfInBounds_toArray, List.set_cons_zero, List.set_cons_succ])
              refine' take_any 5 10 (v := _) ?hi81 ?hd81 (by kernel_rfl) (by kernel_rfl) (by kernel_rfl) (fun _ _ _ h => h) ?hy81 hHeld ?hr81
              case hi81 => (simp only [List.getElem?_toArray, List.getElem?_cons_succ, List.getElem?_cons_zero]; rfl)
              case hd81 => rfl
              case hy81 =>
                refine' Or.inl ⟨?hw81, ?hx81⟩
                case hw81 => rfl
                case hx81 => (intro w hSw; (try dsimp only at hSw); go_simp; (try with_reducible rfl))
              (try simp only [Act.put, List.setIfInBounds_toArray, List.set_cons_zero, List.set_cons_succ])
              refine wpAnyH_done (by kernel_rfl) ?_ _
              refine NoPanic.normal ?_
              replace HBx := Lib.hid (HBx.out.keep BC.out)
              replace HVx := Lib.hid (HVx.out.below BC.out)
              replace HBy := Lib.hid (HBy.out.keep BC.out)
              replace HVy := Lib.hid (HVy.out.below BC.out)
              replace HBj := Lib.hid (HBj.out.keep BC.out)
              replace HVj := Lib.hid (HVj.out.below BC.out)
              replace HBk := Lib.hid (HBk.out.keep BC.out)
              replace HVk := Lib.hid (HVk.out.below BC.out)
              replace HFN := Lib.hid (HFN.out.below BC.out)
              replace HB := Lib.hid (HB.out.trans (BC.out.mono HB.out.size))
              clear BC
              go_upto_region 11 with fail
              have BC := Lib.hid (show Below z79.heap.size z79 z79.drew from (Below.refl _ _).drew)
              (try dsimp only [List.append])
              refine wp_region_noPanic ?_
              refine wp_region_held_drew (S := (fun w' => w'.cell? ⟨w.heap.size, 0, none⟩ = some (.bool xa) ∧ w'.cell? ⟨w.heap.size, 1, none⟩ = some (.int .i64 xf) ∧ w'.cell? ⟨w.heap.size, 2, none⟩ = some (.int .i64 xp) ∧ w'.cell? ⟨w.heap.size, 3, none⟩ = some ((.slice xpa xnp xpc)) ∧ w'.cell? ⟨w.heap.size, 4, none⟩ = some (.int .i64 xk) ∧ w'.cell? ⟨w.heap.size, 5, none⟩ = some ((.slice xfa xnf xfc)) ∧ w'.cell? ⟨w.heap.size + 1, 0, none⟩ = some (.bool ya) ∧ w'.cell? ⟨w.heap.size + 1, 1, none⟩ = some (.int .i64 yf) ∧ w'.cell? ⟨w.heap.size + 1, 2, none⟩ = some (.int .i64 yp) ∧ w'.cell? ⟨w.heap.size + 1, 3, none⟩ = some ((.slice ypa ynp ypc)) ∧ w'.cell? ⟨w.heap.size + 1, 4, none⟩ = some (.int .i64 yk) ∧ w'.cell? ⟨w.heap.size + 1, 5, none⟩ = some ((.slice yfa ynf yfc)) ∧ w'.cell? ⟨w8.heap.size, 0, none⟩ = some (.bool ja) ∧ w'.cell? ⟨w8.heap.size, 1, none⟩ = some (.int .i64 jf) ∧ w'.cell? ⟨w8.heap.size, 2, none⟩ = some (.int .i64 jp) ∧ w'.cell? ⟨w8.heap.size, 3, none⟩ = some ((.slice jpa jnp jpc)) ∧ w'.cell? ⟨w8.heap.size, 4, none⟩ = some (.int .i64 jk) ∧ w'.cell? ⟨w8.heap.size, 5, none⟩ = some ((.slice jfa jnf jfc)) ∧ w'.cell? ⟨w10.heap.size, 0, none⟩ = some (.bool ka) ∧ w'.cell? ⟨w10.heap.size, 1, none⟩ = some (.int .i64 kf) ∧ w'.cell? ⟨w10.heap.size, 2, none⟩ = some (.int .i64 kp) ∧ w'.cell? ⟨w10.heap.size, 3, none⟩ = some ((.slice kpa knp kpc)) ∧ w'.cell? ⟨w10.heap.size, 4, none⟩ = some (.int .i64 kk) ∧ w'.cell? ⟨w10.heap.size, 5, none⟩ = some ((.slice kfa knf kfc)))) (by kernel_rfl) (by (try dsimp only); exact ⟨(HBx.out.keep BC.out).c0, (HBx.out.keep BC.out).c1, (HBx.out.keep BC.out).c2, (HBx.out.keep BC.out).c3, (HBx.out.keep BC.out).c4, (HBx.out.keep BC.out).c5, (HBy.out.keep BC.out).c0, (HBy.out.keep BC.out).c1, (HBy.out.keep BC.out).c2, (HBy.out.keep BC.out).c3, (HBy.out.keep BC.out).c4, (HBy.out.keep BC.out).c5, (HBj.out.keep BC.out).c0, (HBj.out.keep BC.out).c1, (HBj.out.keep BC.out).c2, (HBj.out.keep BC.out).c3, (HBj.out.keep BC.out).c4, (HBj.out.keep BC.out).c5, (HBk.out.keep BC.out).c0, (HBk.out.keep BC.out).c1, (HBk.out.keep BC.out).c2, (HBk.out.keep BC.out).c3, (HBk.out.keep BC.out).c4, (HBk.out.keep BC.out).c5⟩) (fun hHeld => ?_)
              refine' take_any 0 53 (v := _) ?hi82 ?hd82 (by kernel_rfl) (by kernel_rfl) (by kernel_rfl) (fun _ _ _ h => h) ?hy82 hHeld ?hr82
              case hi82 => (simp only [List.getElem?_toArray, List.getElem?_cons_zero]; rfl)
              case hd82 => rfl
              case hy82 =>
                refine' Or.inl ⟨?hw82, ?hx82⟩
                case hw82 => rfl
                case hx82 => (intro w hSw; (try dsimp only at hSw); go_simp; (try with_reducible rfl))
              (try simp only [Act.put, List.setIfInBounds_toArray, List.set_cons_zero, List.set_cons_succ])
              refine' take_any 1 54 (v := _) ?hi83 ?hd83 (by kernel_rfl) (by kernel_rfl) (by kernel_rfl) (fun _ _ _ h => h) ?hy83 hHeld ?hr83
              case hi83 => (simp only [List.getElem?_toArray, List.getElem?_cons_succ, List.getElem?_cons_zero]; rfl)
              case hd83 => rfl
              case hy83 =>
                refine' Or.inl ⟨?hw83, ?hx83⟩
                case hw83 => rfl
                case hx83 => (intro w hSw; (try dsimp only at hSw); go_simp; (try with_reducible rfl))
              (try simp only [Act.put, List.setIfInBounds_toArray, List.set_cons_zero, List.set_cons_succ])
              refine' take_any 2 55 (v := _) ?hi84 ?hd84 (by kernel_rfl) (by kernel_rfl) (by kernel_rfl) (fun _ _ _ h => h) ?hy84 hHeld ?hr84
              case hi84 => (simp only [List.getElem?_toArray, List.getElem?_cons_succ, List.getElem?_cons_zero]; rfl)
              case hd84 => rfl
              case hy84 =>
                refine' Or.inl ⟨?hw84, ?hx84⟩
                case hw84 => rfl
                case hx84 => (intro w hSw; (try dsimp only at hSw); go_simp; (try with_reducible rfl))
              (try simp only [Act.put, List.setIfInBounds_toArray, List.set_cons_zero, List.set_cons_succ])
              refine' take_any 3 56 (v := _) ?hi85 ?hd85 (by kernel_rfl) (by kernel_rfl) (by kernel_rfl) (fun _ _ _ h => h) ?hy85 hHeld ?hr85
              case hi85 => (simp only [List.getElem?_toArray, List.getElem?_cons_succ, List.getElem?_cons_zero]; rfl)
              case hd85 => rfl
              case hy85 =>
                refine' Or.inl ⟨?hw85, ?hx85⟩
                case hw85 => rfl
                case hx85 => (intro w hSw; (try dsimp only at hSw); go_simp; (try with_reducible rfl))
              (try simp only [Act.put, List.setIfInBounds_toArray, List.set_cons_zero, List.set_cons_succ])
              refine' take_call 4 ?hi87 (by kernel_rfl) ?hr87
              case hi87 => (simp only [List.getElem?_toArray, List.getElem?_cons_succ, List.getElem?_cons_zero]; rfl)
              intro K hK
              go_simp
              go_at_call 20
              refine (sub_y xy jy HS1.out _ _ _ HOKx.out HOKj.out HLx.out HLj.out (HVx.out.below BC.out) (HVj.out.below BC.out)).mono ?_
              rintro e z86 ⟨rfl, hb⟩
              replace BC := Lib.hid (BC.out.trans (hb.mono BC.out.size))
              clear hb
              go_wp2_with fail
              clear hHeld
              refine hK.out _ _ (by (try dsimp only); exact ⟨(HBx.out.keep BC.out).c0, (HBx.out.keep BC.out).c1, (HBx.out.keep BC.out).c2, (HBx.out.keep BC.out).c3, (HBx.out.keep BC.out).c4, (HBx.out.keep BC.out).c5, (HBy.out.keep BC.out).c0, (HBy.out.keep BC.out).c1, (HBy.out.keep BC.out).c2, (HBy.out.keep BC.out).c3, (HBy.out.keep BC.out).c4, (HBy.out.keep BC.out).c5, (HBj.out.keep BC.out).c0, (HBj.out.keep BC.out).c1, (HBj.out.keep BC.out).c2, (HBj.out.keep BC.out).c3, (HBj.out.keep BC.out).c4, (HBj.out.keep BC.out).c5, (HBk.out.keep BC.out).c0, (HBk.out.keep BC.out).c1, (HBk.out.keep BC.out).c2, (HBk.out.keep BC.out).c3, (HBk.out.keep BC.out).c4, (HBk.out.keep BC.out).c5⟩) (fun hHeld => ?_)
              clear hK K
              (try simp only [Act.put, List.setIfInBounds_toArray, List.set_cons_zero, List.set_cons_succ])
              refine' take_any 5 58 (v := _) ?hi88 ?hd88 (by kernel_rfl) (by kernel_rfl) (by kernel_rfl) (fun _ _ _ h => h) ?hy88 hHeld ?hr88
              case hi88 => (simp only [List.getElem?_toArray, List.getElem?_cons_succ, List.getElem?_cons_zero]; rfl)
              case hd88 => rfl
              case hy88 =>
                refine' Or.inl ⟨?hw88, ?hx88⟩
                case hw88 => rfl
                case hx88 => (intro w hSw; (try dsimp only at hSw); go_simp; (try with_reducible rfl))
              (try simp only [Act.put, List.setIfInBounds_toArray, List.set_cons_zero, List.set_cons_succ])
              refine' take_any 6 59 (v := _) ?hi89 ?hd89 (by kernel_rfl) (by kernel_rfl) (by kernel_rfl) (fun _ _ _ h => h) ?hy89 hHeld ?hr89
              case hi89 => (simp only [List.getElem?_toArray, List.getElem?_cons_succ, List.getElem?_cons_zero]; rfl)
              case hd89 => rfl
              case hy89 =>
                refine' Or.inl ⟨?hw89, ?hx89⟩
                case hw89 => rfl
                case hx89 => (intro w hSw; (try dsimp only at hSw); go_simp; (try with_reducible rfl))
              (try simp only [Act.put, List.setIfInBounds_toArray, List.set_cons_zero, List.set_cons_succ])
              refine' take_any 7 60 (v := _) ?hi90 ?hd90 (by kernel_rfl) (by kernel_rfl) (by kernel_rfl) (fun _ _ _ h => h) ?hy90 hHeld ?hr90
              case hi90 => (simp only [List.getElem?_toArray, List.getElem?_cons_succ, List.getElem?_cons_zero]; rfl)
              case hd90 => rfl
              case hy90 =>
                refine' Or.inl ⟨?hw90, ?hx90⟩
                case hw90 => rfl
                case hx90 => (intro w hSw; (try dsimp only at hSw); go_simp; (try with_reducible rfl))
              (try simp only [Act.put, List.setIfInBounds_toArray, List.set_cons_zero, List.set_cons_succ])
              refine' take_any 8 61 (v := _) ?hi91 ?hd91 (by kernel_rfl) (by kernel_rfl) (by kernel_rfl) (fun _ _ _ h => h) ?hy91 hHeld ?hr91
              case hi91 => (simp only [List.getElem?_toArray, List.getElem?_cons_succ, List.getElem?_cons_zero]; rfl)
              case hd91 => rfl
              case hy91 =>
                refine' Or.inl ⟨?hw91, ?hx91⟩
                case hw91 => rfl
                case hx91 => (intro w hSw; (try dsimp only at hSw); go_simp; (try with_reducible rfl))
              (try simp only [Act.put, List.setIfInBounds_toArray, List.set_cons_zero, List.set_cons_succ])
              refine' take_call 9 ?hi93 (by kernel_rfl) ?hr93
              case hi93 => (simp only [List.getElem?_toArray, List.getElem?_cons_succ, List.getElem?_cons_zero]; rfl)
              intro K hK
              go_simp
              go_at_call 20
              refine (sub_y yy jy HS2.out _ _ _ HOKy.out HOKj.out HLy.out HLj.out (HVy.out.below BC.out) (HVj.out.below BC.out)).mono ?_
              rintro e z92 ⟨rfl, hb⟩
              replace BC := Lib.hid (BC.out.trans (hb.mono BC.out.size))
              clear hb
              go_wp2_with fail
              clear hHeld
              refine hK.out _ _ (by (try dsimp only); exact ⟨(HBx.out.keep BC.out).c0, (HBx.out.keep BC.out).c1, (HBx.out.keep BC.out).c2, (HBx.out.keep BC.out).c3, (HBx.out.keep BC.out).c4, (HBx.out.keep BC.out).c5, (HBy.out.keep BC.out).c0, (HBy.out.keep BC.out).c1, (HBy.out.keep BC.out).c2, (HBy.out.keep BC.out).c3, (HBy.out.keep BC.out).c4, (HBy.out.keep BC.out).c5, (HBj.out.keep BC.out).c0, (HBj.out.keep BC.out).c1, (HBj.out.keep BC.out).c2, (HBj.out.keep BC.out).c3, (HBj.out.keep BC.out).c4, (HBj.out.keep BC.out).c5, (HBk.out.keep BC.out).c0, (HBk.out.keep BC.out).c1, (HBk.out.keep BC.out).c2, (HBk.out.keep BC.out).c3, (HBk.out.keep BC.out).c4, (HBk.out.keep BC.out).c5⟩) (fun hHeld => ?_)
              clear hK K
              (try simp only [Act.put, List.setIfInBounds_toArray, List.set_cons_zero, List.set_cons_succ])
              refine' take_any 10 63 (v := _) ?hi94 ?hd94 (by kernel_rfl) (by kernel_rfl) (by kernel_rfl) (fun _ _ _ h => h) ?hy94 hHeld ?hr94
              case hi94 => (simp only [List.getElem?_toArray, List.getElem?_cons_succ, List.getElem?_cons_zero]; rfl)
              case hd94 => rfl
              case hy94 =>
                refine' Or.inl ⟨?hw94, ?hx94⟩
                case hw94 => rfl
                case hx94 => (intro w hSw; (try dsimp only at hSw); go_simp; (try with_reducible rfl))
              (try simp only [Act.put, List.setIfInBounds_toArray, List.set_cons_zero, List.set_cons_succ])
              refine' take_any 11 64 (v := _) ?hi95 ?hd95 (by kernel_rfl) (by kernel_rfl) (by kernel_rfl) (fun _ _ _ h => h) ?hy95 hHeld ?hr95
              case hi95 => (simp only [List.getElem?_toArray, List.getElem?_cons_succ, List.getElem?_cons_zero]; rfl)
              case hd95 => rfl
              case hy95 =>
                refine' Or.inl ⟨?hw95, ?hx95⟩
                case hw95 => rfl
                case hx95 => (intro w hSw; (try dsimp only at hSw); go_simp; (try with_reducible rfl))
              (try simp only [Act.put, List.setIfInBounds_toArray, List.set_cons_zero, List.set_cons_succ])
              refine' take_any 12 65 (v := _) ?hi96 ?hd96 (by kernel_rfl) (by kernel_rfl) (by kernel_rfl) (fun _ _ _ h => h) ?hy96 hHeld ?hr96
              case hi96 => (simp only [List.getElem?_toArray, List.getElem?_cons_succ, List.getElem?_cons_zero]; rfl)
              case hd96 => rfl
              case hy96 =>
                refine' Or.inl ⟨?hw96, ?hx96⟩
                case hw96 => rfl
                case hx96 => (intro w hSw; (try dsimp only at hSw); go_simp; (try with_reducible rfl))
              (try simp only [Act.put, List.setIfInBounds_toArray, List.set_cons_zero, List.set_cons_succ])
              refine' take_any 13 66 (v := _) ?hi97 ?hd97 (by kernel_rfl) (by kernel_rfl) (by kernel_rfl) (fun _ _ _ h => h) ?hy97 hHeld ?hr97
              case hi97 => (simp only [List.getElem?_toArray, List.getElem?_cons_succ, List.getElem?_cons_zero]; rfl)
              case hd97 => rfl
              case hy97 =>
                refine' Or.inl ⟨?hw97, ?hx97⟩
                case hw97 => rfl
                case hx97 => (intro w hSw; (try dsimp only at hSw); go_simp; (try with_reducible rfl))
              (try simp only [Act.put, List.setIfInBounds_toArray, List.set_cons_zero, List.set_cons_succ])
              refine' take_call 14 ?hi99 (by kernel_rfl) ?hr99
              case hi99 => (simp only [List.getElem?_toArray, List.getElem?_cons_succ, List.getElem?_cons_zero]; rfl)
              intro K hK
              go_simp
              go_at_call 20
              refine (sub_y jy ky HS3.out _ _ _ HOKj.out HOKk.out HLj.out HLk.out (HVj.out.below BC.out) (HVk.out.below BC.out)).mono ?_
              rintro e z98 ⟨rfl, hb⟩
              replace BC := Lib.hid (BC.out.trans (hb.mono BC.out.size))
              clear hb
              go_wp2_with fail
              clear hHeld
              refine hK.out _ _ (by (try dsimp only); exact ⟨(HBx.out.keep BC.out).c0, (HBx.out.keep BC.out).c1, (HBx.out.keep BC.out).c2, (HBx.out.keep BC.out).c3, (HBx.out.keep BC.out).c4, (HBx.out.keep BC.out).c5, (HBy.out.keep BC.out).c0, (HBy.out.keep BC.out).c1, (HBy.out.keep BC.out).c2, (HBy.out.keep BC.out).c3, (HBy.out.keep BC.out).c4, (HBy.out.keep BC.out).c5, (HBj.out.keep BC.out).c0, (HBj.out.keep BC.out).c1, (HBj.out.keep BC.out).c2, (HBj.out.keep BC.out).c3, (HBj.out.keep BC.out).c4, (HBj.out.keep BC.out).c5, (HBk.out.keep BC.out).c0, (HBk.out.keep BC.out).c1, (HBk.out.keep BC.out).c2, (HBk.out.keep BC.out).c3, (HBk.out.keep BC.out).c4, (HBk.out.keep BC.out).c5⟩) (fun hHeld => ?_)
              clear hK K
              (try simp only [Act.put, List.setIfInBounds_toArray, List.set_cons_zero, List.set_cons_succ])
              refine' take_any 15 68 (v := _) ?hi100 ?hd100 (by kernel_rfl) (by kernel_rfl) (by kernel_rfl) (fun _ _ _ h => h) ?hy100 hHeld ?hr100
              case hi100 => (simp only [List.getElem?_toArray, List.getElem?_cons_succ, List.getElem?_cons_zero]; rfl)
              case hd100 => rfl
              case hy100 =>
                refine' Or.inl ⟨?hw100, ?hx100⟩
                case hw100 => rfl
                case hx100 => (intro w hSw; (try dsimp only at hSw); go_simp; (try with_reducible rfl))
              (try simp only [Act.put, List.setIfInBounds_toArray, List.set_cons_zero, List.set_cons_succ])
              refine' take_any 16 69 (v := _) ?hi101 ?hd101 (by kernel_rfl) (by kernel_rfl) (by kernel_rfl) (fun _ _ _ h => h) ?hy101 hHeld ?hr101
              case hi101 => (simp only [List.getElem?_toArray, List.getElem?_cons_succ, List.getElem?_cons_zero]; rfl)
              case hd101 => rfl
              case hy101 =>
                refine' Or.inl ⟨?hw101, ?hx101⟩
                case hw101 => rfl
                case hx101 => (intro w hSw; (try dsimp only at hSw); go_simp; (try with_reducible rfl))
              (try simp only [Act.put, List.setIfInBounds_toArray, List.set_cons_zero, List.set_cons_succ])
              refine' take_any 17 70 (v := _) ?hi102 ?hd102 (by kernel_rfl) (by kernel_rfl) (by kernel_rfl) (fun _ _ _ h => h) ?hy102 hHeld ?hr102
              case hi102 => (simp only [List.getElem?_toArray, List.getElem?_cons_succ, List.getElem?_cons_zero]; rfl)
              case hd102 => rfl
              case hy102 =>
                refine' Or.inl ⟨?hw102, ?hx102⟩
                case hw102 => rfl
                case hx102 => (intro w hSw; (try dsimp only at hSw); go_simp; (try with_reducible rfl))
              (try simp only [Act.put, List.setIfInBounds_toArray, List.set_cons_zero, List.set_cons_succ])
              refine' take_any 18 71 (v := _) ?hi103 ?hd103 (by kernel_rfl) (by kernel_rfl) (by kernel_rfl) (fun _ _ _ h => h) ?hy103 hHeld ?hr103
              case hi103 => (simp only [List.getElem?_toArray, List.getElem?_cons_succ, List.getElem?_cons_zero]; rfl)
              case hd103 => rfl
              case hy103 =>
                refine' Or.inl ⟨?hw103, ?hx103⟩
                case hw103 => rfl
                case hx103 => (intro w hSw; (try dsimp only at hSw); go_simp; (try with_reducible rfl))
              (try simp only [Act.put, List.setIfInBounds_toArray, List.set_cons_zero, List.set_cons_succ])
              refine' take_call 19 ?hi105 (by kernel_rfl) ?hr105
              case hi105 => (simp only [List.getElem?_toArray, List.getElem?_cons_succ, List.getElem?_cons_zero]; rfl)
              intro K hK
              go_simp
              go_at_call 20
              refine (sub_y ky jy HS4.out _ _ _ HOKk.out HOKj.out HLk.out HLj.out (HVk.out.below BC.out) (HVj.out.below BC.out)).mono ?_
              rintro e z104 ⟨rfl, hb⟩
              replace BC := Lib.hid (BC.out.trans (hb.mono BC.out.size))
              clear hb
              go_wp2_with fail
              clear hHeld
              refine hK.out _ _ (by (try dsimp only); exact ⟨(HBx.out.keep BC.out).c0, (HBx.out.keep BC.out).c1, (HBx.out.keep BC.out).c2, (HBx.out.keep BC.out).c3, (HBx.out.keep BC.out).c4, (HBx.out.keep BC.out).c5, (HBy.out.keep BC.out).c0, (HBy.out.keep BC.out).c1, (HBy.out.keep BC.out).c2, (HBy.out.keep BC.out).c3, (HBy.out.keep BC.out).c4, (HBy.out.keep BC.out).c5, (HBj.out.keep BC.out).c0, (HBj.out.keep BC.out).c1, (HBj.out.keep BC.out).c2, (HBj.out.keep BC.out).c3, (HBj.out.keep BC.out).c4, (HBj.out.keep BC.out).c5, (HBk.out.keep BC.out).c0, (HBk.out.keep BC.out).c1, (HBk.out.keep BC.out).c2, (HBk.out.keep BC.out).c3, (HBk.out.keep BC.out).c4, (HBk.out.keep BC.out).c5⟩) (fun hHeld => ?_)
              clear hK K
              (try simp only [Act.put, List.setIfInBounds_toArray, List.set_cons_zero, List.set_cons_succ])
              refine' take_any 20 73 (v := _) ?hi106 ?hd106 (by kernel_rfl) (by kernel_rfl) (by kernel_rfl) (fun _ _ _ h => h) ?hy106 hHeld ?hr106
              case hi106 => (simp only [List.getElem?_toArray, List.getElem?_cons_succ, List.getElem?_cons_zero]; rfl)
              case hd106 => rfl
              case hy106 =>
                refine' Or.inl ⟨?hw106, ?hx106⟩
                case hw106 => rfl
                case hx106 => (intro w hSw; (try dsimp only at hSw); go_simp; (try with_reducible rfl))
              (try simp only [Act.put, List.setIfInBounds_toArray, List.set_cons_zero, List.set_cons_succ])
              refine' take_any 21 74 (v := _) ?hi107 ?hd107 (by kernel_rfl) (by kernel_rfl) (by kernel_rfl) (fun _ _ _ h => h) ?hy107 hHeld ?hr107
              case hi107 => (simp only [List.getElem?_toArray, List.getElem?_cons_succ, List.getElem?_cons_zero]; rfl)
              case hd107 => rfl
              case hy107 =>
                refine' Or.inl ⟨?hw107, ?hx107⟩
                case hw107 => rfl
                case hx107 => (intro w hSw; (try dsimp only at hSw); go_simp; (try with_reducible rfl))
              (try simp only [Act.put, List.setIfInBounds_toArray, List.set_cons_zero, List.set_cons_succ])
              refine' take_any 22 75 (v := _) ?hi108 ?hd108 (by kernel_rfl) (by kernel_rfl) (by kernel_rfl) (fun _ _ _ h => h) ?hy108 hHeld ?hr108
              case hi108 => (simp only [List.getElem?_toArray, List.getElem?_cons_succ, List.getElem?_cons_zero]; rfl)
              case hd108 => rfl
              case hy108 =>
                refine' Or.inl ⟨?hw108, ?hx108⟩
                case hw108 => rfl
                case hx108 => (intro w hSw; (try dsimp only at hSw); go_simp; (try with_reducible rfl))
              (try simp only [Act.put, List.setIfInBounds_toArray, List.set_cons_zero, List.set_cons_succ])
              refine' take_any 23 76 (v := _) ?hi109 ?hd109 (by kernel_rfl) (by kernel_rfl) (by kernel_rfl) (fun _ _ _ h => h) ?hy109 hHeld ?hr109
              case hi109 => (simp only [List.getElem?_toArray, List.getElem?_cons_succ, List.getElem?_cons_zero]; rfl)
              case hd109 => rfl
              case hy109 =>
                refine' Or.inl ⟨?hw109, ?hx109⟩
                case hw109 => rfl
                case hx109 => (intro w hSw; (try dsimp only at hSw); go_simp; (try with_reducible rfl))
              (try simp only [Act.put, List.setIfInBounds_toArray, List.set_cons_zero, List.set_cons_succ])
              refine' take_any 24 77 (v := _) ?hi110 ?hd110 (by kernel_rfl) (by kernel_rfl) (by kernel_rfl) (fun _ _ _ h => h) ?hy110 hHeld ?hr110
              case hi110 => (simp only [List.getElem?_toArray, List.getElem?_cons_succ, List.getElem?_cons_zero]; rfl)
              case hd110 => rfl
              case hy110 =>
                refine' Or.inl ⟨?hw110, ?hx110⟩
                case hw110 => rfl
                case hx110 => (intro w hSw; (try dsimp only at hSw); go_simp; (try with_reducible rfl))
              (try simp only [Act.put, List.setIfInBounds_toArray, List.set_cons_zero, List.set_cons_succ])
              refine' take_any 25 78 (v := _) ?hi111 ?hd111 (by kernel_rfl) (by kernel_rfl) (by kernel_rfl) (fun _ _ _ h => h) ?hy111 hHeld ?hr111
              case hi111 => (simp only [List.getElem?_toArray, List.getElem?_cons_succ, List.getElem?_cons_zero]; rfl)
              case hd111 => rfl
              case hy111 =>
                refine' Or.inl ⟨?hw111, ?hx111⟩
                case hw111 => rfl
                case hx111 => (intro w hSw; (try dsimp only at hSw); go_simp; (try with_reducible rfl))
              (try simp only [Act.put, List.setIfInBounds_toArray, List.set_cons_zero, List.set_cons_succ])
              refine' take_any 26 79 (v := _) ?hi112 ?hd112 (by kernel_rfl) (by kernel_rfl) (by kernel_rfl) (fun _ _ _ h => h) ?hy112 hHeld ?hr112
              case hi112 => (simp only [List.getElem?_toArray, List.getElem?_cons_succ, List.getElem?_cons_zero]; rfl)
              case hd112 => rfl
              case hy112 =>
                refine' Or.inl ⟨?hw112, ?hx112⟩
                case hw112 => rfl
                case hx112 => (intro w hSw; (try dsimp only at hSw); go_simp; (try with_reducible rfl))
              (try simp only [Act.put, List.setIfInBounds_toArray, List.set_cons_zero, List.set_cons_succ])
              refine' take_any 28 81 (v := _) ?hi113 ?hd113 (by kernel_rfl) (by kernel_rfl) (by kernel_rfl) (fun _ _ _ h => h) ?hy113 hHeld ?hr113
              case hi113 => (simp only [List.getElem?_toArray, List.getElem?_cons_succ, List.getElem?_cons_zero]; rfl)
              case hd113 => rfl
              case hy113 =>
                refine' Or.inl ⟨?hw113, ?hx113⟩
                case hw113 => rfl
                case hx113 => (intro w hSw; (try dsimp only at hSw); go_simp; (try with_reducible rfl))
              (try simp only [Act.put, List.setIfInBounds_toArray, List.set_cons_zero, List.set_cons_succ])
              refine' take_call 27 ?hi115 (by kernel_rfl) ?hr115
              case hi115 => (simp only [List.getElem?_toArray, List.getElem?_cons_succ, List.getElem?_cons_zero]; rfl)
              intro K hK
              go_simp
              go_at_call 18
              refine (join_e xy ty0 xy (join_none xy HOKx.out) _ _ _ HOKx.out ok0 HLx.out (by decide) (HVx.out.below BC.out) (ty0_v N0 _)).mono ?_
              rintro e z114 ⟨⟨v, rfl, hv⟩, hb⟩
              have H1 := Lib.hid hv
              clear hv
              obtain ⟨qa, qf, qp, qpa, qnp, qpc, qk, qfa, qnf, qfc, rfl⟩ := H1.out.shape
              replace BC := Lib.hid (BC.out.trans (hb.mono BC.out.size))
              clear hb
              go_wp2_with fail
              clear hHeld
              refine hK.out _ _ (by (try dsimp only); exact ⟨(HBx.out.keep BC.out).c0, (HBx.out.keep BC.out).c1, (HBx.out.keep BC.out).c2, (HBx.out.keep BC.out).c3, (HBx.out.keep BC.out).c4, (HBx.out.keep BC.out).c5, (HBy.out.keep BC.out).c0, (HBy.out.keep BC.out).c1, (HBy.out.keep BC.out).c2, (HBy.out.keep BC.out).c3, (HBy.out.keep BC.out).c4, (HBy.out.keep BC.out).c5, (HBj.out.keep BC.out).c0, (HBj.out.keep BC.out).c1, (HBj.out.keep BC.out).c2, (HBj.out.keep BC.out).c3, (HBj.out.keep BC.out).c4, (HBj.out.keep BC.out).c5, (HBk.out.keep BC.out).c0, (HBk.out.keep BC.out).c1, (HBk.out.keep BC.out).c2, (HBk.out.keep BC.out).c3, (HBk.out.keep BC.out).c4, (HBk.out.keep BC.out).c5⟩) (fun hHeld => ?_)
              clear hK K
              (try simp only [Act.put, List.setIfInBounds_toArray, List.set_cons_zero, List.set_cons_succ])
              refine' take_call 29 ?hi117 (by kernel_rfl) ?hr117
              case hi117 => (simp only [List.getElem?_toArray, List.getElem?_cons_succ, List.getElem?_cons_zero]; rfl)
              intro K hK
              go_simp
              go_at_call 13
              refine (same_y xy _ _ _ H1.out (HVx.out.below BC.out)).mono ?_
              rintro e z116 ⟨rfl, hb⟩
              clear H1
              replace BC := Lib.hid (BC.out.trans (hb.mono BC.out.size))
              clear hb
              go_wp2_with fail
              clear hHeld
              refine hK.out _ _ (by (try dsimp only); exact ⟨(HBx.out.keep BC.out).c0, (HBx.out.keep BC.out).c1, (HBx.out.keep BC.out).c2, (HBx.out.keep BC.out).c3, (HBx.out.keep BC.out).c4, (HBx.out.keep BC.out).c5, (HBy.out.keep BC.out).c0, (HBy.out.keep BC.out).c1, (HBy.out.keep BC.out).c2, (HBy.out.keep BC.out).c3, (HBy.out.keep BC.out).c4, (HBy.out.keep BC.out).c5, (HBj.out.keep BC.out).c0, (HBj.out.keep BC.out).c1, (HBj.out.keep BC.out).c2, (HBj.out.keep BC.out).c3, (HBj.out.keep BC.out).c4, (HBj.out.keep BC.out).c5, (HBk.out.keep BC.out).c0, (HBk.out.keep BC.out).c1, (HBk.out.keep BC.out).c2, (HBk.out.keep BC.out).c3, (HBk.out.keep BC.out).c4, (HBk.out.keep BC.out).c5⟩) (fun hHeld => ?_)
              clear hK K
              (try simp only [Act.put, List.setIfInBounds_toArray, List.set_cons_zero, List.set_cons_succ])
              refine' take_any 30 83 (v := _) ?hi118 ?hd118 (by kernel_rfl) (by kernel_rfl) (by kernel_rfl) (fun _ _ _ h => h) ?hy118 hHeld ?hr118
              case hi118 => (simp only [List.getElem?_toArray, List.getElem?_cons_succ, List.getElem?_cons_zero]; rfl)
              case hd118 => rfl
              case hy118 =>
                refine' Or.inl ⟨?hw118, ?hx118⟩
                case hw118 => rfl
                case hx118 => (intro w hSw; (try dsimp only at hSw); go_simp; (try with_reducible rfl))
              (try simp only [Act.put, List.setIfInBounds_toArray, List.set_cons_zero, List.set_cons_succ])
              refine' take_any 31 4 (v := _) ?hi119 ?hd119 (by kernel_rfl) (by kernel_rfl) (by kernel_rfl) (fun _ _ _ h => h) ?hy119 hHeld ?hr119
              case hi119 => (simp only [List.getElem?_toArray, List.getElem?_cons_succ, List.getElem?_cons_zero]; rfl)
              case hd119 => rfl
              case hy119 =>
                refine' Or.inl ⟨?hw119, ?hx119⟩
                case hw119 => rfl
                case hx119 => (intro w hSw; (try dsimp only at hSw); go_simp; (try with_reducible rfl))
              (try simp only [Act.put, List.setIfInBounds_toArray, List.set_cons_zero, List.set_cons_succ])
              refine wpAnyH_done (by kernel_rfl) ?_ _
              refine NoPanic.normal ?_
              replace HBx := Lib.hid (HBx.out.keep BC.out)
              replace HVx := Lib.hid (HVx.out.below BC.out)
              replace HBy := Lib.hid (HBy.out.keep BC.out)
              replace HVy := Lib.hid (HVy.out.below BC.out)
              replace HBj := Lib.hid (HBj.out.keep BC.out)
              replace HVj := Lib.hid (HVj.out.below BC.out)
              replace HBk := Lib.hid (HBk.out.keep BC.out)
              replace HVk := Lib.hid (HVk.out.below BC.out)
              replace HFN := Lib.hid (HFN.out.below BC.out)
              replace HB := Lib.hid (HB.out.trans (BC.out.mono HB.out.size))
              clear BC
              go_wp2
              go_ret
              exact ⟨rfl, HB.out⟩
end Go.Proofs.YtdjhjapfmbcmlaaDoor
