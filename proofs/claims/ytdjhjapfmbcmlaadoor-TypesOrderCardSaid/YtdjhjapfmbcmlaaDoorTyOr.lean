import Derived.Test.YtdjhjapfmbcmlaaDoorTyLw
import Derived.Test.YtdjhjapfmbcmlaaDoorTyJd
import Derived.Deep.RegionHeld3
namespace Go.Proofs.YtdjhjapfmbcmlaaDoor
open Go.RowKit

set_option maxRecDepth 100000 in
set_option maxHeartbeats 32000000 in
/-- an order -/
theorem order_law (xy yy zy : Ty) (vx vy vz : Value) (w : World) (hFN : FN w) (rx : RngT xy) (hx : TyVN N0 w vx xy) (ry : RngT yy) (hy : TyVN N0 w vy yy) (rz : RngT zy) (hz : TyVN N0 w vz zy) :
    Calls Tryd.prog 5 #[vx, vy, vz] w fun e w' => e = .returned (.bool true) ∧ Below w.heap.size w w' := by
  obtain ⟨xa, xf, xp, xpa, xnp, xpc, xk, xfa, xnf, xfc, rfl⟩ := (hx : TyVN N0 w vx xy).shape
  have HXx := Lib.hid hx
  obtain ⟨ya, yf, yp, ypa, ynp, ypc, yk, yfa, ynf, yfc, rfl⟩ := (hy : TyVN N0 w vy yy).shape
  have HXy := Lib.hid hy
  obtain ⟨za, zf, zp, zpa, znp, zpc, zk, zfa, znf, zfc, rfl⟩ := (hz : TyVN N0 w vz zy).shape
  have HXz := Lib.hid hz
  have HFN := Lib.hid hFN
  have HB := Lib.hid (Below.refl w.heap.size w)
  clear hFN hx hy hz
  have HLx := Lib.hid (light_sz (t := xy))
  have HRx := Lib.hid rx
  have HLy := Lib.hid (light_sz (t := yy))
  have HRy := Lib.hid ry
  have HLz := Lib.hid (light_sz (t := zy))
  have HRz := Lib.hid rz
  clear rx ry rz
  obtain ⟨W1, hW1⟩ : ∃ W, W = w.alloc (.cells #[.bool xa, .int .i64 xf, .int .i64 xp, (.slice xpa xnp xpc), .int .i64 xk, (.slice xfa xnf xfc)] 24) := ⟨_, rfl⟩
  have hb : Below w.heap.size w W1 := by rw [hW1]; exact (Below.refl _ _).alloc (Nat.le_refl _) _
  have HHW1 := Lib.hid hW1
  clear hW1
  have HBx := Lib.hid (show BoxAt W1 w.heap.size xa xf xp (.slice xpa xnp xpc) xk (.slice xfa xnf xfc) by rw [HHW1.out]; exact BoxAt.made _ _ _ _ _ _ _)
  have HSW1 := Lib.hid (show W1.heap.size = w.heap.size + 1 by rw [HHW1.out, alloc_hs])
  have HVx := Lib.hid (HXx.out.below hb)
  clear HXx
  replace HFN := Lib.hid (HFN.out.below hb)
  replace HB := Lib.hid (HB.out.trans (hb.mono HB.out.size))
  clear hb
  replace HXy := Lib.hid (HXy.out.below (show Below w.heap.size w W1 by rw [HHW1.out]; exact (Below.refl _ _).alloc (Nat.le_refl _) _))
  replace HXz := Lib.hid (HXz.out.below (show Below w.heap.size w W1 by rw [HHW1.out]; exact (Below.refl _ _).alloc (Nat.le_refl _) _))
  obtain ⟨W2, hW2⟩ : ∃ W, W = W1.alloc (.cells #[.bool ya, .int .i64 yf, .int .i64 yp, (.slice ypa ynp ypc), .int .i64 yk, (.slice yfa ynf yfc)] 24) := ⟨_, rfl⟩
  have hb : Below W1.heap.size W1 W2 := by rw [hW2]; exact (Below.refl _ _).alloc (Nat.le_refl _) _
  have HHW2 := Lib.hid hW2
  clear hW2
  replace HBx := Lib.hid (HBx.out.keep hb)
  replace HVx := Lib.hid (HVx.out.below hb)
  have HBy := Lib.hid (show BoxAt W2 W1.heap.size ya yf yp (.slice ypa ynp ypc) yk (.slice yfa ynf yfc) by rw [HHW2.out]; exact BoxAt.made _ _ _ _ _ _ _)
  replace HBy := Lib.hid (by have h := HBy.out; rw [HSW1.out] at h; exact h)
  have HSW2 := Lib.hid (show W2.heap.size = w.heap.size + 1 + 1 by rw [HHW2.out, alloc_hs, HSW1.out])
  have HVy := Lib.hid (HXy.out.below hb)
  clear HXy
  replace HFN := Lib.hid (HFN.out.below hb)
  replace HB := Lib.hid (HB.out.trans (hb.mono HB.out.size))
  clear hb
  have HTW2 := HHW2.out
  rw [HHW1.out] at HTW2
  have HUW2 := Lib.hid HTW2
  clear HTW2
  replace HXz := Lib.hid (HXz.out.below (show Below W1.heap.size W1 W2 by rw [HHW2.out]; exact (Below.refl _ _).alloc (Nat.le_refl _) _))
  obtain ⟨W3, hW3⟩ : ∃ W, W = W2.alloc (.cells #[.bool za, .int .i64 zf, .int .i64 zp, (.slice zpa znp zpc), .int .i64 zk, (.slice zfa znf zfc)] 24) := ⟨_, rfl⟩
  have hb : Below W2.heap.size W2 W3 := by rw [hW3]; exact (Below.refl _ _).alloc (Nat.le_refl _) _
  have HHW3 := Lib.hid hW3
  clear hW3
  replace HBx := Lib.hid (HBx.out.keep hb)
  replace HVx := Lib.hid (HVx.out.below hb)
  replace HBy := Lib.hid (HBy.out.keep hb)
  replace HVy := Lib.hid (HVy.out.below hb)
  have HBz := Lib.hid (show BoxAt W3 W2.heap.size za zf zp (.slice zpa znp zpc) zk (.slice zfa znf zfc) by rw [HHW3.out]; exact BoxAt.made _ _ _ _ _ _ _)
  replace HBz := Lib.hid (by have h := HBz.out; rw [HSW2.out] at h; exact h)
  have HSW3 := Lib.hid (show W3.heap.size = w.heap.size + 1 + 1 + 1 by rw [HHW3.out, alloc_hs, HSW2.out])
  have HVz := Lib.hid (HXz.out.below hb)
  clear HXz
  replace HFN := Lib.hid (HFN.out.below hb)
  replace HB := Lib.hid (HB.out.trans (hb.mono HB.out.size))
  clear hb
  have HTW3 := HHW3.out
  rw [HUW2.out] at HTW3
  have HUW3 := Lib.hid HTW3
  clear HTW3
  go_enter Tryd.func5, Tryd.ntmps5
  go_wp2_with fail
  rw [← HUW3.out]
  refine (awake_p W3 HFN.out).mono ?_
  rintro e w4 ⟨rfl, hb⟩
  replace HBx := Lib.hid (HBx.out.keep hb)
  replace HVx := Lib.hid (HVx.out.below hb)
  replace HBy := Lib.hid (HBy.out.keep hb)
  replace HVy := Lib.hid (HVy.out.below hb)
  replace HBz := Lib.hid (HBz.out.keep hb)
  replace HVz := Lib.hid (HVz.out.below hb)
  replace HFN := Lib.hid (HFN.out.below hb)
  replace HB := Lib.hid (HB.out.trans (hb.mono HB.out.size))
  clear hb
  have x0 := HBx.out.c0
  have x1 := HBx.out.c1
  have x2 := HBx.out.c2
  have x3 := HBx.out.c3
  have x4 := HBx.out.c4
  have x5 := HBx.out.c5
  go_wp2_with fail
  refine (light_any xy _ w4 HVx.out.v).mono ?_
  rintro e w5 ⟨rfl, hb⟩
  replace HBx := Lib.hid (HBx.out.keep hb)
  replace HVx := Lib.hid (HVx.out.below hb)
  replace HBy := Lib.hid (HBy.out.keep hb)
  replace HVy := Lib.hid (HVy.out.below hb)
  replace HBz := Lib.hid (HBz.out.keep hb)
  replace HVz := Lib.hid (HVz.out.below hb)
  replace HFN := Lib.hid (HFN.out.below hb)
  replace HB := Lib.hid (HB.out.trans (hb.mono HB.out.size))
  clear hb
  clear x0 x1 x2 x3 x4 x5
  have y0 := HBy.out.c0
  have y1 := HBy.out.c1
  have y2 := HBy.out.c2
  have y3 := HBy.out.c3
  have y4 := HBy.out.c4
  have y5 := HBy.out.c5
  go_wp2_with fail
  refine (light_any yy _ w5 HVy.out.v).mono ?_
  rintro e w6 ⟨rfl, hb⟩
  replace HBx := Lib.hid (HBx.out.keep hb)
  replace HVx := Lib.hid (HVx.out.below hb)
  replace HBy := Lib.hid (HBy.out.keep hb)
  replace HVy := Lib.hid (HVy.out.below hb)
  replace HBz := Lib.hid (HBz.out.keep hb)
  replace HVz := Lib.hid (HVz.out.below hb)
  replace HFN := Lib.hid (HFN.out.below hb)
  replace HB := Lib.hid (HB.out.trans (hb.mono HB.out.size))
  clear hb
  clear y0 y1 y2 y3 y4 y5
  have z0 := HBz.out.c0
  have z1 := HBz.out.c1
  have z2 := HBz.out.c2
  have z3 := HBz.out.c3
  have z4 := HBz.out.c4
  have z5 := HBz.out.c5
  go_wp2_with fail
  refine (light_any zy _ w6 HVz.out.v).mono ?_
  rintro e w7 ⟨rfl, hb⟩
  replace HBx := Lib.hid (HBx.out.keep hb)
  replace HVx := Lib.hid (HVx.out.below hb)
  replace HBy := Lib.hid (HBy.out.keep hb)
  replace HVy := Lib.hid (HVy.out.below hb)
  replace HBz := Lib.hid (HBz.out.keep hb)
  replace HVz := Lib.hid (HVz.out.below hb)
  replace HFN := Lib.hid (HFN.out.below hb)
  replace HB := Lib.hid (HB.out.trans (hb.mono HB.out.size))
  clear hb
  clear z0 z1 z2 z3 z4 z5
  obtain ⟨lx, hlx⟩ : ∃ b, b = lightT xy := ⟨_, rfl⟩
  rw [← hlx]
  replace HLx := Lib.hid (show lx = true → szT xy < 120 by rw [hlx]; exact HLx.out)
  clear hlx
  obtain ⟨ly, hly⟩ : ∃ b, b = lightT yy := ⟨_, rfl⟩
  rw [← hly]
  replace HLy := Lib.hid (show ly = true → szT yy < 120 by rw [hly]; exact HLy.out)
  clear hly
  obtain ⟨lz, hlz⟩ : ∃ b, b = lightT zy := ⟨_, rfl⟩
  rw [← hlz]
  replace HLz := Lib.hid (show lz = true → szT zy < 120 by rw [hlz]; exact HLz.out)
  clear hlz
  cases lx with
  | false =>
    go_wp2
    go_ret
    exact ⟨rfl, HB.out⟩
  | true =>
    cases ly with
    | false =>
      go_wp2
      go_ret
      exact ⟨rfl, HB.out⟩
    | true =>
      cases lz with
      | false =>
        go_wp2
        go_ret
        exact ⟨rfl, HB.out⟩
      | true =>
        replace HLx := Lib.hid (Nat.le_trans (Nat.le_of_lt (HLx.out rfl)) (show 120 ≤ 300 by decide))
        replace HLy := Lib.hid (Nat.le_trans (Nat.le_of_lt (HLy.out rfl)) (show 120 ≤ 300 by decide))
        replace HLz := Lib.hid (Nat.le_trans (Nat.le_of_lt (HLz.out rfl)) (show 120 ≤ 300 by decide))
        have x0 := HBx.out.c0
        have x1 := HBx.out.c1
        have x2 := HBx.out.c2
        have x3 := HBx.out.c3
        have x4 := HBx.out.c4
        have x5 := HBx.out.c5
        go_wp2_with fail
        refine (right_l xy _ w7 HLx.out HRx.out HVx.out).mono ?_
        rintro e w8 ⟨rfl, hb⟩
        replace HBx := Lib.hid (HBx.out.keep hb)
        replace HVx := Lib.hid (HVx.out.below hb)
        replace HBy := Lib.hid (HBy.out.keep hb)
        replace HVy := Lib.hid (HVy.out.below hb)
        replace HBz := Lib.hid (HBz.out.keep hb)
        replace HVz := Lib.hid (HVz.out.below hb)
        replace HFN := Lib.hid (HFN.out.below hb)
        replace HB := Lib.hid (HB.out.trans (hb.mono HB.out.size))
        clear hb
        clear x0 x1 x2 x3 x4 x5
        obtain ⟨zx, hzx⟩ : ∃ b, b = deepF 20 xy := ⟨_, rfl⟩
        rw [← hzx]
        have HZx := Lib.hid hzx
        clear hzx
        cases zx with
        | false =>
          go_wp2
          go_ret
          exact ⟨rfl, HB.out⟩
        | true =>
          have HOKx := Lib.hid (deep_ok HZx.out.symm)
          have y0 := HBy.out.c0
          have y1 := HBy.out.c1
          have y2 := HBy.out.c2
          have y3 := HBy.out.c3
          have y4 := HBy.out.c4
          have y5 := HBy.out.c5
          go_wp2_with fail
          refine (right_l yy _ w8 HLy.out HRy.out HVy.out).mono ?_
          rintro e w9 ⟨rfl, hb⟩
          replace HBx := Lib.hid (HBx.out.keep hb)
          replace HVx := Lib.hid (HVx.out.below hb)
          replace HBy := Lib.hid (HBy.out.keep hb)
          replace HVy := Lib.hid (HVy.out.below hb)
          replace HBz := Lib.hid (HBz.out.keep hb)
          replace HVz := Lib.hid (HVz.out.below hb)
          replace HFN := Lib.hid (HFN.out.below hb)
          replace HB := Lib.hid (HB.out.trans (hb.mono HB.out.size))
          clear hb
          clear y0 y1 y2 y3 y4 y5
          obtain ⟨zy, hzy⟩ : ∃ b, b = deepF 20 yy := ⟨_, rfl⟩
          rw [← hzy]
          have HZy := Lib.hid hzy
          clear hzy
          cases zy with
          | false =>
            go_wp2
            go_ret
            exact ⟨rfl, HB.out⟩
          | true =>
            have HOKy := Lib.hid (deep_ok HZy.out.symm)
            have z0 := HBz.out.c0
            have z1 := HBz.out.c1
            have z2 := HBz.out.c2
            have z3 := HBz.out.c3
            have z4 := HBz.out.c4
            have z5 := HBz.out.c5
            go_wp2_with fail
            refine (right_l zy _ w9 HLz.out HRz.out HVz.out).mono ?_
            rintro e w10 ⟨rfl, hb⟩
            replace HBx := Lib.hid (HBx.out.keep hb)
            replace HVx := Lib.hid (HVx.out.below hb)
            replace HBy := Lib.hid (HBy.out.keep hb)
            replace HVy := Lib.hid (HVy.out.below hb)
            replace HBz := Lib.hid (HBz.out.keep hb)
            replace HVz := Lib.hid (HVz.out.below hb)
            replace HFN := Lib.hid (HFN.out.below hb)
            replace HB := Lib.hid (HB.out.trans (hb.mono HB.out.size))
            clear hb
            clear z0 z1 z2 z3 z4 z5
            obtain ⟨zz, hzz⟩ : ∃ b, b = deepF 20 zy := ⟨_, rfl⟩
            rw [← hzz]
            have HZz := Lib.hid hzz
            clear hzz
            cases zz with
            | false =>
              go_wp2
              go_ret
              exact ⟨rfl, HB.out⟩
            | true =>
              have HOKz := Lib.hid (deep_ok HZz.out.symm)
              go_upto_region 7 with fail
              have BC := Lib.hid (show Below w10.heap.size w10 w10.drew from (Below.refl _ _).drew)
              (try dsimp only [List.append])
              refine wp_region_noPanic ?_
              refine wp_region_held_drew (S := (fun w' => w'.cell? ⟨w.heap.size, 0, none⟩ = some (.bool xa) ∧ w'.cell? ⟨w.heap.size, 1, none⟩ = some (.int .i64 xf) ∧ w'.cell? ⟨w.heap.size, 2, none⟩ = some (.int .i64 xp) ∧ w'.cell? ⟨w.heap.size, 3, none⟩ = some ((.slice xpa xnp xpc)) ∧ w'.cell? ⟨w.heap.size, 4, none⟩ = some (.int .i64 xk) ∧ w'.cell? ⟨w.heap.size, 5, none⟩ = some ((.slice xfa xnf xfc)))) (by kernel_rfl) (by (try dsimp only); exact ⟨(HBx.out.keep BC.out).c0, (HBx.out.keep BC.out).c1, (HBx.out.keep BC.out).c2, (HBx.out.keep BC.out).c3, (HBx.out.keep BC.out).c4, (HBx.out.keep BC.out).c5⟩) (fun hHeld => ?_)
              refine' take_any 0 44 (v := _) ?hi54 ?hd54 (by kernel_rfl) (by kernel_rfl) (by kernel_rfl) (fun _ _ _ h => h) ?hy54 hHeld ?hr54
              case hi54 => (simp only [List.getElem?_toArray, List.getElem?_cons_zero]; rfl)
              case hd54 => rfl
              case hy54 =>
                refine' Or.inl ⟨?hw54, ?hx54⟩
                case hw54 => rfl
                case hx54 => (intro w hSw; (try dsimp only at hSw); go_simp; (try with_reducible rfl))
              (try simp only [Act.put, List.setIfInBounds_toArray, List.set_cons_zero, List.set_cons_succ])
              refine' take_any 1 45 (v := _) ?hi55 ?hd55 (by kernel_rfl) (by kernel_rfl) (by kernel_rfl) (fun _ _ _ h => h) ?hy55 hHeld ?hr55
              case hi55 => (simp only [List.getElem?_toArray, List.getElem?_cons_succ, List.getElem?_cons_zero]; rfl)
              case hd55 => rfl
              case hy55 =>
                refine' Or.inl ⟨?hw55, ?hx55⟩
                case hw55 => rfl
                case hx55 => (intro w hSw; (try dsimp only at hSw); go_simp; (try with_reducible rfl))
              (try simp only [Act.put, List.setIfInBounds_toArray, List.set_cons_zero, List.set_cons_succ])
              refine' take_call 2 ?hi57 (by kernel_rfl) ?hr57
              case hi57 => (simp only [List.getElem?_toArray, List.getElem?_cons_succ, List.getElem?_cons_zero]; rfl)
              intro K hK
              go_simp
              go_at_call 20
              refine (sub_y xy xy (sub_refl xy HOKx.out) _ _ _ HOKx.out HOKx.out HLx.out HLx.out (HVx.out.below BC.out) (HVx.out.below BC.out)).mono ?_
              rintro e z56 ⟨rfl, hb⟩
              replace BC := Lib.hid (BC.out.trans (hb.mono BC.out.size))
              clear hb
              go_wp2_with fail
              clear hHeld
              refine hK.out _ _ (by (try dsimp only); exact ⟨(HBx.out.keep BC.out).c0, (HBx.out.keep BC.out).c1, (HBx.out.keep BC.out).c2, (HBx.out.keep BC.out).c3, (HBx.out.keep BC.out).c4, (HBx.out.keep BC.out).c5⟩) (fun hHeld => ?_)
              clear hK K
              (try simp only [Act.put, List.setIfInBounds_toArray, List.set_cons_zero, List.set_cons_succ])
              refine' take_any 3 47 (v := _) ?hi58 ?hd58 (by kernel_rfl) (by kernel_rfl) (by kernel_rfl) (fun _ _ _ h => h) ?hy58 hHeld ?hr58
              case hi58 => (simp only [List.getElem?_toArray, List.getElem?_cons_succ, List.getElem?_cons_zero]; rfl)
              case hd58 => rfl
              case hy58 =>
                refine' Or.inl ⟨?hw58, ?hx58⟩
                case hw58 => rfl
                case hx58 => (intro w hSw; (try dsimp only at hSw); go_simp; (try with_reducible rfl))
              (try simp only [Act.put, List.setIfInBounds_toArray, List.set_cons_zero, List.set_cons_succ])
              refine' take_any 4 48 (v := _) ?hi59 ?hd59 (by kernel_rfl) (by kernel_rfl) (by kernel_rfl) (fun _ _ _ h => h) ?hy59 hHeld ?hr59
              case hi59 => (simp only [List.getElem?_toArray, List.getElem?_cons_succ, List.getElem?_cons_zero]; rfl)
              case hd59 => rfl
              case hy59 =>
                refine' Or.inl ⟨?hw59, ?hx59⟩
                case hw59 => rfl
                case hx59 => (intro w hSw; (try dsimp only at hSw); go_simp; (try with_reducible rfl))
              (try simp only [Act.put, List.setIfInBounds_toArray, List.set_cons_zero, List.set_cons_succ])
              refine' take_any 5 49 (v := _) ?hi60 ?hd60 (by kernel_rfl) (by kernel_rfl) (by kernel_rfl) (fun _ _ _ h => h) ?hy60 hHeld ?hr60
              case hi60 => (simp only [List.getElem?_toArray, List.getElem?_cons_succ, List.getElem?_cons_zero]; rfl)
              case hd60 => rfl
              case hy60 =>
                refine' Or.inl ⟨?hw60, ?hx60⟩
                case hw60 => rfl
                case hx60 => (intro w hSw; (try dsimp only at hSw); go_simp; (try with_reducible rfl))
              (try simp only [Act.put, List.setIfInBounds_toArray, List.set_cons_zero, List.set_cons_succ])
              refine' take_call 6 ?hi62 (by kernel_rfl) ?hr62
              case hi62 => (simp only [List.getElem?_toArray, List.getElem?_cons_succ, List.getElem?_cons_zero]; rfl)
              intro K hK
              go_simp
              go_at_call 27
              refine (all_p _).mono ?_
              rintro e z61 ⟨rfl, hb⟩
              replace BC := Lib.hid (BC.out.trans (hb.mono BC.out.size))
              clear hb
              go_wp2_with fail
              clear hHeld
              refine hK.out _ _ (by (try dsimp only); exact ⟨(HBx.out.keep BC.out).c0, (HBx.out.keep BC.out).c1, (HBx.out.keep BC.out).c2, (HBx.out.keep BC.out).c3, (HBx.out.keep BC.out).c4, (HBx.out.keep BC.out).c5⟩) (fun hHeld => ?_)
              clear hK K
              (try simp only [Act.put, List.setIfInBounds_toArray, List.set_cons_zero, List.set_cons_succ])
              refine' take_call 7 ?hi64 (by kernel_rfl) ?hr64
              case hi64 => (simp only [List.getElem?_toArray, List.getElem?_cons_succ, List.getElem?_cons_zero]; rfl)
              intro K hK
              go_simp
              go_at_call 20
              refine (sub_y xy tyAll (sub_top HOKx.out) _ _ _ HOKx.out okAll HLx.out (by decide) (HVx.out.below BC.out) (tyAll_v N0 _)).mono ?_
              rintro e z63 ⟨rfl, hb⟩
              replace BC := Lib.hid (BC.out.trans (hb.mono BC.out.size))
              clear hb
              go_wp2_with fail
              clear hHeld
              refine hK.out _ _ (by (try dsimp only); exact ⟨(HBx.out.keep BC.out).c0, (HBx.out.keep BC.out).c1, (HBx.out.keep BC.out).c2, (HBx.out.keep BC.out).c3, (HBx.out.keep BC.out).c4, (HBx.out.keep BC.out).c5⟩) (fun hHeld => ?_)
              clear hK K
              (try simp only [Act.put, List.setIfInBounds_toArray, List.set_cons_zero, List.set_cons_succ])
              refine' take_any 8 52 (v := _) ?hi65 ?hd65 (by kernel_rfl) (by kernel_rfl) (by kernel_rfl) (fun _ _ _ h => h) ?hy65 hHeld ?hr65
              case hi65 => (simp only [List.getElem?_toArray, List.getElem?_cons_succ, List.getElem?_cons_zero]; rfl)
              case hd65 => rfl
              case hy65 =>
                refine' Or.inl ⟨?hw65, ?hx65⟩
                case hw65 => rfl
                case hx65 => (intro w hSw; (try dsimp only at hSw); go_simp; (try with_reducible rfl))
              (try simp only [Act.put, List.setIfInBounds_toArray, List.set_cons_zero, List.set_cons_succ])
              refine' take_any 9 53 (v := _) ?hi66 ?hd66 (by kernel_rfl) (by kernel_rfl) (by kernel_rfl) (fun _ _ _ h => h) ?hy66 hHeld ?hr66
              case hi66 => (simp only [List.getElem?_toArray, List.getElem?_cons_succ, List.getElem?_cons_zero]; rfl)
              case hd66 => rfl
              case hy66 =>
                refine' Or.inl ⟨?hw66, ?hx66⟩
                case hw66 => rfl
                case hx66 => (intro w hSw; (try dsimp only at hSw); go_simp; (try with_reducible rfl))
              (try simp only [Act.put, List.setIfInBounds_toArray, List.set_cons_zero, List.set_cons_succ])
              refine' take_any 10 54 (v := _) ?hi67 ?hd67 (by kernel_rfl) (by kernel_rfl) (by kernel_rfl) (fun _ _ _ h => h) ?hy67 hHeld ?hr67
              case hi67 => (simp only [List.getElem?_toArray, List.getElem?_cons_succ, List.getElem?_cons_zero]; rfl)
              case hd67 => rfl
              case hy67 =>
                refine' Or.inl ⟨?hw67, ?hx67⟩
                case hw67 => rfl
                case hx67 => (intro w hSw; (try dsimp only at hSw); go_simp; (try with_reducible rfl))
              (try simp only [Act.put, List.setIfInBounds_toArray, List.set_cons_zero, List.set_cons_succ])
              refine' take_any 11 55 (v := _) ?hi68 ?hd68 (by kernel_rfl) (by kernel_rfl) (by kernel_rfl) (fun _ _ _ h => h) ?hy68 hHeld ?hr68
              case hi68 => (simp only [List.getElem?_toArray, List.getElem?_cons_succ, List.getElem?_cons_zero]; rfl)
              case hd68 => rfl
              case hy68 =>
                refine' Or.inl ⟨?hw68, ?hx68⟩
                case hw68 => rfl
                case hx68 => (intro w hSw; (try dsimp only at hSw); go_simp; (try with_reducible rfl))
              (try simp only [Act.put, List.setIfInBounds_toArray, List.set_cons_zero, List.set_cons_succ])
              refine' take_any 12 56 (v := _) ?hi69 ?hd69 (by kernel_rfl) (by kernel_rfl) (by kernel_rfl) (fun _ _ _ h => h) ?hy69 hHeld ?hr69
              case hi69 => (simp only [List.getElem?_toArray, List.getElem?_cons_succ, List.getElem?_cons_zero]; rfl)
              case hd69 => rfl
              case hy69 =>
                refine' Or.inl ⟨?hw69, ?hx69⟩
                case hw69 => rfl
                case hx69 => (intro w hSw; (try dsimp only at hSw); go_simp; (try with_reducible rfl))
              (try simp only [Act.put, List.setIfInBounds_toArray, List.set_cons_zero, List.set_cons_succ])
              refine' take_call 13 ?hi71 (by kernel_rfl) ?hr71
              case hi71 => (simp only [List.getElem?_toArray, List.getElem?_cons_succ, List.getElem?_cons_zero]; rfl)
              intro K hK
              go_simp
              go_at_call 20
              refine (sub_y ty0 xy (sub_bot HOKx.out) _ _ _ ok0 HOKx.out (by decide) HLx.out (ty0_v N0 _) (HVx.out.below BC.out)).mono ?_
              rintro e z70 ⟨rfl, hb⟩
              replace BC := Lib.hid (BC.out.trans (hb.mono BC.out.size))
              clear hb
              go_wp2_with fail
              clear hHeld
              refine hK.out _ _ (by (try dsimp only); exact ⟨(HBx.out.keep BC.out).c0, (HBx.out.keep BC.out).c1, (HBx.out.keep BC.out).c2, (HBx.out.keep BC.out).c3, (HBx.out.keep BC.out).c4, (HBx.out.keep BC.out).c5⟩) (fun hHeld => ?_)
              clear hK K
              (try simp only [Act.put, List.setIfInBounds_toArray, List.set_cons_zero, List.set_cons_succ])
              refine' take_any 14 58 (v := _) ?hi72 ?hd72 (by kernel_rfl) (by kernel_rfl) (by kernel_rfl) (fun _ _ _ h => h) ?hy72 hHeld ?hr72
              case hi72 => (simp only [List.getElem?_toArray, List.getElem?_cons_succ, List.getElem?_cons_zero]; rfl)
              case hd72 => rfl
              case hy72 =>
                refine' Or.inl ⟨?hw72, ?hx72⟩
                case hw72 => rfl
                case hx72 => (intro w hSw; (try dsimp only at hSw); go_simp; (try with_reducible rfl))
              (try simp only [Act.put, List.setIfInBounds_toArray, List.set_cons_zero, List.set_cons_succ])
              refine' take_any 15 59 (v := _) ?hi73 ?hd73 (by kernel_rfl) (by kernel_rfl) (by kernel_rfl) (fun _ _ _ h => h) ?hy73 hHeld ?hr73
              case hi73 => (simp only [List.getElem?_toArray, List.getElem?_cons_succ, List.getElem?_cons_zero]; rfl)
              case hd73 => rfl
              case hy73 =>
                refine' Or.inl ⟨?hw73, ?hx73⟩
                case hw73 => rfl
                case hx73 => (intro w hSw; (try dsimp only at hSw); go_simp; (try with_reducible rfl))
              (try simp only [Act.put, List.setIfInBounds_toArray, List.set_cons_zero, List.set_cons_succ])
              refine wpAnyH_done (by kernel_rfl) ?_ _
              refine NoPanic.normal ?_
              replace HBx := Lib.hid (HBx.out.keep BC.out)
              replace HVx := Lib.hid (HVx.out.below BC.out)
              replace HBy := Lib.hid (HBy.out.keep BC.out)
              replace HVy := Lib.hid (HVy.out.below BC.out)
              replace HBz := Lib.hid (HBz.out.keep BC.out)
              replace HVz := Lib.hid (HVz.out.below BC.out)
              replace HFN := Lib.hid (HFN.out.below BC.out)
              replace HB := Lib.hid (HB.out.trans (BC.out.mono HB.out.size))
              clear BC
              have x0 := HBx.out.c0
              have x1 := HBx.out.c1
              have x2 := HBx.out.c2
              have x3 := HBx.out.c3
              have x4 := HBx.out.c4
              have x5 := HBx.out.c5
              have y0 := HBy.out.c0
              have y1 := HBy.out.c1
              have y2 := HBy.out.c2
              have y3 := HBy.out.c3
              have y4 := HBy.out.c4
              have y5 := HBy.out.c5
              go_wp2_with fail
              refine (sub_l xy yy _ _ z70 HOKx.out HOKy.out HLx.out HLy.out HVx.out HVy.out).mono ?_
              rintro e w11 ⟨rfl, hb⟩
              replace HBx := Lib.hid (HBx.out.keep hb)
              replace HVx := Lib.hid (HVx.out.below hb)
              replace HBy := Lib.hid (HBy.out.keep hb)
              replace HVy := Lib.hid (HVy.out.below hb)
              replace HBz := Lib.hid (HBz.out.keep hb)
              replace HVz := Lib.hid (HVz.out.below hb)
              replace HFN := Lib.hid (HFN.out.below hb)
              replace HB := Lib.hid (HB.out.trans (hb.mono HB.out.size))
              clear hb
              clear x0 x1 x2 x3 x4 x5 y0 y1 y2 y3 y4 y5
              obtain ⟨s1, h1⟩ : ∃ b, b = subT xy yy := ⟨_, rfl⟩
              rw [← h1]
              have H1 := Lib.hid h1
              clear h1
              cases s1 with
              | false =>
                go_wp2
                go_ret
                exact ⟨rfl, HB.out⟩
              | true =>
                have y0 := HBy.out.c0
                have y1 := HBy.out.c1
                have y2 := HBy.out.c2
                have y3 := HBy.out.c3
                have y4 := HBy.out.c4
                have y5 := HBy.out.c5
                have z0 := HBz.out.c0
                have z1 := HBz.out.c1
                have z2 := HBz.out.c2
                have z3 := HBz.out.c3
                have z4 := HBz.out.c4
                have z5 := HBz.out.c5
                go_wp2_with fail
                refine (sub_l yy zy _ _ w11 HOKy.out HOKz.out HLy.out HLz.out HVy.out HVz.out).mono ?_
                rintro e w12 ⟨rfl, hb⟩
                replace HBx := Lib.hid (HBx.out.keep hb)
                replace HVx := Lib.hid (HVx.out.below hb)
                replace HBy := Lib.hid (HBy.out.keep hb)
                replace HVy := Lib.hid (HVy.out.below hb)
                replace HBz := Lib.hid (HBz.out.keep hb)
                replace HVz := Lib.hid (HVz.out.below hb)
                replace HFN := Lib.hid (HFN.out.below hb)
                replace HB := Lib.hid (HB.out.trans (hb.mono HB.out.size))
                clear hb
                clear y0 y1 y2 y3 y4 y5 z0 z1 z2 z3 z4 z5
                obtain ⟨s2, h2⟩ : ∃ b, b = subT yy zy := ⟨_, rfl⟩
                rw [← h2]
                have H2 := Lib.hid h2
                clear h2
                cases s2 with
                | false =>
                  go_wp2
                  go_ret
                  exact ⟨rfl, HB.out⟩
                | true =>
                  have x0 := HBx.out.c0
                  have x1 := HBx.out.c1
                  have x2 := HBx.out.c2
                  have x3 := HBx.out.c3
                  have x4 := HBx.out.c4
                  have x5 := HBx.out.c5
                  have z0 := HBz.out.c0
                  have z1 := HBz.out.c1
                  have z2 := HBz.out.c2
                  have z3 := HBz.out.c3
                  have z4 := HBz.out.c4
                  have z5 := HBz.out.c5
                  go_wp2_with fail
                  refine (sub_y xy zy (sub_trans xy yy zy HOKx.out HOKy.out HOKz.out H1.out.symm H2.out.symm) _ _ w12 HOKx.out HOKz.out HLx.out HLz.out HVx.out HVz.out).mono ?_
                  rintro e w13 ⟨rfl, hb⟩
                  replace HBx := Lib.hid (HBx.out.keep hb)
                  replace HVx := Lib.hid (HVx.out.below hb)
                  replace HBy := Lib.hid (HBy.out.keep hb)
                  replace HVy := Lib.hid (HVy.out.below hb)
                  replace HBz := Lib.hid (HBz.out.keep hb)
                  replace HVz := Lib.hid (HVz.out.below hb)
                  replace HFN := Lib.hid (HFN.out.below hb)
                  replace HB := Lib.hid (HB.out.trans (hb.mono HB.out.size))
                  clear hb
                  clear x0 x1 x2 x3 x4 x5 z0 z1 z2 z3 z4 z5
                  go_wp2
                  go_ret
                  exact ⟨rfl, HB.out⟩
end Go.Proofs.YtdjhjapfmbcmlaaDoor
