import Derived.Test.YtdjhjapfmbcmlaaDoorTyLw
import Derived.Test.YtdjhjapfmbcmlaaDoorTyG
import Derived.Test.YtdjhjapfmbcmlaaDoorTyJd
import Derived.Deep.RegionHeld3
namespace Go.Proofs.YtdjhjapfmbcmlaaDoor
open Go.RowKit

theorem right_e (x : Ty) (z : Bool) (hz : z = deepF 20 x) (vx : Value) (w : World) (hk : szT x ≤ 300) (hrng : RngT x) (hx : TyVN N0 w vx x) : Calls Tryd.prog 10 #[vx] w fun e w' => e = .returned (.bool z) ∧ Below w.heap.size w w' := by
  rw [hz]; exact right_l x vx w hk hrng hx
theorem rright_e (x : Ty) (z : Bool) (hz : z = rightT x) (vx : Value) (w : World) (hx : TyVN N0 w vx x) : Calls Tryd.prog 11 #[vx] w fun e w' => e = .returned (.bool z) ∧ Below w.heap.size w w' := by
  rw [hz]; exact right_any x vx w hx.v
theorem same_e (x y : Ty) (z : Bool) (hz : z = sameT x y) (vx vy : Value) (w : World) (hk : szT x ≤ 300) (hx : TyVN N0 w vx x) (hy : TyVN N0 w vy y) : Calls Tryd.prog 12 #[vx, vy] w fun e w' => e = .returned (.bool z) ∧ Below w.heap.size w w' := by
  rw [hz]; exact same_p x y vx vy w (by omega) hx.v hy.v
theorem rsame_e (x y : Ty) (z : Bool) (hz : z = sameT x y) (vx vy : Value) (w : World) (hx : TyVN N0 w vx x) (hy : TyVN N0 w vy y) : Calls Tryd.prog 13 #[vx, vy] w fun e w' => e = .returned (.bool z) ∧ Below w.heap.size w w' := by
  rw [hz]; exact same_any x y vx vy w hx.v hy.v
theorem sub_e (x y : Ty) (z : Bool) (hz : z = subT x y) (vx vy : Value) (w : World) (okx : okTy x) (oky : okTy y) (hx' : szT x ≤ 300) (hy' : szT y ≤ 300) (hx : TyVN N0 w vx x) (hy : TyVN N0 w vy y) : Calls Tryd.prog 20 #[vx, vy] w fun e w' => e = .returned (.bool z) ∧ Below w.heap.size w w' := by
  rw [hz]; exact sub_l x y vx vy w okx oky hx' hy' hx hy
theorem rsub_e (x y : Ty) (z : Bool) (hz : z = subT x y) (vx vy : Value) (w : World) (okx : okTy x) (oky : okTy y) (hx : TyVN N0 w vx x) (hy : TyVN N0 w vy y) : Calls Tryd.prog 21 #[vx, vy] w fun e w' => e = .returned (.bool z) ∧ Below w.heap.size w w' := by
  rw [hz]; exact sub_any _ x y vx vy w (Nat.le_refl _) okx oky hx.v hy.v
theorem rjoin_any (x y : Ty) (vx vy : Value) (w : World) (okx : okTy x) (oky : okTy y) (hx : TyVN N0 w vx x) (hy : TyVN N0 w vy y) : Calls Tryd.prog 19 #[vx, vy] w (TyPost N0 (joinT x y) w) :=
  joinref_any _ N0 x y vx vy w n0 (Nat.le_refl _) okx oky hx hy

set_option maxRecDepth 100000 in
set_option maxHeartbeats 32000000 in
/-- whether types may be, are the same, are of each other, and what is of both -/
theorem relate_law (xy yy : Ty) (vx vy : Value) (w : World) (hFN : FN w) (rx : RngT xy) (hx : TyVN N0 w vx xy) (ry : RngT yy) (hy : TyVN N0 w vy yy) :
    Calls Tryd.prog 3 #[vx, vy] w fun e w' => e = .returned (.bool true) ∧ Below w.heap.size w w' := by
  obtain ⟨xa, xf, xp, xpa, xnp, xpc, xk, xfa, xnf, xfc, rfl⟩ := (hx : TyVN N0 w vx xy).shape
  have HXx := Lib.hid hx
  obtain ⟨ya, yf, yp, ypa, ynp, ypc, yk, yfa, ynf, yfc, rfl⟩ := (hy : TyVN N0 w vy yy).shape
  have HXy := Lib.hid hy
  have HFN := Lib.hid hFN
  have HB := Lib.hid (Below.refl w.heap.size w)
  clear hFN hx hy
  have HLx := Lib.hid (light_sz (t := xy))
  have HRx := Lib.hid rx
  have HLy := Lib.hid (light_sz (t := yy))
  have HRy := Lib.hid ry
  have HTx := Lib.hid (light_right (t := xy))
  have HTy := Lib.hid (light_right (t := yy))
  clear rx ry
  obtain ⟨W1, hW1⟩ : ∃ W, W = w.alloc (.cells #[.bool xa, .int .i64 xf, .int .i64 xp, (.slice xpa xnp xpc), .int .i64 xk, (.slice xfa xnf xfc)] 24) := ⟨_, rfl⟩
  have hb : Below w.heap.size w W1 := by rw [hW1]; exact (Below.refl _ _).alloc (Nat.le_refl _) _
  have HHW1 := Lib.hid hW1
  clear hW1
  have HBx := Lib.hid (show BoxAt W1 w.heap.size xa xf xp (.slice xpa xnp xpc) xk (.slice xfa xnf xfc) by rw [HHW1.out]; exact BoxAt.made _ _ _ _ _ _ _)
  have HSW1 := Lib.hid (show W1.heap.size = w.heap.size + 1 by rw [HHW1.out, alloc_hs])
  have HVx := Lib.hid (HXx.out.below hb)
  clear HXx
  replace HFN := Lib.hid (HFN.out.below hb)
  replace HB := Lib.hid (HB.out.trans (hb.mono HB.out.size))
  clear hb
  replace HXy := Lib.hid (HXy.out.below (show Below w.heap.size w W1 by rw [HHW1.out]; exact (Below.refl _ _).alloc (Nat.le_refl _) _))
  obtain ⟨W2, hW2⟩ : ∃ W, W = W1.alloc (.cells #[.bool ya, .int .i64 yf, .int .i64 yp, (.slice ypa ynp ypc), .int .i64 yk, (.slice yfa ynf yfc)] 24) := ⟨_, rfl⟩
  have hb : Below W1.heap.size W1 W2 := by rw [hW2]; exact (Below.refl _ _).alloc (Nat.le_refl _) _
  have HHW2 := Lib.hid hW2
  clear hW2
  replace HBx := Lib.hid (HBx.out.keep hb)
  replace HVx := Lib.hid (HVx.out.below hb)
  have HBy := Lib.hid (show BoxAt W2 W1.heap.size ya yf yp (.slice ypa ynp ypc) yk (.slice yfa ynf yfc) by rw [HHW2.out]; exact BoxAt.made _ _ _ _ _ _ _)
  replace HBy := Lib.hid (by have h := HBy.out; rw [HSW1.out] at h; exact h)
  have HSW2 := Lib.hid (show W2.heap.size = w.heap.size + 1 + 1 by rw [HHW2.out, alloc_hs, HSW1.out])
  have HVy := Lib.hid (HXy.out.below hb)
  clear HXy
  replace HFN := Lib.hid (HFN.out.below hb)
  replace HB := Lib.hid (HB.out.trans (hb.mono HB.out.size))
  clear hb
  have HTW2 := HHW2.out
  rw [HHW1.out] at HTW2
  have HUW2 := Lib.hid HTW2
  clear HTW2
  go_enter Tryd.func3, Tryd.ntmps3
  go_wp2_with fail
  rw [← HUW2.out]
  refine (awake_p W2 HFN.out).mono ?_
  rintro e w3 ⟨rfl, hb⟩
  replace HBx := Lib.hid (HBx.out.keep hb)
  replace HVx := Lib.hid (HVx.out.below hb)
  replace HBy := Lib.hid (HBy.out.keep hb)
  replace HVy := Lib.hid (HVy.out.below hb)
  replace HFN := Lib.hid (HFN.out.below hb)
  replace HB := Lib.hid (HB.out.trans (hb.mono HB.out.size))
  clear hb
  have x0 := HBx.out.c0
  have x1 := HBx.out.c1
  have x2 := HBx.out.c2
  have x3 := HBx.out.c3
  have x4 := HBx.out.c4
  have x5 := HBx.out.c5
  go_wp2_with fail
  refine (light_any xy _ w3 HVx.out.v).mono ?_
  rintro e w4 ⟨rfl, hb⟩
  replace HBx := Lib.hid (HBx.out.keep hb)
  replace HVx := Lib.hid (HVx.out.below hb)
  replace HBy := Lib.hid (HBy.out.keep hb)
  replace HVy := Lib.hid (HVy.out.below hb)
  replace HFN := Lib.hid (HFN.out.below hb)
  replace HB := Lib.hid (HB.out.trans (hb.mono HB.out.size))
  clear hb
  clear x0 x1 x2 x3 x4 x5
  have y0 := HBy.out.c0
  have y1 := HBy.out.c1
  have y2 := HBy.out.c2
  have y3 := HBy.out.c3
  have y4 := HBy.out.c4
  have y5 := HBy.out.c5
  go_wp2_with fail
  refine (light_any yy _ w4 HVy.out.v).mono ?_
  rintro e w5 ⟨rfl, hb⟩
  replace HBx := Lib.hid (HBx.out.keep hb)
  replace HVx := Lib.hid (HVx.out.below hb)
  replace HBy := Lib.hid (HBy.out.keep hb)
  replace HVy := Lib.hid (HVy.out.below hb)
  replace HFN := Lib.hid (HFN.out.below hb)
  replace HB := Lib.hid (HB.out.trans (hb.mono HB.out.size))
  clear hb
  clear y0 y1 y2 y3 y4 y5
  obtain ⟨lx, hlx⟩ : ∃ b, b = lightT xy := ⟨_, rfl⟩
  rw [← hlx]
  replace HLx := Lib.hid (show lx = true → szT xy < 120 by rw [hlx]; exact HLx.out)
  replace HTx := Lib.hid (show lx = true → rightT xy = deepF 20 xy by rw [hlx]; exact HTx.out)
  clear hlx
  obtain ⟨ly, hly⟩ : ∃ b, b = lightT yy := ⟨_, rfl⟩
  rw [← hly]
  replace HLy := Lib.hid (show ly = true → szT yy < 120 by rw [hly]; exact HLy.out)
  replace HTy := Lib.hid (show ly = true → rightT yy = deepF 20 yy by rw [hly]; exact HTy.out)
  clear hly
  cases lx with
  | false =>
    go_wp2
    go_ret
    exact ⟨rfl, HB.out⟩
  | true =>
    cases ly with
    | false =>
      go_wp2
      go_ret
      exact ⟨rfl, HB.out⟩
    | true =>
      replace HLx := Lib.hid (Nat.le_trans (Nat.le_of_lt (HLx.out rfl)) (show 120 ≤ 300 by decide))
      replace HLy := Lib.hid (Nat.le_trans (Nat.le_of_lt (HLy.out rfl)) (show 120 ≤ 300 by decide))
      have HRA : Hid (rightT xy = deepF 20 xy) := Lib.hid (HTx.out rfl)
      have HRB : Hid (rightT yy = deepF 20 yy) := Lib.hid (HTy.out rfl)
      obtain ⟨z, hz⟩ : ∃ b, b = deepF 20 xy := ⟨_, rfl⟩
      obtain ⟨sm, hsm⟩ : ∃ b, b = sameT xy yy := ⟨_, rfl⟩
      have HZ := Lib.hid hz
      have HSM := Lib.hid hsm
      clear hz hsm
      go_upto_region 6 with fail
      go_cut [44] from 31 to 43 (fun v wx => v = .bool false ∧ Below w5.heap.size w5 wx)
      case first =>
        rename_i hR hM
        cases z with
        | false =>
          cases sm with
          | false =>
            have BC := Lib.hid (show Below w5.heap.size w5 w5.drew from (Below.refl _ _).drew)
            (try dsimp only [List.append])
            refine wp_region_noPanic ?_
            refine wp_region_held_drew (S := (fun w' => w'.cell? ⟨w.heap.size, 0, none⟩ = some (.bool xa) ∧ w'.cell? ⟨w.heap.size, 1, none⟩ = some (.int .i64 xf) ∧ w'.cell? ⟨w.heap.size, 2, none⟩ = some (.int .i64 xp) ∧ w'.cell? ⟨w.heap.size, 3, none⟩ = some ((.slice xpa xnp xpc)) ∧ w'.cell? ⟨w.heap.size, 4, none⟩ = some (.int .i64 xk) ∧ w'.cell? ⟨w.heap.size, 5, none⟩ = some ((.slice xfa xnf xfc)) ∧ w'.cell? ⟨w.heap.size + 1, 0, none⟩ = some (.bool ya) ∧ w'.cell? ⟨w.heap.size + 1, 1, none⟩ = some (.int .i64 yf) ∧ w'.cell? ⟨w.heap.size + 1, 2, none⟩ = some (.int .i64 yp) ∧ w'.cell? ⟨w.heap.size + 1, 3, none⟩ = some ((.slice ypa ynp ypc)) ∧ w'.cell? ⟨w.heap.size + 1, 4, none⟩ = some (.int .i64 yk) ∧ w'.cell? ⟨w.heap.size + 1, 5, none⟩ = some ((.slice yfa ynf yfc)))) (by kernel_rfl) (by (try dsimp only); exact ⟨(HBx.out.keep BC.out).c0, (HBx.out.keep BC.out).c1, (HBx.out.keep BC.out).c2, (HBx.out.keep BC.out).c3, (HBx.out.keep BC.out).c4, (HBx.out.keep BC.out).c5, (HBy.out.keep BC.out).c0, (HBy.out.keep BC.out).c1, (HBy.out.keep BC.out).c2, (HBy.out.keep BC.out).c3, (HBy.out.keep BC.out).c4, (HBy.out.keep BC.out).c5⟩) (fun hHeld => ?_)
            refine' take_any 0 31 (v := _) ?hi1 ?hd1 (by kernel_rfl) (by kernel_rfl) (by kernel_rfl) (fun _ _ _ h => h) ?hy1 hHeld ?hr1
            case hi1 => (simp only [List.getElem?_toArray, List.getElem?_cons_zero]; rfl)
            case hd1 => rfl
            case hy1 =>
              refine' Or.inl ⟨?hw1, ?hx1⟩
              case hw1 => rfl
              case hx1 => (intro w hSw; (try dsimp only at hSw); go_simp; (try with_reducible rfl))
            (try simp only [Act.put, List.setIfInBounds_toArray, List.set_cons_zero, List.set_cons_succ])
            refine' take_any 2 33 (v := _) ?hi2 ?hd2 (by kernel_rfl) (by kernel_rfl) (by kernel_rfl) (fun _ _ _ h => h) ?hy2 hHeld ?hr2
            case hi2 => (simp only [List.getElem?_toArray, List.getElem?_cons_succ, List.getElem?_cons_zero]; rfl)
            case hd2 => rfl
            case hy2 =>
              refine' Or.inl ⟨?hw2, ?hx2⟩
              case hw2 => rfl
              case hx2 => (intro w hSw; (try dsimp only at hSw); go_simp; (try with_reducible rfl))
            (try simp only [Act.put, List.setIfInBounds_toArray, List.set_cons_zero, List.set_cons_succ])
            refine' take_call 1 ?hi4 (by kernel_rfl) ?hr4
            case hi4 => (simp only [List.getElem?_toArray, List.getElem?_cons_succ, List.getElem?_cons_zero]; rfl)
            intro K hK
            go_simp
            go_at_call 10
            refine (right_e xy _ HZ.out _ _ HLx.out HRx.out (HVx.out.below BC.out)).mono ?_
            rintro e z3 ⟨rfl, hb⟩
            replace BC := Lib.hid (BC.out.trans (hb.mono BC.out.size))
            clear hb
            go_wp2_with fail
            clear hHeld
            refine hK.out _ _ (by (try dsimp only); exact ⟨(HBx.out.keep BC.out).c0, (HBx.out.keep BC.out).c1, (HBx.out.keep BC.out).c2, (HBx.out.keep BC.out).c3, (HBx.out.keep BC.out).c4, (HBx.out.keep BC.out).c5, (HBy.out.keep BC.out).c0, (HBy.out.keep BC.out).c1, (HBy.out.keep BC.out).c2, (HBy.out.keep BC.out).c3, (HBy.out.keep BC.out).c4, (HBy.out.keep BC.out).c5⟩) (fun hHeld => ?_)
            clear hK K
            (try simp only [Act.put, List.setIfInBounds_toArray, List.set_cons_zero, List.set_cons_succ])
            refine' take_call 3 ?hi6 (by kernel_rfl) ?hr6
            case hi6 => (simp only [List.getElem?_toArray, List.getElem?_cons_succ, List.getElem?_cons_zero]; rfl)
            intro K hK
            go_simp
            go_at_call 11
            refine (rright_e xy _ (HRA.out.trans HZ.out.symm).symm _ _ (HVx.out.below BC.out)).mono ?_
            rintro e z5 ⟨rfl, hb⟩
            replace BC := Lib.hid (BC.out.trans (hb.mono BC.out.size))
            clear hb
            go_wp2_with fail
            clear hHeld
            refine hK.out _ _ (by (try dsimp only); exact ⟨(HBx.out.keep BC.out).c0, (HBx.out.keep BC.out).c1, (HBx.out.keep BC.out).c2, (HBx.out.keep BC.out).c3, (HBx.out.keep BC.out).c4, (HBx.out.keep BC.out).c5, (HBy.out.keep BC.out).c0, (HBy.out.keep BC.out).c1, (HBy.out.keep BC.out).c2, (HBy.out.keep BC.out).c3, (HBy.out.keep BC.out).c4, (HBy.out.keep BC.out).c5⟩) (fun hHeld => ?_)
            clear hK K
            (try simp only [Act.put, List.setIfInBounds_toArray, List.set_cons_zero, List.set_cons_succ])
            refine' take_any 4 35 (v := _) ?hi7 ?hd7 (by kernel_rfl) (by kernel_rfl) (by kernel_rfl) (fun _ _ _ h => h) ?hy7 hHeld ?hr7
            case hi7 => (simp only [List.getElem?_toArray, List.getElem?_cons_succ, List.getElem?_cons_zero]; rfl)
            case hd7 => rfl
            case hy7 =>
              refine' Or.inl ⟨?hw7, ?hx7⟩
              case hw7 => rfl
              case hx7 => (intro w hSw; (try dsimp only at hSw); go_simp; (try with_reducible rfl))
            (try simp only [Act.put, List.setIfInBounds_toArray, List.set_cons_zero, List.set_cons_succ])
            refine' take_any 5 36 (v := _) ?hi8 ?hd8 (by kernel_rfl) (by kernel_rfl) (by kernel_rfl) (fun _ _ _ h => h) ?hy8 hHeld ?hr8
            case hi8 => (simp only [List.getElem?_toArray, List.getElem?_cons_succ, List.getElem?_cons_zero]; rfl)
            case hd8 => rfl
            case hy8 =>
              refine' Or.inl ⟨?hw8, ?hx8⟩
              case hw8 => rfl
              case hx8 => (intro w hSw; (try dsimp only at hSw); go_simp; (try with_reducible rfl))
            (try simp only [Act.put, List.setIfInBounds_toArray, List.set_cons_zero, List.set_cons_succ])
            refine' take_any 6 37 (v := _) ?hi9 ?hd9 (by kernel_rfl) (by kernel_rfl) (by kernel_rfl) (fun _ _ _ h => h) ?hy9 hHeld ?hr9
            case hi9 => (simp only [List.getElem?_toArray, List.getElem?_cons_succ, List.getElem?_cons_zero]; rfl)
            case hd9 => rfl
            case hy9 =>
              refine' Or.inl ⟨?hw9, ?hx9⟩
              case hw9 => rfl
              case hx9 => (intro w hSw; (try dsimp only at hSw); go_simp; (try with_reducible rfl))
            (try simp only [Act.put, List.setIfInBounds_toArray, List.set_cons_zero, List.set_cons_succ])
            refine' take_any 7 38 (v := _) ?hi10 ?hd10 (by kernel_rfl) (by kernel_rfl) (by kernel_rfl) (fun _ _ _ h => h) ?hy10 hHeld ?hr10
            case hi10 => (simp only [List.getElem?_toArray, List.getElem?_cons_succ, List.getElem?_cons_zero]; rfl)
            case hd10 => rfl
            case hy10 =>
              refine' Or.inl ⟨?hw10, ?hx10⟩
              case hw10 => rfl
              case hx10 => (intro w hSw; (try dsimp only at hSw); go_simp; (try with_reducible rfl))
            (try simp only [Act.put, List.setIfInBounds_toArray, List.set_cons_zero, List.set_cons_succ])
            refine' take_any 9 40 (v := _) ?hi11 ?hd11 (by kernel_rfl) (by kernel_rfl) (by kernel_rfl) (fun _ _ _ h => h) ?hy11 hHeld ?hr11
            case hi11 => (simp only [List.getElem?_toArray, List.getElem?_cons_succ, List.getElem?_cons_zero]; rfl)
            case hd11 => rfl
            case hy11 =>
              refine' Or.inl ⟨?hw11, ?hx11⟩
              case hw11 => rfl
              case hx11 => (intro w hSw; (try dsimp only at hSw); go_simp; (try with_reducible rfl))
            (try simp only [Act.put, List.setIfInBounds_toArray, List.set_cons_zero, List.set_cons_succ])
            refine' take_any 10 41 (v := _) ?hi12 ?hd12 (by kernel_rfl) (by kernel_rfl) (by kernel_rfl) (fun _ _ _ h => h) ?hy12 hHeld ?hr12
            case hi12 => (simp only [List.getElem?_toArray, List.getElem?_cons_succ, List.getElem?_cons_zero]; rfl)
            case hd12 => rfl
            case hy12 =>
              refine' Or.inl ⟨?hw12, ?hx12⟩
              case hw12 => rfl
              case hx12 => (intro w hSw; (try dsimp only at hSw); go_simp; (try with_reducible rfl))
            (try simp only [Act.put, List.setIfInBounds_toArray, List.set_cons_zero, List.set_cons_succ])
            refine' take_call 8 ?hi14 (by kernel_rfl) ?hr14
            case hi14 => (simp only [List.getElem?_toArray, List.getElem?_cons_succ, List.getElem?_cons_zero]; rfl)
            intro K hK
            go_simp
            go_at_call 12
            refine (same_e xy yy _ HSM.out _ _ _ HLx.out (HVx.out.below BC.out) (HVy.out.below BC.out)).mono ?_
            rintro e z13 ⟨rfl, hb⟩
            replace BC := Lib.hid (BC.out.trans (hb.mono BC.out.size))
            clear hb
            go_wp2_with fail
            clear hHeld
            refine hK.out _ _ (by (try dsimp only); exact ⟨(HBx.out.keep BC.out).c0, (HBx.out.keep BC.out).c1, (HBx.out.keep BC.out).c2, (HBx.out.keep BC.out).c3, (HBx.out.keep BC.out).c4, (HBx.out.keep BC.out).c5, (HBy.out.keep BC.out).c0, (HBy.out.keep BC.out).c1, (HBy.out.keep BC.out).c2, (HBy.out.keep BC.out).c3, (HBy.out.keep BC.out).c4, (HBy.out.keep BC.out).c5⟩) (fun hHeld => ?_)
            clear hK K
            (try simp only [Act.put, List.setIfInBounds_toArray, List.set_cons_zero, List.set_cons_succ])
            refine' take_call 11 ?hi16 (by kernel_rfl) ?hr16
            case hi16 => (simp only [List.getElem?_toArray, List.getElem?_cons_succ, List.getElem?_cons_zero]; rfl)
            intro K hK
            go_simp
            go_at_call 13
            refine (rsame_e xy yy _ HSM.out _ _ _ (HVx.out.below BC.out) (HVy.out.below BC.out)).mono ?_
            rintro e z15 ⟨rfl, hb⟩
            replace BC := Lib.hid (BC.out.trans (hb.mono BC.out.size))
            clear hb
            go_wp2_with fail
            clear hHeld
            refine hK.out _ _ (by (try dsimp only); exact ⟨(HBx.out.keep BC.out).c0, (HBx.out.keep BC.out).c1, (HBx.out.keep BC.out).c2, (HBx.out.keep BC.out).c3, (HBx.out.keep BC.out).c4, (HBx.out.keep BC.out).c5, (HBy.out.keep BC.out).c0, (HBy.out.keep BC.out).c1, (HBy.out.keep BC.out).c2, (HBy.out.keep BC.out).c3, (HBy.out.keep BC.out).c4, (HBy.out.keep BC.out).c5⟩) (fun hHeld => ?_)
            clear hK K
            (try simp only [Act.put, List.setIfInBounds_toArray, List.set_cons_zero, List.set_cons_succ])
            refine' take_any 12 43 (v := _) ?hi17 ?hd17 (by kernel_rfl) (by kernel_rfl) (by kernel_rfl) (fun _ _ _ h => h) ?hy17 hHeld ?hr17
            case hi17 => (simp only [List.getElem?_toArray, List.getElem?_cons_succ, List.getElem?_cons_zero]; rfl)
            case hd17 => rfl
            case hy17 =>
              refine' Or.inl ⟨?hw17, ?hx17⟩
              case hw17 => rfl
              case hx17 => (intro w hSw; (try dsimp only at hSw); go_simp; (try with_reducible rfl))
            (try simp only [Act.put, List.setIfInBounds_toArray, List.set_cons_zero, List.set_cons_succ])
            refine' take_any 13 44 (v := _) ?hi18 ?hd18 (by kernel_rfl) (by kernel_rfl) (by kernel_rfl) (fun _ _ _ h => h) ?hy18 hHeld ?hr18
            case hi18 => (simp only [List.getElem?_toArray, List.getElem?_cons_succ, List.getElem?_cons_zero]; rfl)
            case hd18 => rfl
            case hy18 =>
              refine' Or.inl ⟨?hw18, ?hx18⟩
              case hw18 => rfl
              case hx18 => (intro w hSw; (try dsimp only at hSw); go_simp; (try with_reducible rfl))
            (try simp only [Act.put, List.setIfInBounds_toArray, List.set_cons_zero, List.set_cons_succ])
            refine wpAnyH_done (by kernel_rfl) ?_ _
            refine NoPanic.normal ?_
            refine hM _ _ (Met.intro (hR _ _ ?_))
            (repeat apply Exists.intro)
            exact ⟨⟨rfl, BC.out⟩, rfl⟩
          | true =>
            have BC := Lib.hid (show Below w5.heap.size w5 w5.drew from (Below.refl _ _).drew)
            (try dsimp only [List.append])
            refine wp_region_noPanic ?_
            refine wp_region_held_drew (S := (fun w' => w'.cell? ⟨w.heap.size, 0, none⟩ = some (.bool xa) ∧ w'.cell? ⟨w.heap.size, 1, none⟩ = some (.int .i64 xf) ∧ w'.cell? ⟨w.heap.size, 2, none⟩ = some (.int .i64 xp) ∧ w'.cell? ⟨w.heap.size, 3, none⟩ = some ((.slice xpa xnp xpc)) ∧ w'.cell? ⟨w.heap.size, 4, none⟩ = some (.int .i64 xk) ∧ w'.cell? ⟨w.heap.size, 5, none⟩ = some ((.slice xfa xnf xfc)) ∧ w'.cell? ⟨w.heap.size + 1, 0, none⟩ = some (.bool ya) ∧ w'.cell? ⟨w.heap.size + 1, 1, none⟩ = some (.int .i64 yf) ∧ w'.cell? ⟨w.heap.size + 1, 2, none⟩ = some (.int .i64 yp) ∧ w'.cell? ⟨w.heap.size + 1, 3, none⟩ = some ((.slice ypa ynp ypc)) ∧ w'.cell? ⟨w.heap.size + 1, 4, none⟩ = some (.int .i64 yk) ∧ w'.cell? ⟨w.heap.size + 1, 5, none⟩ = some ((.slice yfa ynf yfc)))) (by kernel_rfl) (by (try dsimp only); exact ⟨(HBx.out.keep BC.out).c0, (HBx.out.keep BC.out).c1, (HBx.out.keep BC.out).c2, (HBx.out.keep BC.out).c3, (HBx.out.keep BC.out).c4, (HBx.out.keep BC.out).c5, (HBy.out.keep BC.out).c0, (HBy.out.keep BC.out).c1, (HBy.out.keep BC.out).c2, (HBy.out.keep BC.out).c3, (HBy.out.keep BC.out).c4, (HBy.out.keep BC.out).c5⟩) (fun hHeld => ?_)
            refine' take_any 0 31 (v := _) ?hi19 ?hd19 (by kernel_rfl) (by kernel_rfl) (by kernel_rfl) (fun _ _ _ h => h) ?hy19 hHeld ?hr19
            case hi19 => (simp only [List.getElem?_toArray, List.getElem?_cons_zero]; rfl)
            case hd19 => rfl
            case hy19 =>
              refine' Or.inl ⟨?hw19, ?hx19⟩
              case hw19 => rfl
              case hx19 => (intro w hSw; (try dsimp only at hSw); go_simp; (try with_reducible rfl))
            (try simp only [Act.put, List.setIfInBounds_toArray, List.set_cons_zero, List.set_cons_succ])
            refine' take_any 2 33 (v := _) ?hi20 ?hd20 (by kernel_rfl) (by kernel_rfl) (by kernel_rfl) (fun _ _ _ h => h) ?hy20 hHeld ?hr20
            case hi20 => (simp only [List.getElem?_toArray, List.getElem?_cons_succ, List.getElem?_cons_zero]; rfl)
            case hd20 => rfl
            case hy20 =>
              refine' Or.inl ⟨?hw20, ?hx20⟩
              case hw20 => rfl
              case hx20 => (intro w hSw; (try dsimp only at hSw); go_simp; (try with_reducible rfl))
            (try simp only [Act.put, List.setIfInBounds_toArray, List.set_cons_zero, List.set_cons_succ])
            refine' take_call 1 ?hi22 (by kernel_rfl) ?hr22
            case hi22 => (simp only [List.getElem?_toArray, List.getElem?_cons_succ, List.getElem?_cons_zero]; rfl)
            intro K hK
            go_simp
            go_at_call 10
            refine (right_e xy _ HZ.out _ _ HLx.out HRx.out (HVx.out.below BC.out)).mono ?_
            rintro e z21 ⟨rfl, hb⟩
            replace BC := Lib.hid (BC.out.trans (hb.mono BC.out.size))
            clear hb
            go_wp2_with fail
            clear hHeld
            refine hK.out _ _ (by (try dsimp only); exact ⟨(HBx.out.keep BC.out).c0, (HBx.out.keep BC.out).c1, (HBx.out.keep BC.out).c2, (HBx.out.keep BC.out).c3, (HBx.out.keep BC.out).c4, (HBx.out.keep BC.out).c5, (HBy.out.keep BC.out).c0, (HBy.out.keep BC.out).c1, (HBy.out.keep BC.out).c2, (HBy.out.keep BC.out).c3, (HBy.out.keep BC.out).c4, (HBy.out.keep BC.out).c5⟩) (fun hHeld => ?_)
            clear hK K
            (try simp only [Act.put, List.setIfInBounds_toArray, List.set_cons_zero, List.set_cons_succ])
            refine' take_call 3 ?hi24 (by kernel_rfl) ?hr24
            case hi24 => (simp only [List.getElem?_toArray, List.getElem?_cons_succ, List.getElem?_cons_zero]; rfl)
            intro K hK
            go_simp
            go_at_call 11
            refine (rright_e xy _ (HRA.out.trans HZ.out.symm).symm _ _ (HVx.out.below BC.out)).mono ?_
            rintro e z23 ⟨rfl, hb⟩
            replace BC := Lib.hid (BC.out.trans (hb.mono BC.out.size))
            clear hb
            go_wp2_with fail
            clear hHeld
            refine hK.out _ _ (by (try dsimp only); exact ⟨(HBx.out.keep BC.out).c0, (HBx.out.keep BC.out).c1, (HBx.out.keep BC.out).c2, (HBx.out.keep BC.out).c3, (HBx.out.keep BC.out).c4, (HBx.out.keep BC.out).c5, (HBy.out.keep BC.out).c0, (HBy.out.keep BC.out).c1, (HBy.out.keep BC.out).c2, (HBy.out.keep BC.out).c3, (HBy.out.keep BC.out).c4, (HBy.out.keep BC.out).c5⟩) (fun hHeld => ?_)
            clear hK K
            (try simp only [Act.put, List.setIfInBounds_toArray, List.set_cons_zero, List.set_cons_succ])
            refine' take_any 4 35 (v := _) ?hi25 ?hd25 (by kernel_rfl) (by kernel_rfl) (by kernel_rfl) (fun _ _ _ h => h) ?hy25 hHeld ?hr25
            case hi25 => (simp only [List.getElem?_toArray, List.getElem?_cons_succ, List.getElem?_cons_zero]; rfl)
            case hd25 => rfl
            case hy25 =>
              refine' Or.inl ⟨?hw25, ?hx25⟩
              case hw25 => rfl
              case hx25 => (intro w hSw; (try dsimp only at hSw); go_simp; (try with_reducible rfl))
            (try simp only [Act.put, List.setIfInBounds_toArray, List.set_cons_zero, List.set_cons_succ])
            refine' take_any 5 36 (v := _) ?hi26 ?hd26 (by kernel_rfl) (by kernel_rfl) (by kernel_rfl) (fun _ _ _ h => h) ?hy26 hHeld ?hr26
            case hi26 => (simp only [List.getElem?_toArray, List.getElem?_cons_succ, List.getElem?_cons_zero]; rfl)
            case hd26 => rfl
            case hy26 =>
              refine' Or.inl ⟨?hw26, ?hx26⟩
              case hw26 => rfl
              case hx26 => (intro w hSw; (try dsimp only at hSw); go_simp; (try with_reducible rfl))
            (try simp only [Act.put, List.setIfInBounds_toArray, List.set_cons_zero, List.set_cons_succ])
            refine' take_any 6 37 (v := _) ?hi27 ?hd27 (by kernel_rfl) (by kernel_rfl) (by kernel_rfl) (fun _ _ _ h => h) ?hy27 hHeld ?hr27
            case hi27 => (simp only [List.getElem?_toArray, List.getElem?_cons_succ, List.getElem?_cons_zero]; rfl)
            case hd27 => rfl
            case hy27 =>
              refine' Or.inl ⟨?hw27, ?hx27⟩
              case hw27 => rfl
              case hx27 => (intro w hSw; (try dsimp only at hSw); go_simp; (try with_reducible rfl))
            (try simp only [Act.put, List.setIfInBounds_toArray, List.set_cons_zero, List.set_cons_succ])
            refine' take_any 7 38 (v := _) ?hi28 ?hd28 (by kernel_rfl) (by kernel_rfl) (by kernel_rfl) (fun _ _ _ h => h) ?hy28 hHeld ?hr28
            case hi28 => (simp only [List.getElem?_toArray, List.getElem?_cons_succ, List.getElem?_cons_zero]; rfl)
            case hd28 => rfl
            case hy28 =>
              refine' Or.inl ⟨?hw28, ?hx28⟩
              case hw28 => rfl
              case hx28 => (intro w hSw; (try dsimp only at hSw); go_simp; (try with_reducible rfl))
            (try simp only [Act.put, List.setIfInBounds_toArray, List.set_cons_zero, List.set_cons_succ])
            refine' take_any 9 40 (v := _) ?hi29 ?hd29 (by kernel_rfl) (by kernel_rfl) (by kernel_rfl) (fun _ _ _ h => h) ?hy29 hHeld ?hr29
            case hi29 => (simp only [List.getElem?_toArray, List.getElem?_cons_succ, List.getElem?_cons_zero]; rfl)
            case hd29 => rfl
            case hy29 =>
              refine' Or.inl ⟨?hw29, ?hx29⟩
              case hw29 => rfl
              case hx29 => (intro w hSw; (try dsimp only at hSw); go_simp; (try with_reducible rfl))
            (try simp only [Act.put, List.setIfInBounds_toArray, List.set_cons_zero, List.set_cons_succ])
            refine' take_any 10 41 (v := _) ?hi30 ?hd30 (by kernel_rfl) (by kernel_rfl) (by kernel_rfl) (fun _ _ _ h => h) ?hy30 hHeld ?hr30
            case hi30 => (simp only [List.getElem?_toArray, List.getElem?_cons_succ, List.getElem?_cons_zero]; rfl)
            case hd30 => rfl
            case hy30 =>
              refine' Or.inl ⟨?hw30, ?hx30⟩
              case hw30 => rfl
              case hx30 => (intro w hSw; (try dsimp only at hSw); go_simp; (try with_reducible rfl))
            (try simp only [Act.put, List.setIfInBounds_toArray, List.set_cons_zero, List.set_cons_succ])
            refine' take_call 8 ?hi32 (by kernel_rfl) ?hr32
            case hi32 => (simp only [List.getElem?_toArray, List.getElem?_cons_succ, List.getElem?_cons_zero]; rfl)
            intro K hK
            go_simp
            go_at_call 12
            refine (same_e xy yy _ HSM.out _ _ _ HLx.out (HVx.out.below BC.out) (HVy.out.below BC.out)).mono ?_
            rintro e z31 ⟨rfl, hb⟩
            replace BC := Lib.hid (BC.out.trans (hb.mono BC.out.size))
            clear hb
            go_wp2_with fail
            clear hHeld
            refine hK.out _ _ (by (try dsimp only); exact ⟨(HBx.out.keep BC.out).c0, (HBx.out.keep BC.out).c1, (HBx.out.keep BC.out).c2, (HBx.out.keep BC.out).c3, (HBx.out.keep BC.out).c4, (HBx.out.keep BC.out).c5, (HBy.out.keep BC.out).c0, (HBy.out.keep BC.out).c1, (HBy.out.keep BC.out).c2, (HBy.out.keep BC.out).c3, (HBy.out.keep BC.out).c4, (HBy.out.keep BC.out).c5⟩) (fun hHeld => ?_)
            clear hK K
            (try simp only [Act.put, List.setIfInBounds_toArray, List.set_cons_zero, List.set_cons_succ])
            refine' take_call 11 ?hi34 (by kernel_rfl) ?hr34
            case hi34 => (simp only [List.getElem?_toArray, List.getElem?_cons_succ, List.getElem?_cons_zero]; rfl)
            intro K hK
            go_simp
            go_at_call 13
            refine (rsame_e xy yy _ HSM.out _ _ _ (HVx.out.below BC.out) (HVy.out.below BC.out)).mono ?_
            rintro e z33 ⟨rfl, hb⟩
            replace BC := Lib.hid (BC.out.trans (hb.mono BC.out.size))
            clear hb
            go_wp2_with fail
            clear hHeld
            refine hK.out _ _ (by (try dsimp only); exact ⟨(HBx.out.keep BC.out).c0, (HBx.out.keep BC.out).c1, (HBx.out.keep BC.out).c2, (HBx.out.keep BC.out).c3, (HBx.out.keep BC.out).c4, (HBx.out.keep BC.out).c5, (HBy.out.keep BC.out).c0, (HBy.out.keep BC.out).c1, (HBy.out.keep BC.out).c2, (HBy.out.keep BC.out).c3, (HBy.out.keep BC.out).c4, (HBy.out.keep BC.out).c5⟩) (fun hHeld => ?_)
            clear hK K
            (try simp only [Act.put, List.setIfInBounds_toArray, List.set_cons_zero, List.set_cons_succ])
            refine' take_any 12 43 (v := _) ?hi35 ?hd35 (by kernel_rfl) (by kernel_rfl) (by kernel_rfl) (fun _ _ _ h => h) ?hy35 hHeld ?hr35
            case hi35 => (simp only [List.getElem?_toArray, List.getElem?_cons_succ, List.getElem?_cons_zero]; rfl)
            case hd35 => rfl
            case hy35 =>
              refine' Or.inl ⟨?hw35, ?hx35⟩
              case hw35 => rfl
              case hx35 => (intro w hSw; (try dsimp only at hSw); go_simp; (try with_reducible rfl))
            (try simp only [Act.put, List.setIfInBounds_toArray, List.set_cons_zero, List.set_cons_succ])
            refine' take_any 13 44 (v := _) ?hi36 ?hd36 (by kernel_rfl) (by kernel_rfl) (by kernel_rfl) (fun _ _ _ h => h) ?hy36 hHeld ?hr36
            case hi36 => (simp only [List.getElem?_toArray, List.getElem?_cons_succ, List.getElem?_cons_zero]; rfl)
            case hd36 => rfl
            case hy36 =>
              refine' Or.inl ⟨?hw36, ?hx36⟩
              case hw36 => rfl
              case hx36 => (intro w hSw; (try dsimp only at hSw); go_simp; (try with_reducible rfl))
            (try simp only [Act.put, List.setIfInBounds_toArray, List.set_cons_zero, List.set_cons_succ])
            refine wpAnyH_done (by kernel_rfl) ?_ _
            refine NoPanic.normal ?_
            refine hM _ _ (Met.intro (hR _ _ ?_))
            (repeat apply Exists.intro)
            exact ⟨⟨rfl, BC.out⟩, rfl⟩
        | true =>
          cases sm with
          | false =>
            have BC := Lib.hid (show Below w5.heap.size w5 w5.drew from (Below.refl _ _).drew)
            (try dsimp only [List.append])
            refine wp_region_noPanic ?_
            refine wp_region_held_drew (S := (fun w' => w'.cell? ⟨w.heap.size, 0, none⟩ = some (.bool xa) ∧ w'.cell? ⟨w.heap.size, 1, none⟩ = some (.int .i64 xf) ∧ w'.cell? ⟨w.heap.size, 2, none⟩ = some (.int .i64 xp) ∧ w'.cell? ⟨w.heap.size, 3, none⟩ = some ((.slice xpa xnp xpc)) ∧ w'.cell? ⟨w.heap.size, 4, none⟩ = some (.int .i64 xk) ∧ w'.cell? ⟨w.heap.size, 5, none⟩ = some ((.slice xfa xnf xfc)) ∧ w'.cell? ⟨w.heap.size + 1, 0, none⟩ = some (.bool ya) ∧ w'.cell? ⟨w.heap.size + 1, 1, none⟩ = some (.int .i64 yf) ∧ w'.cell? ⟨w.heap.size + 1, 2, none⟩ = some (.int .i64 yp) ∧ w'.cell? ⟨w.heap.size + 1, 3, none⟩ = some ((.slice ypa ynp ypc)) ∧ w'.cell? ⟨w.heap.size + 1, 4, none⟩ = some (.int .i64 yk) ∧ w'.cell? ⟨w.heap.size + 1, 5, none⟩ = some ((.slice yfa ynf yfc)))) (by kernel_rfl) (by (try dsimp only); exact ⟨(HBx.out.keep BC.out).c0, (HBx.out.keep BC.out).c1, (HBx.out.keep BC.out).c2, (HBx.out.keep BC.out).c3, (HBx.out.keep BC.out).c4, (HBx.out.keep BC.out).c5, (HBy.out.keep BC.out).c0, (HBy.out.keep BC.out).c1, (HBy.out.keep BC.out).c2, (HBy.out.keep BC.out).c3, (HBy.out.keep BC.out).c4, (HBy.out.keep BC.out).c5⟩) (fun hHeld => ?_)
            refine' take_any 0 31 (v := _) ?hi37 ?hd37 (by kernel_rfl) (by kernel_rfl) (by kernel_rfl) (fun _ _ _ h => h) ?hy37 hHeld ?hr37
            case hi37 => (simp only [List.getElem?_toArray, List.getElem?_cons_zero]; rfl)
            case hd37 => rfl
            case hy37 =>
              refine' Or.inl ⟨?hw37, ?hx37⟩
              case hw37 => rfl
              case hx37 => (intro w hSw; (try dsimp only at hSw); go_simp; (try with_reducible rfl))
            (try simp only [Act.put, List.setIfInBounds_toArray, List.set_cons_zero, List.set_cons_succ])
            refine' take_any 2 33 (v := _) ?hi38 ?hd38 (by kernel_rfl) (by kernel_rfl) (by kernel_rfl) (fun _ _ _ h => h) ?hy38 hHeld ?hr38
            case hi38 => (simp only [List.getElem?_toArray, List.getElem?_cons_succ, List.getElem?_cons_zero]; rfl)
            case hd38 => rfl
            case hy38 =>
              refine' Or.inl ⟨?hw38, ?hx38⟩
              case hw38 => rfl
              case hx38 => (intro w hSw; (try dsimp only at hSw); go_simp; (try with_reducible rfl))
            (try simp only [Act.put, List.setIfInBounds_toArray, List.set_cons_zero, List.set_cons_succ])
            refine' take_call 1 ?hi40 (by kernel_rfl) ?hr40
            case hi40 => (simp only [List.getElem?_toArray, List.getElem?_cons_succ, List.getElem?_cons_zero]; rfl)
            intro K hK
            go_simp
            go_at_call 10
            refine (right_e xy _ HZ.out _ _ HLx.out HRx.out (HVx.out.below BC.out)).mono ?_
            rintro e z39 ⟨rfl, hb⟩
            replace BC := Lib.hid (BC.out.trans (hb.mono BC.out.size))
            clear hb
            go_wp2_with fail
            clear hHeld
            refine hK.out _ _ (by (try dsimp only); exact ⟨(HBx.out.keep BC.out).c0, (HBx.out.keep BC.out).c1, (HBx.out.keep BC.out).c2, (HBx.out.keep BC.out).c3, (HBx.out.keep BC.out).c4, (HBx.out.keep BC.out).c5, (HBy.out.keep BC.out).c0, (HBy.out.keep BC.out).c1, (HBy.out.keep BC.out).c2, (HBy.out.keep BC.out).c3, (HBy.out.keep BC.out).c4, (HBy.out.keep BC.out).c5⟩) (fun hHeld => ?_)
            clear hK K
            (try simp only [Act.put, List.setIfInBounds_toArray, List.set_cons_zero, List.set_cons_succ])
            refine' take_call 3 ?hi42 (by kernel_rfl) ?hr42
            case hi42 => (simp only [List.getElem?_toArray, List.getElem?_cons_succ, List.getElem?_cons_zero]; rfl)
            intro K hK
            go_simp
            go_at_call 11
            refine (rright_e xy _ (HRA.out.trans HZ.out.symm).symm _ _ (HVx.out.below BC.out)).mono ?_
            rintro e z41 ⟨rfl, hb⟩
            replace BC := Lib.hid (BC.out.trans (hb.mono BC.out.size))
            clear hb
            go_wp2_with fail
            clear hHeld
            refine hK.out _ _ (by (try dsimp only); exact ⟨(HBx.out.keep BC.out).c0, (HBx.out.keep BC.out).c1, (HBx.out.keep BC.out).c2, (HBx.out.keep BC.out).c3, (HBx.out.keep BC.out).c4, (HBx.out.keep BC.out).c5, (HBy.out.keep BC.out).c0, (HBy.out.keep BC.out).c1, (HBy.out.keep BC.out).c2, (HBy.out.keep BC.out).c3, (HBy.out.keep BC.out).c4, (HBy.out.keep BC.out).c5⟩) (fun hHeld => ?_)
            clear hK K
            (try simp only [Act.put, List.setIfInBounds_toArray, List.set_cons_zero, List.set_cons_succ])
            refine' take_any 4 35 (v := _) ?hi43 ?hd43 (by kernel_rfl) (by kernel_rfl) (by kernel_rfl) (fun _ _ _ h => h) ?hy43 hHeld ?hr43
            case hi43 => (simp only [List.getElem?_toArray, List.getElem?_cons_succ, List.getElem?_cons_zero]; rfl)
            case hd43 => rfl
            case hy43 =>
              refine' Or.inl ⟨?hw43, ?hx43⟩
              case hw43 => rfl
              case hx43 => (intro w hSw; (try dsimp only at hSw); go_simp; (try with_reducible rfl))
            (try simp only [Act.put, List.setIfInBounds_toArray, List.set_cons_zero, List.set_cons_succ])
            refine' take_any 5 36 (v := _) ?hi44 ?hd44 (by kernel_rfl) (by kernel_rfl) (by kernel_rfl) (fun _ _ _ h => h) ?hy44 hHeld ?hr44
            case hi44 => (simp only [List.getElem?_toArray, List.getElem?_cons_succ, List.getElem?_cons_zero]; rfl)
            case hd44 => rfl
            case hy44 =>
              refine' Or.inl ⟨?hw44, ?hx44⟩
              case hw44 => rfl
              case hx44 => (intro w hSw; (try dsimp only at hSw); go_simp; (try with_reducible rfl))
            (try simp only [Act.put, List.setIfInBounds_toArray, List.set_cons_zero, List.set_cons_succ])
            refine' take_any 6 37 (v := _) ?hi45 ?hd45 (by kernel_rfl) (by kernel_rfl) (by kernel_rfl) (fun _ _ _ h => h) ?hy45 hHeld ?hr45
            case hi45 => (simp only [List.getElem?_toArray, List.getElem?_cons_succ, List.getElem?_cons_zero]; rfl)
            case hd45 => rfl
            case hy45 =>
              refine' Or.inl ⟨?hw45, ?hx45⟩
              case hw45 => rfl
              case hx45 => (intro w hSw; (try dsimp only at hSw); go_simp; (try with_reducible rfl))
            (try simp only [Act.put, List.setIfInBounds_toArray, List.set_cons_zero, List.set_cons_succ])
            refine' take_any 7 38 (v := _) ?hi46 ?hd46 (by kernel_rfl) (by kernel_rfl) (by kernel_rfl) (fun _ _ _ h => h) ?hy46 hHeld ?hr46
            case hi46 => (simp only [List.getElem?_toArray, List.getElem?_cons_succ, List.getElem?_cons_zero]; rfl)
            case hd46 => rfl
            case hy46 =>
              refine' Or.inl ⟨?hw46, ?hx46⟩
              case hw46 => rfl
              case hx46 => (intro w hSw; (try dsimp only at hSw); go_simp; (try with_reducible rfl))
            (try simp only [Act.put, List.setIfInBounds_toArray, List.set_cons_zero, List.set_cons_succ])
            refine' take_any 9 40 (v := _) ?hi47 ?hd47 (by kernel_rfl) (by kernel_rfl) (by kernel_rfl) (fun _ _ _ h => h) ?hy47 hHeld ?hr47
            case hi47 => (simp only [List.getElem?_toArray, List.getElem?_cons_succ, List.getElem?_cons_zero]; rfl)
            case hd47 => rfl
            case hy47 =>
              refine' Or.inl ⟨?hw47, ?hx47⟩
              case hw47 => rfl
              case hx47 => (intro w hSw; (try dsimp only at hSw); go_simp; (try with_reducible rfl))
            (try simp only [Act.put, List.setIfInBounds_toArray, List.set_cons_zero, List.set_cons_succ])
            refine' take_any 10 41 (v := _) ?hi48 ?hd48 (by kernel_rfl) (by kernel_rfl) (by kernel_rfl) (fun _ _ _ h => h) ?hy48 hHeld ?hr48
            case hi48 => (simp only [List.getElem?_toArray, List.getElem?_cons_succ, List.getElem?_cons_zero]; rfl)
            case hd48 => rfl
            case hy48 =>
              refine' Or.inl ⟨?hw48, ?hx48⟩
              case hw48 => rfl
              case hx48 => (intro w hSw; (try dsimp only at hSw); go_simp; (try with_reducible rfl))
            (try simp only [Act.put, List.setIfInBounds_toArray, List.set_cons_zero, List.set_cons_succ])
            refine' take_call 8 ?hi50 (by kernel_rfl) ?hr50
            case hi50 => (simp only [List.getElem?_toArray, List.getElem?_cons_succ, List.getElem?_cons_zero]; rfl)
            intro K hK
            go_simp
            go_at_call 12
            refine (same_e xy yy _ HSM.out _ _ _ HLx.out (HVx.out.below BC.out) (HVy.out.below BC.out)).mono ?_
            rintro e z49 ⟨rfl, hb⟩
            replace BC := Lib.hid (BC.out.trans (hb.mono BC.out.size))
            clear hb
            go_wp2_with fail
            clear hHeld
            refine hK.out _ _ (by (try dsimp only); exact ⟨(HBx.out.keep BC.out).c0, (HBx.out.keep BC.out).c1, (HBx.out.keep BC.out).c2, (HBx.out.keep BC.out).c3, (HBx.out.keep BC.out).c4, (HBx.out.keep BC.out).c5, (HBy.out.keep BC.out).c0, (HBy.out.keep BC.out).c1, (HBy.out.keep BC.out).c2, (HBy.out.keep BC.out).c3, (HBy.out.keep BC.out).c4, (HBy.out.keep BC.out).c5⟩) (fun hHeld => ?_)
            clear hK K
            (try simp only [Act.put, List.setIfInBounds_toArray, List.set_cons_zero, List.set_cons_succ])
            refine' take_call 11 ?hi52 (by kernel_rfl) ?hr52
            case hi52 => (simp only [List.getElem?_toArray, List.getElem?_cons_succ, List.getElem?_cons_zero]; rfl)
            intro K hK
            go_simp
            go_at_call 13
            refine (rsame_e xy yy _ HSM.out _ _ _ (HVx.out.below BC.out) (HVy.out.below BC.out)).mono ?_
            rintro e z51 ⟨rfl, hb⟩
            replace BC := Lib.hid (BC.out.trans (hb.mono BC.out.size))
            clear hb
            go_wp2_with fail
            clear hHeld
            refine hK.out _ _ (by (try dsimp only); exact ⟨(HBx.out.keep BC.out).c0, (HBx.out.keep BC.out).c1, (HBx.out.keep BC.out).c2, (HBx.out.keep BC.out).c3, (HBx.out.keep BC.out).c4, (HBx.out.keep BC.out).c5, (HBy.out.keep BC.out).c0, (HBy.out.keep BC.out).c1, (HBy.out.keep BC.out).c2, (HBy.out.keep BC.out).c3, (HBy.out.keep BC.out).c4, (HBy.out.keep BC.out).c5⟩) (fun hHeld => ?_)
            clear hK K
            (try simp only [Act.put, List.setIfInBounds_toArray, List.set_cons_zero, List.set_cons_succ])
            refine' take_any 12 43 (v := _) ?hi53 ?hd53 (by kernel_rfl) (by kernel_rfl) (by kernel_rfl) (fun _ _ _ h => h) ?hy53 hHeld ?hr53
            case hi53 => (simp only [List.getElem?_toArray, List.getElem?_cons_succ, List.getElem?_cons_zero]; rfl)
            case hd53 => rfl
            case hy53 =>
              refine' Or.inl ⟨?hw53, ?hx53⟩
              case hw53 => rfl
              case hx53 => (intro w hSw; (try dsimp only at hSw); go_simp; (try with_reducible rfl))
            (try simp only [Act.put, List.setIfInBounds_toArray, List.set_cons_zero, List.set_cons_succ])
            refine' take_any 13 44 (v := _) ?hi54 ?hd54 (by kernel_rfl) (by kernel_rfl) (by kernel_rfl) (fun _ _ _ h => h) ?hy54 hHeld ?hr54
            case hi54 => (simp only [List.getElem?_toArray, List.getElem?_cons_succ, List.getElem?_cons_zero]; rfl)
            case hd54 => rfl
            case hy54 =>
              refine' Or.inl ⟨?hw54, ?hx54⟩
              case hw54 => rfl
              case hx54 => (intro w hSw; (try dsimp only at hSw); go_simp; (try with_reducible rfl))
            (try simp only [Act.put, List.setIfInBounds_toArray, List.set_cons_zero, List.set_cons_succ])
            refine wpAnyH_done (by kernel_rfl) ?_ _
            refine NoPanic.normal ?_
            refine hM _ _ (Met.intro (hR _ _ ?_))
            (repeat apply Exists.intro)
            exact ⟨⟨rfl, BC.out⟩, rfl⟩
          | true =>
            have BC := Lib.hid (show Below w5.heap.size w5 w5.drew from (Below.refl _ _).drew)
            (try dsimp only [List.append])
            refine wp_region_noPanic ?_
            refine wp_region_held_drew (S := (fun w' => w'.cell? ⟨w.heap.size, 0, none⟩ = some (.bool xa) ∧ w'.cell? ⟨w.heap.size, 1, none⟩ = some (.int .i64 xf) ∧ w'.cell? ⟨w.heap.size, 2, none⟩ = some (.int .i64 xp) ∧ w'.cell? ⟨w.heap.size, 3, none⟩ = some ((.slice xpa xnp xpc)) ∧ w'.cell? ⟨w.heap.size, 4, none⟩ = some (.int .i64 xk) ∧ w'.cell? ⟨w.heap.size, 5, none⟩ = some ((.slice xfa xnf xfc)) ∧ w'.cell? ⟨w.heap.size + 1, 0, none⟩ = some (.bool ya) ∧ w'.cell? ⟨w.heap.size + 1, 1, none⟩ = some (.int .i64 yf) ∧ w'.cell? ⟨w.heap.size + 1, 2, none⟩ = some (.int .i64 yp) ∧ w'.cell? ⟨w.heap.size + 1, 3, none⟩ = some ((.slice ypa ynp ypc)) ∧ w'.cell? ⟨w.heap.size + 1, 4, none⟩ = some (.int .i64 yk) ∧ w'.cell? ⟨w.heap.size + 1, 5, none⟩ = some ((.slice yfa ynf yfc)))) (by kernel_rfl) (by (try dsimp only); exact ⟨(HBx.out.keep BC.out).c0, (HBx.out.keep BC.out).c1, (HBx.out.keep BC.out).c2, (HBx.out.keep BC.out).c3, (HBx.out.keep BC.out).c4, (HBx.out.keep BC.out).c5, (HBy.out.keep BC.out).c0, (HBy.out.keep BC.out).c1, (HBy.out.keep BC.out).c2, (HBy.out.keep BC.out).c3, (HBy.out.keep BC.out).c4, (HBy.out.keep BC.out).c5⟩) (fun hHeld => ?_)
            refine' take_any 0 31 (v := _) ?hi55 ?hd55 (by kernel_rfl) (by kernel_rfl) (by kernel_rfl) (fun _ _ _ h => h) ?hy55 hHeld ?hr55
            case hi55 => (simp only [List.getElem?_toArray, List.getElem?_cons_zero]; rfl)
            case hd55 => rfl
            case hy55 =>
              refine' Or.inl ⟨?hw55, ?hx55⟩
              case hw55 => rfl
              case hx55 => (intro w hSw; (try dsimp only at hSw); go_simp; (try with_reducible rfl))
            (try simp only [Act.put, List.setIfInBounds_toArray, List.set_cons_zero, List.set_cons_succ])
            refine' take_any 2 33 (v := _) ?hi56 ?hd56 (by kernel_rfl) (by kernel_rfl) (by kernel_rfl) (fun _ _ _ h => h) ?hy56 hHeld ?hr56
            case hi56 => (simp only [List.getElem?_toArray, List.getElem?_cons_succ, List.getElem?_cons_zero]; rfl)
            case hd56 => rfl
            case hy56 =>
              refine' Or.inl ⟨?hw56, ?hx56⟩
              case hw56 => rfl
              case hx56 => (intro w hSw; (try dsimp only at hSw); go_simp; (try with_reducible rfl))
            (try simp only [Act.put, List.setIfInBounds_toArray, List.set_cons_zero, List.set_cons_succ])
            refine' take_call 1 ?hi58 (by kernel_rfl) ?hr58
            case hi58 => (simp only [List.getElem?_toArray, List.getElem?_cons_succ, List.getElem?_cons_zero]; rfl)
            intro K hK
            go_simp
            go_at_call 10
            refine (right_e xy _ HZ.out _ _ HLx.out HRx.out (HVx.out.below BC.out)).mono ?_
            rintro e z57 ⟨rfl, hb⟩
            replace BC := Lib.hid (BC.out.trans (hb.mono BC.out.size))
            clear hb
            go_wp2_with fail
            clear hHeld
            refine hK.out _ _ (by (try dsimp only); exact ⟨(HBx.out.keep BC.out).c0, (HBx.out.keep BC.out).c1, (HBx.out.keep BC.out).c2, (HBx.out.keep BC.out).c3, (HBx.out.keep BC.out).c4, (HBx.out.keep BC.out).c5, (HBy.out.keep BC.out).c0, (HBy.out.keep BC.out).c1, (HBy.out.keep BC.out).c2, (HBy.out.keep BC.out).c3, (HBy.out.keep BC.out).c4, (HBy.out.keep BC.out).c5⟩) (fun hHeld => ?_)
            clear hK K
            (try simp only [Act.put, List.setIfInBounds_toArray, List.set_cons_zero, List.set_cons_succ])
            refine' take_call 3 ?hi60 (by kernel_rfl) ?hr60
            case hi60 => (simp only [List.getElem?_toArray, List.getElem?_cons_succ, List.getElem?_cons_zero]; rfl)
            intro K hK
            go_simp
            go_at_call 11
            refine (rright_e xy _ (HRA.out.trans HZ.out.symm).symm _ _ (HVx.out.below BC.out)).mono ?_
            rintro e z59 ⟨rfl, hb⟩
            replace BC := Lib.hid (BC.out.trans (hb.mono BC.out.size))
            clear hb
            go_wp2_with fail
            clear hHeld
            refine hK.out _ _ (by (try dsimp only); exact ⟨(HBx.out.keep BC.out).c0, (HBx.out.keep BC.out).c1, (HBx.out.keep BC.out).c2, (HBx.out.keep BC.out).c3, (HBx.out.keep BC.out).c4, (HBx.out.keep BC.out).c5, (HBy.out.keep BC.out).c0, (HBy.out.keep BC.out).c1, (HBy.out.keep BC.out).c2, (HBy.out.keep BC.out).c3, (HBy.out.keep BC.out).c4, (HBy.out.keep BC.out).c5⟩) (fun hHeld => ?_)
            clear hK K
            (try simp only [Act.put, List.setIfInBounds_toArray, List.set_cons_zero, List.set_cons_succ])
            refine' take_any 4 35 (v := _) ?hi61 ?hd61 (by kernel_rfl) (by kernel_rfl) (by kernel_rfl) (fun _ _ _ h => h) ?hy61 hHeld ?hr61
            case hi61 => (simp only [List.getElem?_toArray, List.getElem?_cons_succ, List.getElem?_cons_zero]; rfl)
            case hd61 => rfl
            case hy61 =>
              refine' Or.inl ⟨?hw61, ?hx61⟩
              case hw61 => rfl
              case hx61 => (intro w hSw; (try dsimp only at hSw); go_simp; (try with_reducible rfl))
            (try simp only [Act.put, List.setIfInBounds_toArray, List.set_cons_zero, List.set_cons_succ])
            refine' take_any 5 36 (v := _) ?hi62 ?hd62 (by kernel_rfl) (by kernel_rfl) (by kernel_rfl) (fun _ _ _ h => h) ?hy62 hHeld ?hr62
            case hi62 => (simp only [List.getElem?_toArray, List.getElem?_cons_succ, List.getElem?_cons_zero]; rfl)
            case hd62 => rfl
            case hy62 =>
              refine' Or.inl ⟨?hw62, ?hx62⟩
              case hw62 => rfl
              case hx62 => (intro w hSw; (try dsimp only at hSw); go_simp; (try with_reducible rfl))
            (try simp only [Act.put, List.setIfInBounds_toArray, List.set_cons_zero, List.set_cons_succ])
            refine' take_any 6 37 (v := _) ?hi63 ?hd63 (by kernel_rfl) (by kernel_rfl) (by kernel_rfl) (fun _ _ _ h => h) ?hy63 hHeld ?hr63
            case hi63 => (simp only [List.getElem?_toArray, List.getElem?_cons_succ, List.getElem?_cons_zero]; rfl)
            case hd63 => rfl
            case hy63 =>
              refine' Or.inl ⟨?hw63, ?hx63⟩
              case hw63 => rfl
              case hx63 => (intro w hSw; (try dsimp only at hSw); go_simp; (try with_reducible rfl))
            (try simp only [Act.put, List.setIfInBounds_toArray, List.set_cons_zero, List.set_cons_succ])
            refine' take_any 7 38 (v := _) ?hi64 ?hd64 (by kernel_rfl) (by kernel_rfl) (by kernel_rfl) (fun _ _ _ h => h) ?hy64 hHeld ?hr64
            case hi64 => (simp only [List.getElem?_toArray, List.getElem?_cons_succ, List.getElem?_cons_zero]; rfl)
            case hd64 => rfl
            case hy64 =>
              refine' Or.inl ⟨?hw64, ?hx64⟩
              case hw64 => rfl
              case hx64 => (intro w hSw; (try dsimp only at hSw); go_simp; (try with_reducible rfl))
            (try simp only [Act.put, List.setIfInBounds_toArray, List.set_cons_zero, List.set_cons_succ])
            refine' take_any 9 40 (v := _) ?hi65 ?hd65 (by kernel_rfl) (by kernel_rfl) (by kernel_rfl) (fun _ _ _ h => h) ?hy65 hHeld ?hr65
            case hi65 => (simp only [List.getElem?_toArray, List.getElem?_cons_succ, List.getElem?_cons_zero]; rfl)
            case hd65 => rfl
            case hy65 =>
              refine' Or.inl ⟨?hw65, ?hx65⟩
              case hw65 => rfl
              case hx65 => (intro w hSw; (try dsimp only at hSw); go_simp; (try with_reducible rfl))
            (try simp only [Act.put, List.setIfInBounds_toArray, List.set_cons_zero, List.set_cons_succ])
            refine' take_any 10 41 (v := _) ?hi66 ?hd66 (by kernel_rfl) (by kernel_rfl) (by kernel_rfl) (fun _ _ _ h => h) ?hy66 hHeld ?hr66
            case hi66 => (simp only [List.getElem?_toArray, List.getElem?_cons_succ, List.getElem?_cons_zero]; rfl)
            case hd66 => rfl
            case hy66 =>
              refine' Or.inl ⟨?hw66, ?hx66⟩
              case hw66 => rfl
              case hx66 => (intro w hSw; (try dsimp only at hSw); go_simp; (try with_reducible rfl))
            (try simp only [Act.put, List.setIfInBounds_toArray, List.set_cons_zero, List.set_cons_succ])
            refine' take_call 8 ?hi68 (by kernel_rfl) ?hr68
            case hi68 => (simp only [List.getElem?_toArray, List.getElem?_cons_succ, List.getElem?_cons_zero]; rfl)
            intro K hK
            go_simp
            go_at_call 12
            refine (same_e xy yy _ HSM.out _ _ _ HLx.out (HVx.out.below BC.out) (HVy.out.below BC.out)).mono ?_
            rintro e z67 ⟨rfl, hb⟩
            replace BC := Lib.hid (BC.out.trans (hb.mono BC.out.size))
            clear hb
            go_wp2_with fail
            clear hHeld
            refine hK.out _ _ (by (try dsimp only); exact ⟨(HBx.out.keep BC.out).c0, (HBx.out.keep BC.out).c1, (HBx.out.keep BC.out).c2, (HBx.out.keep BC.out).c3, (HBx.out.keep BC.out).c4, (HBx.out.keep BC.out).c5, (HBy.out.keep BC.out).c0, (HBy.out.keep BC.out).c1, (HBy.out.keep BC.out).c2, (HBy.out.keep BC.out).c3, (HBy.out.keep BC.out).c4, (HBy.out.keep BC.out).c5⟩) (fun hHeld => ?_)
            clear hK K
            (try simp only [Act.put, List.setIfInBounds_toArray, List.set_cons_zero, List.set_cons_succ])
            refine' take_call 11 ?hi70 (by kernel_rfl) ?hr70
            case hi70 => (simp only [List.getElem?_toArray, List.getElem?_cons_succ, List.getElem?_cons_zero]; rfl)
            intro K hK
            go_simp
            go_at_call 13
            refine (rsame_e xy yy _ HSM.out _ _ _ (HVx.out.below BC.out) (HVy.out.below BC.out)).mono ?_
            rintro e z69 ⟨rfl, hb⟩
            replace BC := Lib.hid (BC.out.trans (hb.mono BC.out.size))
            clear hb
            go_wp2_with fail
            clear hHeld
            refine hK.out _ _ (by (try dsimp only); exact ⟨(HBx.out.keep BC.out).c0, (HBx.out.keep BC.out).c1, (HBx.out.keep BC.out).c2, (HBx.out.keep BC.out).c3, (HBx.out.keep BC.out).c4, (HBx.out.keep BC.out).c5, (HBy.out.keep BC.out).c0, (HBy.out.keep BC.out).c1, (HBy.out.keep BC.out).c2, (HBy.out.keep BC.out).c3, (HBy.out.keep BC.out).c4, (HBy.out.keep BC.out).c5⟩) (fun hHeld => ?_)
            clear hK K
            (try simp only [Act.put, List.setIfInBounds_toArray, List.set_cons_zero, List.set_cons_succ])
            refine' take_any 12 43 (v := _) ?hi71 ?hd71 (by kernel_rfl) (by kernel_rfl) (by kernel_rfl) (fun _ _ _ h => h) ?hy71 hHeld ?hr71
            case hi71 => (simp only [List.getElem?_toArray, List.getElem?_cons_succ, List.getElem?_cons_zero]; rfl)
            case hd71 => rfl
            case hy71 =>
              refine' Or.inl ⟨?hw71, ?hx71⟩
              case hw71 => rfl
              case hx71 => (intro w hSw; (try dsimp only at hSw); go_simp; (try with_reducible rfl))
            (try simp only [Act.put, List.setIfInBounds_toArray, List.set_cons_zero, List.set_cons_succ])
            refine' take_any 13 44 (v := _) ?hi72 ?hd72 (by kernel_rfl) (by kernel_rfl) (by kernel_rfl) (fun _ _ _ h => h) ?hy72 hHeld ?hr72
            case hi72 => (simp only [List.getElem?_toArray, List.getElem?_cons_succ, List.getElem?_cons_zero]; rfl)
            case hd72 => rfl
            case hy72 =>
              refine' Or.inl ⟨?hw72, ?hx72⟩
              case hw72 => rfl
              case hx72 => (intro w hSw; (try dsimp only at hSw); go_simp; (try with_reducible rfl))
            (try simp only [Act.put, List.setIfInBounds_toArray, List.set_cons_zero, List.set_cons_succ])
            refine wpAnyH_done (by kernel_rfl) ?_ _
            refine NoPanic.normal ?_
            refine hM _ _ (Met.intro (hR _ _ ?_))
            (repeat apply Exists.intro)
            exact ⟨⟨rfl, BC.out⟩, rfl⟩
      case rest =>
        obtain ⟨rfl, hbc⟩ := hcut
        have BC := Lib.hid hbc
        clear hbc
        replace HBx := Lib.hid (HBx.out.keep BC.out)
        replace HVx := Lib.hid (HVx.out.below BC.out)
        replace HBy := Lib.hid (HBy.out.keep BC.out)
        replace HVy := Lib.hid (HVy.out.below BC.out)
        replace HFN := Lib.hid (HFN.out.below BC.out)
        replace HB := Lib.hid (HB.out.trans (BC.out.mono HB.out.size))
        clear BC
        have x0 := HBx.out.c0
        have x1 := HBx.out.c1
        have x2 := HBx.out.c2
        have x3 := HBx.out.c3
        have x4 := HBx.out.c4
        have x5 := HBx.out.c5
        go_wp2_with fail
        refine (rright_e xy z (HRA.out.trans HZ.out.symm).symm _ wc HVx.out).mono ?_
        rintro e w6 ⟨rfl, hb⟩
        replace HBx := Lib.hid (HBx.out.keep hb)
        replace HVx := Lib.hid (HVx.out.below hb)
        replace HBy := Lib.hid (HBy.out.keep hb)
        replace HVy := Lib.hid (HVy.out.below hb)
        replace HFN := Lib.hid (HFN.out.below hb)
        replace HB := Lib.hid (HB.out.trans (hb.mono HB.out.size))
        clear hb
        clear x0 x1 x2 x3 x4 x5
        cases z with
        | false =>
          go_wp2
          go_ret
          exact ⟨rfl, HB.out⟩
        | true =>
          have HOKx := Lib.hid (deep_ok HZ.out.symm)
          obtain ⟨zb, hzb⟩ : ∃ b, b = deepF 20 yy := ⟨_, rfl⟩
          have HZB := Lib.hid hzb
          clear hzb
          have y0 := HBy.out.c0
          have y1 := HBy.out.c1
          have y2 := HBy.out.c2
          have y3 := HBy.out.c3
          have y4 := HBy.out.c4
          have y5 := HBy.out.c5
          go_wp2_with fail
          refine (rright_e yy zb (HRB.out.trans HZB.out.symm).symm _ w6 HVy.out).mono ?_
          rintro e w7 ⟨rfl, hb⟩
          replace HBx := Lib.hid (HBx.out.keep hb)
          replace HVx := Lib.hid (HVx.out.below hb)
          replace HBy := Lib.hid (HBy.out.keep hb)
          replace HVy := Lib.hid (HVy.out.below hb)
          replace HFN := Lib.hid (HFN.out.below hb)
          replace HB := Lib.hid (HB.out.trans (hb.mono HB.out.size))
          clear hb
          clear y0 y1 y2 y3 y4 y5
          cases zb with
          | false =>
            go_wp2
            go_ret
            exact ⟨rfl, HB.out⟩
          | true =>
            have HOKy := Lib.hid (deep_ok HZB.out.symm)
            obtain ⟨cx, hcx⟩ : ∃ t, t = carT xy := ⟨_, rfl⟩
            obtain ⟨cb, hcb⟩ : ∃ t, t = carB xy := ⟨_, rfl⟩
            obtain ⟨dx, hdx⟩ : ∃ t, t = cdrT xy := ⟨_, rfl⟩
            obtain ⟨db, hdb⟩ : ∃ t, t = cdrB xy := ⟨_, rfl⟩
            have HK1 := Lib.hid (show ∀ w1 v, TyVN N0 w1 v xy → Calls Tryd.prog 14 #[v] w1 (TwPost N0 cx cb w1) from fun w1 v h => by rw [hcx, hcb]; exact car_p N0 xy v w1 n0 h HOKx.out.hd)
            have HK2 := Lib.hid (show ∀ w1 v, TyVN N0 w1 v xy → Calls Tryd.prog 15 #[v] w1 (TwPost N0 cx cb w1) from fun w1 v h => by rw [hcx, hcb]; exact car_any N0 xy v w1 n0 h)
            have HK3 := Lib.hid (show ∀ w1 v, TyVN N0 w1 v xy → Calls Tryd.prog 16 #[v] w1 (TwPost N0 dx db w1) from fun w1 v h => by rw [hdx, hdb]; exact cdr_p N0 xy v w1 n0 h HOKx.out.hd)
            have HK4 := Lib.hid (show ∀ w1 v, TyVN N0 w1 v xy → Calls Tryd.prog 17 #[v] w1 (TwPost N0 dx db w1) from fun w1 v h => by rw [hdx, hdb]; exact cdr_any N0 xy v w1 n0 h)
            clear hcx hcb hdx hdb
            have x0 := HBx.out.c0
            have x1 := HBx.out.c1
            have x2 := HBx.out.c2
            have x3 := HBx.out.c3
            have x4 := HBx.out.c4
            have x5 := HBx.out.c5
            go_wp2_with fail
            refine (HK1.out w7 _ HVx.out).mono ?_
            rintro e w8 ⟨⟨v, rfl, hv⟩, hb⟩
            obtain ⟨ca, cf, cp, cpa, cnp, cpc, ck, cfa, cnf, cfc, rfl⟩ := hv.shape
            have HVV := Lib.hid hv
            clear hv
            replace HBx := Lib.hid (HBx.out.keep hb)
            replace HVx := Lib.hid (HVx.out.below hb)
            replace HBy := Lib.hid (HBy.out.keep hb)
            replace HVy := Lib.hid (HVy.out.below hb)
            replace HFN := Lib.hid (HFN.out.below hb)
            replace HB := Lib.hid (HB.out.trans (hb.mono HB.out.size))
            clear hb
            obtain ⟨W9, hW9⟩ : ∃ W, W = w8.alloc (.cells #[.bool ca, .int .i64 cf, .int .i64 cp, (.slice cpa cnp cpc), .int .i64 ck, (.slice cfa cnf cfc)] 24) := ⟨_, rfl⟩
            have hb : Below w8.heap.size w8 W9 := by rw [hW9]; exact (Below.refl _ _).alloc (Nat.le_refl _) _
            have HHW9 := Lib.hid hW9
            clear hW9
            replace HBx := Lib.hid (HBx.out.keep hb)
            replace HVx := Lib.hid (HVx.out.below hb)
            replace HBy := Lib.hid (HBy.out.keep hb)
            replace HVy := Lib.hid (HVy.out.below hb)
            have HBc := Lib.hid (show BoxAt W9 w8.heap.size ca cf cp (.slice cpa cnp cpc) ck (.slice cfa cnf cfc) by rw [HHW9.out]; exact BoxAt.made _ _ _ _ _ _ _)
            have HSW9 := Lib.hid (show W9.heap.size = w8.heap.size + 1 by rw [HHW9.out, alloc_hs])
            have HVc := Lib.hid (HVV.out.below hb)
            clear HVV
            replace HFN := Lib.hid (HFN.out.below hb)
            replace HB := Lib.hid (HB.out.trans (hb.mono HB.out.size))
            clear hb
            clear x0 x1 x2 x3 x4 x5
            have x0 := HBx.out.c0
            have x1 := HBx.out.c1
            have x2 := HBx.out.c2
            have x3 := HBx.out.c3
            have x4 := HBx.out.c4
            have x5 := HBx.out.c5
            rw [HHW9.out] at x0 x1 x2 x3 x4 x5
            go_wp2_with fail
            rw [← HHW9.out]
            refine (HK2.out W9 _ HVx.out).mono ?_
            rintro e w10 ⟨⟨v, rfl, hv⟩, hb⟩
            obtain ⟨ea, ef, ep, epa, enp, epc, ek, efa, enf, efc, rfl⟩ := hv.shape
            have HVV := Lib.hid hv
            clear hv
            replace HBx := Lib.hid (HBx.out.keep hb)
            replace HVx := Lib.hid (HVx.out.below hb)
            replace HBy := Lib.hid (HBy.out.keep hb)
            replace HVy := Lib.hid (HVy.out.below hb)
            replace HBc := Lib.hid (HBc.out.keep hb)
            replace HVc := Lib.hid (HVc.out.below hb)
            replace HFN := Lib.hid (HFN.out.below hb)
            replace HB := Lib.hid (HB.out.trans (hb.mono HB.out.size))
            clear hb
            obtain ⟨W11, hW11⟩ : ∃ W, W = w10.alloc (.cells #[.bool ea, .int .i64 ef, .int .i64 ep, (.slice epa enp epc), .int .i64 ek, (.slice efa enf efc)] 24) := ⟨_, rfl⟩
            have hb : Below w10.heap.size w10 W11 := by rw [hW11]; exact (Below.refl _ _).alloc (Nat.le_refl _) _
            have HHW11 := Lib.hid hW11
            clear hW11
            replace HBx := Lib.hid (HBx.out.keep hb)
            replace HVx := Lib.hid (HVx.out.below hb)
            replace HBy := Lib.hid (HBy.out.keep hb)
            replace HVy := Lib.hid (HVy.out.below hb)
            replace HBc := Lib.hid (HBc.out.keep hb)
            replace HVc := Lib.hid (HVc.out.below hb)
            have HBe := Lib.hid (show BoxAt W11 w10.heap.size ea ef ep (.slice epa enp epc) ek (.slice efa enf efc) by rw [HHW11.out]; exact BoxAt.made _ _ _ _ _ _ _)
            have HSW11 := Lib.hid (show W11.heap.size = w10.heap.size + 1 by rw [HHW11.out, alloc_hs])
            have HVe := Lib.hid (HVV.out.below hb)
            clear HVV
            replace HFN := Lib.hid (HFN.out.below hb)
            replace HB := Lib.hid (HB.out.trans (hb.mono HB.out.size))
            clear hb
            clear x0 x1 x2 x3 x4 x5
            have x0 := HBx.out.c0
            have x1 := HBx.out.c1
            have x2 := HBx.out.c2
            have x3 := HBx.out.c3
            have x4 := HBx.out.c4
            have x5 := HBx.out.c5
            rw [HHW11.out] at x0 x1 x2 x3 x4 x5
            go_wp2_with fail
            rw [← HHW11.out]
            refine (HK3.out W11 _ HVx.out).mono ?_
            rintro e w12 ⟨⟨v, rfl, hv⟩, hb⟩
            obtain ⟨da, df, dp, dpa, dnp, dpc, dk, dfa, dnf, dfc, rfl⟩ := hv.shape
            have HVV := Lib.hid hv
            clear hv
            replace HBx := Lib.hid (HBx.out.keep hb)
            replace HVx := Lib.hid (HVx.out.below hb)
            replace HBy := Lib.hid (HBy.out.keep hb)
            replace HVy := Lib.hid (HVy.out.below hb)
            replace HBc := Lib.hid (HBc.out.keep hb)
            replace HVc := Lib.hid (HVc.out.below hb)
            replace HBe := Lib.hid (HBe.out.keep hb)
            replace HVe := Lib.hid (HVe.out.below hb)
            replace HFN := Lib.hid (HFN.out.below hb)
            replace HB := Lib.hid (HB.out.trans (hb.mono HB.out.size))
            clear hb
            obtain ⟨W13, hW13⟩ : ∃ W, W = w12.alloc (.cells #[.bool da, .int .i64 df, .int .i64 dp, (.slice dpa dnp dpc), .int .i64 dk, (.slice dfa dnf dfc)] 24) := ⟨_, rfl⟩
            have hb : Below w12.heap.size w12 W13 := by rw [hW13]; exact (Below.refl _ _).alloc (Nat.le_refl _) _
            have HHW13 := Lib.hid hW13
            clear hW13
            replace HBx := Lib.hid (HBx.out.keep hb)
            replace HVx := Lib.hid (HVx.out.below hb)
            replace HBy := Lib.hid (HBy.out.keep hb)
            replace HVy := Lib.hid (HVy.out.below hb)
            replace HBc := Lib.hid (HBc.out.keep hb)
            replace HVc := Lib.hid (HVc.out.below hb)
            replace HBe := Lib.hid (HBe.out.keep hb)
            replace HVe := Lib.hid (HVe.out.below hb)
            have HBd := Lib.hid (show BoxAt W13 w12.heap.size da df dp (.slice dpa dnp dpc) dk (.slice dfa dnf dfc) by rw [HHW13.out]; exact BoxAt.made _ _ _ _ _ _ _)
            have HSW13 := Lib.hid (show W13.heap.size = w12.heap.size + 1 by rw [HHW13.out, alloc_hs])
            have HVd := Lib.hid (HVV.out.below hb)
            clear HVV
            replace HFN := Lib.hid (HFN.out.below hb)
            replace HB := Lib.hid (HB.out.trans (hb.mono HB.out.size))
            clear hb
            clear x0 x1 x2 x3 x4 x5
            have x0 := HBx.out.c0
            have x1 := HBx.out.c1
            have x2 := HBx.out.c2
            have x3 := HBx.out.c3
            have x4 := HBx.out.c4
            have x5 := HBx.out.c5
            rw [HHW13.out] at x0 x1 x2 x3 x4 x5
            go_wp2_with fail
            rw [← HHW13.out]
            refine (HK4.out W13 _ HVx.out).mono ?_
            rintro e w14 ⟨⟨v, rfl, hv⟩, hb⟩
            obtain ⟨fa, ff, fp, fpa, fnp, fpc, fk, ffa, fnf, ffc, rfl⟩ := hv.shape
            have HVV := Lib.hid hv
            clear hv
            replace HBx := Lib.hid (HBx.out.keep hb)
            replace HVx := Lib.hid (HVx.out.below hb)
            replace HBy := Lib.hid (HBy.out.keep hb)
            replace HVy := Lib.hid (HVy.out.below hb)
            replace HBc := Lib.hid (HBc.out.keep hb)
            replace HVc := Lib.hid (HVc.out.below hb)
            replace HBe := Lib.hid (HBe.out.keep hb)
            replace HVe := Lib.hid (HVe.out.below hb)
            replace HBd := Lib.hid (HBd.out.keep hb)
            replace HVd := Lib.hid (HVd.out.below hb)
            replace HFN := Lib.hid (HFN.out.below hb)
            replace HB := Lib.hid (HB.out.trans (hb.mono HB.out.size))
            clear hb
            obtain ⟨W15, hW15⟩ : ∃ W, W = w14.alloc (.cells #[.bool fa, .int .i64 ff, .int .i64 fp, (.slice fpa fnp fpc), .int .i64 fk, (.slice ffa fnf ffc)] 24) := ⟨_, rfl⟩
            have hb : Below w14.heap.size w14 W15 := by rw [hW15]; exact (Below.refl _ _).alloc (Nat.le_refl _) _
            have HHW15 := Lib.hid hW15
            clear hW15
            replace HBx := Lib.hid (HBx.out.keep hb)
            replace HVx := Lib.hid (HVx.out.below hb)
            replace HBy := Lib.hid (HBy.out.keep hb)
            replace HVy := Lib.hid (HVy.out.below hb)
            replace HBc := Lib.hid (HBc.out.keep hb)
            replace HVc := Lib.hid (HVc.out.below hb)
            replace HBe := Lib.hid (HBe.out.keep hb)
            replace HVe := Lib.hid (HVe.out.below hb)
            replace HBd := Lib.hid (HBd.out.keep hb)
            replace HVd := Lib.hid (HVd.out.below hb)
            have HBf := Lib.hid (show BoxAt W15 w14.heap.size fa ff fp (.slice fpa fnp fpc) fk (.slice ffa fnf ffc) by rw [HHW15.out]; exact BoxAt.made _ _ _ _ _ _ _)
            have HSW15 := Lib.hid (show W15.heap.size = w14.heap.size + 1 by rw [HHW15.out, alloc_hs])
            have HVf := Lib.hid (HVV.out.below hb)
            clear HVV
            replace HFN := Lib.hid (HFN.out.below hb)
            replace HB := Lib.hid (HB.out.trans (hb.mono HB.out.size))
            clear hb
            clear x0 x1 x2 x3 x4 x5
            have c0 := HBc.out.c0
            have c1 := HBc.out.c1
            have c2 := HBc.out.c2
            have c3 := HBc.out.c3
            have c4 := HBc.out.c4
            have c5 := HBc.out.c5
            have e0 := HBe.out.c0
            have e1 := HBe.out.c1
            have e2 := HBe.out.c2
            have e3 := HBe.out.c3
            have e4 := HBe.out.c4
            have e5 := HBe.out.c5
            rw [HHW15.out] at c0 c1 c2 c3 c4 c5 e0 e1 e2 e3 e4 e5
            go_wp2_with fail
            rw [← HHW15.out]
            refine (same_y cx _ _ W15 HVc.out HVe.out).mono ?_
            rintro e w16 ⟨rfl, hb⟩
            replace HBx := Lib.hid (HBx.out.keep hb)
            replace HVx := Lib.hid (HVx.out.below hb)
            replace HBy := Lib.hid (HBy.out.keep hb)
            replace HVy := Lib.hid (HVy.out.below hb)
            replace HBc := Lib.hid (HBc.out.keep hb)
            replace HVc := Lib.hid (HVc.out.below hb)
            replace HBe := Lib.hid (HBe.out.keep hb)
            replace HVe := Lib.hid (HVe.out.below hb)
            replace HBd := Lib.hid (HBd.out.keep hb)
            replace HVd := Lib.hid (HVd.out.below hb)
            replace HBf := Lib.hid (HBf.out.keep hb)
            replace HVf := Lib.hid (HVf.out.below hb)
            replace HFN := Lib.hid (HFN.out.below hb)
            replace HB := Lib.hid (HB.out.trans (hb.mono HB.out.size))
            clear hb
            clear c0 c1 c2 c3 c4 c5 e0 e1 e2 e3 e4 e5
            have d0 := HBd.out.c0
            have d1 := HBd.out.c1
            have d2 := HBd.out.c2
            have d3 := HBd.out.c3
            have d4 := HBd.out.c4
            have d5 := HBd.out.c5
            have f0 := HBf.out.c0
            have f1 := HBf.out.c1
            have f2 := HBf.out.c2
            have f3 := HBf.out.c3
            have f4 := HBf.out.c4
            have f5 := HBf.out.c5
            go_wp2_with fail
            refine (same_y dx _ _ w16 HVd.out HVf.out).mono ?_
            rintro e w17 ⟨rfl, hb⟩
            replace HBx := Lib.hid (HBx.out.keep hb)
            replace HVx := Lib.hid (HVx.out.below hb)
            replace HBy := Lib.hid (HBy.out.keep hb)
            replace HVy := Lib.hid (HVy.out.below hb)
            replace HBc := Lib.hid (HBc.out.keep hb)
            replace HVc := Lib.hid (HVc.out.below hb)
            replace HBe := Lib.hid (HBe.out.keep hb)
            replace HVe := Lib.hid (HVe.out.below hb)
            replace HBd := Lib.hid (HBd.out.keep hb)
            replace HVd := Lib.hid (HVd.out.below hb)
            replace HBf := Lib.hid (HBf.out.keep hb)
            replace HVf := Lib.hid (HVf.out.below hb)
            replace HFN := Lib.hid (HFN.out.below hb)
            replace HB := Lib.hid (HB.out.trans (hb.mono HB.out.size))
            clear hb
            clear d0 d1 d2 d3 d4 d5 f0 f1 f2 f3 f4 f5
            go_upto_region 16 with fail
            have BC := Lib.hid (show Below w17.heap.size w17 w17.drew from (Below.refl _ _).drew)
            (try dsimp only [List.append])
            refine wp_region_noPanic ?_
            refine wp_region_held_drew (S := (fun w' => w'.cell? ⟨w.heap.size, 0, none⟩ = some (.bool xa) ∧ w'.cell? ⟨w.heap.size, 1, none⟩ = some (.int .i64 xf) ∧ w'.cell? ⟨w.heap.size, 2, none⟩ = some (.int .i64 xp) ∧ w'.cell? ⟨w.heap.size, 3, none⟩ = some ((.slice xpa xnp xpc)) ∧ w'.cell? ⟨w.heap.size, 4, none⟩ = some (.int .i64 xk) ∧ w'.cell? ⟨w.heap.size, 5, none⟩ = some ((.slice xfa xnf xfc)) ∧ w'.cell? ⟨w.heap.size + 1, 0, none⟩ = some (.bool ya) ∧ w'.cell? ⟨w.heap.size + 1, 1, none⟩ = some (.int .i64 yf) ∧ w'.cell? ⟨w.heap.size + 1, 2, none⟩ = some (.int .i64 yp) ∧ w'.cell? ⟨w.heap.size + 1, 3, none⟩ = some ((.slice ypa ynp ypc)) ∧ w'.cell? ⟨w.heap.size + 1, 4, none⟩ = some (.int .i64 yk) ∧ w'.cell? ⟨w.heap.size + 1, 5, none⟩ = some ((.slice yfa ynf yfc)))) (by kernel_rfl) (by (try dsimp only); exact ⟨(HBx.out.keep BC.out).c0, (HBx.out.keep BC.out).c1, (HBx.out.keep BC.out).c2, (HBx.out.keep BC.out).c3, (HBx.out.keep BC.out).c4, (HBx.out.keep BC.out).c5, (HBy.out.keep BC.out).c0, (HBy.out.keep BC.out).c1, (HBy.out.keep BC.out).c2, (HBy.out.keep BC.out).c3, (HBy.out.keep BC.out).c4, (HBy.out.keep BC.out).c5⟩) (fun hHeld => ?_)
            refine' take_any 0 80 (v := _) ?hi73 ?hd73 (by kernel_rfl) (by kernel_rfl) (by kernel_rfl) (fun _ _ _ h => h) ?hy73 hHeld ?hr73
            case hi73 => (simp only [List.getElem?_toArray, List.getElem?_cons_zero]; rfl)
            case hd73 => rfl
            case hy73 =>
              refine' Or.inl ⟨?hw73, ?hx73⟩
              case hw73 => rfl
              case hx73 => (intro w hSw; (try dsimp only at hSw); go_simp; (try with_reducible rfl))
            (try simp only [Act.put, List.setIfInBounds_toArray, List.set_cons_zero, List.set_cons_succ])
            refine' take_any 1 81 (v := _) ?hi74 ?hd74 (by kernel_rfl) (by kernel_rfl) (by kernel_rfl) (fun _ _ _ h => h) ?hy74 hHeld ?hr74
            case hi74 => (simp only [List.getElem?_toArray, List.getElem?_cons_succ, List.getElem?_cons_zero]; rfl)
            case hd74 => rfl
            case hy74 =>
              refine' Or.inl ⟨?hw74, ?hx74⟩
              case hw74 => rfl
              case hx74 => (intro w hSw; (try dsimp only at hSw); go_simp; (try with_reducible rfl))
            (try simp only [Act.put, List.setIfInBounds_toArray, List.set_cons_zero, List.set_cons_succ])
            refine' take_any 3 83 (v := _) ?hi75 ?hd75 (by kernel_rfl) (by kernel_rfl) (by kernel_rfl) (fun _ _ _ h => h) ?hy75 hHeld ?hr75
            case hi75 => (simp only [List.getElem?_toArray, List.getElem?_cons_succ, List.getElem?_cons_zero]; rfl)
            case hd75 => rfl
            case hy75 =>
              refine' Or.inl ⟨?hw75, ?hx75⟩
              case hw75 => rfl
              case hx75 => (intro w hSw; (try dsimp only at hSw); go_simp; (try with_reducible rfl))
            (try simp only [Act.put, List.setIfInBounds_toArray, List.set_cons_zero, List.set_cons_succ])
            refine' take_any 4 84 (v := _) ?hi76 ?hd76 (by kernel_rfl) (by kernel_rfl) (by kernel_rfl) (fun _ _ _ h => h) ?hy76 hHeld ?hr76
            case hi76 => (simp only [List.getElem?_toArray, List.getElem?_cons_succ, List.getElem?_cons_zero]; rfl)
            case hd76 => rfl
            case hy76 =>
              refine' Or.inl ⟨?hw76, ?hx76⟩
              case hw76 => rfl
              case hx76 => (intro w hSw; (try dsimp only at hSw); go_simp; (try with_reducible rfl))
            (try simp only [Act.put, List.setIfInBounds_toArray, List.set_cons_zero, List.set_cons_succ])
            refine' take_call 2 ?hi78 (by kernel_rfl) ?hr78
            case hi78 => (simp only [List.getElem?_toArray, List.getElem?_cons_succ, List.getElem?_cons_zero]; rfl)
            intro K hK
            go_simp
            go_at_call 18
            refine (join_l xy yy _ _ _ HOKx.out HOKy.out HLx.out HLy.out (HVx.out.below BC.out) (HVy.out.below BC.out)).mono ?_
            rintro e z77 ⟨⟨v, rfl, hv⟩, hb⟩
            have H1 := Lib.hid hv
            clear hv
            obtain ⟨qa, qf, qp, qpa, qnp, qpc, qk, qfa, qnf, qfc, rfl⟩ := H1.out.shape
            replace BC := Lib.hid (BC.out.trans (hb.mono BC.out.size))
            clear hb
            go_wp2_with fail
            clear hHeld
            refine hK.out _ _ (by (try dsimp only); exact ⟨(HBx.out.keep BC.out).c0, (HBx.out.keep BC.out).c1, (HBx.out.keep BC.out).c2, (HBx.out.keep BC.out).c3, (HBx.out.keep BC.out).c4, (HBx.out.keep BC.out).c5, (HBy.out.keep BC.out).c0, (HBy.out.keep BC.out).c1, (HBy.out.keep BC.out).c2, (HBy.out.keep BC.out).c3, (HBy.out.keep BC.out).c4, (HBy.out.keep BC.out).c5⟩) (fun hHeld => ?_)
            clear hK K
            (try simp only [Act.put, List.setIfInBounds_toArray, List.set_cons_zero, List.set_cons_succ])
            refine' take_call 5 ?hi80 (by kernel_rfl) ?hr80
            case hi80 => (simp only [List.getElem?_toArray, List.getElem?_cons_succ, List.getElem?_cons_zero]; rfl)
            intro K hK
            go_simp
            go_at_call 19
            refine (rjoin_any xy yy _ _ _ HOKx.out HOKy.out (HVx.out.below BC.out) (HVy.out.below BC.out)).mono ?_
            rintro e z79 ⟨⟨v, rfl, hv⟩, hb⟩
            have H2 := Lib.hid hv
            clear hv
            obtain ⟨ra, rf, rp, rpa, rnp, rpc, rk, rfa, rnf, rfc, rfl⟩ := H2.out.shape
            replace H1 := Lib.hid (H1.out.below hb)
            replace BC := Lib.hid (BC.out.trans (hb.mono BC.out.size))
            clear hb
            go_wp2_with fail
            clear hHeld
            refine hK.out _ _ (by (try dsimp only); exact ⟨(HBx.out.keep BC.out).c0, (HBx.out.keep BC.out).c1, (HBx.out.keep BC.out).c2, (HBx.out.keep BC.out).c3, (HBx.out.keep BC.out).c4, (HBx.out.keep BC.out).c5, (HBy.out.keep BC.out).c0, (HBy.out.keep BC.out).c1, (HBy.out.keep BC.out).c2, (HBy.out.keep BC.out).c3, (HBy.out.keep BC.out).c4, (HBy.out.keep BC.out).c5⟩) (fun hHeld => ?_)
            clear hK K
            (try simp only [Act.put, List.setIfInBounds_toArray, List.set_cons_zero, List.set_cons_succ])
            refine' take_call 6 ?hi82 (by kernel_rfl) ?hr82
            case hi82 => (simp only [List.getElem?_toArray, List.getElem?_cons_succ, List.getElem?_cons_zero]; rfl)
            intro K hK
            go_simp
            go_at_call 13
            refine (same_y _ _ _ _ H1.out H2.out).mono ?_
            rintro e z81 ⟨rfl, hb⟩
            clear H1 H2
            replace BC := Lib.hid (BC.out.trans (hb.mono BC.out.size))
            clear hb
            go_wp2_with fail
            clear hHeld
            refine hK.out _ _ (by (try dsimp only); exact ⟨(HBx.out.keep BC.out).c0, (HBx.out.keep BC.out).c1, (HBx.out.keep BC.out).c2, (HBx.out.keep BC.out).c3, (HBx.out.keep BC.out).c4, (HBx.out.keep BC.out).c5, (HBy.out.keep BC.out).c0, (HBy.out.keep BC.out).c1, (HBy.out.keep BC.out).c2, (HBy.out.keep BC.out).c3, (HBy.out.keep BC.out).c4, (HBy.out.keep BC.out).c5⟩) (fun hHeld => ?_)
            clear hK K
            (try simp only [Act.put, List.setIfInBounds_toArray, List.set_cons_zero, List.set_cons_succ])
            refine' take_any 7 18 (v := _) ?hi83 ?hd83 (by kernel_rfl) (by kernel_rfl) (by kernel_rfl) (fun _ _ _ h => h) ?hy83 hHeld ?hr83
            case hi83 => (simp only [List.getElem?_toArray, List.getElem?_cons_succ, List.getElem?_cons_zero]; rfl)
            case hd83 => rfl
            case hy83 =>
              refine' Or.inl ⟨?hw83, ?hx83⟩
              case hw83 => rfl
              case hx83 => (intro w hSw; (try dsimp only at hSw); go_simp; (try with_reducible rfl))
            (try simp only [Act.put, List.setIfInBounds_toArray, List.set_cons_zero, List.set_cons_succ])
            refine wpAnyH_done (by kernel_rfl) ?_ _
            refine NoPanic.normal ?_
            replace HBx := Lib.hid (HBx.out.keep BC.out)
            replace HVx := Lib.hid (HVx.out.below BC.out)
            replace HBy := Lib.hid (HBy.out.keep BC.out)
            replace HVy := Lib.hid (HVy.out.below BC.out)
            replace HBc := Lib.hid (HBc.out.keep BC.out)
            replace HVc := Lib.hid (HVc.out.below BC.out)
            replace HBe := Lib.hid (HBe.out.keep BC.out)
            replace HVe := Lib.hid (HVe.out.below BC.out)
            replace HBd := Lib.hid (HBd.out.keep BC.out)
            replace HVd := Lib.hid (HVd.out.below BC.out)
            replace HBf := Lib.hid (HBf.out.keep BC.out)
            replace HVf := Lib.hid (HVf.out.below BC.out)
            replace HFN := Lib.hid (HFN.out.below BC.out)
            replace HB := Lib.hid (HB.out.trans (BC.out.mono HB.out.size))
            clear BC
            obtain ⟨sb, hsb⟩ : ∃ b, b = subT xy yy := ⟨_, rfl⟩
            have HSB := Lib.hid hsb
            clear hsb
            go_upto_region 17 with fail
            have ebb : ∀ x : Bool, (x == x) = true := fun x => by cases x <;> rfl
            have BC := Lib.hid (show Below z81.heap.size z81 z81.drew from (Below.refl _ _).drew)
            (try dsimp only [List.append])
            refine wp_region_noPanic ?_
            refine wp_region_held_drew (S := (fun w' => w'.cell? ⟨w.heap.size, 0, none⟩ = some (.bool xa) ∧ w'.cell? ⟨w.heap.size, 1, none⟩ = some (.int .i64 xf) ∧ w'.cell? ⟨w.heap.size, 2, none⟩ = some (.int .i64 xp) ∧ w'.cell? ⟨w.heap.size, 3, none⟩ = some ((.slice xpa xnp xpc)) ∧ w'.cell? ⟨w.heap.size, 4, none⟩ = some (.int .i64 xk) ∧ w'.cell? ⟨w.heap.size, 5, none⟩ = some ((.slice xfa xnf xfc)) ∧ w'.cell? ⟨w.heap.size + 1, 0, none⟩ = some (.bool ya) ∧ w'.cell? ⟨w.heap.size + 1, 1, none⟩ = some (.int .i64 yf) ∧ w'.cell? ⟨w.heap.size + 1, 2, none⟩ = some (.int .i64 yp) ∧ w'.cell? ⟨w.heap.size + 1, 3, none⟩ = some ((.slice ypa ynp ypc)) ∧ w'.cell? ⟨w.heap.size + 1, 4, none⟩ = some (.int .i64 yk) ∧ w'.cell? ⟨w.heap.size + 1, 5, none⟩ = some ((.slice yfa ynf yfc)))) (by kernel_rfl) (by (try dsimp only); exact ⟨(HBx.out.keep BC.out).c0, (HBx.out.keep BC.out).c1, (HBx.out.keep BC.out).c2, (HBx.out.keep BC.out).c3, (HBx.out.keep BC.out).c4, (HBx.out.keep BC.out).c5, (HBy.out.keep BC.out).c0, (HBy.out.keep BC.out).c1, (HBy.out.keep BC.out).c2, (HBy.out.keep BC.out).c3, (HBy.out.keep BC.out).c4, (HBy.out.keep BC.out).c5⟩) (fun hHeld => ?_)
            refine' take_any 0 87 (v := _) ?hi84 ?hd84 (by kernel_rfl) (by kernel_rfl) (by kernel_rfl) (fun _ _ _ h => h) ?hy84 hHeld ?hr84
            case hi84 => (simp only [List.getElem?_toArray, List.getElem?_cons_zero]; rfl)
            case hd84 => rfl
            case hy84 =>
              refine' Or.inl ⟨?hw84, ?hx84⟩
              case hw84 => rfl
              case hx84 => (intro w hSw; (try dsimp only at hSw); go_simp; (try with_reducible rfl))
            (try simp only [Act.put, List.setIfInBounds_toArray, List.set_cons_zero, List.set_cons_succ])
            refine' take_any 1 88 (v := _) ?hi85 ?hd85 (by kernel_rfl) (by kernel_rfl) (by kernel_rfl) (fun _ _ _ h => h) ?hy85 hHeld ?hr85
            case hi85 => (simp only [List.getElem?_toArray, List.getElem?_cons_succ, List.getElem?_cons_zero]; rfl)
            case hd85 => rfl
            case hy85 =>
              refine' Or.inl ⟨?hw85, ?hx85⟩
              case hw85 => rfl
              case hx85 => (intro w hSw; (try dsimp only at hSw); go_simp; (try with_reducible rfl))
            (try simp only [Act.put, List.setIfInBounds_toArray, List.set_cons_zero, List.set_cons_succ])
            refine' take_any 2 89 (v := _) ?hi86 ?hd86 (by kernel_rfl) (by kernel_rfl) (by kernel_rfl) (fun _ _ _ h => h) ?hy86 hHeld ?hr86
            case hi86 => (simp only [List.getElem?_toArray, List.getElem?_cons_succ, List.getElem?_cons_zero]; rfl)
            case hd86 => rfl
            case hy86 =>
              refine' Or.inl ⟨?hw86, ?hx86⟩
              case hw86 => rfl
              case hx86 => (intro w hSw; (try dsimp only at hSw); go_simp; (try with_reducible rfl))
            (try simp only [Act.put, List.setIfInBounds_toArray, List.set_cons_zero, List.set_cons_succ])
            refine' take_any 3 90 (v := _) ?hi87 ?hd87 (by kernel_rfl) (by kernel_rfl) (by kernel_rfl) (fun _ _ _ h => h) ?hy87 hHeld ?hr87
            case hi87 => (simp only [List.getElem?_toArray, List.getElem?_cons_succ, List.getElem?_cons_zero]; rfl)
            case hd87 => rfl
            case hy87 =>
              refine' Or.inl ⟨?hw87, ?hx87⟩
              case hw87 => rfl
              case hx87 => (intro w hSw; (try dsimp only at hSw); go_simp; (try with_reducible rfl))
            (try simp only [Act.put, List.setIfInBounds_toArray, List.set_cons_zero, List.set_cons_succ])
            refine' take_any 5 92 (v := _) ?hi88 ?hd88 (by kernel_rfl) (by kernel_rfl) (by kernel_rfl) (fun _ _ _ h => h) ?hy88 hHeld ?hr88
            case hi88 => (simp only [List.getElem?_toArray, List.getElem?_cons_succ, List.getElem?_cons_zero]; rfl)
            case hd88 => rfl
            case hy88 =>
              refine' Or.inl ⟨?hw88, ?hx88⟩
              case hw88 => rfl
              case hx88 => (intro w hSw; (try dsimp only at hSw); go_simp; (try with_reducible rfl))
            (try simp only [Act.put, List.setIfInBounds_toArray, List.set_cons_zero, List.set_cons_succ])
            refine' take_any 6 93 (v := _) ?hi89 ?hd89 (by kernel_rfl) (by kernel_rfl) (by kernel_rfl) (fun _ _ _ h => h) ?hy89 hHeld ?hr89
            case hi89 => (simp only [List.getElem?_toArray, List.getElem?_cons_succ, List.getElem?_cons_zero]; rfl)
            case hd89 => rfl
            case hy89 =>
              refine' Or.inl ⟨?hw89, ?hx89⟩
              case hw89 => rfl
              case hx89 => (intro w hSw; (try dsimp only at hSw); go_simp; (try with_reducible rfl))
            (try simp only [Act.put, List.setIfInBounds_toArray, List.set_cons_zero, List.set_cons_succ])
            refine' take_call 4 ?hi91 (by kernel_rfl) ?hr91
            case hi91 => (simp only [List.getElem?_toArray, List.getElem?_cons_succ, List.getElem?_cons_zero]; rfl)
            intro K hK
            go_simp
            go_at_call 20
            refine (sub_e xy yy _ HSB.out _ _ _ HOKx.out HOKy.out HLx.out HLy.out (HVx.out.below BC.out) (HVy.out.below BC.out)).mono ?_
            rintro e z90 ⟨rfl, hb⟩
            replace BC := Lib.hid (BC.out.trans (hb.mono BC.out.size))
            clear hb
            go_wp2_with fail
            clear hHeld
            refine hK.out _ _ (by (try dsimp only); exact ⟨(HBx.out.keep BC.out).c0, (HBx.out.keep BC.out).c1, (HBx.out.keep BC.out).c2, (HBx.out.keep BC.out).c3, (HBx.out.keep BC.out).c4, (HBx.out.keep BC.out).c5, (HBy.out.keep BC.out).c0, (HBy.out.keep BC.out).c1, (HBy.out.keep BC.out).c2, (HBy.out.keep BC.out).c3, (HBy.out.keep BC.out).c4, (HBy.out.keep BC.out).c5⟩) (fun hHeld => ?_)
            clear hK K
            (try simp only [Act.put, List.setIfInBounds_toArray, List.set_cons_zero, List.set_cons_succ])
            refine' take_call 7 ?hi93 (by kernel_rfl) ?hr93
            case hi93 => (simp only [List.getElem?_toArray, List.getElem?_cons_succ, List.getElem?_cons_zero]; rfl)
            intro K hK
            go_simp
            go_at_call 21
            refine (rsub_e xy yy _ HSB.out _ _ _ HOKx.out HOKy.out (HVx.out.below BC.out) (HVy.out.below BC.out)).mono ?_
            rintro e z92 ⟨rfl, hb⟩
            replace BC := Lib.hid (BC.out.trans (hb.mono BC.out.size))
            clear hb
            go_wp2_with fail
            clear hHeld
            refine hK.out _ _ (by (try dsimp only); exact ⟨(HBx.out.keep BC.out).c0, (HBx.out.keep BC.out).c1, (HBx.out.keep BC.out).c2, (HBx.out.keep BC.out).c3, (HBx.out.keep BC.out).c4, (HBx.out.keep BC.out).c5, (HBy.out.keep BC.out).c0, (HBy.out.keep BC.out).c1, (HBy.out.keep BC.out).c2, (HBy.out.keep BC.out).c3, (HBy.out.keep BC.out).c4, (HBy.out.keep BC.out).c5⟩) (fun hHeld => ?_)
            clear hK K
            (try simp only [Act.put, List.setIfInBounds_toArray, List.set_cons_zero, List.set_cons_succ])
            refine' take_any 8 95 (v := _) ?hi94 ?hd94 (by kernel_rfl) (by kernel_rfl) (by kernel_rfl) (fun _ _ _ h => h) ?hy94 hHeld ?hr94
            case hi94 => (simp only [List.getElem?_toArray, List.getElem?_cons_succ, List.getElem?_cons_zero]; rfl)
            case hd94 => rfl
            case hy94 =>
              refine' Or.inl ⟨?hw94, ?hx94⟩
              case hw94 => rfl
              case hx94 => (intro w hSw; (try dsimp only at hSw); go_simp; (try with_reducible rfl))
            (try simp only [Act.put, List.setIfInBounds_toArray, List.set_cons_zero, List.set_cons_succ])
            refine' take_any 9 96 (v := _) ?hi95 ?hd95 (by kernel_rfl) (by kernel_rfl) (by kernel_rfl) (fun _ _ _ h => h) ?hy95 hHeld ?hr95
            case hi95 => (simp only [List.getElem?_toArray, List.getElem?_cons_succ, List.getElem?_cons_zero]; rfl)
            case hd95 => rfl
            case hy95 =>
              refine' Or.inl ⟨?hw95, ?hx95⟩
              case hw95 => rfl
              case hx95 => (intro w hSw; (try dsimp only at hSw); go_simp; (try with_reducible rfl))
            (try simp only [Act.put, List.setIfInBounds_toArray, List.set_cons_zero, List.set_cons_succ])
            refine' take_any 10 97 (v := _) ?hi96 ?hd96 (by kernel_rfl) (by kernel_rfl) (by kernel_rfl) (fun _ _ _ h => h) ?hy96 hHeld ?hr96
            case hi96 => (simp only [List.getElem?_toArray, List.getElem?_cons_succ, List.getElem?_cons_zero]; rfl)
            case hd96 => rfl
            case hy96 =>
              refine' Or.inl ⟨?hw96, ?hx96⟩
              case hw96 => rfl
              case hx96 => (intro w hSw; (try dsimp only at hSw); go_simp; (try with_reducible rfl))
            (try simp only [Act.put, List.setIfInBounds_toArray, List.set_cons_zero, List.set_cons_succ])
            refine' take_any 11 98 (v := _) ?hi97 ?hd97 (by kernel_rfl) (by kernel_rfl) (by kernel_rfl) (fun _ _ _ h => h) ?hy97 hHeld ?hr97
            case hi97 => (simp only [List.getElem?_toArray, List.getElem?_cons_succ, List.getElem?_cons_zero]; rfl)
            case hd97 => rfl
            case hy97 =>
              refine' Or.inl ⟨?hw97, ?hx97⟩
              case hw97 => rfl
              case hx97 => (intro w hSw; (try dsimp only at hSw); go_simp; (try with_reducible rfl))
            (try simp only [Act.put, List.setIfInBounds_toArray, List.set_cons_zero, List.set_cons_succ])
            refine' take_any 12 99 (v := _) ?hi98 ?hd98 (by kernel_rfl) (by kernel_rfl) (by kernel_rfl) (fun _ _ _ h => h) ?hy98 hHeld ?hr98
            case hi98 => (simp only [List.getElem?_toArray, List.getElem?_cons_succ, List.getElem?_cons_zero]; rfl)
            case hd98 => rfl
            case hy98 =>
              refine' Or.inl ⟨?hw98, ?hx98⟩
              case hw98 => rfl
              case hx98 => (intro w hSw; (try dsimp only at hSw); go_simp; (try with_reducible rfl))
            (try simp only [Act.put, List.setIfInBounds_toArray, List.set_cons_zero, List.set_cons_succ])
            refine' take_any 13 100 (v := _) ?hi99 ?hd99 (by kernel_rfl) (by kernel_rfl) (by kernel_rfl) (fun _ _ _ h => h) ?hy99 hHeld ?hr99
            case hi99 => (simp only [List.getElem?_toArray, List.getElem?_cons_succ, List.getElem?_cons_zero]; rfl)
            case hd99 => rfl
            case hy99 =>
              refine' Or.inl ⟨?hw99, ?hx99⟩
              case hw99 => rfl
              case hx99 => (intro w hSw; (try dsimp only at hSw); go_simp; (try with_reducible rfl))
            (try simp only [Act.put, List.setIfInBounds_toArray, List.set_cons_zero, List.set_cons_succ])
            refine' take_any 14 101 (v := _) ?hi100 ?hd100 (by kernel_rfl) (by kernel_rfl) (by kernel_rfl) (fun _ _ _ h => h) ?hy100 hHeld ?hr100
            case hi100 => (simp only [List.getElem?_toArray, List.getElem?_cons_succ, List.getElem?_cons_zero]; rfl)
            case hd100 => rfl
            case hy100 =>
              refine' Or.inl ⟨?hw100, ?hx100⟩
              case hw100 => rfl
              case hx100 => (intro w hSw; (try dsimp only at hSw); go_simp; (try with_reducible rfl))
            (try simp only [Act.put, List.setIfInBounds_toArray, List.set_cons_zero, List.set_cons_succ])
            refine' take_any 15 102 (v := _) ?hi101 ?hd101 (by kernel_rfl) (by kernel_rfl) (by kernel_rfl) (fun _ _ _ h => h) ?hy101 hHeld ?hr101
            case hi101 => (simp only [List.getElem?_toArray, List.getElem?_cons_succ, List.getElem?_cons_zero]; rfl)
            case hd101 => rfl
            case hy101 =>
              refine' Or.inl ⟨?hw101, ?hx101⟩
              case hw101 => rfl
              case hx101 => (intro w hSw; (try dsimp only at hSw); go_simp; (try with_reducible rfl))
            (try simp only [Act.put, List.setIfInBounds_toArray, List.set_cons_zero, List.set_cons_succ])
            refine' take_any 16 103 (v := _) ?hi102 ?hd102 (by kernel_rfl) (by kernel_rfl) (by kernel_rfl) (fun _ _ _ h => h) ?hy102 hHeld ?hr102
            case hi102 => (simp only [List.getElem?_toArray, List.getElem?_cons_succ, List.getElem?_cons_zero]; rfl)
            case hd102 => rfl
            case hy102 =>
              refine' Or.inl ⟨?hw102, ?hx102⟩
              case hw102 => rfl
              case hx102 => (intro w hSw; (try dsimp only at hSw); go_simp; (try with_reducible rfl))
            (try simp only [Act.put, List.setIfInBounds_toArray, List.set_cons_zero, List.set_cons_succ])
            refine' take_any 17 104 (v := _) ?hi103 ?hd103 (by kernel_rfl) (by kernel_rfl) (by kernel_rfl) (fun _ _ _ h => h) ?hy103 hHeld ?hr103
            case hi103 => (simp only [List.getElem?_toArray, List.getElem?_cons_succ, List.getElem?_cons_zero]; rfl)
            case hd103 => rfl
            case hy103 =>
              refine' Or.inl ⟨?hw103, ?hx103⟩
              case hw103 => rfl
              case hx103 => (intro w hSw; (try dsimp only at hSw); go_simp; (try with_reducible rfl))
            (try simp only [Act.put, List.setIfInBounds_toArray, List.set_cons_zero, List.set_cons_succ])
            refine' take_any 18 105 (v := _) ?hi104 ?hd104 (by kernel_rfl) (by kernel_rfl) (by kernel_rfl) (fun _ _ _ h => h) ?hy104 hHeld ?hr104
            case hi104 => (simp only [List.getElem?_toArray, List.getElem?_cons_succ, List.getElem?_cons_zero]; rfl)
            case hd104 => rfl
            case hy104 =>
              refine' Or.inl ⟨?hw104, ?hx104⟩
              case hw104 => rfl
              case hx104 => (intro w hSw; (try dsimp only at hSw); go_simp; (try with_reducible rfl))
            (try simp only [Act.put, List.setIfInBounds_toArray, List.set_cons_zero, List.set_cons_succ])
            refine' take_any 19 106 (v := _) ?hi105 ?hd105 (by kernel_rfl) (by kernel_rfl) (by kernel_rfl) (fun _ _ _ h => h) ?hy105 hHeld ?hr105
            case hi105 => (simp only [List.getElem?_toArray, List.getElem?_cons_succ, List.getElem?_cons_zero]; rfl)
            case hd105 => rfl
            case hy105 =>
              refine' Or.inl ⟨?hw105, ?hx105⟩
              case hw105 => rfl
              case hx105 => (intro w hSw; (try dsimp only at hSw); go_simp; (try with_reducible rfl))
            (try simp only [Act.put, List.setIfInBounds_toArray, List.set_cons_zero, List.set_cons_succ])
            refine' take_any 20 107 (v := _) ?hi106 ?hd106 (by kernel_rfl) (by kernel_rfl) (by kernel_rfl) (fun _ _ _ h => h) ?hy106 hHeld ?hr106
            case hi106 => (simp only [List.getElem?_toArray, List.getElem?_cons_succ, List.getElem?_cons_zero]; rfl)
            case hd106 => rfl
            case hy106 =>
              refine' Or.inl ⟨?hw106, ?hx106⟩
              case hw106 => rfl
              case hx106 => (intro w hSw; (try dsimp only at hSw); go_simp; (try with_reducible rfl))
            (try simp only [Act.put, List.setIfInBounds_toArray, List.set_cons_zero, List.set_cons_succ])
            refine' take_any 21 108 (v := _) ?hi107 ?hd107 (by kernel_rfl) (by kernel_rfl) (by kernel_rfl) (fun _ _ _ h => h) ?hy107 hHeld ?hr107
            case hi107 => (simp only [List.getElem?_toArray, List.getElem?_cons_succ, List.getElem?_cons_zero]; rfl)
            case hd107 => rfl
            case hy107 =>
              refine' Or.inl ⟨?hw107, ?hx107⟩
              case hw107 => rfl
              case hx107 => (intro w hSw; (try dsimp only at hSw); go_simp; (try with_reducible rfl))
            (try simp only [Act.put, List.setIfInBounds_toArray, List.set_cons_zero, List.set_cons_succ])
            refine' take_any 22 109 (v := _) ?hi108 ?hd108 (by kernel_rfl) (by kernel_rfl) (by kernel_rfl) (fun _ _ _ h => h) ?hy108 hHeld ?hr108
            case hi108 => (simp only [List.getElem?_toArray, List.getElem?_cons_succ, List.getElem?_cons_zero]; rfl)
            case hd108 => rfl
            case hy108 =>
              refine' Or.inl ⟨?hw108, ?hx108⟩
              case hw108 => rfl
              case hx108 => (intro w hSw; (try dsimp only at hSw); go_simp; (try with_reducible rfl))
            (try simp only [Act.put, List.setIfInBounds_toArray, List.set_cons_zero, List.set_cons_succ])
            refine' take_any 23 110 (v := _) ?hi109 ?hd109 (by kernel_rfl) (by kernel_rfl) (by kernel_rfl) (fun _ _ _ h => h) ?hy109 hHeld ?hr109
            case hi109 => (simp only [List.getElem?_toArray, List.getElem?_cons_succ, List.getElem?_cons_zero]; rfl)
            case hd109 => rfl
            case hy109 =>
              refine' Or.inl ⟨?hw109, ?hx109⟩
              case hw109 => rfl
              case hx109 => (intro w hSw; (try dsimp only at hSw); go_simp; (try with_reducible rfl))
            (try simp only [Act.put, List.setIfInBounds_toArray, List.set_cons_zero, List.set_cons_succ])
            refine' take_any 24 111 (v := _) ?hi110 ?hd110 (by kernel_rfl) (by kernel_rfl) (by kernel_rfl) (fun _ _ _ h => h) ?hy110 hHeld ?hr110
            case hi110 => (simp only [List.getElem?_toArray, List.getElem?_cons_succ, List.getElem?_cons_zero]; rfl)
            case hd110 => rfl
            case hy110 =>
              refine' Or.inl ⟨?hw110, ?hx110⟩
              case hw110 => rfl
              case hx110 => (intro w hSw; (try dsimp only at hSw); go_simp; (try with_reducible rfl))
            (try simp only [Act.put, List.setIfInBounds_toArray, List.set_cons_zero, List.set_cons_succ])
            refine' take_any 25 112 (v := _) ?hi111 ?hd111 (by kernel_rfl) (by kernel_rfl) (by kernel_rfl) (fun _ _ _ h => h) ?hy111 hHeld ?hr111
            case hi111 => (simp only [List.getElem?_toArray, List.getElem?_cons_succ, List.getElem?_cons_zero]; rfl)
            case hd111 => rfl
            case hy111 =>
              refine' Or.inl ⟨?hw111, ?hx111⟩
              case hw111 => rfl
              case hx111 => (intro w hSw; (try dsimp only at hSw); go_simp; (try with_reducible rfl))
            (try simp only [Act.put, List.setIfInBounds_toArray, List.set_cons_zero, List.set_cons_succ])
            refine' take_any 26 113 (v := _) ?hi112 ?hd112 (by kernel_rfl) (by kernel_rfl) (by kernel_rfl) (fun _ _ _ h => h) ?hy112 hHeld ?hr112
            case hi112 => (simp only [List.getElem?_toArray, List.getElem?_cons_succ, List.getElem?_cons_zero]; rfl)
            case hd112 => rfl
            case hy112 =>
              refine' Or.inl ⟨?hw112, ?hx112⟩
              case hw112 => rfl
              case hx112 => (intro w hSw; (try dsimp only at hSw); go_simp; (try with_reducible rfl))
            (try simp only [Act.put, List.setIfInBounds_toArray, List.set_cons_zero, List.set_cons_succ])
            refine' take_any 27 114 (v := _) ?hi113 ?hd113 (by kernel_rfl) (by kernel_rfl) (by kernel_rfl) (fun _ _ _ h => h) ?hy113 hHeld ?hr113
            case hi113 => (simp only [List.getElem?_toArray, List.getElem?_cons_succ, List.getElem?_cons_zero]; rfl)
            case hd113 => rfl
            case hy113 =>
              refine' Or.inl ⟨?hw113, ?hx113⟩
              case hw113 => rfl
              case hx113 => (intro w hSw; (try dsimp only at hSw); go_simp; (try with_reducible rfl))
            (try simp only [Act.put, List.setIfInBounds_toArray, List.set_cons_zero, List.set_cons_succ])
            refine' take_any 28 115 (v := _) ?hi114 ?hd114 (by kernel_rfl) (by kernel_rfl) (by kernel_rfl) (fun _ _ _ h => h) ?hy114 hHeld ?hr114
            case hi114 => (simp only [List.getElem?_toArray, List.getElem?_cons_succ, List.getElem?_cons_zero]; rfl)
            case hd114 => rfl
            case hy114 =>
              refine' Or.inl ⟨?hw114, ?hx114⟩
              case hw114 => rfl
              case hx114 => (intro w hSw; (try dsimp only at hSw); go_simp; (try with_reducible rfl))
            (try simp only [Act.put, List.setIfInBounds_toArray, List.set_cons_zero, List.set_cons_succ])
            refine' take_any 29 4 (v := _) ?hi115 ?hd115 (by kernel_rfl) (by kernel_rfl) (by kernel_rfl) (fun _ _ _ h => h) ?hy115 hHeld ?hr115
            case hi115 => (simp only [List.getElem?_toArray, List.getElem?_cons_succ, List.getElem?_cons_zero]; rfl)
            case hd115 => rfl
            case hy115 =>
              refine' Or.inl ⟨?hw115, ?hx115⟩
              case hw115 => rfl
              case hx115 => (intro w hSw; (try dsimp only at hSw); go_simp; (try with_reducible rfl))
            (try simp only [Act.put, List.setIfInBounds_toArray, List.set_cons_zero, List.set_cons_succ])
            refine wpAnyH_done (by kernel_rfl) ?_ _
            refine NoPanic.normal ?_
            replace HBx := Lib.hid (HBx.out.keep BC.out)
            replace HVx := Lib.hid (HVx.out.below BC.out)
            replace HBy := Lib.hid (HBy.out.keep BC.out)
            replace HVy := Lib.hid (HVy.out.below BC.out)
            replace HBc := Lib.hid (HBc.out.keep BC.out)
            replace HVc := Lib.hid (HVc.out.below BC.out)
            replace HBe := Lib.hid (HBe.out.keep BC.out)
            replace HVe := Lib.hid (HVe.out.below BC.out)
            replace HBd := Lib.hid (HBd.out.keep BC.out)
            replace HVd := Lib.hid (HVd.out.below BC.out)
            replace HBf := Lib.hid (HBf.out.keep BC.out)
            replace HVf := Lib.hid (HVf.out.below BC.out)
            replace HFN := Lib.hid (HFN.out.below BC.out)
            replace HB := Lib.hid (HB.out.trans (BC.out.mono HB.out.size))
            clear BC
            go_wp2
            go_ret
            exact ⟨rfl, HB.out⟩
end Go.Proofs.YtdjhjapfmbcmlaaDoor
