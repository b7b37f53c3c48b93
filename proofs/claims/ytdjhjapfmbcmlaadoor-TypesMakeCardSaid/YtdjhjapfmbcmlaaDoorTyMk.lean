import Derived.Test.YtdjhjapfmbcmlaaDoorTyLw
import Derived.Test.YtdjhjapfmbcmlaaDoorTyE
import Derived.Test.YtdjhjapfmbcmlaaDoorTyJd
import Derived.Deep.RegionHeld3
namespace Go.Proofs.YtdjhjapfmbcmlaaDoor
open Go.RowKit

set_option maxRecDepth 100000 in
set_option maxHeartbeats 32000000 in
/-- what is made of parts -/
theorem make_law (n : Int) (hn : -9223372036854775808 ≤ n ∧ n ≤ 9223372036854775807) (xy yy : Ty) (vx vy : Value) (w : World) (hFN : FN w) (hx : TyVN N0 w vx xy) (hy : TyVN N0 w vy yy) :
    Calls Tryd.prog 4 #[.int .i64 n, vx, vy] w fun e w' => e = .returned (.bool true) ∧ Below w.heap.size w w' := by
  obtain ⟨xa, xf, xp, xpa, xnp, xpc, xk, xfa, xnf, xfc, rfl⟩ := (hx : TyVN N0 w vx xy).shape
  have HXx := Lib.hid hx
  obtain ⟨ya, yf, yp, ypa, ynp, ypc, yk, yfa, ynf, yfc, rfl⟩ := (hy : TyVN N0 w vy yy).shape
  have HXy := Lib.hid hy
  have HFN := Lib.hid hFN
  have HB := Lib.hid (Below.refl w.heap.size w)
  clear hFN hx hy
  have HLX := Lib.hid (light_sz (t := xy))
  have HLY := Lib.hid (light_sz (t := yy))
  obtain ⟨W1, hW1⟩ : ∃ W, W = w.alloc (.cells #[.bool xa, .int .i64 xf, .int .i64 xp, (.slice xpa xnp xpc), .int .i64 xk, (.slice xfa xnf xfc)] 24) := ⟨_, rfl⟩
  have hb : Below w.heap.size w W1 := by rw [hW1]; exact (Below.refl _ _).alloc (Nat.le_refl _) _
  have HHW1 := Lib.hid hW1
  clear hW1
  have HBx := Lib.hid (show BoxAt W1 w.heap.size xa xf xp (.slice xpa xnp xpc) xk (.slice xfa xnf xfc) by rw [HHW1.out]; exact BoxAt.made _ _ _ _ _ _ _)
  have HSW1 := Lib.hid (show W1.heap.size = w.heap.size + 1 by rw [HHW1.out, alloc_hs])
  have HVx := Lib.hid (HXx.out.below hb)
  clear HXx
  replace HFN := Lib.hid (HFN.out.below hb)
  replace HB := Lib.hid (HB.out.trans (hb.mono HB.out.size))
  clear hb
  replace HXy := Lib.hid (HXy.out.below (show Below w.heap.size w W1 by rw [HHW1.out]; exact (Below.refl _ _).alloc (Nat.le_refl _) _))
  obtain ⟨W2, hW2⟩ : ∃ W, W = W1.alloc (.cells #[.bool ya, .int .i64 yf, .int .i64 yp, (.slice ypa ynp ypc), .int .i64 yk, (.slice yfa ynf yfc)] 24) := ⟨_, rfl⟩
  have hb : Below W1.heap.size W1 W2 := by rw [hW2]; exact (Below.refl _ _).alloc (Nat.le_refl _) _
  have HHW2 := Lib.hid hW2
  clear hW2
  replace HBx := Lib.hid (HBx.out.keep hb)
  replace HVx := Lib.hid (HVx.out.below hb)
  have HBy := Lib.hid (show BoxAt W2 W1.heap.size ya yf yp (.slice ypa ynp ypc) yk (.slice yfa ynf yfc) by rw [HHW2.out]; exact BoxAt.made _ _ _ _ _ _ _)
  replace HBy := Lib.hid (by have h := HBy.out; rw [HSW1.out] at h; exact h)
  have HSW2 := Lib.hid (show W2.heap.size = w.heap.size + 1 + 1 by rw [HHW2.out, alloc_hs, HSW1.out])
  have HVy := Lib.hid (HXy.out.below hb)
  clear HXy
  replace HFN := Lib.hid (HFN.out.below hb)
  replace HB := Lib.hid (HB.out.trans (hb.mono HB.out.size))
  clear hb
  have HTW2 := HHW2.out
  rw [HHW1.out] at HTW2
  have HUW2 := Lib.hid HTW2
  clear HTW2
  go_enter Tryd.func4, Tryd.ntmps4
  go_wp2_with fail
  rw [← HUW2.out]
  refine (awake_p W2 HFN.out).mono ?_
  rintro e w3 ⟨rfl, hb⟩
  replace HBx := Lib.hid (HBx.out.keep hb)
  replace HVx := Lib.hid (HVx.out.below hb)
  replace HBy := Lib.hid (HBy.out.keep hb)
  replace HVy := Lib.hid (HVy.out.below hb)
  replace HFN := Lib.hid (HFN.out.below hb)
  replace HB := Lib.hid (HB.out.trans (hb.mono HB.out.size))
  clear hb
  have x0 := HBx.out.c0
  have x1 := HBx.out.c1
  have x2 := HBx.out.c2
  have x3 := HBx.out.c3
  have x4 := HBx.out.c4
  have x5 := HBx.out.c5
  go_wp2_with fail
  refine (light_any xy _ w3 HVx.out.v).mono ?_
  rintro e w4 ⟨rfl, hb⟩
  replace HBx := Lib.hid (HBx.out.keep hb)
  replace HVx := Lib.hid (HVx.out.below hb)
  replace HBy := Lib.hid (HBy.out.keep hb)
  replace HVy := Lib.hid (HVy.out.below hb)
  replace HFN := Lib.hid (HFN.out.below hb)
  replace HB := Lib.hid (HB.out.trans (hb.mono HB.out.size))
  clear hb
  clear x0 x1 x2 x3 x4 x5
  have y0 := HBy.out.c0
  have y1 := HBy.out.c1
  have y2 := HBy.out.c2
  have y3 := HBy.out.c3
  have y4 := HBy.out.c4
  have y5 := HBy.out.c5
  go_wp2_with fail
  refine (light_any yy _ w4 HVy.out.v).mono ?_
  rintro e w5 ⟨rfl, hb⟩
  replace HBx := Lib.hid (HBx.out.keep hb)
  replace HVx := Lib.hid (HVx.out.below hb)
  replace HBy := Lib.hid (HBy.out.keep hb)
  replace HVy := Lib.hid (HVy.out.below hb)
  replace HFN := Lib.hid (HFN.out.below hb)
  replace HB := Lib.hid (HB.out.trans (hb.mono HB.out.size))
  clear hb
  clear y0 y1 y2 y3 y4 y5
  obtain ⟨lx, hlx⟩ : ∃ b, b = lightT xy := ⟨_, rfl⟩
  obtain ⟨ly, hly⟩ : ∃ b, b = lightT yy := ⟨_, rfl⟩
  rw [← hlx, ← hly]
  replace HLX := Lib.hid (show lx = true → szT xy < 120 by rw [hlx]; exact HLX.out)
  replace HLY := Lib.hid (show ly = true → szT yy < 120 by rw [hly]; exact HLY.out)
  clear hlx hly
  cases lx with
  | false =>
    go_wp2
    go_ret
    exact ⟨rfl, HB.out⟩
  | true =>
    cases ly with
    | false =>
      go_wp2
      go_ret
      exact ⟨rfl, HB.out⟩
    | true =>
      replace HLX := Lib.hid (HLX.out rfl)
      replace HLY := Lib.hid (HLY.out rfl)
      by_cases hneg : n < 0
      · have hneg2 : decide (n < 0) = true := decide_eq_true hneg
        go_wp2
        go_ret
        exact ⟨rfl, HB.out⟩
      have hneg2 : decide (n < 0) = false := decide_eq_false hneg
      obtain ⟨m, hm⟩ : ∃ m, n % 64 = m := ⟨_, rfl⟩
      have hq : n.tmod 64 = m := by rw [← hm]; exact Int.tmod_eq_emod_of_nonneg (by omega)
      have HM := Lib.hid hm
      clear hm
      go_wp2_with fail
      refine (flat_n n m HM.out w5).mono ?_
      rintro e w6 ⟨rfl, hb⟩
      replace HBx := Lib.hid (HBx.out.keep hb)
      replace HVx := Lib.hid (HVx.out.below hb)
      replace HBy := Lib.hid (HBy.out.keep hb)
      replace HVy := Lib.hid (HVy.out.below hb)
      replace HFN := Lib.hid (HFN.out.below hb)
      replace HB := Lib.hid (HB.out.trans (hb.mono HB.out.size))
      clear hb
      go_wp2_with fail
      refine (same_any (flatT m) (flatT m) _ _ w6 (flat_v N0 m _).v (flat_v N0 m _).v).mono ?_
      rintro e w7 ⟨rfl, hb⟩
      replace HBx := Lib.hid (HBx.out.keep hb)
      replace HVx := Lib.hid (HVx.out.below hb)
      replace HBy := Lib.hid (HBy.out.keep hb)
      replace HVy := Lib.hid (HVy.out.below hb)
      replace HFN := Lib.hid (HFN.out.below hb)
      replace HB := Lib.hid (HB.out.trans (hb.mono HB.out.size))
      clear hb
      rw [same_self]
      go_upto_region 7 with fail
      have BC := Lib.hid (show Below w7.heap.size w7 w7.drew from (Below.refl _ _).drew)
      (try dsimp only [List.append])
      refine wp_region_noPanic ?_
      refine wp_region_held_drew (S := (fun w' => w'.cell? ⟨w.heap.size, 0, none⟩ = some (.bool xa) ∧ w'.cell? ⟨w.heap.size, 1, none⟩ = some (.int .i64 xf) ∧ w'.cell? ⟨w.heap.size, 2, none⟩ = some (.int .i64 xp) ∧ w'.cell? ⟨w.heap.size, 3, none⟩ = some ((.slice xpa xnp xpc)) ∧ w'.cell? ⟨w.heap.size, 4, none⟩ = some (.int .i64 xk) ∧ w'.cell? ⟨w.heap.size, 5, none⟩ = some ((.slice xfa xnf xfc)))) (by kernel_rfl) (by (try dsimp only); exact ⟨(HBx.out.keep BC.out).c0, (HBx.out.keep BC.out).c1, (HBx.out.keep BC.out).c2, (HBx.out.keep BC.out).c3, (HBx.out.keep BC.out).c4, (HBx.out.keep BC.out).c5⟩) (fun hHeld => ?_)
      refine' take_any 0 36 (v := _) ?hi1 ?hd1 (by kernel_rfl) (by kernel_rfl) (by kernel_rfl) (fun _ _ _ h => h) ?hy1 hHeld ?hr1
      case hi1 => (simp only [List.getElem?_toArray, List.getElem?_cons_zero]; rfl)
      case hd1 => rfl
      case hy1 =>
        refine' Or.inl ⟨?hw1, ?hx1⟩
        case hw1 => rfl
        case hx1 => (intro w hSw; (try dsimp only at hSw); go_simp; (try with_reducible rfl))
      (try simp only [Act.put, List.setIfInBounds_toArray, List.set_cons_zero, List.set_cons_succ])
      refine' take_any 2 38 (v := _) ?hi2 ?hd2 (by kernel_rfl) (by kernel_rfl) (by kernel_rfl) (fun _ _ _ h => h) ?hy2 hHeld ?hr2
      case hi2 => (simp only [List.getElem?_toArray, List.getElem?_cons_succ, List.getElem?_cons_zero]; rfl)
      case hd2 => rfl
      case hy2 =>
        refine' Or.inl ⟨?hw2, ?hx2⟩
        case hw2 => rfl
        case hx2 => (intro w hSw; (try dsimp only at hSw); go_simp; (try with_reducible rfl))
      (try simp only [Act.put, List.setIfInBounds_toArray, List.set_cons_zero, List.set_cons_succ])
      refine' take_call 1 ?hi4 (by kernel_rfl) ?hr4
      case hi4 => (simp only [List.getElem?_toArray, List.getElem?_cons_succ, List.getElem?_cons_zero]; rfl)
      intro K hK
      go_simp
      go_at_call 23
      refine (listof_p N0 xy _ _ n0 (HVx.out.below BC.out)).mono ?_
      rintro e z3 ⟨⟨v, rfl, hv⟩, hb⟩
      have H1 := Lib.hid hv
      clear hv
      obtain ⟨qa, qf, qp, qpa, qnp, qpc, qk, qfa, qnf, qfc, rfl⟩ := H1.out.shape
      replace BC := Lib.hid (BC.out.trans (hb.mono BC.out.size))
      clear hb
      go_wp2_with fail
      clear hHeld
      refine hK.out _ _ (by (try dsimp only); exact ⟨(HBx.out.keep BC.out).c0, (HBx.out.keep BC.out).c1, (HBx.out.keep BC.out).c2, (HBx.out.keep BC.out).c3, (HBx.out.keep BC.out).c4, (HBx.out.keep BC.out).c5⟩) (fun hHeld => ?_)
      clear hK K
      (try simp only [Act.put, List.setIfInBounds_toArray, List.set_cons_zero, List.set_cons_succ])
      refine' take_call 3 ?hi6 (by kernel_rfl) ?hr6
      case hi6 => (simp only [List.getElem?_toArray, List.getElem?_cons_succ, List.getElem?_cons_zero]; rfl)
      intro K hK
      go_simp
      go_at_call 24
      refine (listof_any N0 xy _ _ n0 (HVx.out.below BC.out)).mono ?_
      rintro e z5 ⟨⟨v, rfl, hv⟩, hb⟩
      have H2 := Lib.hid hv
      clear hv
      obtain ⟨ra, rf, rp, rpa, rnp, rpc, rk, rfa, rnf, rfc, rfl⟩ := H2.out.shape
      replace H1 := Lib.hid (H1.out.below hb)
      replace BC := Lib.hid (BC.out.trans (hb.mono BC.out.size))
      clear hb
      go_wp2_with fail
      clear hHeld
      refine hK.out _ _ (by (try dsimp only); exact ⟨(HBx.out.keep BC.out).c0, (HBx.out.keep BC.out).c1, (HBx.out.keep BC.out).c2, (HBx.out.keep BC.out).c3, (HBx.out.keep BC.out).c4, (HBx.out.keep BC.out).c5⟩) (fun hHeld => ?_)
      clear hK K
      (try simp only [Act.put, List.setIfInBounds_toArray, List.set_cons_zero, List.set_cons_succ])
      refine' take_call 4 ?hi8 (by kernel_rfl) ?hr8
      case hi8 => (simp only [List.getElem?_toArray, List.getElem?_cons_succ, List.getElem?_cons_zero]; rfl)
      intro K hK
      go_simp
      go_at_call 13
      refine (same_any _ _ _ _ _ H1.out.v H2.out.v).mono ?_
      rintro e z7 ⟨rfl, hb⟩
      rw [same_self]
      clear H1 H2
      replace BC := Lib.hid (BC.out.trans (hb.mono BC.out.size))
      clear hb
      go_wp2_with fail
      clear hHeld
      refine hK.out _ _ (by (try dsimp only); exact ⟨(HBx.out.keep BC.out).c0, (HBx.out.keep BC.out).c1, (HBx.out.keep BC.out).c2, (HBx.out.keep BC.out).c3, (HBx.out.keep BC.out).c4, (HBx.out.keep BC.out).c5⟩) (fun hHeld => ?_)
      clear hK K
      (try simp only [Act.put, List.setIfInBounds_toArray, List.set_cons_zero, List.set_cons_succ])
      refine' take_any 5 11 (v := _) ?hi9 ?hd9 (by kernel_rfl) (by kernel_rfl) (by kernel_rfl) (fun _ _ _ h => h) ?hy9 hHeld ?hr9
      case hi9 => (simp only [List.getElem?_toArray, List.getElem?_cons_succ, List.getElem?_cons_zero]; rfl)
      case hd9 => rfl
      case hy9 =>
        refine' Or.inl ⟨?hw9, ?hx9⟩
        case hw9 => rfl
        case hx9 => (intro w hSw; (try dsimp only at hSw); go_simp; (try with_reducible rfl))
      (try simp only [Act.put, List.setIfInBounds_toArray, List.set_cons_zero, List.set_cons_succ])
      refine wpAnyH_done (by kernel_rfl) ?_ _
      refine NoPanic.normal ?_
      replace HBx := Lib.hid (HBx.out.keep BC.out)
      replace HVx := Lib.hid (HVx.out.below BC.out)
      replace HBy := Lib.hid (HBy.out.keep BC.out)
      replace HVy := Lib.hid (HVy.out.below BC.out)
      replace HFN := Lib.hid (HFN.out.below BC.out)
      replace HB := Lib.hid (HB.out.trans (BC.out.mono HB.out.size))
      clear BC
      go_upto_region 8 with fail
      go_cut [12] from 41 to 48 (fun v wx => v = .bool true ∧ Below z7.heap.size z7 wx)
      case first =>
        rename_i hR hM
        have BC := Lib.hid (show Below z7.heap.size z7 z7.drew from (Below.refl _ _).drew)
        (try dsimp only [List.append])
        refine wp_region_noPanic ?_
        refine wp_region_held_drew (S := (fun w' => w'.cell? ⟨w.heap.size, 0, none⟩ = some (.bool xa) ∧ w'.cell? ⟨w.heap.size, 1, none⟩ = some (.int .i64 xf) ∧ w'.cell? ⟨w.heap.size, 2, none⟩ = some (.int .i64 xp) ∧ w'.cell? ⟨w.heap.size, 3, none⟩ = some ((.slice xpa xnp xpc)) ∧ w'.cell? ⟨w.heap.size, 4, none⟩ = some (.int .i64 xk) ∧ w'.cell? ⟨w.heap.size, 5, none⟩ = some ((.slice xfa xnf xfc)) ∧ w'.cell? ⟨w.heap.size + 1, 0, none⟩ = some (.bool ya) ∧ w'.cell? ⟨w.heap.size + 1, 1, none⟩ = some (.int .i64 yf) ∧ w'.cell? ⟨w.heap.size + 1, 2, none⟩ = some (.int .i64 yp) ∧ w'.cell? ⟨w.heap.size + 1, 3, none⟩ = some ((.slice ypa ynp ypc)) ∧ w'.cell? ⟨w.heap.size + 1, 4, none⟩ = some (.int .i64 yk) ∧ w'.cell? ⟨w.heap.size + 1, 5, none⟩ = some ((.slice yfa ynf yfc)))) (by kernel_rfl) (by (try dsimp only); exact ⟨(HBx.out.keep BC.out).c0, (HBx.out.keep BC.out).c1, (HBx.out.keep BC.out).c2, (HBx.out.keep BC.out).c3, (HBx.out.keep BC.out).c4, (HBx.out.keep BC.out).c5, (HBy.out.keep BC.out).c0, (HBy.out.keep BC.out).c1, (HBy.out.keep BC.out).c2, (HBy.out.keep BC.out).c3, (HBy.out.keep BC.out).c4, (HBy.out.keep BC.out).c5⟩) (fun hHeld => ?_)
        refine' take_any 0 41 (v := _) ?hi10 ?hd10 (by kernel_rfl) (by kernel_rfl) (by kernel_rfl) (fun _ _ _ h => h) ?hy10 hHeld ?hr10
        case hi10 => (simp only [List.getElem?_toArray, List.getElem?_cons_zero]; rfl)
        case hd10 => rfl
        case hy10 =>
          refine' Or.inl ⟨?hw10, ?hx10⟩
          case hw10 => rfl
          case hx10 => (intro w hSw; (try dsimp only at hSw); go_simp; (try with_reducible rfl))
        (try simp only [Act.put, List.setIfInBounds_toArray, List.set_cons_zero, List.set_cons_succ])
        refine' take_any 1 42 (v := _) ?hi11 ?hd11 (by kernel_rfl) (by kernel_rfl) (by kernel_rfl) (fun _ _ _ h => h) ?hy11 hHeld ?hr11
        case hi11 => (simp only [List.getElem?_toArray, List.getElem?_cons_succ, List.getElem?_cons_zero]; rfl)
        case hd11 => rfl
        case hy11 =>
          refine' Or.inl ⟨?hw11, ?hx11⟩
          case hw11 => rfl
          case hx11 => (intro w hSw; (try dsimp only at hSw); go_simp; (try with_reducible rfl))
        (try simp only [Act.put, List.setIfInBounds_toArray, List.set_cons_zero, List.set_cons_succ])
        refine' take_any 3 44 (v := _) ?hi12 ?hd12 (by kernel_rfl) (by kernel_rfl) (by kernel_rfl) (fun _ _ _ h => h) ?hy12 hHeld ?hr12
        case hi12 => (simp only [List.getElem?_toArray, List.getElem?_cons_succ, List.getElem?_cons_zero]; rfl)
        case hd12 => rfl
        case hy12 =>
          refine' Or.inl ⟨?hw12, ?hx12⟩
          case hw12 => rfl
          case hx12 => (intro w hSw; (try dsimp only at hSw); go_simp; (try with_reducible rfl))
        (try simp only [Act.put, List.setIfInBounds_toArray, List.set_cons_zero, List.set_cons_succ])
        refine' take_any 4 45 (v := _) ?hi13 ?hd13 (by kernel_rfl) (by kernel_rfl) (by kernel_rfl) (fun _ _ _ h => h) ?hy13 hHeld ?hr13
        case hi13 => (simp only [List.getElem?_toArray, List.getElem?_cons_succ, List.getElem?_cons_zero]; rfl)
        case hd13 => rfl
        case hy13 =>
          refine' Or.inl ⟨?hw13, ?hx13⟩
          case hw13 => rfl
          case hx13 => (intro w hSw; (try dsimp only at hSw); go_simp; (try with_reducible rfl))
        (try simp only [Act.put, List.setIfInBounds_toArray, List.set_cons_zero, List.set_cons_succ])
        refine' take_two 2 5 ?hi26 ?hj26 (by kernel_rfl) ?ha26 ?hb26
        case hi26 => (simp only [List.getElem?_toArray, List.getElem?_cons_succ, List.getElem?_cons_zero]; rfl)
        case hj26 => (simp only [List.getElem?_toArray, List.getElem?_cons_succ, List.getElem?_cons_zero]; rfl)
        case ha26 =>
          intro K hK
          go_simp
          go_at_call 25
          refine (pair_p N0 xy yy _ _ _ n0 (HVx.out.below BC.out) (HVy.out.below BC.out)).mono ?_
          rintro e z14 ⟨⟨v, rfl, hv⟩, hb⟩
          have H1 := Lib.hid hv
          clear hv
          obtain ⟨qa, qf, qp, qpa, qnp, qpc, qk, qfa, qnf, qfc, rfl⟩ := H1.out.shape
          replace BC := Lib.hid (BC.out.trans (hb.mono BC.out.size))
          clear hb
          go_wp2_with fail
          clear hHeld
          refine hK.out _ _ (by (try dsimp only); exact ⟨(HBx.out.keep BC.out).c0, (HBx.out.keep BC.out).c1, (HBx.out.keep BC.out).c2, (HBx.out.keep BC.out).c3, (HBx.out.keep BC.out).c4, (HBx.out.keep BC.out).c5, (HBy.out.keep BC.out).c0, (HBy.out.keep BC.out).c1, (HBy.out.keep BC.out).c2, (HBy.out.keep BC.out).c3, (HBy.out.keep BC.out).c4, (HBy.out.keep BC.out).c5⟩) (fun hHeld => ?_)
          clear hK K
          (try simp only [Act.put, List.setIfInBounds_toArray, List.set_cons_zero, List.set_cons_succ])
          refine' take_call 5 ?hi15 (by kernel_rfl) ?hr15
          case hi15 => (simp only [List.getElem?_toArray, List.getElem?_cons_succ, List.getElem?_cons_zero]; rfl)
          intro K hK
          go_simp
          have H2 := Lib.hid (TyVN.mk (a := false) (f := 0) (p := 1) (g := 0) (TyS.two_alloc (M := N0) (fun _ h => h.elim) (HVx.out.below BC.out) (HVy.out.below BC.out)) (.mkNil none 0))
          replace H1 := Lib.hid (H1.out.below ((Below.refl _ _).alloc (Nat.le_refl _) (.cells #[.bool xa, .int .i64 xf, .int .i64 xp, (.slice xpa xnp xpc), .int .i64 xk, (.slice xfa xnf xfc), .bool ya, .int .i64 yf, .int .i64 yp, (.slice ypa ynp ypc), .int .i64 yk, (.slice yfa ynf yfc)] 24)))
          replace BC := Lib.hid (BC.out.alloc BC.out.size (.cells #[.bool xa, .int .i64 xf, .int .i64 xp, (.slice xpa xnp xpc), .int .i64 xk, (.slice xfa xnf xfc), .bool ya, .int .i64 yf, .int .i64 yp, (.slice ypa ynp ypc), .int .i64 yk, (.slice yfa ynf yfc)] 24))
          clear hHeld
          refine hK.out _ _ (by (try dsimp only); exact ⟨(HBx.out.keep BC.out).c0, (HBx.out.keep BC.out).c1, (HBx.out.keep BC.out).c2, (HBx.out.keep BC.out).c3, (HBx.out.keep BC.out).c4, (HBx.out.keep BC.out).c5, (HBy.out.keep BC.out).c0, (HBy.out.keep BC.out).c1, (HBy.out.keep BC.out).c2, (HBy.out.keep BC.out).c3, (HBy.out.keep BC.out).c4, (HBy.out.keep BC.out).c5⟩) (fun hHeld => ?_)
          clear hK K
          (try simp only [Act.put, List.setIfInBounds_toArray, List.set_cons_zero, List.set_cons_succ])
          refine' take_any 6 47 (v := _) ?hi16 ?hd16 (by kernel_rfl) (by kernel_rfl) (by kernel_rfl) (fun _ _ _ h => h) ?hy16 hHeld ?hr16
          case hi16 => (simp only [List.getElem?_toArray, List.getElem?_cons_succ, List.getElem?_cons_zero]; rfl)
          case hd16 => rfl
          case hy16 =>
            refine' Or.inl ⟨?hw16, ?hx16⟩
            case hw16 => rfl
            case hx16 => (intro w hSw; (try dsimp only at hSw); go_simp; (try with_reducible rfl))
          (try simp only [Act.put, List.setIfInBounds_toArray, List.set_cons_zero, List.set_cons_succ])
          refine' take_call 7 ?hi18 (by kernel_rfl) ?hr18
          case hi18 => (simp only [List.getElem?_toArray, List.getElem?_cons_succ, List.getElem?_cons_zero]; rfl)
          intro K hK
          go_simp
          go_at_call 13
          refine (same_any _ _ _ _ _ H1.out.v H2.out.v).mono ?_
          rintro e z17 ⟨rfl, hb⟩
          rw [same_self]
          clear H1 H2
          replace BC := Lib.hid (BC.out.trans (hb.mono BC.out.size))
          clear hb
          go_wp2_with fail
          clear hHeld
          refine hK.out _ _ (by (try dsimp only); exact ⟨(HBx.out.keep BC.out).c0, (HBx.out.keep BC.out).c1, (HBx.out.keep BC.out).c2, (HBx.out.keep BC.out).c3, (HBx.out.keep BC.out).c4, (HBx.out.keep BC.out).c5, (HBy.out.keep BC.out).c0, (HBy.out.keep BC.out).c1, (HBy.out.keep BC.out).c2, (HBy.out.keep BC.out).c3, (HBy.out.keep BC.out).c4, (HBy.out.keep BC.out).c5⟩) (fun hHeld => ?_)
          clear hK K
          (try simp only [Act.put, List.setIfInBounds_toArray, List.set_cons_zero, List.set_cons_succ])
          refine' take_any 8 12 (v := _) ?hi19 ?hd19 (by kernel_rfl) (by kernel_rfl) (by kernel_rfl) (fun _ _ _ h => h) ?hy19 hHeld ?hr19
          case hi19 => (simp only [List.getElem?_toArray, List.getElem?_cons_succ, List.getElem?_cons_zero]; rfl)
          case hd19 => rfl
          case hy19 =>
            refine' Or.inl ⟨?hw19, ?hx19⟩
            case hw19 => rfl
            case hx19 => (intro w hSw; (try dsimp only at hSw); go_simp; (try with_reducible rfl))
          (try simp only [Act.put, List.setIfInBounds_toArray, List.set_cons_zero, List.set_cons_succ])
          refine wpAnyH_done (by kernel_rfl) ?_ _
          refine NoPanic.normal ?_
          refine hM _ _ (Met.intro (hR _ _ ?_))
          (repeat apply Exists.intro)
          exact ⟨⟨rfl, BC.out⟩, rfl⟩
        case hb26 =>
          intro K hK
          go_simp
          have H2 := Lib.hid (TyVN.mk (a := false) (f := 0) (p := 1) (g := 0) (TyS.two_alloc (M := N0) (fun _ h => h.elim) (HVx.out.below BC.out) (HVy.out.below BC.out)) (.mkNil none 0))
          replace BC := Lib.hid (BC.out.alloc BC.out.size (.cells #[.bool xa, .int .i64 xf, .int .i64 xp, (.slice xpa xnp xpc), .int .i64 xk, (.slice xfa xnf xfc), .bool ya, .int .i64 yf, .int .i64 yp, (.slice ypa ynp ypc), .int .i64 yk, (.slice yfa ynf yfc)] 24))
          clear hHeld
          refine hK.out _ _ (by (try dsimp only); exact ⟨(HBx.out.keep BC.out).c0, (HBx.out.keep BC.out).c1, (HBx.out.keep BC.out).c2, (HBx.out.keep BC.out).c3, (HBx.out.keep BC.out).c4, (HBx.out.keep BC.out).c5, (HBy.out.keep BC.out).c0, (HBy.out.keep BC.out).c1, (HBy.out.keep BC.out).c2, (HBy.out.keep BC.out).c3, (HBy.out.keep BC.out).c4, (HBy.out.keep BC.out).c5⟩) (fun hHeld => ?_)
          clear hK K
          (try simp only [Act.put, List.setIfInBounds_toArray, List.set_cons_zero, List.set_cons_succ])
          refine' take_any 6 47 (v := _) ?hi20 ?hd20 (by kernel_rfl) (by kernel_rfl) (by kernel_rfl) (fun _ _ _ h => h) ?hy20 hHeld ?hr20
          case hi20 => (simp only [List.getElem?_toArray, List.getElem?_cons_succ, List.getElem?_cons_zero]; rfl)
          case hd20 => rfl
          case hy20 =>
            refine' Or.inl ⟨?hw20, ?hx20⟩
            case hw20 => rfl
            case hx20 => (intro w hSw; (try dsimp only at hSw); go_simp; (try with_reducible rfl))
          (try simp only [Act.put, List.setIfInBounds_toArray, List.set_cons_zero, List.set_cons_succ])
          refine' take_call 2 ?hi22 (by kernel_rfl) ?hr22
          case hi22 => (simp only [List.getElem?_toArray, List.getElem?_cons_succ, List.getElem?_cons_zero]; rfl)
          intro K hK
          go_simp
          go_at_call 25
          refine (pair_p N0 xy yy _ _ _ n0 (HVx.out.below BC.out) (HVy.out.below BC.out)).mono ?_
          rintro e z21 ⟨⟨v, rfl, hv⟩, hb⟩
          have H1 := Lib.hid hv
          clear hv
          obtain ⟨qa, qf, qp, qpa, qnp, qpc, qk, qfa, qnf, qfc, rfl⟩ := H1.out.shape
          replace H2 := Lib.hid (H2.out.below hb)
          replace BC := Lib.hid (BC.out.trans (hb.mono BC.out.size))
          clear hb
          go_wp2_with fail
          clear hHeld
          refine hK.out _ _ (by (try dsimp only); exact ⟨(HBx.out.keep BC.out).c0, (HBx.out.keep BC.out).c1, (HBx.out.keep BC.out).c2, (HBx.out.keep BC.out).c3, (HBx.out.keep BC.out).c4, (HBx.out.keep BC.out).c5, (HBy.out.keep BC.out).c0, (HBy.out.keep BC.out).c1, (HBy.out.keep BC.out).c2, (HBy.out.keep BC.out).c3, (HBy.out.keep BC.out).c4, (HBy.out.keep BC.out).c5⟩) (fun hHeld => ?_)
          clear hK K
          (try simp only [Act.put, List.setIfInBounds_toArray, List.set_cons_zero, List.set_cons_succ])
          refine' take_call 7 ?hi24 (by kernel_rfl) ?hr24
          case hi24 => (simp only [List.getElem?_toArray, List.getElem?_cons_succ, List.getElem?_cons_zero]; rfl)
          intro K hK
          go_simp
          go_at_call 13
          refine (same_any _ _ _ _ _ H1.out.v H2.out.v).mono ?_
          rintro e z23 ⟨rfl, hb⟩
          rw [same_self]
          clear H1 H2
          replace BC := Lib.hid (BC.out.trans (hb.mono BC.out.size))
          clear hb
          go_wp2_with fail
          clear hHeld
          refine hK.out _ _ (by (try dsimp only); exact ⟨(HBx.out.keep BC.out).c0, (HBx.out.keep BC.out).c1, (HBx.out.keep BC.out).c2, (HBx.out.keep BC.out).c3, (HBx.out.keep BC.out).c4, (HBx.out.keep BC.out).c5, (HBy.out.keep BC.out).c0, (HBy.out.keep BC.out).c1, (HBy.out.keep BC.out).c2, (HBy.out.keep BC.out).c3, (HBy.out.keep BC.out).c4, (HBy.out.keep BC.out).c5⟩) (fun hHeld => ?_)
          clear hK K
          (try simp only [Act.put, List.setIfInBounds_toArray, List.set_cons_zero, List.set_cons_succ])
          refine' take_any 8 12 (v := _) ?hi25 ?hd25 (by kernel_rfl) (by kernel_rfl) (by kernel_rfl) (fun _ _ _ h => h) ?hy25 hHeld ?hr25
          case hi25 => (simp only [List.getElem?_toArray, List.getElem?_cons_succ, List.getElem?_cons_zero]; rfl)
          case hd25 => rfl
          case hy25 =>
            refine' Or.inl ⟨?hw25, ?hx25⟩
            case hw25 => rfl
            case hx25 => (intro w hSw; (try dsimp only at hSw); go_simp; (try with_reducible rfl))
          (try simp only [Act.put, List.setIfInBounds_toArray, List.set_cons_zero, List.set_cons_succ])
          refine wpAnyH_done (by kernel_rfl) ?_ _
          refine NoPanic.normal ?_
          refine hM _ _ (Met.intro (hR _ _ ?_))
          (repeat apply Exists.intro)
          exact ⟨⟨rfl, BC.out⟩, rfl⟩
      case rest =>
        obtain ⟨rfl, hbc⟩ := hcut
        have BC := Lib.hid hbc
        clear hbc
        replace HBx := Lib.hid (HBx.out.keep BC.out)
        replace HVx := Lib.hid (HVx.out.below BC.out)
        replace HBy := Lib.hid (HBy.out.keep BC.out)
        replace HVy := Lib.hid (HVy.out.below BC.out)
        replace HFN := Lib.hid (HFN.out.below BC.out)
        replace HB := Lib.hid (HB.out.trans (BC.out.mono HB.out.size))
        clear BC
        go_upto_region 9 with fail
        go_cut [13] from 49 to 59 (fun v wx => v = .bool true ∧ Below wc.heap.size wc wx)
        case first =>
          rename_i hR hM
          have BC := Lib.hid (show Below wc.heap.size wc wc.drew from (Below.refl _ _).drew)
          (try dsimp only [List.append])
          refine wp_region_noPanic ?_
          refine wp_region_held_drew (S := (fun w' => w'.cell? ⟨w.heap.size, 0, none⟩ = some (.bool xa) ∧ w'.cell? ⟨w.heap.size, 1, none⟩ = some (.int .i64 xf) ∧ w'.cell? ⟨w.heap.size, 2, none⟩ = some (.int .i64 xp) ∧ w'.cell? ⟨w.heap.size, 3, none⟩ = some ((.slice xpa xnp xpc)) ∧ w'.cell? ⟨w.heap.size, 4, none⟩ = some (.int .i64 xk) ∧ w'.cell? ⟨w.heap.size, 5, none⟩ = some ((.slice xfa xnf xfc)) ∧ w'.cell? ⟨w.heap.size + 1, 0, none⟩ = some (.bool ya) ∧ w'.cell? ⟨w.heap.size + 1, 1, none⟩ = some (.int .i64 yf) ∧ w'.cell? ⟨w.heap.size + 1, 2, none⟩ = some (.int .i64 yp) ∧ w'.cell? ⟨w.heap.size + 1, 3, none⟩ = some ((.slice ypa ynp ypc)) ∧ w'.cell? ⟨w.heap.size + 1, 4, none⟩ = some (.int .i64 yk) ∧ w'.cell? ⟨w.heap.size + 1, 5, none⟩ = some ((.slice yfa ynf yfc)))) (by kernel_rfl) (by (try dsimp only); exact ⟨(HBx.out.keep BC.out).c0, (HBx.out.keep BC.out).c1, (HBx.out.keep BC.out).c2, (HBx.out.keep BC.out).c3, (HBx.out.keep BC.out).c4, (HBx.out.keep BC.out).c5, (HBy.out.keep BC.out).c0, (HBy.out.keep BC.out).c1, (HBy.out.keep BC.out).c2, (HBy.out.keep BC.out).c3, (HBy.out.keep BC.out).c4, (HBy.out.keep BC.out).c5⟩) (fun hHeld => ?_)
          refine' take_any 0 49 (v := _) ?hi27 ?hd27 (by kernel_rfl) (by kernel_rfl) (by kernel_rfl) (fun _ _ _ h => h) ?hy27 hHeld ?hr27
          case hi27 => (simp only [List.getElem?_toArray, List.getElem?_cons_zero]; rfl)
          case hd27 => rfl
          case hy27 =>
            refine' Or.inl ⟨?hw27, ?hx27⟩
            case hw27 => rfl
            case hx27 => (intro w hSw; (try dsimp only at hSw); go_simp; (try with_reducible rfl))
          (try simp only [Act.put, List.setIfInBounds_toArray, List.set_cons_zero, List.set_cons_succ])
          refine' take_any 1 50 (v := _) ?hi28 ?hd28 (by kernel_rfl) (by kernel_rfl) (by kernel_rfl) (fun _ _ _ h => h) ?hy28 hHeld ?hr28
          case hi28 => (simp only [List.getElem?_toArray, List.getElem?_cons_succ, List.getElem?_cons_zero]; rfl)
          case hd28 => rfl
          case hy28 =>
            refine' Or.inl ⟨?hw28, ?hx28⟩
            case hw28 => rfl
            case hx28 => (intro w hSw; (try dsimp only at hSw); go_simp; (try with_reducible rfl))
          (try simp only [Act.put, List.setIfInBounds_toArray, List.set_cons_zero, List.set_cons_succ])
          refine' take_any 2 51 (v := _) ?hi29 ?hd29 (by kernel_rfl) (by kernel_rfl) (by kernel_rfl) (fun _ _ _ h => h) ?hy29 hHeld ?hr29
          case hi29 => (simp only [List.getElem?_toArray, List.getElem?_cons_succ, List.getElem?_cons_zero]; rfl)
          case hd29 => rfl
          case hy29 =>
            refine' Or.inl ⟨?hw29, ?hx29⟩
            case hw29 => rfl
            case hx29 => (intro w hSw; (try dsimp only at hSw); go_simp; (try with_reducible rfl))
          (try simp only [Act.put, List.setIfInBounds_toArray, List.set_cons_zero, List.set_cons_succ])
          refine' take_any 5 54 (v := _) ?hi30 ?hd30 (by kernel_rfl) (by kernel_rfl) (by kernel_rfl) (fun _ _ _ h => h) ?hy30 hHeld ?hr30
          case hi30 => (simp only [List.getElem?_toArray, List.getElem?_cons_succ, List.getElem?_cons_zero]; rfl)
          case hd30 => rfl
          case hy30 =>
            refine' Or.inl ⟨?hw30, ?hx30⟩
            case hw30 => rfl
            case hx30 => (intro w hSw; (try dsimp only at hSw); go_simp; (try with_reducible rfl))
          (try simp only [Act.put, List.setIfInBounds_toArray, List.set_cons_zero, List.set_cons_succ])
          refine' take_any 6 55 (v := _) ?hi31 ?hd31 (by kernel_rfl) (by kernel_rfl) (by kernel_rfl) (fun _ _ _ h => h) ?hy31 hHeld ?hr31
          case hi31 => (simp only [List.getElem?_toArray, List.getElem?_cons_succ, List.getElem?_cons_zero]; rfl)
          case hd31 => rfl
          case hy31 =>
            refine' Or.inl ⟨?hw31, ?hx31⟩
            case hw31 => rfl
            case hx31 => (intro w hSw; (try dsimp only at hSw); go_simp; (try with_reducible rfl))
          (try simp only [Act.put, List.setIfInBounds_toArray, List.set_cons_zero, List.set_cons_succ])
          refine' take_any 7 56 (v := _) ?hi32 ?hd32 (by kernel_rfl) (by kernel_rfl) (by kernel_rfl) (fun _ _ _ h => h) ?hy32 hHeld ?hr32
          case hi32 => (simp only [List.getElem?_toArray, List.getElem?_cons_succ, List.getElem?_cons_zero]; rfl)
          case hd32 => rfl
          case hy32 =>
            refine' Or.inl ⟨?hw32, ?hx32⟩
            case hw32 => rfl
            case hx32 => (intro w hSw; (try dsimp only at hSw); go_simp; (try with_reducible rfl))
          (try simp only [Act.put, List.setIfInBounds_toArray, List.set_cons_zero, List.set_cons_succ])
          refine' take_two 3 8 ?hi53 ?hj53 (by kernel_rfl) ?ha53 ?hb53
          case hi53 => (simp only [List.getElem?_toArray, List.getElem?_cons_succ, List.getElem?_cons_zero]; rfl)
          case hj53 => (simp only [List.getElem?_toArray, List.getElem?_cons_succ, List.getElem?_cons_zero]; rfl)
          case ha53 =>
            intro K hK
            go_simp
            have h8 := TyS.two_alloc (M := N0) (fun _ h => h.elim) (HVy.out.below BC.out) (HVy.out.below BC.out)
            have HL := Lib.hid h8
            clear h8
            replace BC := Lib.hid (BC.out.alloc BC.out.size (.cells #[.bool ya, .int .i64 yf, .int .i64 yp, (.slice ypa ynp ypc), .int .i64 yk, (.slice yfa ynf yfc), .bool ya, .int .i64 yf, .int .i64 yp, (.slice ypa ynp ypc), .int .i64 yk, (.slice yfa ynf yfc)] 24))
            clear hHeld
            refine hK.out _ _ (by (try dsimp only); exact ⟨(HBx.out.keep BC.out).c0, (HBx.out.keep BC.out).c1, (HBx.out.keep BC.out).c2, (HBx.out.keep BC.out).c3, (HBx.out.keep BC.out).c4, (HBx.out.keep BC.out).c5, (HBy.out.keep BC.out).c0, (HBy.out.keep BC.out).c1, (HBy.out.keep BC.out).c2, (HBy.out.keep BC.out).c3, (HBy.out.keep BC.out).c4, (HBy.out.keep BC.out).c5⟩) (fun hHeld => ?_)
            clear hK K
            (try simp only [Act.put, List.setIfInBounds_toArray, List.set_cons_zero, List.set_cons_succ])
            refine' take_two 4 8 ?hi45 ?hj45 (by kernel_rfl) ?ha45 ?hb45
            case hi45 => (simp only [List.getElem?_toArray, List.getElem?_cons_succ, List.getElem?_cons_zero]; rfl)
            case hj45 => (simp only [List.getElem?_toArray, List.getElem?_cons_succ, List.getElem?_cons_zero]; rfl)
            case ha45 =>
              intro K hK
              go_simp
              go_at_call 26
              refine (fun_two xy yy _ _ _ _ (HVx.out.below BC.out) HL.out (fun h => by cases h)).mono ?_
              rintro e z33 ⟨⟨v, rfl, hv⟩, hb⟩
              have H1 := Lib.hid hv
              clear hv HL
              obtain ⟨qa, qf, qp, qpa, qnp, qpc, qk, qfa, qnf, qfc, rfl⟩ := H1.out.shape
              replace BC := Lib.hid (BC.out.trans (hb.mono BC.out.size))
              clear hb
              go_wp2_with fail
              clear hHeld
              refine hK.out _ _ (by (try dsimp only); exact ⟨(HBx.out.keep BC.out).c0, (HBx.out.keep BC.out).c1, (HBx.out.keep BC.out).c2, (HBx.out.keep BC.out).c3, (HBx.out.keep BC.out).c4, (HBx.out.keep BC.out).c5, (HBy.out.keep BC.out).c0, (HBy.out.keep BC.out).c1, (HBy.out.keep BC.out).c2, (HBy.out.keep BC.out).c3, (HBy.out.keep BC.out).c4, (HBy.out.keep BC.out).c5⟩) (fun hHeld => ?_)
              clear hK K
              (try simp only [Act.put, List.setIfInBounds_toArray, List.set_cons_zero, List.set_cons_succ])
              refine' take_call 8 ?hi34 (by kernel_rfl) ?hr34
              case hi34 => (simp only [List.getElem?_toArray, List.getElem?_cons_succ, List.getElem?_cons_zero]; rfl)
              intro K hK
              go_simp
              have h8 := TyVN.mk (a := false) (f := 0) (p := 0) (g := 1) (.mkNil none 0) (TyS.three_alloc (HVy.out.below BC.out) (HVy.out.below BC.out) (HVx.out.below BC.out))
              have H2 := Lib.hid h8
              clear h8
              replace H1 := Lib.hid (H1.out.below ((Below.refl _ _).alloc (Nat.le_refl _) (.cells #[.bool ya, .int .i64 yf, .int .i64 yp, (.slice ypa ynp ypc), .int .i64 yk, (.slice yfa ynf yfc), .bool ya, .int .i64 yf, .int .i64 yp, (.slice ypa ynp ypc), .int .i64 yk, (.slice yfa ynf yfc), .bool xa, .int .i64 xf, .int .i64 xp, (.slice xpa xnp xpc), .int .i64 xk, (.slice xfa xnf xfc)] 24)))
              replace BC := Lib.hid (BC.out.alloc BC.out.size (.cells #[.bool ya, .int .i64 yf, .int .i64 yp, (.slice ypa ynp ypc), .int .i64 yk, (.slice yfa ynf yfc), .bool ya, .int .i64 yf, .int .i64 yp, (.slice ypa ynp ypc), .int .i64 yk, (.slice yfa ynf yfc), .bool xa, .int .i64 xf, .int .i64 xp, (.slice xpa xnp xpc), .int .i64 xk, (.slice xfa xnf xfc)] 24))
              clear hHeld
              refine hK.out _ _ (by (try dsimp only); exact ⟨(HBx.out.keep BC.out).c0, (HBx.out.keep BC.out).c1, (HBx.out.keep BC.out).c2, (HBx.out.keep BC.out).c3, (HBx.out.keep BC.out).c4, (HBx.out.keep BC.out).c5, (HBy.out.keep BC.out).c0, (HBy.out.keep BC.out).c1, (HBy.out.keep BC.out).c2, (HBy.out.keep BC.out).c3, (HBy.out.keep BC.out).c4, (HBy.out.keep BC.out).c5⟩) (fun hHeld => ?_)
              clear hK K
              (try simp only [Act.put, List.setIfInBounds_toArray, List.set_cons_zero, List.set_cons_succ])
              refine' take_any 9 58 (v := _) ?hi35 ?hd35 (by kernel_rfl) (by kernel_rfl) (by kernel_rfl) (fun _ _ _ h => h) ?hy35 hHeld ?hr35
              case hi35 => (simp only [List.getElem?_toArray, List.getElem?_cons_succ, List.getElem?_cons_zero]; rfl)
              case hd35 => rfl
              case hy35 =>
                refine' Or.inl ⟨?hw35, ?hx35⟩
                case hw35 => rfl
                case hx35 => (intro w hSw; (try dsimp only at hSw); go_simp; (try with_reducible rfl))
              (try simp only [Act.put, List.setIfInBounds_toArray, List.set_cons_zero, List.set_cons_succ])
              refine' take_call 10 ?hi37 (by kernel_rfl) ?hr37
              case hi37 => (simp only [List.getElem?_toArray, List.getElem?_cons_succ, List.getElem?_cons_zero]; rfl)
              intro K hK
              go_simp
              go_at_call 13
              refine (same_any _ _ _ _ _ H1.out.v H2.out.v).mono ?_
              rintro e z36 ⟨rfl, hb⟩
              rw [same_self]
              clear H1 H2
              replace BC := Lib.hid (BC.out.trans (hb.mono BC.out.size))
              clear hb
              go_wp2_with fail
              clear hHeld
              refine hK.out _ _ (by (try dsimp only); exact ⟨(HBx.out.keep BC.out).c0, (HBx.out.keep BC.out).c1, (HBx.out.keep BC.out).c2, (HBx.out.keep BC.out).c3, (HBx.out.keep BC.out).c4, (HBx.out.keep BC.out).c5, (HBy.out.keep BC.out).c0, (HBy.out.keep BC.out).c1, (HBy.out.keep BC.out).c2, (HBy.out.keep BC.out).c3, (HBy.out.keep BC.out).c4, (HBy.out.keep BC.out).c5⟩) (fun hHeld => ?_)
              clear hK K
              (try simp only [Act.put, List.setIfInBounds_toArray, List.set_cons_zero, List.set_cons_succ])
              refine' take_any 11 13 (v := _) ?hi38 ?hd38 (by kernel_rfl) (by kernel_rfl) (by kernel_rfl) (fun _ _ _ h => h) ?hy38 hHeld ?hr38
              case hi38 => (simp only [List.getElem?_toArray, List.getElem?_cons_succ, List.getElem?_cons_zero]; rfl)
              case hd38 => rfl
              case hy38 =>
                refine' Or.inl ⟨?hw38, ?hx38⟩
                case hw38 => rfl
                case hx38 => (intro w hSw; (try dsimp only at hSw); go_simp; (try with_reducible rfl))
              (try simp only [Act.put, List.setIfInBounds_toArray, List.set_cons_zero, List.set_cons_succ])
              refine wpAnyH_done (by kernel_rfl) ?_ _
              refine NoPanic.normal ?_
              refine hM _ _ (Met.intro (hR _ _ ?_))
              (repeat apply Exists.intro)
              exact ⟨⟨rfl, BC.out⟩, rfl⟩
            case hb45 =>
              intro K hK
              go_simp
              replace HL := Lib.hid (TySN.below HL.out ((Below.refl _ _).alloc (Nat.le_refl _) (.cells #[.bool ya, .int .i64 yf, .int .i64 yp, (.slice ypa ynp ypc), .int .i64 yk, (.slice yfa ynf yfc), .bool ya, .int .i64 yf, .int .i64 yp, (.slice ypa ynp ypc), .int .i64 yk, (.slice yfa ynf yfc), .bool xa, .int .i64 xf, .int .i64 xp, (.slice xpa xnp xpc), .int .i64 xk, (.slice xfa xnf xfc)] 24)))
              have h8 := TyVN.mk (a := false) (f := 0) (p := 0) (g := 1) (.mkNil none 0) (TyS.three_alloc (HVy.out.below BC.out) (HVy.out.below BC.out) (HVx.out.below BC.out))
              rw [alloc_hs, show wc.drew.heap.size = wc.heap.size from rfl] at h8
              have H2 := Lib.hid h8
              clear h8
              replace BC := Lib.hid (BC.out.alloc BC.out.size (.cells #[.bool ya, .int .i64 yf, .int .i64 yp, (.slice ypa ynp ypc), .int .i64 yk, (.slice yfa ynf yfc), .bool ya, .int .i64 yf, .int .i64 yp, (.slice ypa ynp ypc), .int .i64 yk, (.slice yfa ynf yfc), .bool xa, .int .i64 xf, .int .i64 xp, (.slice xpa xnp xpc), .int .i64 xk, (.slice xfa xnf xfc)] 24))
              clear hHeld
              refine hK.out _ _ (by (try dsimp only); exact ⟨(HBx.out.keep BC.out).c0, (HBx.out.keep BC.out).c1, (HBx.out.keep BC.out).c2, (HBx.out.keep BC.out).c3, (HBx.out.keep BC.out).c4, (HBx.out.keep BC.out).c5, (HBy.out.keep BC.out).c0, (HBy.out.keep BC.out).c1, (HBy.out.keep BC.out).c2, (HBy.out.keep BC.out).c3, (HBy.out.keep BC.out).c4, (HBy.out.keep BC.out).c5⟩) (fun hHeld => ?_)
              clear hK K
              (try simp only [Act.put, List.setIfInBounds_toArray, List.set_cons_zero, List.set_cons_succ])
              refine' take_any 9 58 (v := _) ?hi39 ?hd39 (by kernel_rfl) (by kernel_rfl) (by kernel_rfl) (fun _ _ _ h => h) ?hy39 hHeld ?hr39
              case hi39 => (simp only [List.getElem?_toArray, List.getElem?_cons_succ, List.getElem?_cons_zero]; rfl)
              case hd39 => rfl
              case hy39 =>
                refine' Or.inl ⟨?hw39, ?hx39⟩
                case hw39 => rfl
                case hx39 => (intro w hSw; (try dsimp only at hSw); go_simp; (try with_reducible rfl))
              (try simp only [Act.put, List.setIfInBounds_toArray, List.set_cons_zero, List.set_cons_succ])
              refine' take_call 4 ?hi41 (by kernel_rfl) ?hr41
              case hi41 => (simp only [List.getElem?_toArray, List.getElem?_cons_succ, List.getElem?_cons_zero]; rfl)
              intro K hK
              go_simp
              go_at_call 26
              refine (fun_two xy yy _ _ _ _ (HVx.out.below BC.out) HL.out (fun h => by cases h)).mono ?_
              rintro e z40 ⟨⟨v, rfl, hv⟩, hb⟩
              have H1 := Lib.hid hv
              clear hv HL
              obtain ⟨qa, qf, qp, qpa, qnp, qpc, qk, qfa, qnf, qfc, rfl⟩ := H1.out.shape
              replace H2 := Lib.hid (H2.out.below hb)
              replace BC := Lib.hid (BC.out.trans (hb.mono BC.out.size))
              clear hb
              go_wp2_with fail
              clear hHeld
              refine hK.out _ _ (by (try dsimp only); exact ⟨(HBx.out.keep BC.out).c0, (HBx.out.keep BC.out).c1, (HBx.out.keep BC.out).c2, (HBx.out.keep BC.out).c3, (HBx.out.keep BC.out).c4, (HBx.out.keep BC.out).c5, (HBy.out.keep BC.out).c0, (HBy.out.keep BC.out).c1, (HBy.out.keep BC.out).c2, (HBy.out.keep BC.out).c3, (HBy.out.keep BC.out).c4, (HBy.out.keep BC.out).c5⟩) (fun hHeld => ?_)
              clear hK K
              (try simp only [Act.put, List.setIfInBounds_toArray, List.set_cons_zero, List.set_cons_succ])
              refine' take_call 10 ?hi43 (by kernel_rfl) ?hr43
              case hi43 => (simp only [List.getElem?_toArray, List.getElem?_cons_succ, List.getElem?_cons_zero]; rfl)
              intro K hK
              go_simp
              go_at_call 13
              refine (same_any _ _ _ _ _ H1.out.v H2.out.v).mono ?_
              rintro e z42 ⟨rfl, hb⟩
              rw [same_self]
              clear H1 H2
              replace BC := Lib.hid (BC.out.trans (hb.mono BC.out.size))
              clear hb
              go_wp2_with fail
              clear hHeld
              refine hK.out _ _ (by (try dsimp only); exact ⟨(HBx.out.keep BC.out).c0, (HBx.out.keep BC.out).c1, (HBx.out.keep BC.out).c2, (HBx.out.keep BC.out).c3, (HBx.out.keep BC.out).c4, (HBx.out.keep BC.out).c5, (HBy.out.keep BC.out).c0, (HBy.out.keep BC.out).c1, (HBy.out.keep BC.out).c2, (HBy.out.keep BC.out).c3, (HBy.out.keep BC.out).c4, (HBy.out.keep BC.out).c5⟩) (fun hHeld => ?_)
              clear hK K
              (try simp only [Act.put, List.setIfInBounds_toArray, List.set_cons_zero, List.set_cons_succ])
              refine' take_any 11 13 (v := _) ?hi44 ?hd44 (by kernel_rfl) (by kernel_rfl) (by kernel_rfl) (fun _ _ _ h => h) ?hy44 hHeld ?hr44
              case hi44 => (simp only [List.getElem?_toArray, List.getElem?_cons_succ, List.getElem?_cons_zero]; rfl)
              case hd44 => rfl
              case hy44 =>
                refine' Or.inl ⟨?hw44, ?hx44⟩
                case hw44 => rfl
                case hx44 => (intro w hSw; (try dsimp only at hSw); go_simp; (try with_reducible rfl))
              (try simp only [Act.put, List.setIfInBounds_toArray, List.set_cons_zero, List.set_cons_succ])
              refine wpAnyH_done (by kernel_rfl) ?_ _
              refine NoPanic.normal ?_
              refine hM _ _ (Met.intro (hR _ _ ?_))
              (repeat apply Exists.intro)
              exact ⟨⟨rfl, BC.out⟩, rfl⟩
          case hb53 =>
            intro K hK
            go_simp
            have h8 := TyVN.mk (a := false) (f := 0) (p := 0) (g := 1) (.mkNil none 0) (TyS.three_alloc (HVy.out.below BC.out) (HVy.out.below BC.out) (HVx.out.below BC.out))
            have H2 := Lib.hid h8
            clear h8
            replace BC := Lib.hid (BC.out.alloc BC.out.size (.cells #[.bool ya, .int .i64 yf, .int .i64 yp, (.slice ypa ynp ypc), .int .i64 yk, (.slice yfa ynf yfc), .bool ya, .int .i64 yf, .int .i64 yp, (.slice ypa ynp ypc), .int .i64 yk, (.slice yfa ynf yfc), .bool xa, .int .i64 xf, .int .i64 xp, (.slice xpa xnp xpc), .int .i64 xk, (.slice xfa xnf xfc)] 24))
            clear hHeld
            refine hK.out _ _ (by (try dsimp only); exact ⟨(HBx.out.keep BC.out).c0, (HBx.out.keep BC.out).c1, (HBx.out.keep BC.out).c2, (HBx.out.keep BC.out).c3, (HBx.out.keep BC.out).c4, (HBx.out.keep BC.out).c5, (HBy.out.keep BC.out).c0, (HBy.out.keep BC.out).c1, (HBy.out.keep BC.out).c2, (HBy.out.keep BC.out).c3, (HBy.out.keep BC.out).c4, (HBy.out.keep BC.out).c5⟩) (fun hHeld => ?_)
            clear hK K
            (try simp only [Act.put, List.setIfInBounds_toArray, List.set_cons_zero, List.set_cons_succ])
            refine' take_any 9 58 (v := _) ?hi46 ?hd46 (by kernel_rfl) (by kernel_rfl) (by kernel_rfl) (fun _ _ _ h => h) ?hy46 hHeld ?hr46
            case hi46 => (simp only [List.getElem?_toArray, List.getElem?_cons_succ, List.getElem?_cons_zero]; rfl)
            case hd46 => rfl
            case hy46 =>
              refine' Or.inl ⟨?hw46, ?hx46⟩
              case hw46 => rfl
              case hx46 => (intro w hSw; (try dsimp only at hSw); go_simp; (try with_reducible rfl))
            (try simp only [Act.put, List.setIfInBounds_toArray, List.set_cons_zero, List.set_cons_succ])
            refine' take_call 3 ?hi47 (by kernel_rfl) ?hr47
            case hi47 => (simp only [List.getElem?_toArray, List.getElem?_cons_succ, List.getElem?_cons_zero]; rfl)
            intro K hK
            go_simp
            have h8 := TyS.two_alloc (M := N0) (fun _ h => h.elim) (HVy.out.below BC.out) (HVy.out.below BC.out)
            rw [alloc_hs, show wc.drew.heap.size = wc.heap.size from rfl] at h8
            have HL := Lib.hid h8
            clear h8
            replace H2 := Lib.hid (H2.out.below ((Below.refl _ _).alloc (Nat.le_refl _) (.cells #[.bool ya, .int .i64 yf, .int .i64 yp, (.slice ypa ynp ypc), .int .i64 yk, (.slice yfa ynf yfc), .bool ya, .int .i64 yf, .int .i64 yp, (.slice ypa ynp ypc), .int .i64 yk, (.slice yfa ynf yfc)] 24)))
            replace BC := Lib.hid (BC.out.alloc BC.out.size (.cells #[.bool ya, .int .i64 yf, .int .i64 yp, (.slice ypa ynp ypc), .int .i64 yk, (.slice yfa ynf yfc), .bool ya, .int .i64 yf, .int .i64 yp, (.slice ypa ynp ypc), .int .i64 yk, (.slice yfa ynf yfc)] 24))
            clear hHeld
            refine hK.out _ _ (by (try dsimp only); exact ⟨(HBx.out.keep BC.out).c0, (HBx.out.keep BC.out).c1, (HBx.out.keep BC.out).c2, (HBx.out.keep BC.out).c3, (HBx.out.keep BC.out).c4, (HBx.out.keep BC.out).c5, (HBy.out.keep BC.out).c0, (HBy.out.keep BC.out).c1, (HBy.out.keep BC.out).c2, (HBy.out.keep BC.out).c3, (HBy.out.keep BC.out).c4, (HBy.out.keep BC.out).c5⟩) (fun hHeld => ?_)
            clear hK K
            (try simp only [Act.put, List.setIfInBounds_toArray, List.set_cons_zero, List.set_cons_succ])
            refine' take_call 4 ?hi49 (by kernel_rfl) ?hr49
            case hi49 => (simp only [List.getElem?_toArray, List.getElem?_cons_succ, List.getElem?_cons_zero]; rfl)
            intro K hK
            go_simp
            go_at_call 26
            refine (fun_two xy yy _ _ _ _ (HVx.out.below BC.out) HL.out (fun h => by cases h)).mono ?_
            rintro e z48 ⟨⟨v, rfl, hv⟩, hb⟩
            have H1 := Lib.hid hv
            clear hv HL
            obtain ⟨qa, qf, qp, qpa, qnp, qpc, qk, qfa, qnf, qfc, rfl⟩ := H1.out.shape
            replace H2 := Lib.hid (H2.out.below hb)
            replace BC := Lib.hid (BC.out.trans (hb.mono BC.out.size))
            clear hb
            go_wp2_with fail
            clear hHeld
            refine hK.out _ _ (by (try dsimp only); exact ⟨(HBx.out.keep BC.out).c0, (HBx.out.keep BC.out).c1, (HBx.out.keep BC.out).c2, (HBx.out.keep BC.out).c3, (HBx.out.keep BC.out).c4, (HBx.out.keep BC.out).c5, (HBy.out.keep BC.out).c0, (HBy.out.keep BC.out).c1, (HBy.out.keep BC.out).c2, (HBy.out.keep BC.out).c3, (HBy.out.keep BC.out).c4, (HBy.out.keep BC.out).c5⟩) (fun hHeld => ?_)
            clear hK K
            (try simp only [Act.put, List.setIfInBounds_toArray, List.set_cons_zero, List.set_cons_succ])
            refine' take_call 10 ?hi51 (by kernel_rfl) ?hr51
            case hi51 => (simp only [List.getElem?_toArray, List.getElem?_cons_succ, List.getElem?_cons_zero]; rfl)
            intro K hK
            go_simp
            go_at_call 13
            refine (same_any _ _ _ _ _ H1.out.v H2.out.v).mono ?_
            rintro e z50 ⟨rfl, hb⟩
            rw [same_self]
            clear H1 H2
            replace BC := Lib.hid (BC.out.trans (hb.mono BC.out.size))
            clear hb
            go_wp2_with fail
            clear hHeld
            refine hK.out _ _ (by (try dsimp only); exact ⟨(HBx.out.keep BC.out).c0, (HBx.out.keep BC.out).c1, (HBx.out.keep BC.out).c2, (HBx.out.keep BC.out).c3, (HBx.out.keep BC.out).c4, (HBx.out.keep BC.out).c5, (HBy.out.keep BC.out).c0, (HBy.out.keep BC.out).c1, (HBy.out.keep BC.out).c2, (HBy.out.keep BC.out).c3, (HBy.out.keep BC.out).c4, (HBy.out.keep BC.out).c5⟩) (fun hHeld => ?_)
            clear hK K
            (try simp only [Act.put, List.setIfInBounds_toArray, List.set_cons_zero, List.set_cons_succ])
            refine' take_any 11 13 (v := _) ?hi52 ?hd52 (by kernel_rfl) (by kernel_rfl) (by kernel_rfl) (fun _ _ _ h => h) ?hy52 hHeld ?hr52
            case hi52 => (simp only [List.getElem?_toArray, List.getElem?_cons_succ, List.getElem?_cons_zero]; rfl)
            case hd52 => rfl
            case hy52 =>
              refine' Or.inl ⟨?hw52, ?hx52⟩
              case hw52 => rfl
              case hx52 => (intro w hSw; (try dsimp only at hSw); go_simp; (try with_reducible rfl))
            (try simp only [Act.put, List.setIfInBounds_toArray, List.set_cons_zero, List.set_cons_succ])
            refine wpAnyH_done (by kernel_rfl) ?_ _
            refine NoPanic.normal ?_
            refine hM _ _ (Met.intro (hR _ _ ?_))
            (repeat apply Exists.intro)
            exact ⟨⟨rfl, BC.out⟩, rfl⟩
        case rest =>
          obtain ⟨rfl, hbc⟩ := hcut
          have BC := Lib.hid hbc
          clear hbc
          replace HBx := Lib.hid (HBx.out.keep BC.out)
          replace HVx := Lib.hid (HVx.out.below BC.out)
          replace HBy := Lib.hid (HBy.out.keep BC.out)
          replace HVy := Lib.hid (HVy.out.below BC.out)
          replace HFN := Lib.hid (HFN.out.below BC.out)
          replace HB := Lib.hid (HB.out.trans (BC.out.mono HB.out.size))
          clear BC
          go_wp2_with fail
          refine (all_p wc).mono ?_
          rintro e w8 ⟨rfl, hb⟩
          replace HBx := Lib.hid (HBx.out.keep hb)
          replace HVx := Lib.hid (HVx.out.below hb)
          replace HBy := Lib.hid (HBy.out.keep hb)
          replace HVy := Lib.hid (HVy.out.below hb)
          replace HFN := Lib.hid (HFN.out.below hb)
          replace HB := Lib.hid (HB.out.trans (hb.mono HB.out.size))
          clear hb
          go_wp2_with fail
          refine (same_any tyAll tyAll _ _ w8 (tyAll_v N0 _).v (tyAll_v N0 _).v).mono ?_
          rintro e w9 ⟨rfl, hb⟩
          replace HBx := Lib.hid (HBx.out.keep hb)
          replace HVx := Lib.hid (HVx.out.below hb)
          replace HBy := Lib.hid (HBy.out.keep hb)
          replace HVy := Lib.hid (HVy.out.below hb)
          replace HFN := Lib.hid (HFN.out.below hb)
          replace HB := Lib.hid (HB.out.trans (hb.mono HB.out.size))
          clear hb
          rw [same_self]
          go_wp2
          go_ret
          exact ⟨rfl, HB.out⟩
end Go.Proofs.YtdjhjapfmbcmlaaDoor
