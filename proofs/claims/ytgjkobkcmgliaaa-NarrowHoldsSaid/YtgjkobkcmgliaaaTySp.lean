import Derived.Test.YtgjkobkcmgliaaaTyBo
namespace Go.Proofs.Ytgjkobkcmgliaaa
open Go.RowKit

theorem has_no {p : Int} {n : Nat} (h : (p = 0 ∧ n = 0) ∨ (p = 1 ∧ n = 2) ∨ (p = 2 ∧ n = 1)) (h0 : p = 0) : hasPr p n = false := by
  obtain ⟨rfl, rfl⟩ | ⟨rfl, rfl⟩ | ⟨rfl, rfl⟩ := h
  · rfl
  · cases h0
  · cases h0
theorem has_yes {p : Int} {n : Nat} (h : (p = 0 ∧ n = 0) ∨ (p = 1 ∧ n = 2) ∨ (p = 2 ∧ n = 1)) (h0 : p ≠ 0) : hasPr p n = true := by
  obtain ⟨rfl, rfl⟩ | ⟨rfl, rfl⟩ | ⟨rfl, rfl⟩ := h
  · exact absurd rfl h0
  · rfl
  · rfl
def subPairsP (P : Ty → Ty → Bool) (x y : Ty) : Bool := if x.pair = 0 ∨ y.pair = 0 then decide (x.pair = 0) else P (carT x) (carT y) && ((x.pair == 2 && y.pair == 2) || P (cdrT x) (cdrT y))
def subPairsC (cost : Ty → Ty → Nat) (x y : Ty) : Nat := if x.pair = 0 ∨ y.pair = 0 then 0 else cost (carT x) (carT y) + (if x.pair = 2 ∧ y.pair = 2 then 0 else cost (cdrT x) (cdrT y))

set_option maxRecDepth 100000 in
set_option maxHeartbeats 16000000 in
theorem subPairs_any {N : Nat → Prop} {St : Nat → World → Prop} {k : Nat} {lb : Array Value} {W0 : World} {R : Ty → Ty → Prop} {P : Ty → Ty → Bool} {cost : Ty → Ty → Nat} {lim : Nat} (F : Fn2 N St k lb W0 R P cost lim)
    (hN : ∀ b, N b → b < W0.heap.size) (x y : Ty) (vx vy : Value) (w : World) (n : Nat) (hw : Stay N W0 w) (hst : St n w) (hx : TyVN N w vx x) (hy : TyVN N w vy y) (okx : okTy x) (oky : okTy y)
    (hR1 : x.pair ≠ 0 → y.pair ≠ 0 → R (carT x) (carT y)) (hR2 : x.pair ≠ 0 → y.pair ≠ 0 → ¬ (x.pair = 2 ∧ y.pair = 2) → R (cdrT x) (cdrT y)) (hc : n + subPairsC cost x y ≤ lim) :
    Calls Try.prog 82 #[vx, vy, .func (.func k) #[] lb] w
      fun e w' => e = .returned (.bool (subPairsP P x y)) ∧ Stay N w w' ∧ ∃ n', n' ≤ n + subPairsC cost x y ∧ St n' w' := by
  have eg := F.enter
  have hkeep := F.keep
  have px := ok_pairs okx.hd
  have py := ok_pairs oky.hd
  have hNw : ∀ b, N b → b < w.heap.size := fun b h => Nat.lt_of_lt_of_le (hN b h) hw.size
  have hA : x.pair = 0 → subPairsP P x y = true := fun h => by simp [subPairsP, h]
  have hB : x.pair ≠ 0 → y.pair = 0 → subPairsP P x y = false := fun h h' => by simp [subPairsP, h, h']
  have hCp : x.pair ≠ 0 → y.pair ≠ 0 → subPairsP P x y = (P (carT x) (carT y) && ((x.pair == 2 && y.pair == 2) || P (cdrT x) (cdrT y))) := fun h h' => by rw [subPairsP, if_neg (fun e => e.elim h h')]
  have hCar : ∀ w1, Below w.heap.size w w1 → Calls Try.prog 95 #[.func (.func 96) #[] #[], vx, vy] w1 (BothPost N (carT x) (carT y) w1) := fun w1 hb =>
    both_car N x y vx vy w1 (fun b h => Nat.lt_of_lt_of_le (hNw b h) hb.size) (hx.below hb) (hy.below hb) okx.hd oky.hd
  have hCdr : ∀ w1, Stay N w w1 → Calls Try.prog 95 #[.func (.func 98) #[] #[], vx, vy] w1 (BothPost N (cdrT x) (cdrT y) w1) := fun w1 hb =>
    both_cdr N x y vx vy w1 (fun b h => Nat.lt_of_lt_of_le (hNw b h) hb.size) (hx.stay hb) (hy.stay hb) okx.hd oky.hd
  have hF1 : x.pair ≠ 0 → y.pair ≠ 0 → ∀ w1 u v, Stay N w w1 → St n w1 → TyVN N w1 u (carT x) → TyVN N w1 v (carT y) → Calls Try.prog k (#[u, v] ++ lb) w1
      fun e w' => e = .returned (.bool (P (carT x) (carT y))) ∧ Stay N w1 w' ∧ ∃ n', n' ≤ n + cost (carT x) (carT y) ∧ St n' w' := fun h h' w1 u v h1 h2 h3 h4 =>
    F.call w1 u v _ _ n (hw.trans h1) h2 (by unfold subPairsC at hc; rw [if_neg (fun e => e.elim h h')] at hc; omega) (hR1 h h') h3 h4
  have hF2 : x.pair ≠ 0 → y.pair ≠ 0 → ¬ (x.pair = 2 ∧ y.pair = 2) → ∀ w1 u v n1, Stay N w w1 → St n1 w1 → n1 ≤ n + cost (carT x) (carT y) → TyVN N w1 u (cdrT x) → TyVN N w1 v (cdrT y) → Calls Try.prog k (#[u, v] ++ lb) w1
      fun e w' => e = .returned (.bool (P (cdrT x) (cdrT y))) ∧ Stay N w1 w' ∧ ∃ n', n' ≤ n1 + cost (cdrT x) (cdrT y) ∧ St n' w' := fun h h' hl w1 u v n1 h1 h2 hn1 h3 h4 =>
    F.call w1 u v _ _ n1 (hw.trans h1) h2 (by unfold subPairsC at hc; rw [if_neg (fun e => e.elim h h'), if_neg hl] at hc; omega) (hR2 h h' hl) h3 h4
  have hC1 : x.pair ≠ 0 → y.pair ≠ 0 → cost (carT x) (carT y) ≤ subPairsC cost x y := fun h h' => by unfold subPairsC; rw [if_neg (fun e => e.elim h h')]; omega
  have hC2 : x.pair ≠ 0 → y.pair ≠ 0 → ¬ (x.pair = 2 ∧ y.pair = 2) → subPairsC cost x y = cost (carT x) (carT y) + cost (cdrT x) (cdrT y) := fun h h' hl => by unfold subPairsC; rw [if_neg (fun e => e.elim h h'), if_neg hl]
  generalize cost (carT x) (carT y) = c1 at hF1 hF2 hC1 hC2
  generalize cost (cdrT x) (cdrT y) = c2 at hF2 hC2
  generalize P (carT x) (carT y) = z1 at hCp hF1
  generalize P (cdrT x) (cdrT y) = z2 at hCp hF2
  generalize subPairsC cost x y = cc at hc hC1 hC2 ⊢
  generalize subPairsP P x y = z at hA hB hCp ⊢
  obtain ⟨xpa, xpc, xfa, xfc, rfl, xhp, xhf⟩ := hx.form
  obtain ⟨xnp, xhnp⟩ : ∃ n, n = x.pairs.length := ⟨_, rfl⟩
  obtain ⟨xnf, xhnf⟩ : ∃ n, n = x.funs.length := ⟨_, rfl⟩
  obtain ⟨xa, xha⟩ : ∃ a, a = x.all := ⟨_, rfl⟩
  obtain ⟨xf, xhf'⟩ : ∃ a, a = x.flat := ⟨_, rfl⟩
  obtain ⟨xp, xhp'⟩ : ∃ a, a = x.pair := ⟨_, rfl⟩
  obtain ⟨xn, xhn⟩ : ∃ a, a = x.fn := ⟨_, rfl⟩
  obtain ⟨ypa, ypc, yfa, yfc, rfl, yhp, yhf⟩ := hy.form
  obtain ⟨ynp, yhnp⟩ : ∃ n, n = y.pairs.length := ⟨_, rfl⟩
  obtain ⟨ynf, yhnf⟩ : ∃ n, n = y.funs.length := ⟨_, rfl⟩
  obtain ⟨ya, yha⟩ : ∃ a, a = y.all := ⟨_, rfl⟩
  obtain ⟨yf, yhf'⟩ : ∃ a, a = y.flat := ⟨_, rfl⟩
  obtain ⟨yp, yhp'⟩ : ∃ a, a = y.pair := ⟨_, rfl⟩
  obtain ⟨yn, yhn⟩ : ∃ a, a = y.fn := ⟨_, rfl⟩
  generalize carT x = ax at hCar hF1
  generalize carT y = ay at hCar hF1
  generalize cdrT x = dx at hCdr hF2
  generalize cdrT y = dy at hCdr hF2
  rw [← xhnp, ← xhnf, ← xha, ← xhf', ← xhp', ← xhn, ← yhnp, ← yhnf, ← yha, ← yhf', ← yhp', ← yhn] at hCar hCdr
  rw [← xhp'] at hA hB hCp hF1 hF2 hC1 hC2 px
  rw [← yhp'] at hB hCp hF1 hF2 hC1 hC2 py
  rw [← xhnp] at px
  rw [← yhnp] at py
  rw [← xhnp, ← xhnf, ← xha, ← xhf', ← xhp', ← xhn, ← yhnp, ← yhnf, ← yha, ← yhf', ← yhp', ← yhn]
  obtain ⟨W, hW⟩ : ∃ W, W = (w.alloc (.cells #[.bool xa, .int .i64 xf, .int .i64 xp, (.slice xpa xnp xpc), .int .i64 xn, (.slice xfa xnf xfc)] 49)).alloc (.cells #[.bool ya, .int .i64 yf, .int .i64 yp, (.slice ypa ynp ypc), .int .i64 yn, (.slice yfa ynf yfc)] 49) := ⟨_, rfl⟩
  obtain ⟨g, hg⟩ : ∃ g, g = w.heap.size := ⟨_, rfl⟩
  have HBX := Lib.hid (show BoxAt W g xa xf xp (.slice xpa xnp xpc) xn (.slice xfa xnf xfc) by rw [hW, hg]; exact (BoxAt.made _ _ _ _ _ _ _).keep ((Below.refl _ _).alloc (Nat.le_refl _) _))
  have HBY := Lib.hid (show BoxAt W (g + 1) ya yf yp (.slice ypa ynp ypc) yn (.slice yfa ynf yfc) by rw [hW, hg]; have := BoxAt.made (w.alloc (.cells #[.bool xa, .int .i64 xf, .int .i64 xp, (.slice xpa xnp xpc), .int .i64 xn, (.slice xfa xnf xfc)] 49)) ya yf yp (.slice ypa ynp ypc) yn (.slice yfa ynf yfc); simpa using this)
  have HBW := Lib.hid (show Below w.heap.size w W by rw [hW]; exact ((Below.refl _ _).alloc (Nat.le_refl _) _).alloc (by simp) _)
  have HSZ := Lib.hid (show W.heap.size = g + 2 by rw [hW, hg]; simp)
  have HG := Lib.hid hg
  have HW := Lib.hid hW
  have HN := Lib.hid (show ¬ N g ∧ ¬ N (g + 1) by rw [hg]; exact ⟨fun h => by have := hNw _ h; omega, fun h => by have := hNw _ h; omega⟩)
  have HST := Lib.hid (hkeep _ _ _ hst HBW.out)
  have HA := Lib.hid hA
  have HB := Lib.hid hB
  have HCP := Lib.hid hCp
  have HCAR := Lib.hid hCar
  have HCDR := Lib.hid hCdr
  have HF1 := Lib.hid hF1
  have HF2 := Lib.hid hF2
  have HC1 := Lib.hid hC1
  have HC2 := Lib.hid hC2
  have HK := Lib.hid hkeep
  clear hA hB hCp hCar hCdr hF1 hF2 hC1 hC2 hkeep hst hW hg hN hNw hR1 hR2 hc hw hx hy F okx oky xhp xhf xhnp xhnf xha xhf' xhp' xhn yhp yhf yhnp yhnf yha yhf' yhp' yhn
  by_cases hxp : xp = 0
  · have hv1 : hasPr xp xnp = false := has_no px hxp
    have HV1 := Lib.hid hv1
    have HZ := Lib.hid (HA.out hxp)
    clear hxp px py
    go_enter Try.func82, Try.ntmps82
    go_wp2_with fail
    rw [← HG.out, ← HW.out]
    refine (hasP_raw _ _ _ _ _ _ _ _ _ _ W).mono ?_
    rintro e w2 ⟨rfl, hb2⟩
    rw [hv1]
    have HX2 := Lib.hid (HBX.out.keep hb2)
    have HY2 := Lib.hid (HBY.out.keep hb2)
    have HB2 := Lib.hid hb2
    clear hb2
    have x0 := HX2.out.c0
    have x1 := HX2.out.c1
    have x2 := HX2.out.c2
    have x3 := HX2.out.c3
    have x4 := HX2.out.c4
    have x5 := HX2.out.c5
    have y0 := HY2.out.c0
    have y1 := HY2.out.c1
    have y2 := HY2.out.c2
    have y3 := HY2.out.c3
    have y4 := HY2.out.c4
    have y5 := HY2.out.c5
    go_wp2_with fail
    refine (hasP_raw _ _ _ _ _ _ _ _ _ _ w2).mono ?_
    rintro e w3 ⟨rfl, hb3⟩
    rw [HV1.out]
    go_wp2
    go_ret
    exact ⟨ret_bool (by rw [HZ.out]), .of (HBW.out.trans ((HB2.out.trans (hb3.mono HB2.out.size)).mono HBW.out.size)), n, by omega, HK.out _ _ _ (HK.out _ _ _ HST.out HB2.out) hb3⟩
  by_cases hyp : yp = 0
  · have hv1 : hasPr xp xnp = true := has_yes px hxp
    have hv2 : hasPr yp ynp = false := has_no py hyp
    have HV1 := Lib.hid hv1
    have HZ := Lib.hid (HB.out hxp hyp)
    clear hxp hyp px py
    go_enter Try.func82, Try.ntmps82
    go_wp2_with fail
    rw [← HG.out, ← HW.out]
    refine (hasP_raw _ _ _ _ _ _ _ _ _ _ W).mono ?_
    rintro e w2 ⟨rfl, hb2⟩
    rw [hv1]
    have HX2 := Lib.hid (HBX.out.keep hb2)
    have HY2 := Lib.hid (HBY.out.keep hb2)
    have HB2 := Lib.hid hb2
    clear hb2
    have x0 := HX2.out.c0
    have x1 := HX2.out.c1
    have x2 := HX2.out.c2
    have x3 := HX2.out.c3
    have x4 := HX2.out.c4
    have x5 := HX2.out.c5
    have y0 := HY2.out.c0
    have y1 := HY2.out.c1
    have y2 := HY2.out.c2
    have y3 := HY2.out.c3
    have y4 := HY2.out.c4
    have y5 := HY2.out.c5
    go_wp2_with fail
    refine (hasP_raw _ _ _ _ _ _ _ _ _ _ w2).mono ?_
    rintro e w3 ⟨rfl, hb3⟩
    rw [hv2]
    have HX3 := Lib.hid (HX2.out.keep hb3)
    have HB3 := Lib.hid hb3
    clear hb3
    clear x0 x1 x2 x3 x4 x5 y0 y1 y2 y3 y4 y5
    have x0 := HX3.out.c0
    have x1 := HX3.out.c1
    have x2 := HX3.out.c2
    have x3 := HX3.out.c3
    have x4 := HX3.out.c4
    have x5 := HX3.out.c5
    go_wp2_with fail
    refine (hasP_raw _ _ _ _ _ _ _ _ _ _ w3).mono ?_
    rintro e w4 ⟨rfl, hb4⟩
    rw [HV1.out]
    go_wp2
    go_ret
    exact ⟨ret_bool (by rw [HZ.out]), .of (HBW.out.trans ((HB2.out.trans ((HB3.out.trans (hb4.mono HB3.out.size)).mono HB2.out.size)).mono HBW.out.size)), n, by omega, HK.out _ _ _ (HK.out _ _ _ (HK.out _ _ _ HST.out HB2.out) HB3.out) hb4⟩
  have hv1 : hasPr xp xnp = true := has_yes px hxp
  have hv2 : hasPr yp ynp = true := has_yes py hyp
  have HZ := Lib.hid (HCP.out hxp hyp)
  have HF1' := Lib.hid (HF1.out hxp hyp)
  have HF2' := Lib.hid (HF2.out hxp hyp)
  have HC1' := Lib.hid (HC1.out hxp hyp)
  have HC2' := Lib.hid (HC2.out hxp hyp)
  clear hxp hyp px py HF1 HF2 HC1 HC2 HA HB HCP
  go_enter Try.func82, Try.ntmps82
  go_wp2_with fail
  rw [← HG.out, ← HW.out]
  refine (hasP_raw _ _ _ _ _ _ _ _ _ _ W).mono ?_
  rintro e w2 ⟨rfl, hb2⟩
  rw [hv1]
  have HX2 := Lib.hid (HBX.out.keep hb2)
  have HY2 := Lib.hid (HBY.out.keep hb2)
  have HB2 := Lib.hid hb2
  clear hb2
  have x0 := HX2.out.c0
  have x1 := HX2.out.c1
  have x2 := HX2.out.c2
  have x3 := HX2.out.c3
  have x4 := HX2.out.c4
  have x5 := HX2.out.c5
  have y0 := HY2.out.c0
  have y1 := HY2.out.c1
  have y2 := HY2.out.c2
  have y3 := HY2.out.c3
  have y4 := HY2.out.c4
  have y5 := HY2.out.c5
  go_wp2_with fail
  refine (hasP_raw _ _ _ _ _ _ _ _ _ _ w2).mono ?_
  rintro e w3 ⟨rfl, hb3⟩
  rw [hv2]
  clear hv1 hv2
  have HX3 := Lib.hid (HX2.out.keep hb3)
  have HY3 := Lib.hid (HY2.out.keep hb3)
  have HBT := Lib.hid (HBW.out.trans ((HB2.out.trans (hb3.mono HB2.out.size)).mono HBW.out.size))
  have HS3 := Lib.hid (HK.out _ _ _ (HK.out _ _ _ HST.out HB2.out) hb3)
  clear hb3
  clear x0 x1 x2 x3 x4 x5 y0 y1 y2 y3 y4 y5
  have x0 := HX3.out.c0
  have x1 := HX3.out.c1
  have x2 := HX3.out.c2
  have x3 := HX3.out.c3
  have x4 := HX3.out.c4
  have x5 := HX3.out.c5
  have y0 := HY3.out.c0
  have y1 := HY3.out.c1
  have y2 := HY3.out.c2
  have y3 := HY3.out.c3
  have y4 := HY3.out.c4
  have y5 := HY3.out.c5
  go_wp2_with fail
  refine (HCAR.out w3 HBT.out).mono ?_
  rintro e w4 ⟨⟨u, v, rfl, hu, hv⟩, hb4⟩
  have HC4 := Lib.hid (HF1'.out w4 u v (.of (HBT.out.trans (hb4.mono HBT.out.size))) (HK.out _ _ _ HS3.out hb4) hu hv)
  have HS4 := Lib.hid ((Stay.of (N := N) HBT.out).then hb4)
  have HX4 := Lib.hid (HX3.out.keep hb4)
  have HY4 := Lib.hid (HY3.out.keep hb4)
  clear hu hv hb4
  clear x0 x1 x2 x3 x4 x5 y0 y1 y2 y3 y4 y5
  go_wp2_with fail
  refine HC4.out.mono ?_
  rintro e w5 ⟨rfl, hs5, n5, hn5, ht5⟩
  have HS5 := Lib.hid (HS4.out.trans hs5)
  have HX5 := Lib.hid (HX4.out.stay hs5 HN.out.1)
  have HY5 := Lib.hid (HY4.out.stay hs5 HN.out.2)
  have HN5 := Lib.hid hn5
  have HT5 := Lib.hid ht5
  clear hs5 hn5 ht5
  cases z1 with
  | false =>
    go_wp2
    go_ret
    exact ⟨ret_bool (by rw [HZ.out]; rfl), HS5.out, n5, by have := HN5.out; have := HC1'.out; omega, HT5.out⟩
  | true =>
    have x0 := HX5.out.c0
    have x1 := HX5.out.c1
    have x2 := HX5.out.c2
    have x3 := HX5.out.c3
    have x4 := HX5.out.c4
    have x5 := HX5.out.c5
    have y0 := HY5.out.c0
    have y1 := HY5.out.c1
    have y2 := HY5.out.c2
    have y3 := HY5.out.c3
    have y4 := HY5.out.c4
    have y5 := HY5.out.c5
    go_wp2_with fail
    refine (lists_raw _ _ _ _ _ _ _ _ _ _ _ _ _ _ _ _ _ _ _ _ w5).mono ?_
    rintro e w6 ⟨rfl, hb6⟩
    have HS6 := Lib.hid (HS5.out.then hb6)
    have HX6 := Lib.hid (HX5.out.keep hb6)
    have HY6 := Lib.hid (HY5.out.keep hb6)
    have HT6 := Lib.hid (HK.out _ _ _ HT5.out hb6)
    clear hb6
    clear x0 x1 x2 x3 x4 x5 y0 y1 y2 y3 y4 y5
    have x0 := HX6.out.c0
    have x1 := HX6.out.c1
    have x2 := HX6.out.c2
    have x3 := HX6.out.c3
    have x4 := HX6.out.c4
    have x5 := HX6.out.c5
    have y0 := HY6.out.c0
    have y1 := HY6.out.c1
    have y2 := HY6.out.c2
    have y3 := HY6.out.c3
    have y4 := HY6.out.c4
    have y5 := HY6.out.c5
    by_cases hl : xp = 2 ∧ yp = 2
    · have hz : (xp == 2 && yp == 2) = true := by rw [hl.1, hl.2]; rfl
      rw [hz]
      have HZ2 := Lib.hid hz
      clear hl hz
      go_wp2
      go_ret
      exact ⟨ret_bool (by rw [HZ.out, HZ2.out]; rfl), HS6.out, n5, by have := HN5.out; have := HC1'.out; omega, HT6.out⟩
    · have hz : (xp == 2 && yp == 2) = false := by rw [Bool.eq_false_iff]; intro h; rw [Bool.and_eq_true, beq_iff_eq, beq_iff_eq] at h; exact hl h
      rw [hz]
      have HZ2 := Lib.hid hz
      have HF2'' := Lib.hid (HF2'.out hl)
      have HC2'' := Lib.hid (HC2'.out hl)
      clear hl hz
      go_wp2_with fail
      refine (HCDR.out w6 HS6.out).mono ?_
      rintro e w7 ⟨⟨u2, v2, rfl, hu2, hv2⟩, hb7⟩
      have HC7 := Lib.hid (HF2''.out w7 u2 v2 n5 (HS6.out.then hb7) (HK.out _ _ _ HT6.out hb7) HN5.out hu2 hv2)
      have HS7 := Lib.hid (HS6.out.then hb7)
      clear hu2 hv2 hb7
      clear x0 x1 x2 x3 x4 x5 y0 y1 y2 y3 y4 y5
      go_wp2_with fail
      refine HC7.out.mono ?_
      rintro e w8 ⟨rfl, hs8, n8, hn8, ht8⟩
      go_wp2
      go_ret
      exact ⟨ret_bool (by rw [HZ.out, HZ2.out]; rfl), HS7.out.trans hs8, n8, by have := HN5.out; have := HC2''.out; omega, ht8⟩
end Go.Proofs.Ytgjkobkcmgliaaa
