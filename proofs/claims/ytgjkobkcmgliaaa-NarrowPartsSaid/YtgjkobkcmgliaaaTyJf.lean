import Derived.Test.YtgjkobkcmgliaaaTyJp
namespace Go.Proofs.Ytgjkobkcmgliaaa
open Go.RowKit

/-- are the procedures of two types the same? -/
def funsEq (P : Ty → Ty → Bool) (x y : Ty) : Bool := x.fn == y.fn && (decide (x.funs.length = y.funs.length) && allZ P x.funs y.funs)
def joinFunsP (P : Ty → Ty → Bool) (x y : Ty) : Int := if y.fn = 0 then x.fn else if x.fn = 0 then y.fn else if funsEq P x y = true then x.fn else 2
def joinFunsL (P : Ty → Ty → Bool) (x y : Ty) : List Ty := if y.fn = 0 then x.funs else if x.fn = 0 then y.funs else if funsEq P x y = true then x.funs else []
def joinFunsC (cost : Ty → Ty → Nat) (x y : Ty) : Nat := if x.fn = 0 ∨ y.fn = 0 then 0 else if x.funs.length = y.funs.length then preC cost x.funs y.funs x.funs.length else 0

set_option maxRecDepth 100000 in
set_option maxHeartbeats 16000000 in
theorem joinFuns_any {N : Nat → Prop} {St : Nat → World → Prop} {k : Nat} {lb : Array Value} {W0 : World} {R : Ty → Ty → Prop} {P : Ty → Ty → Bool} {cost : Ty → Ty → Nat} {lim : Nat} (F : Fn2 N St k lb W0 R P cost lim)
    (M : Nat → Prop) (hNM : ∀ b, N b → M b) (hN : ∀ b, N b → b < W0.heap.size) (x y : Ty) (vx vy : Value) (w : World) (n : Nat) (hM : ∀ b, M b → b < w.heap.size) (hw : Stay N W0 w) (hst : St n w) (hx : TyVN M w vx x) (hy : TyVN M w vy y) (okx : HdT x) (oky : HdT y)
    (hR : x.fn ≠ 0 → y.fn ≠ 0 → ∀ j, j < x.funs.length → j < y.funs.length → R (x.funs.getD j ty0) (y.funs.getD j ty0)) (hc : n + joinFunsC cost x y ≤ lim) :
    Calls Try.prog 92 #[vx, vy, .func (.func k) #[] lb] w (PairPost M N St (joinFunsP P x y) (joinFunsL P x y) (n + joinFunsC cost x y) w) := by
  have eg := F.enter
  have hkeep := F.keep
  have px := ok_funs okx
  have py := ok_funs oky
  have hA : y.fn = 0 → joinFunsP P x y = x.fn ∧ joinFunsL P x y = x.funs := fun h => by simp [joinFunsP, joinFunsL, h]
  have hB : y.fn ≠ 0 → x.fn = 0 → joinFunsP P x y = y.fn ∧ joinFunsL P x y = y.funs := fun h h' => by simp [joinFunsP, joinFunsL, h, h']
  have hCy : y.fn ≠ 0 → x.fn ≠ 0 → funsEq P x y = true → joinFunsP P x y = x.fn ∧ joinFunsL P x y = x.funs := fun h h' h2 => by simp [joinFunsP, joinFunsL, h, h', h2]
  have hCn : y.fn ≠ 0 → x.fn ≠ 0 → funsEq P x y = false → joinFunsP P x y = 2 ∧ joinFunsL P x y = [] := fun h h' h2 => by simp [joinFunsP, joinFunsL, h, h', h2]
  have hfe : funsEq P x y = (x.fn == y.fn && (decide (x.funs.length = y.funs.length) && allZ P x.funs y.funs)) := rfl
  obtain ⟨xpa, xpc, xfa, xfc, rfl, xhp, xhf⟩ := hx.form
  obtain ⟨xnp, xhnp⟩ : ∃ n, n = x.pairs.length := ⟨_, rfl⟩
  obtain ⟨xnf, xhnf⟩ : ∃ n, n = x.funs.length := ⟨_, rfl⟩
  obtain ⟨xa, xha⟩ : ∃ a, a = x.all := ⟨_, rfl⟩
  obtain ⟨xf, xhf'⟩ : ∃ a, a = x.flat := ⟨_, rfl⟩
  obtain ⟨xp, xhp'⟩ : ∃ a, a = x.pair := ⟨_, rfl⟩
  obtain ⟨xn, xhn⟩ : ∃ a, a = x.fn := ⟨_, rfl⟩
  obtain ⟨ypa, ypc, yfa, yfc, rfl, yhp, yhf⟩ := hy.form
  obtain ⟨ynp, yhnp⟩ : ∃ n, n = y.pairs.length := ⟨_, rfl⟩
  obtain ⟨ynf, yhnf⟩ : ∃ n, n = y.funs.length := ⟨_, rfl⟩
  obtain ⟨ya, yha⟩ : ∃ a, a = y.all := ⟨_, rfl⟩
  obtain ⟨yf, yhf'⟩ : ∃ a, a = y.flat := ⟨_, rfl⟩
  obtain ⟨yp, yhp'⟩ : ∃ a, a = y.pair := ⟨_, rfl⟩
  obtain ⟨yn, yhn⟩ : ∃ a, a = y.fn := ⟨_, rfl⟩
  have hE : x.fn ≠ 0 → y.fn ≠ 0 → ∀ w1, Stay N w w1 → St n w1 → Calls Try.prog 109 #[.slice xfa x.funs.length xfc, .slice yfa y.funs.length yfc, .func (.func k) #[] lb] w1
      fun e w' => e = .returned (.bool (decide (x.funs.length = y.funs.length) && allZ P x.funs y.funs)) ∧ Stay N w1 w' ∧ ∃ n', n' ≤ n + joinFunsC cost x y ∧ St n' w' := fun e1 e2 w1 h1 h2 => by
    refine (equalf_any F hN x.funs y.funs _ _ _ _ w1 n (hw.trans h1) h2 (TySN.mono (TySN.stay xhf (h1.mono hNM)) fun b _ h => hNM b h) (TySN.mono (TySN.stay yhf (h1.mono hNM)) fun b _ h => hNM b h) (fun e j hj => hR e1 e2 j hj (by omega)) (fun e => by unfold joinFunsC at hc; rw [if_neg (fun h => h.elim e1 e2), if_pos e] at hc; omega)).mono ?_
    rintro e w2 ⟨h3, h4, n', h5, h6⟩
    exact ⟨h3, h4, n', by unfold joinFunsC; rw [if_neg (fun h => h.elim e1 e2)]; exact h5, h6⟩
  have hClx : ∀ w1, Stay N w w1 → Calls Try.prog 70 #[.slice xfa x.funs.length xfc] w1 fun e w' => (∃ v', e = .returned v' ∧ TyS w' (Lo M w') v' x.funs) ∧ Below w1.heap.size w1 w' := fun w1 hb =>
    clone_any M x.funs _ w1 (fun b h => Nat.lt_of_lt_of_le (hM b h) hb.size) (TySN.stay xhf (hb.mono hNM)) (by omega)
  have hCly : ∀ w1, Stay N w w1 → Calls Try.prog 70 #[.slice yfa y.funs.length yfc] w1 fun e w' => (∃ v', e = .returned v' ∧ TyS w' (Lo M w') v' y.funs) ∧ Below w1.heap.size w1 w' := fun w1 hb =>
    clone_any M y.funs _ w1 (fun b h => Nat.lt_of_lt_of_le (hM b h) hb.size) (TySN.stay yhf (hb.mono hNM)) (by omega)
  generalize (decide (x.funs.length = y.funs.length) && allZ P x.funs y.funs) = zz at hfe hE
  generalize funsEq P x y = ze at hfe hCy hCn
  generalize joinFunsC cost x y = cc at hc hE ⊢
  generalize joinFunsP P x y = zp at hA hB hCy hCn ⊢
  generalize joinFunsL P x y = zl at hA hB hCy hCn ⊢
  rw [← xhnf] at hClx
  rw [← yhnf] at hCly
  rw [← xhn, ← yhn, ← xhnf, ← yhnf] at hE
  rw [← xhn, ← yhn] at hA hB hCy hCn hfe
  rw [← xhn, ← xhnf] at px
  rw [← yhn, ← yhnf] at py
  obtain ⟨lx, hlx⟩ : ∃ l, l = x.funs := ⟨_, rfl⟩
  obtain ⟨ly, hly⟩ : ∃ l, l = y.funs := ⟨_, rfl⟩
  rw [← hlx] at hA hCy hClx
  rw [← hly] at hB hCly
  clear hlx hly
  rw [← xhnp, ← xhnf, ← xha, ← xhf', ← xhp', ← xhn, ← yhnp, ← yhnf, ← yha, ← yhf', ← yhp', ← yhn]
  obtain ⟨W, hW⟩ : ∃ W, W = (w.alloc (.cells #[.bool xa, .int .i64 xf, .int .i64 xp, (.slice xpa xnp xpc), .int .i64 xn, (.slice xfa xnf xfc)] 49)).alloc (.cells #[.bool ya, .int .i64 yf, .int .i64 yp, (.slice ypa ynp ypc), .int .i64 yn, (.slice yfa ynf yfc)] 49) := ⟨_, rfl⟩
  obtain ⟨g, hg⟩ : ∃ g, g = w.heap.size := ⟨_, rfl⟩
  have HBX := Lib.hid (show BoxAt W g xa xf xp (.slice xpa xnp xpc) xn (.slice xfa xnf xfc) by rw [hW, hg]; exact (BoxAt.made _ _ _ _ _ _ _).keep ((Below.refl _ _).alloc (Nat.le_refl _) _))
  have HBY := Lib.hid (show BoxAt W (g + 1) ya yf yp (.slice ypa ynp ypc) yn (.slice yfa ynf yfc) by rw [hW, hg]; have := BoxAt.made (w.alloc (.cells #[.bool xa, .int .i64 xf, .int .i64 xp, (.slice xpa xnp xpc), .int .i64 xn, (.slice xfa xnf xfc)] 49)) ya yf yp (.slice ypa ynp ypc) yn (.slice yfa ynf yfc); simpa using this)
  have HBW := Lib.hid (show Below w.heap.size w W by rw [hW]; exact ((Below.refl _ _).alloc (Nat.le_refl _) _).alloc (by simp) _)
  have HSZ := Lib.hid (show W.heap.size = g + 2 by rw [hW, hg]; simp)
  have HG := Lib.hid hg
  have HW := Lib.hid hW
  have HN := Lib.hid (show ¬ N g ∧ ¬ N (g + 1) by rw [hg]; exact ⟨fun h => by have := hM _ (hNM _ h); omega, fun h => by have := hM _ (hNM _ h); omega⟩)
  have HST := Lib.hid (hkeep _ _ _ hst HBW.out)
  have HS1 := Lib.hid (Stay.of (N := N) HBW.out)
  have HA := Lib.hid hA
  have HB := Lib.hid hB
  have HCY := Lib.hid hCy
  have HCN := Lib.hid hCn
  have HFE := Lib.hid hfe
  have HE := Lib.hid hE
  have HCLX := Lib.hid hClx
  have HCLY := Lib.hid hCly
  have HK := Lib.hid hkeep
  clear hA hB hCy hCn hfe hE hClx hCly hkeep hst hW hg hM hNM hN hR hc hw hx hy F okx oky xhp xhf xhnp xhnf xha xhf' xhp' xhn yhp yhf yhnp yhnf yha yhf' yhp' yhn
  by_cases hyp : yn = 0
  · have hv1 : hasFr yn ynf = false := hasf_no py hyp
    have HZ := Lib.hid (HA.out hyp)
    clear hyp px py
    go_enter Try.func92, Try.ntmps92
    go_wp2_with fail
    rw [← HG.out, ← HW.out]
    refine (hasF_raw _ _ _ _ _ _ _ _ _ _ W).mono ?_
    rintro e w2 ⟨rfl, hb2⟩
    rw [hv1]
    have HX2 := Lib.hid (HBX.out.keep hb2)
    have HY2 := Lib.hid (HBY.out.keep hb2)
    have HS2 := Lib.hid (HS1.out.then hb2)
    have HT2 := Lib.hid (HK.out _ _ _ HST.out hb2)
    clear hb2
    have x0 := HX2.out.c0
    have x1 := HX2.out.c1
    have x2 := HX2.out.c2
    have x3 := HX2.out.c3
    have x4 := HX2.out.c4
    have x5 := HX2.out.c5
    have y0 := HY2.out.c0
    have y1 := HY2.out.c1
    have y2 := HY2.out.c2
    have y3 := HY2.out.c3
    have y4 := HY2.out.c4
    have y5 := HY2.out.c5
    have hgl := HX2.out.lt
    go_wp2_with fail
    go_region_held3 (fun w' => w'.cell? ⟨g, 4, none⟩ = some (.int .i64 xn) ∧ w'.cell? ⟨g, 5, none⟩ = some (.slice xfa xnf xfc))
      (first
        | exact ⟨x4, x5⟩
        | exact ⟨(hbz.cell (p := ⟨_, _, _⟩) hgl).trans x4, (hbz.cell (p := ⟨_, _, _⟩) hgl).trans x5⟩
        | go_keep)
      (first
        | ((go_at_call 70; refine (HCLX.out _ ?hb).mono ?_; (case hb => first | exact HS2.out | exact HS2.out.then (Below.refl _ _).drew); rintro e wz ⟨⟨v', rfl, ht'⟩, hbz⟩)))
    have HTV := Lib.hid ht'
    have HBZ := Lib.hid hbz
    clear ht' hbz
    go_wp2
    refine bodyPost_ret (v := .tuple #[.int .i64 xn, v']) ?_ ?_ ?_
    · simp [results, Try.results92, go_sem]
    · rfl
    · first
        | exact ⟨⟨_, by rw [HZ.out.1], by rw [HZ.out.2]; exact HTV.out⟩, HS2.out.then HBZ.out, n, by omega, HK.out _ _ _ HT2.out HBZ.out⟩
        | exact ⟨⟨_, by rw [HZ.out.1], by rw [HZ.out.2]; exact TySN.below HTV.out (Below.refl _ _).drew⟩, HS2.out.then HBZ.out.drew, n, by omega, HK.out _ _ _ HT2.out HBZ.out.drew⟩
        | exact ⟨⟨_, by rw [HZ.out.1], by rw [HZ.out.2]; exact HTV.out⟩, HS2.out.then ((Below.refl _ _).drew.trans HBZ.out), n, by omega, HK.out _ _ _ HT2.out ((Below.refl _ _).drew.trans HBZ.out)⟩
  by_cases hxp : xn = 0
  · have hv1 : hasFr yn ynf = true := hasf_yes py hyp
    have hv2 : hasFr xn xnf = false := hasf_no px hxp
    have HZ := Lib.hid (HB.out hyp hxp)
    clear hyp hxp px py
    go_enter Try.func92, Try.ntmps92
    go_wp2_with fail
    rw [← HG.out, ← HW.out]
    refine (hasF_raw _ _ _ _ _ _ _ _ _ _ W).mono ?_
    rintro e w2 ⟨rfl, hb2⟩
    rw [hv1]
    have HX2 := Lib.hid (HBX.out.keep hb2)
    have HY2 := Lib.hid (HBY.out.keep hb2)
    have HS2 := Lib.hid (HS1.out.then hb2)
    have HT2 := Lib.hid (HK.out _ _ _ HST.out hb2)
    clear hb2
    have x0 := HX2.out.c0
    have x1 := HX2.out.c1
    have x2 := HX2.out.c2
    have x3 := HX2.out.c3
    have x4 := HX2.out.c4
    have x5 := HX2.out.c5
    have y0 := HY2.out.c0
    have y1 := HY2.out.c1
    have y2 := HY2.out.c2
    have y3 := HY2.out.c3
    have y4 := HY2.out.c4
    have y5 := HY2.out.c5
    go_wp2_with fail
    refine (hasF_raw _ _ _ _ _ _ _ _ _ _ w2).mono ?_
    rintro e w3 ⟨rfl, hb3⟩
    rw [hv2]
    have HX3 := Lib.hid (HX2.out.keep hb3)
    have HY3 := Lib.hid (HY2.out.keep hb3)
    have HS3 := Lib.hid (HS2.out.then hb3)
    have HT3 := Lib.hid (HK.out _ _ _ HT2.out hb3)
    clear hb3
    clear x0 x1 x2 x3 x4 x5 y0 y1 y2 y3 y4 y5
    have x0 := HX3.out.c0
    have x1 := HX3.out.c1
    have x2 := HX3.out.c2
    have x3 := HX3.out.c3
    have x4 := HX3.out.c4
    have x5 := HX3.out.c5
    have y0 := HY3.out.c0
    have y1 := HY3.out.c1
    have y2 := HY3.out.c2
    have y3 := HY3.out.c3
    have y4 := HY3.out.c4
    have y5 := HY3.out.c5
    have hgl := HY3.out.lt
    go_wp2_with fail
    go_region_held3 (fun w' => w'.cell? ⟨g + 1, 4, none⟩ = some (.int .i64 yn) ∧ w'.cell? ⟨g + 1, 5, none⟩ = some (.slice yfa ynf yfc))
      (first
        | exact ⟨y4, y5⟩
        | exact ⟨(hbz.cell (p := ⟨_, _, _⟩) hgl).trans y4, (hbz.cell (p := ⟨_, _, _⟩) hgl).trans y5⟩
        | go_keep)
      (first
        | ((go_at_call 70; refine (HCLY.out _ ?hb).mono ?_; (case hb => first | exact HS3.out | exact HS3.out.then (Below.refl _ _).drew); rintro e wz ⟨⟨v', rfl, ht'⟩, hbz⟩)))
    have HTV := Lib.hid ht'
    have HBZ := Lib.hid hbz
    clear ht' hbz
    go_wp2
    refine bodyPost_ret (v := .tuple #[.int .i64 yn, v']) ?_ ?_ ?_
    · simp [results, Try.results92, go_sem]
    · rfl
    · first
        | exact ⟨⟨_, by rw [HZ.out.1], by rw [HZ.out.2]; exact HTV.out⟩, HS3.out.then HBZ.out, n, by omega, HK.out _ _ _ HT3.out HBZ.out⟩
        | exact ⟨⟨_, by rw [HZ.out.1], by rw [HZ.out.2]; exact TySN.below HTV.out (Below.refl _ _).drew⟩, HS3.out.then HBZ.out.drew, n, by omega, HK.out _ _ _ HT3.out HBZ.out.drew⟩
        | exact ⟨⟨_, by rw [HZ.out.1], by rw [HZ.out.2]; exact HTV.out⟩, HS3.out.then ((Below.refl _ _).drew.trans HBZ.out), n, by omega, HK.out _ _ _ HT3.out ((Below.refl _ _).drew.trans HBZ.out)⟩
  by_cases heq : xn = yn
  case neg =>
    have hv1 : hasFr yn ynf = true := hasf_yes py hyp
    have hv2 : hasFr xn xnf = true := hasf_yes px hxp
    have hne : (xn == yn) = false := beq_false_of_ne heq
    have HZ := Lib.hid (HCN.out hyp hxp (by rw [HFE.out, hne]; rfl))
    clear hyp hxp px py heq
    go_enter Try.func92, Try.ntmps92
    go_wp2_with fail
    rw [← HG.out, ← HW.out]
    refine (hasF_raw _ _ _ _ _ _ _ _ _ _ W).mono ?_
    rintro e w2 ⟨rfl, hb2⟩
    rw [hv1]
    have HX2 := Lib.hid (HBX.out.keep hb2)
    have HY2 := Lib.hid (HBY.out.keep hb2)
    have HS2 := Lib.hid (HS1.out.then hb2)
    have HT2 := Lib.hid (HK.out _ _ _ HST.out hb2)
    clear hb2
    have x0 := HX2.out.c0
    have x1 := HX2.out.c1
    have x2 := HX2.out.c2
    have x3 := HX2.out.c3
    have x4 := HX2.out.c4
    have x5 := HX2.out.c5
    have y0 := HY2.out.c0
    have y1 := HY2.out.c1
    have y2 := HY2.out.c2
    have y3 := HY2.out.c3
    have y4 := HY2.out.c4
    have y5 := HY2.out.c5
    go_wp2_with fail
    refine (hasF_raw _ _ _ _ _ _ _ _ _ _ w2).mono ?_
    rintro e w3 ⟨rfl, hb3⟩
    rw [hv2]
    have HX3 := Lib.hid (HX2.out.keep hb3)
    have HY3 := Lib.hid (HY2.out.keep hb3)
    have HS3 := Lib.hid (HS2.out.then hb3)
    have HT3 := Lib.hid (HK.out _ _ _ HT2.out hb3)
    clear hb3
    clear x0 x1 x2 x3 x4 x5 y0 y1 y2 y3 y4 y5
    have x0 := HX3.out.c0
    have x1 := HX3.out.c1
    have x2 := HX3.out.c2
    have x3 := HX3.out.c3
    have x4 := HX3.out.c4
    have x5 := HX3.out.c5
    have y0 := HY3.out.c0
    have y1 := HY3.out.c1
    have y2 := HY3.out.c2
    have y3 := HY3.out.c3
    have y4 := HY3.out.c4
    have y5 := HY3.out.c5
    go_wp2
    refine bodyPost_ret (v := .tuple #[.int .i64 2, .slice none 0 0]) ?_ ?_ ?_
    · simp [results, Try.results92, go_sem]
    · rfl
    · exact ⟨⟨_, by rw [HZ.out.1], by rw [HZ.out.2]; exact .mkNil _ _⟩, HS3.out, n, by omega, HT3.out⟩
  have hv1 : hasFr yn ynf = true := hasf_yes py hyp
  have hv2 : hasFr xn xnf = true := hasf_yes px hxp
  have HE2 := Lib.hid (HE.out hxp hyp)
  have HCY2 := Lib.hid (HCY.out hyp hxp)
  have HCN2 := Lib.hid (HCN.out hyp hxp)
  have hne : (xn == yn) = true := by rw [heq]; simp
  have HNE := Lib.hid hne
  clear hyp hxp px py heq HE HCY HCN HA HB
  go_enter Try.func92, Try.ntmps92
  go_wp2_with fail
  rw [← HG.out, ← HW.out]
  refine (hasF_raw _ _ _ _ _ _ _ _ _ _ W).mono ?_
  rintro e w2 ⟨rfl, hb2⟩
  rw [hv1]
  have HX2 := Lib.hid (HBX.out.keep hb2)
  have HY2 := Lib.hid (HBY.out.keep hb2)
  have HS2 := Lib.hid (HS1.out.then hb2)
  have HT2 := Lib.hid (HK.out _ _ _ HST.out hb2)
  clear hb2
  have x0 := HX2.out.c0
  have x1 := HX2.out.c1
  have x2 := HX2.out.c2
  have x3 := HX2.out.c3
  have x4 := HX2.out.c4
  have x5 := HX2.out.c5
  have y0 := HY2.out.c0
  have y1 := HY2.out.c1
  have y2 := HY2.out.c2
  have y3 := HY2.out.c3
  have y4 := HY2.out.c4
  have y5 := HY2.out.c5
  go_wp2_with fail
  refine (hasF_raw _ _ _ _ _ _ _ _ _ _ w2).mono ?_
  rintro e w3 ⟨rfl, hb3⟩
  rw [hv2]
  have HX3 := Lib.hid (HX2.out.keep hb3)
  have HY3 := Lib.hid (HY2.out.keep hb3)
  have HS3 := Lib.hid (HS2.out.then hb3)
  have HT3 := Lib.hid (HK.out _ _ _ HT2.out hb3)
  clear hb3
  clear x0 x1 x2 x3 x4 x5 y0 y1 y2 y3 y4 y5
  have x0 := HX3.out.c0
  have x1 := HX3.out.c1
  have x2 := HX3.out.c2
  have x3 := HX3.out.c3
  have x4 := HX3.out.c4
  have x5 := HX3.out.c5
  have y0 := HY3.out.c0
  have y1 := HY3.out.c1
  have y2 := HY3.out.c2
  have y3 := HY3.out.c3
  have y4 := HY3.out.c4
  have y5 := HY3.out.c5
  go_wp2_with fail
  refine (HE2.out w3 HS3.out HT3.out).mono ?_
  rintro e w4 ⟨rfl, hs4, n4, hn4, ht4⟩
  have HX4 := Lib.hid (HX3.out.stay hs4 HN.out.1)
  have HS4 := Lib.hid (HS3.out.trans hs4)
  have HN4 := Lib.hid hn4
  have HT4 := Lib.hid ht4
  clear hs4 hn4 ht4
  clear x0 x1 x2 x3 x4 x5 y0 y1 y2 y3 y4 y5
  cases zz with
  | false =>
    have HZ := Lib.hid (HCN2.out (by rw [HFE.out]; simp))
    go_wp2
    refine bodyPost_ret (v := .tuple #[.int .i64 2, .slice none 0 0]) ?_ ?_ ?_
    · simp [results, Try.results92, go_sem]
    · rfl
    · exact ⟨⟨_, by rw [HZ.out.1], by rw [HZ.out.2]; exact .mkNil _ _⟩, HS4.out, n4, HN4.out, HT4.out⟩
  | true =>
    have HZ := Lib.hid (HCY2.out (by rw [HFE.out, HNE.out]; rfl))
    clear hne
    have x0 := HX4.out.c0
    have x1 := HX4.out.c1
    have x2 := HX4.out.c2
    have x3 := HX4.out.c3
    have x4 := HX4.out.c4
    have x5 := HX4.out.c5
    have hgl := HX4.out.lt
    go_wp2_with fail
    go_region_held3 (fun w' => w'.cell? ⟨g, 4, none⟩ = some (.int .i64 xn) ∧ w'.cell? ⟨g, 5, none⟩ = some (.slice xfa xnf xfc))
      (first
        | exact ⟨x4, x5⟩
        | exact ⟨(hbz.cell (p := ⟨_, _, _⟩) hgl).trans x4, (hbz.cell (p := ⟨_, _, _⟩) hgl).trans x5⟩
        | go_keep)
      (first
        | ((go_at_call 70; refine (HCLX.out _ ?hb).mono ?_; (case hb => first | exact HS4.out | exact HS4.out.then (Below.refl _ _).drew); rintro e wz ⟨⟨v', rfl, ht'⟩, hbz⟩)))
    have HTV := Lib.hid ht'
    have HBZ := Lib.hid hbz
    clear ht' hbz
    go_wp2
    refine bodyPost_ret (v := .tuple #[.int .i64 xn, v']) ?_ ?_ ?_
    · simp [results, Try.results92, go_sem]
    · rfl
    · first
        | exact ⟨⟨_, by rw [HZ.out.1], by rw [HZ.out.2]; exact HTV.out⟩, HS4.out.then HBZ.out, n4, HN4.out, HK.out _ _ _ HT4.out HBZ.out⟩
        | exact ⟨⟨_, by rw [HZ.out.1], by rw [HZ.out.2]; exact TySN.below HTV.out (Below.refl _ _).drew⟩, HS4.out.then HBZ.out.drew, n4, HN4.out, HK.out _ _ _ HT4.out HBZ.out.drew⟩
        | exact ⟨⟨_, by rw [HZ.out.1], by rw [HZ.out.2]; exact HTV.out⟩, HS4.out.then ((Below.refl _ _).drew.trans HBZ.out), n4, HN4.out, HK.out _ _ _ HT4.out ((Below.refl _ _).drew.trans HBZ.out)⟩
end Go.Proofs.Ytgjkobkcmgliaaa
