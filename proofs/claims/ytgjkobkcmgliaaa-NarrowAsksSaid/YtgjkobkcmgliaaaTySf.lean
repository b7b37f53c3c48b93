import Derived.Test.YtgjkobkcmgliaaaTySp
namespace Go.Proofs.Ytgjkobkcmgliaaa
open Go.RowKit

theorem ok_funs {t : Ty} (h : HdT t) : (t.fn = 0 ∧ t.funs.length = 0) ∨ (t.fn = 1 ∧ 1 ≤ t.funs.length ∧ t.funs.length ≤ 9) ∨ (t.fn = 2 ∧ t.funs.length = 0) := by
  have h := headH h
  obtain ⟨_, _, _, _, h1, h2, _, _, h3, h4⟩ := h
  by_cases e : t.fn = 1
  · exact .inr (.inl ⟨e, h4 e⟩)
  · have := h3 e; omega
theorem hasf_no {p : Int} {n : Nat} (h : (p = 0 ∧ n = 0) ∨ (p = 1 ∧ 1 ≤ n ∧ n ≤ 9) ∨ (p = 2 ∧ n = 0)) (h0 : p = 0) : hasFr p n = false := by
  obtain ⟨rfl, rfl⟩ | ⟨rfl, _⟩ | ⟨rfl, _⟩ := h
  · rfl
  · cases h0
  · cases h0
theorem hasf_yes {p : Int} {n : Nat} (h : (p = 0 ∧ n = 0) ∨ (p = 1 ∧ 1 ≤ n ∧ n ≤ 9) ∨ (p = 2 ∧ n = 0)) (h0 : p ≠ 0) : hasFr p n = true := by
  obtain ⟨rfl, rfl⟩ | ⟨rfl, h, _⟩ | ⟨rfl, rfl⟩ := h
  · exact absurd rfl h0
  · unfold hasFr; rw [decide_eq_true (by omega)]; rfl
  · rfl
/-- the procedures' part of Sub, by what P says of the types -/
def subFunsP (P : Ty → Ty → Bool) (x y : Ty) : Bool := if x.fn = 0 ∨ y.fn = 2 then true else if y.fn = 0 ∨ x.funs.length ≠ y.funs.length then false else
  ((List.range (x.funs.length - 1)).all fun i => P (y.funs.getD i ty0) (x.funs.getD i ty0)) && P (x.funs.getD (x.funs.length - 1) ty0) (y.funs.getD (x.funs.length - 1) ty0)
def subFunsC (cost : Ty → Ty → Nat) (x y : Ty) : Nat := if x.fn = 0 ∨ y.fn = 2 then 0 else if y.fn = 0 ∨ x.funs.length ≠ y.funs.length then 0 else
  preC cost y.funs x.funs (x.funs.length - 1) + cost (x.funs.getD (x.funs.length - 1) ty0) (y.funs.getD (x.funs.length - 1) ty0)

set_option maxRecDepth 100000 in
set_option maxHeartbeats 16000000 in
theorem subFuns_any {N : Nat → Prop} {St : Nat → World → Prop} {k : Nat} {lb : Array Value} {W0 : World} {R : Ty → Ty → Prop} {P : Ty → Ty → Bool} {cost : Ty → Ty → Nat} {lim : Nat} (F : Fn2 N St k lb W0 R P cost lim)
    (hN : ∀ b, N b → b < W0.heap.size) (x y : Ty) (vx vy : Value) (w : World) (n : Nat) (hw : Stay N W0 w) (hst : St n w) (hx : TyVN N w vx x) (hy : TyVN N w vy y) (okx : okTy x) (oky : okTy y)
    (hR : ∀ j, j < x.funs.length → j < y.funs.length → R (x.funs.getD j ty0) (y.funs.getD j ty0) ∧ R (y.funs.getD j ty0) (x.funs.getD j ty0)) (hc : n + subFunsC cost x y ≤ lim) :
    Calls Try.prog 83 #[vx, vy, .func (.func k) #[] lb] w
      fun e w' => e = .returned (.bool (subFunsP P x y)) ∧ Stay N w w' ∧ ∃ n', n' ≤ n + subFunsC cost x y ∧ St n' w' := by
  have eg := F.enter
  have hkeep := F.keep
  have px := ok_funs okx.hd
  have py := ok_funs oky.hd
  have hNw : ∀ b, N b → b < w.heap.size := fun b h => Nat.lt_of_lt_of_le (hN b h) hw.size
  have hA : x.fn = 0 ∨ y.fn = 2 → subFunsP P x y = true := fun h => by rw [subFunsP, if_pos h]
  have hB : ¬ (x.fn = 0 ∨ y.fn = 2) → y.fn = 0 ∨ x.funs.length ≠ y.funs.length → subFunsP P x y = false := fun h h' => by rw [subFunsP, if_neg h, if_pos h']
  have hCp : ¬ (x.fn = 0 ∨ y.fn = 2) → ¬ (y.fn = 0 ∨ x.funs.length ≠ y.funs.length) → subFunsP P x y = (((List.range (x.funs.length - 1)).all fun i => P (y.funs.getD i ty0) (x.funs.getD i ty0)) && P (x.funs.getD (x.funs.length - 1) ty0) (y.funs.getD (x.funs.length - 1) ty0)) := fun h h' => by rw [subFunsP, if_neg h, if_neg h']
  have hCc : ¬ (x.fn = 0 ∨ y.fn = 2) → ¬ (y.fn = 0 ∨ x.funs.length ≠ y.funs.length) → subFunsC cost x y = preC cost y.funs x.funs (x.funs.length - 1) + cost (x.funs.getD (x.funs.length - 1) ty0) (y.funs.getD (x.funs.length - 1) ty0) := fun h h' => by rw [subFunsC, if_neg h, if_neg h']
  generalize subFunsC cost x y = cc at hc hCc ⊢
  generalize subFunsP P x y = z at hA hB hCp ⊢
  obtain ⟨xpa, xpc, xfa, xfc, rfl, xhp, xhf⟩ := hx.form
  obtain ⟨xnp, xhnp⟩ : ∃ n, n = x.pairs.length := ⟨_, rfl⟩
  obtain ⟨xnf, xhnf⟩ : ∃ n, n = x.funs.length := ⟨_, rfl⟩
  obtain ⟨xa, xha⟩ : ∃ a, a = x.all := ⟨_, rfl⟩
  obtain ⟨xf, xhf'⟩ : ∃ a, a = x.flat := ⟨_, rfl⟩
  obtain ⟨xp, xhp'⟩ : ∃ a, a = x.pair := ⟨_, rfl⟩
  obtain ⟨xn, xhn⟩ : ∃ a, a = x.fn := ⟨_, rfl⟩
  obtain ⟨ypa, ypc, yfa, yfc, rfl, yhp, yhf⟩ := hy.form
  obtain ⟨ynp, yhnp⟩ : ∃ n, n = y.pairs.length := ⟨_, rfl⟩
  obtain ⟨ynf, yhnf⟩ : ∃ n, n = y.funs.length := ⟨_, rfl⟩
  obtain ⟨ya, yha⟩ : ∃ a, a = y.all := ⟨_, rfl⟩
  obtain ⟨yf, yhf'⟩ : ∃ a, a = y.flat := ⟨_, rfl⟩
  obtain ⟨yp, yhp'⟩ : ∃ a, a = y.pair := ⟨_, rfl⟩
  obtain ⟨yn, yhn⟩ : ∃ a, a = y.fn := ⟨_, rfl⟩
  rw [← xhn, ← yhn] at hA hB hCp hCc
  rw [← xhnf, ← yhnf] at hB hCp hCc hR
  rw [← xhn, ← xhnf] at px
  rw [← yhn, ← yhnf] at py
  rw [← xhnf] at xhf
  rw [← yhnf] at yhf
  rw [← xhnp, ← xhnf, ← xha, ← xhf', ← xhp', ← xhn, ← yhnp, ← yhnf, ← yha, ← yhf', ← yhp', ← yhn]
  obtain ⟨W, hW⟩ : ∃ W, W = (w.alloc (.cells #[.bool xa, .int .i64 xf, .int .i64 xp, (.slice xpa xnp xpc), .int .i64 xn, (.slice xfa xnf xfc)] 49)).alloc (.cells #[.bool ya, .int .i64 yf, .int .i64 yp, (.slice ypa ynp ypc), .int .i64 yn, (.slice yfa ynf yfc)] 49) := ⟨_, rfl⟩
  obtain ⟨g, hg⟩ : ∃ g, g = w.heap.size := ⟨_, rfl⟩
  have HBX := Lib.hid (show BoxAt W g xa xf xp (.slice xpa xnp xpc) xn (.slice xfa xnf xfc) by rw [hW, hg]; exact (BoxAt.made _ _ _ _ _ _ _).keep ((Below.refl _ _).alloc (Nat.le_refl _) _))
  have HBY := Lib.hid (show BoxAt W (g + 1) ya yf yp (.slice ypa ynp ypc) yn (.slice yfa ynf yfc) by rw [hW, hg]; have := BoxAt.made (w.alloc (.cells #[.bool xa, .int .i64 xf, .int .i64 xp, (.slice xpa xnp xpc), .int .i64 xn, (.slice xfa xnf xfc)] 49)) ya yf yp (.slice ypa ynp ypc) yn (.slice yfa ynf yfc); simpa using this)
  have HBW := Lib.hid (show Below w.heap.size w W by rw [hW]; exact ((Below.refl _ _).alloc (Nat.le_refl _) _).alloc (by simp) _)
  have HSZ := Lib.hid (show W.heap.size = g + 2 by rw [hW, hg]; simp)
  have HG := Lib.hid hg
  have HW := Lib.hid hW
  have HN := Lib.hid (show ¬ N g ∧ ¬ N (g + 1) by rw [hg]; exact ⟨fun h => by have := hNw _ h; omega, fun h => by have := hNw _ h; omega⟩)
  have HST := Lib.hid (hkeep _ _ _ hst HBW.out)
  have HXF := Lib.hid (TySN.stay xhf (.of HBW.out))
  have HYF := Lib.hid (TySN.stay yhf (.of HBW.out))
  have HXN := Lib.hid xhnf
  have HYN := Lib.hid yhnf
  have HA := Lib.hid hA
  have HB := Lib.hid hB
  have HCP := Lib.hid hCp
  have HCC := Lib.hid hCc
  have HR := Lib.hid hR
  have HC := Lib.hid hc
  have HF := Lib.hid F
  have HK := Lib.hid hkeep
  have HW0 := Lib.hid (hw.trans (.of HBW.out))
  clear hA hB hCp hCc hkeep hst hW hg hN hNw hR hc hw hx hy F okx oky xhp xhf xhnp xhnf xha xhf' xhp' xhn yhp yhf yhnp yhnf yha yhf' yhp' yhn
  by_cases hxp : xn = 0
  · have hv1 : hasFr xn xnf = false := hasf_no px hxp
    have HZ := Lib.hid (HA.out (.inl hxp))
    clear hxp px py
    go_enter Try.func83, Try.ntmps83
    go_wp2_with fail
    rw [← HG.out, ← HW.out]
    refine (hasF_raw _ _ _ _ _ _ _ _ _ _ W).mono ?_
    rintro e w2 ⟨rfl, hb2⟩
    rw [hv1]
    have HX2 := Lib.hid (HBX.out.keep hb2)
    have HY2 := Lib.hid (HBY.out.keep hb2)
    have HB2 := Lib.hid hb2
    clear hb2
    have x0 := HX2.out.c0
    have x1 := HX2.out.c1
    have x2 := HX2.out.c2
    have x3 := HX2.out.c3
    have x4 := HX2.out.c4
    have x5 := HX2.out.c5
    have y0 := HY2.out.c0
    have y1 := HY2.out.c1
    have y2 := HY2.out.c2
    have y3 := HY2.out.c3
    have y4 := HY2.out.c4
    have y5 := HY2.out.c5
    go_wp2
    go_ret
    exact ⟨ret_bool (by rw [HZ.out]), .of (HBW.out.trans (HB2.out.mono HBW.out.size)), n, by omega, HK.out _ _ _ HST.out HB2.out⟩
  by_cases h2 : yn = 2
  · have hv1 : hasFr xn xnf = true := hasf_yes px hxp
    have HZ := Lib.hid (HA.out (.inr h2))
    have hq : (yn == 2) = true := by rw [h2]; rfl
    clear hxp px py h2
    go_enter Try.func83, Try.ntmps83
    go_wp2_with fail
    rw [← HG.out, ← HW.out]
    refine (hasF_raw _ _ _ _ _ _ _ _ _ _ W).mono ?_
    rintro e w2 ⟨rfl, hb2⟩
    rw [hv1]
    have HX2 := Lib.hid (HBX.out.keep hb2)
    have HY2 := Lib.hid (HBY.out.keep hb2)
    have HB2 := Lib.hid hb2
    clear hb2
    have x0 := HX2.out.c0
    have x1 := HX2.out.c1
    have x2 := HX2.out.c2
    have x3 := HX2.out.c3
    have x4 := HX2.out.c4
    have x5 := HX2.out.c5
    have y0 := HY2.out.c0
    have y1 := HY2.out.c1
    have y2 := HY2.out.c2
    have y3 := HY2.out.c3
    have y4 := HY2.out.c4
    have y5 := HY2.out.c5
    go_wp2
    go_ret
    exact ⟨ret_bool (by rw [HZ.out]), .of (HBW.out.trans (HB2.out.mono HBW.out.size)), n, by omega, HK.out _ _ _ HST.out HB2.out⟩
  by_cases h0 : yn = 0
  · have hv1 : hasFr xn xnf = true := hasf_yes px hxp
    have hv2 : hasFr yn ynf = false := hasf_no py h0
    have HZ := Lib.hid (HB.out (fun h => h.elim hxp h2) (.inl h0))
    have hq : (yn == 2) = false := beq_false_of_ne h2
    clear hxp px py h2 h0
    go_enter Try.func83, Try.ntmps83
    go_wp2_with fail
    rw [← HG.out, ← HW.out]
    refine (hasF_raw _ _ _ _ _ _ _ _ _ _ W).mono ?_
    rintro e w2 ⟨rfl, hb2⟩
    rw [hv1]
    have HX2 := Lib.hid (HBX.out.keep hb2)
    have HY2 := Lib.hid (HBY.out.keep hb2)
    have HB2 := Lib.hid hb2
    clear hb2
    have x0 := HX2.out.c0
    have x1 := HX2.out.c1
    have x2 := HX2.out.c2
    have x3 := HX2.out.c3
    have x4 := HX2.out.c4
    have x5 := HX2.out.c5
    have y0 := HY2.out.c0
    have y1 := HY2.out.c1
    have y2 := HY2.out.c2
    have y3 := HY2.out.c3
    have y4 := HY2.out.c4
    have y5 := HY2.out.c5
    go_wp2_with fail
    refine (hasF_raw _ _ _ _ _ _ _ _ _ _ w2).mono ?_
    rintro e w3 ⟨rfl, hb3⟩
    rw [hv2]
    have HX3 := Lib.hid (HX2.out.keep hb3)
    have HY3 := Lib.hid (HY2.out.keep hb3)
    have HB3 := Lib.hid (HB2.out.trans (hb3.mono HB2.out.size))
    clear hb3
    clear x0 x1 x2 x3 x4 x5 y0 y1 y2 y3 y4 y5
    have x0 := HX3.out.c0
    have x1 := HX3.out.c1
    have x2 := HX3.out.c2
    have x3 := HX3.out.c3
    have x4 := HX3.out.c4
    have x5 := HX3.out.c5
    have y0 := HY3.out.c0
    have y1 := HY3.out.c1
    have y2 := HY3.out.c2
    have y3 := HY3.out.c3
    have y4 := HY3.out.c4
    have y5 := HY3.out.c5
    go_wp2
    go_ret
    exact ⟨ret_bool (by rw [HZ.out]), .of (HBW.out.trans (HB3.out.mono HBW.out.size)), n, by omega, HK.out _ _ _ HST.out HB3.out⟩
  by_cases hlen : xnf = ynf
  case neg =>
    have hv1 : hasFr xn xnf = true := hasf_yes px hxp
    have hv2 : hasFr yn ynf = true := hasf_yes py h0
    have HZ := Lib.hid (HB.out (fun h => h.elim hxp h2) (.inr hlen))
    have hq : (yn == 2) = false := beq_false_of_ne h2
    have hne : ((xnf : Int) != (ynf : Int)) = true := by rw [bne_iff_ne]; omega
    clear hxp px py h2 h0 hlen
    go_enter Try.func83, Try.ntmps83
    go_wp2_with fail
    rw [← HG.out, ← HW.out]
    refine (hasF_raw _ _ _ _ _ _ _ _ _ _ W).mono ?_
    rintro e w2 ⟨rfl, hb2⟩
    rw [hv1]
    have HX2 := Lib.hid (HBX.out.keep hb2)
    have HY2 := Lib.hid (HBY.out.keep hb2)
    have HB2 := Lib.hid hb2
    clear hb2
    have x0 := HX2.out.c0
    have x1 := HX2.out.c1
    have x2 := HX2.out.c2
    have x3 := HX2.out.c3
    have x4 := HX2.out.c4
    have x5 := HX2.out.c5
    have y0 := HY2.out.c0
    have y1 := HY2.out.c1
    have y2 := HY2.out.c2
    have y3 := HY2.out.c3
    have y4 := HY2.out.c4
    have y5 := HY2.out.c5
    go_wp2_with fail
    refine (hasF_raw _ _ _ _ _ _ _ _ _ _ w2).mono ?_
    rintro e w3 ⟨rfl, hb3⟩
    rw [hv2]
    have HX3 := Lib.hid (HX2.out.keep hb3)
    have HY3 := Lib.hid (HY2.out.keep hb3)
    have HB3 := Lib.hid (HB2.out.trans (hb3.mono HB2.out.size))
    clear hb3
    clear x0 x1 x2 x3 x4 x5 y0 y1 y2 y3 y4 y5
    have x0 := HX3.out.c0
    have x1 := HX3.out.c1
    have x2 := HX3.out.c2
    have x3 := HX3.out.c3
    have x4 := HX3.out.c4
    have x5 := HX3.out.c5
    have y0 := HY3.out.c0
    have y1 := HY3.out.c1
    have y2 := HY3.out.c2
    have y3 := HY3.out.c3
    have y4 := HY3.out.c4
    have y5 := HY3.out.c5
    go_wp2
    go_ret
    exact ⟨ret_bool (by rw [HZ.out]), .of (HBW.out.trans (HB3.out.mono HBW.out.size)), n, by omega, HK.out _ _ _ HST.out HB3.out⟩
  have hv1 : hasFr xn xnf = true := hasf_yes px hxp
  have hv2 : hasFr yn ynf = true := hasf_yes py h0
  have hq : (yn == 2) = false := beq_false_of_ne h2
  have hone : 1 ≤ xnf ∧ xnf ≤ 9 := by omega
  have HZ := Lib.hid (HCP.out (fun h => h.elim hxp h2) (fun h => h.elim h0 (fun h => h hlen)))
  have HCC2 := Lib.hid (HCC.out (fun h => h.elim hxp h2) (fun h => h.elim h0 (fun h => h hlen)))
  obtain ⟨hl1, hl9⟩ := hone
  obtain ⟨m, hm⟩ : ∃ m, xnf = m + 1 := ⟨xnf - 1, by omega⟩
  have hne : ((xnf : Int) != (ynf : Int)) = false := by rw [hlen]; simp
  have hY := hlen.symm
  clear hxp px py h2 h0 hlen HA HB HCP HCC
  subst hY
  subst hm
  have hsub : ((((m + 1 : Nat) : Int)) - 1) = (m : Int) := by omega
  have hm8 : m ≤ 8 := by omega
  rw [show m + 1 - 1 = m from rfl] at HZ HCC2
  clear hl1 hl9
  go_enter Try.func83, Try.ntmps83
  go_wp2_with fail
  rw [← HG.out, ← HW.out]
  refine (hasF_raw _ _ _ _ _ _ _ _ _ _ W).mono ?_
  rintro e w2 ⟨rfl, hb2⟩
  rw [hv1]
  have HX2 := Lib.hid (HBX.out.keep hb2)
  have HY2 := Lib.hid (HBY.out.keep hb2)
  have HB2 := Lib.hid hb2
  clear hb2
  have x0 := HX2.out.c0
  have x1 := HX2.out.c1
  have x2 := HX2.out.c2
  have x3 := HX2.out.c3
  have x4 := HX2.out.c4
  have x5 := HX2.out.c5
  have y0 := HY2.out.c0
  have y1 := HY2.out.c1
  have y2 := HY2.out.c2
  have y3 := HY2.out.c3
  have y4 := HY2.out.c4
  have y5 := HY2.out.c5
  go_wp2_with fail
  refine (hasF_raw _ _ _ _ _ _ _ _ _ _ w2).mono ?_
  rintro e w3 ⟨rfl, hb3⟩
  rw [hv2]
  have HX3 := Lib.hid (HX2.out.keep hb3)
  have HY3 := Lib.hid (HY2.out.keep hb3)
  have HB3 := Lib.hid (HB2.out.trans (hb3.mono HB2.out.size))
  clear hb3
  clear x0 x1 x2 x3 x4 x5 y0 y1 y2 y3 y4 y5
  have x0 := HX3.out.c0
  have x1 := HX3.out.c1
  have x2 := HX3.out.c2
  have x3 := HX3.out.c3
  have x4 := HX3.out.c4
  have x5 := HX3.out.c5
  have y0 := HY3.out.c0
  have y1 := HY3.out.c1
  have y2 := HY3.out.c2
  have y3 := HY3.out.c3
  have y4 := HY3.out.c4
  have y5 := HY3.out.c5
  have HS3 := Lib.hid (HK.out _ _ _ HST.out HB3.out)
  have HSW := Lib.hid ((Stay.of (N := N) HBW.out).then HB3.out)
  clear hv1 hv2
  go_wp2
  go_loopw [8, 36] (fun _ i wr => ∃ j : Nat, j ≤ m ∧ i = .int .i64 j ∧ Hid (∀ i, i < j → P (y.funs.getD i ty0) (x.funs.getD i ty0) = true) ∧ Hid (Stay N w3 wr) ∧ Hid (∃ n', n' ≤ n + preC cost y.funs x.funs j ∧ St n' wr)) (fun _ i _ => m - (intOf i).toNat)
  case atStart => exact ⟨0, Nat.zero_le _, by go_num, Lib.hid (fun j hj => absurd hj (Nat.not_lt_zero _)), Lib.hid .refl, Lib.hid ⟨n, Nat.le_refl _, HS3.out⟩⟩
  case round =>
    obtain ⟨j, hj, rfl, HA, HBr, HT⟩ := hrel
    have bX := HX3.out.stay HBr.out HN.out.1
    have bY := HY3.out.stay HBr.out HN.out.2
    have x5 := bX.c5
    have y5 := bY.c5
    have hsW : Stay N W wr := (Stay.of (N := N) HB3.out).trans HBr.out
    have HSWr := Lib.hid (HSW.out.trans HBr.out)
    by_cases hgo : j < m
    · obtain ⟨d, hd⟩ : ∃ d, x.funs.getD (j) ty0 = d := ⟨_, rfl⟩
      obtain ⟨qb, qo, qp1, qc1, qp2, qc2, rfl, qlt, e0, e1, e2, e3, e4, e5, qv⟩ := TySN.elem (TySN.stay HXF.out hsW) (show j < x.funs.length by rw [← HXN.out]; omega) hd
      obtain ⟨e, he⟩ : ∃ d, y.funs.getD (j) ty0 = d := ⟨_, rfl⟩
      obtain ⟨rb, ro, rp1, rc1, rp2, rc2, rfl, rlt, f0, f1, f2, f3, f4, f5, rv⟩ := TySN.elem (TySN.stay HYF.out hsW) (show j < y.funs.length by rw [← HYN.out]; omega) he
      obtain ⟨n1, hn1, hs1⟩ := HT.out
      have hpc : preC cost y.funs x.funs (j + 1) = preC cost y.funs x.funs j + cost e d := by rw [preC, hd, he]
      have hlim : n1 + cost e d ≤ lim := by
        have h1 := HC.out
        have h2 := @preC_mono cost y.funs x.funs (j + 1) m (by omega)
        have h3 := HCC2.out
        omega
      have hRR : R e d := by have := (HR.out j (by omega) (by omega)).2; rwa [hd, he] at this
      have C : Calls Try.prog k (#[.agg #[.bool e.all, .int .i64 e.flat, .int .i64 e.pair, .slice rp1 e.pairs.length rc1, .int .i64 e.fn, .slice rp2 e.funs.length rc2], .agg #[.bool d.all, .int .i64 d.flat, .int .i64 d.pair, .slice qp1 d.pairs.length qc1, .int .i64 d.fn, .slice qp2 d.funs.length qc2]] ++ lb) wr.drew
          fun e' w' => e' = .returned (.bool (P e d)) ∧ Stay N w3 w' ∧ ∃ n', n' ≤ n + preC cost y.funs x.funs (j + 1) ∧ St n' w' := by
        have hb : Below wr.heap.size wr wr.drew := (Below.refl _ _).drew
        have hs := HBr.out.then hb
        refine (HF.out.call wr.drew _ _ e d n1 (HW0.out.trans (hsW.then hb)) (HK.out _ _ _ hs1 hb) hlim hRR (rv.below hb) (qv.below hb)).mono ?_
        rintro e' w' ⟨h2, h3, n', h4, h5⟩
        exact ⟨h2, hs.trans h3, n', by omega, h5⟩
      have hyes : P e d = true → ∀ i, i < j + 1 → P (y.funs.getD i ty0) (x.funs.getD i ty0) = true := fun h i hi => by
        by_cases hij : i < j
        · exact HA.out i hij
        · obtain rfl : i = j := by omega
          rw [hd, he]; exact h
      have hno : P e d = false → z = false := fun h => by
        rw [HZ.out]
        have : ((List.range m).all fun i => P (y.funs.getD i ty0) (x.funs.getD i ty0)) = false := by
          rw [List.all_eq_false]
          exact ⟨j, List.mem_range.2 hgo, by rw [hd, he, h]; simp⟩
        rw [this]; rfl
      obtain ⟨q1, hq1⟩ : ∃ q, q = d.pairs.length := ⟨_, rfl⟩
      obtain ⟨q2, hq2⟩ : ∃ q, q = d.funs.length := ⟨_, rfl⟩
      obtain ⟨s1, hs1'⟩ : ∃ q, q = e.pairs.length := ⟨_, rfl⟩
      obtain ⟨s2, hs2⟩ : ∃ q, q = e.funs.length := ⟨_, rfl⟩
      rw [← hq1] at e3 C
      rw [← hq2] at e5 C
      rw [← hs1'] at f3 C
      rw [← hs2] at f5 C
      obtain ⟨zz, hzz⟩ : ∃ z, z = P e d := ⟨_, rfl⟩
      rw [← hzz] at C hno hyes
      have HC2 := Lib.hid C
      have HYES := Lib.hid hyes
      have HNO2 := Lib.hid hno
      have hlt : (j : Int) < m := by omega
      have hj9 : (j : Int) < (m : Int) + 1 := by omega
      have hj8 : (0 : Int) ≤ (j : Int) := by omega
      have HKL := Lib.hid hgo
      have HPC := Lib.hid (show n + preC cost y.funs x.funs (j + 1) ≤ n + cc by have h2 := @preC_mono cost y.funs x.funs (j + 1) m (by omega); have h3 := HCC2.out; omega)
      have HB0 := HBr
      clear hd he rv qv C hzz hq1 hq2 hs1' hs2 hgo hj hno hyes HA hpc hlim hRR hn1 HT hs1 bX bY hsW
      go_wp2_with fail
      go_still_tail 11, (by kernel_rfl)
      change wpList _ _ _ _ _ wr.drew
      go_wp2_with fail
      refine HC2.out.mono ?_
      rintro e' w4 ⟨rfl, hst4, hnx⟩
      have HB4 := Lib.hid hst4
      have HN4 := Lib.hid hnx
      clear hst4 hnx
      cases zz with
      | false =>
        have HBAD := Lib.hid (HNO2.out (by trivial))
        go_wp2
        go_ret
        exact ⟨ret_bool (by rw [HBAD.out]), HSW.out.trans HB4.out, by obtain ⟨n', h1, h2⟩ := HN4.out; exact ⟨n', Nat.le_trans h1 HPC.out, h2⟩⟩
      | true =>
        go_wp2
        exact ⟨⟨j + 1, by have := HKL.out; omega, by go_num, Lib.hid (HYES.out (by trivial)), HB4, HN4⟩, by have := HKL.out; simp [intOf]; omega⟩
    · have hjm : j = m := by omega
      subst hjm
      have hall : ((List.range j).all fun i => P (y.funs.getD i ty0) (x.funs.getD i ty0)) = true := List.all_eq_true.2 fun i hi => HA.out i (List.mem_range.1 hi)
      obtain ⟨d, hd⟩ : ∃ d, x.funs.getD (j) ty0 = d := ⟨_, rfl⟩
      obtain ⟨qb, qo, qp1, qc1, qp2, qc2, rfl, qlt, e0, e1, e2, e3, e4, e5, qv⟩ := TySN.elem (TySN.stay HXF.out hsW) (show j < x.funs.length by rw [← HXN.out]; omega) hd
      obtain ⟨e, he⟩ : ∃ d, y.funs.getD (j) ty0 = d := ⟨_, rfl⟩
      obtain ⟨rb, ro, rp1, rc1, rp2, rc2, rfl, rlt, f0, f1, f2, f3, f4, f5, rv⟩ := TySN.elem (TySN.stay HYF.out hsW) (show j < y.funs.length by rw [← HYN.out]; omega) he
      obtain ⟨n1, hn1, hs1⟩ := HT.out
      have hlim : n1 + cost d e ≤ lim := by
        have h1 := HC.out
        have h3 := HCC2.out
        rw [hd, he] at h3
        omega
      have hRR : R d e := by have := (HR.out j (by omega) (by omega)).1; rwa [hd, he] at this
      have C : Calls Try.prog k (#[.agg #[.bool d.all, .int .i64 d.flat, .int .i64 d.pair, .slice qp1 d.pairs.length qc1, .int .i64 d.fn, .slice qp2 d.funs.length qc2], .agg #[.bool e.all, .int .i64 e.flat, .int .i64 e.pair, .slice rp1 e.pairs.length rc1, .int .i64 e.fn, .slice rp2 e.funs.length rc2]] ++ lb) wr.drew
          fun e' w' => e' = .returned (.bool z) ∧ Stay N w3 w' ∧ ∃ n', n' ≤ n + cc ∧ St n' w' := by
        have hb : Below wr.heap.size wr wr.drew := (Below.refl _ _).drew
        have hs := HBr.out.then hb
        refine (HF.out.call wr.drew _ _ d e n1 (HW0.out.trans (hsW.then hb)) (HK.out _ _ _ hs1 hb) hlim hRR (qv.below hb) (rv.below hb)).mono ?_
        rintro e' w' ⟨h2, h3, n', h4, h5⟩
        have h6 := HCC2.out
        rw [hd, he] at h6
        exact ⟨by rw [h2, HZ.out, hall, hd, he]; rfl, hs.trans h3, n', by omega, h5⟩
      obtain ⟨q1, hq1⟩ : ∃ q, q = d.pairs.length := ⟨_, rfl⟩
      obtain ⟨q2, hq2⟩ : ∃ q, q = d.funs.length := ⟨_, rfl⟩
      obtain ⟨s1, hs1'⟩ : ∃ q, q = e.pairs.length := ⟨_, rfl⟩
      obtain ⟨s2, hs2⟩ : ∃ q, q = e.funs.length := ⟨_, rfl⟩
      rw [← hq1] at e3 C
      rw [← hq2] at e5 C
      rw [← hs1'] at f3 C
      rw [← hs2] at f5 C
      have HC2 := Lib.hid C
      have hlt : ¬ (j : Int) < j := by omega
      have hj9 : (j : Int) < (j : Int) + 1 := by omega
      have hj8 : (0 : Int) ≤ (j : Int) := by omega
      clear hd he rv qv C hq1 hq2 hs1' hs2 hgo hj HA hlim hRR hn1 HT hs1 bX bY hsW hall
      go_wp2_with fail
      go_still_tail 11, (by kernel_rfl)
      change wpList _ _ _ _ _ wr.drew
      go_wp2_with fail
      refine HC2.out.mono ?_
      rintro e' w4 ⟨rfl, hst4, hnx⟩
      go_wp2
      go_ret
      exact ⟨rfl, HSW.out.trans hst4, hnx⟩
end Go.Proofs.Ytgjkobkcmgliaaa
