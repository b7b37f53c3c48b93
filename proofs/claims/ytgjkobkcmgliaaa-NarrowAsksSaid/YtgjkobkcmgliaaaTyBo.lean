import Derived.Test.YtgjkobkcmgliaaaTyW
import Derived.RegionTactic
namespace Go.Proofs.Ytgjkobkcmgliaaa
open Go.RowKit

theorem fin6 {N : Nat → Prop} {g : Nat} {w : World} {v : Value} {t : Ty} (h : TyVN (fun b => N b ∨ b = g + 2 ∨ b = g + 3) w v t) : TyVN N w.drew v t := (h.mono fun _ _ h => Or.inl h).below (Below.refl _ _).drew
def BothPost (N : Nat → Prop) (s t : Ty) (w : World) (e : Ending) (w' : World) : Prop := (∃ u v, e = .returned (.tuple #[u, v]) ∧ TyVN N w' u s ∧ TyVN N w' v t) ∧ Below w.heap.size w w'

set_option maxRecDepth 100000 in
set_option maxHeartbeats 16000000 in
theorem both_car (N : Nat → Prop) (x y : Ty) (vx vy : Value) (w : World) (hN : ∀ b, N b → b < w.heap.size) (hx : TyVN N w vx x) (hy : TyVN N w vy y) (okx : HdT x) (oky : HdT y) :
    Calls Try.prog 95 #[.func (.func 96) #[] #[], vx, vy] w (BothPost N (carT x) (carT y) w) := by
  have eg : ∀ (args : Array Value) (w : World), (callFunc 96 args).run Try.prog w = .ok (.enter 96 args) w := fun _ _ => rfl
  obtain ⟨g, hg⟩ : ∃ g, g = w.heap.size := ⟨_, rfl⟩
  have hN4 : ∀ w1, Below w.heap.size w w1 → g + 3 < w1.heap.size → ∀ b, (N b ∨ b = g + 2 ∨ b = g + 3) → b < w1.heap.size := fun w1 hb h3 b h => by
    rcases h with h | h | h
    · have := hN b h; have := hb.size; omega
    · omega
    · omega
  have hC1 : ∀ w1, Below w.heap.size w w1 → g + 3 < w1.heap.size → Calls Try.prog 96 #[vx] w1 (TwPost (fun b => N b ∨ b = g + 2 ∨ b = g + 3) (carT x) (carB x) w1) := fun w1 hb h3 =>
    car_p _ x vx w1 (hN4 w1 hb h3) (hx.later hb fun b h => h.imp id fun h => by omega) okx
  have hC2 : ∀ w1, Below w.heap.size w w1 → g + 3 < w1.heap.size → Calls Try.prog 96 #[vy] w1 (TwPost (fun b => N b ∨ b = g + 2 ∨ b = g + 3) (carT y) (carB y) w1) := fun w1 hb h3 =>
    car_p _ y vy w1 (hN4 w1 hb h3) (hy.later hb fun b h => h.imp id fun h => by omega) oky
  obtain ⟨xpa, xpc, xfa, xfc, rfl, xhp, xhf⟩ := hx.form
  obtain ⟨xnp, xhnp⟩ : ∃ n, n = x.pairs.length := ⟨_, rfl⟩
  obtain ⟨xnf, xhnf⟩ : ∃ n, n = x.funs.length := ⟨_, rfl⟩
  obtain ⟨xa, xha⟩ : ∃ a, a = x.all := ⟨_, rfl⟩
  obtain ⟨xf, xhf'⟩ : ∃ a, a = x.flat := ⟨_, rfl⟩
  obtain ⟨xp, xhp'⟩ : ∃ a, a = x.pair := ⟨_, rfl⟩
  obtain ⟨xn, xhn⟩ : ∃ a, a = x.fn := ⟨_, rfl⟩
  obtain ⟨ypa, ypc, yfa, yfc, rfl, yhp, yhf⟩ := hy.form
  obtain ⟨ynp, yhnp⟩ : ∃ n, n = y.pairs.length := ⟨_, rfl⟩
  obtain ⟨ynf, yhnf⟩ : ∃ n, n = y.funs.length := ⟨_, rfl⟩
  obtain ⟨ya, yha⟩ : ∃ a, a = y.all := ⟨_, rfl⟩
  obtain ⟨yf, yhf'⟩ : ∃ a, a = y.flat := ⟨_, rfl⟩
  obtain ⟨yp, yhp'⟩ : ∃ a, a = y.pair := ⟨_, rfl⟩
  obtain ⟨yn, yhn⟩ : ∃ a, a = y.fn := ⟨_, rfl⟩
  generalize carT x = dx at hC1 ⊢
  generalize carT y = dy at hC2 ⊢
  generalize carB x = bx at hC1
  generalize carB y = by' at hC2
  rw [← xhnp, ← xhnf, ← xha, ← xhf', ← xhp', ← xhn] at hC1
  rw [← yhnp, ← yhnf, ← yha, ← yhf', ← yhp', ← yhn] at hC2
  rw [← xhnp, ← xhnf, ← xha, ← xhf', ← xhp', ← xhn, ← yhnp, ← yhnf, ← yha, ← yhf', ← yhp', ← yhn]
  obtain ⟨W, hW⟩ : ∃ W, W = (((w.alloc (.cells #[.bool xa, .int .i64 xf, .int .i64 xp, (.slice xpa xnp xpc), .int .i64 xn, (.slice xfa xnf xfc)] 49)).alloc (.cells #[.bool ya, .int .i64 yf, .int .i64 yp, (.slice ypa ynp ypc), .int .i64 yn, (.slice yfa ynf yfc)] 49)).alloc (.cells #[.bool false, .int .i64 0, .int .i64 0, (.slice none 0 0), .int .i64 0, (.slice none 0 0)] 49)).alloc (.cells #[.bool false, .int .i64 0, .int .i64 0, (.slice none 0 0), .int .i64 0, (.slice none 0 0)] 49) := ⟨_, rfl⟩
  have HBW := Lib.hid (show Below w.heap.size w W by rw [hW]; exact ((((Below.refl _ _).alloc (Nat.le_refl _) _).alloc (by simp) _).alloc (by simp; omega) _).alloc (by simp; omega) _)
  have hsz : W.heap.size = g + 4 := by rw [hW, hg]; simp
  have HBY := Lib.hid (show BoxAt W (g + 1) ya yf yp (.slice ypa ynp ypc) yn (.slice yfa ynf yfc) by
    rw [hW, hg]; have := BoxAt.made (w.alloc (.cells #[.bool xa, .int .i64 xf, .int .i64 xp, (.slice xpa xnp xpc), .int .i64 xn, (.slice xfa xnf xfc)] 49)) ya yf yp (.slice ypa ynp ypc) yn (.slice yfa ynf yfc)
    simp only [alloc_hs] at this
    exact (this.keep ((Below.refl _ _).alloc (Nat.le_refl _) _)).keep ((Below.refl _ _).alloc (Nat.le_refl _) _))
  have HR1 := Lib.hid (show BoxAt W (g + 2) false 0 0 (.slice none 0 0) 0 (.slice none 0 0) by
    rw [hW, hg]; have := BoxAt.made ((w.alloc (.cells #[.bool xa, .int .i64 xf, .int .i64 xp, (.slice xpa xnp xpc), .int .i64 xn, (.slice xfa xnf xfc)] 49)).alloc (.cells #[.bool ya, .int .i64 yf, .int .i64 yp, (.slice ypa ynp ypc), .int .i64 yn, (.slice yfa ynf yfc)] 49)) false 0 0 (.slice none 0 0) 0 (.slice none 0 0)
    simp only [alloc_hs] at this
    exact this.keep ((Below.refl _ _).alloc (Nat.le_refl _) _))
  have HR2 := Lib.hid (show BoxAt W (g + 3) false 0 0 (.slice none 0 0) 0 (.slice none 0 0) by
    rw [hW, hg]; have := BoxAt.made (((w.alloc (.cells #[.bool xa, .int .i64 xf, .int .i64 xp, (.slice xpa xnp xpc), .int .i64 xn, (.slice xfa xnf xfc)] 49)).alloc (.cells #[.bool ya, .int .i64 yf, .int .i64 yp, (.slice ypa ynp ypc), .int .i64 yn, (.slice yfa ynf yfc)] 49)).alloc (.cells #[.bool false, .int .i64 0, .int .i64 0, (.slice none 0 0), .int .i64 0, (.slice none 0 0)] 49)) false 0 0 (.slice none 0 0) 0 (.slice none 0 0)
    simp only [alloc_hs] at this
    exact this)
  have HW := Lib.hid hW
  have HG := Lib.hid hg
  have HC1 := Lib.hid (hC1 W HBW.out (by omega))
  have HC2 := Lib.hid hC2
  have HSZ := Lib.hid hsz
  clear hC1 hC2 hW hg hsz hx hy okx oky hN hN4 xhp xhf xhnp xhnf xha xhf' xhp' xhn yhp yhf yhnp yhnf yha yhf' yhp' yhn
  go_enter Try.func95, Try.ntmps95
  go_wp2_with fail
  rw [← HG.out, ← HW.out]
  refine HC1.out.mono ?_
  rintro e w2 ⟨⟨u, rfl, hu⟩, hb2⟩
  obtain ⟨ua, uc, va, vc, rfl, _⟩ := hu.form
  have hr1 := HR1.out.keep hb2
  have r0 := hr1.c0
  have r1 := hr1.c1
  have r2 := hr1.c2
  have r3 := hr1.c3
  have r4 := hr1.c4
  have r5 := hr1.c5
  have rf := hr1.fr
  have hy2 := (HBY.out.keep hb2).other6 (m := g + 2) (a' := dx.all) (f' := dx.flat) (p' := dx.pair) (pv' := .slice ua dx.pairs.length uc) (k' := dx.fn) (fv' := .slice va dx.funs.length vc) (by omega)
  have hr2 := (HR2.out.keep hb2).other6 (m := g + 2) (a' := dx.all) (f' := dx.flat) (p' := dx.pair) (pv' := .slice ua dx.pairs.length uc) (k' := dx.fn) (fv' := .slice va dx.funs.length vc) (by omega)
  have hr3 := hr1.set6 (a' := dx.all) (f' := dx.flat) (p' := dx.pair) (pv' := .slice ua dx.pairs.length uc) (k' := dx.fn) (fv' := .slice va dx.funs.length vc)
  have hu3 := TyVN.set6 (g := g + 2) (a' := dx.all) (f' := dx.flat) (p' := dx.pair) (pv' := .slice ua dx.pairs.length uc) (k' := dx.fn) (fv' := .slice va dx.funs.length vc) hu (.inr (.inl rfl))
  have hb3 := Below.set6 (g := g + 2) (a' := dx.all) (f' := dx.flat) (p' := dx.pair) (pv' := .slice ua dx.pairs.length uc) (k' := dx.fn) (fv' := .slice va dx.funs.length vc) (HBW.out.trans (hb2.mono HBW.out.size)) (by rw [HG.out]; omega)
  have hs3 : (set6 w2 (g + 2) dx.all dx.flat dx.pair (.slice ua dx.pairs.length uc) dx.fn (.slice va dx.funs.length vc)).heap.size = w2.heap.size := by simp [set6, World.setCell]
  obtain ⟨W3, hW3⟩ : ∃ W3, W3 = set6 w2 (g + 2) dx.all dx.flat dx.pair (.slice ua dx.pairs.length uc) dx.fn (.slice va dx.funs.length vc) := ⟨_, rfl⟩
  rw [← hW3] at hy2 hr2 hr3 hu3 hb3 hs3
  have y0 := hy2.c0
  have y1 := hy2.c1
  have y2 := hy2.c2
  have y3 := hy2.c3
  have y4 := hy2.c4
  have y5 := hy2.c5
  have HY2 := Lib.hid hy2
  have HR2' := Lib.hid hr2
  have HR3 := Lib.hid hr3
  have HU3 := Lib.hid hu3
  have HB3 := Lib.hid hb3
  have HC3 := Lib.hid (HC2.out W3 hb3 (by rw [hs3]; have := hb2.size; have := HSZ.out; omega))
  unfold set6 at hW3
  rw [hW3] at y0 y1 y2 y3 y4 y5
  have HW3 := Lib.hid hW3
  clear hy2 hr2 hr3 hu3 hb3 hs3 hW3 hu hb2 hr1
  go_wp2_with fail
  rw [← HW3.out]
  refine HC3.out.mono ?_
  rintro e w4 ⟨⟨z, rfl, hz⟩, hb4⟩
  obtain ⟨za, zc, ya, yc, rfl, _⟩ := hz.form
  clear y0 y1 y2 y3 y4 y5 r0 r1 r2 r3 r4 r5 rf
  have hr4 := HR2'.out.keep hb4
  have r0 := hr4.c0
  have r1 := hr4.c1
  have r2 := hr4.c2
  have r3 := hr4.c3
  have r4 := hr4.c4
  have r5 := hr4.c5
  have rf := hr4.fr
  have hq := (HR3.out.keep hb4).other6 (m := g + 3) (a' := dy.all) (f' := dy.flat) (p' := dy.pair) (pv' := .slice za dy.pairs.length zc) (k' := dy.fn) (fv' := .slice ya dy.funs.length yc) (by omega)
  have hq2 := hr4.set6 (a' := dy.all) (f' := dy.flat) (p' := dy.pair) (pv' := .slice za dy.pairs.length zc) (k' := dy.fn) (fv' := .slice ya dy.funs.length yc)
  have hu5 := TyVN.set6 (g := g + 3) (a' := dy.all) (f' := dy.flat) (p' := dy.pair) (pv' := .slice za dy.pairs.length zc) (k' := dy.fn) (fv' := .slice ya dy.funs.length yc) (HU3.out.below hb4) (.inr (.inr rfl))
  have hz5 := TyVN.set6 (g := g + 3) (a' := dy.all) (f' := dy.flat) (p' := dy.pair) (pv' := .slice za dy.pairs.length zc) (k' := dy.fn) (fv' := .slice ya dy.funs.length yc) hz (.inr (.inr rfl))
  have hb5 := Below.set6 (g := g + 3) (a' := dy.all) (f' := dy.flat) (p' := dy.pair) (pv' := .slice za dy.pairs.length zc) (k' := dy.fn) (fv' := .slice ya dy.funs.length yc) (HB3.out.trans (hb4.mono HB3.out.size)) (by rw [HG.out]; omega)
  obtain ⟨W5, hW5⟩ : ∃ W5, W5 = set6 w4 (g + 3) dy.all dy.flat dy.pair (.slice za dy.pairs.length zc) dy.fn (.slice ya dy.funs.length yc) := ⟨_, rfl⟩
  rw [← hW5] at hq hq2 hu5 hz5 hb5
  have HQ := Lib.hid hq
  have HQ2 := Lib.hid hq2
  have HU5 := Lib.hid hu5
  have HZ5 := Lib.hid hz5
  have HB5 := Lib.hid hb5
  unfold set6 at hW5
  have HW5 := Lib.hid hW5
  clear hq hq2 hu5 hz5 hb5 hz hb4 hr4 hW5
  go_wp2_with fail
  rw [← HW5.out]
  clear HW5 HC3 HW3 HC2 HC1 HW HBY HR1 HR2 HB3 HU3 HR2' HY2 HR3
  have a0 := HQ.out.c0
  have a1 := HQ.out.c1
  have a2 := HQ.out.c2
  have a3 := HQ.out.c3
  have a4 := HQ.out.c4
  have a5 := HQ.out.c5
  have b0 := HQ2.out.c0
  have b1 := HQ2.out.c1
  have b2 := HQ2.out.c2
  have b3 := HQ2.out.c3
  have b4 := HQ2.out.c4
  have b5 := HQ2.out.c5
  have af := HQ.out.fr
  have bf := HQ2.out.fr
  go_region
  all_goals (try go_wp2)
  all_goals
    refine bodyPost_ret (v := .tuple #[.agg #[.bool dx.all, .int .i64 dx.flat, .int .i64 dx.pair, .slice ua dx.pairs.length uc, .int .i64 dx.fn, .slice va dx.funs.length vc], .agg #[.bool dy.all, .int .i64 dy.flat, .int .i64 dy.pair, .slice za dy.pairs.length zc, .int .i64 dy.fn, .slice ya dy.funs.length yc]]) ?_ ?_ ?_
    · simp [results, Try.results95, go_sem, a0, a1, a2, a3, a4, a5, b0, b1, b2, b3, b4, b5]
    · rfl
    · refine ⟨⟨_, _, rfl, ?_, ?_⟩, ?_⟩
      · first
          | exact fin6 ((HU5.out.set6 (g := g + 2) (.inr (.inl rfl))).set6 (g := g + 3) (.inr (.inr rfl)))
          | exact fin6 ((HU5.out.set6 (g := g + 3) (.inr (.inr rfl))).set6 (g := g + 2) (.inr (.inl rfl)))
      · first
          | exact fin6 ((HZ5.out.set6 (g := g + 2) (.inr (.inl rfl))).set6 (g := g + 3) (.inr (.inr rfl)))
          | exact fin6 ((HZ5.out.set6 (g := g + 3) (.inr (.inr rfl))).set6 (g := g + 2) (.inr (.inl rfl)))
      · first
          | exact (Below.set6 (g := g + 3) (Below.set6 (g := g + 2) HB5.out (by rw [HG.out]; omega)) (by rw [HG.out]; omega)).drew
          | exact (Below.set6 (g := g + 2) (Below.set6 (g := g + 3) HB5.out (by rw [HG.out]; omega)) (by rw [HG.out]; omega)).drew

set_option maxRecDepth 100000 in
set_option maxHeartbeats 16000000 in
theorem both_cdr (N : Nat → Prop) (x y : Ty) (vx vy : Value) (w : World) (hN : ∀ b, N b → b < w.heap.size) (hx : TyVN N w vx x) (hy : TyVN N w vy y) (okx : HdT x) (oky : HdT y) :
    Calls Try.prog 95 #[.func (.func 98) #[] #[], vx, vy] w (BothPost N (cdrT x) (cdrT y) w) := by
  have eg : ∀ (args : Array Value) (w : World), (callFunc 98 args).run Try.prog w = .ok (.enter 98 args) w := fun _ _ => rfl
  obtain ⟨g, hg⟩ : ∃ g, g = w.heap.size := ⟨_, rfl⟩
  have hN4 : ∀ w1, Below w.heap.size w w1 → g + 3 < w1.heap.size → ∀ b, (N b ∨ b = g + 2 ∨ b = g + 3) → b < w1.heap.size := fun w1 hb h3 b h => by
    rcases h with h | h | h
    · have := hN b h; have := hb.size; omega
    · omega
    · omega
  have hC1 : ∀ w1, Below w.heap.size w w1 → g + 3 < w1.heap.size → Calls Try.prog 98 #[vx] w1 (TwPost (fun b => N b ∨ b = g + 2 ∨ b = g + 3) (cdrT x) (cdrB x) w1) := fun w1 hb h3 =>
    cdr_p _ x vx w1 (hN4 w1 hb h3) (hx.later hb fun b h => h.imp id fun h => by omega) okx
  have hC2 : ∀ w1, Below w.heap.size w w1 → g + 3 < w1.heap.size → Calls Try.prog 98 #[vy] w1 (TwPost (fun b => N b ∨ b = g + 2 ∨ b = g + 3) (cdrT y) (cdrB y) w1) := fun w1 hb h3 =>
    cdr_p _ y vy w1 (hN4 w1 hb h3) (hy.later hb fun b h => h.imp id fun h => by omega) oky
  obtain ⟨xpa, xpc, xfa, xfc, rfl, xhp, xhf⟩ := hx.form
  obtain ⟨xnp, xhnp⟩ : ∃ n, n = x.pairs.length := ⟨_, rfl⟩
  obtain ⟨xnf, xhnf⟩ : ∃ n, n = x.funs.length := ⟨_, rfl⟩
  obtain ⟨xa, xha⟩ : ∃ a, a = x.all := ⟨_, rfl⟩
  obtain ⟨xf, xhf'⟩ : ∃ a, a = x.flat := ⟨_, rfl⟩
  obtain ⟨xp, xhp'⟩ : ∃ a, a = x.pair := ⟨_, rfl⟩
  obtain ⟨xn, xhn⟩ : ∃ a, a = x.fn := ⟨_, rfl⟩
  obtain ⟨ypa, ypc, yfa, yfc, rfl, yhp, yhf⟩ := hy.form
  obtain ⟨ynp, yhnp⟩ : ∃ n, n = y.pairs.length := ⟨_, rfl⟩
  obtain ⟨ynf, yhnf⟩ : ∃ n, n = y.funs.length := ⟨_, rfl⟩
  obtain ⟨ya, yha⟩ : ∃ a, a = y.all := ⟨_, rfl⟩
  obtain ⟨yf, yhf'⟩ : ∃ a, a = y.flat := ⟨_, rfl⟩
  obtain ⟨yp, yhp'⟩ : ∃ a, a = y.pair := ⟨_, rfl⟩
  obtain ⟨yn, yhn⟩ : ∃ a, a = y.fn := ⟨_, rfl⟩
  generalize cdrT x = dx at hC1 ⊢
  generalize cdrT y = dy at hC2 ⊢
  generalize cdrB x = bx at hC1
  generalize cdrB y = by' at hC2
  rw [← xhnp, ← xhnf, ← xha, ← xhf', ← xhp', ← xhn] at hC1
  rw [← yhnp, ← yhnf, ← yha, ← yhf', ← yhp', ← yhn] at hC2
  rw [← xhnp, ← xhnf, ← xha, ← xhf', ← xhp', ← xhn, ← yhnp, ← yhnf, ← yha, ← yhf', ← yhp', ← yhn]
  obtain ⟨W, hW⟩ : ∃ W, W = (((w.alloc (.cells #[.bool xa, .int .i64 xf, .int .i64 xp, (.slice xpa xnp xpc), .int .i64 xn, (.slice xfa xnf xfc)] 49)).alloc (.cells #[.bool ya, .int .i64 yf, .int .i64 yp, (.slice ypa ynp ypc), .int .i64 yn, (.slice yfa ynf yfc)] 49)).alloc (.cells #[.bool false, .int .i64 0, .int .i64 0, (.slice none 0 0), .int .i64 0, (.slice none 0 0)] 49)).alloc (.cells #[.bool false, .int .i64 0, .int .i64 0, (.slice none 0 0), .int .i64 0, (.slice none 0 0)] 49) := ⟨_, rfl⟩
  have HBW := Lib.hid (show Below w.heap.size w W by rw [hW]; exact ((((Below.refl _ _).alloc (Nat.le_refl _) _).alloc (by simp) _).alloc (by simp; omega) _).alloc (by simp; omega) _)
  have hsz : W.heap.size = g + 4 := by rw [hW, hg]; simp
  have HBY := Lib.hid (show BoxAt W (g + 1) ya yf yp (.slice ypa ynp ypc) yn (.slice yfa ynf yfc) by
    rw [hW, hg]; have := BoxAt.made (w.alloc (.cells #[.bool xa, .int .i64 xf, .int .i64 xp, (.slice xpa xnp xpc), .int .i64 xn, (.slice xfa xnf xfc)] 49)) ya yf yp (.slice ypa ynp ypc) yn (.slice yfa ynf yfc)
    simp only [alloc_hs] at this
    exact (this.keep ((Below.refl _ _).alloc (Nat.le_refl _) _)).keep ((Below.refl _ _).alloc (Nat.le_refl _) _))
  have HR1 := Lib.hid (show BoxAt W (g + 2) false 0 0 (.slice none 0 0) 0 (.slice none 0 0) by
    rw [hW, hg]; have := BoxAt.made ((w.alloc (.cells #[.bool xa, .int .i64 xf, .int .i64 xp, (.slice xpa xnp xpc), .int .i64 xn, (.slice xfa xnf xfc)] 49)).alloc (.cells #[.bool ya, .int .i64 yf, .int .i64 yp, (.slice ypa ynp ypc), .int .i64 yn, (.slice yfa ynf yfc)] 49)) false 0 0 (.slice none 0 0) 0 (.slice none 0 0)
    simp only [alloc_hs] at this
    exact this.keep ((Below.refl _ _).alloc (Nat.le_refl _) _))
  have HR2 := Lib.hid (show BoxAt W (g + 3) false 0 0 (.slice none 0 0) 0 (.slice none 0 0) by
    rw [hW, hg]; have := BoxAt.made (((w.alloc (.cells #[.bool xa, .int .i64 xf, .int .i64 xp, (.slice xpa xnp xpc), .int .i64 xn, (.slice xfa xnf xfc)] 49)).alloc (.cells #[.bool ya, .int .i64 yf, .int .i64 yp, (.slice ypa ynp ypc), .int .i64 yn, (.slice yfa ynf yfc)] 49)).alloc (.cells #[.bool false, .int .i64 0, .int .i64 0, (.slice none 0 0), .int .i64 0, (.slice none 0 0)] 49)) false 0 0 (.slice none 0 0) 0 (.slice none 0 0)
    simp only [alloc_hs] at this
    exact this)
  have HW := Lib.hid hW
  have HG := Lib.hid hg
  have HC1 := Lib.hid (hC1 W HBW.out (by omega))
  have HC2 := Lib.hid hC2
  have HSZ := Lib.hid hsz
  clear hC1 hC2 hW hg hsz hx hy okx oky hN hN4 xhp xhf xhnp xhnf xha xhf' xhp' xhn yhp yhf yhnp yhnf yha yhf' yhp' yhn
  go_enter Try.func95, Try.ntmps95
  go_wp2_with fail
  rw [← HG.out, ← HW.out]
  refine HC1.out.mono ?_
  rintro e w2 ⟨⟨u, rfl, hu⟩, hb2⟩
  obtain ⟨ua, uc, va, vc, rfl, _⟩ := hu.form
  have hr1 := HR1.out.keep hb2
  have r0 := hr1.c0
  have r1 := hr1.c1
  have r2 := hr1.c2
  have r3 := hr1.c3
  have r4 := hr1.c4
  have r5 := hr1.c5
  have rf := hr1.fr
  have hy2 := (HBY.out.keep hb2).other6 (m := g + 2) (a' := dx.all) (f' := dx.flat) (p' := dx.pair) (pv' := .slice ua dx.pairs.length uc) (k' := dx.fn) (fv' := .slice va dx.funs.length vc) (by omega)
  have hr2 := (HR2.out.keep hb2).other6 (m := g + 2) (a' := dx.all) (f' := dx.flat) (p' := dx.pair) (pv' := .slice ua dx.pairs.length uc) (k' := dx.fn) (fv' := .slice va dx.funs.length vc) (by omega)
  have hr3 := hr1.set6 (a' := dx.all) (f' := dx.flat) (p' := dx.pair) (pv' := .slice ua dx.pairs.length uc) (k' := dx.fn) (fv' := .slice va dx.funs.length vc)
  have hu3 := TyVN.set6 (g := g + 2) (a' := dx.all) (f' := dx.flat) (p' := dx.pair) (pv' := .slice ua dx.pairs.length uc) (k' := dx.fn) (fv' := .slice va dx.funs.length vc) hu (.inr (.inl rfl))
  have hb3 := Below.set6 (g := g + 2) (a' := dx.all) (f' := dx.flat) (p' := dx.pair) (pv' := .slice ua dx.pairs.length uc) (k' := dx.fn) (fv' := .slice va dx.funs.length vc) (HBW.out.trans (hb2.mono HBW.out.size)) (by rw [HG.out]; omega)
  have hs3 : (set6 w2 (g + 2) dx.all dx.flat dx.pair (.slice ua dx.pairs.length uc) dx.fn (.slice va dx.funs.length vc)).heap.size = w2.heap.size := by simp [set6, World.setCell]
  obtain ⟨W3, hW3⟩ : ∃ W3, W3 = set6 w2 (g + 2) dx.all dx.flat dx.pair (.slice ua dx.pairs.length uc) dx.fn (.slice va dx.funs.length vc) := ⟨_, rfl⟩
  rw [← hW3] at hy2 hr2 hr3 hu3 hb3 hs3
  have y0 := hy2.c0
  have y1 := hy2.c1
  have y2 := hy2.c2
  have y3 := hy2.c3
  have y4 := hy2.c4
  have y5 := hy2.c5
  have HY2 := Lib.hid hy2
  have HR2' := Lib.hid hr2
  have HR3 := Lib.hid hr3
  have HU3 := Lib.hid hu3
  have HB3 := Lib.hid hb3
  have HC3 := Lib.hid (HC2.out W3 hb3 (by rw [hs3]; have := hb2.size; have := HSZ.out; omega))
  unfold set6 at hW3
  rw [hW3] at y0 y1 y2 y3 y4 y5
  have HW3 := Lib.hid hW3
  clear hy2 hr2 hr3 hu3 hb3 hs3 hW3 hu hb2 hr1
  go_wp2_with fail
  rw [← HW3.out]
  refine HC3.out.mono ?_
  rintro e w4 ⟨⟨z, rfl, hz⟩, hb4⟩
  obtain ⟨za, zc, ya, yc, rfl, _⟩ := hz.form
  clear y0 y1 y2 y3 y4 y5 r0 r1 r2 r3 r4 r5 rf
  have hr4 := HR2'.out.keep hb4
  have r0 := hr4.c0
  have r1 := hr4.c1
  have r2 := hr4.c2
  have r3 := hr4.c3
  have r4 := hr4.c4
  have r5 := hr4.c5
  have rf := hr4.fr
  have hq := (HR3.out.keep hb4).other6 (m := g + 3) (a' := dy.all) (f' := dy.flat) (p' := dy.pair) (pv' := .slice za dy.pairs.length zc) (k' := dy.fn) (fv' := .slice ya dy.funs.length yc) (by omega)
  have hq2 := hr4.set6 (a' := dy.all) (f' := dy.flat) (p' := dy.pair) (pv' := .slice za dy.pairs.length zc) (k' := dy.fn) (fv' := .slice ya dy.funs.length yc)
  have hu5 := TyVN.set6 (g := g + 3) (a' := dy.all) (f' := dy.flat) (p' := dy.pair) (pv' := .slice za dy.pairs.length zc) (k' := dy.fn) (fv' := .slice ya dy.funs.length yc) (HU3.out.below hb4) (.inr (.inr rfl))
  have hz5 := TyVN.set6 (g := g + 3) (a' := dy.all) (f' := dy.flat) (p' := dy.pair) (pv' := .slice za dy.pairs.length zc) (k' := dy.fn) (fv' := .slice ya dy.funs.length yc) hz (.inr (.inr rfl))
  have hb5 := Below.set6 (g := g + 3) (a' := dy.all) (f' := dy.flat) (p' := dy.pair) (pv' := .slice za dy.pairs.length zc) (k' := dy.fn) (fv' := .slice ya dy.funs.length yc) (HB3.out.trans (hb4.mono HB3.out.size)) (by rw [HG.out]; omega)
  obtain ⟨W5, hW5⟩ : ∃ W5, W5 = set6 w4 (g + 3) dy.all dy.flat dy.pair (.slice za dy.pairs.length zc) dy.fn (.slice ya dy.funs.length yc) := ⟨_, rfl⟩
  rw [← hW5] at hq hq2 hu5 hz5 hb5
  have HQ := Lib.hid hq
  have HQ2 := Lib.hid hq2
  have HU5 := Lib.hid hu5
  have HZ5 := Lib.hid hz5
  have HB5 := Lib.hid hb5
  unfold set6 at hW5
  have HW5 := Lib.hid hW5
  clear hq hq2 hu5 hz5 hb5 hz hb4 hr4 hW5
  go_wp2_with fail
  rw [← HW5.out]
  clear HW5 HC3 HW3 HC2 HC1 HW HBY HR1 HR2 HB3 HU3 HR2' HY2 HR3
  have a0 := HQ.out.c0
  have a1 := HQ.out.c1
  have a2 := HQ.out.c2
  have a3 := HQ.out.c3
  have a4 := HQ.out.c4
  have a5 := HQ.out.c5
  have b0 := HQ2.out.c0
  have b1 := HQ2.out.c1
  have b2 := HQ2.out.c2
  have b3 := HQ2.out.c3
  have b4 := HQ2.out.c4
  have b5 := HQ2.out.c5
  have af := HQ.out.fr
  have bf := HQ2.out.fr
  go_region
  all_goals (try go_wp2)
  all_goals
    refine bodyPost_ret (v := .tuple #[.agg #[.bool dx.all, .int .i64 dx.flat, .int .i64 dx.pair, .slice ua dx.pairs.length uc, .int .i64 dx.fn, .slice va dx.funs.length vc], .agg #[.bool dy.all, .int .i64 dy.flat, .int .i64 dy.pair, .slice za dy.pairs.length zc, .int .i64 dy.fn, .slice ya dy.funs.length yc]]) ?_ ?_ ?_
    · simp [results, Try.results95, go_sem, a0, a1, a2, a3, a4, a5, b0, b1, b2, b3, b4, b5]
    · rfl
    · refine ⟨⟨_, _, rfl, ?_, ?_⟩, ?_⟩
      · first
          | exact fin6 ((HU5.out.set6 (g := g + 2) (.inr (.inl rfl))).set6 (g := g + 3) (.inr (.inr rfl)))
          | exact fin6 ((HU5.out.set6 (g := g + 3) (.inr (.inr rfl))).set6 (g := g + 2) (.inr (.inl rfl)))
      · first
          | exact fin6 ((HZ5.out.set6 (g := g + 2) (.inr (.inl rfl))).set6 (g := g + 3) (.inr (.inr rfl)))
          | exact fin6 ((HZ5.out.set6 (g := g + 3) (.inr (.inr rfl))).set6 (g := g + 2) (.inr (.inl rfl)))
      · first
          | exact (Below.set6 (g := g + 3) (Below.set6 (g := g + 2) HB5.out (by rw [HG.out]; omega)) (by rw [HG.out]; omega)).drew
          | exact (Below.set6 (g := g + 2) (Below.set6 (g := g + 3) HB5.out (by rw [HG.out]; omega)) (by rw [HG.out]; omega)).drew
end Go.Proofs.Ytgjkobkcmgliaaa
