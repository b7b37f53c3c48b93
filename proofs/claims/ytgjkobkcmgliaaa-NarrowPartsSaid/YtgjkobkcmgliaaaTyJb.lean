import Derived.Test.YtgjkobkcmgliaaaTyJf
namespace Go.Proofs.Ytgjkobkcmgliaaa
open Go.RowKit

theorem or_nat : ∀ F, F < 64 → ∀ G, G < 64 → bits .or .i64 ((F : Nat) : Int) ((G : Nat) : Int) = flatJoin ((F : Nat) : Int) ((G : Nat) : Int) := by decide +kernel
theorem or_join {f g : Int} (h0 : 0 ≤ f) (h1 : f ≤ 63) (h2 : 0 ≤ g) (h3 : g ≤ 63) : bits .or .i64 f g = flatJoin f g := by
  obtain ⟨F, rfl⟩ := Int.eq_ofNat_of_zero_le h0
  obtain ⟨G, rfl⟩ := Int.eq_ofNat_of_zero_le h2
  exact or_nat F (by omega) G (by omega)
theorem set6_other {w : World} {g b : Nat} {a : Bool} {f p k : Int} {pv fv : Value} (h : b ≠ g) : (set6 w g a f p pv k fv).heap[b]? = w.heap[b]? := by
  unfold set6
  rw [Below.heap_setCell _ _ _ _ h, Below.heap_setCell _ _ _ _ h, Below.heap_setCell _ _ _ _ h, Below.heap_setCell _ _ _ _ h, Below.heap_setCell _ _ _ _ h, Below.heap_setCell _ _ _ _ h]
theorem Stay.new {N : Nat → Prop} {a w : World} (h : Stay N a w) {p : Addr} (hp : a.heap.size ≤ p.block) (x : Value) : Stay N a (w.setCell p x) :=
  ⟨h.os, h.tape, h.output, by simpa [World.setCell] using h.size, fun k hk hn => (Below.heap_setCell _ _ _ _ (by omega)).trans (h.block k hk hn)⟩
theorem stay_six {N : Nat → Prop} {w0 w : World} {g : Nat} {a : Bool} {f p k : Int} {pv fv : Value} (h : Stay N w0 w) (hg : w0.heap.size ≤ g) : Stay N w0 (set6 w g a f p pv k fv) :=
  (((((h.new (p := ⟨g, 0, none⟩) hg _).new (p := ⟨g, 1, none⟩) hg _).new (p := ⟨g, 2, none⟩) hg _).new (p := ⟨g, 3, none⟩) hg _).new (p := ⟨g, 4, none⟩) hg _).new (p := ⟨g, 5, none⟩) hg _
def joinByT (J : Ty → Ty → Ty) (P : Ty → Ty → Bool) (x y : Ty) : Ty := if x.all || y.all then tyAll else .mk false (flatJoin x.flat y.flat) (joinPairsP x y) (joinPairsL J x y) (joinFunsP P x y) (joinFunsL P x y)

set_option maxRecDepth 100000 in
set_option maxHeartbeats 16000000 in
theorem joinBy_any {N : Nat → Prop} {St : Nat → World → Prop} {k1 k2 : Nat} {lb1 lb2 : Array Value} {W0 : World} {R1 R2 : Ty → Ty → Prop} {J : Ty → Ty → Ty} {P : Ty → Ty → Bool} {cost1 cost2 : Ty → Ty → Nat} {lim : Nat}
    (FT : FnT N St k1 lb1 W0 R1 J cost1 lim) (F : Fn2 N St k2 lb2 W0 R2 P cost2 lim)
    (hset : ∀ (n : Nat) (w w' : World), St n w → (∀ b, N b → w'.heap[b]? = w.heap[b]?) → St n w')
    (M : Nat → Prop) (hNM : ∀ b, N b → M b) (hN : ∀ b, N b → b < W0.heap.size) (x y : Ty) (vx vy : Value) (w : World) (n : Nat) (hM : ∀ b, M b → b < w.heap.size) (hw : Stay N W0 w) (hst : St n w) (hx : TyVN M w vx x) (hy : TyVN M w vy y) (okx : HdT x) (oky : HdT y)
    (hR1 : x.pair ≠ 0 → y.pair ≠ 0 → R1 (carT x) (carT y)) (hR2 : x.pair ≠ 0 → y.pair ≠ 0 → ¬ (x.pair = 2 ∧ y.pair = 2) → R1 (cdrT x) (cdrT y))
    (hR : x.fn ≠ 0 → y.fn ≠ 0 → ∀ j, j < x.funs.length → j < y.funs.length → R2 (x.funs.getD j ty0) (y.funs.getD j ty0)) (hc : n + joinPairsC cost1 x y + joinFunsC cost2 x y ≤ lim) :
    Calls Try.prog 78 #[vx, vy, .func (.func k1) #[] lb1, .func (.func k2) #[] lb2] w
      fun e w' => (∃ v, e = .returned v ∧ TyVN M w' v (joinByT J P x y)) ∧ Stay N w w' ∧ ∃ n', n' ≤ n + joinPairsC cost1 x y + joinFunsC cost2 x y ∧ St n' w' := by
  have hkeep := F.keep
  obtain ⟨g, hg⟩ : ∃ g, g = w.heap.size := ⟨_, rfl⟩
  have hM4 : ∀ w1, Stay N w w1 → g + 3 < w1.heap.size → ∀ b, (M b ∨ b = g + 2 ∨ b = g + 3) → b < w1.heap.size := fun w1 hb h3 b h => by
    rcases h with h | h | h
    · have := hM b h; have := hb.size; omega
    · omega
    · omega
  have hlater : ∀ {v : Value} {t : Ty} {w1 : World}, TyVN M w v t → Stay N w w1 → TyVN (fun b => M b ∨ b = g + 2 ∨ b = g + 3) w1 v t := fun hv hb =>
    TyVN.stay (hv.mono fun b hlt h => h.elim id (fun h => by omega)) (hb.mono fun b h => .inl (hNM b h))
  have hPc : ∀ w1, Stay N w w1 → g + 3 < w1.heap.size → St n w1 → Calls Try.prog 91 #[vx, vy, .func (.func k1) #[] lb1] w1 (PairPost (fun b => M b ∨ b = g + 2 ∨ b = g + 3) N St (joinPairsP x y) (joinPairsL J x y) (n + joinPairsC cost1 x y) w1) := fun w1 h1 h2 h3 =>
    joinPairs_any FT _ (fun b h => .inl (hNM b h)) x y vx vy w1 n (hM4 w1 h1 h2) (hw.trans h1) h3 (hlater hx h1) (hlater hy h1) okx oky hR1 hR2 (by omega)
  have hFc : ∀ w1 n1, Stay N w w1 → g + 3 < w1.heap.size → n1 ≤ n + joinPairsC cost1 x y → St n1 w1 → Calls Try.prog 92 #[vx, vy, .func (.func k2) #[] lb2] w1 (PairPost (fun b => M b ∨ b = g + 2 ∨ b = g + 3) N St (joinFunsP P x y) (joinFunsL P x y) (n1 + joinFunsC cost2 x y) w1) := fun w1 n1 h1 h2 hn h3 =>
    joinFuns_any F _ (fun b h => .inl (hNM b h)) hN x y vx vy w1 n1 (hM4 w1 h1 h2) (hw.trans h1) h3 (hlater hx h1) (hlater hy h1) okx oky hR (by omega)
  have hor : bits .or .i64 x.flat y.flat = flatJoin x.flat y.flat := by
    have a1 := headH okx
    have a2 := headH oky
    exact or_join a1.1 a1.2.1 a2.1 a2.2.1
  have hr1 : x.all = true ∨ y.all = true → joinByT J P x y = tyAll := fun h => by unfold joinByT; rw [if_pos (by rcases h with h | h <;> simp [h])]
  have hr2 : x.all = false → y.all = false → joinByT J P x y = .mk false (flatJoin x.flat y.flat) (joinPairsP x y) (joinPairsL J x y) (joinFunsP P x y) (joinFunsL P x y) := fun h h' => by unfold joinByT; rw [h, h']; rfl
  generalize joinPairsP x y = pP at hPc hr2
  generalize joinPairsL J x y = pL at hPc hr2
  generalize joinFunsP P x y = fP at hFc hr2
  generalize joinFunsL P x y = fL at hFc hr2
  generalize joinPairsC cost1 x y = c1 at hPc hFc hc ⊢
  generalize joinFunsC cost2 x y = c2 at hFc hc ⊢
  generalize flatJoin x.flat y.flat = zf at hor hr2
  generalize joinByT J P x y = z at hr1 hr2 ⊢
  obtain ⟨xpa, xpc, xfa, xfc, rfl, xhp, xhf⟩ := hx.form
  obtain ⟨xnp, xhnp⟩ : ∃ n, n = x.pairs.length := ⟨_, rfl⟩
  obtain ⟨xnf, xhnf⟩ : ∃ n, n = x.funs.length := ⟨_, rfl⟩
  obtain ⟨xa, xha⟩ : ∃ a, a = x.all := ⟨_, rfl⟩
  obtain ⟨xf, xhf'⟩ : ∃ a, a = x.flat := ⟨_, rfl⟩
  obtain ⟨xp, xhp'⟩ : ∃ a, a = x.pair := ⟨_, rfl⟩
  obtain ⟨xn, xhn⟩ : ∃ a, a = x.fn := ⟨_, rfl⟩
  obtain ⟨ypa, ypc, yfa, yfc, rfl, yhp, yhf⟩ := hy.form
  obtain ⟨ynp, yhnp⟩ : ∃ n, n = y.pairs.length := ⟨_, rfl⟩
  obtain ⟨ynf, yhnf⟩ : ∃ n, n = y.funs.length := ⟨_, rfl⟩
  obtain ⟨ya, yha⟩ : ∃ a, a = y.all := ⟨_, rfl⟩
  obtain ⟨yf, yhf'⟩ : ∃ a, a = y.flat := ⟨_, rfl⟩
  obtain ⟨yp, yhp'⟩ : ∃ a, a = y.pair := ⟨_, rfl⟩
  obtain ⟨yn, yhn⟩ : ∃ a, a = y.fn := ⟨_, rfl⟩
  rw [← xha, ← yha] at hr1 hr2
  rw [← xhf', ← yhf'] at hor
  rw [← xhnp, ← xhnf, ← xha, ← xhf', ← xhp', ← xhn, ← yhnp, ← yhnf, ← yha, ← yhf', ← yhp', ← yhn] at hPc hFc
  rw [← xhnp, ← xhnf, ← xha, ← xhf', ← xhp', ← xhn, ← yhnp, ← yhnf, ← yha, ← yhf', ← yhp', ← yhn]
  obtain ⟨W, hW⟩ : ∃ W, W = ((w.alloc (.cells #[.bool xa, .int .i64 xf, .int .i64 xp, (.slice xpa xnp xpc), .int .i64 xn, (.slice xfa xnf xfc)] 49)).alloc (.cells #[.bool ya, .int .i64 yf, .int .i64 yp, (.slice ypa ynp ypc), .int .i64 yn, (.slice yfa ynf yfc)] 49)).alloc (.cells #[.bool false, .int .i64 0, .int .i64 0, (.slice none 0 0), .int .i64 0, (.slice none 0 0)] 49) := ⟨_, rfl⟩
  have hsz : W.heap.size = g + 3 := by rw [hW, hg]; simp
  have HBW := Lib.hid (show Below w.heap.size w W by rw [hW]; exact (((Below.refl _ _).alloc (Nat.le_refl _) _).alloc (by simp) _).alloc (by simp; omega) _)
  have HBX := Lib.hid (show BoxAt W g xa xf xp (.slice xpa xnp xpc) xn (.slice xfa xnf xfc) by rw [hW, hg]; exact ((BoxAt.made _ _ _ _ _ _ _).keep ((Below.refl _ _).alloc (Nat.le_refl _) _)).keep ((Below.refl _ _).alloc (Nat.le_refl _) _))
  have HBY := Lib.hid (show BoxAt W (g + 1) ya yf yp (.slice ypa ynp ypc) yn (.slice yfa ynf yfc) by
    rw [hW, hg]; have := BoxAt.made (w.alloc (.cells #[.bool xa, .int .i64 xf, .int .i64 xp, (.slice xpa xnp xpc), .int .i64 xn, (.slice xfa xnf xfc)] 49)) ya yf yp (.slice ypa ynp ypc) yn (.slice yfa ynf yfc)
    simp only [alloc_hs] at this
    exact this.keep ((Below.refl _ _).alloc (Nat.le_refl _) _))
  have HBR := Lib.hid (show BoxAt W (g + 2) false 0 0 (.slice none 0 0) 0 (.slice none 0 0) by
    rw [hW, hg]; have := BoxAt.made ((w.alloc (.cells #[.bool xa, .int .i64 xf, .int .i64 xp, (.slice xpa xnp xpc), .int .i64 xn, (.slice xfa xnf xfc)] 49)).alloc (.cells #[.bool ya, .int .i64 yf, .int .i64 yp, (.slice ypa ynp ypc), .int .i64 yn, (.slice yfa ynf yfc)] 49)) false 0 0 (.slice none 0 0) 0 (.slice none 0 0)
    simp only [alloc_hs] at this
    exact this)
  have HST := Lib.hid (hkeep _ _ _ hst HBW.out)
  have HS1 := Lib.hid (Stay.of (N := N) HBW.out)
  have HG := Lib.hid hg
  have HW := Lib.hid hW
  have HSZ := Lib.hid hsz
  have HM0 := Lib.hid hM
  have HNM := Lib.hid hNM
  have HP := Lib.hid hPc
  have HF := Lib.hid hFc
  have HR1 := Lib.hid hr1
  have HR2 := Lib.hid hr2
  have HK := Lib.hid hkeep
  have HSET := Lib.hid hset
  have HNG := Lib.hid (show ∀ b, N b → b < g from fun b h => by rw [hg]; exact hM b (hNM b h))
  clear hPc hFc hr1 hr2 hkeep hset hst hW hg hsz hM4 hlater hM hNM hN hR hR1 hR2 hc hw hx hy F FT okx oky xhp xhf xhnp xhnf xha xhf' xhp' xhn yhp yhf yhnp yhnf yha yhf' yhp' yhn
  cases xa with
  | true =>
    have HZ := Lib.hid (HR1.out (.inl rfl))
    clear HR1 HR2
    go_enter Try.func78, Try.ntmps78
    go_wp2_with fail
    rw [← HG.out, ← HW.out]
    refine (all_p W).mono ?_
    rintro e w2 ⟨rfl, hb2⟩
    have hr := HBR.out.keep hb2
    have r0 := hr.c0
    have r1 := hr.c1
    have r2 := hr.c2
    have r3 := hr.c3
    have r4 := hr.c4
    have r5 := hr.c5
    have rf := hr.fr
    have HB2 := Lib.hid hb2
    clear hb2 hr
    go_wp2
    refine bodyPost_ret (v := .agg #[.bool true, .int .i64 0, .int .i64 0, .slice none 0 0, .int .i64 0, .slice none 0 0]) ?_ ?_ ?_
    · simp [results, Try.results78, go_sem, r0, r1, r2, r3, r4, r5]
    · rfl
    · have hb3 := Below.set6 (a' := true) (f' := 0) (p' := 0) (pv' := .slice none 0 0) (k' := 0) (fv' := .slice none 0 0) (HBW.out.trans (HB2.out.mono HBW.out.size)) (g := g + 2) (by rw [HG.out]; omega)
      exact ⟨⟨_, rfl, by rw [HZ.out]; exact tyAll_v _ _⟩, .of hb3, n, by omega, HSET.out _ _ _ (HK.out _ _ _ HST.out HB2.out) fun b h => set6_other (by have := HNG.out b h; omega)⟩
  | false =>
    cases ya with
    | true =>
      have HZ := Lib.hid (HR1.out (.inr rfl))
      clear HR1 HR2
      go_enter Try.func78, Try.ntmps78
      go_wp2_with fail
      rw [← HG.out, ← HW.out]
      refine (all_p W).mono ?_
      rintro e w2 ⟨rfl, hb2⟩
      have hr := HBR.out.keep hb2
      have r0 := hr.c0
      have r1 := hr.c1
      have r2 := hr.c2
      have r3 := hr.c3
      have r4 := hr.c4
      have r5 := hr.c5
      have rf := hr.fr
      have HB2 := Lib.hid hb2
      clear hb2 hr
      go_wp2
      refine bodyPost_ret (v := .agg #[.bool true, .int .i64 0, .int .i64 0, .slice none 0 0, .int .i64 0, .slice none 0 0]) ?_ ?_ ?_
      · simp [results, Try.results78, go_sem, r0, r1, r2, r3, r4, r5]
      · rfl
      · have hb3 := Below.set6 (a' := true) (f' := 0) (p' := 0) (pv' := .slice none 0 0) (k' := 0) (fv' := .slice none 0 0) (HBW.out.trans (HB2.out.mono HBW.out.size)) (g := g + 2) (by rw [HG.out]; omega)
        exact ⟨⟨_, rfl, by rw [HZ.out]; exact tyAll_v _ _⟩, .of hb3, n, by omega, HSET.out _ _ _ (HK.out _ _ _ HST.out HB2.out) fun b h => set6_other (by have := HNG.out b h; omega)⟩
    | false =>
      have HZ := Lib.hid (HR2.out rfl rfl)
      clear HR1 HR2
      obtain ⟨W3, hW3⟩ : ∃ W3, W3 = W.alloc (.cells #[.bool false, .int .i64 zf, .int .i64 0, .slice none 0 0, .int .i64 0, .slice none 0 0] 49) := ⟨_, rfl⟩
      have HB3 := Lib.hid (show Below W.heap.size W W3 by rw [hW3]; exact (Below.refl _ _).alloc (Nat.le_refl _) _)
      have HT := Lib.hid (show BoxAt W3 (g + 3) false zf 0 (.slice none 0 0) 0 (.slice none 0 0) by rw [hW3, ← HSZ.out]; exact BoxAt.made _ _ _ _ _ _ _)
      have HX3 := Lib.hid (HBX.out.keep HB3.out)
      have HY3 := Lib.hid (HBY.out.keep HB3.out)
      have HR3 := Lib.hid (HBR.out.keep HB3.out)
      have HS3 := Lib.hid (HS1.out.then HB3.out)
      have HST3 := Lib.hid (HK.out _ _ _ HST.out HB3.out)
      have HSZ3 := Lib.hid (show W3.heap.size = g + 4 by rw [hW3, alloc_hs, HSZ.out])
      have HW3 := Lib.hid hW3
      clear hW3
      go_enter Try.func78, Try.ntmps78
      go_wp2_with fail
      rw [← HG.out, ← HW.out]
      rw [← HW3.out]
      refine (HP.out W3 HS3.out (by rw [HSZ3.out]; omega) HST3.out).mono ?_
      rintro e w4 ⟨⟨v, rfl, hv⟩, hs4, n4, hn4, ht4⟩
      obtain ⟨va, vc, rfl⟩ := hv.val
      have hnn : ¬ N g ∧ ¬ N (g + 1) ∧ ¬ N (g + 2) ∧ ¬ N (g + 3) := ⟨fun e => by have := HNG.out _ e; omega, fun e => by have := HNG.out _ e; omega, fun e => by have := HNG.out _ e; omega, fun e => by have := HNG.out _ e; omega⟩
      have HNN := Lib.hid hnn
      have hT4 := HT.out.stay hs4 hnn.2.2.2
      have t2 := hT4.c2
      have t3 := hT4.c3
      have tf := hT4.fr
      obtain ⟨W5, hW5⟩ : ∃ W5, W5 = (w4.setCell ⟨g + 3, 2, none⟩ (.int .i64 pP)).setCell ⟨g + 3, 3, none⟩ (.slice va pL.length vc) := ⟨_, rfl⟩
      have HT5 := Lib.hid (show BoxAt W5 (g + 3) false zf pP (.slice va pL.length vc) 0 (.slice none 0 0) by rw [hW5]; exact hT4.s2.s3)
      have HX5 := Lib.hid (show BoxAt W5 g false xf xp (.slice xpa xnp xpc) xn (.slice xfa xnf xfc) by rw [hW5]; exact ((HX3.out.stay hs4 hnn.1).o (by omega)).o (by omega))
      have HY5 := Lib.hid (show BoxAt W5 (g + 1) false yf yp (.slice ypa ynp ypc) yn (.slice yfa ynf yfc) by rw [hW5]; exact ((HY3.out.stay hs4 hnn.2.1).o (by omega)).o (by omega))
      have HR5 := Lib.hid (show BoxAt W5 (g + 2) false 0 0 (.slice none 0 0) 0 (.slice none 0 0) by rw [hW5]; exact ((HR3.out.stay hs4 hnn.2.2.1).o (by omega)).o (by omega))
      have HV5 := Lib.hid (show TyS W5 (Lo (fun b => M b ∨ b = g + 2 ∨ b = g + 3) W5) (.slice va pL.length vc) pL by rw [hW5]; exact TySN.set (TySN.set hv ⟨g + 3, 2, none⟩ (.inr (.inr rfl)) _) ⟨g + 3, 3, none⟩ (.inr (.inr rfl)) _)
      have HS5 := Lib.hid (show Stay N w W5 by rw [hW5]; exact ((HS3.out.trans hs4).new (by show w.heap.size ≤ g + 3; rw [HG.out]; omega) _).new (by show w.heap.size ≤ g + 3; rw [HG.out]; omega) _)
      have HST5 := Lib.hid (show St n4 W5 by rw [hW5]; exact HSET.out _ _ _ ht4 fun b h => by rw [Below.heap_setCell _ _ _ _ (by show b ≠ g + 3; have := HNG.out b h; omega), Below.heap_setCell _ _ _ _ (by show b ≠ g + 3; have := HNG.out b h; omega)])
      have HSZ5 := Lib.hid (show g + 3 < W5.heap.size by rw [hW5]; have := hs4.size; rw [HSZ3.out] at this; simp [World.setCell]; omega)
      have HN4 := Lib.hid hn4
      have h5 := HX5.out
      have h6 := HY5.out
      rw [hW5] at h5 h6
      have x0 := h5.c0
      have x1 := h5.c1
      have x2 := h5.c2
      have x3 := h5.c3
      have x4 := h5.c4
      have x5 := h5.c5
      have y0 := h6.c0
      have y1 := h6.c1
      have y2 := h6.c2
      have y3 := h6.c3
      have y4 := h6.c4
      have y5 := h6.c5
      have HW5 := Lib.hid hW5
      clear hW5 hv hs4 hn4 ht4 hT4 h5 h6 hnn
      go_wp2_with fail
      rw [← HW5.out]
      refine (HF.out W5 n4 HS5.out HSZ5.out HN4.out HST5.out).mono ?_
      rintro e w6 ⟨⟨u, rfl, hu⟩, hs6, n6, hn6, ht6⟩
      obtain ⟨ua, uc, rfl⟩ := hu.val
      clear t2 t3 tf
      clear x0 x1 x2 x3 x4 x5 y0 y1 y2 y3 y4 y5
      have hT6 := HT5.out.stay hs6 HNN.out.2.2.2
      have t4 := hT6.c4
      have t5 := hT6.c5
      have tf := hT6.fr
      obtain ⟨W7, hW7⟩ : ∃ W7, W7 = (w6.setCell ⟨g + 3, 4, none⟩ (.int .i64 fP)).setCell ⟨g + 3, 5, none⟩ (.slice ua fL.length uc) := ⟨_, rfl⟩
      have HT7 := Lib.hid (show BoxAt W7 (g + 3) false zf pP (.slice va pL.length vc) fP (.slice ua fL.length uc) by rw [hW7]; exact hT6.s4.s5)
      have HR7 := Lib.hid (show BoxAt W7 (g + 2) false 0 0 (.slice none 0 0) 0 (.slice none 0 0) by rw [hW7]; exact ((HR5.out.stay hs6 HNN.out.2.2.1).o (by omega)).o (by omega))
      have HV7 := Lib.hid (show TyS W7 (Lo (fun b => M b ∨ b = g + 2 ∨ b = g + 3) W7) (.slice va pL.length vc) pL by rw [hW7]; exact TySN.set (TySN.set (TySN.stay HV5.out (hs6.mono fun b h => .inl (HNM.out b h))) ⟨g + 3, 4, none⟩ (.inr (.inr rfl)) _) ⟨g + 3, 5, none⟩ (.inr (.inr rfl)) _)
      have HU7 := Lib.hid (show TyS W7 (Lo (fun b => M b ∨ b = g + 2 ∨ b = g + 3) W7) (.slice ua fL.length uc) fL by rw [hW7]; exact TySN.set (TySN.set hu ⟨g + 3, 4, none⟩ (.inr (.inr rfl)) _) ⟨g + 3, 5, none⟩ (.inr (.inr rfl)) _)
      have HS7 := Lib.hid (show Stay N w W7 by rw [hW7]; exact ((HS5.out.trans hs6).new (by show w.heap.size ≤ g + 3; rw [HG.out]; omega) _).new (by show w.heap.size ≤ g + 3; rw [HG.out]; omega) _)
      have HST7 := Lib.hid (show St n6 W7 by rw [hW7]; exact HSET.out _ _ _ ht6 fun b h => by rw [Below.heap_setCell _ _ _ _ (by show b ≠ g + 3; have := HNG.out b h; omega), Below.heap_setCell _ _ _ _ (by show b ≠ g + 3; have := HNG.out b h; omega)])
      have HN6 := Lib.hid (show n6 ≤ n + c1 + c2 by have := HN4.out; omega)
      have h7 := HT7.out
      have h8 := HR7.out
      rw [hW7] at h7 h8
      have x0 := h7.c0
      have x1 := h7.c1
      have x2 := h7.c2
      have x3 := h7.c3
      have x4 := h7.c4
      have x5 := h7.c5
      have y0 := h8.c0
      have y1 := h8.c1
      have y2 := h8.c2
      have y3 := h8.c3
      have y4 := h8.c4
      have y5 := h8.c5
      have yf := h8.fr
      have HW7 := Lib.hid hW7
      clear hW7 hu hs6 hn6 ht6 hT6 h7 h8
      go_wp2
      try rw [← HW7.out]
      have r0 := HR7.out.c0
      have r1 := HR7.out.c1
      have r2 := HR7.out.c2
      have r3 := HR7.out.c3
      have r4 := HR7.out.c4
      have r5 := HR7.out.c5
      refine bodyPost_ret (v := .agg #[.bool false, .int .i64 zf, .int .i64 pP, .slice va pL.length vc, .int .i64 fP, .slice ua fL.length uc]) ?_ ?_ ?_
      · simp [results, Try.results78, go_sem, r0, r1, r2, r3, r4, r5]
      · rfl
      · have hz := TyVN.mk (a := false) (f := zf) (p := pP) (g := fP) HV7.out HU7.out
        exact ⟨⟨_, rfl, by rw [HZ.out]; exact (TyVN.set6 (g := g + 2) hz (.inr (.inl rfl))).mono fun _ _ h => .inl h⟩, stay_six (g := g + 2) HS7.out (by rw [HG.out]; omega), n6, HN6.out, HSET.out _ _ _ HST7.out fun b h => set6_other (g := g + 2) (by have := HNG.out b h; omega)⟩
end Go.Proofs.Ytgjkobkcmgliaaa
