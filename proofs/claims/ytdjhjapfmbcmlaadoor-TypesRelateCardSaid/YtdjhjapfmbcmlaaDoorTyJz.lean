import Derived.Test.YtdjhjapfmbcmlaaDoorTyJd
import Derived.Test.YtdjhjapfmbcmlaaDoorTyUn
import Derived.Test.YtdjhjapfmbcmlaaDoorTyPs
import Derived.Laws.EntriesVeiled
namespace Go.Proofs.YtdjhjapfmbcmlaaDoor
open Go.RowKit

set_option maxRecDepth 100000 in
set_option maxHeartbeats 8000000 in
/-- what was parsed is joined -/
theorem joined_p (N : Nat → Prop) (t : Ty) (vx : Value) (w : World) (hk : szT t ≤ 300) (ht : okTy t) (hN : ∀ b, N b → b < w.heap.size) (hx : TyVN N w vx (unT t)) :
    Calls Tryd.prog 43 #[vx] w (TyPost N t w) := by
  have hmf : ∀ (fn : Fn) (first cap : Array Value) (w : World), (Instr.makeFunc fn first cap).run Tryd.prog w = .ok (.func fn first cap) w := fun _ _ _ _ => rfl
  have eg : ∀ (args : Array Value) (w : World), (callFunc 64 args).run Tryd.prog w = .ok (.enter 64 args) w := fun _ _ => rfl
  have key : ∀ n, JdOK n := by
    intro n
    induction n with
    | zero => intro t; have := szT_pos t; intros; omega
    | succ n ih => exact jone_succ n ih
  obtain ⟨g, hg⟩ : ∃ g, g = w.heap.size := ⟨_, rfl⟩
  have hcall : ∀ (w1 : World), Below w.heap.size w w1 → OneAt (g + 1 + 1) (g + 1 + 1 + 1) (g + 1 + 1 + 1 + 1) 0 w1 → Calls Tryd.prog 64 #[vx, .pointer (some ⟨g + 1 + 1, 0, none⟩), .pointer (some ⟨g + 1 + 1 + 1 + 1, 0, none⟩)] w1
      fun e w' => (∃ u, e = .returned u ∧ TyVN (fun b => N b ∨ b = g + 1 ∨ b = g + 1 + 1) w' u t) ∧ Stay (· = g + 1 + 1) w1 w' := fun w1 h1 hw => by
    refine (key _ t (fun b => N b ∨ b = g + 1 ∨ b = g + 1 + 1) vx w1 _ _ _ 0 (Nat.le_refl _) (by omega) ht (by omega) (by omega) (by omega) (.inr (.inr rfl)) (fun b h => ?_) hw (hx.later h1 fun b h => h.imp id fun h => by omega)).mono ?_
    · have := hw.cnt.lt
      rcases h with h | h | h
      · have := hN b h; omega
      · omega
      · omega
    · rintro e w2 ⟨hv, hs, _⟩
      exact ⟨hv, hs⟩
  generalize unT t = x at hx
  obtain ⟨xpa, xpc, xfa, xfc, rfl, xhp, xhf⟩ := hx.form
  obtain ⟨xnp, xhnp⟩ : ∃ n, n = x.pairs.length := ⟨_, rfl⟩
  obtain ⟨xnf, xhnf⟩ : ∃ n, n = x.funs.length := ⟨_, rfl⟩
  obtain ⟨xa, xha⟩ : ∃ a, a = x.all := ⟨_, rfl⟩
  obtain ⟨xf, xhf'⟩ : ∃ a, a = x.flat := ⟨_, rfl⟩
  obtain ⟨xp, xhp'⟩ : ∃ a, a = x.pair := ⟨_, rfl⟩
  obtain ⟨xn, xhn⟩ : ∃ a, a = x.fn := ⟨_, rfl⟩
  rw [← xhnp, ← xhnf, ← xha, ← xhf', ← xhp', ← xhn] at hcall ⊢
  obtain ⟨W0, hW0⟩ : ∃ W0, W0 = (w.alloc (.cells #[.bool xa, .int .i64 xf, .int .i64 xp, (.slice xpa xnp xpc), .int .i64 xn, (.slice xfa xnf xfc)] 24)).alloc (.cells #[.bool false, .int .i64 0, .int .i64 0, (.slice none 0 0), .int .i64 0, (.slice none 0 0)] 24) := ⟨_, rfl⟩
  obtain ⟨W1, hW1⟩ : ∃ W1, W1 = W0.alloc (.cells #[.int .i64 0] 3) := ⟨_, rfl⟩
  obtain ⟨W2, hW2⟩ : ∃ W2, W2 = W1.alloc (.cells #[.func (.func 64) #[] #[.pointer (some ⟨w.heap.size + 1 + 1, 0, none⟩), .pointer (some ⟨w.heap.size + 1 + 1 + 1 + 1, 0, none⟩)]] 32) := ⟨_, rfl⟩
  obtain ⟨W, hW⟩ : ∃ W, W = W2.alloc (.cells #[.func (.func 63) #[] #[.pointer (some ⟨w.heap.size + 1 + 1 + 1, 0, none⟩)]] 68) := ⟨_, rfl⟩
  have hs0 : W0.heap.size = g + 1 + 1 := by rw [hW0, hg]; simp
  have hs1 : W1.heap.size = g + 1 + 1 + 1 := by rw [hW1, alloc_hs, hs0]
  have hs2 : W2.heap.size = g + 1 + 1 + 1 + 1 := by rw [hW2, alloc_hs, hs1]
  have hb0 : Below w.heap.size w W0 := by rw [hW0]; exact ((Below.refl _ _).alloc (Nat.le_refl _) _).alloc (by simp) _
  have hb1 : Below W0.heap.size W0 W1 := by rw [hW1]; exact (Below.refl _ _).alloc (Nat.le_refl _) _
  have hb2 : Below W1.heap.size W1 W2 := by rw [hW2]; exact (Below.refl _ _).alloc (Nat.le_refl _) _
  have hb3 : Below W2.heap.size W2 W := by rw [hW]; exact (Below.refl _ _).alloc (Nat.le_refl _) _
  have HBW := Lib.hid (show Below w.heap.size w W from ((hb0.trans (hb1.mono (by omega))).trans (hb2.mono (by omega))).trans (hb3.mono (by omega)))
  have HR := Lib.hid (show BoxAt W (g + 1) false 0 0 (.slice none 0 0) 0 (.slice none 0 0) by
    have h0 : BoxAt W0 (g + 1) false 0 0 (.slice none 0 0) 0 (.slice none 0 0) := by rw [hW0, hg, ← alloc_hs w (.cells #[.bool xa, .int .i64 xf, .int .i64 xp, (.slice xpa xnp xpc), .int .i64 xn, (.slice xfa xnf xfc)] 24)]; exact BoxAt.made _ _ _ _ _ _ _
    exact ((h0.keep hb1).keep hb2).keep hb3)
  have hone : OneAt (g + 1 + 1) (g + 1 + 1 + 1) (g + 1 + 1 + 1 + 1) 0 W := by
    refine ⟨((show VarIs W1 (g + 1 + 1) 3 (.int .i64 0) by rw [hW1, ← hs0]; exact VarIs.made _ _ _).keep hb2).keep hb3, (by have h := VarIs.made W1 32 (.func (.func 64) #[] #[.pointer (some ⟨w.heap.size + 1 + 1, 0, none⟩), .pointer (some ⟨w.heap.size + 1 + 1 + 1 + 1, 0, none⟩)]); rw [← hW2, hs1, ← hg] at h; exact h.keep hb3), ?_⟩
    have h := VarIs.made W2 68 (.func (.func 63) #[] #[.pointer (some ⟨w.heap.size + 1 + 1 + 1, 0, none⟩)])
    rw [← hW, hs2, ← hg] at h
    exact h
  have HC := Lib.hid (hcall W HBW.out hone)
  have HG := Lib.hid hg
  rw [hW2, hW1, hW0] at hW
  have HW := Lib.hid hW
  clear hcall hW hW0 hW1 hW2 hs0 hs1 hs2 hb0 hb1 hb2 hb3 hone hg hk ht hN hx key xhp xhf xhnp xhnf xha xhf' xhp' xhn
  go_enter Tryd.func43, Tryd.ntmps43
  go_wp2_with fail
  rw [← HW.out, ← HG.out]
  refine HC.out.mono ?_
  rintro e w9 ⟨⟨v, rfl, hv9⟩, hb9⟩
  obtain ⟨va, vf, vp, vpa, vnp, vpc, vk, vfa, vnf, vfc, rfl⟩ := hv9.shape
  have hr := HR.out.stay hb9 (by omega)
  have r0 := hr.c0
  have r1 := hr.c1
  have r2 := hr.c2
  have r3 := hr.c3
  have r4 := hr.c4
  have r5 := hr.c5
  have rf := hr.fr
  have HV := Lib.hid hv9
  have HB9 := Lib.hid (HBW.out.trans (hb9.below HBW.out.size fun k hk => by have := HG.out; omega))
  clear hv9 hb9 hr
  go_wp2
  refine bodyPost_ret (v := .agg #[.bool va, .int .i64 vf, .int .i64 vp, .slice vpa vnp vpc, .int .i64 vk, .slice vfa vnf vfc]) (by simp [results, Tryd.results43, go_sem, r0, r1, r2, r3, r4, r5]) rfl ⟨⟨_, rfl, ?_⟩, Below.set6 (g := g + 1) HB9.out (by rw [HG.out]; omega)⟩
  exact (TyVN.set6 (g := g + 1) HV.out (.inr (.inl rfl))).mono fun _ _ h => .inl h

/-- a type, and an error's number -/
def RdPost (N : Nat → Prop) (t : Ty) (n : Int) (w : World) (e : Ending) (w' : World) : Prop := (∃ u, e = .returned (.tuple #[u, .int .i64 n]) ∧ TyVN N w' u t) ∧ Below w.heap.size w w'
set_option maxRecDepth 100000 in
set_option maxHeartbeats 8000000 in
/-- a type is read as it was told -/
theorem read_p (N : Nat → Prop) (t : Ty) (vd : Value) (w : World) (hk : szT t ≤ 300) (ht : deepF 20 t = true) (hbig : szD (toldT t) ≤ 100000) (hN : ∀ b, N b → b < w.heap.size) (hFN : FN w) (hx : DatVN N w vd (toldT t)) :
    Calls Tryd.prog 29 #[vd] w (RdPost N t 0 w) := by
  have okt : okTy t := deep_ok ht
  obtain ⟨g, hg⟩ : ∃ g, g = w.heap.size := ⟨_, rfl⟩
  have hpar := par_told t okt
  have hrng := okt.rng
  have CP : ∀ w1, Below w.heap.size w w1 → g + 1 < w1.heap.size → Calls Tryd.prog 42 #[vd, .int .i64 0] w1 (NamPost (fun b => N b ∨ b = g + 1) (unT t) w1) := fun w1 hb h2 =>
    parse_p (toldT t) (unT t) (fun b => N b ∨ b = g + 1) vd w1 hbig hpar (fun b h => h.elim (fun h => Nat.lt_of_lt_of_le (hN b h) hb.size) fun h => by omega) (hFN.below hb) (hx.later hb fun b h => h.imp id fun h => by omega)
  have CJ : ∀ w1 v m, m < w1.heap.size → g + 1 < w1.heap.size → Below w.heap.size w w1 → TyVN (fun b => (N b ∨ b = g + 1) ∨ b = m) w1 v (unT t) → Calls Tryd.prog 43 #[v] w1 (TyPost (fun b => (N b ∨ b = g + 1) ∨ b = m) t w1) := fun w1 v m hm h2 hb hv =>
    joined_p _ t v w1 hk okt (fun b h => by
      rcases h with (h | h) | h
      · exact Nat.lt_of_lt_of_le (hN b h) hb.size
      · omega
      · omega) hv
  have CR : ∀ w1 v, TyV w1 v t → Calls Tryd.prog 10 #[v] w1 fun e w' => e = .returned (.bool true) ∧ Below w1.heap.size w1 w' := fun w1 v hv => by
    have := right_p t v w1 hk hrng hv
    rw [ht] at this
    exact this
  obtain ⟨da, dn, dc, rfl⟩ := hx.shape
  generalize toldT t = D at CP hx hbig hpar ⊢
  obtain ⟨dk, hdk⟩ : ∃ k, k = D.kind := ⟨_, rfl⟩
  obtain ⟨dt, hdt⟩ : ∃ k, k = D.text := ⟨_, rfl⟩
  rw [← hdk, ← hdt] at CP ⊢
  generalize unT t = ut at CP CJ hpar
  obtain ⟨W, hW⟩ : ∃ W, W = (w.alloc (.cells #[.int .i64 dk, .string dt, .slice da dn dc] 39)).alloc (.cells #[.bool false, .int .i64 0, .int .i64 0, (.slice none 0 0), .int .i64 0, (.slice none 0 0)] 24) := ⟨_, rfl⟩
  have HBW := Lib.hid (show Below w.heap.size w W by rw [hW]; exact ((Below.refl _ _).alloc (Nat.le_refl _) _).alloc (by simp) _)
  have HR := Lib.hid (show BoxAt W (g + 1) false 0 0 (.slice none 0 0) 0 (.slice none 0 0) by rw [hW, hg, ← alloc_hs w (.cells #[.int .i64 dk, .string dt, .slice da dn dc] 39)]; exact BoxAt.made _ _ _ _ _ _ _)
  have HC1 := Lib.hid (CP W HBW.out HR.out.lt)
  have HCJ := Lib.hid CJ
  have HCR := Lib.hid CR
  have HG := Lib.hid hg
  have HW := Lib.hid hW
  clear CP CJ CR hdk hdt hg hW hk ht hbig hN hFN hx hrng okt hpar
  go_enter Tryd.func29, Tryd.ntmps29
  go_wp2_with fail
  rw [← HW.out, ← HG.out]
  refine HC1.out.mono ?_
  rintro e w2 ⟨⟨u, rfl, hu⟩, hb2⟩
  obtain ⟨ua, uf, up, upa, unp, upc, uk, ufa, unf, ufc, rfl⟩ := hu.shape
  obtain ⟨m, hm⟩ : ∃ m, m = w2.heap.size := ⟨_, rfl⟩
  obtain ⟨W3, hW3⟩ : ∃ W3, W3 = w2.alloc (.cells #[.bool ua, .int .i64 uf, .int .i64 up, .slice upa unp upc, .int .i64 uk, .slice ufa unf ufc] 24) := ⟨_, rfl⟩
  have hb3 : Below w2.heap.size w2 W3 := by rw [hW3]; exact (Below.refl _ _).alloc (Nat.le_refl _) _
  have HB3 := Lib.hid ((HBW.out.trans (hb2.mono HBW.out.size)).trans (hb3.mono (by have := HBW.out.size; have := hb2.size; omega)))
  have HR3 := Lib.hid ((HR.out.keep hb2).keep hb3)
  have HX3 := Lib.hid (show BoxAt W3 m ua uf up (.slice upa unp upc) uk (.slice ufa unf ufc) by rw [hW3, hm]; exact BoxAt.made _ _ _ _ _ _ _)
  have HC3 := Lib.hid (HCJ.out W3 _ m HX3.out.lt HR3.out.lt HB3.out (hu.later hb3 fun b h => h.imp id fun h => by omega))
  have HGM := Lib.hid (show g + 1 < m by rw [hm]; have := (HR.out.keep hb2).lt; exact this)
  have HM := Lib.hid hm
  have HW3 := Lib.hid hW3
  clear hu hb2 hb3 hm hW3
  go_wp2_with fail
  rw [← HW3.out]
  refine HC3.out.mono ?_
  rintro e w4 ⟨⟨v, rfl, hv⟩, hb4⟩
  obtain ⟨va, vf, vp, vpa, vnp, vpc, vk, vfa, vnf, vfc, rfl⟩ := hv.shape
  have hx4 := HX3.out.keep hb4
  obtain ⟨W5, hW5⟩ : ∃ W5, W5 = set6 w4 m va vf vp (.slice vpa vnp vpc) vk (.slice vfa vnf vfc) := ⟨_, rfl⟩
  have HX5 := Lib.hid (show BoxAt W5 m va vf vp (.slice vpa vnp vpc) vk (.slice vfa vnf vfc) by rw [hW5]; exact hx4.set6)
  have HR5 := Lib.hid (show BoxAt W5 (g + 1) false 0 0 (.slice none 0 0) 0 (.slice none 0 0) by rw [hW5]; exact (HR3.out.keep hb4).other6 (by have := HGM.out; omega))
  have HB5 := Lib.hid (show Below w.heap.size w W5 by rw [hW5]; exact Below.set6 (HB3.out.trans (hb4.mono HB3.out.size)) (by have := HGM.out; have := HG.out; omega))
  have HV5 := Lib.hid (show TyVN (fun b => (N b ∨ b = g + 1) ∨ b = m) W5 (.agg #[.bool va, .int .i64 vf, .int .i64 vp, .slice vpa vnp vpc, .int .i64 vk, .slice vfa vnf vfc]) t by rw [hW5]; exact hv.set6 (.inr rfl))
  have HC5 := Lib.hid (HCR.out W5 _ HV5.out.v)
  have hw5 := hW5
  unfold set6 at hw5
  have HW5 := Lib.hid hw5
  have y0 := hx4.c0
  have y1 := hx4.c1
  have y2 := hx4.c2
  have y3 := hx4.c3
  have y4 := hx4.c4
  have y5 := hx4.c5
  have yf := hx4.fr
  have x0 := HX5.out.c0
  have x1 := HX5.out.c1
  have x2 := HX5.out.c2
  have x3 := HX5.out.c3
  have x4 := HX5.out.c4
  have x5 := HX5.out.c5
  rw [HW5.out] at x0 x1 x2 x3 x4 x5
  clear hW5 hw5 hx4 hv hb4
  rw [← HM.out]
  go_wp2_with fail
  rw [← HW5.out]
  refine HC5.out.mono ?_
  rintro e w6 ⟨rfl, hb6⟩
  have hx6 := HX5.out.keep hb6
  have hr6 := HR5.out.keep hb6
  clear y0 y1 y2 y3 y4 y5 yf x0 x1 x2 x3 x4 x5
  have x0 := hx6.c0
  have x1 := hx6.c1
  have x2 := hx6.c2
  have x3 := hx6.c3
  have x4 := hx6.c4
  have x5 := hx6.c5
  have r0 := hr6.c0
  have r1 := hr6.c1
  have r2 := hr6.c2
  have r3 := hr6.c3
  have r4 := hr6.c4
  have r5 := hr6.c5
  have rf := hr6.fr
  have HV6 := Lib.hid (HV5.out.below hb6)
  have HB6 := Lib.hid (HB5.out.trans (hb6.mono HB5.out.size))
  clear hx6 hr6 hb6
  go_wp2
  refine bodyPost_ret (v := .tuple #[.agg #[.bool va, .int .i64 vf, .int .i64 vp, .slice vpa vnp vpc, .int .i64 vk, .slice vfa vnf vfc], .int .i64 0]) (by simp [results, Tryd.results29, go_sem, r0, r1, r2, r3, r4, r5]) rfl ⟨⟨_, rfl, ?_⟩, Below.set6 (g := g + 1) HB6.out (by rw [HG.out]; omega)⟩
  exact (TyVN.set6 (g := g + 1) HV6.out (.inl (.inr rfl))).mono fun _ _ h => .inl (.inl h)
end Go.Proofs.YtdjhjapfmbcmlaaDoor
