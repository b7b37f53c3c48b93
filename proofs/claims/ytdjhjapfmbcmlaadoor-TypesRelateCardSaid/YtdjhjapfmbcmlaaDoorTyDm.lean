import Derived.Test.YtdjhjapfmbcmlaaDoorTySl
import Derived.Test.YtdjhjapfmbcmlaaDoorTyRt
namespace Go.Proofs.YtdjhjapfmbcmlaaDoor
open Go.RowKit

theorem deep_ok {t : Ty} (h : deepF 20 t = true) : okTy t := ⟨20, h⟩
set_option maxRecDepth 100000 in
set_option maxHeartbeats 8000000 in
theorem datum_p (N : Nat → Prop) (x : Ty) (vx : Value) (w : World) (hk : szT x ≤ 300) (hrng : RngT x) (hN : ∀ b, N b → b < w.heap.size) (hFN : FN w) (hx : TyVN N w vx x) :
    Calls Tryd.prog 28 #[vx] w fun e w' => (∃ u, e = .returned (.tuple #[u, .int .i64 (if deepF 20 x then 0 else 1)]) ∧ DatVN N w' u (if deepF 20 x then toldT x else dat0)) ∧ Below w.heap.size w w' := by
  obtain ⟨g, hg⟩ : ∃ g, g = w.heap.size := ⟨_, rfl⟩
  have hC1 : ∀ w1, Below w.heap.size w w1 → Calls Tryd.prog 10 #[vx] w1 fun e w' => e = .returned (.bool (deepF 20 x)) ∧ Below w1.heap.size w1 w' := fun w1 hb => right_p x vx w1 hk hrng (hx.v.below hb)
  have hC2 : deepF 20 x = true → ∀ w1, Below w.heap.size w w1 → g + 1 < w1.heap.size → Calls Tryd.prog 41 #[vx] w1 fun e w' => (∃ u, e = .returned u ∧ DatVN (fun b => N b ∨ b = g + 1) w' u (toldT x)) ∧ Below w1.heap.size w1 w' := fun h w1 hb h3 =>
    spell_p x (fun b => N b ∨ b = g + 1) vx w1 (deep_ok h) (fun b h => h.elim (fun h => Nat.lt_of_lt_of_le (hN b h) hb.size) (fun h => by omega)) (hFN.below hb) (hx.later hb fun b h => h.imp id fun h => by omega)
  generalize toldT x = D at hC2 ⊢
  generalize deepF 20 x = z at hC1 hC2 ⊢
  obtain ⟨xpa, xpc, xfa, xfc, rfl, xhp, xhf⟩ := hx.form
  obtain ⟨xnp, xhnp⟩ : ∃ n, n = x.pairs.length := ⟨_, rfl⟩
  obtain ⟨xnf, xhnf⟩ : ∃ n, n = x.funs.length := ⟨_, rfl⟩
  obtain ⟨xa, xha⟩ : ∃ a, a = x.all := ⟨_, rfl⟩
  obtain ⟨xf, xhf'⟩ : ∃ a, a = x.flat := ⟨_, rfl⟩
  obtain ⟨xp, xhp'⟩ : ∃ a, a = x.pair := ⟨_, rfl⟩
  obtain ⟨xn, xhn⟩ : ∃ a, a = x.fn := ⟨_, rfl⟩
  rw [← xhnp, ← xhnf, ← xha, ← xhf', ← xhp', ← xhn] at hC1 hC2 ⊢
  obtain ⟨W, hW⟩ : ∃ W, W = (w.alloc (.cells #[.bool xa, .int .i64 xf, .int .i64 xp, (.slice xpa xnp xpc), .int .i64 xn, (.slice xfa xnf xfc)] 24)).alloc (.cells #[.int .i64 0, .string ⟨#[]⟩, .slice none 0 0] 39) := ⟨_, rfl⟩
  have HBW := Lib.hid (show Below w.heap.size w W by rw [hW]; exact ((Below.refl _ _).alloc (Nat.le_refl _) _).alloc (by simp) _)
  have HBX := Lib.hid (show BoxAt W g xa xf xp (.slice xpa xnp xpc) xn (.slice xfa xnf xfc) by rw [hW, hg]; exact (BoxAt.made _ _ _ _ _ _ _).keep ((Below.refl _ _).alloc (Nat.le_refl _) _))
  have HR := Lib.hid (show DBox W (g + 1) 0 ⟨#[]⟩ (.slice none 0 0) by
    rw [hW, hg]; have := DBox.made (w.alloc (.cells #[.bool xa, .int .i64 xf, .int .i64 xp, (.slice xpa xnp xpc), .int .i64 xn, (.slice xfa xnf xfc)] 24)) 0 ⟨#[]⟩ (.slice none 0 0)
    simp only [alloc_hs] at this
    exact this)
  have HC1 := Lib.hid (hC1 W HBW.out)
  have HC2 := Lib.hid hC2
  have HG := Lib.hid hg
  have HW := Lib.hid hW
  clear hC1 hC2 hW hg hN hx hFN hrng hk xhp xhf xhnp xhnf xha xhf' xhp' xhn
  go_enter Tryd.func28, Tryd.ntmps28
  go_wp2_with fail
  rw [← HG.out, ← HW.out]
  refine HC1.out.mono ?_
  rintro e w2 ⟨rfl, hb2⟩
  have HR2 := Lib.hid (HR.out.keep hb2)
  have HX2 := Lib.hid (HBX.out.keep hb2)
  have HB2 := Lib.hid (HBW.out.trans (hb2.mono HBW.out.size))
  clear hb2
  cases z with
  | false =>
    have r0 := HR2.out.c0
    have r1 := HR2.out.c1
    have r2 := HR2.out.c2
    have rf := HR2.out.fr
    go_wp2
    refine bodyPost_ret (v := .tuple #[.agg #[.int .i64 0, .string ⟨#[]⟩, .slice none 0 0], .int .i64 1]) (by simp [results, Tryd.results28, go_sem, r0, r1, r2]) rfl ⟨⟨_, rfl, ?_⟩, below_set3 (g := g + 1) HB2.out (by rw [HG.out]; omega)⟩
    exact DatVN.mk (.mkNil _ _)
  | true =>
    have HC3 := Lib.hid (HC2.out rfl w2 HB2.out HR2.out.lt)
    have x0 := HX2.out.c0
    have x1 := HX2.out.c1
    have x2 := HX2.out.c2
    have x3 := HX2.out.c3
    have x4 := HX2.out.c4
    have x5 := HX2.out.c5
    go_wp2_with fail
    refine HC3.out.mono ?_
    rintro e w3 ⟨⟨u, rfl, hu⟩, hb3⟩
    obtain ⟨ua, un, uc, rfl⟩ := hu.shape
    obtain ⟨dk, hdk⟩ : ∃ k, k = D.kind := ⟨_, rfl⟩
    obtain ⟨dt, hdt⟩ : ∃ k, k = D.text := ⟨_, rfl⟩
    rw [← hdk, ← hdt] at hu ⊢
    have hr := HR2.out.keep hb3
    have r0 := hr.c0
    have r1 := hr.c1
    have r2 := hr.c2
    have rf := hr.fr
    have HU := Lib.hid hu
    have HB3 := Lib.hid (HB2.out.trans (hb3.mono HB2.out.size))
    clear hu hr hb3 hdk hdt
    clear x0 x1 x2 x3 x4 x5
    go_wp2
    refine bodyPost_ret (v := .tuple #[.agg #[.int .i64 dk, .string dt, .slice ua un uc], .int .i64 0]) (by simp [results, Tryd.results28, go_sem, r0, r1, r2]) rfl ⟨⟨_, rfl, ?_⟩, below_set3 (g := g + 1) HB3.out (by rw [HG.out]; omega)⟩
    exact (DatVN.set3 (g := g + 1) HU.out (.inr rfl)).mono fun _ _ h => .inl h
end Go.Proofs.YtdjhjapfmbcmlaaDoor
