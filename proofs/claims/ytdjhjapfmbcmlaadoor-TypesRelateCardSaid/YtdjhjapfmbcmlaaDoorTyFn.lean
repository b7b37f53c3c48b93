import Derived.Test.YtdjhjapfmbcmlaaDoorTyCo
namespace Go.Proofs.YtdjhjapfmbcmlaaDoor
open Go.RowKit

set_option maxRecDepth 100000 in
set_option maxHeartbeats 16000000 in
theorem fun_p (N : Nat → Prop) (x : Ty) (vx : Value) (l : List Ty) (a1 : Option Addr) (c1 : Nat) (w : World) (hN : ∀ b, N b → b < w.heap.size) (hx : TyVN N w vx x) (hl : TyS w (Lo N w) (.slice a1 l.length c1) l) (hb : l.length ≤ 300000) (hn1 : a1 = none → c1 = 0) :
    Calls Tryd.prog 26 #[vx, .slice a1 l.length c1] w (TyPost N (.mk false 0 0 [] 1 (l ++ [x])) w) := by
  obtain ⟨g, hg⟩ : ∃ g, g = w.heap.size := ⟨_, rfl⟩
  have hv0 := hx
  obtain ⟨xpa, xpc, xfa, xfc, rfl, xhp, xhf⟩ := hx.form
  obtain ⟨xnp, xhnp⟩ : ∃ n, n = x.pairs.length := ⟨_, rfl⟩
  obtain ⟨xnf, xhnf⟩ : ∃ n, n = x.funs.length := ⟨_, rfl⟩
  obtain ⟨xa, xha⟩ : ∃ a, a = x.all := ⟨_, rfl⟩
  obtain ⟨xf, xhf'⟩ : ∃ a, a = x.flat := ⟨_, rfl⟩
  obtain ⟨xp, xhp'⟩ : ∃ a, a = x.pair := ⟨_, rfl⟩
  obtain ⟨xn, xhn⟩ : ∃ a, a = x.fn := ⟨_, rfl⟩
  obtain ⟨r, hr1, hr2⟩ := hv0
  obtain ⟨ra, rf, rp, rpv, rk, rfv⟩ := r
  simp only [rawV, Value.agg.injEq, Array.mk.injEq, List.cons.injEq, Value.bool.injEq, Value.int.injEq, true_and, and_true] at hr1
  obtain ⟨h1, h2, h3, h4, h5, h6⟩ := hr1
  subst h1 h2 h3 h4 h5 h6
  rw [← xhnp, ← xhnf, ← xha, ← xhf', ← xhp', ← xhn] at hr2
  rw [← xhnp, ← xhnf, ← xha, ← xhf', ← xhp', ← xhn]
  obtain ⟨nl, hnl⟩ : ∃ n, n = l.length := ⟨_, rfl⟩
  obtain ⟨W1, hW1⟩ : ∃ W1, W1 = (w.alloc (.cells #[.bool xa, .int .i64 xf, .int .i64 xp, (.slice xpa xnp xpc), .int .i64 xn, (.slice xfa xnf xfc)] 24)).alloc (.cells #[.bool false, .int .i64 0, .int .i64 0, (.slice none 0 0), .int .i64 0, (.slice none 0 0)] 24) := ⟨_, rfl⟩
  obtain ⟨W2, hW2⟩ : ∃ W2, W2 = W1.alloc (.cells #[.bool xa, .int .i64 xf, .int .i64 xp, (.slice xpa xnp xpc), .int .i64 xn, (.slice xfa xnf xfc)] 24) := ⟨_, rfl⟩
  obtain ⟨W, hW⟩ : ∃ W, W = W2.alloc (.cells #[.slice a1 l.length c1, .slice (some ⟨g + 2, 0, none⟩) 1 1] 22) := ⟨_, rfl⟩
  have s1 : W1.heap.size = g + 2 := by rw [hW1, hg]; simp
  have s2 : W2.heap.size = g + 3 := by rw [hW2, alloc_hs, s1]
  have s3 : W.heap.size = g + 4 := by rw [hW, alloc_hs, s2]
  have b1 : Below w.heap.size w W1 := by rw [hW1]; exact ((Below.refl _ _).alloc (Nat.le_refl _) _).alloc (by simp) _
  have b2 : Below w.heap.size w W2 := by rw [hW2]; exact b1.alloc (by omega) _
  have b3 : Below w.heap.size w W := by rw [hW]; exact b2.alloc (by omega) _
  have b23 : Below W2.heap.size W2 W := by rw [hW]; exact (Below.refl _ _).alloc (Nat.le_refl _) _
  have hR : BoxAt W (g + 1) false 0 0 (.slice none 0 0) 0 (.slice none 0 0) := by
    have h0 : BoxAt W1 (g + 1) false 0 0 (.slice none 0 0) 0 (.slice none 0 0) := by
      rw [hW1, hg]; have := BoxAt.made (w.alloc (.cells #[.bool xa, .int .i64 xf, .int .i64 xp, (.slice xpa xnp xpc), .int .i64 xn, (.slice xfa xnf xfc)] 24)) false 0 0 (.slice none 0 0) 0 (.slice none 0 0)
      simp only [alloc_hs] at this
      exact this
    have h1 : BoxAt W2 (g + 1) false 0 0 (.slice none 0 0) 0 (.slice none 0 0) := by rw [hW2]; exact h0.keep ((Below.refl _ _).alloc (Nat.le_refl _) _)
    exact h1.keep b23
  have hone : TyS W2 (Lo (fun b => N b ∨ b = g + 1) W2) (.slice (some ⟨g + 2, 0, none⟩) 1 1) [x] := by
    have h0 := TyS.one (N := fun b => N b ∨ b = g + 1) (W0 := W1) (fun b h => h.elim (fun h => by have := hN b h; omega) (fun h => by omega)) (hr2.mono (ok' := Lo (fun b => N b ∨ b = g + 1) W1) (fun b h => ⟨by have := h.1; omega, fun e => e.elim h.2 fun e => by have := h.1; omega⟩) fun _ _ h => b1.cell (p := ⟨_, _, none⟩) h.1)
    rw [s1] at h0
    rw [hW2]; exact h0
  have hl' : TyS W (Lo (fun b => N b ∨ b = g + 1) W) (.slice a1 l.length c1) l := TySN.later hl b3 fun b h => h.imp id fun h => by omega
  have hc0 : W.cell? ⟨g + 3, 0, none⟩ = some (.slice a1 l.length c1) := by rw [hW, ← s2]; exact Lib.cell_of_heap (heap_alloc_new W2 _) 0
  have hc1 : W.cell? ⟨g + 3, 1, none⟩ = some (.slice (some ⟨g + 2, 0, none⟩) 1 1) := by rw [hW, ← s2]; exact Lib.cell_of_heap (heap_alloc_new W2 _) 1
  have CC := concat_two (fun b => N b ∨ b = g + 1) l [x] (g + 3) 2 a1 (some ⟨g + 2, 0, none⟩) c1 1 W (fun b h => h.elim (fun h => by have := hN b h; omega) (fun h => by omega)) (by omega) hc0 hc1 hl' (TySN.below hone b23) hb (by simp) (by simp) hn1
  rw [← hnl]
  obtain ⟨lx, hlx⟩ : ∃ lx, lx = l ++ [x] := ⟨_, rfl⟩
  rw [← hlx] at CC ⊢
  clear hlx
  have HC := Lib.hid CC
  have HR := Lib.hid hR
  have HBW := Lib.hid b3
  have HG := Lib.hid hg
  have HW := Lib.hid (show W = (((w.alloc (.cells #[.bool xa, .int .i64 xf, .int .i64 xp, (.slice xpa xnp xpc), .int .i64 xn, (.slice xfa xnf xfc)] 24)).alloc (.cells #[.bool false, .int .i64 0, .int .i64 0, (.slice none 0 0), .int .i64 0, (.slice none 0 0)] 24)).alloc (.cells #[.bool xa, .int .i64 xf, .int .i64 xp, (.slice xpa xnp xpc), .int .i64 xn, (.slice xfa xnf xfc)] 24)).alloc (.cells #[.slice a1 nl c1, .slice (some ⟨g + 2, 0, none⟩) 1 1] 22) by rw [hW, hW2, hW1, hnl])
  clear CC hR hone hl' hc0 hc1 hW hW1 hW2 s1 s2 s3 b1 b2 b3 b23 hg hnl hN hl hb hn1 hr2 hx xhp xhf xhnp xhnf xha xhf' xhp' xhn
  go_enter Tryd.func26, Tryd.ntmps26
  go_wp2_with fail
  rw [← HG.out, ← HW.out]
  refine HC.out.mono ?_
  rintro e w2 ⟨⟨v, rfl, hv⟩, hb2⟩
  obtain ⟨va, vc, rfl⟩ := hv.val
  have hr := HR.out.keep hb2
  have r0 := hr.c0
  have r1 := hr.c1
  have r2 := hr.c2
  have r3 := hr.c3
  have r4 := hr.c4
  have r5 := hr.c5
  have rf := hr.fr
  have HV := Lib.hid hv
  have HB := Lib.hid (HBW.out.trans (hb2.mono HBW.out.size))
  clear hv hb2 hr
  go_wp2
  refine bodyPost_ret (v := .agg #[.bool false, .int .i64 0, .int .i64 0, .slice none 0 0, .int .i64 1, .slice va lx.length vc]) ?_ ?_ ?_
  · simp [results, Tryd.results26, go_sem, r0, r1, r2, r3, r4, r5]
  · rfl
  · have h0 : TyVN (fun b => N b ∨ b = g + 1) w2 (.agg #[.bool false, .int .i64 0, .int .i64 0, .slice none 0 0, .int .i64 1, .slice va lx.length vc]) (.mk false 0 0 [] 1 lx) := TyVN.mk (.mkNil _ _) HV.out
    have h1 := TyVN.set6 (g := g + 1) (a' := false) (f' := 0) (p' := 0) (pv' := .slice none 0 0) (k' := 1) (fv' := .slice va lx.length vc) h0 (.inr rfl)
    have h2 := Below.set6 (g := g + 1) (a' := false) (f' := 0) (p' := 0) (pv' := .slice none 0 0) (k' := 1) (fv' := .slice va lx.length vc) HB.out (by rw [HG.out]; omega)
    exact ⟨⟨_, rfl, h1.mono fun _ _ h => .inl h⟩, h2⟩
end Go.Proofs.YtdjhjapfmbcmlaaDoor
