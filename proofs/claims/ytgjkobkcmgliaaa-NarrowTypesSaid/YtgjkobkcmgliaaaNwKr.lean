import Derived.Test.YtgjkobkcmgliaaaNwK
import Derived.Test.YtgjkobkcmgliaaaTyJp
namespace Go.Proofs.Ytgjkobkcmgliaaa
open Go.RowKit

set_option maxRecDepth 100000 in
set_option maxHeartbeats 32000000 in
theorem refkeep_p (N : Nat → Prop) (t : Ty) (g : Int) (v : Value) (w : World) (hN : ∀ b, N b → b < w.heap.size) (hok : HdT t) (hv : TyVN N w v t) :
    Calls Try.prog 25 #[v, .int .i64 g] w (TyPost N (keepT t (lowN g)) w) := by
  obtain ⟨pa, pc, fa, fc, rfl, hp, hf⟩ := hv.form
  obtain ⟨pn, hpn⟩ : ∃ n, n = t.pairs.length := ⟨_, rfl⟩
  obtain ⟨fn, hfn⟩ : ∃ n, n = t.funs.length := ⟨_, rfl⟩
  obtain ⟨a, ha⟩ : ∃ a, a = t.all := ⟨_, rfl⟩
  obtain ⟨f, hfl⟩ : ∃ a, a = t.flat := ⟨_, rfl⟩
  obtain ⟨p, hpr⟩ : ∃ a, a = t.pair := ⟨_, rfl⟩
  obtain ⟨k, hkn⟩ : ∃ a, a = t.fn := ⟨_, rfl⟩
  rw [← hpn, ← hfn, ← ha, ← hfl, ← hpr, ← hkn] at hv ⊢
  rw [← hpn] at hp
  rw [← hfn] at hf
  have hlens := hd_lens hok
  have hhd := headH hok
  obtain ⟨gi, hgi⟩ : ∃ gi : Int, gi = (lowN g : Int) := ⟨_, rfl⟩
  have hg255 := i64_and255 g
  rw [← hgi] at hg255
  have HLOW := Lib.hid (show ∀ w, Calls Try.prog 54 #[.int .i64 g] w fun e w' => e = .returned (.int .i64 gi) ∧ w' = w from fun w => by rw [hgi]; exact low_any g w)
  have HK64 := Lib.hid (show bits .and .i64 gi 64 = ((lowN g &&& 64 : Nat) : Int) by rw [hgi]; exact i64_and (lowN_lt g) (y := 64) (by omega))
  have HK128 := Lib.hid (show bits .and .i64 gi 128 = ((lowN g &&& 128 : Nat) : Int) by rw [hgi]; exact i64_and (lowN_lt g) (y := 128) (by omega))
  obtain ⟨W, hW⟩ : ∃ W, W = (w.alloc (.cells #[.bool a, .int .i64 f, .int .i64 p, .slice pa pn pc, .int .i64 k, .slice fa fn fc] 49)).alloc (.cells #[.bool false, .int .i64 0, .int .i64 0, .slice none 0 0, .int .i64 0, .slice none 0 0] 49) := ⟨_, rfl⟩
  have HBX := Lib.hid (show BoxAt W w.heap.size a f p (.slice pa pn pc) k (.slice fa fn fc) by rw [hW]; exact (BoxAt.made _ _ _ _ _ _ _).keep ((Below.refl _ _).alloc (Nat.le_refl _) _))
  have HRR := Lib.hid (show BoxAt W (w.heap.size + 1) false 0 0 (.slice none 0 0) 0 (.slice none 0 0) by rw [hW]; have := BoxAt.made (w.alloc (.cells #[.bool a, .int .i64 f, .int .i64 p, .slice pa pn pc, .int .i64 k, .slice fa fn fc] 49)) false 0 0 (.slice none 0 0) 0 (.slice none 0 0); rw [size_alloc] at this; exact this)
  have hbl : Below w.heap.size w W := by rw [hW]; exact ((Below.refl _ _).alloc (Nat.le_refl _) _).alloc (by simp) _
  have HSZ := Lib.hid (show W.heap.size = w.heap.size + 1 + 1 by rw [hW]; simp)
  obtain ⟨M, hM⟩ : ∃ M : Nat → Prop, M = fun b => N b ∨ b = w.heap.size ∨ b = w.heap.size + 1 := ⟨_, rfl⟩
  have HMW := Lib.hid (show ∀ b, M b → b < w.heap.size + 1 + 1 by rw [hM]; intro b hb; rcases hb with h | h | h; (have := hN b h; omega); omega; omega)
  have HP := Lib.hid (show TyS W (Lo M W) (.slice pa pn pc) t.pairs from TySN.later hp hbl fun b hb => by rw [hM] at hb; rcases hb with h | h | h; exact .inl h; exact .inr (by omega); exact .inr (by omega))
  have HF := Lib.hid (show TyS W (Lo M W) (.slice fa fn fc) t.funs from TySN.later hf hbl fun b hb => by rw [hM] at hb; rcases hb with h | h | h; exact .inl h; exact .inr (by omega); exact .inr (by omega))
  have HME := Lib.hid hM
  have HNN := Lib.hid hN
  have HBW := Lib.hid hbl
  have HLEN := Lib.hid (show t.pairs.length ≤ 9 ∧ t.funs.length ≤ 9 from hlens)
  have HAL := Lib.hid (show a = true → t = tyAll by rw [ha]; exact all_eqT hok)
  have HOV := Lib.hid hv
  have HGI := Lib.hid hgi
  have HFR := Lib.hid (show 0 ≤ f ∧ f ≤ 63 by rw [hfl]; exact ⟨hhd.1, hhd.2.1⟩)
  have HTT := Lib.hid (show t.all = a ∧ t.flat = f ∧ t.pair = p ∧ t.fn = k from ⟨ha.symm, hfl.symm, hpr.symm, hkn.symm⟩)
  have HTN := Lib.hid (show pn = t.pairs.length ∧ fn = t.funs.length from ⟨hpn, hfn⟩)
  have HW := Lib.hid hW
  clear hv hp hf hpn hfn ha hfl hpr hkn hW hbl hM hN hok hlens hhd hgi
  go_enter Try.func25, Try.ntmps25
  cases a with
  | true =>
    by_cases h255 : gi = 255
    · have h2 : lowN g = 255 := by have := HGI.out; omega
      have hke : keepT t (lowN g) = tyAll := by
        unfold keepT; rw [HTT.out.1, h2]; rfl
      rw [hke]
      clear h2 hke
      subst h255
      have HTV := Lib.hid (show TyVN M W (.agg #[.bool true, .int .i64 f, .int .i64 p, .slice pa pn pc, .int .i64 k, .slice fa fn fc]) tyAll from by have h := TyVN.mk (a := true) (f := f) (p := p) (g := k) HP.out HF.out; rw [← HTT.out.1, ← HTT.out.2.1, ← HTT.out.2.2.1, ← HTT.out.2.2.2, ← Ty.eta] at h; rw [← HAL.out rfl]; rw [← HTT.out.1, ← HTT.out.2.1, ← HTT.out.2.2.1, ← HTT.out.2.2.2]; exact h)
      go_upto_region 3 with (go_at_call 54; refine (HLOW.out _).mono ?_; rintro e w' ⟨rfl, h9⟩; rw [h9]; clear h9 w')
      rw [← HW.out]
      have hx := HBX.out
      have d0 := hx.c0
      have d1 := hx.c1
      have d2 := hx.c2
      have d3 := hx.c3
      have d4 := hx.c4
      have d5 := hx.c5
      have hr1 := HRR.out
      have r0 := hr1.c0
      have q0 := hr1.fr 0
      have r1 := hr1.c1
      have q1 := hr1.fr 1
      have r2 := hr1.c2
      have q2 := hr1.fr 2
      have r3 := hr1.c3
      have q3 := hr1.fr 3
      have r4 := hr1.c4
      have q4 := hr1.fr 4
      have r5 := hr1.c5
      have q5 := hr1.fr 5
      clear hr1 hx HW
      go_wp2
      refine bodyPost_ret (v := .agg #[.bool true, .int .i64 f, .int .i64 p, .slice pa pn pc, .int .i64 k, .slice fa fn fc]) ?_ ?_ ?_
      · simp [results, Try.results25, go_sem, r0, r1, r2, r3, r4, r5]
      · rfl
      · exact ty_done (by omega) HNN.out (HTV.out.mono fun b _ hb => by rw [HME.out]; rcases hb with h | h; exact .inl h; exact .inr (.inr h)) HBW.out
    · have k255 : (gi == 255) = false := by simp [h255]
      have h2 : lowN g ≠ 255 := by have := HGI.out; omega
      have hke : keepT t (lowN g) = cutT allT (lowN g) := by
        unfold keepT; rw [HTT.out.1]; simp [h2]
      rw [hke]
      clear h255 h2 hke
      go_upto_region 5 with (go_at_call 54; refine (HLOW.out _).mono ?_; rintro e w' ⟨rfl, h9⟩; rw [h9]; clear h9 w')
      rw [← HW.out]
      have hx := HBX.out
      have d0 := hx.c0
      have e0 := hx.fr 0
      have d1 := hx.c1
      have e1 := hx.fr 1
      have d2 := hx.c2
      have e2 := hx.fr 2
      have d3 := hx.c3
      have e3 := hx.fr 3
      have d4 := hx.c4
      have e4 := hx.fr 4
      have d5 := hx.c5
      have e5 := hx.fr 5
      have hlt0 : w.heap.size < W.heap.size := by rw [HSZ.out]; omega
      clear hx HP HF HW
      go_upto_region 6 with fail
      obtain ⟨w6, hw6⟩ : ∃ wx : World, wx = ((((((W.setCell ⟨w.heap.size, 0, none⟩ (.bool false)).setCell ⟨w.heap.size, 1, none⟩ (.int .i64 63)).setCell ⟨w.heap.size, 2, none⟩ (.int .i64 1)).setCell ⟨w.heap.size, 3, none⟩ (.slice (some ⟨W.heap.size, 0, none⟩) 2 2)).setCell ⟨w.heap.size, 4, none⟩ (.int .i64 2)).setCell ⟨w.heap.size, 5, none⟩ (.slice none 0 0)) := ⟨_, rfl⟩
      have hs6 : w6.heap.size = W.heap.size := by rw [hw6]; simp [World.setCell]
      obtain ⟨wc, hwc⟩ : ∃ wx : World, wx = w6.alloc (.cells #[.bool true, .int .i64 0, .int .i64 0, .slice none 0 0, .int .i64 0, .slice none 0 0, .bool true, .int .i64 0, .int .i64 0, .slice none 0 0, .int .i64 0, .slice none 0 0] 49) := ⟨_, rfl⟩
      rw [← hw6, ← hwc]
      have hb6 : Below w6.heap.size w6 wc := by rw [hwc]; exact (Below.refl _ _).alloc (Nat.le_refl _) _
      have HBB := Lib.hid (show BoxAt wc w.heap.size false 63 1 (.slice (some ⟨W.heap.size, 0, none⟩) 2 2) 2 (.slice none 0 0) from BoxAt.keep (show BoxAt w6 _ _ _ _ _ _ _ by rw [hw6]; exact BoxAt.set6 HBX.out) hb6)
      replace HRR := Lib.hid (show BoxAt wc (w.heap.size + 1) false 0 0 (.slice none 0 0) 0 (.slice none 0 0) from BoxAt.keep (show BoxAt w6 _ _ _ _ _ _ _ by rw [hw6]; exact BoxAt.other6 HRR.out (by omega)) hb6)
      have HP := Lib.hid (show TyS wc (Lo M wc) (.slice (some ⟨W.heap.size, 0, none⟩) 2 2) allT.pairs by rw [hwc, ← hs6]; exact TyS.two_alloc (fun b hb => by rw [hs6, HSZ.out]; exact HMW.out b hb) (tyAll_v M w6) (tyAll_v M w6))
      have HF := Lib.hid (show TyS wc (Lo M wc) (.slice none 0 0) allT.funs from .mkNil _ _)
      replace HBW := Lib.hid (show Below w.heap.size w wc from Below.trans (show Below w.heap.size w w6 by rw [hw6]; exact Go.Proofs.Ytgjkobkcmgliaaa.Below.set6 HBW.out (Nat.le_refl _)) (hb6.mono (by rw [hs6, HSZ.out]; omega)))
      clear hw6 hwc hs6 hb6 hlt0 HBX d0 e0 d1 e1 d2 e2 d3 e3 d4 e4 d5 e5
      obtain ⟨f, hfq⟩ : ∃ f : Int, f = 63 := ⟨_, rfl⟩
      obtain ⟨p, hpq⟩ : ∃ f : Int, f = 1 := ⟨_, rfl⟩
      obtain ⟨k, hkq⟩ : ∃ f : Int, f = 2 := ⟨_, rfl⟩
      obtain ⟨pa, hpa⟩ : ∃ x : Option Addr, x = (some ⟨W.heap.size, 0, none⟩) := ⟨_, rfl⟩
      obtain ⟨pn, hpn⟩ : ∃ x : Nat, x = 2 := ⟨_, rfl⟩
      obtain ⟨pc, hpc⟩ : ∃ x : Nat, x = 2 := ⟨_, rfl⟩
      obtain ⟨fa, hfa⟩ : ∃ x : Option Addr, x = none := ⟨_, rfl⟩
      obtain ⟨fn, hfn⟩ : ∃ x : Nat, x = 0 := ⟨_, rfl⟩
      obtain ⟨fc, hfc⟩ : ∃ x : Nat, x = 0 := ⟨_, rfl⟩
      replace HBB := Lib.hid (show BoxAt wc w.heap.size false f p (.slice pa pn pc) k (.slice fa fn fc) by rw [hfq, hpq, hkq, hpa, hpn, hpc, hfa, hfn, hfc]; exact HBB.out)
      replace HP := Lib.hid (show TyS wc (Lo M wc) (.slice pa pn pc) allT.pairs by rw [hpa, hpn, hpc]; exact HP.out)
      replace HF := Lib.hid (show TyS wc (Lo M wc) (.slice fa fn fc) allT.funs by rw [hfa, hfn, hfc]; exact HF.out)
      obtain ⟨ff, hff⟩ : ∃ ff : Int, ff = ((f.toNat &&& lowN g : Nat) : Int) := ⟨_, rfl⟩
      have hand : bits .and .i64 f gi = ff := by
        have h1 := i64_and (x := f.toNat) (y := lowN g) (by rw [hfq]; decide) (lowN_lt g)
        rw [← hff, ← HGI.out, show ((f.toNat : Nat) : Int) = f by rw [hfq]; rfl] at h1
        exact h1
      have HFF := Lib.hid (show ((allT.flat.toNat &&& lowN g : Nat) : Int) = ff by rw [hff, hfq]; rfl)
      have HTA := Lib.hid (show allT.all = false from rfl)
      have HTP := Lib.hid (show allT.pair = p by rw [hpq]; rfl)
      have HTK := Lib.hid (show allT.fn = k by rw [hkq]; rfl)
      have HLN := Lib.hid (show allT.pairs.length ≤ 9 ∧ allT.funs.length ≤ 9 by decide)
      clear hff hfq hpq hkq hpa hpn hpc hfa hfn hfc
      have hc := HBB.out
      have x1 := hc.c1
      have y1 := hc.fr 1
      clear hc
      go_upto_region 7 with fail
      obtain ⟨uw9, huw9⟩ : ∃ wx : World, wx = (wc.setCell ⟨w.heap.size, 1, none⟩ (.int .i64 ff)) := ⟨_, rfl⟩
      rw [← huw9]
      replace HBB := Lib.hid (show BoxAt uw9 w.heap.size false ff p (.slice pa pn pc) k (.slice fa fn fc) by rw [huw9]; exact HBB.out.s1)
      replace HRR := Lib.hid (show BoxAt uw9 (w.heap.size + 1) false 0 0 (.slice none 0 0) 0 (.slice none 0 0) by rw [huw9]; exact (HRR.out.o (m := w.heap.size) (i := 1) (x := .int .i64 ff) (by omega)))
      replace HP := Lib.hid (show TyS uw9 (Lo M uw9) (.slice pa pn pc) allT.pairs by rw [huw9]; exact (TySN.set HP.out ⟨w.heap.size, 1, none⟩ (by rw [HME.out]; exact .inr (.inl rfl)) (.int .i64 ff)))
      replace HF := Lib.hid (show TyS uw9 (Lo M uw9) (.slice fa fn fc) allT.funs by rw [huw9]; exact (TySN.set HF.out ⟨w.heap.size, 1, none⟩ (by rw [HME.out]; exact .inr (.inl rfl)) (.int .i64 ff)))
      replace HBW := Lib.hid (show Below w.heap.size w uw9 by rw [huw9]; exact (HBW.out.setCell (p := ⟨w.heap.size, 1, none⟩) (Nat.le_refl _) (.int .i64 ff)))
      clear huw9
      clear x1 y1
      by_cases h64 : lowN g &&& 64 = 0
      · have k64 : (bits .and .i64 gi 64 == 0) = true := by rw [HK64.out]; simp [h64]
        have H64 := Lib.hid h64
        clear h64
        have hc := HBB.out
        have x2 := hc.c2
        have y2 := hc.fr 2
        have x3 := hc.c3
        have y3 := hc.fr 3
        clear hc
        go_upto_region 10 with fail
        obtain ⟨uw10, huw10⟩ : ∃ wx : World, wx = ((uw9.setCell ⟨w.heap.size, 2, none⟩ (.int .i64 0)).setCell ⟨w.heap.size, 3, none⟩ (.slice none 0 0)) := ⟨_, rfl⟩
        rw [← huw10]
        replace HBB := Lib.hid (show BoxAt uw10 w.heap.size false ff 0 (.slice none 0 0) k (.slice fa fn fc) by rw [huw10]; exact HBB.out.s2.s3)
        replace HRR := Lib.hid (show BoxAt uw10 (w.heap.size + 1) false 0 0 (.slice none 0 0) 0 (.slice none 0 0) by rw [huw10]; exact ((HRR.out.o (m := w.heap.size) (i := 2) (x := .int .i64 0) (by omega)).o (m := w.heap.size) (i := 3) (x := .slice none 0 0) (by omega)))
        replace HP := Lib.hid (show TyS uw10 (Lo M uw10) (.slice pa pn pc) allT.pairs by rw [huw10]; exact (TySN.set (TySN.set HP.out ⟨w.heap.size, 2, none⟩ (by rw [HME.out]; exact .inr (.inl rfl)) (.int .i64 0)) ⟨w.heap.size, 3, none⟩ (by rw [HME.out]; exact .inr (.inl rfl)) (.slice none 0 0)))
        replace HF := Lib.hid (show TyS uw10 (Lo M uw10) (.slice fa fn fc) allT.funs by rw [huw10]; exact (TySN.set (TySN.set HF.out ⟨w.heap.size, 2, none⟩ (by rw [HME.out]; exact .inr (.inl rfl)) (.int .i64 0)) ⟨w.heap.size, 3, none⟩ (by rw [HME.out]; exact .inr (.inl rfl)) (.slice none 0 0)))
        replace HBW := Lib.hid (show Below w.heap.size w uw10 by rw [huw10]; exact ((HBW.out.setCell (p := ⟨w.heap.size, 2, none⟩) (Nat.le_refl _) (.int .i64 0)).setCell (p := ⟨w.heap.size, 3, none⟩) (Nat.le_refl _) (.slice none 0 0)))
        clear huw10
        clear x2 y2 x3 y3
        by_cases h128 : lowN g &&& 128 = 0
        · have k128 : (bits .and .i64 gi 128 == 0) = true := by rw [HK128.out]; simp [h128]
          have H128 := Lib.hid h128
          clear h128
          have hc := HBB.out
          have x4 := hc.c4
          have y4 := hc.fr 4
          have x5 := hc.c5
          have y5 := hc.fr 5
          clear hc
          go_upto_region 13 with fail
          obtain ⟨uw11, huw11⟩ : ∃ wx : World, wx = ((uw10.setCell ⟨w.heap.size, 4, none⟩ (.int .i64 0)).setCell ⟨w.heap.size, 5, none⟩ (.slice none 0 0)) := ⟨_, rfl⟩
          rw [← huw11]
          replace HBB := Lib.hid (show BoxAt uw11 w.heap.size false ff 0 (.slice none 0 0) 0 (.slice none 0 0) by rw [huw11]; exact HBB.out.s4.s5)
          replace HRR := Lib.hid (show BoxAt uw11 (w.heap.size + 1) false 0 0 (.slice none 0 0) 0 (.slice none 0 0) by rw [huw11]; exact ((HRR.out.o (m := w.heap.size) (i := 4) (x := .int .i64 0) (by omega)).o (m := w.heap.size) (i := 5) (x := .slice none 0 0) (by omega)))
          replace HP := Lib.hid (show TyS uw11 (Lo M uw11) (.slice pa pn pc) allT.pairs by rw [huw11]; exact (TySN.set (TySN.set HP.out ⟨w.heap.size, 4, none⟩ (by rw [HME.out]; exact .inr (.inl rfl)) (.int .i64 0)) ⟨w.heap.size, 5, none⟩ (by rw [HME.out]; exact .inr (.inl rfl)) (.slice none 0 0)))
          replace HF := Lib.hid (show TyS uw11 (Lo M uw11) (.slice fa fn fc) allT.funs by rw [huw11]; exact (TySN.set (TySN.set HF.out ⟨w.heap.size, 4, none⟩ (by rw [HME.out]; exact .inr (.inl rfl)) (.int .i64 0)) ⟨w.heap.size, 5, none⟩ (by rw [HME.out]; exact .inr (.inl rfl)) (.slice none 0 0)))
          replace HBW := Lib.hid (show Below w.heap.size w uw11 by rw [huw11]; exact ((HBW.out.setCell (p := ⟨w.heap.size, 4, none⟩) (Nat.le_refl _) (.int .i64 0)).setCell (p := ⟨w.heap.size, 5, none⟩) (Nat.le_refl _) (.slice none 0 0)))
          clear huw11
          clear x4 y4 x5 y5
          have HCV := Lib.hid (show TyVN M uw11 (.agg #[.bool false, .int .i64 ff, .int .i64 0, .slice none 0 0, .int .i64 0, .slice none 0 0]) (Ty.mk false ff 0 [] 0 []) from TyVN.mk (.mkNil none 0) (.mkNil none 0))
          have HCE := Lib.hid (show cutT allT (lowN g) = (Ty.mk false ff 0 [] 0 []) by unfold cutT; rw [if_pos H64.out, if_pos H64.out, if_pos H128.out, if_pos H128.out, HFF.out, HTA.out])
          have hx := HBB.out
          have d0 := hx.c0
          have d1 := hx.c1
          have d2 := hx.c2
          have d3 := hx.c3
          have d4 := hx.c4
          have d5 := hx.c5
          have hr9 := HRR.out
          have r0 := hr9.c0
          have q0 := hr9.fr 0
          have r1 := hr9.c1
          have q1 := hr9.fr 1
          have r2 := hr9.c2
          have q2 := hr9.fr 2
          have r3 := hr9.c3
          have q3 := hr9.fr 3
          have r4 := hr9.c4
          have q4 := hr9.fr 4
          have r5 := hr9.c5
          have q5 := hr9.fr 5
          clear hr9 hx
          go_wp2
          refine bodyPost_ret (v := (.agg #[.bool false, .int .i64 ff, .int .i64 0, .slice none 0 0, .int .i64 0, .slice none 0 0])) ?_ ?_ ?_
          · simp [results, Try.results25, go_sem, r0, r1, r2, r3, r4, r5]
          · rfl
          · rw [HCE.out]; exact ty_done (by omega) HNN.out (HCV.out.mono fun b _ hb => by rw [HME.out]; rcases hb with h | h; exact .inl h; exact .inr (.inr h)) HBW.out
        · have k128 : (bits .and .i64 gi 128 == 0) = false := by rw [HK128.out]; simp [h128]
          have H128 := Lib.hid h128
          clear h128
          go_upto_region 13 with fail
          have HCV := Lib.hid (show TyVN M uw10 (.agg #[.bool false, .int .i64 ff, .int .i64 0, .slice none 0 0, .int .i64 k, .slice fa fn fc]) (Ty.mk false ff 0 [] k allT.funs) from TyVN.mk (.mkNil none 0) (HF.out))
          have HCE := Lib.hid (show cutT allT (lowN g) = (Ty.mk false ff 0 [] k allT.funs) by unfold cutT; rw [if_pos H64.out, if_pos H64.out, if_neg H128.out, if_neg H128.out, HFF.out, HTA.out, HTK.out])
          have hx := HBB.out
          have d0 := hx.c0
          have d1 := hx.c1
          have d2 := hx.c2
          have d3 := hx.c3
          have d4 := hx.c4
          have d5 := hx.c5
          have hr9 := HRR.out
          have r0 := hr9.c0
          have q0 := hr9.fr 0
          have r1 := hr9.c1
          have q1 := hr9.fr 1
          have r2 := hr9.c2
          have q2 := hr9.fr 2
          have r3 := hr9.c3
          have q3 := hr9.fr 3
          have r4 := hr9.c4
          have q4 := hr9.fr 4
          have r5 := hr9.c5
          have q5 := hr9.fr 5
          clear hr9 hx
          go_wp2
          refine bodyPost_ret (v := (.agg #[.bool false, .int .i64 ff, .int .i64 0, .slice none 0 0, .int .i64 k, .slice fa fn fc])) ?_ ?_ ?_
          · simp [results, Try.results25, go_sem, r0, r1, r2, r3, r4, r5]
          · rfl
          · rw [HCE.out]; exact ty_done (by omega) HNN.out (HCV.out.mono fun b _ hb => by rw [HME.out]; rcases hb with h | h; exact .inl h; exact .inr (.inr h)) HBW.out
      · have k64 : (bits .and .i64 gi 64 == 0) = false := by rw [HK64.out]; simp [h64]
        have H64 := Lib.hid h64
        clear h64
        go_upto_region 10 with fail
        by_cases h128 : lowN g &&& 128 = 0
        · have k128 : (bits .and .i64 gi 128 == 0) = true := by rw [HK128.out]; simp [h128]
          have H128 := Lib.hid h128
          clear h128
          have hc := HBB.out
          have x4 := hc.c4
          have y4 := hc.fr 4
          have x5 := hc.c5
          have y5 := hc.fr 5
          clear hc
          go_upto_region 13 with fail
          obtain ⟨uw12, huw12⟩ : ∃ wx : World, wx = ((uw9.setCell ⟨w.heap.size, 4, none⟩ (.int .i64 0)).setCell ⟨w.heap.size, 5, none⟩ (.slice none 0 0)) := ⟨_, rfl⟩
          rw [← huw12]
          replace HBB := Lib.hid (show BoxAt uw12 w.heap.size false ff p (.slice pa pn pc) 0 (.slice none 0 0) by rw [huw12]; exact HBB.out.s4.s5)
          replace HRR := Lib.hid (show BoxAt uw12 (w.heap.size + 1) false 0 0 (.slice none 0 0) 0 (.slice none 0 0) by rw [huw12]; exact ((HRR.out.o (m := w.heap.size) (i := 4) (x := .int .i64 0) (by omega)).o (m := w.heap.size) (i := 5) (x := .slice none 0 0) (by omega)))
          replace HP := Lib.hid (show TyS uw12 (Lo M uw12) (.slice pa pn pc) allT.pairs by rw [huw12]; exact (TySN.set (TySN.set HP.out ⟨w.heap.size, 4, none⟩ (by rw [HME.out]; exact .inr (.inl rfl)) (.int .i64 0)) ⟨w.heap.size, 5, none⟩ (by rw [HME.out]; exact .inr (.inl rfl)) (.slice none 0 0)))
          replace HF := Lib.hid (show TyS uw12 (Lo M uw12) (.slice fa fn fc) allT.funs by rw [huw12]; exact (TySN.set (TySN.set HF.out ⟨w.heap.size, 4, none⟩ (by rw [HME.out]; exact .inr (.inl rfl)) (.int .i64 0)) ⟨w.heap.size, 5, none⟩ (by rw [HME.out]; exact .inr (.inl rfl)) (.slice none 0 0)))
          replace HBW := Lib.hid (show Below w.heap.size w uw12 by rw [huw12]; exact ((HBW.out.setCell (p := ⟨w.heap.size, 4, none⟩) (Nat.le_refl _) (.int .i64 0)).setCell (p := ⟨w.heap.size, 5, none⟩) (Nat.le_refl _) (.slice none 0 0)))
          clear huw12
          clear x4 y4 x5 y5
          have HCV := Lib.hid (show TyVN M uw12 (.agg #[.bool false, .int .i64 ff, .int .i64 p, .slice pa pn pc, .int .i64 0, .slice none 0 0]) (Ty.mk false ff p allT.pairs 0 []) from TyVN.mk (HP.out) (.mkNil none 0))
          have HCE := Lib.hid (show cutT allT (lowN g) = (Ty.mk false ff p allT.pairs 0 []) by unfold cutT; rw [if_neg H64.out, if_neg H64.out, if_pos H128.out, if_pos H128.out, HFF.out, HTA.out, HTP.out])
          have hx := HBB.out
          have d0 := hx.c0
          have d1 := hx.c1
          have d2 := hx.c2
          have d3 := hx.c3
          have d4 := hx.c4
          have d5 := hx.c5
          have hr9 := HRR.out
          have r0 := hr9.c0
          have q0 := hr9.fr 0
          have r1 := hr9.c1
          have q1 := hr9.fr 1
          have r2 := hr9.c2
          have q2 := hr9.fr 2
          have r3 := hr9.c3
          have q3 := hr9.fr 3
          have r4 := hr9.c4
          have q4 := hr9.fr 4
          have r5 := hr9.c5
          have q5 := hr9.fr 5
          clear hr9 hx
          go_wp2
          refine bodyPost_ret (v := (.agg #[.bool false, .int .i64 ff, .int .i64 p, .slice pa pn pc, .int .i64 0, .slice none 0 0])) ?_ ?_ ?_
          · simp [results, Try.results25, go_sem, r0, r1, r2, r3, r4, r5]
          · rfl
          · rw [HCE.out]; exact ty_done (by omega) HNN.out (HCV.out.mono fun b _ hb => by rw [HME.out]; rcases hb with h | h; exact .inl h; exact .inr (.inr h)) HBW.out
        · have k128 : (bits .and .i64 gi 128 == 0) = false := by rw [HK128.out]; simp [h128]
          have H128 := Lib.hid h128
          clear h128
          go_upto_region 13 with fail
          have HCV := Lib.hid (show TyVN M uw9 (.agg #[.bool false, .int .i64 ff, .int .i64 p, .slice pa pn pc, .int .i64 k, .slice fa fn fc]) (Ty.mk false ff p allT.pairs k allT.funs) from TyVN.mk (HP.out) (HF.out))
          have HCE := Lib.hid (show cutT allT (lowN g) = (Ty.mk false ff p allT.pairs k allT.funs) by unfold cutT; rw [if_neg H64.out, if_neg H64.out, if_neg H128.out, if_neg H128.out, HFF.out, HTA.out, HTP.out, HTK.out])
          have hx := HBB.out
          have d0 := hx.c0
          have d1 := hx.c1
          have d2 := hx.c2
          have d3 := hx.c3
          have d4 := hx.c4
          have d5 := hx.c5
          have hr9 := HRR.out
          have r0 := hr9.c0
          have q0 := hr9.fr 0
          have r1 := hr9.c1
          have q1 := hr9.fr 1
          have r2 := hr9.c2
          have q2 := hr9.fr 2
          have r3 := hr9.c3
          have q3 := hr9.fr 3
          have r4 := hr9.c4
          have q4 := hr9.fr 4
          have r5 := hr9.c5
          have q5 := hr9.fr 5
          clear hr9 hx
          go_wp2
          refine bodyPost_ret (v := (.agg #[.bool false, .int .i64 ff, .int .i64 p, .slice pa pn pc, .int .i64 k, .slice fa fn fc])) ?_ ?_ ?_
          · simp [results, Try.results25, go_sem, r0, r1, r2, r3, r4, r5]
          · rfl
          · rw [HCE.out]; exact ty_done (by omega) HNN.out (HCV.out.mono fun b _ hb => by rw [HME.out]; rcases hb with h | h; exact .inl h; exact .inr (.inr h)) HBW.out
  | false =>
    have HBB := HBX
    have HKE := Lib.hid (show keepT t (lowN g) = cutT t (lowN g) by unfold keepT; rw [HTT.out.1]; rfl)
    rw [HKE.out]
    obtain ⟨ff, hff⟩ : ∃ ff : Int, ff = ((f.toNat &&& lowN g : Nat) : Int) := ⟨_, rfl⟩
    have hand : bits .and .i64 f gi = ff := by
      have h1 := i64_and (x := f.toNat) (y := lowN g) (by have := HFR.out; omega) (lowN_lt g)
      rw [← hff, ← HGI.out, show ((f.toNat : Nat) : Int) = f by have := HFR.out; omega] at h1
      exact h1
    have HFF := Lib.hid (show ((t.flat.toNat &&& lowN g : Nat) : Int) = ff by rw [HTT.out.2.1, hff])
    have HTA := Lib.hid HTT.out.1
    have HTP := Lib.hid HTT.out.2.2.1
    have HTK := Lib.hid HTT.out.2.2.2
    clear hff HBX
    go_upto_region 6 with (go_at_call 54; refine (HLOW.out _).mono ?_; rintro e w' ⟨rfl, h9⟩; rw [h9]; clear h9 w')
    rw [← HW.out]
    clear HW
    have hc := HBB.out
    have x1 := hc.c1
    have y1 := hc.fr 1
    clear hc
    go_upto_region 7 with fail
    obtain ⟨uw13, huw13⟩ : ∃ wx : World, wx = (W.setCell ⟨w.heap.size, 1, none⟩ (.int .i64 ff)) := ⟨_, rfl⟩
    rw [← huw13]
    replace HBB := Lib.hid (show BoxAt uw13 w.heap.size false ff p (.slice pa pn pc) k (.slice fa fn fc) by rw [huw13]; exact HBB.out.s1)
    replace HRR := Lib.hid (show BoxAt uw13 (w.heap.size + 1) false 0 0 (.slice none 0 0) 0 (.slice none 0 0) by rw [huw13]; exact (HRR.out.o (m := w.heap.size) (i := 1) (x := .int .i64 ff) (by omega)))
    replace HP := Lib.hid (show TyS uw13 (Lo M uw13) (.slice pa pn pc) t.pairs by rw [huw13]; exact (TySN.set HP.out ⟨w.heap.size, 1, none⟩ (by rw [HME.out]; exact .inr (.inl rfl)) (.int .i64 ff)))
    replace HF := Lib.hid (show TyS uw13 (Lo M uw13) (.slice fa fn fc) t.funs by rw [huw13]; exact (TySN.set HF.out ⟨w.heap.size, 1, none⟩ (by rw [HME.out]; exact .inr (.inl rfl)) (.int .i64 ff)))
    replace HBW := Lib.hid (show Below w.heap.size w uw13 by rw [huw13]; exact (HBW.out.setCell (p := ⟨w.heap.size, 1, none⟩) (Nat.le_refl _) (.int .i64 ff)))
    clear huw13
    clear x1 y1
    by_cases h64 : lowN g &&& 64 = 0
    · have k64 : (bits .and .i64 gi 64 == 0) = true := by rw [HK64.out]; simp [h64]
      have H64 := Lib.hid h64
      clear h64
      have hc := HBB.out
      have x2 := hc.c2
      have y2 := hc.fr 2
      have x3 := hc.c3
      have y3 := hc.fr 3
      clear hc
      go_upto_region 10 with fail
      obtain ⟨uw14, huw14⟩ : ∃ wx : World, wx = ((uw13.setCell ⟨w.heap.size, 2, none⟩ (.int .i64 0)).setCell ⟨w.heap.size, 3, none⟩ (.slice none 0 0)) := ⟨_, rfl⟩
      rw [← huw14]
      replace HBB := Lib.hid (show BoxAt uw14 w.heap.size false ff 0 (.slice none 0 0) k (.slice fa fn fc) by rw [huw14]; exact HBB.out.s2.s3)
      replace HRR := Lib.hid (show BoxAt uw14 (w.heap.size + 1) false 0 0 (.slice none 0 0) 0 (.slice none 0 0) by rw [huw14]; exact ((HRR.out.o (m := w.heap.size) (i := 2) (x := .int .i64 0) (by omega)).o (m := w.heap.size) (i := 3) (x := .slice none 0 0) (by omega)))
      replace HP := Lib.hid (show TyS uw14 (Lo M uw14) (.slice pa pn pc) t.pairs by rw [huw14]; exact (TySN.set (TySN.set HP.out ⟨w.heap.size, 2, none⟩ (by rw [HME.out]; exact .inr (.inl rfl)) (.int .i64 0)) ⟨w.heap.size, 3, none⟩ (by rw [HME.out]; exact .inr (.inl rfl)) (.slice none 0 0)))
      replace HF := Lib.hid (show TyS uw14 (Lo M uw14) (.slice fa fn fc) t.funs by rw [huw14]; exact (TySN.set (TySN.set HF.out ⟨w.heap.size, 2, none⟩ (by rw [HME.out]; exact .inr (.inl rfl)) (.int .i64 0)) ⟨w.heap.size, 3, none⟩ (by rw [HME.out]; exact .inr (.inl rfl)) (.slice none 0 0)))
      replace HBW := Lib.hid (show Below w.heap.size w uw14 by rw [huw14]; exact ((HBW.out.setCell (p := ⟨w.heap.size, 2, none⟩) (Nat.le_refl _) (.int .i64 0)).setCell (p := ⟨w.heap.size, 3, none⟩) (Nat.le_refl _) (.slice none 0 0)))
      clear huw14
      clear x2 y2 x3 y3
      by_cases h128 : lowN g &&& 128 = 0
      · have k128 : (bits .and .i64 gi 128 == 0) = true := by rw [HK128.out]; simp [h128]
        have H128 := Lib.hid h128
        clear h128
        have hc := HBB.out
        have x4 := hc.c4
        have y4 := hc.fr 4
        have x5 := hc.c5
        have y5 := hc.fr 5
        clear hc
        go_upto_region 13 with fail
        obtain ⟨uw15, huw15⟩ : ∃ wx : World, wx = ((uw14.setCell ⟨w.heap.size, 4, none⟩ (.int .i64 0)).setCell ⟨w.heap.size, 5, none⟩ (.slice none 0 0)) := ⟨_, rfl⟩
        rw [← huw15]
        replace HBB := Lib.hid (show BoxAt uw15 w.heap.size false ff 0 (.slice none 0 0) 0 (.slice none 0 0) by rw [huw15]; exact HBB.out.s4.s5)
        replace HRR := Lib.hid (show BoxAt uw15 (w.heap.size + 1) false 0 0 (.slice none 0 0) 0 (.slice none 0 0) by rw [huw15]; exact ((HRR.out.o (m := w.heap.size) (i := 4) (x := .int .i64 0) (by omega)).o (m := w.heap.size) (i := 5) (x := .slice none 0 0) (by omega)))
        replace HP := Lib.hid (show TyS uw15 (Lo M uw15) (.slice pa pn pc) t.pairs by rw [huw15]; exact (TySN.set (TySN.set HP.out ⟨w.heap.size, 4, none⟩ (by rw [HME.out]; exact .inr (.inl rfl)) (.int .i64 0)) ⟨w.heap.size, 5, none⟩ (by rw [HME.out]; exact .inr (.inl rfl)) (.slice none 0 0)))
        replace HF := Lib.hid (show TyS uw15 (Lo M uw15) (.slice fa fn fc) t.funs by rw [huw15]; exact (TySN.set (TySN.set HF.out ⟨w.heap.size, 4, none⟩ (by rw [HME.out]; exact .inr (.inl rfl)) (.int .i64 0)) ⟨w.heap.size, 5, none⟩ (by rw [HME.out]; exact .inr (.inl rfl)) (.slice none 0 0)))
        replace HBW := Lib.hid (show Below w.heap.size w uw15 by rw [huw15]; exact ((HBW.out.setCell (p := ⟨w.heap.size, 4, none⟩) (Nat.le_refl _) (.int .i64 0)).setCell (p := ⟨w.heap.size, 5, none⟩) (Nat.le_refl _) (.slice none 0 0)))
        clear huw15
        clear x4 y4 x5 y5
        have HCV := Lib.hid (show TyVN M uw15 (.agg #[.bool false, .int .i64 ff, .int .i64 0, .slice none 0 0, .int .i64 0, .slice none 0 0]) (Ty.mk false ff 0 [] 0 []) from TyVN.mk (.mkNil none 0) (.mkNil none 0))
        have HCE := Lib.hid (show cutT t (lowN g) = (Ty.mk false ff 0 [] 0 []) by unfold cutT; rw [if_pos H64.out, if_pos H64.out, if_pos H128.out, if_pos H128.out, HFF.out, HTA.out])
        have hx := HBB.out
        have d0 := hx.c0
        have d1 := hx.c1
        have d2 := hx.c2
        have d3 := hx.c3
        have d4 := hx.c4
        have d5 := hx.c5
        have hr9 := HRR.out
        have r0 := hr9.c0
        have q0 := hr9.fr 0
        have r1 := hr9.c1
        have q1 := hr9.fr 1
        have r2 := hr9.c2
        have q2 := hr9.fr 2
        have r3 := hr9.c3
        have q3 := hr9.fr 3
        have r4 := hr9.c4
        have q4 := hr9.fr 4
        have r5 := hr9.c5
        have q5 := hr9.fr 5
        clear hr9 hx
        go_wp2
        refine bodyPost_ret (v := (.agg #[.bool false, .int .i64 ff, .int .i64 0, .slice none 0 0, .int .i64 0, .slice none 0 0])) ?_ ?_ ?_
        · simp [results, Try.results25, go_sem, r0, r1, r2, r3, r4, r5]
        · rfl
        · rw [HCE.out]; exact ty_done (by omega) HNN.out (HCV.out.mono fun b _ hb => by rw [HME.out]; rcases hb with h | h; exact .inl h; exact .inr (.inr h)) HBW.out
      · have k128 : (bits .and .i64 gi 128 == 0) = false := by rw [HK128.out]; simp [h128]
        have H128 := Lib.hid h128
        clear h128
        go_upto_region 13 with fail
        have HCV := Lib.hid (show TyVN M uw14 (.agg #[.bool false, .int .i64 ff, .int .i64 0, .slice none 0 0, .int .i64 k, .slice fa fn fc]) (Ty.mk false ff 0 [] k t.funs) from TyVN.mk (.mkNil none 0) (HF.out))
        have HCE := Lib.hid (show cutT t (lowN g) = (Ty.mk false ff 0 [] k t.funs) by unfold cutT; rw [if_pos H64.out, if_pos H64.out, if_neg H128.out, if_neg H128.out, HFF.out, HTA.out, HTK.out])
        have hx := HBB.out
        have d0 := hx.c0
        have d1 := hx.c1
        have d2 := hx.c2
        have d3 := hx.c3
        have d4 := hx.c4
        have d5 := hx.c5
        have hr9 := HRR.out
        have r0 := hr9.c0
        have q0 := hr9.fr 0
        have r1 := hr9.c1
        have q1 := hr9.fr 1
        have r2 := hr9.c2
        have q2 := hr9.fr 2
        have r3 := hr9.c3
        have q3 := hr9.fr 3
        have r4 := hr9.c4
        have q4 := hr9.fr 4
        have r5 := hr9.c5
        have q5 := hr9.fr 5
        clear hr9 hx
        go_wp2
        refine bodyPost_ret (v := (.agg #[.bool false, .int .i64 ff, .int .i64 0, .slice none 0 0, .int .i64 k, .slice fa fn fc])) ?_ ?_ ?_
        · simp [results, Try.results25, go_sem, r0, r1, r2, r3, r4, r5]
        · rfl
        · rw [HCE.out]; exact ty_done (by omega) HNN.out (HCV.out.mono fun b _ hb => by rw [HME.out]; rcases hb with h | h; exact .inl h; exact .inr (.inr h)) HBW.out
    · have k64 : (bits .and .i64 gi 64 == 0) = false := by rw [HK64.out]; simp [h64]
      have H64 := Lib.hid h64
      clear h64
      go_upto_region 10 with fail
      by_cases h128 : lowN g &&& 128 = 0
      · have k128 : (bits .and .i64 gi 128 == 0) = true := by rw [HK128.out]; simp [h128]
        have H128 := Lib.hid h128
        clear h128
        have hc := HBB.out
        have x4 := hc.c4
        have y4 := hc.fr 4
        have x5 := hc.c5
        have y5 := hc.fr 5
        clear hc
        go_upto_region 13 with fail
        obtain ⟨uw16, huw16⟩ : ∃ wx : World, wx = ((uw13.setCell ⟨w.heap.size, 4, none⟩ (.int .i64 0)).setCell ⟨w.heap.size, 5, none⟩ (.slice none 0 0)) := ⟨_, rfl⟩
        rw [← huw16]
        replace HBB := Lib.hid (show BoxAt uw16 w.heap.size false ff p (.slice pa pn pc) 0 (.slice none 0 0) by rw [huw16]; exact HBB.out.s4.s5)
        replace HRR := Lib.hid (show BoxAt uw16 (w.heap.size + 1) false 0 0 (.slice none 0 0) 0 (.slice none 0 0) by rw [huw16]; exact ((HRR.out.o (m := w.heap.size) (i := 4) (x := .int .i64 0) (by omega)).o (m := w.heap.size) (i := 5) (x := .slice none 0 0) (by omega)))
        replace HP := Lib.hid (show TyS uw16 (Lo M uw16) (.slice pa pn pc) t.pairs by rw [huw16]; exact (TySN.set (TySN.set HP.out ⟨w.heap.size, 4, none⟩ (by rw [HME.out]; exact .inr (.inl rfl)) (.int .i64 0)) ⟨w.heap.size, 5, none⟩ (by rw [HME.out]; exact .inr (.inl rfl)) (.slice none 0 0)))
        replace HF := Lib.hid (show TyS uw16 (Lo M uw16) (.slice fa fn fc) t.funs by rw [huw16]; exact (TySN.set (TySN.set HF.out ⟨w.heap.size, 4, none⟩ (by rw [HME.out]; exact .inr (.inl rfl)) (.int .i64 0)) ⟨w.heap.size, 5, none⟩ (by rw [HME.out]; exact .inr (.inl rfl)) (.slice none 0 0)))
        replace HBW := Lib.hid (show Below w.heap.size w uw16 by rw [huw16]; exact ((HBW.out.setCell (p := ⟨w.heap.size, 4, none⟩) (Nat.le_refl _) (.int .i64 0)).setCell (p := ⟨w.heap.size, 5, none⟩) (Nat.le_refl _) (.slice none 0 0)))
        clear huw16
        clear x4 y4 x5 y5
        have HCV := Lib.hid (show TyVN M uw16 (.agg #[.bool false, .int .i64 ff, .int .i64 p, .slice pa pn pc, .int .i64 0, .slice none 0 0]) (Ty.mk false ff p t.pairs 0 []) from TyVN.mk (HP.out) (.mkNil none 0))
        have HCE := Lib.hid (show cutT t (lowN g) = (Ty.mk false ff p t.pairs 0 []) by unfold cutT; rw [if_neg H64.out, if_neg H64.out, if_pos H128.out, if_pos H128.out, HFF.out, HTA.out, HTP.out])
        have hx := HBB.out
        have d0 := hx.c0
        have d1 := hx.c1
        have d2 := hx.c2
        have d3 := hx.c3
        have d4 := hx.c4
        have d5 := hx.c5
        have hr9 := HRR.out
        have r0 := hr9.c0
        have q0 := hr9.fr 0
        have r1 := hr9.c1
        have q1 := hr9.fr 1
        have r2 := hr9.c2
        have q2 := hr9.fr 2
        have r3 := hr9.c3
        have q3 := hr9.fr 3
        have r4 := hr9.c4
        have q4 := hr9.fr 4
        have r5 := hr9.c5
        have q5 := hr9.fr 5
        clear hr9 hx
        go_wp2
        refine bodyPost_ret (v := (.agg #[.bool false, .int .i64 ff, .int .i64 p, .slice pa pn pc, .int .i64 0, .slice none 0 0])) ?_ ?_ ?_
        · simp [results, Try.results25, go_sem, r0, r1, r2, r3, r4, r5]
        · rfl
        · rw [HCE.out]; exact ty_done (by omega) HNN.out (HCV.out.mono fun b _ hb => by rw [HME.out]; rcases hb with h | h; exact .inl h; exact .inr (.inr h)) HBW.out
      · have k128 : (bits .and .i64 gi 128 == 0) = false := by rw [HK128.out]; simp [h128]
        have H128 := Lib.hid h128
        clear h128
        go_upto_region 13 with fail
        have HCV := Lib.hid (show TyVN M uw13 (.agg #[.bool false, .int .i64 ff, .int .i64 p, .slice pa pn pc, .int .i64 k, .slice fa fn fc]) (Ty.mk false ff p t.pairs k t.funs) from TyVN.mk (HP.out) (HF.out))
        have HCE := Lib.hid (show cutT t (lowN g) = (Ty.mk false ff p t.pairs k t.funs) by unfold cutT; rw [if_neg H64.out, if_neg H64.out, if_neg H128.out, if_neg H128.out, HFF.out, HTA.out, HTP.out, HTK.out])
        have hx := HBB.out
        have d0 := hx.c0
        have d1 := hx.c1
        have d2 := hx.c2
        have d3 := hx.c3
        have d4 := hx.c4
        have d5 := hx.c5
        have hr9 := HRR.out
        have r0 := hr9.c0
        have q0 := hr9.fr 0
        have r1 := hr9.c1
        have q1 := hr9.fr 1
        have r2 := hr9.c2
        have q2 := hr9.fr 2
        have r3 := hr9.c3
        have q3 := hr9.fr 3
        have r4 := hr9.c4
        have q4 := hr9.fr 4
        have r5 := hr9.c5
        have q5 := hr9.fr 5
        clear hr9 hx
        go_wp2
        refine bodyPost_ret (v := (.agg #[.bool false, .int .i64 ff, .int .i64 p, .slice pa pn pc, .int .i64 k, .slice fa fn fc])) ?_ ?_ ?_
        · simp [results, Try.results25, go_sem, r0, r1, r2, r3, r4, r5]
        · rfl
        · rw [HCE.out]; exact ty_done (by omega) HNN.out (HCV.out.mono fun b _ hb => by rw [HME.out]; rcases hb with h | h; exact .inl h; exact .inr (.inr h)) HBW.out
end Go.Proofs.Ytgjkobkcmgliaaa
