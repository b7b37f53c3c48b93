import Derived.Test.YtlalnkabfigodaaDoorCoTz
namespace Go.Proofs.YtlalnkabfigodaaDoor
open Go.Lib (hid)
open Go.RowKit


set_option maxRecDepth 100000 in
set_option maxHeartbeats 8000000 in
theorem carof_p (N : Nat → Prop) (c : Co) (v : Value) (w : World) (hN : ∀ b, N b → b < w.heap.size) (hs : Shape c) (hv : CoVN N w v c) : Calls Tryd.prog 52 #[v] w (CoPost N (carC c) w) := by
 have hwr : ∀ w1, Below w.heap.size w w1 → Calls Tryd.prog 74 #[v] w1 fun e w' => e = .returned (.bool (decide (2 ≤ c.h.pair))) ∧ Below w1.heap.size w1 w' := fun w1 hb => by rw [← wpr_shape hs]; exact wraps_raw c v w1 (hv.below hb).cv
 have h1 := fun h => (plen1 hs h).1
 have h2 := fun h => (plen1 hs (show 2 ≤ c.h.pair by omega)).2 (show c.h.pair = 2 from h)
 obtain ⟨pa, pc, fa, fc, rfl, hp, hf⟩ := hv.form
 obtain ⟨np, hnp⟩ : ∃ n, n = c.pairs.length := ⟨_, rfl⟩
 obtain ⟨nf, hnf⟩ : ∃ n, n = c.funs.length := ⟨_, rfl⟩
 rw [← hnp] at hp hv hwr ⊢
 rw [← hnf] at hf hv hwr ⊢
 have bp : (np : Int) ≤ 9223372036854775807 := by have := hp.len; rw [← hnp] at this; unfold maxLen at this; omega
 have bf : (nf : Int) ≤ 9223372036854775807 := by have := hf.len; rw [← hnf] at this; unfold maxLen at this; omega
 obtain ⟨W, hW⟩ : ∃ W, W = (w.alloc (.cells #[.int .i64 c.h.f0, .int .i64 c.h.f1, .int .i64 c.h.f2, .int .i64 c.h.f3, .int .i64 c.h.f4, .int .i64 c.h.f5, .int .i64 c.h.pair, .int .i64 c.h.pl, .slice pa np pc, .int .i64 c.h.fn, .int .i64 c.h.fl, .slice fa nf fc] 25)).alloc (.cells #[.int .i64 0, .int .i64 0, .int .i64 0, .int .i64 0, .int .i64 0, .int .i64 0, .int .i64 0, .int .i64 0, .slice none 0 0, .int .i64 0, .int .i64 0, .slice none 0 0] 25) := ⟨_, rfl⟩
 obtain ⟨g, hg⟩ : ∃ g, g = w.heap.size + 1 := ⟨_, rfl⟩
 have HX := hid (show CBox W w.heap.size 25 ⟨c.h, .slice pa np pc, .slice fa nf fc⟩ by rw [hW]; exact (CBox.made _ _ ⟨c.h, .slice pa np pc, .slice fa nf fc⟩).keep (bAl _ _))
 have HR := hid (show CBox W g 25 ⟨⟨0, 0, 0, 0, 0, 0, 0, 0, 0, 0⟩, .slice none 0 0, .slice none 0 0⟩ by rw [hW, hg]; have := CBox.made (w.alloc (.cells #[.int .i64 c.h.f0, .int .i64 c.h.f1, .int .i64 c.h.f2, .int .i64 c.h.f3, .int .i64 c.h.f4, .int .i64 c.h.f5, .int .i64 c.h.pair, .int .i64 c.h.pl, .slice pa np pc, .int .i64 c.h.fn, .int .i64 c.h.fl, .slice fa nf fc] 25)) 25 ⟨⟨0, 0, 0, 0, 0, 0, 0, 0, 0, 0⟩, .slice none 0 0, .slice none 0 0⟩; simpa using this)
 have HL := hid (show Below w.heap.size w W by rw [hW]; exact (bAl _ _).alloc (by simp) _)
 have HSZ := hid (show W.heap.size = g + 1 ∧ g = w.heap.size + 1 by rw [hW, hg]; exact ⟨by simp, rfl⟩)
 have HP := hid (CoSN.below hp HL.out)
 have HP2 := hid (CoSN.later (M := fun x => N x ∨ x = g) hp HL.out (fun x h => h.elim .inl fun h => .inr (by rw [h, hg]; omega)))
 have HF := hid (CoSN.below hf HL.out)
 have HV := hid (hv.later (M := fun x => N x ∨ x = g) HL.out (fun x h => h.elim .inl fun h => .inr (by rw [h, hg]; omega)))
 have HPN := hid hnp
 have HFN := hid hnf
 have HW := hid hW
 have HG := hid hg
 clear hp hf hnp hnf hW hv hg
 have HN := hid hN
 have H1 := hid h1
 have H2 := hid h2
 rw [← HPN.out] at H1 H2
 have HWR := hid (hwr W HL.out)
 have HSH := hid hs
 clear hN h1 h2 hwr hs
 obtain ⟨x0, x1, x2, x3, x4, x5, x6, x7, x8, x9, x10, x11⟩ := HX.out.cs
 (try dsimp only at x0 x1 x2 x3 x4 x5 x6 x7 x8 x9 x10 x11)
 go_enter Tryd.func52, Tryd.ntmps52
 go_wp2_with fail
 rw [← HW.out]
 refine HWR.out.mono ?_
 rintro e w2 ⟨rfl, hb2⟩
 rw [← HG.out]
 have HB2 := hid hb2
 replace HX := hid (HX.out.keep hb2)
 replace HR := hid (HR.out.keep hb2)
 replace HP2 := hid (CoSN.below HP2.out hb2)
 replace HL := hid (HL.out.trans (hb2.mono HL.out.size))
 clear hb2 HWR HW x0 x1 x2 x3 x4 x5 x6 x7 x8 x9 x10 x11
 obtain ⟨x0, x1, x2, x3, x4, x5, x6, x7, x8, x9, x10, x11⟩ := HX.out.cs
 (try dsimp only at x0 x1 x2 x3 x4 x5 x6 x7 x8 x9 x10 x11)
 obtain ⟨r0, r1, r2, r3, r4, r5, r6, r7, r8, r9, r10, r11⟩ := HR.out.cs
 (try dsimp only at r0 r1 r2 r3 r4 r5 r6 r7 r8 r9 r10 r11)
 obtain ⟨fr0, fr1, fr2, fr3, fr4, fr5, fr6, fr7, fr8, fr9, fr10, fr11⟩ := HR.out.frs
 by_cases hp2 : c.h.pair < 2
 ·
  have bp2 : decide (2 ≤ c.h.pair) = false := decide_eq_false (by omega)
  rw [bp2]
  have HRES := hid (show carC c = co0 by unfold carC; rw [if_pos hp2])
  clear hp2 bp2
  go_wp2
  have HPOST := hid (show CoPost N (carC c) w (.returned (coV ⟨⟨0, 0, 0, 0, 0, 0, 0, 0, 0, 0⟩, .slice none 0 0, .slice none 0 0⟩)) (set12 (w2) g ⟨⟨0, 0, 0, 0, 0, 0, 0, 0, 0, 0⟩, .slice none 0 0, .slice none 0 0⟩) from by rw [HRES.out]; exact ⟨⟨_, rfl, co0_v _ _⟩, Below.set12 (g := g) HL.out (by rw [HG.out]; omega)⟩)
  refine ret12 (w2) g ⟨⟨0, 0, 0, 0, 0, 0, 0, 0, 0, 0⟩, .slice none 0 0, .slice none 0 0⟩ (HR.out) HPOST.out (fun wf hb => ?_) rfl
  obtain ⟨z0, z1, z2, z3, z4, z5, z6, z7, z8, z9, z10, z11⟩ := hb.cs
  simp [results, Tryd.results52, go_sem, coV, z0, z1, z2, z3, z4, z5, z6, z7, z8, z9, z10, z11]
 have bp2 : decide (2 ≤ c.h.pair) = true := decide_eq_true (by omega)
 rw [bp2]
 have hn1 : 1 ≤ np := H1.out (by omega)
 have hj : 0 < c.pairs.length := by rw [← HPN.out]; omega
 obtain ⟨d, hd⟩ : ∃ d, c.pairs.getD 0 co0 = d := ⟨_, rfl⟩
 obtain ⟨b, off, p1, c1, p2, c2, rfl, hb, ⟨e0, e1, e2, e3, e4, e5, e6, e7, e8, e9, e10, e11⟩, hu⟩ := CoSN.elem HP2.out hj hd
 simp only [Nat.zero_mul, Nat.add_zero] at e0 e1 e2 e3 e4 e5 e6 e7 e8 e9 e10 e11
 have HU := hid hu
 have HD := hid hd
 clear hu hd hj
 have hn1i : (0 : Int) < (np : Int) := by omega
 have HRES := hid (show carC c = d by unfold carC; rw [if_neg hp2, HD.out])
 clear hp2 hn1 bp2
 go_wp2
 have HPOST := hid (show CoPost N (carC c) w (.returned (coV ⟨d.h, .slice p1 d.pairs.length c1, .slice p2 d.funs.length c2⟩)) (set12 (w2) g ⟨d.h, .slice p1 d.pairs.length c1, .slice p2 d.funs.length c2⟩) from by rw [HRES.out]; exact ⟨⟨_, rfl, (CoVN.set12 (g := g) HU.out (.inr rfl)).mono fun _ _ h => .inl h⟩, Below.set12 (g := g) HL.out (by rw [HG.out]; omega)⟩)
 refine ret12 (w2) g ⟨d.h, .slice p1 d.pairs.length c1, .slice p2 d.funs.length c2⟩ (HR.out) HPOST.out (fun wf hb => ?_) rfl
 obtain ⟨z0, z1, z2, z3, z4, z5, z6, z7, z8, z9, z10, z11⟩ := hb.cs
 simp [results, Tryd.results52, go_sem, coV, z0, z1, z2, z3, z4, z5, z6, z7, z8, z9, z10, z11]

def hdL (l : Int) (i : Nat) : Hd := ⟨if 0 < i then l else 0, if 1 < i then l else 0, if 2 < i then l else 0, if 3 < i then l else 0, if 4 < i then l else 0, if 5 < i then l else 0, 3, l, 0, 0⟩
theorem hdL_store {l : Int} {i g : Nat} {w : World} {T : TypeId} {a b : Value} (hi : i < 6) (h : CBox w g T ⟨hdL l i, a, b⟩) : CBox (w.setCell ⟨g, i, none⟩ (.int .i64 l)) g T ⟨hdL l (i + 1), a, b⟩ := by
 rcases (by omega : i = 0 ∨ i = 1 ∨ i = 2 ∨ i = 3 ∨ i = 4 ∨ i = 5) with rfl | rfl | rfl | rfl | rfl | rfl
 ·
  exact h.s0
 ·
  exact h.s1
 ·
  exact h.s2
 ·
  exact h.s3
 ·
  exact h.s4
 ·
  exact h.s5
theorem Below.but' {r B : Nat} {a b : World} (h : But r a b) (hB : B ≤ r) (hs : B ≤ a.heap.size) : Below B a b := h.below hB hs
theorem TzW.but {r : Nat} {w w' : World} (h : TzW w) (k : But r w w') (hn : 1 ≠ r) : TzW w' := fun j hj => (k.cell (p := ⟨1, j, none⟩) h.lt hn).trans (h j hj)

set_option maxRecDepth 100000 in
set_option maxHeartbeats 16000000 in
theorem listof_p (N : Nat → Prop) (d : Co) (l : Int) (pa : Option Addr) (pc : Nat) (w : World) (hN : ∀ b, N b → b < w.heap.size) (hT : TzW w) (hv : CoS w (Lc N w) (.slice pa 1 pc) [d]) : Calls Tryd.prog 75 #[.slice pa 1 pc, .int .i64 l] w (CoPost N (listsC d l) w) := by
 obtain ⟨b, off, p1, c1, p2, c2, rfl, hbN, ⟨e0, e1, e2, e3, e4, e5, e6, e7, e8, e9, e10, e11⟩, hu⟩ := CoSN.elem2 hv (j := 0) (by simp) rfl
 simp only [Nat.zero_mul, Nat.add_zero, List.getD_cons_zero] at e0 e1 e2 e3 e4 e5 e6 e7 e8 e9 e10 e11 hu
 obtain ⟨g, hg⟩ : ∃ g, g = w.heap.size := ⟨_, rfl⟩
 obtain ⟨W, hW⟩ : ∃ W, W = w.alloc (.cells #[.int .i64 0, .int .i64 0, .int .i64 0, .int .i64 0, .int .i64 0, .int .i64 0, .int .i64 0, .int .i64 0, .slice none 0 0, .int .i64 0, .int .i64 0, .slice none 0 0] 25) := ⟨_, rfl⟩
 have hb0 : Below w.heap.size w W := by rw [hW]; exact bAl _ _
 have HR := hid (show CBox W g 25 ⟨⟨0, 0, 0, 0, 0, 0, 0, 0, 0, 0⟩, .slice none 0 0, .slice none 0 0⟩ by rw [hW, hg]; exact CBox.made w 25 ⟨⟨0, 0, 0, 0, 0, 0, 0, 0, 0, 0⟩, .slice none 0 0, .slice none 0 0⟩)
 have HL := hid hb0
 have HTZ := hid (hT.keep hb0)
 have HI := hid (CoSN.later (M := fun x => N x ∨ x = g) hv hb0 (fun x h => h.elim .inl fun h => .inr (by rw [h, hg]; omega)))
 have HIB := hid (show Lc (fun x => N x ∨ x = g) W b from ⟨Nat.lt_of_lt_of_le hbN.1 hb0.size, fun h => h.elim hbN.2 fun h => by have := hbN.1; omega⟩)
 have HU := hid (hu.below hb0)
 have HN := hid hN
 have HW := hid hW
 have HG := hid hg
 have y := fun (i : Nat) => hb0.cell (p := ⟨b, off + i, none⟩) hbN.1
 have k0 : W.cell? ⟨b, off, none⟩ = some (.int .i64 d.h.f0) := (hb0.cell (p := ⟨b, off, none⟩) hbN.1).trans e0
 have k1 : W.cell? ⟨b, off + 1, none⟩ = some (.int .i64 d.h.f1) := (hb0.cell (p := ⟨b, off + 1, none⟩) hbN.1).trans e1
 have k2 : W.cell? ⟨b, off + 2, none⟩ = some (.int .i64 d.h.f2) := (hb0.cell (p := ⟨b, off + 2, none⟩) hbN.1).trans e2
 have k3 : W.cell? ⟨b, off + 3, none⟩ = some (.int .i64 d.h.f3) := (hb0.cell (p := ⟨b, off + 3, none⟩) hbN.1).trans e3
 have k4 : W.cell? ⟨b, off + 4, none⟩ = some (.int .i64 d.h.f4) := (hb0.cell (p := ⟨b, off + 4, none⟩) hbN.1).trans e4
 have k5 : W.cell? ⟨b, off + 5, none⟩ = some (.int .i64 d.h.f5) := (hb0.cell (p := ⟨b, off + 5, none⟩) hbN.1).trans e5
 have k6 : W.cell? ⟨b, off + 6, none⟩ = some (.int .i64 d.h.pair) := (hb0.cell (p := ⟨b, off + 6, none⟩) hbN.1).trans e6
 have k7 : W.cell? ⟨b, off + 7, none⟩ = some (.int .i64 d.h.pl) := (hb0.cell (p := ⟨b, off + 7, none⟩) hbN.1).trans e7
 have k8 : W.cell? ⟨b, off + 8, none⟩ = some (.slice p1 d.pairs.length c1) := (hb0.cell (p := ⟨b, off + 8, none⟩) hbN.1).trans e8
 have k9 : W.cell? ⟨b, off + 9, none⟩ = some (.int .i64 d.h.fn) := (hb0.cell (p := ⟨b, off + 9, none⟩) hbN.1).trans e9
 have k10 : W.cell? ⟨b, off + 10, none⟩ = some (.int .i64 d.h.fl) := (hb0.cell (p := ⟨b, off + 10, none⟩) hbN.1).trans e10
 have k11 : W.cell? ⟨b, off + 11, none⟩ = some (.slice p2 d.funs.length c2) := (hb0.cell (p := ⟨b, off + 11, none⟩) hbN.1).trans e11
 rw [hW] at k0 k1 k2 k3 k4 k5 k6 k7 k8 k9 k10 k11
 clear hb0 hW hg hbN hu hN hT hv y e0 e1 e2 e3 e4 e5 e6 e7 e8 e9 e10 e11
 by_cases hl : l = 0
 ·
  subst hl
  have HP := hid (fun w1 (h : Below W.heap.size W w1) => pass_p d _ w1 (HU.out.below h).cv)
  go_enter Tryd.func75, Tryd.ntmps75
  go_wp2_with fail
  rw [← HW.out]
  refine (HP.out W (Below.refl _ _)).mono ?_
  rintro e w2 ⟨rfl, hb2⟩
  rw [← HG.out]
  replace HR := hid (HR.out.keep hb2)
  replace HTZ := hid (HTZ.out.keep hb2)
  replace HI := hid (CoSN.below HI.out hb2)
  replace HIB := hid (show Lc (fun x => N x ∨ x = g) w2 b from ⟨Nat.lt_of_lt_of_le HIB.out.1 hb2.size, HIB.out.2⟩)
  replace HL := hid (HL.out.trans (hb2.mono HL.out.size))
  clear hb2 HW k0 k1 k2 k3 k4 k5 k6 k7 k8 k9 k10 k11
  by_cases hz : passC d = true
  ·
   rw [hz]
   have HRES := hid (show listsC d 0 = co0 by unfold listsC; rw [if_pos ⟨hz, rfl⟩])
   clear hz
   obtain ⟨r0, r1, r2, r3, r4, r5, r6, r7, r8, r9, r10, r11⟩ := HR.out.cs
   (try dsimp only at r0 r1 r2 r3 r4 r5 r6 r7 r8 r9 r10 r11)
   obtain ⟨fr0, fr1, fr2, fr3, fr4, fr5, fr6, fr7, fr8, fr9, fr10, fr11⟩ := HR.out.frs
   go_wp2
   have HPOST := hid (show CoPost N (listsC d 0) w (.returned (coV ⟨⟨0, 0, 0, 0, 0, 0, 0, 0, 0, 0⟩, .slice none 0 0, .slice none 0 0⟩)) (set12 (w2) g ⟨⟨0, 0, 0, 0, 0, 0, 0, 0, 0, 0⟩, .slice none 0 0, .slice none 0 0⟩) from by rw [HRES.out]; exact ⟨⟨_, rfl, co0_v _ _⟩, Below.set12 (g := g) HL.out (by rw [HG.out]; exact Nat.le_refl _)⟩)
   refine ret12 (w2) g ⟨⟨0, 0, 0, 0, 0, 0, 0, 0, 0, 0⟩, .slice none 0 0, .slice none 0 0⟩ (HR.out) HPOST.out (fun wf hb => ?_) rfl
   obtain ⟨z0, z1, z2, z3, z4, z5, z6, z7, z8, z9, z10, z11⟩ := hb.cs
   simp [results, Tryd.results75, go_sem, coV, z0, z1, z2, z3, z4, z5, z6, z7, z8, z9, z10, z11]
  ·
   have hzf : passC d = false := by simpa using hz
   rw [hzf]
   have HRES := hid (show listsC d 0 = .mk ⟨0, 0, 0, 0, 0, 0, 3, 0, 0, 0⟩ [d] [] by unfold listsC; rw [if_neg (fun h => hz h.1), if_neg (by simp)])
   obtain ⟨l, HL0⟩ : ∃ l : Int, Hid (l = 0) := ⟨0, hid rfl⟩
   clear hz hzf
   obtain ⟨g5, hg5⟩ : ∃ n, n = w2.heap.size := ⟨_, rfl⟩
   obtain ⟨W5, hW5⟩ : ∃ x, x = w2.alloc (.cells #[.int .i64 0, .int .i64 0, .int .i64 0, .int .i64 0, .int .i64 0, .int .i64 0, .int .i64 3, .int .i64 0, .slice (some ⟨b, off, none⟩) 1 pc, .int .i64 0, .int .i64 0, .slice none 0 0] 25) := ⟨_, rfl⟩
   have hb5 : Below w2.heap.size w2 W5 := by rw [hW5]; exact bAl _ _
   have HC5 := hid (show CBox W5 g5 25 ⟨hdL 0 0, .slice (some ⟨b, off, none⟩) 1 pc, .slice none 0 0⟩ by rw [hW5, hg5]; exact CBox.made w2 25 ⟨⟨0, 0, 0, 0, 0, 0, 3, 0, 0, 0⟩, .slice (some ⟨b, off, none⟩) 1 pc, .slice none 0 0⟩)
   have HR5 := hid (HR.out.keep hb5)
   have HTZ5 := hid (HTZ.out.keep hb5)
   have HI5 := hid (CoSN.below HI.out hb5)
   have HL5 := hid (HL.out.trans (hb5.mono HL.out.size))
   have HGL := hid (show g < g5 ∧ w.heap.size ≤ g5 ∧ 1 < g5 ∧ g5 < W5.heap.size from ⟨by rw [hg5]; exact HR.out.lt, by rw [hg5]; exact HL.out.size, by rw [hg5]; exact HTZ.out.lt, by rw [hW5, hg5, alloc_hs7]; omega⟩)
   have HI5N := hid (show Lc (fun x => N x ∨ x = g ∨ x = g5) W5 b from ⟨Nat.lt_of_lt_of_le HIB.out.1 hb5.size, fun h => h.elim (fun h => HIB.out.2 (.inl h)) fun h => h.elim (fun h => HIB.out.2 (.inr h)) fun h => by have := HIB.out.1; omega⟩)
   have HW5 := hid hW5
   have HG5 := hid hg5
   clear hb5 hW5 hg5
   have HI6 := hid (show CoS W5 (Lc (fun x => N x ∨ x = g ∨ x = g5) W5) (.slice (some ⟨b, off, none⟩) 1 pc) [d] from CoSN.later (w := w2) (N := fun x => N x ∨ x = g) HI.out (by rw [HW5.out]; exact bAl _ _) fun x h => h.elim (fun h => .inl (.inl h)) fun h => h.elim (fun h => .inl (.inr h)) fun h => .inr (by rw [h, HG5.out]; exact Nat.le_refl _))
   go_wp2
   rw [← HW5.out, ← HG5.out]
   go_loopw [6, 19] (fun _ iv wr => ∃ i : Nat, i ≤ 6 ∧ iv = .int .i64 i ∧ Hid (CBox wr g5 25 ⟨hdL 0 i, .slice (some ⟨b, off, none⟩) 1 pc, .slice none 0 0⟩) ∧ Hid (But g5 W5 wr)) (fun _ iv _ => 6 - (intOf iv).toNat)
   case atStart => exact ⟨0, Nat.zero_le _, rfl, HC5, hid (But.refl _ _)⟩
   case round =>
    obtain ⟨i, hi1, rfl, HCB, HBU⟩ := hrel
    by_cases hlt : i < 6
    ·
     have hi0 : (0 : Int) ≤ (i : Int) := Int.natCast_nonneg _
     have hi2 : (i : Int) < 6 := by omega
     have hc := HCB.out.flat hlt
     have hf := HCB.out.fr i
     have HLT := hid hlt
     clear hlt hi1
     go_wp2
     exact ⟨⟨i + 1, by have := HLT.out; omega, by go_num, hid (hdL_store HLT.out HCB.out), hid (HBU.out.set _ _)⟩, by have := HLT.out; simp [intOf]; omega⟩
    ·
     have hi6 : i = 6 := by omega
     subst hi6
     have hdl : hdL 0 6 = ⟨0, 0, 0, 0, 0, 0, 3, 0, 0, 0⟩ := rfl
     rw [hdl] at HCB
     clear hdl hlt hi1
     have HTZ6 := hid (HTZ5.out.but HBU.out (by have := HGL.out; omega))
     have HC16 := hid (show Lib.ctz 64 16 = 4 from by decide)
     have q4 : wr.cell? ⟨g5, 4, none⟩ = some (.int .i64 0) := HCB.out.c4
     have qf4 : wr.frozen? ⟨g5, 4, none⟩ = false := HCB.out.fr 4
     go_wp2_with fail
     refine (tz_p 16 (by omega) (by omega) wr HTZ6.out).mono ?_
     rintro e w6 ⟨rfl, rfl⟩
     rw [HC16.out]
     obtain ⟨w7, hw7⟩ : ∃ x, x = w6.setCell ⟨g5, 4, none⟩ (.int .i64 0) := ⟨_, rfl⟩
     have HC7 := hid (show CBox w7 g5 25 ⟨⟨0, 0, 0, 0, 0, 0, 3, 0, 0, 0⟩, .slice (some ⟨b, off, none⟩) 1 pc, .slice none 0 0⟩ by rw [hw7]; exact HCB.out.s4)
     have HB7 := hid (show But g5 W5 w7 by rw [hw7]; exact HBU.out.set _ _)
     have HW7 := hid hw7
     clear hw7
     go_upto_region 10 with fail
     rw [← HW7.out]
     have HRZ := hid (HR5.out.but HB7.out (by have := HGL.out; omega))
     obtain ⟨r0, r1, r2, r3, r4, r5, r6, r7, r8, r9, r10, r11⟩ := HRZ.out.cs
     (try dsimp only at r0 r1 r2 r3 r4 r5 r6 r7 r8 r9 r10 r11)
     obtain ⟨fr0, fr1, fr2, fr3, fr4, fr5, fr6, fr7, fr8, fr9, fr10, fr11⟩ := HRZ.out.frs
     obtain ⟨t0, t1, t2, t3, t4, t5, t6, t7, t8, t9, t10, t11⟩ := HC7.out.cs
     (try dsimp only at t0 t1 t2 t3 t4 t5 t6 t7 t8 t9 t10 t11)
     clear q4 qf4
     go_wp2
     have HS7 := hid (CoSN.but (N := fun x => N x ∨ x = g ∨ x = g5) (show CoS W5 (Lc (fun x => N x ∨ x = g ∨ x = g5) W5) _ [d] from HI6.out) HB7.out (.inr (.inr rfl)))
     have HLZ := hid (HL5.out.trans (HB7.out.below (B := w.heap.size) HGL.out.2.1 HL5.out.size))
     have HPOST := hid (show CoPost N (listsC d 0) w (.returned (coV ⟨⟨0, 0, 0, 0, 0, 0, 3, 0, 0, 0⟩, .slice (some ⟨b, off, none⟩) 1 pc, .slice none 0 0⟩)) (set12 (w7) g ⟨⟨0, 0, 0, 0, 0, 0, 3, 0, 0, 0⟩, .slice (some ⟨b, off, none⟩) 1 pc, .slice none 0 0⟩) from by rw [HRES.out]; exact ⟨⟨_, rfl, (CoVN.set12 (g := g) (CoVN.mk (h := ⟨0, 0, 0, 0, 0, 0, 3, 0, 0, 0⟩) HS7.out (.mkNil _ _)) (.inr (.inl rfl))).mono fun _ _ h => .inl h⟩, Below.set12 (g := g) HLZ.out (by rw [HG.out]; exact Nat.le_refl _)⟩)
     refine ret12 (w7) g ⟨⟨0, 0, 0, 0, 0, 0, 3, 0, 0, 0⟩, .slice (some ⟨b, off, none⟩) 1 pc, .slice none 0 0⟩ (HRZ.out) HPOST.out (fun wf hb => ?_) rfl
     obtain ⟨z0, z1, z2, z3, z4, z5, z6, z7, z8, z9, z10, z11⟩ := hb.cs
     simp [results, Tryd.results75, go_sem, coV, z0, z1, z2, z3, z4, z5, z6, z7, z8, z9, z10, z11]
 ·
  have hb0 : (l == 0) = false := beq_false_of_ne hl
  have HLN := hid hl
  have HRES := hid (show listsC d l = .mk ⟨l, l, l, l, 0, l, 3, l, 1, l⟩ [d] [] by unfold listsC; rw [if_neg (fun h => hl h.2), if_pos hl])
  clear hl
  go_enter Tryd.func75, Tryd.ntmps75
  go_upto_region 3 with fail
  rw [← HW.out, ← HG.out]
  clear HW k0 k1 k2 k3 k4 k5 k6 k7 k8 k9 k10 k11
  obtain ⟨g5, hg5⟩ : ∃ n, n = W.heap.size := ⟨_, rfl⟩
  obtain ⟨W5, hW5⟩ : ∃ x, x = W.alloc (.cells #[.int .i64 0, .int .i64 0, .int .i64 0, .int .i64 0, .int .i64 0, .int .i64 0, .int .i64 3, .int .i64 l, .slice (some ⟨b, off, none⟩) 1 pc, .int .i64 0, .int .i64 0, .slice none 0 0] 25) := ⟨_, rfl⟩
  have hb5 : Below W.heap.size W W5 := by rw [hW5]; exact bAl _ _
  have HC5 := hid (show CBox W5 g5 25 ⟨hdL l 0, .slice (some ⟨b, off, none⟩) 1 pc, .slice none 0 0⟩ by rw [hW5, hg5]; exact CBox.made W 25 ⟨⟨0, 0, 0, 0, 0, 0, 3, l, 0, 0⟩, .slice (some ⟨b, off, none⟩) 1 pc, .slice none 0 0⟩)
  have HR5 := hid (HR.out.keep hb5)
  have HTZ5 := hid (HTZ.out.keep hb5)
  have HI5 := hid (CoSN.below HI.out hb5)
  have HL5 := hid (HL.out.trans (hb5.mono HL.out.size))
  have HGL := hid (show g < g5 ∧ w.heap.size ≤ g5 ∧ 1 < g5 ∧ g5 < W5.heap.size from ⟨by rw [hg5]; exact HR.out.lt, by rw [hg5]; exact HL.out.size, by rw [hg5]; exact HTZ.out.lt, by rw [hW5, hg5, alloc_hs7]; omega⟩)
  have HI5N := hid (show Lc (fun x => N x ∨ x = g ∨ x = g5) W5 b from ⟨Nat.lt_of_lt_of_le HIB.out.1 hb5.size, fun h => h.elim (fun h => HIB.out.2 (.inl h)) fun h => h.elim (fun h => HIB.out.2 (.inr h)) fun h => by have := HIB.out.1; omega⟩)
  have HW5 := hid hW5
  have HG5 := hid hg5
  clear hb5 hW5 hg5
  have HI6 := hid (show CoS W5 (Lc (fun x => N x ∨ x = g ∨ x = g5) W5) (.slice (some ⟨b, off, none⟩) 1 pc) [d] from CoSN.later (w := W) (N := fun x => N x ∨ x = g) HI.out (by rw [HW5.out]; exact bAl _ _) fun x h => h.elim (fun h => .inl (.inl h)) fun h => h.elim (fun h => .inl (.inr h)) fun h => .inr (by rw [h, HG5.out]; exact Nat.le_refl _))
  go_wp2
  rw [← HW5.out, ← HG5.out]
  go_loopw [6, 19] (fun _ iv wr => ∃ i : Nat, i ≤ 6 ∧ iv = .int .i64 i ∧ Hid (CBox wr g5 25 ⟨hdL l i, .slice (some ⟨b, off, none⟩) 1 pc, .slice none 0 0⟩) ∧ Hid (But g5 W5 wr)) (fun _ iv _ => 6 - (intOf iv).toNat)
  case atStart => exact ⟨0, Nat.zero_le _, rfl, HC5, hid (But.refl _ _)⟩
  case round =>
   obtain ⟨i, hi1, rfl, HCB, HBU⟩ := hrel
   by_cases hlt : i < 6
   ·
    have hi0 : (0 : Int) ≤ (i : Int) := Int.natCast_nonneg _
    have hi2 : (i : Int) < 6 := by omega
    have hc := HCB.out.flat hlt
    have hf := HCB.out.fr i
    have HLT := hid hlt
    clear hlt hi1
    go_wp2
    exact ⟨⟨i + 1, by have := HLT.out; omega, by go_num, hid (hdL_store HLT.out HCB.out), hid (HBU.out.set _ _)⟩, by have := HLT.out; simp [intOf]; omega⟩
   ·
    have hi6 : i = 6 := by omega
    subst hi6
    have hdl : hdL l 6 = ⟨l, l, l, l, l, l, 3, l, 0, 0⟩ := rfl
    rw [hdl] at HCB
    clear hdl hlt hi1
    have HTZ6 := hid (HTZ5.out.but HBU.out (by have := HGL.out; omega))
    have HC16 := hid (show Lib.ctz 64 16 = 4 from by decide)
    have q4 : wr.cell? ⟨g5, 4, none⟩ = some (.int .i64 l) := HCB.out.c4
    have qf4 : wr.frozen? ⟨g5, 4, none⟩ = false := HCB.out.fr 4
    go_wp2_with fail
    refine (tz_p 16 (by omega) (by omega) wr HTZ6.out).mono ?_
    rintro e w6 ⟨rfl, rfl⟩
    rw [HC16.out]
    obtain ⟨w7, hw7⟩ : ∃ x, x = w6.setCell ⟨g5, 4, none⟩ (.int .i64 0) := ⟨_, rfl⟩
    have HC7 := hid (show CBox w7 g5 25 ⟨⟨l, l, l, l, 0, l, 3, l, 0, 0⟩, .slice (some ⟨b, off, none⟩) 1 pc, .slice none 0 0⟩ by rw [hw7]; exact HCB.out.s4)
    have HB7 := hid (show But g5 W5 w7 by rw [hw7]; exact HBU.out.set _ _)
    have HW7 := hid hw7
    clear hw7
    go_upto_region 10 with fail
    rw [← HW7.out]
    have q9 : w7.cell? ⟨g5, 9, none⟩ = some (.int .i64 0) := HC7.out.c9
    have q10 : w7.cell? ⟨g5, 10, none⟩ = some (.int .i64 0) := HC7.out.c10
    have qf9 : w7.frozen? ⟨g5, 9, none⟩ = false := HC7.out.fr 9
    have qf10 : w7.frozen? ⟨g5, 10, none⟩ = false := HC7.out.fr 10
    have bl : (l != 0) = true := bne_iff_ne.2 HLN.out
    go_upto_region 12 with fail
    obtain ⟨w8, hw8⟩ : ∃ x, x = (w7.setCell ⟨g5, 9, none⟩ (.int .i64 1)).setCell ⟨g5, 10, none⟩ (.int .i64 l) := ⟨_, rfl⟩
    rw [← hw8]
    have HC8 := hid (show CBox w8 g5 25 ⟨⟨l, l, l, l, 0, l, 3, l, 1, l⟩, .slice (some ⟨b, off, none⟩) 1 pc, .slice none 0 0⟩ by rw [hw8]; exact HC7.out.s9.s10)
    have HB8 := hid (show But g5 W5 w8 by rw [hw8]; exact (HB7.out.set _ _).set _ _)
    clear q9 q10 qf9 qf10 bl hw8
    have HRZ := hid (HR5.out.but HB8.out (by have := HGL.out; omega))
    obtain ⟨r0, r1, r2, r3, r4, r5, r6, r7, r8, r9, r10, r11⟩ := HRZ.out.cs
    (try dsimp only at r0 r1 r2 r3 r4 r5 r6 r7 r8 r9 r10 r11)
    obtain ⟨fr0, fr1, fr2, fr3, fr4, fr5, fr6, fr7, fr8, fr9, fr10, fr11⟩ := HRZ.out.frs
    obtain ⟨t0, t1, t2, t3, t4, t5, t6, t7, t8, t9, t10, t11⟩ := HC8.out.cs
    (try dsimp only at t0 t1 t2 t3 t4 t5 t6 t7 t8 t9 t10 t11)
    clear q4 qf4
    go_wp2
    have HS7 := hid (CoSN.but (N := fun x => N x ∨ x = g ∨ x = g5) (show CoS W5 (Lc (fun x => N x ∨ x = g ∨ x = g5) W5) _ [d] from HI6.out) HB8.out (.inr (.inr rfl)))
    have HLZ := hid (HL5.out.trans (HB8.out.below (B := w.heap.size) HGL.out.2.1 HL5.out.size))
    have HPOST := hid (show CoPost N (listsC d l) w (.returned (coV ⟨⟨l, l, l, l, 0, l, 3, l, 1, l⟩, .slice (some ⟨b, off, none⟩) 1 pc, .slice none 0 0⟩)) (set12 (w8) g ⟨⟨l, l, l, l, 0, l, 3, l, 1, l⟩, .slice (some ⟨b, off, none⟩) 1 pc, .slice none 0 0⟩) from by rw [HRES.out]; exact ⟨⟨_, rfl, (CoVN.set12 (g := g) (CoVN.mk (h := ⟨l, l, l, l, 0, l, 3, l, 1, l⟩) HS7.out (.mkNil _ _)) (.inr (.inl rfl))).mono fun _ _ h => .inl h⟩, Below.set12 (g := g) HLZ.out (by rw [HG.out]; exact Nat.le_refl _)⟩)
    refine ret12 (w8) g ⟨⟨l, l, l, l, 0, l, 3, l, 1, l⟩, .slice (some ⟨b, off, none⟩) 1 pc, .slice none 0 0⟩ (HRZ.out) HPOST.out (fun wf hb => ?_) rfl
    obtain ⟨z0, z1, z2, z3, z4, z5, z6, z7, z8, z9, z10, z11⟩ := hb.cs
    simp [results, Tryd.results75, go_sem, coV, z0, z1, z2, z3, z4, z5, z6, z7, z8, z9, z10, z11]
end Go.Proofs.YtlalnkabfigodaaDoor
