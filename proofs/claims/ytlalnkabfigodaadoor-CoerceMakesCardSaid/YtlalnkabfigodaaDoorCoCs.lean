import Derived.Test.YtlalnkabfigodaaDoorCoCr
namespace Go.Proofs.YtlalnkabfigodaaDoor
open Go.Lib (hid)
open Go.RowKit


set_option maxRecDepth 100000 in
set_option maxHeartbeats 8000000 in
theorem cdrof_p (N : Nat → Prop) (c : Co) (v : Value) (w : World) (hN : ∀ b, N b → b < w.heap.size) (hs : Shape c) (hT : TzW w) (hv : CoVN N w v c) : Calls Tryd.prog 53 #[v] w (CoPost N (cdrC c) w) := by
 have hwr : ∀ w1, Below w.heap.size w w1 → Calls Tryd.prog 74 #[v] w1 fun e w' => e = .returned (.bool (decide (2 ≤ c.h.pair))) ∧ Below w1.heap.size w1 w' := fun w1 hb => by rw [← wpr_shape hs]; exact wraps_raw c v w1 (hv.below hb).cv
 have h1 := fun h => (plen1 hs h).1
 have h2 := fun h => (plen1 hs (show 2 ≤ c.h.pair by omega)).2 (show c.h.pair = 2 from h)
 obtain ⟨pa, pc, fa, fc, rfl, hp, hf⟩ := hv.form
 obtain ⟨np, hnp⟩ : ∃ n, n = c.pairs.length := ⟨_, rfl⟩
 obtain ⟨nf, hnf⟩ : ∃ n, n = c.funs.length := ⟨_, rfl⟩
 rw [← hnp] at hp hv hwr ⊢
 rw [← hnf] at hf hv hwr ⊢
 have bp : (np : Int) ≤ 9223372036854775807 := by have := hp.len; rw [← hnp] at this; unfold maxLen at this; omega
 have bf : (nf : Int) ≤ 9223372036854775807 := by have := hf.len; rw [← hnf] at this; unfold maxLen at this; omega
 obtain ⟨W, hW⟩ : ∃ W, W = (w.alloc (.cells #[.int .i64 c.h.f0, .int .i64 c.h.f1, .int .i64 c.h.f2, .int .i64 c.h.f3, .int .i64 c.h.f4, .int .i64 c.h.f5, .int .i64 c.h.pair, .int .i64 c.h.pl, .slice pa np pc, .int .i64 c.h.fn, .int .i64 c.h.fl, .slice fa nf fc] 25)).alloc (.cells #[.int .i64 0, .int .i64 0, .int .i64 0, .int .i64 0, .int .i64 0, .int .i64 0, .int .i64 0, .int .i64 0, .slice none 0 0, .int .i64 0, .int .i64 0, .slice none 0 0] 25) := ⟨_, rfl⟩
 obtain ⟨g, hg⟩ : ∃ g, g = w.heap.size + 1 := ⟨_, rfl⟩
 have HX := hid (show CBox W w.heap.size 25 ⟨c.h, .slice pa np pc, .slice fa nf fc⟩ by rw [hW]; exact (CBox.made _ _ ⟨c.h, .slice pa np pc, .slice fa nf fc⟩).keep (bAl _ _))
 have HR := hid (show CBox W g 25 ⟨⟨0, 0, 0, 0, 0, 0, 0, 0, 0, 0⟩, .slice none 0 0, .slice none 0 0⟩ by rw [hW, hg]; have := CBox.made (w.alloc (.cells #[.int .i64 c.h.f0, .int .i64 c.h.f1, .int .i64 c.h.f2, .int .i64 c.h.f3, .int .i64 c.h.f4, .int .i64 c.h.f5, .int .i64 c.h.pair, .int .i64 c.h.pl, .slice pa np pc, .int .i64 c.h.fn, .int .i64 c.h.fl, .slice fa nf fc] 25)) 25 ⟨⟨0, 0, 0, 0, 0, 0, 0, 0, 0, 0⟩, .slice none 0 0, .slice none 0 0⟩; simpa using this)
 have HL := hid (show Below w.heap.size w W by rw [hW]; exact (bAl _ _).alloc (by simp) _)
 have HSZ := hid (show W.heap.size = g + 1 ∧ g = w.heap.size + 1 by rw [hW, hg]; exact ⟨by simp, rfl⟩)
 have HP := hid (CoSN.below hp HL.out)
 have HP2 := hid (CoSN.later (M := fun x => N x ∨ x = g) hp HL.out (fun x h => h.elim .inl fun h => .inr (by rw [h, hg]; omega)))
 have HF := hid (CoSN.below hf HL.out)
 have HV := hid (hv.later (M := fun x => N x ∨ x = g) HL.out (fun x h => h.elim .inl fun h => .inr (by rw [h, hg]; omega)))
 have HPN := hid hnp
 have HFN := hid hnf
 have HW := hid hW
 have HG := hid hg
 clear hp hf hnp hnf hW hv hg
 have HN := hid hN
 have H1 := hid h1
 have H2 := hid h2
 rw [← HPN.out] at H1 H2
 have HWR := hid (hwr W HL.out)
 have HSH := hid hs
 have HTZ := hid (hT.keep HL.out)
 clear hN h1 h2 hwr hs hT
 obtain ⟨x0, x1, x2, x3, x4, x5, x6, x7, x8, x9, x10, x11⟩ := HX.out.cs
 (try dsimp only at x0 x1 x2 x3 x4 x5 x6 x7 x8 x9 x10 x11)
 go_enter Tryd.func53, Tryd.ntmps53
 go_wp2_with fail
 rw [← HW.out]
 refine HWR.out.mono ?_
 rintro e w2 ⟨rfl, hb2⟩
 rw [← HG.out]
 have HB2 := hid hb2
 replace HX := hid (HX.out.keep hb2)
 replace HR := hid (HR.out.keep hb2)
 replace HP2 := hid (CoSN.below HP2.out hb2)
 replace HTZ := hid (HTZ.out.keep hb2)
 replace HL := hid (HL.out.trans (hb2.mono HL.out.size))
 clear hb2 HWR HW x0 x1 x2 x3 x4 x5 x6 x7 x8 x9 x10 x11
 obtain ⟨x0, x1, x2, x3, x4, x5, x6, x7, x8, x9, x10, x11⟩ := HX.out.cs
 (try dsimp only at x0 x1 x2 x3 x4 x5 x6 x7 x8 x9 x10 x11)
 obtain ⟨r0, r1, r2, r3, r4, r5, r6, r7, r8, r9, r10, r11⟩ := HR.out.cs
 (try dsimp only at r0 r1 r2 r3 r4 r5 r6 r7 r8 r9 r10 r11)
 obtain ⟨fr0, fr1, fr2, fr3, fr4, fr5, fr6, fr7, fr8, fr9, fr10, fr11⟩ := HR.out.frs
 by_cases hp2 : c.h.pair < 2
 ·
  have bp2 : decide (2 ≤ c.h.pair) = false := decide_eq_false (by omega)
  rw [bp2]
  have HRES := hid (show cdrC c = co0 by unfold cdrC; rw [if_pos hp2])
  clear hp2 bp2
  go_wp2
  have HPOST := hid (show CoPost N (cdrC c) w (.returned (coV ⟨⟨0, 0, 0, 0, 0, 0, 0, 0, 0, 0⟩, .slice none 0 0, .slice none 0 0⟩)) (set12 (w2) g ⟨⟨0, 0, 0, 0, 0, 0, 0, 0, 0, 0⟩, .slice none 0 0, .slice none 0 0⟩) from by rw [HRES.out]; exact ⟨⟨_, rfl, co0_v _ _⟩, Below.set12 (g := g) HL.out (by rw [HG.out]; omega)⟩)
  refine ret12 (w2) g ⟨⟨0, 0, 0, 0, 0, 0, 0, 0, 0, 0⟩, .slice none 0 0, .slice none 0 0⟩ (HR.out) HPOST.out (fun wf hb => ?_) rfl
  obtain ⟨z0, z1, z2, z3, z4, z5, z6, z7, z8, z9, z10, z11⟩ := hb.cs
  simp [results, Tryd.results53, go_sem, coV, z0, z1, z2, z3, z4, z5, z6, z7, z8, z9, z10, z11]
 have bp2 : decide (2 ≤ c.h.pair) = true := decide_eq_true (by omega)
 rw [bp2]
 by_cases hp3 : c.h.pair = 3
 case neg =>
  have bp3 : (c.h.pair == 3) = false := beq_false_of_ne hp3
  have he2 : c.h.pair = 2 := by have := HSH.out.own.1; omega
  have hn1 : 2 ≤ np := H2.out he2
  have hj : 1 < c.pairs.length := by rw [← HPN.out]; omega
  obtain ⟨d, hd⟩ : ∃ d, c.pairs.getD 1 co0 = d := ⟨_, rfl⟩
  obtain ⟨b, off, p1, c1, p2, c2, rfl, hb, ⟨e0, e1, e2, e3, e4, e5, e6, e7, e8, e9, e10, e11⟩, hu⟩ := CoSN.elem HP2.out hj hd
  simp only [Nat.one_mul] at e0 e1 e2 e3 e4 e5 e6 e7 e8 e9 e10 e11
  have HU := hid hu
  have HD := hid hd
  clear hu hd hj
  have hn1i : (1 : Int) < (np : Int) := by omega
  have HRES := hid (show cdrC c = d by unfold cdrC; rw [if_neg hp2, if_pos he2, HD.out])
  clear hp2 hn1 bp2 hp3 he2
  go_wp2
  have HPOST := hid (show CoPost N (cdrC c) w (.returned (coV ⟨d.h, .slice p1 d.pairs.length c1, .slice p2 d.funs.length c2⟩)) (set12 (w2) g ⟨d.h, .slice p1 d.pairs.length c1, .slice p2 d.funs.length c2⟩) from by rw [HRES.out]; exact ⟨⟨_, rfl, (CoVN.set12 (g := g) HU.out (.inr rfl)).mono fun _ _ h => .inl h⟩, Below.set12 (g := g) HL.out (by rw [HG.out]; omega)⟩)
  refine ret12 (w2) g ⟨d.h, .slice p1 d.pairs.length c1, .slice p2 d.funs.length c2⟩ (HR.out) HPOST.out (fun wf hb => ?_) rfl
  obtain ⟨z0, z1, z2, z3, z4, z5, z6, z7, z8, z9, z10, z11⟩ := hb.cs
  simp [results, Tryd.results53, go_sem, coV, z0, z1, z2, z3, z4, z5, z6, z7, z8, z9, z10, z11]
 have bp3 : (c.h.pair == 3) = true := by rw [hp3]; rfl
 have hn1 : np = 1 := by have h := HSH.out.own.2.2.1; rw [hp3] at h; have h1 : (c.pairs.length : Int) = 1 := h; have := HPN.out; omega
 obtain ⟨d, hd⟩ : ∃ d, c.pairs.getD 0 co0 = d := ⟨_, rfl⟩
 have hcl : c.pairs = [d] := by rw [← hd]; exact list1 (by rw [← HPN.out]; exact hn1)
 have HRES := hid (show cdrC c = listsC d c.h.pl by unfold cdrC; rw [if_neg hp2, if_neg (by omega), hd])
 rw [hcl, hn1] at HP2
 have C := listof_p (fun x => N x ∨ x = g) d c.h.pl pa pc w2 (fun b h => h.elim (fun h => Nat.lt_of_lt_of_le (HN.out b h) HL.out.size) fun h => by rw [h]; exact HR.out.lt) HTZ.out HP2.out
 subst hn1
 have HC := hid C
 clear C hp2 hp3 bp2 hd hcl
 go_wp2_with fail
 refine HC.out.mono ?_
 rintro e w3 ⟨⟨u, rfl, hu⟩, hb⟩
 obtain ⟨q1, s1, q2, s2, rfl, _, _⟩ := hu.form
 have HU2 := hid hu
 replace HR := hid (HR.out.keep hb)
 replace HL := hid (HL.out.trans (hb.mono HL.out.size))
 clear hb hu r0 r1 r2 r3 r4 r5 r6 r7 r8 r9 r10 r11 fr0 fr1 fr2 fr3 fr4 fr5 fr6 fr7 fr8 fr9 fr10 fr11 x0 x1 x2 x3 x4 x5 x6 x7 x8 x9 x10 x11
 obtain ⟨D, hD⟩ : ∃ D, D = listsC d c.h.pl := ⟨_, rfl⟩
 rw [← hD] at HU2 HRES ⊢
 clear hD
 obtain ⟨r0, r1, r2, r3, r4, r5, r6, r7, r8, r9, r10, r11⟩ := HR.out.cs
 (try dsimp only at r0 r1 r2 r3 r4 r5 r6 r7 r8 r9 r10 r11)
 obtain ⟨fr0, fr1, fr2, fr3, fr4, fr5, fr6, fr7, fr8, fr9, fr10, fr11⟩ := HR.out.frs
 go_wp2
 have HPOST := hid (show CoPost N (cdrC c) w (.returned (coV ⟨D.h, .slice q1 D.pairs.length s1, .slice q2 D.funs.length s2⟩)) (set12 (w3) g ⟨D.h, .slice q1 D.pairs.length s1, .slice q2 D.funs.length s2⟩) from by rw [HRES.out]; exact ⟨⟨_, rfl, (CoVN.set12 (g := g) HU2.out (.inr rfl)).mono fun _ _ h => .inl h⟩, Below.set12 (g := g) HL.out (by rw [HG.out]; omega)⟩)
 refine ret12 (w3) g ⟨D.h, .slice q1 D.pairs.length s1, .slice q2 D.funs.length s2⟩ (HR.out) HPOST.out (fun wf hb => ?_) rfl
 obtain ⟨z0, z1, z2, z3, z4, z5, z6, z7, z8, z9, z10, z11⟩ := hb.cs
 simp [results, Tryd.results53, go_sem, coV, z0, z1, z2, z3, z4, z5, z6, z7, z8, z9, z10, z11]

set_option maxRecDepth 100000 in
set_option maxHeartbeats 8000000 in
theorem car_p (c : Co) (v : Value) (w : World) (hs : Shape c) (h1 : szC (carC c) ≤ 16000000) (h2 : htC (carC c) ≤ 130000) (h3 : Thin (carC c)) (hv : CoV w v c) : Calls Tryd.prog 21 #[v] w (FPost (carC c) w) := by
 have hC1 := fun w1 (hb : Below w.heap.size w w1) => carof_p NC c v w1 (fun _ h => h.elim) hs (hv.below hb)
 have hC2 := fun w1 u (hu : CoV w1 u (carC c)) => own_p (carC c) u w1 h1 h2 h3 hu
 obtain ⟨D, hD⟩ : ∃ D, D = carC c := ⟨_, rfl⟩
 rw [← hD] at hC1 hC2 ⊢
 obtain ⟨pa, pc, fa, fc, rfl, hp, hf⟩ := hv.form
 obtain ⟨np, hnp⟩ : ∃ n, n = c.pairs.length := ⟨_, rfl⟩
 obtain ⟨nf, hnf⟩ : ∃ n, n = c.funs.length := ⟨_, rfl⟩
 rw [← hnp] at hp hC1 ⊢
 rw [← hnf] at hf hC1 ⊢
 have bp : (np : Int) ≤ 9223372036854775807 := by have := hp.len; rw [← hnp] at this; unfold maxLen at this; omega
 have bf : (nf : Int) ≤ 9223372036854775807 := by have := hf.len; rw [← hnf] at this; unfold maxLen at this; omega
 obtain ⟨W, hW⟩ : ∃ W, W = (w.alloc (.cells #[.int .i64 c.h.f0, .int .i64 c.h.f1, .int .i64 c.h.f2, .int .i64 c.h.f3, .int .i64 c.h.f4, .int .i64 c.h.f5, .int .i64 c.h.pair, .int .i64 c.h.pl, .slice pa np pc, .int .i64 c.h.fn, .int .i64 c.h.fl, .slice fa nf fc] 25)).alloc (.cells #[.int .i64 0, .int .i64 0, .int .i64 0, .int .i64 0, .int .i64 0, .int .i64 0, .int .i64 0, .int .i64 0, .slice none 0 0, .int .i64 0, .int .i64 0, .slice none 0 0] 25) := ⟨_, rfl⟩
 have HX := hid (show CBox W w.heap.size 25 ⟨c.h, .slice pa np pc, .slice fa nf fc⟩ by rw [hW]; exact (CBox.made w _ ⟨c.h, .slice pa np pc, .slice fa nf fc⟩).keep (bAl _ _))
 have HL := hid (show Below w.heap.size w W by rw [hW]; exact (bAl _ _).alloc (by simp) _)
 have HP := hid (CoSN.below hp HL.out)
 have HF := hid (CoSN.below hf HL.out)
 have HPN := hid hnp
 have HFN := hid hnf
 have HW := hid hW
 clear hp hf hnp hnf hW hv
 have HR := hid (show CBox W (w.heap.size + 1) 25 ⟨⟨0, 0, 0, 0, 0, 0, 0, 0, 0, 0⟩, .slice none 0 0, .slice none 0 0⟩ by rw [HW.out]; have := CBox.made (w.alloc (.cells #[.int .i64 c.h.f0, .int .i64 c.h.f1, .int .i64 c.h.f2, .int .i64 c.h.f3, .int .i64 c.h.f4, .int .i64 c.h.f5, .int .i64 c.h.pair, .int .i64 c.h.pl, .slice pa np pc, .int .i64 c.h.fn, .int .i64 c.h.fl, .slice fa nf fc] 25)) 25 ⟨⟨0, 0, 0, 0, 0, 0, 0, 0, 0, 0⟩, .slice none 0 0, .slice none 0 0⟩; simp only [alloc_hs7] at this; exact this)
 have HC1 := hid (hC1 W HL.out)
 have HC2 := hid hC2
 clear hC1 hC2 hD hs h1 h2 h3
 obtain ⟨x0, x1, x2, x3, x4, x5, x6, x7, x8, x9, x10, x11⟩ := HX.out.cs
 (try dsimp only at x0 x1 x2 x3 x4 x5 x6 x7 x8 x9 x10 x11)
 go_enter Tryd.func21, Tryd.ntmps21
 go_wp2_with fail
 rw [← HW.out]
 refine HC1.out.mono ?_
 rintro e w2 ⟨⟨u, rfl, hu⟩, hb2⟩
 obtain ⟨ua, ub, uc, ud, rfl, _, _⟩ := hu.form
 have HU := hid hu
 have HL2 := hid (HL.out.trans (hb2.mono HL.out.size))
 have HR2 := hid (HR.out.keep hb2)
 clear hu hb2 HW x0 x1 x2 x3 x4 x5 x6 x7 x8 x9 x10 x11
 go_wp2_with fail
 refine (HC2.out w2 _ HU.out).mono ?_
 rintro e w3 ⟨⟨t, rfl, ht⟩, hb3⟩
 obtain ⟨ta, tb, tc, td, rfl, _, _⟩ := ht.form
 have HT3 := hid ht
 have HL3 := hid (HL2.out.trans (hb3.mono HL2.out.size))
 have HR3 := hid (HR2.out.keep hb3)
 have HLT := hid HR2.out.lt
 clear ht hb3
 obtain ⟨r0, r1, r2, r3, r4, r5, r6, r7, r8, r9, r10, r11⟩ := HR3.out.cs
 (try dsimp only at r0 r1 r2 r3 r4 r5 r6 r7 r8 r9 r10 r11)
 obtain ⟨fr0, fr1, fr2, fr3, fr4, fr5, fr6, fr7, fr8, fr9, fr10, fr11⟩ := HR3.out.frs
 go_wp2
 have HPOST := hid (show FPost D w (.returned (coV ⟨D.h, .slice ta D.pairs.length tb, .slice tc D.funs.length td⟩)) (set12 (w3) (w.heap.size + 1) ⟨D.h, .slice ta D.pairs.length tb, .slice tc D.funs.length td⟩) from FPost.cell (w1 := w2) HT3.out (by omega) HLT.out HL3.out)
 refine ret12 (w3) (w.heap.size + 1) ⟨D.h, .slice ta D.pairs.length tb, .slice tc D.funs.length td⟩ (HR3.out) HPOST.out (fun wf hb => ?_) rfl
 obtain ⟨z0, z1, z2, z3, z4, z5, z6, z7, z8, z9, z10, z11⟩ := hb.cs
 simp [results, Tryd.results21, go_sem, coV, z0, z1, z2, z3, z4, z5, z6, z7, z8, z9, z10, z11]

set_option maxRecDepth 100000 in
set_option maxHeartbeats 8000000 in
theorem cdr_p (c : Co) (v : Value) (w : World) (hs : Shape c) (h1 : szC (cdrC c) ≤ 16000000) (h2 : htC (cdrC c) ≤ 130000) (h3 : Thin (cdrC c)) (hT : TzW w) (hv : CoV w v c) : Calls Tryd.prog 23 #[v] w (FPost (cdrC c) w) := by
 have hC1 := fun w1 (hb : Below w.heap.size w w1) => cdrof_p NC c v w1 (fun _ h => h.elim) hs (hT.keep hb) (hv.below hb)
 have hC2 := fun w1 u (hu : CoV w1 u (cdrC c)) => own_p (cdrC c) u w1 h1 h2 h3 hu
 obtain ⟨D, hD⟩ : ∃ D, D = cdrC c := ⟨_, rfl⟩
 rw [← hD] at hC1 hC2 ⊢
 obtain ⟨pa, pc, fa, fc, rfl, hp, hf⟩ := hv.form
 obtain ⟨np, hnp⟩ : ∃ n, n = c.pairs.length := ⟨_, rfl⟩
 obtain ⟨nf, hnf⟩ : ∃ n, n = c.funs.length := ⟨_, rfl⟩
 rw [← hnp] at hp hC1 ⊢
 rw [← hnf] at hf hC1 ⊢
 have bp : (np : Int) ≤ 9223372036854775807 := by have := hp.len; rw [← hnp] at this; unfold maxLen at this; omega
 have bf : (nf : Int) ≤ 9223372036854775807 := by have := hf.len; rw [← hnf] at this; unfold maxLen at this; omega
 obtain ⟨W, hW⟩ : ∃ W, W = (w.alloc (.cells #[.int .i64 c.h.f0, .int .i64 c.h.f1, .int .i64 c.h.f2, .int .i64 c.h.f3, .int .i64 c.h.f4, .int .i64 c.h.f5, .int .i64 c.h.pair, .int .i64 c.h.pl, .slice pa np pc, .int .i64 c.h.fn, .int .i64 c.h.fl, .slice fa nf fc] 25)).alloc (.cells #[.int .i64 0, .int .i64 0, .int .i64 0, .int .i64 0, .int .i64 0, .int .i64 0, .int .i64 0, .int .i64 0, .slice none 0 0, .int .i64 0, .int .i64 0, .slice none 0 0] 25) := ⟨_, rfl⟩
 have HX := hid (show CBox W w.heap.size 25 ⟨c.h, .slice pa np pc, .slice fa nf fc⟩ by rw [hW]; exact (CBox.made w _ ⟨c.h, .slice pa np pc, .slice fa nf fc⟩).keep (bAl _ _))
 have HL := hid (show Below w.heap.size w W by rw [hW]; exact (bAl _ _).alloc (by simp) _)
 have HP := hid (CoSN.below hp HL.out)
 have HF := hid (CoSN.below hf HL.out)
 have HPN := hid hnp
 have HFN := hid hnf
 have HW := hid hW
 clear hp hf hnp hnf hW hv
 have HR := hid (show CBox W (w.heap.size + 1) 25 ⟨⟨0, 0, 0, 0, 0, 0, 0, 0, 0, 0⟩, .slice none 0 0, .slice none 0 0⟩ by rw [HW.out]; have := CBox.made (w.alloc (.cells #[.int .i64 c.h.f0, .int .i64 c.h.f1, .int .i64 c.h.f2, .int .i64 c.h.f3, .int .i64 c.h.f4, .int .i64 c.h.f5, .int .i64 c.h.pair, .int .i64 c.h.pl, .slice pa np pc, .int .i64 c.h.fn, .int .i64 c.h.fl, .slice fa nf fc] 25)) 25 ⟨⟨0, 0, 0, 0, 0, 0, 0, 0, 0, 0⟩, .slice none 0 0, .slice none 0 0⟩; simp only [alloc_hs7] at this; exact this)
 have HC1 := hid (hC1 W HL.out)
 have HC2 := hid hC2
 clear hC1 hC2 hD hs h1 h2 h3 hT
 obtain ⟨x0, x1, x2, x3, x4, x5, x6, x7, x8, x9, x10, x11⟩ := HX.out.cs
 (try dsimp only at x0 x1 x2 x3 x4 x5 x6 x7 x8 x9 x10 x11)
 go_enter Tryd.func23, Tryd.ntmps23
 go_wp2_with fail
 rw [← HW.out]
 refine HC1.out.mono ?_
 rintro e w2 ⟨⟨u, rfl, hu⟩, hb2⟩
 obtain ⟨ua, ub, uc, ud, rfl, _, _⟩ := hu.form
 have HU := hid hu
 have HL2 := hid (HL.out.trans (hb2.mono HL.out.size))
 have HR2 := hid (HR.out.keep hb2)
 clear hu hb2 HW x0 x1 x2 x3 x4 x5 x6 x7 x8 x9 x10 x11
 go_wp2_with fail
 refine (HC2.out w2 _ HU.out).mono ?_
 rintro e w3 ⟨⟨t, rfl, ht⟩, hb3⟩
 obtain ⟨ta, tb, tc, td, rfl, _, _⟩ := ht.form
 have HT3 := hid ht
 have HL3 := hid (HL2.out.trans (hb3.mono HL2.out.size))
 have HR3 := hid (HR2.out.keep hb3)
 have HLT := hid HR2.out.lt
 clear ht hb3
 obtain ⟨r0, r1, r2, r3, r4, r5, r6, r7, r8, r9, r10, r11⟩ := HR3.out.cs
 (try dsimp only at r0 r1 r2 r3 r4 r5 r6 r7 r8 r9 r10 r11)
 obtain ⟨fr0, fr1, fr2, fr3, fr4, fr5, fr6, fr7, fr8, fr9, fr10, fr11⟩ := HR3.out.frs
 go_wp2
 have HPOST := hid (show FPost D w (.returned (coV ⟨D.h, .slice ta D.pairs.length tb, .slice tc D.funs.length td⟩)) (set12 (w3) (w.heap.size + 1) ⟨D.h, .slice ta D.pairs.length tb, .slice tc D.funs.length td⟩) from FPost.cell (w1 := w2) HT3.out (by omega) HLT.out HL3.out)
 refine ret12 (w3) (w.heap.size + 1) ⟨D.h, .slice ta D.pairs.length tb, .slice tc D.funs.length td⟩ (HR3.out) HPOST.out (fun wf hb => ?_) rfl
 obtain ⟨z0, z1, z2, z3, z4, z5, z6, z7, z8, z9, z10, z11⟩ := hb.cs
 simp [results, Tryd.results23, go_sem, coV, z0, z1, z2, z3, z4, z5, z6, z7, z8, z9, z10, z11]
end Go.Proofs.YtlalnkabfigodaaDoor
