import Derived.Test.YtlalnkabfigodaaDoorCoLi
namespace Go.Proofs.YtlalnkabfigodaaDoor
open Go.Lib (hid)
open Go.RowKit


set_option maxRecDepth 100000 in
set_option maxHeartbeats 8000000 in
theorem rcar_go (N : Nat → Prop) (c : Co) (v : Value) (w : World) (hN : ∀ b, N b → b < w.heap.size) (h1 : 2 ≤ c.h.pair → 1 ≤ c.pairs.length) (h2 : c.h.pair = 2 → 2 ≤ c.pairs.length) (hv : CoVN N w v c) : Calls Tryd.prog 22 #[v] w (CoPost N (carC c) w) := by
 obtain ⟨pa, pc, fa, fc, rfl, hp, hf⟩ := hv.form
 obtain ⟨np, hnp⟩ : ∃ n, n = c.pairs.length := ⟨_, rfl⟩
 obtain ⟨nf, hnf⟩ : ∃ n, n = c.funs.length := ⟨_, rfl⟩
 rw [← hnp] at hp hv ⊢
 rw [← hnf] at hf hv ⊢
 have bp : (np : Int) ≤ 9223372036854775807 := by have := hp.len; rw [← hnp] at this; unfold maxLen at this; omega
 have bf : (nf : Int) ≤ 9223372036854775807 := by have := hf.len; rw [← hnf] at this; unfold maxLen at this; omega
 obtain ⟨W, hW⟩ : ∃ W, W = (w.alloc (.cells #[.int .i64 c.h.f0, .int .i64 c.h.f1, .int .i64 c.h.f2, .int .i64 c.h.f3, .int .i64 c.h.f4, .int .i64 c.h.f5, .int .i64 c.h.pair, .int .i64 c.h.pl, .slice pa np pc, .int .i64 c.h.fn, .int .i64 c.h.fl, .slice fa nf fc] 30)).alloc (.cells #[.int .i64 0, .int .i64 0, .int .i64 0, .int .i64 0, .int .i64 0, .int .i64 0, .int .i64 0, .int .i64 0, .slice none 0 0, .int .i64 0, .int .i64 0, .slice none 0 0] 30) := ⟨_, rfl⟩
 obtain ⟨g, hg⟩ : ∃ g, g = w.heap.size + 1 := ⟨_, rfl⟩
 have HX := hid (show CBox W w.heap.size 30 ⟨c.h, .slice pa np pc, .slice fa nf fc⟩ by rw [hW]; exact (CBox.made _ _ ⟨c.h, .slice pa np pc, .slice fa nf fc⟩).keep ((Below.refl _ _).alloc (Nat.le_refl _) _))
 have HR := hid (show CBox W g 30 ⟨⟨0, 0, 0, 0, 0, 0, 0, 0, 0, 0⟩, .slice none 0 0, .slice none 0 0⟩ by rw [hW, hg]; have := CBox.made (w.alloc (.cells #[.int .i64 c.h.f0, .int .i64 c.h.f1, .int .i64 c.h.f2, .int .i64 c.h.f3, .int .i64 c.h.f4, .int .i64 c.h.f5, .int .i64 c.h.pair, .int .i64 c.h.pl, .slice pa np pc, .int .i64 c.h.fn, .int .i64 c.h.fl, .slice fa nf fc] 30)) 30 ⟨⟨0, 0, 0, 0, 0, 0, 0, 0, 0, 0⟩, .slice none 0 0, .slice none 0 0⟩; simpa using this)
 have HL := hid (show Below w.heap.size w W by rw [hW]; exact ((Below.refl _ _).alloc (Nat.le_refl _) _).alloc (by simp) _)
 have HSZ := hid (show W.heap.size = g + 1 ∧ g = w.heap.size + 1 by rw [hW, hg]; exact ⟨by simp, rfl⟩)
 have HP := hid (CoSN.below hp HL.out)
 have HP2 := hid (CoSN.later (M := fun x => N x ∨ x = g) hp HL.out (fun x h => h.elim .inl fun h => .inr (by rw [h, hg]; omega)))
 have HF := hid (CoSN.below hf HL.out)
 have HV := hid (hv.later (M := fun x => N x ∨ x = g) HL.out (fun x h => h.elim .inl fun h => .inr (by rw [h, hg]; omega)))
 have HPN := hid hnp
 have HFN := hid hnf
 have HW := hid hW
 have HG := hid hg
 clear hp hf hnp hnf hW hv hg
 have HN := hid hN
 have H1 := hid h1
 have H2 := hid h2
 rw [← HPN.out] at H1 H2
 clear hN h1 h2
 have x6 : W.cell? ⟨w.heap.size, 6, none⟩ = some (.int .i64 c.h.pair) := HX.out.c6
 have x7 : W.cell? ⟨w.heap.size, 7, none⟩ = some (.int .i64 c.h.pl) := HX.out.c7
 have x8 : W.cell? ⟨w.heap.size, 8, none⟩ = some (.slice pa np pc) := HX.out.c8
 obtain ⟨r0, r1, r2, r3, r4, r5, r6, r7, r8, r9, r10, r11⟩ := HR.out.cs
 (try dsimp only at r0 r1 r2 r3 r4 r5 r6 r7 r8 r9 r10 r11)
 obtain ⟨fr0, fr1, fr2, fr3, fr4, fr5, fr6, fr7, fr8, fr9, fr10, fr11⟩ := HR.out.frs
 go_enter Tryd.func22, Tryd.ntmps22
 go_upto_region 1 with fail
 rw [← HW.out]
 clear HW
 by_cases hp2 : c.h.pair < 2
 ·
  have bp2 : decide (c.h.pair < 2) = true := decide_eq_true hp2
  have HRES := hid (show carC c = co0 by unfold carC; rw [if_pos hp2])
  clear hp2
  rw [HG.out] at r0 r1 r2 r3 r4 r5 r6 r7 r8 r9 r10 r11 fr0 fr1 fr2 fr3 fr4 fr5 fr6 fr7 fr8 fr9 fr10 fr11
  go_wp2
  rw [← HG.out]
  have HPOST := hid (show CoPost N (carC c) w (.returned (coV ⟨⟨0, 0, 0, 0, 0, 0, 0, 0, 0, 0⟩, .slice none 0 0, .slice none 0 0⟩)) (set12 (W) g ⟨⟨0, 0, 0, 0, 0, 0, 0, 0, 0, 0⟩, .slice none 0 0, .slice none 0 0⟩) from by rw [HRES.out]; exact ⟨⟨_, rfl, co0_v _ _⟩, Below.set12 (g := g) HL.out (by rw [HG.out]; omega)⟩)
  refine ret12 (W) g ⟨⟨0, 0, 0, 0, 0, 0, 0, 0, 0, 0⟩, .slice none 0 0, .slice none 0 0⟩ (HR.out) HPOST.out (fun wf hb => ?_) rfl
  obtain ⟨z0, z1, z2, z3, z4, z5, z6, z7, z8, z9, z10, z11⟩ := hb.cs
  simp [results, Tryd.results22, go_sem, coV, z0, z1, z2, z3, z4, z5, z6, z7, z8, z9, z10, z11]
 have bp2 : decide (c.h.pair < 2) = false := decide_eq_false hp2
 have hn1 : 1 ≤ np := H1.out (by omega)
 have hj : 0 < c.pairs.length := by rw [← HPN.out]; omega
 obtain ⟨d, hd⟩ : ∃ d, c.pairs.getD 0 co0 = d := ⟨_, rfl⟩
 obtain ⟨b, off, p1, c1, p2, c2, rfl, hb, ⟨e0, e1, e2, e3, e4, e5, e6, e7, e8, e9, e10, e11⟩, hu⟩ := CoSN.elem HP2.out hj hd
 simp only [Nat.zero_mul, Nat.add_zero] at e0 e1 e2 e3 e4 e5 e6 e7 e8 e9 e10 e11
 have HU := hid hu
 have HD := hid hd
 clear hu hd hj
 have hn1i : (0 : Int) < (np : Int) := by omega
 have HRES := hid (show carC c = d by unfold carC; rw [if_neg hp2, HD.out])
 clear hp2 hn1
 rw [HG.out] at r0 r1 r2 r3 r4 r5 r6 r7 r8 r9 r10 r11 fr0 fr1 fr2 fr3 fr4 fr5 fr6 fr7 fr8 fr9 fr10 fr11
 go_wp2
 rw [← HG.out]
 have HPOST := hid (show CoPost N (carC c) w (.returned (coV ⟨d.h, .slice p1 d.pairs.length c1, .slice p2 d.funs.length c2⟩)) (set12 (W) g ⟨d.h, .slice p1 d.pairs.length c1, .slice p2 d.funs.length c2⟩) from by rw [HRES.out]; exact ⟨⟨_, rfl, (CoVN.set12 (g := g) HU.out (.inr rfl)).mono fun _ _ h => .inl h⟩, Below.set12 (g := g) HL.out (by rw [HG.out]; omega)⟩)
 refine ret12 (W) g ⟨d.h, .slice p1 d.pairs.length c1, .slice p2 d.funs.length c2⟩ (HR.out) HPOST.out (fun wf hb => ?_) rfl
 obtain ⟨z0, z1, z2, z3, z4, z5, z6, z7, z8, z9, z10, z11⟩ := hb.cs
 simp [results, Tryd.results22, go_sem, coV, z0, z1, z2, z3, z4, z5, z6, z7, z8, z9, z10, z11]

set_option maxRecDepth 100000 in
set_option maxHeartbeats 8000000 in
theorem rcdr_go (N : Nat → Prop) (c : Co) (v : Value) (w : World) (hN : ∀ b, N b → b < w.heap.size) (h1 : 2 ≤ c.h.pair → 1 ≤ c.pairs.length) (h2 : c.h.pair = 2 → 2 ≤ c.pairs.length) (hv : CoVN N w v c) : Calls Tryd.prog 24 #[v] w (CoPost N (cdrC c) w) := by
 obtain ⟨pa, pc, fa, fc, rfl, hp, hf⟩ := hv.form
 obtain ⟨np, hnp⟩ : ∃ n, n = c.pairs.length := ⟨_, rfl⟩
 obtain ⟨nf, hnf⟩ : ∃ n, n = c.funs.length := ⟨_, rfl⟩
 rw [← hnp] at hp hv ⊢
 rw [← hnf] at hf hv ⊢
 have bp : (np : Int) ≤ 9223372036854775807 := by have := hp.len; rw [← hnp] at this; unfold maxLen at this; omega
 have bf : (nf : Int) ≤ 9223372036854775807 := by have := hf.len; rw [← hnf] at this; unfold maxLen at this; omega
 obtain ⟨W, hW⟩ : ∃ W, W = (w.alloc (.cells #[.int .i64 c.h.f0, .int .i64 c.h.f1, .int .i64 c.h.f2, .int .i64 c.h.f3, .int .i64 c.h.f4, .int .i64 c.h.f5, .int .i64 c.h.pair, .int .i64 c.h.pl, .slice pa np pc, .int .i64 c.h.fn, .int .i64 c.h.fl, .slice fa nf fc] 30)).alloc (.cells #[.int .i64 0, .int .i64 0, .int .i64 0, .int .i64 0, .int .i64 0, .int .i64 0, .int .i64 0, .int .i64 0, .slice none 0 0, .int .i64 0, .int .i64 0, .slice none 0 0] 30) := ⟨_, rfl⟩
 obtain ⟨g, hg⟩ : ∃ g, g = w.heap.size + 1 := ⟨_, rfl⟩
 have HX := hid (show CBox W w.heap.size 30 ⟨c.h, .slice pa np pc, .slice fa nf fc⟩ by rw [hW]; exact (CBox.made _ _ ⟨c.h, .slice pa np pc, .slice fa nf fc⟩).keep ((Below.refl _ _).alloc (Nat.le_refl _) _))
 have HR := hid (show CBox W g 30 ⟨⟨0, 0, 0, 0, 0, 0, 0, 0, 0, 0⟩, .slice none 0 0, .slice none 0 0⟩ by rw [hW, hg]; have := CBox.made (w.alloc (.cells #[.int .i64 c.h.f0, .int .i64 c.h.f1, .int .i64 c.h.f2, .int .i64 c.h.f3, .int .i64 c.h.f4, .int .i64 c.h.f5, .int .i64 c.h.pair, .int .i64 c.h.pl, .slice pa np pc, .int .i64 c.h.fn, .int .i64 c.h.fl, .slice fa nf fc] 30)) 30 ⟨⟨0, 0, 0, 0, 0, 0, 0, 0, 0, 0⟩, .slice none 0 0, .slice none 0 0⟩; simpa using this)
 have HL := hid (show Below w.heap.size w W by rw [hW]; exact ((Below.refl _ _).alloc (Nat.le_refl _) _).alloc (by simp) _)
 have HSZ := hid (show W.heap.size = g + 1 ∧ g = w.heap.size + 1 by rw [hW, hg]; exact ⟨by simp, rfl⟩)
 have HP := hid (CoSN.below hp HL.out)
 have HP2 := hid (CoSN.later (M := fun x => N x ∨ x = g) hp HL.out (fun x h => h.elim .inl fun h => .inr (by rw [h, hg]; omega)))
 have HF := hid (CoSN.below hf HL.out)
 have HV := hid (hv.later (M := fun x => N x ∨ x = g) HL.out (fun x h => h.elim .inl fun h => .inr (by rw [h, hg]; omega)))
 have HPN := hid hnp
 have HFN := hid hnf
 have HW := hid hW
 have HG := hid hg
 clear hp hf hnp hnf hW hv hg
 have HN := hid hN
 have H1 := hid h1
 have H2 := hid h2
 rw [← HPN.out] at H1 H2
 clear hN h1 h2
 have x6 : W.cell? ⟨w.heap.size, 6, none⟩ = some (.int .i64 c.h.pair) := HX.out.c6
 have x7 : W.cell? ⟨w.heap.size, 7, none⟩ = some (.int .i64 c.h.pl) := HX.out.c7
 have x8 : W.cell? ⟨w.heap.size, 8, none⟩ = some (.slice pa np pc) := HX.out.c8
 obtain ⟨r0, r1, r2, r3, r4, r5, r6, r7, r8, r9, r10, r11⟩ := HR.out.cs
 (try dsimp only at r0 r1 r2 r3 r4 r5 r6 r7 r8 r9 r10 r11)
 obtain ⟨fr0, fr1, fr2, fr3, fr4, fr5, fr6, fr7, fr8, fr9, fr10, fr11⟩ := HR.out.frs
 go_enter Tryd.func24, Tryd.ntmps24
 go_upto_region 1 with fail
 rw [← HW.out]
 clear HW
 by_cases hp2 : c.h.pair < 2
 ·
  have bp2 : decide (c.h.pair < 2) = true := decide_eq_true hp2
  have HRES := hid (show cdrC c = co0 by unfold cdrC; rw [if_pos hp2])
  clear hp2
  rw [HG.out] at r0 r1 r2 r3 r4 r5 r6 r7 r8 r9 r10 r11 fr0 fr1 fr2 fr3 fr4 fr5 fr6 fr7 fr8 fr9 fr10 fr11
  go_wp2
  rw [← HG.out]
  have HPOST := hid (show CoPost N (cdrC c) w (.returned (coV ⟨⟨0, 0, 0, 0, 0, 0, 0, 0, 0, 0⟩, .slice none 0 0, .slice none 0 0⟩)) (set12 (W) g ⟨⟨0, 0, 0, 0, 0, 0, 0, 0, 0, 0⟩, .slice none 0 0, .slice none 0 0⟩) from by rw [HRES.out]; exact ⟨⟨_, rfl, co0_v _ _⟩, Below.set12 (g := g) HL.out (by rw [HG.out]; omega)⟩)
  refine ret12 (W) g ⟨⟨0, 0, 0, 0, 0, 0, 0, 0, 0, 0⟩, .slice none 0 0, .slice none 0 0⟩ (HR.out) HPOST.out (fun wf hb => ?_) rfl
  obtain ⟨z0, z1, z2, z3, z4, z5, z6, z7, z8, z9, z10, z11⟩ := hb.cs
  simp [results, Tryd.results24, go_sem, coV, z0, z1, z2, z3, z4, z5, z6, z7, z8, z9, z10, z11]
 have bp2 : decide (c.h.pair < 2) = false := decide_eq_false hp2
 by_cases hp3 : c.h.pair = 2
 ·
  have bp3 : (c.h.pair == 2) = true := by simp [hp3]
  have hn1 : 2 ≤ np := H2.out hp3
  have hj : 1 < c.pairs.length := by rw [← HPN.out]; omega
  obtain ⟨d, hd⟩ : ∃ d, c.pairs.getD 1 co0 = d := ⟨_, rfl⟩
  obtain ⟨b, off, p1, c1, p2, c2, rfl, hb, ⟨e0, e1, e2, e3, e4, e5, e6, e7, e8, e9, e10, e11⟩, hu⟩ := CoSN.elem HP2.out hj hd
  simp only [Nat.one_mul, Nat.add_assoc, Nat.reduceAdd] at e0 e1 e2 e3 e4 e5 e6 e7 e8 e9 e10 e11
  have HU := hid hu
  have HD := hid hd
  clear hu hd hj
  have hn1i : (1 : Int) < (np : Int) := by omega
  have HRES := hid (show cdrC c = d by unfold cdrC; rw [if_neg hp2, if_pos hp3, HD.out])
  clear hp2 hp3 hn1
  rw [HG.out] at r0 r1 r2 r3 r4 r5 r6 r7 r8 r9 r10 r11 fr0 fr1 fr2 fr3 fr4 fr5 fr6 fr7 fr8 fr9 fr10 fr11
  go_wp2
  rw [← HG.out]
  have HPOST := hid (show CoPost N (cdrC c) w (.returned (coV ⟨d.h, .slice p1 d.pairs.length c1, .slice p2 d.funs.length c2⟩)) (set12 (W) g ⟨d.h, .slice p1 d.pairs.length c1, .slice p2 d.funs.length c2⟩) from by rw [HRES.out]; exact ⟨⟨_, rfl, (CoVN.set12 (g := g) HU.out (.inr rfl)).mono fun _ _ h => .inl h⟩, Below.set12 (g := g) HL.out (by rw [HG.out]; omega)⟩)
  refine ret12 (W) g ⟨d.h, .slice p1 d.pairs.length c1, .slice p2 d.funs.length c2⟩ (HR.out) HPOST.out (fun wf hb => ?_) rfl
  obtain ⟨z0, z1, z2, z3, z4, z5, z6, z7, z8, z9, z10, z11⟩ := hb.cs
  simp [results, Tryd.results24, go_sem, coV, z0, z1, z2, z3, z4, z5, z6, z7, z8, z9, z10, z11]
 have bp3 : (c.h.pair == 2) = false := beq_false_of_ne hp3
 have hn1 : 1 ≤ np := H1.out (by omega)
 have hj : 0 < c.pairs.length := by rw [← HPN.out]; omega
 obtain ⟨d, hd⟩ : ∃ d, c.pairs.getD 0 co0 = d := ⟨_, rfl⟩
 obtain ⟨b, off, p1, c1, p2, c2, rfl, hb, ⟨e0, e1, e2, e3, e4, e5, e6, e7, e8, e9, e10, e11⟩, hu⟩ := CoSN.elem HP2.out hj hd
 simp only [Nat.zero_mul, Nat.add_zero] at e0 e1 e2 e3 e4 e5 e6 e7 e8 e9 e10 e11
 have HU := hid hu
 have HD := hid hd
 clear hu hd hj
 have hn1i : (0 : Int) < (np : Int) := by omega
 have HRES := hid (show cdrC c = listsC d c.h.pl by unfold cdrC; rw [if_neg hp2, if_neg hp3, HD.out])
 have C := rlists_go (fun x => N x ∨ x = g) d c.h.pl _ W.drew (fun b h => h.elim (fun h => Nat.lt_of_lt_of_le (HN.out b h) HL.out.size) fun h => by rw [h]; exact HR.out.lt) (HU.out.below (Below.refl _ _).drew)
 have HC := hid C
 clear C hp2 hp3 hn1
 have hn1n : 0 < np := by omega
 go_upto_region 5 with fail
 go_still_tail 6, (by kernel_rfl)
 change wpList _ _ _ _ _ W.drew
 go_wp2_with fail
 refine HC.out.mono ?_
 rintro e w2 ⟨⟨u, rfl, hu⟩, hb⟩
 have hlt : g < w2.heap.size := Nat.lt_of_lt_of_le HR.out.lt (Nat.le_trans (Nat.le_refl _) hb.size)
 obtain ⟨q1, r1', q2, r2', rfl, _, _⟩ := hu.form
 have hbw := (Below.refl W.heap.size W).drew.trans (hb.mono (Nat.le_refl _))
 have HB2 := hid hbw
 have HU2 := hid hu
 replace HR := hid (HR.out.keep hbw)
 replace HL := hid (HL.out.trans (hbw.mono HL.out.size))
 clear hb hu hbw hlt r0 r1 r2 r3 r4 r5 r6 r7 r8 r9 r10 r11 fr0 fr1 fr2 fr3 fr4 fr5 fr6 fr7 fr8 fr9 fr10 fr11 e0 e1 e2 e3 e4 e5 e6 e7 e8 e9 e10 e11 x6 x7 x8
 obtain ⟨D, hD⟩ : ∃ D, D = listsC d c.h.pl := ⟨_, rfl⟩
 rw [← hD] at HU2 HRES ⊢
 clear hD
 obtain ⟨r0, r1, r2, r3, r4, r5, r6, r7, r8, r9, r10, r11⟩ := HR.out.cs
 (try dsimp only at r0 r1 r2 r3 r4 r5 r6 r7 r8 r9 r10 r11)
 obtain ⟨fr0, fr1, fr2, fr3, fr4, fr5, fr6, fr7, fr8, fr9, fr10, fr11⟩ := HR.out.frs
 rw [HG.out] at r0 r1 r2 r3 r4 r5 r6 r7 r8 r9 r10 r11 fr0 fr1 fr2 fr3 fr4 fr5 fr6 fr7 fr8 fr9 fr10 fr11
 go_wp2
 rw [← HG.out]
 have HPOST := hid (show CoPost N (cdrC c) w (.returned (coV ⟨D.h, .slice q1 D.pairs.length r1', .slice q2 D.funs.length r2'⟩)) (set12 (w2) g ⟨D.h, .slice q1 D.pairs.length r1', .slice q2 D.funs.length r2'⟩) from by rw [HRES.out]; exact ⟨⟨_, rfl, (CoVN.set12 (g := g) HU2.out (.inr rfl)).mono fun _ _ h => .inl h⟩, Below.set12 (g := g) HL.out (by rw [HG.out]; omega)⟩)
 refine ret12 (w2) g ⟨D.h, .slice q1 D.pairs.length r1', .slice q2 D.funs.length r2'⟩ (HR.out) HPOST.out (fun wf hb => ?_) rfl
 obtain ⟨z0, z1, z2, z3, z4, z5, z6, z7, z8, z9, z10, z11⟩ := hb.cs
 simp [results, Tryd.results24, go_sem, coV, z0, z1, z2, z3, z4, z5, z6, z7, z8, z9, z10, z11]
end Go.Proofs.YtlalnkabfigodaaDoor
