import Derived.Test.YtlalnkabfigodaaDoorCoCr
namespace Go.Proofs.YtlalnkabfigodaaDoor
open Go.RowKit


set_option maxRecDepth 100000 in
set_option maxHeartbeats 8000000 in
theorem cdrof_p (N : Nat → Prop) (c : Co) (v : Value) (w : World) (hN : ∀ b, N b → b < w.heap.size) (hs : Shape c) (hT : TzW w) (hv : CoVN N w v c) : Calls Tryd.prog 53 #[v] w (CoPost N (cdrC c) w) := by
  have hwr : ∀ w1, Below w.heap.size w w1 → Calls Tryd.prog 74 #[v] w1 fun e w' => e = .returned (.bool (decide (2 ≤ c.h.pair))) ∧ Below w1.heap.size w1 w' := fun w1 hb => by rw [← wpr_shape hs]; exact wraps_raw c v w1 (hv.below hb).cv
  have h1 := fun h => (plen1 hs h).1
  have h2 := fun h => (plen1 hs (show 2 ≤ c.h.pair by omega)).2 (show c.h.pair = 2 from h)
  obtain ⟨pa, pc, fa, fc, rfl, hp, hf⟩ := hv.form
  obtain ⟨np, hnp⟩ : ∃ n, n = c.pairs.length := ⟨_, rfl⟩
  obtain ⟨nf, hnf⟩ : ∃ n, n = c.funs.length := ⟨_, rfl⟩
  rw [← hnp] at hp hv hwr ⊢
  rw [← hnf] at hf hv hwr ⊢
  have bp : (np : Int) ≤ 9223372036854775807 := by have := hp.len; rw [← hnp] at this; unfold maxLen at this; omega
  have bf : (nf : Int) ≤ 9223372036854775807 := by have := hf.len; rw [← hnf] at this; unfold maxLen at this; omega
  obtain ⟨W, hW⟩ : ∃ W, W = (w.alloc (.cells #[.int .i64 c.h.f0, .int .i64 c.h.f1, .int .i64 c.h.f2, .int .i64 c.h.f3, .int .i64 c.h.f4, .int .i64 c.h.f5, .int .i64 c.h.pair, .int .i64 c.h.pl, .slice pa np pc, .int .i64 c.h.fn, .int .i64 c.h.fl, .slice fa nf fc] 25)).alloc (.cells #[.int .i64 0, .int .i64 0, .int .i64 0, .int .i64 0, .int .i64 0, .int .i64 0, .int .i64 0, .int .i64 0, .slice none 0 0, .int .i64 0, .int .i64 0, .slice none 0 0] 25) := ⟨_, rfl⟩
  obtain ⟨g, hg⟩ : ∃ g, g = w.heap.size + 1 := ⟨_, rfl⟩
  have HX := Lib.hid (show CBox W w.heap.size 25 ⟨c.h, .slice pa np pc, .slice fa nf fc⟩ by rw [hW]; exact (CBox.made _ _ ⟨c.h, .slice pa np pc, .slice fa nf fc⟩).keep ((Below.refl _ _).alloc (Nat.le_refl _) _))
  have HR := Lib.hid (show CBox W g 25 ⟨⟨0, 0, 0, 0, 0, 0, 0, 0, 0, 0⟩, .slice none 0 0, .slice none 0 0⟩ by rw [hW, hg]; have := CBox.made (w.alloc (.cells #[.int .i64 c.h.f0, .int .i64 c.h.f1, .int .i64 c.h.f2, .int .i64 c.h.f3, .int .i64 c.h.f4, .int .i64 c.h.f5, .int .i64 c.h.pair, .int .i64 c.h.pl, .slice pa np pc, .int .i64 c.h.fn, .int .i64 c.h.fl, .slice fa nf fc] 25)) 25 ⟨⟨0, 0, 0, 0, 0, 0, 0, 0, 0, 0⟩, .slice none 0 0, .slice none 0 0⟩; simpa using this)
  have HL := Lib.hid (show Below w.heap.size w W by rw [hW]; exact ((Below.refl _ _).alloc (Nat.le_refl _) _).alloc (by simp) _)
  have HSZ := Lib.hid (show W.heap.size = g + 1 ∧ g = w.heap.size + 1 by rw [hW, hg]; exact ⟨by simp, rfl⟩)
  have HP := Lib.hid (CoSN.below hp HL.out)
  have HP2 := Lib.hid (CoSN.later (M := fun x => N x ∨ x = g) hp HL.out (fun x h => h.elim .inl fun h => .inr (by rw [h, hg]; omega)))
  have HF := Lib.hid (CoSN.below hf HL.out)
  have HV := Lib.hid (hv.later (M := fun x => N x ∨ x = g) HL.out (fun x h => h.elim .inl fun h => .inr (by rw [h, hg]; omega)))
  have HPN := Lib.hid hnp
  have HFN := Lib.hid hnf
  have HW := Lib.hid hW
  have HG := Lib.hid hg
  clear hp hf hnp hnf hW hv hg
  have HN := Lib.hid hN
  have H1 := Lib.hid h1
  have H2 := Lib.hid h2
  rw [← HPN.out] at H1 H2
  have HWR := Lib.hid (hwr W HL.out)
  have HSH := Lib.hid hs
  have HTZ := Lib.hid (hT.keep HL.out)
  clear hN h1 h2 hwr hs hT
  have x0 : W.cell? ⟨w.heap.size, 0, none⟩ = some (.int .i64 c.h.f0) := HX.out.c0
  have x1 : W.cell? ⟨w.heap.size, 1, none⟩ = some (.int .i64 c.h.f1) := HX.out.c1
  have x2 : W.cell? ⟨w.heap.size, 2, none⟩ = some (.int .i64 c.h.f2) := HX.out.c2
  have x3 : W.cell? ⟨w.heap.size, 3, none⟩ = some (.int .i64 c.h.f3) := HX.out.c3
  have x4 : W.cell? ⟨w.heap.size, 4, none⟩ = some (.int .i64 c.h.f4) := HX.out.c4
  have x5 : W.cell? ⟨w.heap.size, 5, none⟩ = some (.int .i64 c.h.f5) := HX.out.c5
  have x6 : W.cell? ⟨w.heap.size, 6, none⟩ = some (.int .i64 c.h.pair) := HX.out.c6
  have x7 : W.cell? ⟨w.heap.size, 7, none⟩ = some (.int .i64 c.h.pl) := HX.out.c7
  have x8 : W.cell? ⟨w.heap.size, 8, none⟩ = some (.slice pa np pc) := HX.out.c8
  have x9 : W.cell? ⟨w.heap.size, 9, none⟩ = some (.int .i64 c.h.fn) := HX.out.c9
  have x10 : W.cell? ⟨w.heap.size, 10, none⟩ = some (.int .i64 c.h.fl) := HX.out.c10
  have x11 : W.cell? ⟨w.heap.size, 11, none⟩ = some (.slice fa nf fc) := HX.out.c11
  go_enter Tryd.func53, Tryd.ntmps53
  go_wp2_with fail
  rw [← HW.out]
  refine HWR.out.mono ?_
  rintro e w2 ⟨rfl, hb2⟩
  rw [← HG.out]
  have HB2 := Lib.hid hb2
  replace HX := Lib.hid (HX.out.keep hb2)
  replace HR := Lib.hid (HR.out.keep hb2)
  replace HP2 := Lib.hid (CoSN.below HP2.out hb2)
  replace HTZ := Lib.hid (HTZ.out.keep hb2)
  replace HL := Lib.hid (HL.out.trans (hb2.mono HL.out.size))
  clear hb2 HWR HW x0 x1 x2 x3 x4 x5 x6 x7 x8 x9 x10 x11
  have x0 : w2.cell? ⟨w.heap.size, 0, none⟩ = some (.int .i64 c.h.f0) := HX.out.c0
  have x1 : w2.cell? ⟨w.heap.size, 1, none⟩ = some (.int .i64 c.h.f1) := HX.out.c1
  have x2 : w2.cell? ⟨w.heap.size, 2, none⟩ = some (.int .i64 c.h.f2) := HX.out.c2
  have x3 : w2.cell? ⟨w.heap.size, 3, none⟩ = some (.int .i64 c.h.f3) := HX.out.c3
  have x4 : w2.cell? ⟨w.heap.size, 4, none⟩ = some (.int .i64 c.h.f4) := HX.out.c4
  have x5 : w2.cell? ⟨w.heap.size, 5, none⟩ = some (.int .i64 c.h.f5) := HX.out.c5
  have x6 : w2.cell? ⟨w.heap.size, 6, none⟩ = some (.int .i64 c.h.pair) := HX.out.c6
  have x7 : w2.cell? ⟨w.heap.size, 7, none⟩ = some (.int .i64 c.h.pl) := HX.out.c7
  have x8 : w2.cell? ⟨w.heap.size, 8, none⟩ = some (.slice pa np pc) := HX.out.c8
  have x9 : w2.cell? ⟨w.heap.size, 9, none⟩ = some (.int .i64 c.h.fn) := HX.out.c9
  have x10 : w2.cell? ⟨w.heap.size, 10, none⟩ = some (.int .i64 c.h.fl) := HX.out.c10
  have x11 : w2.cell? ⟨w.heap.size, 11, none⟩ = some (.slice fa nf fc) := HX.out.c11
  have r0 : w2.cell? ⟨g, 0, none⟩ = some (.int .i64 0) := HR.out.c0
  have r1 : w2.cell? ⟨g, 1, none⟩ = some (.int .i64 0) := HR.out.c1
  have r2 : w2.cell? ⟨g, 2, none⟩ = some (.int .i64 0) := HR.out.c2
  have r3 : w2.cell? ⟨g, 3, none⟩ = some (.int .i64 0) := HR.out.c3
  have r4 : w2.cell? ⟨g, 4, none⟩ = some (.int .i64 0) := HR.out.c4
  have r5 : w2.cell? ⟨g, 5, none⟩ = some (.int .i64 0) := HR.out.c5
  have r6 : w2.cell? ⟨g, 6, none⟩ = some (.int .i64 0) := HR.out.c6
  have r7 : w2.cell? ⟨g, 7, none⟩ = some (.int .i64 0) := HR.out.c7
  have r8 : w2.cell? ⟨g, 8, none⟩ = some (.slice none 0 0) := HR.out.c8
  have r9 : w2.cell? ⟨g, 9, none⟩ = some (.int .i64 0) := HR.out.c9
  have r10 : w2.cell? ⟨g, 10, none⟩ = some (.int .i64 0) := HR.out.c10
  have r11 : w2.cell? ⟨g, 11, none⟩ = some (.slice none 0 0) := HR.out.c11
  have fr0 : w2.frozen? ⟨g, 0, none⟩ = false := HR.out.fr 0
  have fr1 : w2.frozen? ⟨g, 1, none⟩ = false := HR.out.fr 1
  have fr2 : w2.frozen? ⟨g, 2, none⟩ = false := HR.out.fr 2
  have fr3 : w2.frozen? ⟨g, 3, none⟩ = false := HR.out.fr 3
  have fr4 : w2.frozen? ⟨g, 4, none⟩ = false := HR.out.fr 4
  have fr5 : w2.frozen? ⟨g, 5, none⟩ = false := HR.out.fr 5
  have fr6 : w2.frozen? ⟨g, 6, none⟩ = false := HR.out.fr 6
  have fr7 : w2.frozen? ⟨g, 7, none⟩ = false := HR.out.fr 7
  have fr8 : w2.frozen? ⟨g, 8, none⟩ = false := HR.out.fr 8
  have fr9 : w2.frozen? ⟨g, 9, none⟩ = false := HR.out.fr 9
  have fr10 : w2.frozen? ⟨g, 10, none⟩ = false := HR.out.fr 10
  have fr11 : w2.frozen? ⟨g, 11, none⟩ = false := HR.out.fr 11
  by_cases hp2 : c.h.pair < 2
  · have bp2 : decide (2 ≤ c.h.pair) = false := decide_eq_false (by omega)
    rw [bp2]
    have HRES := Lib.hid (show cdrC c = co0 by unfold cdrC; rw [if_pos hp2])
    clear hp2 bp2
    go_wp2
    have HBF := Lib.hid (show CBox (set12 (w2) g ⟨⟨0, 0, 0, 0, 0, 0, 0, 0, 0, 0⟩, .slice none 0 0, .slice none 0 0⟩) g 25 ⟨⟨0, 0, 0, 0, 0, 0, 0, 0, 0, 0⟩, .slice none 0 0, .slice none 0 0⟩ from CBox.set12 (HR.out))
    have HPOST := Lib.hid (show CoPost N (cdrC c) w (.returned (.agg #[.int .i64 0, .int .i64 0, .int .i64 0, .int .i64 0, .int .i64 0, .int .i64 0, .int .i64 0, .int .i64 0, .slice none 0 0, .int .i64 0, .int .i64 0, .slice none 0 0])) (set12 (w2) g ⟨⟨0, 0, 0, 0, 0, 0, 0, 0, 0, 0⟩, .slice none 0 0, .slice none 0 0⟩) from by rw [HRES.out]; exact ⟨⟨_, rfl, co0_v _ _⟩, Below.set12 (g := g) HL.out (by rw [HG.out]; omega)⟩)
    change bodyPost _ _ _ _ _ (set12 (w2) g ⟨⟨0, 0, 0, 0, 0, 0, 0, 0, 0, 0⟩, .slice none 0 0, .slice none 0 0⟩)
    generalize set12 (w2) g ⟨⟨0, 0, 0, 0, 0, 0, 0, 0, 0, 0⟩, .slice none 0 0, .slice none 0 0⟩ = wf at HBF HPOST ⊢
    have z0 := HBF.out.c0; have z1 := HBF.out.c1; have z2 := HBF.out.c2; have z3 := HBF.out.c3; have z4 := HBF.out.c4; have z5 := HBF.out.c5; have z6 := HBF.out.c6; have z7 := HBF.out.c7; have z8 := HBF.out.c8; have z9 := HBF.out.c9; have z10 := HBF.out.c10; have z11 := HBF.out.c11
    clear HBF
    refine bodyPost_ret (v := .agg #[.int .i64 0, .int .i64 0, .int .i64 0, .int .i64 0, .int .i64 0, .int .i64 0, .int .i64 0, .int .i64 0, .slice none 0 0, .int .i64 0, .int .i64 0, .slice none 0 0]) ?_ ?_ ?_
    · simp [results, Tryd.results53, go_sem, z0, z1, z2, z3, z4, z5, z6, z7, z8, z9, z10, z11]
    · rfl
    · exact HPOST.out
  have bp2 : decide (2 ≤ c.h.pair) = true := decide_eq_true (by omega)
  rw [bp2]
  by_cases hp3 : c.h.pair = 3
  case neg =>
    have bp3 : (c.h.pair == 3) = false := beq_false_of_ne hp3
    have he2 : c.h.pair = 2 := by have := HSH.out.own.1; omega
    have hn1 : 2 ≤ np := H2.out he2
    have hj : 1 < c.pairs.length := by rw [← HPN.out]; omega
    obtain ⟨d, hd⟩ : ∃ d, c.pairs.getD 1 co0 = d := ⟨_, rfl⟩
    obtain ⟨b, off, p1, c1, p2, c2, rfl, hb, ⟨e0, e1, e2, e3, e4, e5, e6, e7, e8, e9, e10, e11⟩, hu⟩ := CoSN.elem HP2.out hj hd
    simp only [Nat.one_mul] at e0 e1 e2 e3 e4 e5 e6 e7 e8 e9 e10 e11
    have HU := Lib.hid hu
    have HD := Lib.hid hd
    clear hu hd hj
    have hn1i : (1 : Int) < (np : Int) := by omega
    have HRES := Lib.hid (show cdrC c = d by unfold cdrC; rw [if_neg hp2, if_pos he2, HD.out])
    clear hp2 hn1 bp2 hp3 he2
    go_wp2
    have HBF := Lib.hid (show CBox (set12 (w2) g ⟨d.h, .slice p1 d.pairs.length c1, .slice p2 d.funs.length c2⟩) g 25 ⟨d.h, .slice p1 d.pairs.length c1, .slice p2 d.funs.length c2⟩ from CBox.set12 (HR.out))
    have HPOST := Lib.hid (show CoPost N (cdrC c) w (.returned (.agg #[.int .i64 d.h.f0, .int .i64 d.h.f1, .int .i64 d.h.f2, .int .i64 d.h.f3, .int .i64 d.h.f4, .int .i64 d.h.f5, .int .i64 d.h.pair, .int .i64 d.h.pl, .slice p1 d.pairs.length c1, .int .i64 d.h.fn, .int .i64 d.h.fl, .slice p2 d.funs.length c2])) (set12 (w2) g ⟨d.h, .slice p1 d.pairs.length c1, .slice p2 d.funs.length c2⟩) from by rw [HRES.out]; exact ⟨⟨_, rfl, (CoVN.set12 (g := g) HU.out (.inr rfl)).mono fun _ _ h => .inl h⟩, Below.set12 (g := g) HL.out (by rw [HG.out]; omega)⟩)
    change bodyPost _ _ _ _ _ (set12 (w2) g ⟨d.h, .slice p1 d.pairs.length c1, .slice p2 d.funs.length c2⟩)
    generalize set12 (w2) g ⟨d.h, .slice p1 d.pairs.length c1, .slice p2 d.funs.length c2⟩ = wf at HBF HPOST ⊢
    have z0 := HBF.out.c0; have z1 := HBF.out.c1; have z2 := HBF.out.c2; have z3 := HBF.out.c3; have z4 := HBF.out.c4; have z5 := HBF.out.c5; have z6 := HBF.out.c6; have z7 := HBF.out.c7; have z8 := HBF.out.c8; have z9 := HBF.out.c9; have z10 := HBF.out.c10; have z11 := HBF.out.c11
    clear HBF
    refine bodyPost_ret (v := .agg #[.int .i64 d.h.f0, .int .i64 d.h.f1, .int .i64 d.h.f2, .int .i64 d.h.f3, .int .i64 d.h.f4, .int .i64 d.h.f5, .int .i64 d.h.pair, .int .i64 d.h.pl, .slice p1 d.pairs.length c1, .int .i64 d.h.fn, .int .i64 d.h.fl, .slice p2 d.funs.length c2]) ?_ ?_ ?_
    · simp [results, Tryd.results53, go_sem, z0, z1, z2, z3, z4, z5, z6, z7, z8, z9, z10, z11]
    · rfl
    · exact HPOST.out
  have bp3 : (c.h.pair == 3) = true := by rw [hp3]; rfl
  have hn1 : np = 1 := by have h := HSH.out.own.2.2.1; rw [hp3] at h; have h1 : (c.pairs.length : Int) = 1 := h; have := HPN.out; omega
  obtain ⟨d, hd⟩ : ∃ d, c.pairs.getD 0 co0 = d := ⟨_, rfl⟩
  have hcl : c.pairs = [d] := by rw [← hd]; exact list1 (by rw [← HPN.out]; exact hn1)
  have HRES := Lib.hid (show cdrC c = listsC d c.h.pl by unfold cdrC; rw [if_neg hp2, if_neg (by omega), hd])
  rw [hcl, hn1] at HP2
  have C := listof_p (fun x => N x ∨ x = g) d c.h.pl pa pc w2 (fun b h => h.elim (fun h => Nat.lt_of_lt_of_le (HN.out b h) HL.out.size) fun h => by rw [h]; exact HR.out.lt) HTZ.out HP2.out
  subst hn1
  have HC := Lib.hid C
  clear C hp2 hp3 bp2 hd hcl
  go_wp2_with fail
  refine HC.out.mono ?_
  rintro e w3 ⟨⟨u, rfl, hu⟩, hb⟩
  obtain ⟨q1, s1, q2, s2, rfl, _, _⟩ := hu.form
  have HU2 := Lib.hid hu
  replace HR := Lib.hid (HR.out.keep hb)
  replace HL := Lib.hid (HL.out.trans (hb.mono HL.out.size))
  clear hb hu r0 r1 r2 r3 r4 r5 r6 r7 r8 r9 r10 r11 fr0 fr1 fr2 fr3 fr4 fr5 fr6 fr7 fr8 fr9 fr10 fr11 x0 x1 x2 x3 x4 x5 x6 x7 x8 x9 x10 x11
  obtain ⟨D, hD⟩ : ∃ D, D = listsC d c.h.pl := ⟨_, rfl⟩
  rw [← hD] at HU2 HRES ⊢
  clear hD
  have r0 : w3.cell? ⟨g, 0, none⟩ = some (.int .i64 0) := HR.out.c0
  have r1 : w3.cell? ⟨g, 1, none⟩ = some (.int .i64 0) := HR.out.c1
  have r2 : w3.cell? ⟨g, 2, none⟩ = some (.int .i64 0) := HR.out.c2
  have r3 : w3.cell? ⟨g, 3, none⟩ = some (.int .i64 0) := HR.out.c3
  have r4 : w3.cell? ⟨g, 4, none⟩ = some (.int .i64 0) := HR.out.c4
  have r5 : w3.cell? ⟨g, 5, none⟩ = some (.int .i64 0) := HR.out.c5
  have r6 : w3.cell? ⟨g, 6, none⟩ = some (.int .i64 0) := HR.out.c6
  have r7 : w3.cell? ⟨g, 7, none⟩ = some (.int .i64 0) := HR.out.c7
  have r8 : w3.cell? ⟨g, 8, none⟩ = some (.slice none 0 0) := HR.out.c8
  have r9 : w3.cell? ⟨g, 9, none⟩ = some (.int .i64 0) := HR.out.c9
  have r10 : w3.cell? ⟨g, 10, none⟩ = some (.int .i64 0) := HR.out.c10
  have r11 : w3.cell? ⟨g, 11, none⟩ = some (.slice none 0 0) := HR.out.c11
  have fr0 : w3.frozen? ⟨g, 0, none⟩ = false := HR.out.fr 0
  have fr1 : w3.frozen? ⟨g, 1, none⟩ = false := HR.out.fr 1
  have fr2 : w3.frozen? ⟨g, 2, none⟩ = false := HR.out.fr 2
  have fr3 : w3.frozen? ⟨g, 3, none⟩ = false := HR.out.fr 3
  have fr4 : w3.frozen? ⟨g, 4, none⟩ = false := HR.out.fr 4
  have fr5 : w3.frozen? ⟨g, 5, none⟩ = false := HR.out.fr 5
  have fr6 : w3.frozen? ⟨g, 6, none⟩ = false := HR.out.fr 6
  have fr7 : w3.frozen? ⟨g, 7, none⟩ = false := HR.out.fr 7
  have fr8 : w3.frozen? ⟨g, 8, none⟩ = false := HR.out.fr 8
  have fr9 : w3.frozen? ⟨g, 9, none⟩ = false := HR.out.fr 9
  have fr10 : w3.frozen? ⟨g, 10, none⟩ = false := HR.out.fr 10
  have fr11 : w3.frozen? ⟨g, 11, none⟩ = false := HR.out.fr 11
  go_wp2
  have HBF := Lib.hid (show CBox (set12 (w3) g ⟨D.h, .slice q1 D.pairs.length s1, .slice q2 D.funs.length s2⟩) g 25 ⟨D.h, .slice q1 D.pairs.length s1, .slice q2 D.funs.length s2⟩ from CBox.set12 (HR.out))
  have HPOST := Lib.hid (show CoPost N (cdrC c) w (.returned (.agg #[.int .i64 D.h.f0, .int .i64 D.h.f1, .int .i64 D.h.f2, .int .i64 D.h.f3, .int .i64 D.h.f4, .int .i64 D.h.f5, .int .i64 D.h.pair, .int .i64 D.h.pl, .slice q1 D.pairs.length s1, .int .i64 D.h.fn, .int .i64 D.h.fl, .slice q2 D.funs.length s2])) (set12 (w3) g ⟨D.h, .slice q1 D.pairs.length s1, .slice q2 D.funs.length s2⟩) from by rw [HRES.out]; exact ⟨⟨_, rfl, (CoVN.set12 (g := g) HU2.out (.inr rfl)).mono fun _ _ h => .inl h⟩, Below.set12 (g := g) HL.out (by rw [HG.out]; omega)⟩)
  change bodyPost _ _ _ _ _ (set12 (w3) g ⟨D.h, .slice q1 D.pairs.length s1, .slice q2 D.funs.length s2⟩)
  generalize set12 (w3) g ⟨D.h, .slice q1 D.pairs.length s1, .slice q2 D.funs.length s2⟩ = wf at HBF HPOST ⊢
  have z0 := HBF.out.c0; have z1 := HBF.out.c1; have z2 := HBF.out.c2; have z3 := HBF.out.c3; have z4 := HBF.out.c4; have z5 := HBF.out.c5; have z6 := HBF.out.c6; have z7 := HBF.out.c7; have z8 := HBF.out.c8; have z9 := HBF.out.c9; have z10 := HBF.out.c10; have z11 := HBF.out.c11
  clear HBF
  refine bodyPost_ret (v := .agg #[.int .i64 D.h.f0, .int .i64 D.h.f1, .int .i64 D.h.f2, .int .i64 D.h.f3, .int .i64 D.h.f4, .int .i64 D.h.f5, .int .i64 D.h.pair, .int .i64 D.h.pl, .slice q1 D.pairs.length s1, .int .i64 D.h.fn, .int .i64 D.h.fl, .slice q2 D.funs.length s2]) ?_ ?_ ?_
  · simp [results, Tryd.results53, go_sem, z0, z1, z2, z3, z4, z5, z6, z7, z8, z9, z10, z11]
  · rfl
  · exact HPOST.out

set_option maxRecDepth 100000 in
set_option maxHeartbeats 8000000 in
theorem car_p (c : Co) (v : Value) (w : World) (hs : Shape c) (h1 : szC (carC c) ≤ 16000000) (h2 : htC (carC c) ≤ 130000) (h3 : Thin (carC c)) (hv : CoV w v c) : Calls Tryd.prog 21 #[v] w (FPost (carC c) w) := by
  have hC1 := fun w1 (hb : Below w.heap.size w w1) => carof_p NC c v w1 (fun _ h => h.elim) hs (hv.below hb)
  have hC2 := fun w1 u (hu : CoV w1 u (carC c)) => own_p (carC c) u w1 h1 h2 h3 hu
  obtain ⟨D, hD⟩ : ∃ D, D = carC c := ⟨_, rfl⟩
  rw [← hD] at hC1 hC2 ⊢
  obtain ⟨pa, pc, fa, fc, rfl, hp, hf⟩ := hv.form
  obtain ⟨np, hnp⟩ : ∃ n, n = c.pairs.length := ⟨_, rfl⟩
  obtain ⟨nf, hnf⟩ : ∃ n, n = c.funs.length := ⟨_, rfl⟩
  rw [← hnp] at hp hC1 ⊢
  rw [← hnf] at hf hC1 ⊢
  have bp : (np : Int) ≤ 9223372036854775807 := by have := hp.len; rw [← hnp] at this; unfold maxLen at this; omega
  have bf : (nf : Int) ≤ 9223372036854775807 := by have := hf.len; rw [← hnf] at this; unfold maxLen at this; omega
  obtain ⟨W, hW⟩ : ∃ W, W = (w.alloc (.cells #[.int .i64 c.h.f0, .int .i64 c.h.f1, .int .i64 c.h.f2, .int .i64 c.h.f3, .int .i64 c.h.f4, .int .i64 c.h.f5, .int .i64 c.h.pair, .int .i64 c.h.pl, .slice pa np pc, .int .i64 c.h.fn, .int .i64 c.h.fl, .slice fa nf fc] 25)).alloc (.cells #[.int .i64 0, .int .i64 0, .int .i64 0, .int .i64 0, .int .i64 0, .int .i64 0, .int .i64 0, .int .i64 0, .slice none 0 0, .int .i64 0, .int .i64 0, .slice none 0 0] 25) := ⟨_, rfl⟩
  have HX := Lib.hid (show CBox W w.heap.size 25 ⟨c.h, .slice pa np pc, .slice fa nf fc⟩ by rw [hW]; exact (CBox.made w _ ⟨c.h, .slice pa np pc, .slice fa nf fc⟩).keep ((Below.refl _ _).alloc (Nat.le_refl _) _))
  have HL := Lib.hid (show Below w.heap.size w W by rw [hW]; exact ((Below.refl _ _).alloc (Nat.le_refl _) _).alloc (by simp) _)
  have HP := Lib.hid (CoSN.below hp HL.out)
  have HF := Lib.hid (CoSN.below hf HL.out)
  have HPN := Lib.hid hnp
  have HFN := Lib.hid hnf
  have HW := Lib.hid hW
  clear hp hf hnp hnf hW hv
  have HR := Lib.hid (show CBox W (w.heap.size + 1) 25 ⟨⟨0, 0, 0, 0, 0, 0, 0, 0, 0, 0⟩, .slice none 0 0, .slice none 0 0⟩ by rw [HW.out]; have := CBox.made (w.alloc (.cells #[.int .i64 c.h.f0, .int .i64 c.h.f1, .int .i64 c.h.f2, .int .i64 c.h.f3, .int .i64 c.h.f4, .int .i64 c.h.f5, .int .i64 c.h.pair, .int .i64 c.h.pl, .slice pa np pc, .int .i64 c.h.fn, .int .i64 c.h.fl, .slice fa nf fc] 25)) 25 ⟨⟨0, 0, 0, 0, 0, 0, 0, 0, 0, 0⟩, .slice none 0 0, .slice none 0 0⟩; simp only [alloc_hs7] at this; exact this)
  have HC1 := Lib.hid (hC1 W HL.out)
  have HC2 := Lib.hid hC2
  clear hC1 hC2 hD hs h1 h2 h3
  have x0 : W.cell? ⟨w.heap.size, 0, none⟩ = some (.int .i64 c.h.f0) := HX.out.c0
  have x1 : W.cell? ⟨w.heap.size, 1, none⟩ = some (.int .i64 c.h.f1) := HX.out.c1
  have x2 : W.cell? ⟨w.heap.size, 2, none⟩ = some (.int .i64 c.h.f2) := HX.out.c2
  have x3 : W.cell? ⟨w.heap.size, 3, none⟩ = some (.int .i64 c.h.f3) := HX.out.c3
  have x4 : W.cell? ⟨w.heap.size, 4, none⟩ = some (.int .i64 c.h.f4) := HX.out.c4
  have x5 : W.cell? ⟨w.heap.size, 5, none⟩ = some (.int .i64 c.h.f5) := HX.out.c5
  have x6 : W.cell? ⟨w.heap.size, 6, none⟩ = some (.int .i64 c.h.pair) := HX.out.c6
  have x7 : W.cell? ⟨w.heap.size, 7, none⟩ = some (.int .i64 c.h.pl) := HX.out.c7
  have x8 : W.cell? ⟨w.heap.size, 8, none⟩ = some (.slice pa np pc) := HX.out.c8
  have x9 : W.cell? ⟨w.heap.size, 9, none⟩ = some (.int .i64 c.h.fn) := HX.out.c9
  have x10 : W.cell? ⟨w.heap.size, 10, none⟩ = some (.int .i64 c.h.fl) := HX.out.c10
  have x11 : W.cell? ⟨w.heap.size, 11, none⟩ = some (.slice fa nf fc) := HX.out.c11
  go_enter Tryd.func21, Tryd.ntmps21
  go_wp2_with fail
  rw [← HW.out]
  refine HC1.out.mono ?_
  rintro e w2 ⟨⟨u, rfl, hu⟩, hb2⟩
  obtain ⟨ua, ub, uc, ud, rfl, _, _⟩ := hu.form
  have HU := Lib.hid hu
  have HL2 := Lib.hid (HL.out.trans (hb2.mono HL.out.size))
  have HR2 := Lib.hid (HR.out.keep hb2)
  clear hu hb2 HW x0 x1 x2 x3 x4 x5 x6 x7 x8 x9 x10 x11
  go_wp2_with fail
  refine (HC2.out w2 _ HU.out).mono ?_
  rintro e w3 ⟨⟨t, rfl, ht⟩, hb3⟩
  obtain ⟨ta, tb, tc, td, rfl, _, _⟩ := ht.form
  have HT3 := Lib.hid ht
  have HL3 := Lib.hid (HL2.out.trans (hb3.mono HL2.out.size))
  have HR3 := Lib.hid (HR2.out.keep hb3)
  have HLT := Lib.hid HR2.out.lt
  clear ht hb3
  have r0 : w3.cell? ⟨(w.heap.size + 1), 0, none⟩ = some (.int .i64 0) := HR3.out.c0
  have r1 : w3.cell? ⟨(w.heap.size + 1), 1, none⟩ = some (.int .i64 0) := HR3.out.c1
  have r2 : w3.cell? ⟨(w.heap.size + 1), 2, none⟩ = some (.int .i64 0) := HR3.out.c2
  have r3 : w3.cell? ⟨(w.heap.size + 1), 3, none⟩ = some (.int .i64 0) := HR3.out.c3
  have r4 : w3.cell? ⟨(w.heap.size + 1), 4, none⟩ = some (.int .i64 0) := HR3.out.c4
  have r5 : w3.cell? ⟨(w.heap.size + 1), 5, none⟩ = some (.int .i64 0) := HR3.out.c5
  have r6 : w3.cell? ⟨(w.heap.size + 1), 6, none⟩ = some (.int .i64 0) := HR3.out.c6
  have r7 : w3.cell? ⟨(w.heap.size + 1), 7, none⟩ = some (.int .i64 0) := HR3.out.c7
  have r8 : w3.cell? ⟨(w.heap.size + 1), 8, none⟩ = some (.slice none 0 0) := HR3.out.c8
  have r9 : w3.cell? ⟨(w.heap.size + 1), 9, none⟩ = some (.int .i64 0) := HR3.out.c9
  have r10 : w3.cell? ⟨(w.heap.size + 1), 10, none⟩ = some (.int .i64 0) := HR3.out.c10
  have r11 : w3.cell? ⟨(w.heap.size + 1), 11, none⟩ = some (.slice none 0 0) := HR3.out.c11
  have fr0 : w3.frozen? ⟨(w.heap.size + 1), 0, none⟩ = false := HR3.out.fr 0
  have fr1 : w3.frozen? ⟨(w.heap.size + 1), 1, none⟩ = false := HR3.out.fr 1
  have fr2 : w3.frozen? ⟨(w.heap.size + 1), 2, none⟩ = false := HR3.out.fr 2
  have fr3 : w3.frozen? ⟨(w.heap.size + 1), 3, none⟩ = false := HR3.out.fr 3
  have fr4 : w3.frozen? ⟨(w.heap.size + 1), 4, none⟩ = false := HR3.out.fr 4
  have fr5 : w3.frozen? ⟨(w.heap.size + 1), 5, none⟩ = false := HR3.out.fr 5
  have fr6 : w3.frozen? ⟨(w.heap.size + 1), 6, none⟩ = false := HR3.out.fr 6
  have fr7 : w3.frozen? ⟨(w.heap.size + 1), 7, none⟩ = false := HR3.out.fr 7
  have fr8 : w3.frozen? ⟨(w.heap.size + 1), 8, none⟩ = false := HR3.out.fr 8
  have fr9 : w3.frozen? ⟨(w.heap.size + 1), 9, none⟩ = false := HR3.out.fr 9
  have fr10 : w3.frozen? ⟨(w.heap.size + 1), 10, none⟩ = false := HR3.out.fr 10
  have fr11 : w3.frozen? ⟨(w.heap.size + 1), 11, none⟩ = false := HR3.out.fr 11
  go_wp2
  have HBF := Lib.hid (show CBox (set12 (w3) (w.heap.size + 1) ⟨D.h, .slice ta D.pairs.length tb, .slice tc D.funs.length td⟩) (w.heap.size + 1) 25 ⟨D.h, .slice ta D.pairs.length tb, .slice tc D.funs.length td⟩ from CBox.set12 (HR3.out))
  have HPOST := Lib.hid (show FPost D w (.returned (.agg #[.int .i64 D.h.f0, .int .i64 D.h.f1, .int .i64 D.h.f2, .int .i64 D.h.f3, .int .i64 D.h.f4, .int .i64 D.h.f5, .int .i64 D.h.pair, .int .i64 D.h.pl, .slice ta D.pairs.length tb, .int .i64 D.h.fn, .int .i64 D.h.fl, .slice tc D.funs.length td])) (set12 (w3) (w.heap.size + 1) ⟨D.h, .slice ta D.pairs.length tb, .slice tc D.funs.length td⟩) from FPost.cell (w1 := w2) HT3.out (by omega) HLT.out HL3.out)
  change bodyPost _ _ _ _ _ (set12 (w3) (w.heap.size + 1) ⟨D.h, .slice ta D.pairs.length tb, .slice tc D.funs.length td⟩)
  generalize set12 (w3) (w.heap.size + 1) ⟨D.h, .slice ta D.pairs.length tb, .slice tc D.funs.length td⟩ = wf at HBF HPOST ⊢
  have z0 := HBF.out.c0; have z1 := HBF.out.c1; have z2 := HBF.out.c2; have z3 := HBF.out.c3; have z4 := HBF.out.c4; have z5 := HBF.out.c5; have z6 := HBF.out.c6; have z7 := HBF.out.c7; have z8 := HBF.out.c8; have z9 := HBF.out.c9; have z10 := HBF.out.c10; have z11 := HBF.out.c11
  clear HBF
  refine bodyPost_ret (v := .agg #[.int .i64 D.h.f0, .int .i64 D.h.f1, .int .i64 D.h.f2, .int .i64 D.h.f3, .int .i64 D.h.f4, .int .i64 D.h.f5, .int .i64 D.h.pair, .int .i64 D.h.pl, .slice ta D.pairs.length tb, .int .i64 D.h.fn, .int .i64 D.h.fl, .slice tc D.funs.length td]) ?_ ?_ ?_
  · simp [results, Tryd.results21, go_sem, z0, z1, z2, z3, z4, z5, z6, z7, z8, z9, z10, z11]
  · rfl
  · exact HPOST.out

set_option maxRecDepth 100000 in
set_option maxHeartbeats 8000000 in
theorem cdr_p (c : Co) (v : Value) (w : World) (hs : Shape c) (h1 : szC (cdrC c) ≤ 16000000) (h2 : htC (cdrC c) ≤ 130000) (h3 : Thin (cdrC c)) (hT : TzW w) (hv : CoV w v c) : Calls Tryd.prog 23 #[v] w (FPost (cdrC c) w) := by
  have hC1 := fun w1 (hb : Below w.heap.size w w1) => cdrof_p NC c v w1 (fun _ h => h.elim) hs (hT.keep hb) (hv.below hb)
  have hC2 := fun w1 u (hu : CoV w1 u (cdrC c)) => own_p (cdrC c) u w1 h1 h2 h3 hu
  obtain ⟨D, hD⟩ : ∃ D, D = cdrC c := ⟨_, rfl⟩
  rw [← hD] at hC1 hC2 ⊢
  obtain ⟨pa, pc, fa, fc, rfl, hp, hf⟩ := hv.form
  obtain ⟨np, hnp⟩ : ∃ n, n = c.pairs.length := ⟨_, rfl⟩
  obtain ⟨nf, hnf⟩ : ∃ n, n = c.funs.length := ⟨_, rfl⟩
  rw [← hnp] at hp hC1 ⊢
  rw [← hnf] at hf hC1 ⊢
  have bp : (np : Int) ≤ 9223372036854775807 := by have := hp.len; rw [← hnp] at this; unfold maxLen at this; omega
  have bf : (nf : Int) ≤ 9223372036854775807 := by have := hf.len; rw [← hnf] at this; unfold maxLen at this; omega
  obtain ⟨W, hW⟩ : ∃ W, W = (w.alloc (.cells #[.int .i64 c.h.f0, .int .i64 c.h.f1, .int .i64 c.h.f2, .int .i64 c.h.f3, .int .i64 c.h.f4, .int .i64 c.h.f5, .int .i64 c.h.pair, .int .i64 c.h.pl, .slice pa np pc, .int .i64 c.h.fn, .int .i64 c.h.fl, .slice fa nf fc] 25)).alloc (.cells #[.int .i64 0, .int .i64 0, .int .i64 0, .int .i64 0, .int .i64 0, .int .i64 0, .int .i64 0, .int .i64 0, .slice none 0 0, .int .i64 0, .int .i64 0, .slice none 0 0] 25) := ⟨_, rfl⟩
  have HX := Lib.hid (show CBox W w.heap.size 25 ⟨c.h, .slice pa np pc, .slice fa nf fc⟩ by rw [hW]; exact (CBox.made w _ ⟨c.h, .slice pa np pc, .slice fa nf fc⟩).keep ((Below.refl _ _).alloc (Nat.le_refl _) _))
  have HL := Lib.hid (show Below w.heap.size w W by rw [hW]; exact ((Below.refl _ _).alloc (Nat.le_refl _) _).alloc (by simp) _)
  have HP := Lib.hid (CoSN.below hp HL.out)
  have HF := Lib.hid (CoSN.below hf HL.out)
  have HPN := Lib.hid hnp
  have HFN := Lib.hid hnf
  have HW := Lib.hid hW
  clear hp hf hnp hnf hW hv
  have HR := Lib.hid (show CBox W (w.heap.size + 1) 25 ⟨⟨0, 0, 0, 0, 0, 0, 0, 0, 0, 0⟩, .slice none 0 0, .slice none 0 0⟩ by rw [HW.out]; have := CBox.made (w.alloc (.cells #[.int .i64 c.h.f0, .int .i64 c.h.f1, .int .i64 c.h.f2, .int .i64 c.h.f3, .int .i64 c.h.f4, .int .i64 c.h.f5, .int .i64 c.h.pair, .int .i64 c.h.pl, .slice pa np pc, .int .i64 c.h.fn, .int .i64 c.h.fl, .slice fa nf fc] 25)) 25 ⟨⟨0, 0, 0, 0, 0, 0, 0, 0, 0, 0⟩, .slice none 0 0, .slice none 0 0⟩; simp only [alloc_hs7] at this; exact this)
  have HC1 := Lib.hid (hC1 W HL.out)
  have HC2 := Lib.hid hC2
  clear hC1 hC2 hD hs h1 h2 h3 hT
  have x0 : W.cell? ⟨w.heap.size, 0, none⟩ = some (.int .i64 c.h.f0) := HX.out.c0
  have x1 : W.cell? ⟨w.heap.size, 1, none⟩ = some (.int .i64 c.h.f1) := HX.out.c1
  have x2 : W.cell? ⟨w.heap.size, 2, none⟩ = some (.int .i64 c.h.f2) := HX.out.c2
  have x3 : W.cell? ⟨w.heap.size, 3, none⟩ = some (.int .i64 c.h.f3) := HX.out.c3
  have x4 : W.cell? ⟨w.heap.size, 4, none⟩ = some (.int .i64 c.h.f4) := HX.out.c4
  have x5 : W.cell? ⟨w.heap.size, 5, none⟩ = some (.int .i64 c.h.f5) := HX.out.c5
  have x6 : W.cell? ⟨w.heap.size, 6, none⟩ = some (.int .i64 c.h.pair) := HX.out.c6
  have x7 : W.cell? ⟨w.heap.size, 7, none⟩ = some (.int .i64 c.h.pl) := HX.out.c7
  have x8 : W.cell? ⟨w.heap.size, 8, none⟩ = some (.slice pa np pc) := HX.out.c8
  have x9 : W.cell? ⟨w.heap.size, 9, none⟩ = some (.int .i64 c.h.fn) := HX.out.c9
  have x10 : W.cell? ⟨w.heap.size, 10, none⟩ = some (.int .i64 c.h.fl) := HX.out.c10
  have x11 : W.cell? ⟨w.heap.size, 11, none⟩ = some (.slice fa nf fc) := HX.out.c11
  go_enter Tryd.func23, Tryd.ntmps23
  go_wp2_with fail
  rw [← HW.out]
  refine HC1.out.mono ?_
  rintro e w2 ⟨⟨u, rfl, hu⟩, hb2⟩
  obtain ⟨ua, ub, uc, ud, rfl, _, _⟩ := hu.form
  have HU := Lib.hid hu
  have HL2 := Lib.hid (HL.out.trans (hb2.mono HL.out.size))
  have HR2 := Lib.hid (HR.out.keep hb2)
  clear hu hb2 HW x0 x1 x2 x3 x4 x5 x6 x7 x8 x9 x10 x11
  go_wp2_with fail
  refine (HC2.out w2 _ HU.out).mono ?_
  rintro e w3 ⟨⟨t, rfl, ht⟩, hb3⟩
  obtain ⟨ta, tb, tc, td, rfl, _, _⟩ := ht.form
  have HT3 := Lib.hid ht
  have HL3 := Lib.hid (HL2.out.trans (hb3.mono HL2.out.size))
  have HR3 := Lib.hid (HR2.out.keep hb3)
  have HLT := Lib.hid HR2.out.lt
  clear ht hb3
  have r0 : w3.cell? ⟨(w.heap.size + 1), 0, none⟩ = some (.int .i64 0) := HR3.out.c0
  have r1 : w3.cell? ⟨(w.heap.size + 1), 1, none⟩ = some (.int .i64 0) := HR3.out.c1
  have r2 : w3.cell? ⟨(w.heap.size + 1), 2, none⟩ = some (.int .i64 0) := HR3.out.c2
  have r3 : w3.cell? ⟨(w.heap.size + 1), 3, none⟩ = some (.int .i64 0) := HR3.out.c3
  have r4 : w3.cell? ⟨(w.heap.size + 1), 4, none⟩ = some (.int .i64 0) := HR3.out.c4
  have r5 : w3.cell? ⟨(w.heap.size + 1), 5, none⟩ = some (.int .i64 0) := HR3.out.c5
  have r6 : w3.cell? ⟨(w.heap.size + 1), 6, none⟩ = some (.int .i64 0) := HR3.out.c6
  have r7 : w3.cell? ⟨(w.heap.size + 1), 7, none⟩ = some (.int .i64 0) := HR3.out.c7
  have r8 : w3.cell? ⟨(w.heap.size + 1), 8, none⟩ = some (.slice none 0 0) := HR3.out.c8
  have r9 : w3.cell? ⟨(w.heap.size + 1), 9, none⟩ = some (.int .i64 0) := HR3.out.c9
  have r10 : w3.cell? ⟨(w.heap.size + 1), 10, none⟩ = some (.int .i64 0) := HR3.out.c10
  have r11 : w3.cell? ⟨(w.heap.size + 1), 11, none⟩ = some (.slice none 0 0) := HR3.out.c11
  have fr0 : w3.frozen? ⟨(w.heap.size + 1), 0, none⟩ = false := HR3.out.fr 0
  have fr1 : w3.frozen? ⟨(w.heap.size + 1), 1, none⟩ = false := HR3.out.fr 1
  have fr2 : w3.frozen? ⟨(w.heap.size + 1), 2, none⟩ = false := HR3.out.fr 2
  have fr3 : w3.frozen? ⟨(w.heap.size + 1), 3, none⟩ = false := HR3.out.fr 3
  have fr4 : w3.frozen? ⟨(w.heap.size + 1), 4, none⟩ = false := HR3.out.fr 4
  have fr5 : w3.frozen? ⟨(w.heap.size + 1), 5, none⟩ = false := HR3.out.fr 5
  have fr6 : w3.frozen? ⟨(w.heap.size + 1), 6, none⟩ = false := HR3.out.fr 6
  have fr7 : w3.frozen? ⟨(w.heap.size + 1), 7, none⟩ = false := HR3.out.fr 7
  have fr8 : w3.frozen? ⟨(w.heap.size + 1), 8, none⟩ = false := HR3.out.fr 8
  have fr9 : w3.frozen? ⟨(w.heap.size + 1), 9, none⟩ = false := HR3.out.fr 9
  have fr10 : w3.frozen? ⟨(w.heap.size + 1), 10, none⟩ = false := HR3.out.fr 10
  have fr11 : w3.frozen? ⟨(w.heap.size + 1), 11, none⟩ = false := HR3.out.fr 11
  go_wp2
  have HBF := Lib.hid (show CBox (set12 (w3) (w.heap.size + 1) ⟨D.h, .slice ta D.pairs.length tb, .slice tc D.funs.length td⟩) (w.heap.size + 1) 25 ⟨D.h, .slice ta D.pairs.length tb, .slice tc D.funs.length td⟩ from CBox.set12 (HR3.out))
  have HPOST := Lib.hid (show FPost D w (.returned (.agg #[.int .i64 D.h.f0, .int .i64 D.h.f1, .int .i64 D.h.f2, .int .i64 D.h.f3, .int .i64 D.h.f4, .int .i64 D.h.f5, .int .i64 D.h.pair, .int .i64 D.h.pl, .slice ta D.pairs.length tb, .int .i64 D.h.fn, .int .i64 D.h.fl, .slice tc D.funs.length td])) (set12 (w3) (w.heap.size + 1) ⟨D.h, .slice ta D.pairs.length tb, .slice tc D.funs.length td⟩) from FPost.cell (w1 := w2) HT3.out (by omega) HLT.out HL3.out)
  change bodyPost _ _ _ _ _ (set12 (w3) (w.heap.size + 1) ⟨D.h, .slice ta D.pairs.length tb, .slice tc D.funs.length td⟩)
  generalize set12 (w3) (w.heap.size + 1) ⟨D.h, .slice ta D.pairs.length tb, .slice tc D.funs.length td⟩ = wf at HBF HPOST ⊢
  have z0 := HBF.out.c0; have z1 := HBF.out.c1; have z2 := HBF.out.c2; have z3 := HBF.out.c3; have z4 := HBF.out.c4; have z5 := HBF.out.c5; have z6 := HBF.out.c6; have z7 := HBF.out.c7; have z8 := HBF.out.c8; have z9 := HBF.out.c9; have z10 := HBF.out.c10; have z11 := HBF.out.c11
  clear HBF
  refine bodyPost_ret (v := .agg #[.int .i64 D.h.f0, .int .i64 D.h.f1, .int .i64 D.h.f2, .int .i64 D.h.f3, .int .i64 D.h.f4, .int .i64 D.h.f5, .int .i64 D.h.pair, .int .i64 D.h.pl, .slice ta D.pairs.length tb, .int .i64 D.h.fn, .int .i64 D.h.fl, .slice tc D.funs.length td]) ?_ ?_ ?_
  · simp [results, Tryd.results23, go_sem, z0, z1, z2, z3, z4, z5, z6, z7, z8, z9, z10, z11]
  · rfl
  · exact HPOST.out
end Go.Proofs.YtlalnkabfigodaaDoor
