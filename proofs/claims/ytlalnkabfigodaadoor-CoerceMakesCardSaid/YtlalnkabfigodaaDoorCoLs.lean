import Derived.Test.YtlalnkabfigodaaDoorCoTo
namespace Go.Proofs.YtlalnkabfigodaaDoor
open Go.Lib (hid)
open Go.RowKit

/-- may a coercion be gone through in laws? -/
def lit7 (c : Co) : Bool := thinC 30 c && lightC c
theorem lit7_thin {c : Co} (h : lit7 c = true) : Thin c := by
 unfold lit7 at h; rw [Bool.and_eq_true] at h; exact ⟨30, h.1⟩

set_option maxRecDepth 100000 in
set_option maxHeartbeats 4000000 in
theorem light7_go (c : Co) (v : Value) (w : World) (hv : CoV w v c) : Calls Tryd.prog 8 #[v] w fun e w' => e = .returned (.bool (lit7 c)) ∧ Below w.heap.size w w' := by
 have HV := hid hv
 obtain ⟨pa, pc, fa, fc, rfl, hp, hf⟩ := hv.form
 obtain ⟨np, hnp⟩ : ∃ n, n = c.pairs.length := ⟨_, rfl⟩
 obtain ⟨nf, hnf⟩ : ∃ n, n = c.funs.length := ⟨_, rfl⟩
 rw [← hnp] at hp ⊢
 rw [← hnf] at hf ⊢
 have bp : (np : Int) ≤ 9223372036854775807 := by have := hp.len; rw [← hnp] at this; unfold maxLen at this; omega
 have bf : (nf : Int) ≤ 9223372036854775807 := by have := hf.len; rw [← hnf] at this; unfold maxLen at this; omega
 obtain ⟨W, hW⟩ : ∃ W, W = w.alloc (.cells #[.int .i64 c.h.f0, .int .i64 c.h.f1, .int .i64 c.h.f2, .int .i64 c.h.f3, .int .i64 c.h.f4, .int .i64 c.h.f5, .int .i64 c.h.pair, .int .i64 c.h.pl, .slice pa np pc, .int .i64 c.h.fn, .int .i64 c.h.fl, .slice fa nf fc] 25) := ⟨_, rfl⟩
 have HX := hid (show CBox W w.heap.size 25 ⟨c.h, .slice pa np pc, .slice fa nf fc⟩ by rw [hW]; exact CBox.made _ _ ⟨c.h, .slice pa np pc, .slice fa nf fc⟩)
 have HL := hid (show Below w.heap.size w W by rw [hW]; exact bAl _ _)
 have HP := hid (CoSN.below hp HL.out)
 have HF := hid (CoSN.below hf HL.out)
 have HPN := hid hnp
 have HFN := hid hnf
 have HW := hid hW
 clear hp hf hnp hnf hW hv
 rw [← HPN.out, ← HFN.out] at HV
 replace HV := hid (HV.out.below HL.out)
 obtain ⟨z, hz⟩ : ∃ z, z = lit7 c := ⟨_, rfl⟩
 rw [← hz]
 unfold lit7 at hz
 obtain ⟨y, hy⟩ : ∃ y, y = thinC 30 c := ⟨_, rfl⟩
 rw [← hy] at hz
 have HZ := hid hz
 have HY := hid hy
 have HC := hid (fun w' h => shallow_go 30 (by omega) 30 c (.agg #[.int .i64 c.h.f0, .int .i64 c.h.f1, .int .i64 c.h.f2, .int .i64 c.h.f3, .int .i64 c.h.f4, .int .i64 c.h.f5, .int .i64 c.h.pair, .int .i64 c.h.pl, .slice pa np pc, .int .i64 c.h.fn, .int .i64 c.h.fl, .slice fa nf fc]) w' rfl h)
 rw [← hy] at HC
 clear hz hy
 obtain ⟨x0, x1, x2, x3, x4, x5, x6, x7, x8, x9, x10, x11⟩ := HX.out.cs
 (try dsimp only at x0 x1 x2 x3 x4 x5 x6 x7 x8 x9 x10 x11)
 go_enter Tryd.func8, Tryd.ntmps8
 go_upto_region 1 with fail
 rw [← HW.out]
 clear HW
 go_wp2_with fail
 refine (HC.out W HV.out).mono ?_
 rintro e w2 ⟨rfl, hb⟩
 replace HX := hid (HX.out.keep hb)
 replace HL := hid (HL.out.trans (hb.mono HL.out.size))
 replace HV := hid (HV.out.below hb)
 clear hb x0 x1 x2 x3 x4 x5 x6 x7 x8 x9 x10 x11
 cases y with
 | false =>
  have e : z = false := HZ.out
  subst e
  go_wp2
  refine bodyPost_ret (v := .bool false) ?_ ?_ ?_
  ·
   simp [results, Tryd.results8, go_sem]
  ·
   rfl
  ·
   exact ⟨rfl, HL.out⟩
 | true =>
  have e : z = lightC c := HZ.out
  subst e
  obtain ⟨x0, x1, x2, x3, x4, x5, x6, x7, x8, x9, x10, x11⟩ := HX.out.cs
  (try dsimp only at x0 x1 x2 x3 x4 x5 x6 x7 x8 x9 x10 x11)
  go_wp2_with fail
  refine (to7_go (szC c) c _ w2 NC (Nat.le_refl _) ⟨30, HY.out.symm⟩ (fun _ h => h.elim) HV.out).mono ?_
  rintro e w3 ⟨⟨u, rfl, hu⟩, hb⟩
  obtain ⟨q1, k1, q2, k2, rfl, _, _⟩ := hu.form
  have HU := hid hu
  replace HL := hid (HL.out.trans (hb.mono HL.out.size))
  clear hb hu x0 x1 x2 x3 x4 x5 x6 x7 x8 x9 x10 x11
  go_wp2_with fail
  refine (lightk_any c _ w3 HU.out).mono ?_
  rintro e w4 ⟨rfl, hb⟩
  replace HL := hid (HL.out.trans (hb.mono HL.out.size))
  clear hb
  go_wp2
  refine bodyPost_ret (v := .bool (lightC c)) ?_ ?_ ?_
  ·
   simp [results, Tryd.results8, go_sem]
  ·
   rfl
  ·
   exact ⟨rfl, HL.out⟩

set_option maxRecDepth 100000 in
set_option maxHeartbeats 4000000 in
theorem same7_go (c d : Co) (v u : Value) (w : World) (hth : Thin c) (hv : CoV w v c) (hu : CoV w u d) : Calls Tryd.prog 20 #[v, u] w fun e w' => e = .returned (.bool (sameC c d)) ∧ Below w.heap.size w w' := by
 have HV := hid hv
 have HU := hid hu
 have HTH := hid hth
 obtain ⟨pa, pc, fa, fc, rfl, hp, hf⟩ := hv.form
 obtain ⟨qa, qc, ga, gc, rfl, hq, hg⟩ := hu.form
 obtain ⟨np, hnp⟩ : ∃ n, n = c.pairs.length := ⟨_, rfl⟩
 obtain ⟨nf, hnf⟩ : ∃ n, n = c.funs.length := ⟨_, rfl⟩
 obtain ⟨mp, hmp⟩ : ∃ n, n = d.pairs.length := ⟨_, rfl⟩
 obtain ⟨mf, hmf⟩ : ∃ n, n = d.funs.length := ⟨_, rfl⟩
 rw [← hnp, ← hnf] at HV ⊢
 rw [← hmp, ← hmf] at HU ⊢
 obtain ⟨W, hW⟩ : ∃ W, W = (w.alloc (.cells #[.int .i64 c.h.f0, .int .i64 c.h.f1, .int .i64 c.h.f2, .int .i64 c.h.f3, .int .i64 c.h.f4, .int .i64 c.h.f5, .int .i64 c.h.pair, .int .i64 c.h.pl, .slice pa np pc, .int .i64 c.h.fn, .int .i64 c.h.fl, .slice fa nf fc] 25)).alloc (.cells #[.int .i64 d.h.f0, .int .i64 d.h.f1, .int .i64 d.h.f2, .int .i64 d.h.f3, .int .i64 d.h.f4, .int .i64 d.h.f5, .int .i64 d.h.pair, .int .i64 d.h.pl, .slice qa mp qc, .int .i64 d.h.fn, .int .i64 d.h.fl, .slice ga mf gc] 30) := ⟨_, rfl⟩
 have HX := hid (show CBox W w.heap.size 25 ⟨c.h, .slice pa np pc, .slice fa nf fc⟩ by rw [hW]; exact (CBox.made _ _ ⟨c.h, .slice pa np pc, .slice fa nf fc⟩).keep (bAl _ _))
 have HY := hid (show CBox W (w.heap.size + 1) 30 ⟨d.h, .slice qa mp qc, .slice ga mf gc⟩ by rw [hW]; have := CBox.made (w.alloc (.cells #[.int .i64 c.h.f0, .int .i64 c.h.f1, .int .i64 c.h.f2, .int .i64 c.h.f3, .int .i64 c.h.f4, .int .i64 c.h.f5, .int .i64 c.h.pair, .int .i64 c.h.pl, .slice pa np pc, .int .i64 c.h.fn, .int .i64 c.h.fl, .slice fa nf fc] 25)) 30 ⟨d.h, .slice qa mp qc, .slice ga mf gc⟩; simpa using this)
 have HL := hid (show Below w.heap.size w W by rw [hW]; exact (bAl _ _).alloc (by simp) _)
 replace HV := hid (HV.out.below HL.out)
 replace HU := hid (HU.out.below HL.out)
 have HXL := hid HX.out.lt
 have HYL := hid HY.out.lt
 have HW := hid hW
 clear hth hp hf hq hg hv hu hnp hnf hmp hmf hW
 obtain ⟨x0, x1, x2, x3, x4, x5, x6, x7, x8, x9, x10, x11⟩ := HX.out.cs
 (try dsimp only at x0 x1 x2 x3 x4 x5 x6 x7 x8 x9 x10 x11)
 obtain ⟨y0, y1, y2, y3, y4, y5, y6, y7, y8, y9, y10, y11⟩ := HY.out.cs
 (try dsimp only at y0 y1 y2 y3 y4 y5 y6 y7 y8 y9 y10 y11)
 go_enter Tryd.func20, Tryd.ntmps20
 go_upto_region 1 with fail
 rw [← HW.out]
 clear HW
 (try dsimp only [List.append])
 refine wp_region_noPanic ?_
 refine wp_region_held_drew (S := (fun w' => Below W.heap.size W w')) (by kernel_rfl) (by (try dsimp only); exact (Below.refl _ _).drew) (fun hHeld => ?_)
 have HB := hid (show Below W.heap.size W W.drew from (Below.refl _ _).drew)
 generalize W.drew = wd at hHeld HB ⊢
 refine' tk_q 0 5 hHeld ?hi0 ?hr0
 case hi0 => (refine ⟨_, rfl, rfl, rfl, fun wz hSw => ?_⟩; (try dsimp only at hSw); have a0 := (Below.cell hSw (p := ⟨w.heap.size, 0, none⟩) HXL.out).trans x0; have b0 := (Below.cell hSw (p := ⟨w.heap.size + 1, 0, none⟩) HYL.out).trans y0; have a1 := (Below.cell hSw (p := ⟨w.heap.size, 1, none⟩) HXL.out).trans x1; have b1 := (Below.cell hSw (p := ⟨w.heap.size + 1, 1, none⟩) HYL.out).trans y1; have a2 := (Below.cell hSw (p := ⟨w.heap.size, 2, none⟩) HXL.out).trans x2; have b2 := (Below.cell hSw (p := ⟨w.heap.size + 1, 2, none⟩) HYL.out).trans y2; have a3 := (Below.cell hSw (p := ⟨w.heap.size, 3, none⟩) HXL.out).trans x3; have b3 := (Below.cell hSw (p := ⟨w.heap.size + 1, 3, none⟩) HYL.out).trans y3; have a4 := (Below.cell hSw (p := ⟨w.heap.size, 4, none⟩) HXL.out).trans x4; have b4 := (Below.cell hSw (p := ⟨w.heap.size + 1, 4, none⟩) HYL.out).trans y4; have a5 := (Below.cell hSw (p := ⟨w.heap.size, 5, none⟩) HXL.out).trans x5; have b5 := (Below.cell hSw (p := ⟨w.heap.size + 1, 5, none⟩) HYL.out).trans y5; have a6 := (Below.cell hSw (p := ⟨w.heap.size, 6, none⟩) HXL.out).trans x6; have b6 := (Below.cell hSw (p := ⟨w.heap.size + 1, 6, none⟩) HYL.out).trans y6; have a7 := (Below.cell hSw (p := ⟨w.heap.size, 7, none⟩) HXL.out).trans x7; have b7 := (Below.cell hSw (p := ⟨w.heap.size + 1, 7, none⟩) HYL.out).trans y7; have a8 := (Below.cell hSw (p := ⟨w.heap.size, 8, none⟩) HXL.out).trans x8; have b8 := (Below.cell hSw (p := ⟨w.heap.size + 1, 8, none⟩) HYL.out).trans y8; have a9 := (Below.cell hSw (p := ⟨w.heap.size, 9, none⟩) HXL.out).trans x9; have b9 := (Below.cell hSw (p := ⟨w.heap.size + 1, 9, none⟩) HYL.out).trans y9; have a10 := (Below.cell hSw (p := ⟨w.heap.size, 10, none⟩) HXL.out).trans x10; have b10 := (Below.cell hSw (p := ⟨w.heap.size + 1, 10, none⟩) HYL.out).trans y10; have a11 := (Below.cell hSw (p := ⟨w.heap.size, 11, none⟩) HXL.out).trans x11; have b11 := (Below.cell hSw (p := ⟨w.heap.size + 1, 11, none⟩) HYL.out).trans y11; go_simp; (try with_reducible rfl))
 (try simp only [pq1, ls0, ls1])
 refine' tk_q 2 7 hHeld ?hi1 ?hr1
 case hi1 => (refine ⟨_, rfl, rfl, rfl, fun wz hSw => ?_⟩; (try dsimp only at hSw); have a0 := (Below.cell hSw (p := ⟨w.heap.size, 0, none⟩) HXL.out).trans x0; have b0 := (Below.cell hSw (p := ⟨w.heap.size + 1, 0, none⟩) HYL.out).trans y0; have a1 := (Below.cell hSw (p := ⟨w.heap.size, 1, none⟩) HXL.out).trans x1; have b1 := (Below.cell hSw (p := ⟨w.heap.size + 1, 1, none⟩) HYL.out).trans y1; have a2 := (Below.cell hSw (p := ⟨w.heap.size, 2, none⟩) HXL.out).trans x2; have b2 := (Below.cell hSw (p := ⟨w.heap.size + 1, 2, none⟩) HYL.out).trans y2; have a3 := (Below.cell hSw (p := ⟨w.heap.size, 3, none⟩) HXL.out).trans x3; have b3 := (Below.cell hSw (p := ⟨w.heap.size + 1, 3, none⟩) HYL.out).trans y3; have a4 := (Below.cell hSw (p := ⟨w.heap.size, 4, none⟩) HXL.out).trans x4; have b4 := (Below.cell hSw (p := ⟨w.heap.size + 1, 4, none⟩) HYL.out).trans y4; have a5 := (Below.cell hSw (p := ⟨w.heap.size, 5, none⟩) HXL.out).trans x5; have b5 := (Below.cell hSw (p := ⟨w.heap.size + 1, 5, none⟩) HYL.out).trans y5; have a6 := (Below.cell hSw (p := ⟨w.heap.size, 6, none⟩) HXL.out).trans x6; have b6 := (Below.cell hSw (p := ⟨w.heap.size + 1, 6, none⟩) HYL.out).trans y6; have a7 := (Below.cell hSw (p := ⟨w.heap.size, 7, none⟩) HXL.out).trans x7; have b7 := (Below.cell hSw (p := ⟨w.heap.size + 1, 7, none⟩) HYL.out).trans y7; have a8 := (Below.cell hSw (p := ⟨w.heap.size, 8, none⟩) HXL.out).trans x8; have b8 := (Below.cell hSw (p := ⟨w.heap.size + 1, 8, none⟩) HYL.out).trans y8; have a9 := (Below.cell hSw (p := ⟨w.heap.size, 9, none⟩) HXL.out).trans x9; have b9 := (Below.cell hSw (p := ⟨w.heap.size + 1, 9, none⟩) HYL.out).trans y9; have a10 := (Below.cell hSw (p := ⟨w.heap.size, 10, none⟩) HXL.out).trans x10; have b10 := (Below.cell hSw (p := ⟨w.heap.size + 1, 10, none⟩) HYL.out).trans y10; have a11 := (Below.cell hSw (p := ⟨w.heap.size, 11, none⟩) HXL.out).trans x11; have b11 := (Below.cell hSw (p := ⟨w.heap.size + 1, 11, none⟩) HYL.out).trans y11; go_simp; (try with_reducible rfl))
 (try simp only [pq1, ls0, ls1])
 refine' tk_call 1 ?hi2 (by kernel_rfl) ?hr2
 case hi2 => rfl
 intro K hK
 go_simp
 go_at_call 9
 refine (to7_go (szC c) c _ wd NC (Nat.le_refl _) HTH.out (fun _ h => h.elim) (HV.out.below HB.out)).mono ?_
 rintro e w2 ⟨⟨u, rfl, hu⟩, hb⟩
 obtain ⟨r1, k1, r2, k2, rfl, _, _⟩ := hu.form
 have HT := hid hu
 replace HB := hid (HB.out.trans (hb.mono HB.out.size))
 clear hu hb
 go_wp2_with fail
 clear hHeld
 refine hK.out _ _ (by (try dsimp only); exact HB.out) (fun hHeld => ?_)
 clear hK K
 (try simp only [pq1, ls0, ls1])
 refine' tk_call 3 ?hi3 (by kernel_rfl) ?hr3
 case hi3 => rfl
 intro K hK
 go_simp
 go_at_call 13
 refine (rsame_go (szC c) c d _ _ w2 (Nat.le_refl _) HT.out (HU.out.below HB.out)).mono ?_
 rintro e w3 ⟨rfl, hb⟩
 replace HB := hid (HB.out.trans (hb.mono HB.out.size))
 clear hb
 go_wp2_with fail
 clear hHeld
 refine hK.out _ _ (by (try dsimp only); exact HB.out) (fun hHeld => ?_)
 clear hK K
 (try simp only [pq1, ls0, ls1])
 refine' tk_q 4 4 hHeld ?hi4 ?hr4
 case hi4 => (refine ⟨_, rfl, rfl, rfl, fun w hSw => ?_⟩; (try dsimp only at hSw); go_simp; (try with_reducible rfl))
 (try simp only [pq1, ls0, ls1])
 refine wpAnyH_done (by kernel_rfl) ?_ _
 refine NoPanic.normal ?_
 replace HL := hid (HL.out.trans (HB.out.mono HL.out.size))
 go_wp2
 refine bodyPost_ret (v := .bool (sameC c d)) ?_ ?_ ?_
 ·
  simp [results, Tryd.results20, go_sem]
 ·
  rfl
 ·
  exact ⟨rfl, HL.out⟩
end Go.Proofs.YtlalnkabfigodaaDoor
