import Derived.Test.YtlalnkabfigodaaDoorCoTo
namespace Go.Proofs.YtlalnkabfigodaaDoor
open Go.RowKit

/-- may a coercion be gone through in laws? -/
def lit7 (c : Co) : Bool := thinC 30 c && lightC c
theorem lit7_thin {c : Co} (h : lit7 c = true) : Thin c := by
  unfold lit7 at h; rw [Bool.and_eq_true] at h; exact ⟨30, h.1⟩

set_option maxRecDepth 100000 in
set_option maxHeartbeats 4000000 in
theorem light7_go (c : Co) (v : Value) (w : World) (hv : CoV w v c) : Calls Tryd.prog 8 #[v] w fun e w' => e = .returned (.bool (lit7 c)) ∧ Below w.heap.size w w' := by
  have HV := Lib.hid hv
  obtain ⟨pa, pc, fa, fc, rfl, hp, hf⟩ := hv.form
  obtain ⟨np, hnp⟩ : ∃ n, n = c.pairs.length := ⟨_, rfl⟩
  obtain ⟨nf, hnf⟩ : ∃ n, n = c.funs.length := ⟨_, rfl⟩
  rw [← hnp] at hp ⊢
  rw [← hnf] at hf ⊢
  have bp : (np : Int) ≤ 9223372036854775807 := by have := hp.len; rw [← hnp] at this; unfold maxLen at this; omega
  have bf : (nf : Int) ≤ 9223372036854775807 := by have := hf.len; rw [← hnf] at this; unfold maxLen at this; omega
  obtain ⟨W, hW⟩ : ∃ W, W = w.alloc (.cells #[.int .i64 c.h.f0, .int .i64 c.h.f1, .int .i64 c.h.f2, .int .i64 c.h.f3, .int .i64 c.h.f4, .int .i64 c.h.f5, .int .i64 c.h.pair, .int .i64 c.h.pl, .slice pa np pc, .int .i64 c.h.fn, .int .i64 c.h.fl, .slice fa nf fc] 25) := ⟨_, rfl⟩
  have HX := Lib.hid (show CBox W w.heap.size 25 ⟨c.h, .slice pa np pc, .slice fa nf fc⟩ by rw [hW]; exact CBox.made _ _ ⟨c.h, .slice pa np pc, .slice fa nf fc⟩)
  have HL := Lib.hid (show Below w.heap.size w W by rw [hW]; exact (Below.refl _ _).alloc (Nat.le_refl _) _)
  have HP := Lib.hid (CoSN.below hp HL.out)
  have HF := Lib.hid (CoSN.below hf HL.out)
  have HPN := Lib.hid hnp
  have HFN := Lib.hid hnf
  have HW := Lib.hid hW
  clear hp hf hnp hnf hW hv
  rw [← HPN.out, ← HFN.out] at HV
  replace HV := Lib.hid (HV.out.below HL.out)
  obtain ⟨z, hz⟩ : ∃ z, z = lit7 c := ⟨_, rfl⟩
  rw [← hz]
  unfold lit7 at hz
  obtain ⟨y, hy⟩ : ∃ y, y = thinC 30 c := ⟨_, rfl⟩
  rw [← hy] at hz
  have HZ := Lib.hid hz
  have HY := Lib.hid hy
  have HC := Lib.hid (fun w' h => shallow_go 30 (by omega) 30 c (.agg #[.int .i64 c.h.f0, .int .i64 c.h.f1, .int .i64 c.h.f2, .int .i64 c.h.f3, .int .i64 c.h.f4, .int .i64 c.h.f5, .int .i64 c.h.pair, .int .i64 c.h.pl, .slice pa np pc, .int .i64 c.h.fn, .int .i64 c.h.fl, .slice fa nf fc]) w' rfl h)
  rw [← hy] at HC
  clear hz hy
  have x0 : W.cell? ⟨w.heap.size, 0, none⟩ = some (.int .i64 c.h.f0) := HX.out.c0
  have x1 : W.cell? ⟨w.heap.size, 1, none⟩ = some (.int .i64 c.h.f1) := HX.out.c1
  have x2 : W.cell? ⟨w.heap.size, 2, none⟩ = some (.int .i64 c.h.f2) := HX.out.c2
  have x3 : W.cell? ⟨w.heap.size, 3, none⟩ = some (.int .i64 c.h.f3) := HX.out.c3
  have x4 : W.cell? ⟨w.heap.size, 4, none⟩ = some (.int .i64 c.h.f4) := HX.out.c4
  have x5 : W.cell? ⟨w.heap.size, 5, none⟩ = some (.int .i64 c.h.f5) := HX.out.c5
  have x6 : W.cell? ⟨w.heap.size, 6, none⟩ = some (.int .i64 c.h.pair) := HX.out.c6
  have x7 : W.cell? ⟨w.heap.size, 7, none⟩ = some (.int .i64 c.h.pl) := HX.out.c7
  have x8 : W.cell? ⟨w.heap.size, 8, none⟩ = some (.slice pa np pc) := HX.out.c8
  have x9 : W.cell? ⟨w.heap.size, 9, none⟩ = some (.int .i64 c.h.fn) := HX.out.c9
  have x10 : W.cell? ⟨w.heap.size, 10, none⟩ = some (.int .i64 c.h.fl) := HX.out.c10
  have x11 : W.cell? ⟨w.heap.size, 11, none⟩ = some (.slice fa nf fc) := HX.out.c11
  go_enter Tryd.func8, Tryd.ntmps8
  go_upto_region 1 with fail
  rw [← HW.out]
  clear HW
  go_wp2_with fail
  refine (HC.out W HV.out).mono ?_
  rintro e w2 ⟨rfl, hb⟩
  replace HX := Lib.hid (HX.out.keep hb)
  replace HL := Lib.hid (HL.out.trans (hb.mono HL.out.size))
  replace HV := Lib.hid (HV.out.below hb)
  clear hb x0 x1 x2 x3 x4 x5 x6 x7 x8 x9 x10 x11
  cases y with
  | false =>
    have e : z = false := HZ.out
    subst e
    go_wp2
    refine bodyPost_ret (v := .bool false) ?_ ?_ ?_
    · simp [results, Tryd.results8, go_sem]
    · rfl
    · exact ⟨rfl, HL.out⟩
  | true =>
    have e : z = lightC c := HZ.out
    subst e
    have x0 : w2.cell? ⟨w.heap.size, 0, none⟩ = some (.int .i64 c.h.f0) := HX.out.c0
    have x1 : w2.cell? ⟨w.heap.size, 1, none⟩ = some (.int .i64 c.h.f1) := HX.out.c1
    have x2 : w2.cell? ⟨w.heap.size, 2, none⟩ = some (.int .i64 c.h.f2) := HX.out.c2
    have x3 : w2.cell? ⟨w.heap.size, 3, none⟩ = some (.int .i64 c.h.f3) := HX.out.c3
    have x4 : w2.cell? ⟨w.heap.size, 4, none⟩ = some (.int .i64 c.h.f4) := HX.out.c4
    have x5 : w2.cell? ⟨w.heap.size, 5, none⟩ = some (.int .i64 c.h.f5) := HX.out.c5
    have x6 : w2.cell? ⟨w.heap.size, 6, none⟩ = some (.int .i64 c.h.pair) := HX.out.c6
    have x7 : w2.cell? ⟨w.heap.size, 7, none⟩ = some (.int .i64 c.h.pl) := HX.out.c7
    have x8 : w2.cell? ⟨w.heap.size, 8, none⟩ = some (.slice pa np pc) := HX.out.c8
    have x9 : w2.cell? ⟨w.heap.size, 9, none⟩ = some (.int .i64 c.h.fn) := HX.out.c9
    have x10 : w2.cell? ⟨w.heap.size, 10, none⟩ = some (.int .i64 c.h.fl) := HX.out.c10
    have x11 : w2.cell? ⟨w.heap.size, 11, none⟩ = some (.slice fa nf fc) := HX.out.c11
    go_wp2_with fail
    refine (to7_go (szC c) c _ w2 NC (Nat.le_refl _) ⟨30, HY.out.symm⟩ (fun _ h => h.elim) HV.out).mono ?_
    rintro e w3 ⟨⟨u, rfl, hu⟩, hb⟩
    obtain ⟨q1, k1, q2, k2, rfl, _, _⟩ := hu.form
    have HU := Lib.hid hu
    replace HL := Lib.hid (HL.out.trans (hb.mono HL.out.size))
    clear hb hu x0 x1 x2 x3 x4 x5 x6 x7 x8 x9 x10 x11
    go_wp2_with fail
    refine (lightk_any c _ w3 HU.out).mono ?_
    rintro e w4 ⟨rfl, hb⟩
    replace HL := Lib.hid (HL.out.trans (hb.mono HL.out.size))
    clear hb
    go_wp2
    refine bodyPost_ret (v := .bool (lightC c)) ?_ ?_ ?_
    · simp [results, Tryd.results8, go_sem]
    · rfl
    · exact ⟨rfl, HL.out⟩

set_option maxRecDepth 100000 in
set_option maxHeartbeats 4000000 in
theorem same7_go (c d : Co) (v u : Value) (w : World) (hth : Thin c) (hv : CoV w v c) (hu : CoV w u d) : Calls Tryd.prog 20 #[v, u] w fun e w' => e = .returned (.bool (sameC c d)) ∧ Below w.heap.size w w' := by
  have HV := Lib.hid hv
  have HU := Lib.hid hu
  have HTH := Lib.hid hth
  obtain ⟨pa, pc, fa, fc, rfl, hp, hf⟩ := hv.form
  obtain ⟨qa, qc, ga, gc, rfl, hq, hg⟩ := hu.form
  obtain ⟨np, hnp⟩ : ∃ n, n = c.pairs.length := ⟨_, rfl⟩
  obtain ⟨nf, hnf⟩ : ∃ n, n = c.funs.length := ⟨_, rfl⟩
  obtain ⟨mp, hmp⟩ : ∃ n, n = d.pairs.length := ⟨_, rfl⟩
  obtain ⟨mf, hmf⟩ : ∃ n, n = d.funs.length := ⟨_, rfl⟩
  rw [← hnp, ← hnf] at HV ⊢
  rw [← hmp, ← hmf] at HU ⊢
  obtain ⟨W, hW⟩ : ∃ W, W = (w.alloc (.cells #[.int .i64 c.h.f0, .int .i64 c.h.f1, .int .i64 c.h.f2, .int .i64 c.h.f3, .int .i64 c.h.f4, .int .i64 c.h.f5, .int .i64 c.h.pair, .int .i64 c.h.pl, .slice pa np pc, .int .i64 c.h.fn, .int .i64 c.h.fl, .slice fa nf fc] 25)).alloc (.cells #[.int .i64 d.h.f0, .int .i64 d.h.f1, .int .i64 d.h.f2, .int .i64 d.h.f3, .int .i64 d.h.f4, .int .i64 d.h.f5, .int .i64 d.h.pair, .int .i64 d.h.pl, .slice qa mp qc, .int .i64 d.h.fn, .int .i64 d.h.fl, .slice ga mf gc] 30) := ⟨_, rfl⟩
  have HX := Lib.hid (show CBox W w.heap.size 25 ⟨c.h, .slice pa np pc, .slice fa nf fc⟩ by rw [hW]; exact (CBox.made _ _ ⟨c.h, .slice pa np pc, .slice fa nf fc⟩).keep ((Below.refl _ _).alloc (Nat.le_refl _) _))
  have HY := Lib.hid (show CBox W (w.heap.size + 1) 30 ⟨d.h, .slice qa mp qc, .slice ga mf gc⟩ by rw [hW]; have := CBox.made (w.alloc (.cells #[.int .i64 c.h.f0, .int .i64 c.h.f1, .int .i64 c.h.f2, .int .i64 c.h.f3, .int .i64 c.h.f4, .int .i64 c.h.f5, .int .i64 c.h.pair, .int .i64 c.h.pl, .slice pa np pc, .int .i64 c.h.fn, .int .i64 c.h.fl, .slice fa nf fc] 25)) 30 ⟨d.h, .slice qa mp qc, .slice ga mf gc⟩; simpa using this)
  have HL := Lib.hid (show Below w.heap.size w W by rw [hW]; exact ((Below.refl _ _).alloc (Nat.le_refl _) _).alloc (by simp) _)
  replace HV := Lib.hid (HV.out.below HL.out)
  replace HU := Lib.hid (HU.out.below HL.out)
  have HXL := Lib.hid HX.out.lt
  have HYL := Lib.hid HY.out.lt
  have HW := Lib.hid hW
  clear hth hp hf hq hg hv hu hnp hnf hmp hmf hW
  have x0 : W.cell? ⟨w.heap.size, 0, none⟩ = some (.int .i64 c.h.f0) := HX.out.c0
  have x1 : W.cell? ⟨w.heap.size, 1, none⟩ = some (.int .i64 c.h.f1) := HX.out.c1
  have x2 : W.cell? ⟨w.heap.size, 2, none⟩ = some (.int .i64 c.h.f2) := HX.out.c2
  have x3 : W.cell? ⟨w.heap.size, 3, none⟩ = some (.int .i64 c.h.f3) := HX.out.c3
  have x4 : W.cell? ⟨w.heap.size, 4, none⟩ = some (.int .i64 c.h.f4) := HX.out.c4
  have x5 : W.cell? ⟨w.heap.size, 5, none⟩ = some (.int .i64 c.h.f5) := HX.out.c5
  have x6 : W.cell? ⟨w.heap.size, 6, none⟩ = some (.int .i64 c.h.pair) := HX.out.c6
  have x7 : W.cell? ⟨w.heap.size, 7, none⟩ = some (.int .i64 c.h.pl) := HX.out.c7
  have x8 : W.cell? ⟨w.heap.size, 8, none⟩ = some (.slice pa np pc) := HX.out.c8
  have x9 : W.cell? ⟨w.heap.size, 9, none⟩ = some (.int .i64 c.h.fn) := HX.out.c9
  have x10 : W.cell? ⟨w.heap.size, 10, none⟩ = some (.int .i64 c.h.fl) := HX.out.c10
  have x11 : W.cell? ⟨w.heap.size, 11, none⟩ = some (.slice fa nf fc) := HX.out.c11
  have y0 : W.cell? ⟨(w.heap.size + 1), 0, none⟩ = some (.int .i64 d.h.f0) := HY.out.c0
  have y1 : W.cell? ⟨(w.heap.size + 1), 1, none⟩ = some (.int .i64 d.h.f1) := HY.out.c1
  have y2 : W.cell? ⟨(w.heap.size + 1), 2, none⟩ = some (.int .i64 d.h.f2) := HY.out.c2
  have y3 : W.cell? ⟨(w.heap.size + 1), 3, none⟩ = some (.int .i64 d.h.f3) := HY.out.c3
  have y4 : W.cell? ⟨(w.heap.size + 1), 4, none⟩ = some (.int .i64 d.h.f4) := HY.out.c4
  have y5 : W.cell? ⟨(w.heap.size + 1), 5, none⟩ = some (.int .i64 d.h.f5) := HY.out.c5
  have y6 : W.cell? ⟨(w.heap.size + 1), 6, none⟩ = some (.int .i64 d.h.pair) := HY.out.c6
  have y7 : W.cell? ⟨(w.heap.size + 1), 7, none⟩ = some (.int .i64 d.h.pl) := HY.out.c7
  have y8 : W.cell? ⟨(w.heap.size + 1), 8, none⟩ = some (.slice qa mp qc) := HY.out.c8
  have y9 : W.cell? ⟨(w.heap.size + 1), 9, none⟩ = some (.int .i64 d.h.fn) := HY.out.c9
  have y10 : W.cell? ⟨(w.heap.size + 1), 10, none⟩ = some (.int .i64 d.h.fl) := HY.out.c10
  have y11 : W.cell? ⟨(w.heap.size + 1), 11, none⟩ = some (.slice ga mf gc) := HY.out.c11
  go_enter Tryd.func20, Tryd.ntmps20
  go_upto_region 1 with fail
  rw [← HW.out]
  clear HW
  (try dsimp only [List.append])
  refine wp_region_noPanic ?_
  refine wp_region_held_drew (S := (fun w' => Below W.heap.size W w')) (by kernel_rfl) (by (try dsimp only); exact (Below.refl _ _).drew) (fun hHeld => ?_)
  have HB := Lib.hid (show Below W.heap.size W W.drew from (Below.refl _ _).drew)
  generalize W.drew = wd at hHeld HB ⊢
  refine' tk_any 0 5 (v := _) ?hi72001 ?hd72001 (by kernel_rfl) (by kernel_rfl) (by kernel_rfl) (fun _ _ _ h => h) ?hy72001 hHeld ?hr72001
  case hi72001 => (simp only [List.getElem?_toArray, List.getElem?_cons_zero]; rfl)
  case hd72001 => rfl
  case hy72001 =>
    refine' Or.inl ⟨?hw72001, ?hx72001⟩
    case hw72001 => rfl
    case hx72001 => (intro wz hSw; (try dsimp only at hSw); have a0 := (Below.cell hSw (p := ⟨w.heap.size, 0, none⟩) HXL.out).trans x0; have b0 := (Below.cell hSw (p := ⟨w.heap.size + 1, 0, none⟩) HYL.out).trans y0; have a1 := (Below.cell hSw (p := ⟨w.heap.size, 1, none⟩) HXL.out).trans x1; have b1 := (Below.cell hSw (p := ⟨w.heap.size + 1, 1, none⟩) HYL.out).trans y1; have a2 := (Below.cell hSw (p := ⟨w.heap.size, 2, none⟩) HXL.out).trans x2; have b2 := (Below.cell hSw (p := ⟨w.heap.size + 1, 2, none⟩) HYL.out).trans y2; have a3 := (Below.cell hSw (p := ⟨w.heap.size, 3, none⟩) HXL.out).trans x3; have b3 := (Below.cell hSw (p := ⟨w.heap.size + 1, 3, none⟩) HYL.out).trans y3; have a4 := (Below.cell hSw (p := ⟨w.heap.size, 4, none⟩) HXL.out).trans x4; have b4 := (Below.cell hSw (p := ⟨w.heap.size + 1, 4, none⟩) HYL.out).trans y4; have a5 := (Below.cell hSw (p := ⟨w.heap.size, 5, none⟩) HXL.out).trans x5; have b5 := (Below.cell hSw (p := ⟨w.heap.size + 1, 5, none⟩) HYL.out).trans y5; have a6 := (Below.cell hSw (p := ⟨w.heap.size, 6, none⟩) HXL.out).trans x6; have b6 := (Below.cell hSw (p := ⟨w.heap.size + 1, 6, none⟩) HYL.out).trans y6; have a7 := (Below.cell hSw (p := ⟨w.heap.size, 7, none⟩) HXL.out).trans x7; have b7 := (Below.cell hSw (p := ⟨w.heap.size + 1, 7, none⟩) HYL.out).trans y7; have a8 := (Below.cell hSw (p := ⟨w.heap.size, 8, none⟩) HXL.out).trans x8; have b8 := (Below.cell hSw (p := ⟨w.heap.size + 1, 8, none⟩) HYL.out).trans y8; have a9 := (Below.cell hSw (p := ⟨w.heap.size, 9, none⟩) HXL.out).trans x9; have b9 := (Below.cell hSw (p := ⟨w.heap.size + 1, 9, none⟩) HYL.out).trans y9; have a10 := (Below.cell hSw (p := ⟨w.heap.size, 10, none⟩) HXL.out).trans x10; have b10 := (Below.cell hSw (p := ⟨w.heap.size + 1, 10, none⟩) HYL.out).trans y10; have a11 := (Below.cell hSw (p := ⟨w.heap.size, 11, none⟩) HXL.out).trans x11; have b11 := (Below.cell hSw (p := ⟨w.heap.size + 1, 11, none⟩) HYL.out).trans y11; go_simp; (try with_reducible rfl))
  (try simp only [Act.put, List.setIfInBounds_toArray, List.set_cons_zero, List.set_cons_succ])
  refine' tk_any 2 7 (v := _) ?hi72002 ?hd72002 (by kernel_rfl) (by kernel_rfl) (by kernel_rfl) (fun _ _ _ h => h) ?hy72002 hHeld ?hr72002
  case hi72002 => (simp only [List.getElem?_toArray, List.getElem?_cons_succ, List.getElem?_cons_zero]; rfl)
  case hd72002 => rfl
  case hy72002 =>
    refine' Or.inl ⟨?hw72002, ?hx72002⟩
    case hw72002 => rfl
    case hx72002 => (intro wz hSw; (try dsimp only at hSw); have a0 := (Below.cell hSw (p := ⟨w.heap.size, 0, none⟩) HXL.out).trans x0; have b0 := (Below.cell hSw (p := ⟨w.heap.size + 1, 0, none⟩) HYL.out).trans y0; have a1 := (Below.cell hSw (p := ⟨w.heap.size, 1, none⟩) HXL.out).trans x1; have b1 := (Below.cell hSw (p := ⟨w.heap.size + 1, 1, none⟩) HYL.out).trans y1; have a2 := (Below.cell hSw (p := ⟨w.heap.size, 2, none⟩) HXL.out).trans x2; have b2 := (Below.cell hSw (p := ⟨w.heap.size + 1, 2, none⟩) HYL.out).trans y2; have a3 := (Below.cell hSw (p := ⟨w.heap.size, 3, none⟩) HXL.out).trans x3; have b3 := (Below.cell hSw (p := ⟨w.heap.size + 1, 3, none⟩) HYL.out).trans y3; have a4 := (Below.cell hSw (p := ⟨w.heap.size, 4, none⟩) HXL.out).trans x4; have b4 := (Below.cell hSw (p := ⟨w.heap.size + 1, 4, none⟩) HYL.out).trans y4; have a5 := (Below.cell hSw (p := ⟨w.heap.size, 5, none⟩) HXL.out).trans x5; have b5 := (Below.cell hSw (p := ⟨w.heap.size + 1, 5, none⟩) HYL.out).trans y5; have a6 := (Below.cell hSw (p := ⟨w.heap.size, 6, none⟩) HXL.out).trans x6; have b6 := (Below.cell hSw (p := ⟨w.heap.size + 1, 6, none⟩) HYL.out).trans y6; have a7 := (Below.cell hSw (p := ⟨w.heap.size, 7, none⟩) HXL.out).trans x7; have b7 := (Below.cell hSw (p := ⟨w.heap.size + 1, 7, none⟩) HYL.out).trans y7; have a8 := (Below.cell hSw (p := ⟨w.heap.size, 8, none⟩) HXL.out).trans x8; have b8 := (Below.cell hSw (p := ⟨w.heap.size + 1, 8, none⟩) HYL.out).trans y8; have a9 := (Below.cell hSw (p := ⟨w.heap.size, 9, none⟩) HXL.out).trans x9; have b9 := (Below.cell hSw (p := ⟨w.heap.size + 1, 9, none⟩) HYL.out).trans y9; have a10 := (Below.cell hSw (p := ⟨w.heap.size, 10, none⟩) HXL.out).trans x10; have b10 := (Below.cell hSw (p := ⟨w.heap.size + 1, 10, none⟩) HYL.out).trans y10; have a11 := (Below.cell hSw (p := ⟨w.heap.size, 11, none⟩) HXL.out).trans x11; have b11 := (Below.cell hSw (p := ⟨w.heap.size + 1, 11, none⟩) HYL.out).trans y11; go_simp; (try with_reducible rfl))
  (try simp only [Act.put, List.setIfInBounds_toArray, List.set_cons_zero, List.set_cons_succ])
  refine' tk_call 1 ?hi72003 (by kernel_rfl) ?hr72003
  case hi72003 => (simp only [List.getElem?_toArray, List.getElem?_cons_succ, List.getElem?_cons_zero]; rfl)
  intro K hK
  go_simp
  go_at_call 9
  refine (to7_go (szC c) c _ wd NC (Nat.le_refl _) HTH.out (fun _ h => h.elim) (HV.out.below HB.out)).mono ?_
  rintro e w2 ⟨⟨u, rfl, hu⟩, hb⟩
  obtain ⟨r1, k1, r2, k2, rfl, _, _⟩ := hu.form
  have HT := Lib.hid hu
  replace HB := Lib.hid (HB.out.trans (hb.mono HB.out.size))
  clear hu hb
  go_wp2_with fail
  clear hHeld
  refine hK.out _ _ (by (try dsimp only); exact HB.out) (fun hHeld => ?_)
  clear hK K
  (try simp only [Act.put, List.setIfInBounds_toArray, List.set_cons_zero, List.set_cons_succ])
  refine' tk_call 3 ?hi72004 (by kernel_rfl) ?hr72004
  case hi72004 => (simp only [List.getElem?_toArray, List.getElem?_cons_succ, List.getElem?_cons_zero]; rfl)
  intro K hK
  go_simp
  go_at_call 13
  refine (rsame_go (szC c) c d _ _ w2 (Nat.le_refl _) HT.out (HU.out.below HB.out)).mono ?_
  rintro e w3 ⟨rfl, hb⟩
  replace HB := Lib.hid (HB.out.trans (hb.mono HB.out.size))
  clear hb
  go_wp2_with fail
  clear hHeld
  refine hK.out _ _ (by (try dsimp only); exact HB.out) (fun hHeld => ?_)
  clear hK K
  (try simp only [Act.put, List.setIfInBounds_toArray, List.set_cons_zero, List.set_cons_succ])
  refine' tk_any 4 4 (v := _) ?hi72005 ?hd72005 (by kernel_rfl) (by kernel_rfl) (by kernel_rfl) (fun _ _ _ h => h) ?hy72005 hHeld ?hr72005
  case hi72005 => (simp only [List.getElem?_toArray, List.getElem?_cons_succ, List.getElem?_cons_zero]; rfl)
  case hd72005 => rfl
  case hy72005 =>
    refine' Or.inl ⟨?hw72005, ?hx72005⟩
    case hw72005 => rfl
    case hx72005 => (intro w hSw; (try dsimp only at hSw); go_simp; (try with_reducible rfl))
  (try simp only [Act.put, List.setIfInBounds_toArray, List.set_cons_zero, List.set_cons_succ])
  refine wpAnyH_done (by kernel_rfl) ?_ _
  refine NoPanic.normal ?_
  replace HL := Lib.hid (HL.out.trans (HB.out.mono HL.out.size))
  go_wp2
  refine bodyPost_ret (v := .bool (sameC c d)) ?_ ?_ ?_
  · simp [results, Tryd.results20, go_sem]
  · rfl
  · exact ⟨rfl, HL.out⟩
end Go.Proofs.YtlalnkabfigodaaDoor
