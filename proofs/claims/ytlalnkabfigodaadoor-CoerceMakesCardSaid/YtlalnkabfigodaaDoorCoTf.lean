import Derived.Test.YtlalnkabfigodaaDoorCoGt
namespace Go.Proofs.YtlalnkabfigodaaDoor
open Go.Lib (hid)
open Go.RowKit

theorem boxAt_off12 {w : World} {g m : Nat} {a : Bool} {f p k : Int} {pv fv : Value} {r : RawC} (h : BoxAt w g a f p pv k fv) (hm : g ≠ m) : BoxAt (set12 w m r) g a f p pv k fv := (BoxAt.off7 (BoxAt.off7 (BoxAt.off7 (BoxAt.off7 (BoxAt.off7 (BoxAt.off7 (BoxAt.off7 (BoxAt.off7 (BoxAt.off7 (BoxAt.off7 (BoxAt.off7 (BoxAt.off7 h (m := m) (i := 0) (x := .int .i64 r.h.f0) hm) (m := m) (i := 1) (x := .int .i64 r.h.f1) hm) (m := m) (i := 2) (x := .int .i64 r.h.f2) hm) (m := m) (i := 3) (x := .int .i64 r.h.f3) hm) (m := m) (i := 4) (x := .int .i64 r.h.f4) hm) (m := m) (i := 5) (x := .int .i64 r.h.f5) hm) (m := m) (i := 6) (x := .int .i64 r.h.pair) hm) (m := m) (i := 7) (x := .int .i64 r.h.pl) hm) (m := m) (i := 8) (x := r.pv) hm) (m := m) (i := 9) (x := .int .i64 r.h.fn) hm) (m := m) (i := 10) (x := .int .i64 r.h.fl) hm) (m := m) (i := 11) (x := r.fv) hm)
theorem gop_any (M : Nat) (hM : M ≤ 2147483647) (n : Nat) (b : Bool) : GoOK b M n := by
 have key : ∀ n, GoOK true M n ∧ GoOK false M n := by
  intro n
  induction n with
  | zero => exact ⟨fun _ _ _ _ _ _ _ h => (by cases h), fun _ _ _ _ _ _ _ h => (by cases h)⟩
  | succ n ih => exact ⟨top_succ M n hM ih.1 ih.2, fromp_succ M n hM ih.1 ih.2⟩
 cases b
 ·
  exact (key n).2
 ·
  exact (key n).1

set_option maxRecDepth 100000 in
set_option maxHeartbeats 16000000 in
theorem top_p (n : Nat) (t : Ty) (l : Int) (vt : Value) (w : World) (hdp : deepF n t = true) (hn : n ≤ 100) (hsz : szT t ≤ 16000000) (hl : l ≠ 0) (ht : TyV w vt t) : Calls Tryd.prog 31 #[vt, .int .i64 l] w (FPost (goC n true t l) w) := by
 have hcall : ∀ (w1 : World) (cw : Nat), Below w.heap.size w w1 → w.heap.size ≤ cw → WalkC 16777216 cw 0 w1 → Calls Tryd.prog 60 #[.pointer (some ⟨cw, 0, none⟩), vt, .int .i64 l, .int .i64 0] w1 fun e w' => (∃ v, e = .returned v ∧ CoVN (Old w1.heap.size) w' v (goC n true t l)) ∧ Stay (· = cw) w1 w' := fun w1 cw hb hc hw => by
  refine Calls.mono (gop_any 16777216 (by omega) n true t vt w1 cw 0 0 l hdp (by omega) (by omega) hl hw (TyVN.later ht.n hb fun b h => .inr (by omega))) ?_
  rintro e w2 ⟨h1, h2, _⟩
  exact ⟨h1, h2⟩
 obtain ⟨x, hx⟩ : ∃ x, x = goC n true t l := ⟨_, rfl⟩
 rw [← hx] at hcall ⊢
 obtain ⟨pa, pc, fa, fc, rfl, hp, hf⟩ := ht.form
 obtain ⟨np, hnp⟩ : ∃ n, n = t.pairs.length := ⟨_, rfl⟩
 obtain ⟨nf, hnf⟩ : ∃ n, n = t.funs.length := ⟨_, rfl⟩
 rw [← hnp, ← hnf] at hcall ⊢
 obtain ⟨W, hW⟩ : ∃ W, W = (w.alloc (.cells #[.bool t.all, .int .i64 t.flat, .int .i64 t.pair, .slice pa np pc, .int .i64 t.fn, .slice fa nf fc] 47)).alloc (.cells #[.int .i64 0, .int .i64 0, .int .i64 0, .int .i64 0, .int .i64 0, .int .i64 0, .int .i64 0, .int .i64 0, .slice none 0 0, .int .i64 0, .int .i64 0, .slice none 0 0] 25) := ⟨_, rfl⟩
 have HB := hid (show Below w.heap.size w W by rw [hW]; exact (bAl _ _).alloc (by simp) _)
 have HX := hid (show BoxAt W w.heap.size t.all t.flat t.pair (.slice pa np pc) t.fn (.slice fa nf fc) by rw [hW]; exact (BoxAt.made w _ _ _ _ _ _).keep (bAl _ _))
 have HR := hid (show CBox W (w.heap.size + 1) 25 ⟨⟨0, 0, 0, 0, 0, 0, 0, 0, 0, 0⟩, .slice none 0 0, .slice none 0 0⟩ by rw [hW]; have := CBox.made (w.alloc (.cells #[.bool t.all, .int .i64 t.flat, .int .i64 t.pair, .slice pa np pc, .int .i64 t.fn, .slice fa nf fc] 47)) 25 ⟨⟨0, 0, 0, 0, 0, 0, 0, 0, 0, 0⟩, .slice none 0 0, .slice none 0 0⟩; simp only [alloc_hs7] at this; exact this)
 have HSZ := hid (show W.heap.size = w.heap.size + 2 by rw [hW]; simp)
 have HC := hid hcall
 have HW := hid hW
 have HBD := hid (show Below W.heap.size W W.drew from (Below.refl _ _).drew)
 clear hcall hW hsz hdp hn hl ht hp hf hnp hnf hx
 go_enter Tryd.func31, Tryd.ntmps31
 go_upto_region 1 with fail
 rw [← HW.out]
 clear HW
 (try dsimp only [List.append])
 refine wp_region_noPanic ?_
 refine wp_region_held_drew (S := (fun w' => w'.cell? ⟨w.heap.size, 0, none⟩ = some (.bool t.all) ∧ w'.cell? ⟨w.heap.size, 1, none⟩ = some (.int .i64 t.flat) ∧ w'.cell? ⟨w.heap.size, 2, none⟩ = some (.int .i64 t.pair) ∧ w'.cell? ⟨w.heap.size, 3, none⟩ = some (.slice pa np pc) ∧ w'.cell? ⟨w.heap.size, 4, none⟩ = some (.int .i64 t.fn) ∧ w'.cell? ⟨w.heap.size, 5, none⟩ = some (.slice fa nf fc))) (by kernel_rfl) (by (try dsimp only); exact ⟨(HX.out.keep HBD.out).c0, (HX.out.keep HBD.out).c1, (HX.out.keep HBD.out).c2, (HX.out.keep HBD.out).c3, (HX.out.keep HBD.out).c4, (HX.out.keep HBD.out).c5⟩) (fun hHeld => ?_)
 generalize W.drew = wd at hHeld HBD ⊢
 refine' tk_q 1 6 hHeld ?hi0 ?hr0
 case hi0 => (refine ⟨_, rfl, rfl, rfl, fun w hSw => ?_⟩; (try dsimp only at hSw); go_simp; (try with_reducible rfl))
 (try simp only [pq1, ls0, ls1])
 refine' tk_q 2 7 hHeld ?hi1 ?hr1
 case hi1 => (refine ⟨_, rfl, rfl, rfl, fun w hSw => ?_⟩; (try dsimp only at hSw); go_simp; (try with_reducible rfl))
 (try simp only [pq1, ls0, ls1])
 refine' tk_call 0 ?hi2 (by kernel_rfl) ?hr2
 case hi2 => rfl
 intro K hK
 go_simp
 go_at_call 59
 refine (newwalk_p wd).mono ?_
 rintro e w1 ⟨rfl, hb1, hw1⟩
 have HB1 := hid hb1
 have HW1 := hid hw1
 have HX1 := hid ((HX.out.keep HBD.out).keep hb1)
 clear hb1 hw1
 go_wp2_with fail
 clear hHeld
 refine hK.out _ _ (by (try dsimp only); exact ⟨HX1.out.c0, HX1.out.c1, HX1.out.c2, HX1.out.c3, HX1.out.c4, HX1.out.c5⟩) (fun hHeld => ?_)
 clear hK K
 (try simp only [pq1, ls0, ls1])
 refine' tk_call 3 ?hi3 (by kernel_rfl) ?hr3
 case hi3 => rfl
 intro K hK
 go_simp
 go_at_call 60
 refine (HC.out w1 wd.heap.size (HB.out.trans ((HBD.out.mono HB.out.size).trans (HB1.out.mono (Nat.le_trans HB.out.size HBD.out.size)))) (Nat.le_trans HB.out.size HBD.out.size) HW1.out).mono ?_
 rintro e w2 ⟨⟨v, rfl, hv⟩, hs2⟩
 obtain ⟨ra, rc, rb, rd, rfl, _, _⟩ := hv.form
 have HV := hid hv
 have HLT := hid (show w.heap.size + 1 < wd.heap.size by have := HSZ.out; have := HBD.out.size; omega)
 have HX2 := hid (HX1.out.stay hs2 (by have := HLT.out; omega))
 have HR2 := hid (((HR.out.keep HBD.out).keep HB1.out).stay hs2 (by have := HLT.out; omega))
 have HS2 := hid (show Below w.heap.size w w2 from (Stay.trans (N := (· = wd.heap.size)) (.of (HB.out.trans ((HBD.out.mono HB.out.size).trans (HB1.out.mono (Nat.le_trans HB.out.size HBD.out.size))))) hs2).below (Nat.le_refl _) (fun k hk => by have := HLT.out; omega))
 clear hv hs2
 go_wp2_with fail
 clear hHeld
 refine hK.out _ _ (by (try dsimp only); exact ⟨HX2.out.c0, HX2.out.c1, HX2.out.c2, HX2.out.c3, HX2.out.c4, HX2.out.c5⟩) (fun hHeld => ?_)
 clear hK K
 (try simp only [pq1, ls0, ls1])
 obtain ⟨r0, r1, r2, r3, r4, r5, r6, r7, r8, r9, r10, r11⟩ := HR2.out.cs
 (try dsimp only at r0 r1 r2 r3 r4 r5 r6 r7 r8 r9 r10 r11)
 obtain ⟨fr0, fr1, fr2, fr3, fr4, fr5, fr6, fr7, fr8, fr9, fr10, fr11⟩ := HR2.out.frs
 refine' tk_call 4 ?hi4 (by kernel_rfl) ?hr4
 case hi4 => rfl
 intro K hK
 go_simp
 have HX3 := hid (show BoxAt (set12 w2 (w.heap.size + 1) ⟨x.h, .slice ra x.pairs.length rc, .slice rb x.funs.length rd⟩) w.heap.size t.all t.flat t.pair (.slice pa np pc) t.fn (.slice fa nf fc) from boxAt_off12 HX2.out (by omega))
 clear hHeld
 refine hK.out _ _ (by (try dsimp only); exact ⟨HX3.out.c0, HX3.out.c1, HX3.out.c2, HX3.out.c3, HX3.out.c4, HX3.out.c5⟩) (fun hHeld => ?_)
 clear hK K
 (try simp only [pq1, ls0, ls1])
 refine wpAnyH_done (by kernel_rfl) ?_ _
 refine NoPanic.normal ?_
 clear r0 fr0 r1 fr1 r2 fr2 r3 fr3 r4 fr4 r5 fr5 r6 fr6 r7 fr7 r8 fr8 r9 fr9 r10 fr10 r11 fr11
 go_wp2
 have HPOST := hid (show FPost x w (.returned (coV ⟨x.h, .slice ra x.pairs.length rc, .slice rb x.funs.length rd⟩)) (set12 (w2) (w.heap.size + 1) ⟨x.h, .slice ra x.pairs.length rc, .slice rb x.funs.length rd⟩) from FPost.cell (w1 := w1) HV.out (by omega) (by have := HLT.out; have := HB1.out.size; omega) HS2.out)
 refine ret12 (w2) (w.heap.size + 1) ⟨x.h, .slice ra x.pairs.length rc, .slice rb x.funs.length rd⟩ (HR2.out) HPOST.out (fun wf hb => ?_) rfl
 obtain ⟨z0, z1, z2, z3, z4, z5, z6, z7, z8, z9, z10, z11⟩ := hb.cs
 simp [results, Tryd.results31, go_sem, coV, z0, z1, z2, z3, z4, z5, z6, z7, z8, z9, z10, z11]

set_option maxRecDepth 100000 in
set_option maxHeartbeats 16000000 in
theorem fromp_p (n : Nat) (t : Ty) (l : Int) (vt : Value) (w : World) (hdp : deepF n t = true) (hn : n ≤ 100) (hsz : szT t ≤ 16000000) (hl : l ≠ 0) (ht : TyV w vt t) : Calls Tryd.prog 33 #[vt, .int .i64 l] w (FPost (goC n false t l) w) := by
 have hcall : ∀ (w1 : World) (cw : Nat), Below w.heap.size w w1 → w.heap.size ≤ cw → WalkC 16777216 cw 0 w1 → Calls Tryd.prog 62 #[.pointer (some ⟨cw, 0, none⟩), vt, .int .i64 l, .int .i64 0] w1 fun e w' => (∃ v, e = .returned v ∧ CoVN (Old w1.heap.size) w' v (goC n false t l)) ∧ Stay (· = cw) w1 w' := fun w1 cw hb hc hw => by
  refine Calls.mono (gop_any 16777216 (by omega) n false t vt w1 cw 0 0 l hdp (by omega) (by omega) hl hw (TyVN.later ht.n hb fun b h => .inr (by omega))) ?_
  rintro e w2 ⟨h1, h2, _⟩
  exact ⟨h1, h2⟩
 obtain ⟨x, hx⟩ : ∃ x, x = goC n false t l := ⟨_, rfl⟩
 rw [← hx] at hcall ⊢
 obtain ⟨pa, pc, fa, fc, rfl, hp, hf⟩ := ht.form
 obtain ⟨np, hnp⟩ : ∃ n, n = t.pairs.length := ⟨_, rfl⟩
 obtain ⟨nf, hnf⟩ : ∃ n, n = t.funs.length := ⟨_, rfl⟩
 rw [← hnp, ← hnf] at hcall ⊢
 obtain ⟨W, hW⟩ : ∃ W, W = (w.alloc (.cells #[.bool t.all, .int .i64 t.flat, .int .i64 t.pair, .slice pa np pc, .int .i64 t.fn, .slice fa nf fc] 47)).alloc (.cells #[.int .i64 0, .int .i64 0, .int .i64 0, .int .i64 0, .int .i64 0, .int .i64 0, .int .i64 0, .int .i64 0, .slice none 0 0, .int .i64 0, .int .i64 0, .slice none 0 0] 25) := ⟨_, rfl⟩
 have HB := hid (show Below w.heap.size w W by rw [hW]; exact (bAl _ _).alloc (by simp) _)
 have HX := hid (show BoxAt W w.heap.size t.all t.flat t.pair (.slice pa np pc) t.fn (.slice fa nf fc) by rw [hW]; exact (BoxAt.made w _ _ _ _ _ _).keep (bAl _ _))
 have HR := hid (show CBox W (w.heap.size + 1) 25 ⟨⟨0, 0, 0, 0, 0, 0, 0, 0, 0, 0⟩, .slice none 0 0, .slice none 0 0⟩ by rw [hW]; have := CBox.made (w.alloc (.cells #[.bool t.all, .int .i64 t.flat, .int .i64 t.pair, .slice pa np pc, .int .i64 t.fn, .slice fa nf fc] 47)) 25 ⟨⟨0, 0, 0, 0, 0, 0, 0, 0, 0, 0⟩, .slice none 0 0, .slice none 0 0⟩; simp only [alloc_hs7] at this; exact this)
 have HSZ := hid (show W.heap.size = w.heap.size + 2 by rw [hW]; simp)
 have HC := hid hcall
 have HW := hid hW
 have HBD := hid (show Below W.heap.size W W.drew from (Below.refl _ _).drew)
 clear hcall hW hsz hdp hn hl ht hp hf hnp hnf hx
 go_enter Tryd.func33, Tryd.ntmps33
 go_upto_region 1 with fail
 rw [← HW.out]
 clear HW
 (try dsimp only [List.append])
 refine wp_region_noPanic ?_
 refine wp_region_held_drew (S := (fun w' => w'.cell? ⟨w.heap.size, 0, none⟩ = some (.bool t.all) ∧ w'.cell? ⟨w.heap.size, 1, none⟩ = some (.int .i64 t.flat) ∧ w'.cell? ⟨w.heap.size, 2, none⟩ = some (.int .i64 t.pair) ∧ w'.cell? ⟨w.heap.size, 3, none⟩ = some (.slice pa np pc) ∧ w'.cell? ⟨w.heap.size, 4, none⟩ = some (.int .i64 t.fn) ∧ w'.cell? ⟨w.heap.size, 5, none⟩ = some (.slice fa nf fc))) (by kernel_rfl) (by (try dsimp only); exact ⟨(HX.out.keep HBD.out).c0, (HX.out.keep HBD.out).c1, (HX.out.keep HBD.out).c2, (HX.out.keep HBD.out).c3, (HX.out.keep HBD.out).c4, (HX.out.keep HBD.out).c5⟩) (fun hHeld => ?_)
 generalize W.drew = wd at hHeld HBD ⊢
 refine' tk_q 1 6 hHeld ?hi5 ?hr5
 case hi5 => (refine ⟨_, rfl, rfl, rfl, fun w hSw => ?_⟩; (try dsimp only at hSw); go_simp; (try with_reducible rfl))
 (try simp only [pq1, ls0, ls1])
 refine' tk_q 2 7 hHeld ?hi6 ?hr6
 case hi6 => (refine ⟨_, rfl, rfl, rfl, fun w hSw => ?_⟩; (try dsimp only at hSw); go_simp; (try with_reducible rfl))
 (try simp only [pq1, ls0, ls1])
 refine' tk_call 0 ?hi7 (by kernel_rfl) ?hr7
 case hi7 => rfl
 intro K hK
 go_simp
 go_at_call 59
 refine (newwalk_p wd).mono ?_
 rintro e w1 ⟨rfl, hb1, hw1⟩
 have HB1 := hid hb1
 have HW1 := hid hw1
 have HX1 := hid ((HX.out.keep HBD.out).keep hb1)
 clear hb1 hw1
 go_wp2_with fail
 clear hHeld
 refine hK.out _ _ (by (try dsimp only); exact ⟨HX1.out.c0, HX1.out.c1, HX1.out.c2, HX1.out.c3, HX1.out.c4, HX1.out.c5⟩) (fun hHeld => ?_)
 clear hK K
 (try simp only [pq1, ls0, ls1])
 refine' tk_call 3 ?hi8 (by kernel_rfl) ?hr8
 case hi8 => rfl
 intro K hK
 go_simp
 go_at_call 62
 refine (HC.out w1 wd.heap.size (HB.out.trans ((HBD.out.mono HB.out.size).trans (HB1.out.mono (Nat.le_trans HB.out.size HBD.out.size)))) (Nat.le_trans HB.out.size HBD.out.size) HW1.out).mono ?_
 rintro e w2 ⟨⟨v, rfl, hv⟩, hs2⟩
 obtain ⟨ra, rc, rb, rd, rfl, _, _⟩ := hv.form
 have HV := hid hv
 have HLT := hid (show w.heap.size + 1 < wd.heap.size by have := HSZ.out; have := HBD.out.size; omega)
 have HX2 := hid (HX1.out.stay hs2 (by have := HLT.out; omega))
 have HR2 := hid (((HR.out.keep HBD.out).keep HB1.out).stay hs2 (by have := HLT.out; omega))
 have HS2 := hid (show Below w.heap.size w w2 from (Stay.trans (N := (· = wd.heap.size)) (.of (HB.out.trans ((HBD.out.mono HB.out.size).trans (HB1.out.mono (Nat.le_trans HB.out.size HBD.out.size))))) hs2).below (Nat.le_refl _) (fun k hk => by have := HLT.out; omega))
 clear hv hs2
 go_wp2_with fail
 clear hHeld
 refine hK.out _ _ (by (try dsimp only); exact ⟨HX2.out.c0, HX2.out.c1, HX2.out.c2, HX2.out.c3, HX2.out.c4, HX2.out.c5⟩) (fun hHeld => ?_)
 clear hK K
 (try simp only [pq1, ls0, ls1])
 obtain ⟨r0, r1, r2, r3, r4, r5, r6, r7, r8, r9, r10, r11⟩ := HR2.out.cs
 (try dsimp only at r0 r1 r2 r3 r4 r5 r6 r7 r8 r9 r10 r11)
 obtain ⟨fr0, fr1, fr2, fr3, fr4, fr5, fr6, fr7, fr8, fr9, fr10, fr11⟩ := HR2.out.frs
 refine' tk_call 4 ?hi9 (by kernel_rfl) ?hr9
 case hi9 => rfl
 intro K hK
 go_simp
 have HX3 := hid (show BoxAt (set12 w2 (w.heap.size + 1) ⟨x.h, .slice ra x.pairs.length rc, .slice rb x.funs.length rd⟩) w.heap.size t.all t.flat t.pair (.slice pa np pc) t.fn (.slice fa nf fc) from boxAt_off12 HX2.out (by omega))
 clear hHeld
 refine hK.out _ _ (by (try dsimp only); exact ⟨HX3.out.c0, HX3.out.c1, HX3.out.c2, HX3.out.c3, HX3.out.c4, HX3.out.c5⟩) (fun hHeld => ?_)
 clear hK K
 (try simp only [pq1, ls0, ls1])
 refine wpAnyH_done (by kernel_rfl) ?_ _
 refine NoPanic.normal ?_
 clear r0 fr0 r1 fr1 r2 fr2 r3 fr3 r4 fr4 r5 fr5 r6 fr6 r7 fr7 r8 fr8 r9 fr9 r10 fr10 r11 fr11
 go_wp2
 have HPOST := hid (show FPost x w (.returned (coV ⟨x.h, .slice ra x.pairs.length rc, .slice rb x.funs.length rd⟩)) (set12 (w2) (w.heap.size + 1) ⟨x.h, .slice ra x.pairs.length rc, .slice rb x.funs.length rd⟩) from FPost.cell (w1 := w1) HV.out (by omega) (by have := HLT.out; have := HB1.out.size; omega) HS2.out)
 refine ret12 (w2) (w.heap.size + 1) ⟨x.h, .slice ra x.pairs.length rc, .slice rb x.funs.length rd⟩ (HR2.out) HPOST.out (fun wf hb => ?_) rfl
 obtain ⟨z0, z1, z2, z3, z4, z5, z6, z7, z8, z9, z10, z11⟩ := hb.cs
 simp [results, Tryd.results33, go_sem, coV, z0, z1, z2, z3, z4, z5, z6, z7, z8, z9, z10, z11]
end Go.Proofs.YtlalnkabfigodaaDoor
