import Derived.Test.YtlalnkabfigodaaDoorCoCq
namespace Go.Proofs.YtlalnkabfigodaaDoor
open Go.Lib (hid)
open Go.RowKit

/-- what a call hands back: made anew -/
def FPost (c : Co) (w : World) (e : Ending) (w' : World) : Prop := (∃ v, e = .returned v ∧ CoVN (Old w.heap.size) w' v c) ∧ Below w.heap.size w w'
theorem FPost.cell {c : Co} {w w1 w2 : World} {v : Value} {r : RawC} {g : Nat} (hv : CoVN (Old w1.heap.size) w2 v c) (h1 : w.heap.size ≤ g) (h2 : g < w1.heap.size) (hb : Below w.heap.size w w2) : FPost c w (.returned v) (set12 w2 g r) :=
 ⟨⟨v, rfl, (CoVN.set12 (g := g) (r' := r) hv h2).mono fun _ _ h => Nat.lt_trans (Nat.lt_of_lt_of_le h h1) h2⟩, Below.set12 hb h1⟩

set_option maxRecDepth 100000 in
set_option maxHeartbeats 16000000 in
theorem own_p (x : Co) (vx : Value) (w : World) (hsz : szC x ≤ 16000000) (hd : htC x ≤ 130000) (hth : Thin x) (hx : CoV w vx x) : Calls Tryd.prog 51 #[vx] w (FPost x w) := by
 have hcall : ∀ (w1 : World) (cw : Nat), Below w.heap.size w w1 → w.heap.size ≤ cw → WalkC 16777216 cw 0 w1 → Calls Tryd.prog 73 #[.pointer (some ⟨cw, 0, none⟩), vx, .int .i64 0] w1 fun e w' => (∃ v, e = .returned v ∧ CoVN (Old w1.heap.size) w' v x) ∧ Stay (· = cw) w1 w' := fun w1 cw hb hc hw => by
  refine (copied_any 16777216 (by omega) (szC x) x vx w1 cw 0 0 (Nat.le_refl _) (by omega) (by omega) hth hw (hx.later hb fun b h => .inr (by omega))).mono ?_
  rintro e w2 ⟨h1, h2, _⟩
  exact ⟨h1, h2⟩
 obtain ⟨pa, pc, fa, fc, rfl, hp, hf⟩ := hx.form
 obtain ⟨np, hnp⟩ : ∃ n, n = x.pairs.length := ⟨_, rfl⟩
 obtain ⟨nf, hnf⟩ : ∃ n, n = x.funs.length := ⟨_, rfl⟩
 rw [← hnp, ← hnf] at hcall ⊢
 obtain ⟨W, hW⟩ : ∃ W, W = (w.alloc (.cells #[.int .i64 x.h.f0, .int .i64 x.h.f1, .int .i64 x.h.f2, .int .i64 x.h.f3, .int .i64 x.h.f4, .int .i64 x.h.f5, .int .i64 x.h.pair, .int .i64 x.h.pl, .slice pa np pc, .int .i64 x.h.fn, .int .i64 x.h.fl, .slice fa nf fc] 25)).alloc (.cells #[.int .i64 0, .int .i64 0, .int .i64 0, .int .i64 0, .int .i64 0, .int .i64 0, .int .i64 0, .int .i64 0, .slice none 0 0, .int .i64 0, .int .i64 0, .slice none 0 0] 25) := ⟨_, rfl⟩
 have HB := hid (show Below w.heap.size w W by rw [hW]; exact (bAl _ _).alloc (by simp) _)
 have HX := hid (show CBox W w.heap.size 25 ⟨x.h, .slice pa np pc, .slice fa nf fc⟩ by rw [hW]; exact (CBox.made w 25 ⟨x.h, .slice pa np pc, .slice fa nf fc⟩).keep (bAl _ _))
 have HR := hid (show CBox W (w.heap.size + 1) 25 ⟨⟨0, 0, 0, 0, 0, 0, 0, 0, 0, 0⟩, .slice none 0 0, .slice none 0 0⟩ by rw [hW]; have := CBox.made (w.alloc (.cells #[.int .i64 x.h.f0, .int .i64 x.h.f1, .int .i64 x.h.f2, .int .i64 x.h.f3, .int .i64 x.h.f4, .int .i64 x.h.f5, .int .i64 x.h.pair, .int .i64 x.h.pl, .slice pa np pc, .int .i64 x.h.fn, .int .i64 x.h.fl, .slice fa nf fc] 25)) 25 ⟨⟨0, 0, 0, 0, 0, 0, 0, 0, 0, 0⟩, .slice none 0 0, .slice none 0 0⟩; simp only [alloc_hs7] at this; exact this)
 have HSZ := hid (show W.heap.size = w.heap.size + 2 by rw [hW]; simp)
 have HC := hid hcall
 have HW := hid hW
 have HBD := hid (show Below W.heap.size W W.drew from (Below.refl _ _).drew)
 clear hcall hW hsz hd hth hx hp hf hnp hnf
 go_enter Tryd.func51, Tryd.ntmps51
 go_upto_region 1 with fail
 rw [← HW.out]
 clear HW
 (try dsimp only [List.append])
 refine wp_region_noPanic ?_
 refine wp_region_held_drew (S := (fun w' => w'.cell? ⟨w.heap.size, 0, none⟩ = some (.int .i64 x.h.f0) ∧ w'.cell? ⟨w.heap.size, 1, none⟩ = some (.int .i64 x.h.f1) ∧ w'.cell? ⟨w.heap.size, 2, none⟩ = some (.int .i64 x.h.f2) ∧ w'.cell? ⟨w.heap.size, 3, none⟩ = some (.int .i64 x.h.f3) ∧ w'.cell? ⟨w.heap.size, 4, none⟩ = some (.int .i64 x.h.f4) ∧ w'.cell? ⟨w.heap.size, 5, none⟩ = some (.int .i64 x.h.f5) ∧ w'.cell? ⟨w.heap.size, 6, none⟩ = some (.int .i64 x.h.pair) ∧ w'.cell? ⟨w.heap.size, 7, none⟩ = some (.int .i64 x.h.pl) ∧ w'.cell? ⟨w.heap.size, 8, none⟩ = some (.slice pa np pc) ∧ w'.cell? ⟨w.heap.size, 9, none⟩ = some (.int .i64 x.h.fn) ∧ w'.cell? ⟨w.heap.size, 10, none⟩ = some (.int .i64 x.h.fl) ∧ w'.cell? ⟨w.heap.size, 11, none⟩ = some (.slice fa nf fc))) (by kernel_rfl) (by (try dsimp only); exact ⟨(HX.out.keep HBD.out).c0, (HX.out.keep HBD.out).c1, (HX.out.keep HBD.out).c2, (HX.out.keep HBD.out).c3, (HX.out.keep HBD.out).c4, (HX.out.keep HBD.out).c5, (HX.out.keep HBD.out).c6, (HX.out.keep HBD.out).c7, (HX.out.keep HBD.out).c8, (HX.out.keep HBD.out).c9, (HX.out.keep HBD.out).c10, (HX.out.keep HBD.out).c11⟩) (fun hHeld => ?_)
 generalize W.drew = wd at hHeld HBD ⊢
 refine' tk_q 1 4 hHeld ?hi0 ?hr0
 case hi0 => (refine ⟨_, rfl, rfl, rfl, fun w hSw => ?_⟩; (try dsimp only at hSw); go_simp; (try with_reducible rfl))
 (try simp only [pq1, ls0, ls1])
 refine' tk_call 0 ?hi1 (by kernel_rfl) ?hr1
 case hi1 => rfl
 intro K hK
 go_simp
 go_at_call 59
 refine (newwalk_p wd).mono ?_
 rintro e w1 ⟨rfl, hb1, hw1⟩
 have HB1 := hid hb1
 have HW1 := hid hw1
 have HX1 := hid ((HX.out.keep HBD.out).keep hb1)
 clear hb1 hw1
 go_wp2_with fail
 clear hHeld
 refine hK.out _ _ (by (try dsimp only); exact ⟨HX1.out.c0, HX1.out.c1, HX1.out.c2, HX1.out.c3, HX1.out.c4, HX1.out.c5, HX1.out.c6, HX1.out.c7, HX1.out.c8, HX1.out.c9, HX1.out.c10, HX1.out.c11⟩) (fun hHeld => ?_)
 clear hK K
 (try simp only [pq1, ls0, ls1])
 refine' tk_call 2 ?hi2 (by kernel_rfl) ?hr2
 case hi2 => rfl
 intro K hK
 go_simp
 go_at_call 73
 refine (HC.out w1 wd.heap.size (HB.out.trans ((HBD.out.mono HB.out.size).trans (HB1.out.mono (Nat.le_trans HB.out.size HBD.out.size)))) (Nat.le_trans HB.out.size HBD.out.size) HW1.out).mono ?_
 rintro e w2 ⟨⟨v, rfl, hv⟩, hs2⟩
 obtain ⟨ra, rc, rb, rd, rfl, _, _⟩ := hv.form
 have HV := hid hv
 have HLT := hid (show w.heap.size + 1 < wd.heap.size by have := HSZ.out; have := HBD.out.size; omega)
 have HX2 := hid (HX1.out.stay hs2 (by have := HLT.out; omega))
 have HR2 := hid (((HR.out.keep HBD.out).keep HB1.out).stay hs2 (by have := HLT.out; omega))
 have HS2 := hid (show Below w.heap.size w w2 from (Stay.trans (N := (· = wd.heap.size)) (.of (HB.out.trans ((HBD.out.mono HB.out.size).trans (HB1.out.mono (Nat.le_trans HB.out.size HBD.out.size))))) hs2).below (Nat.le_refl _) (fun k hk => by have := HLT.out; omega))
 clear hv hs2
 go_wp2_with fail
 clear hHeld
 refine hK.out _ _ (by (try dsimp only); exact ⟨HX2.out.c0, HX2.out.c1, HX2.out.c2, HX2.out.c3, HX2.out.c4, HX2.out.c5, HX2.out.c6, HX2.out.c7, HX2.out.c8, HX2.out.c9, HX2.out.c10, HX2.out.c11⟩) (fun hHeld => ?_)
 clear hK K
 (try simp only [pq1, ls0, ls1])
 obtain ⟨r0, r1, r2, r3, r4, r5, r6, r7, r8, r9, r10, r11⟩ := HR2.out.cs
 (try dsimp only at r0 r1 r2 r3 r4 r5 r6 r7 r8 r9 r10 r11)
 obtain ⟨fr0, fr1, fr2, fr3, fr4, fr5, fr6, fr7, fr8, fr9, fr10, fr11⟩ := HR2.out.frs
 refine' tk_call 3 ?hi3 (by kernel_rfl) ?hr3
 case hi3 => rfl
 intro K hK
 go_simp
 have HX3 := hid (show CBox (set12 w2 (w.heap.size + 1) ⟨x.h, .slice ra x.pairs.length rc, .slice rb x.funs.length rd⟩) w.heap.size 25 ⟨x.h, .slice pa np pc, .slice fa nf fc⟩ from HX2.out.other12 (by omega))
 clear hHeld
 refine hK.out _ _ (by (try dsimp only); exact ⟨HX3.out.c0, HX3.out.c1, HX3.out.c2, HX3.out.c3, HX3.out.c4, HX3.out.c5, HX3.out.c6, HX3.out.c7, HX3.out.c8, HX3.out.c9, HX3.out.c10, HX3.out.c11⟩) (fun hHeld => ?_)
 clear hK K
 (try simp only [pq1, ls0, ls1])
 refine wpAnyH_done (by kernel_rfl) ?_ _
 refine NoPanic.normal ?_
 clear r0 fr0 r1 fr1 r2 fr2 r3 fr3 r4 fr4 r5 fr5 r6 fr6 r7 fr7 r8 fr8 r9 fr9 r10 fr10 r11 fr11
 go_wp2
 have HPOST := hid (show FPost x w (.returned (coV ⟨x.h, .slice ra x.pairs.length rc, .slice rb x.funs.length rd⟩)) (set12 (w2) (w.heap.size + 1) ⟨x.h, .slice ra x.pairs.length rc, .slice rb x.funs.length rd⟩) from FPost.cell (w1 := w1) HV.out (by omega) (by have := HLT.out; have := HB1.out.size; omega) HS2.out)
 refine ret12 (w2) (w.heap.size + 1) ⟨x.h, .slice ra x.pairs.length rc, .slice rb x.funs.length rd⟩ (HR2.out) HPOST.out (fun wf hb => ?_) rfl
 obtain ⟨z0, z1, z2, z3, z4, z5, z6, z7, z8, z9, z10, z11⟩ := hb.cs
 simp [results, Tryd.results51, go_sem, coV, z0, z1, z2, z3, z4, z5, z6, z7, z8, z9, z10, z11]
end Go.Proofs.YtlalnkabfigodaaDoor
