import Derived.Test.YtlalnkabfigodaaDoorCoAw
import Derived.Test.YtlalnkabfigodaaDoorCoPx
import Derived.Test.YtlalnkabfigodaaDoorCoCs
import Derived.Test.YtlalnkabfigodaaDoorCoSp
import Derived.Test.YtlalnkabfigodaaDoorCoLs
import Derived.Test.YtlalnkabfigodaaDoorCoDp
namespace Go.Proofs.YtlalnkabfigodaaDoor
open Go.Lib (hid)
open Go.RowKit

set_option maxRecDepth 100000 in
set_option maxHeartbeats 32000000 in
theorem asks_p (c d : Co) (tag : Int) (v1 v2 : Value) (w : World) (ht : -9223372036854775808 ≤ tag ∧ tag ≤ 9223372036854775807) (hT : TzW w) (hc : CoV w v1 c) (hd : CoV w v2 d) : Calls Tryd.prog 3 #[v1, v2, .int .i64 tag] w fun e w' => e = .returned (.bool true) ∧ Below w.heap.size w w' := by
 obtain ⟨pa, pc, fa, fc, rfl, _, _⟩ := hc.form
 obtain ⟨np, hnp⟩ : ∃ n, n = c.pairs.length := ⟨_, rfl⟩
 obtain ⟨nf, hnf⟩ : ∃ n, n = c.funs.length := ⟨_, rfl⟩
 obtain ⟨qa, qc, ga, gc, rfl, _, _⟩ := hd.form
 obtain ⟨mp, hmp⟩ : ∃ n, n = d.pairs.length := ⟨_, rfl⟩
 obtain ⟨mf, hmf⟩ : ∃ n, n = d.funs.length := ⟨_, rfl⟩
 rw [← hnp, ← hnf] at hc ⊢
 rw [← hmp, ← hmf] at hd ⊢
 obtain ⟨W, hW⟩ : ∃ W, W = (w.alloc (.cells #[.int .i64 c.h.f0, .int .i64 c.h.f1, .int .i64 c.h.f2, .int .i64 c.h.f3, .int .i64 c.h.f4, .int .i64 c.h.f5, .int .i64 c.h.pair, .int .i64 c.h.pl, .slice pa np pc, .int .i64 c.h.fn, .int .i64 c.h.fl, .slice fa nf fc] 25)).alloc (.cells #[.int .i64 d.h.f0, .int .i64 d.h.f1, .int .i64 d.h.f2, .int .i64 d.h.f3, .int .i64 d.h.f4, .int .i64 d.h.f5, .int .i64 d.h.pair, .int .i64 d.h.pl, .slice qa mp qc, .int .i64 d.h.fn, .int .i64 d.h.fl, .slice ga mf gc] 25) := ⟨_, rfl⟩
 have HL := hid (show Below w.heap.size w W by rw [hW]; exact (bAl _ _).alloc (by simp) _)
 have HX := hid (show CBox W w.heap.size 25 ⟨c.h, .slice pa np pc, .slice fa nf fc⟩ by rw [hW]; exact (CBox.made w 25 ⟨c.h, .slice pa np pc, .slice fa nf fc⟩).keep (bAl _ _))
 have HY := hid (show CBox W (w.heap.size + 1) 25 ⟨d.h, .slice qa mp qc, .slice ga mf gc⟩ by rw [hW]; have := CBox.made (w.alloc (.cells #[.int .i64 c.h.f0, .int .i64 c.h.f1, .int .i64 c.h.f2, .int .i64 c.h.f3, .int .i64 c.h.f4, .int .i64 c.h.f5, .int .i64 c.h.pair, .int .i64 c.h.pl, .slice pa np pc, .int .i64 c.h.fn, .int .i64 c.h.fl, .slice fa nf fc] 25)) 25 ⟨d.h, .slice qa mp qc, .slice ga mf gc⟩; simp only [alloc_hs7] at this; exact this)
 have HCV := hid (hc.below HL.out)
 have HDV := hid (hd.below HL.out)
 have HT := hid (hT.keep HL.out)
 have HPN := hid hnp
 have HFN := hid hnf
 have HPM := hid hmp
 have HFM := hid hmf
 have HW := hid hW
 have HRG0 := hid ht
 clear hW hnp hnf hmp hmf hc hd hT ht
 go_enter Tryd.func3, Tryd.ntmps3
 go_upto_region 1 with fail
 rw [← HW.out]
 clear HW
 go_wp2_with fail
 refine (awake_p W HT.out).mono ?_
 rintro e w1 ⟨rfl, hb⟩
 replace HL := hid (HL.out.trans (hb.mono HL.out.size))
 replace HT := hid (HT.out.keep hb)
 replace HX := hid (HX.out.keep hb)
 replace HY := hid (HY.out.keep hb)
 replace HCV := hid (HCV.out.below hb)
 replace HDV := hid (HDV.out.below hb)
 clear hb
 obtain ⟨x0, x1, x2, x3, x4, x5, x6, x7, x8, x9, x10, x11⟩ := HX.out.cs
 (try dsimp only at x0 x1 x2 x3 x4 x5 x6 x7 x8 x9 x10 x11)
 go_wp2_with fail
 refine (light7_go c _ w1 HCV.out).mono ?_
 rintro e w2 ⟨rfl, hb⟩
 clear x0 x1 x2 x3 x4 x5 x6 x7 x8 x9 x10 x11
 replace HL := hid (HL.out.trans (hb.mono HL.out.size))
 replace HT := hid (HT.out.keep hb)
 replace HX := hid (HX.out.keep hb)
 replace HY := hid (HY.out.keep hb)
 replace HCV := hid (HCV.out.below hb)
 replace HDV := hid (HDV.out.below hb)
 clear hb
 obtain ⟨z1, hz1⟩ : ∃ z, z = lit7 c := ⟨_, rfl⟩
 rw [← hz1]
 have Hz1 := hid hz1
 clear hz1
 obtain ⟨y0, y1, y2, y3, y4, y5, y6, y7, y8, y9, y10, y11⟩ := HY.out.cs
 (try dsimp only at y0 y1 y2 y3 y4 y5 y6 y7 y8 y9 y10 y11)
 go_wp2_with fail
 refine (light7_go d _ w2 HDV.out).mono ?_
 rintro e w3 ⟨rfl, hb⟩
 clear y0 y1 y2 y3 y4 y5 y6 y7 y8 y9 y10 y11
 replace HL := hid (HL.out.trans (hb.mono HL.out.size))
 replace HT := hid (HT.out.keep hb)
 replace HX := hid (HX.out.keep hb)
 replace HY := hid (HY.out.keep hb)
 replace HCV := hid (HCV.out.below hb)
 replace HDV := hid (HDV.out.below hb)
 clear hb
 obtain ⟨z2, hz2⟩ : ∃ z, z = lit7 d := ⟨_, rfl⟩
 rw [← hz2]
 have Hz2 := hid hz2
 clear hz2
 cases z1 with
 | false =>
  go_wp2
  refine bodyPost_ret (v := .bool true) ?_ ?_ ?_
  ·
   simp [results, Tryd.results3, go_sem]
  ·
   rfl
  ·
   exact ⟨rfl, HL.out⟩
 | true =>
 cases z2 with
 | false =>
  go_wp2
  refine bodyPost_ret (v := .bool true) ?_ ?_ ?_
  ·
   simp [results, Tryd.results3, go_sem]
  ·
   rfl
  ·
   exact ⟨rfl, HL.out⟩
 | true =>
 have HSC := hid (lit_sz Hz1.out.symm)
 have HSD := hid (lit_sz Hz2.out.symm)
 clear Hz1 Hz2
 obtain ⟨x0, x1, x2, x3, x4, x5, x6, x7, x8, x9, x10, x11⟩ := HX.out.cs
 (try dsimp only at x0 x1 x2 x3 x4 x5 x6 x7 x8 x9 x10 x11)
 go_wp2_with fail
 refine (to7_go (szC c) c _ w3 NC (Nat.le_refl _) HSC.out.2 (fun _ h => h.elim) HCV.out).mono ?_
 rintro e w4 ⟨⟨u, rfl, hu⟩, hb⟩
 clear x0 x1 x2 x3 x4 x5 x6 x7 x8 x9 x10 x11
 replace HL := hid (HL.out.trans (hb.mono HL.out.size))
 replace HT := hid (HT.out.keep hb)
 replace HX := hid (HX.out.keep hb)
 replace HY := hid (HY.out.keep hb)
 replace HCV := hid (HCV.out.below hb)
 replace HDV := hid (HDV.out.below hb)
 obtain ⟨ua, uc, va, wc0, rfl, _, _⟩ := hu.form
 rw [← HPN.out, ← HFN.out] at hu ⊢
 have HUV := hid hu
 clear hu
 clear hb
 go_upto_region 7 with fail
 obtain ⟨gx, hg⟩ : ∃ x, x = w4.heap.size := ⟨_, rfl⟩
 obtain ⟨w5, hw⟩ : ∃ x : World, x = w4.alloc (.cells #[.int .i64 c.h.f0, .int .i64 c.h.f1, .int .i64 c.h.f2, .int .i64 c.h.f3, .int .i64 c.h.f4, .int .i64 c.h.f5, .int .i64 c.h.pair, .int .i64 c.h.pl, .slice ua np uc, .int .i64 c.h.fn, .int .i64 c.h.fl, .slice va nf wc0] 30) := ⟨_, rfl⟩
 rw [← hw, ← hg]
 have hb : Below w4.heap.size w4 w5 := by rw [hw]; exact bAl _ _
 have HU := hid (show CBox w5 gx 30 ⟨c.h, .slice ua np uc, .slice va nf wc0⟩ by rw [hw, hg]; exact CBox.made w4 30 ⟨c.h, .slice ua np uc, .slice va nf wc0⟩)
 replace HL := hid (HL.out.trans (hb.mono HL.out.size))
 replace HT := hid (HT.out.keep hb)
 replace HX := hid (HX.out.keep hb)
 replace HY := hid (HY.out.keep hb)
 replace HCV := hid (HCV.out.below hb)
 replace HDV := hid (HDV.out.below hb)
 replace HUV := hid (HUV.out.below hb)
 clear hb hw hg
 have Lx := hid (fun (wz : World) (hSw : Below w5.heap.size w5 wz) => (HX.out.keep hSw).cs)
 have Ly := hid (fun (wz : World) (hSw : Below w5.heap.size w5 wz) => (HY.out.keep hSw).cs)
 have Lz := hid (fun (wz : World) (hSw : Below w5.heap.size w5 wz) => (HU.out.keep hSw).cs)
 go_upto_region 7 with fail
 (try dsimp only [List.append])
 refine wp_region_noPanic ?_
 refine wp_region_held_drew (S := (fun w' => Below w5.heap.size w5 w')) (by kernel_rfl) (by (try dsimp only); exact (Below.refl _ _).drew) (fun hHeld => ?_)
 have HBT := hid (show Below w5.heap.size w5 w5.drew from (Below.refl _ _).drew)
 generalize w5.drew = r1_0 at hHeld HBT ⊢
 refine' tk_q 0 27 hHeld ?hi0 ?hr0
 case hi0 => (refine ⟨_, rfl, rfl, rfl, fun wz hSw => ?_⟩; (try dsimp only at hSw); obtain ⟨xz0, xz1, xz2, xz3, xz4, xz5, xz6, xz7, xz8, xz9, xz10, xz11⟩ := Lx.out wz hSw; (try dsimp only at xz0 xz1 xz2 xz3 xz4 xz5 xz6 xz7 xz8 xz9 xz10 xz11); go_simp; (try with_reducible rfl))
 (try simp only [pq1, ls0, ls1])
 refine' tk_q 2 29 hHeld ?hi1 ?hr1
 case hi1 => (refine ⟨_, rfl, rfl, rfl, fun wz hSw => ?_⟩; (try dsimp only at hSw); obtain ⟨zz0, zz1, zz2, zz3, zz4, zz5, zz6, zz7, zz8, zz9, zz10, zz11⟩ := Lz.out wz hSw; (try dsimp only at zz0 zz1 zz2 zz3 zz4 zz5 zz6 zz7 zz8 zz9 zz10 zz11); go_simp; (try with_reducible rfl))
 (try simp only [pq1, ls0, ls1])
 refine' tk_call 1 ?hi2 (by kernel_rfl) ?hr2
 case hi2 => rfl
 intro K hK
 go_simp
 go_at_call 10
 refine (right_p c _ r1_0 (by have := HSC.out; omega) (HCV.out.below HBT.out)).mono ?_
 rintro e r1_1 ⟨rfl, hb⟩
 replace HBT := hid (HBT.out.trans (hb.mono HBT.out.size))
 clear hb
 go_wp2_with fail
 clear hHeld
 refine hK.out _ _ (by (try dsimp only); exact HBT.out) (fun hHeld => ?_)
 clear hK K
 (try simp only [pq1, ls0, ls1])
 refine' tk_call 3 ?hi3 (by kernel_rfl) ?hr3
 case hi3 => rfl
 intro K hK
 go_simp
 go_at_call 11
 refine (rightc_go c _ r1_1 (HUV.out.below HBT.out)).mono ?_
 rintro e r1_2 ⟨rfl, hb⟩
 replace HBT := hid (HBT.out.trans (hb.mono HBT.out.size))
 clear hb
 go_wp2_with fail
 clear hHeld
 refine hK.out _ _ (by (try dsimp only); exact HBT.out) (fun hHeld => ?_)
 clear hK K
 (try simp only [pq1, ls0, ls1])
 refine' tk_q 4 31 hHeld ?hi4 ?hr4
 case hi4 => (refine ⟨_, rfl, rfl, rfl, fun wz hSw => ?_⟩; (try dsimp only at hSw); go_simp; (try with_reducible rfl))
 (try simp only [pq1, ls0, ls1])
 refine' tk_q 5 32 hHeld ?hi5 ?hr5
 case hi5 => (refine ⟨_, rfl, rfl, rfl, fun wz hSw => ?_⟩; (try dsimp only at hSw); go_simp; (try with_reducible rfl))
 (try simp only [pq1, ls0, ls1])
 refine' tk_q 6 33 hHeld ?hi6 ?hr6
 case hi6 => (refine ⟨_, rfl, rfl, rfl, fun wz hSw => ?_⟩; (try dsimp only at hSw); obtain ⟨xz0, xz1, xz2, xz3, xz4, xz5, xz6, xz7, xz8, xz9, xz10, xz11⟩ := Lx.out wz hSw; (try dsimp only at xz0 xz1 xz2 xz3 xz4 xz5 xz6 xz7 xz8 xz9 xz10 xz11); go_simp; (try with_reducible rfl))
 (try simp only [pq1, ls0, ls1])
 refine' tk_q 7 34 hHeld ?hi7 ?hr7
 case hi7 => (refine ⟨_, rfl, rfl, rfl, fun wz hSw => ?_⟩; (try dsimp only at hSw); obtain ⟨yz0, yz1, yz2, yz3, yz4, yz5, yz6, yz7, yz8, yz9, yz10, yz11⟩ := Ly.out wz hSw; (try dsimp only at yz0 yz1 yz2 yz3 yz4 yz5 yz6 yz7 yz8 yz9 yz10 yz11); go_simp; (try with_reducible rfl))
 (try simp only [pq1, ls0, ls1])
 refine' tk_q 9 36 hHeld ?hi8 ?hr8
 case hi8 => (refine ⟨_, rfl, rfl, rfl, fun wz hSw => ?_⟩; (try dsimp only at hSw); obtain ⟨zz0, zz1, zz2, zz3, zz4, zz5, zz6, zz7, zz8, zz9, zz10, zz11⟩ := Lz.out wz hSw; (try dsimp only at zz0 zz1 zz2 zz3 zz4 zz5 zz6 zz7 zz8 zz9 zz10 zz11); go_simp; (try with_reducible rfl))
 (try simp only [pq1, ls0, ls1])
 refine' tk_q 10 37 hHeld ?hi9 ?hr9
 case hi9 => (refine ⟨_, rfl, rfl, rfl, fun wz hSw => ?_⟩; (try dsimp only at hSw); obtain ⟨yz0, yz1, yz2, yz3, yz4, yz5, yz6, yz7, yz8, yz9, yz10, yz11⟩ := Ly.out wz hSw; (try dsimp only at yz0 yz1 yz2 yz3 yz4 yz5 yz6 yz7 yz8 yz9 yz10 yz11); go_simp; (try with_reducible rfl))
 (try simp only [pq1, ls0, ls1])
 refine' tk_call 8 ?hia (by kernel_rfl) ?hra
 case hia => rfl
 intro K hK
 go_simp
 go_at_call 12
 refine (same_p c d _ _ r1_2 (by have := HSC.out; omega) (HCV.out.below HBT.out) (HDV.out.below HBT.out)).mono ?_
 rintro e r1_3 ⟨rfl, hb⟩
 replace HBT := hid (HBT.out.trans (hb.mono HBT.out.size))
 clear hb
 go_wp2_with fail
 clear hHeld
 refine hK.out _ _ (by (try dsimp only); exact HBT.out) (fun hHeld => ?_)
 clear hK K
 (try simp only [pq1, ls0, ls1])
 refine' tk_call 11 ?hib (by kernel_rfl) ?hrb
 case hib => rfl
 intro K hK
 go_simp
 go_at_call 9
 refine (to7_go (szC d) d _ r1_3 NC (Nat.le_refl _) HSD.out.2 (fun _ h => h.elim) (HDV.out.below HBT.out)).mono ?_
 rintro e r1_4 ⟨⟨u, rfl, hu⟩, hb⟩
 obtain ⟨ta, tc, sa, sc, rfl, _, _⟩ := hu.form
 rw [← HPM.out, ← HFM.out] at hu ⊢
 have HTV := hid hu
 clear hu
 replace HBT := hid (HBT.out.trans (hb.mono HBT.out.size))
 clear hb
 go_wp2_with fail
 clear hHeld
 refine hK.out _ _ (by (try dsimp only); exact HBT.out) (fun hHeld => ?_)
 clear hK K
 (try simp only [pq1, ls0, ls1])
 refine' tk_call 12 ?hic (by kernel_rfl) ?hrc
 case hic => rfl
 intro K hK
 go_simp
 go_at_call 13
 refine (rsame_go (szC c) c d _ _ r1_4 (Nat.le_refl _) (HUV.out.below HBT.out) HTV.out).mono ?_
 rintro e r1_5 ⟨rfl, hb⟩
 clear HTV
 replace HBT := hid (HBT.out.trans (hb.mono HBT.out.size))
 clear hb
 go_wp2_with fail
 clear hHeld
 refine hK.out _ _ (by (try dsimp only); exact HBT.out) (fun hHeld => ?_)
 clear hK K
 (try simp only [pq1, ls0, ls1])
 refine' tk_q 13 40 hHeld ?hid ?hrd
 case hid => (refine ⟨_, rfl, rfl, rfl, fun wz hSw => ?_⟩; (try dsimp only at hSw); go_simp; (try with_reducible rfl))
 (try simp only [pq1, ls0, ls1])
 refine' tk_q 14 41 hHeld ?hie ?hre
 case hie => (refine ⟨_, rfl, rfl, rfl, fun wz hSw => ?_⟩; (try dsimp only at hSw); go_simp; (try with_reducible rfl))
 (try simp only [pq1, ls0, ls1])
 refine' tk_q 15 42 hHeld ?hif ?hrf
 case hif => (refine ⟨_, rfl, rfl, rfl, fun wz hSw => ?_⟩; (try dsimp only at hSw); go_simp; (try with_reducible rfl))
 (try simp only [pq1, ls0, ls1])
 refine' tk_q 16 43 hHeld ?hig ?hrg
 case hig => (refine ⟨_, rfl, rfl, rfl, fun wz hSw => ?_⟩; (try dsimp only at hSw); obtain ⟨xz0, xz1, xz2, xz3, xz4, xz5, xz6, xz7, xz8, xz9, xz10, xz11⟩ := Lx.out wz hSw; (try dsimp only at xz0 xz1 xz2 xz3 xz4 xz5 xz6 xz7 xz8 xz9 xz10 xz11); go_simp; (try with_reducible rfl))
 (try simp only [pq1, ls0, ls1])
 refine' tk_q 18 45 hHeld ?hih ?hrh
 case hih => (refine ⟨_, rfl, rfl, rfl, fun wz hSw => ?_⟩; (try dsimp only at hSw); obtain ⟨zz0, zz1, zz2, zz3, zz4, zz5, zz6, zz7, zz8, zz9, zz10, zz11⟩ := Lz.out wz hSw; (try dsimp only at zz0 zz1 zz2 zz3 zz4 zz5 zz6 zz7 zz8 zz9 zz10 zz11); go_simp; (try with_reducible rfl))
 (try simp only [pq1, ls0, ls1])
 refine' tk_call 17 ?hii (by kernel_rfl) ?hri
 case hii => rfl
 intro K hK
 go_simp
 go_at_call 14
 refine (pass_p c _ r1_5 (HCV.out.below HBT.out)).mono ?_
 rintro e r1_6 ⟨rfl, hb⟩
 replace HBT := hid (HBT.out.trans (hb.mono HBT.out.size))
 clear hb
 go_wp2_with fail
 clear hHeld
 refine hK.out _ _ (by (try dsimp only); exact HBT.out) (fun hHeld => ?_)
 clear hK K
 (try simp only [pq1, ls0, ls1])
 refine' tk_call 19 ?hij (by kernel_rfl) ?hrj
 case hij => rfl
 intro K hK
 go_simp
 go_at_call 15
 refine (rpass_go c _ r1_6 (HUV.out.below HBT.out)).mono ?_
 rintro e r1_7 ⟨rfl, hb⟩
 replace HBT := hid (HBT.out.trans (hb.mono HBT.out.size))
 clear hb
 go_wp2_with fail
 clear hHeld
 refine hK.out _ _ (by (try dsimp only); exact HBT.out) (fun hHeld => ?_)
 clear hK K
 (try simp only [pq1, ls0, ls1])
 refine' tk_q 20 47 hHeld ?hik ?hrk
 case hik => (refine ⟨_, rfl, rfl, rfl, fun wz hSw => ?_⟩; (try dsimp only at hSw); go_simp; (try with_reducible rfl))
 (try simp only [pq1, ls0, ls1])
 refine' tk_q 21 48 hHeld ?hil ?hrl
 case hil => (refine ⟨_, rfl, rfl, rfl, fun wz hSw => ?_⟩; (try dsimp only at hSw); go_simp; (try with_reducible rfl))
 (try simp only [pq1, ls0, ls1])
 refine' tk_q 22 49 hHeld ?him ?hrm
 case him => (refine ⟨_, rfl, rfl, rfl, fun wz hSw => ?_⟩; (try dsimp only at hSw); go_simp; (try with_reducible rfl))
 (try simp only [pq1, ls0, ls1])
 refine' tk_q 23 50 hHeld ?hin ?hrn
 case hin => (refine ⟨_, rfl, rfl, rfl, fun wz hSw => ?_⟩; (try dsimp only at hSw); obtain ⟨xz0, xz1, xz2, xz3, xz4, xz5, xz6, xz7, xz8, xz9, xz10, xz11⟩ := Lx.out wz hSw; (try dsimp only at xz0 xz1 xz2 xz3 xz4 xz5 xz6 xz7 xz8 xz9 xz10 xz11); go_simp; (try with_reducible rfl))
 (try simp only [pq1, ls0, ls1])
 refine' tk_q 25 52 hHeld ?hio ?hro
 case hio => (refine ⟨_, rfl, rfl, rfl, fun wz hSw => ?_⟩; (try dsimp only at hSw); obtain ⟨zz0, zz1, zz2, zz3, zz4, zz5, zz6, zz7, zz8, zz9, zz10, zz11⟩ := Lz.out wz hSw; (try dsimp only at zz0 zz1 zz2 zz3 zz4 zz5 zz6 zz7 zz8 zz9 zz10 zz11); go_simp; (try with_reducible rfl))
 (try simp only [pq1, ls0, ls1])
 refine' tk_call 24 ?hip (by kernel_rfl) ?hrp
 case hip => rfl
 intro K hK
 go_simp
 go_at_call 16
 refine (height_p c _ r1_7 (by have := HSC.out; omega) (HCV.out.below HBT.out)).mono ?_
 rintro e r1_8 ⟨rfl, hb⟩
 replace HBT := hid (HBT.out.trans (hb.mono HBT.out.size))
 clear hb
 go_wp2_with fail
 clear hHeld
 refine hK.out _ _ (by (try dsimp only); exact HBT.out) (fun hHeld => ?_)
 clear hK K
 (try simp only [pq1, ls0, ls1])
 refine' tk_call 26 ?hiq (by kernel_rfl) ?hrq
 case hiq => rfl
 intro K hK
 go_simp
 go_at_call 17
 refine (rheight_go (szC c) c _ r1_8 ⟨Nat.le_refl _, by have := HSC.out; omega⟩ (HUV.out.below HBT.out)).mono ?_
 rintro e r1_9 ⟨rfl, hb⟩
 replace HBT := hid (HBT.out.trans (hb.mono HBT.out.size))
 clear hb
 go_wp2_with fail
 clear hHeld
 refine hK.out _ _ (by (try dsimp only); exact HBT.out) (fun hHeld => ?_)
 clear hK K
 (try simp only [pq1, ls0, ls1])
 refine' tk_q 27 54 hHeld ?hir ?hrr
 case hir => (refine ⟨_, rfl, rfl, rfl, fun wz hSw => ?_⟩; (try dsimp only at hSw); go_simp; (try with_reducible rfl))
 (try simp only [pq1, ls0, ls1])
 refine' tk_q 28 55 hHeld ?his ?hrs
 case his => (refine ⟨_, rfl, rfl, rfl, fun wz hSw => ?_⟩; (try dsimp only at hSw); go_simp; (try with_reducible rfl))
 (try simp only [pq1, ls0, ls1])
 refine' tk_q 29 56 hHeld ?hit ?hrt
 case hit => (refine ⟨_, rfl, rfl, rfl, fun wz hSw => ?_⟩; (try dsimp only at hSw); go_simp; (try with_reducible rfl))
 (try simp only [pq1, ls0, ls1])
 refine' tk_q 30 57 hHeld ?hiu ?hru
 case hiu => (refine ⟨_, rfl, rfl, rfl, fun wz hSw => ?_⟩; (try dsimp only at hSw); obtain ⟨xz0, xz1, xz2, xz3, xz4, xz5, xz6, xz7, xz8, xz9, xz10, xz11⟩ := Lx.out wz hSw; (try dsimp only at xz0 xz1 xz2 xz3 xz4 xz5 xz6 xz7 xz8 xz9 xz10 xz11); go_simp; (try with_reducible rfl))
 (try simp only [pq1, ls0, ls1])
 refine' tk_q 32 59 hHeld ?hiv ?hrv
 case hiv => (refine ⟨_, rfl, rfl, rfl, fun wz hSw => ?_⟩; (try dsimp only at hSw); obtain ⟨zz0, zz1, zz2, zz3, zz4, zz5, zz6, zz7, zz8, zz9, zz10, zz11⟩ := Lz.out wz hSw; (try dsimp only at zz0 zz1 zz2 zz3 zz4 zz5 zz6 zz7 zz8 zz9 zz10 zz11); go_simp; (try with_reducible rfl))
 (try simp only [pq1, ls0, ls1])
 refine' tk_call 31 ?hiw (by kernel_rfl) ?hrw
 case hiw => rfl
 intro K hK
 go_simp
 go_at_call 18
 refine (size_p c _ r1_9 (by have := HSC.out; omega) (HCV.out.below HBT.out)).mono ?_
 rintro e r1_10 ⟨rfl, hb⟩
 replace HBT := hid (HBT.out.trans (hb.mono HBT.out.size))
 clear hb
 go_wp2_with fail
 clear hHeld
 refine hK.out _ _ (by (try dsimp only); exact HBT.out) (fun hHeld => ?_)
 clear hK K
 (try simp only [pq1, ls0, ls1])
 refine' tk_call 33 ?hix (by kernel_rfl) ?hrx
 case hix => rfl
 intro K hK
 go_simp
 go_at_call 19
 refine (rsize_go (szC c) c _ r1_10 ⟨Nat.le_refl _, by have := HSC.out; omega⟩ (HUV.out.below HBT.out)).mono ?_
 rintro e r1_11 ⟨rfl, hb⟩
 replace HBT := hid (HBT.out.trans (hb.mono HBT.out.size))
 clear hb
 go_wp2_with fail
 clear hHeld
 refine hK.out _ _ (by (try dsimp only); exact HBT.out) (fun hHeld => ?_)
 clear hK K
 (try simp only [pq1, ls0, ls1])
 refine' tk_q 34 61 hHeld ?hiy ?hry
 case hiy => (refine ⟨_, rfl, rfl, rfl, fun wz hSw => ?_⟩; (try dsimp only at hSw); go_simp; (try with_reducible rfl))
 (try simp only [pq1, ls0, ls1])
 refine' tk_q 35 62 hHeld ?hiz ?hrz
 case hiz => (refine ⟨_, rfl, rfl, rfl, fun wz hSw => ?_⟩; (try dsimp only at hSw); go_simp; (try with_reducible rfl))
 (try simp only [pq1, ls0, ls1])
 refine wpAnyH_done (by kernel_rfl) ?_ _
 refine NoPanic.normal ?_
 clear Lx Ly Lz
 replace HL := hid (HL.out.trans (HBT.out.mono HL.out.size))
 replace HT := hid (HT.out.keep HBT.out)
 replace HX := hid (HX.out.keep HBT.out)
 replace HY := hid (HY.out.keep HBT.out)
 replace HCV := hid (HCV.out.below HBT.out)
 replace HDV := hid (HDV.out.below HBT.out)
 replace HUV := hid (HUV.out.below HBT.out)
 replace HU := hid (HU.out.keep HBT.out)
 clear HBT
 obtain ⟨z0, z1, z2, z3, z4, z5, z6, z7, z8, z9, z10, z11⟩ := HU.out.cs
 (try dsimp only at z0 z1 z2 z3 z4 z5 z6 z7 z8 z9 z10 z11)
 go_wp2_with fail
 refine (rightc_go c _ r1_11 HUV.out).mono ?_
 rintro e w6 ⟨rfl, hb⟩
 clear z0 z1 z2 z3 z4 z5 z6 z7 z8 z9 z10 z11
 replace HL := hid (HL.out.trans (hb.mono HL.out.size))
 replace HT := hid (HT.out.keep hb)
 replace HX := hid (HX.out.keep hb)
 replace HY := hid (HY.out.keep hb)
 replace HCV := hid (HCV.out.below hb)
 replace HDV := hid (HDV.out.below hb)
 replace HUV := hid (HUV.out.below hb)
 replace HU := hid (HU.out.keep hb)
 clear hb
 obtain ⟨z3, hz3⟩ : ∃ z, z = rightC c := ⟨_, rfl⟩
 rw [← hz3]
 have Hz3 := hid hz3
 clear hz3
 cases z3 with
 | false =>
  go_wp2
  refine bodyPost_ret (v := .bool true) ?_ ?_ ?_
  ·
   simp [results, Tryd.results3, go_sem]
  ·
   rfl
  ·
   exact ⟨rfl, HL.out⟩
 | true =>
 have HOK := hid (show okC c from ⟨25, Hz3.out.symm⟩)
 have HCA := hid (car_small HOK.out)
 have HCD := hid (cdr_small HOK.out)
 clear Hz3
 have Lx := hid (fun (wz : World) (hSw : Below w6.heap.size w6 wz) => (HX.out.keep hSw).cs)
 have Lz := hid (fun (wz : World) (hSw : Below w6.heap.size w6 wz) => (HU.out.keep hSw).cs)
 go_upto_region 11 with fail
 (try dsimp only [List.append])
 refine wp_region_noPanic ?_
 refine wp_region_held_drew (S := (fun w' => Below w6.heap.size w6 w')) (by kernel_rfl) (by (try dsimp only); exact (Below.refl _ _).drew) (fun hHeld => ?_)
 have HBT := hid (show Below w6.heap.size w6 w6.drew from (Below.refl _ _).drew)
 generalize w6.drew = r2_0 at hHeld HBT ⊢
 refine' tk_q 0 67 hHeld ?hi10 ?hr10
 case hi10 => (refine ⟨_, rfl, rfl, rfl, fun wz hSw => ?_⟩; (try dsimp only at hSw); obtain ⟨xz0, xz1, xz2, xz3, xz4, xz5, xz6, xz7, xz8, xz9, xz10, xz11⟩ := Lx.out wz hSw; (try dsimp only at xz0 xz1 xz2 xz3 xz4 xz5 xz6 xz7 xz8 xz9 xz10 xz11); go_simp; (try with_reducible rfl))
 (try simp only [pq1, ls0, ls1])
 refine' tk_q 2 69 hHeld ?hi11 ?hr11
 case hi11 => (refine ⟨_, rfl, rfl, rfl, fun wz hSw => ?_⟩; (try dsimp only at hSw); obtain ⟨zz0, zz1, zz2, zz3, zz4, zz5, zz6, zz7, zz8, zz9, zz10, zz11⟩ := Lz.out wz hSw; (try dsimp only at zz0 zz1 zz2 zz3 zz4 zz5 zz6 zz7 zz8 zz9 zz10 zz11); go_simp; (try with_reducible rfl))
 (try simp only [pq1, ls0, ls1])
 refine' tk_call 1 ?hi12 (by kernel_rfl) ?hr12
 case hi12 => rfl
 intro K hK
 go_simp
 go_at_call 21
 refine (car_p c _ r2_0 HOK.out.shape (by have := HCA.out; have := HSC.out; omega) (by have := HCA.out; have := HSC.out; omega) HCA.out.2.2.thin (HCV.out.below HBT.out)).mono ?_
 rintro e r2_1 ⟨⟨v, rfl, hv⟩, hb⟩
 obtain ⟨a1, a2, a3, a4, rfl, _, _⟩ := hv.form
 have HV1 := hid hv.cv
 clear hv
 replace HBT := hid (HBT.out.trans (hb.mono HBT.out.size))
 clear hb
 go_wp2_with fail
 clear hHeld
 refine hK.out _ _ (by (try dsimp only); exact HBT.out) (fun hHeld => ?_)
 clear hK K
 (try simp only [pq1, ls0, ls1])
 refine' tk_call 3 ?hi13 (by kernel_rfl) ?hr13
 case hi13 => rfl
 intro K hK
 go_simp
 go_at_call 22
 refine (rcar_go NC c _ r2_1 (fun _ h => h.elim) (plen_all HOK.out).1 (plen_all HOK.out).2 (HUV.out.below HBT.out)).mono ?_
 rintro e r2_2 ⟨⟨u, rfl, hu⟩, hb⟩
 obtain ⟨b1, b2, b3, b4, rfl, _, _⟩ := hu.form
 have HV2 := hid hu
 replace HV1 := hid (HV1.out.below hb)
 clear hu
 replace HBT := hid (HBT.out.trans (hb.mono HBT.out.size))
 clear hb
 go_wp2_with fail
 clear hHeld
 refine hK.out _ _ (by (try dsimp only); exact HBT.out) (fun hHeld => ?_)
 clear hK K
 (try simp only [pq1, ls0, ls1])
 refine' tk_call 4 ?hi14 (by kernel_rfl) ?hr14
 case hi14 => rfl
 intro K hK
 go_simp
 go_at_call 20
 refine (same7_go (carC c) (carC c) _ _ r2_2 HCA.out.2.2.thin HV1.out HV2.out).mono ?_
 rintro e r2_3 ⟨rfl, hb⟩
 rw [sameC_self]
 clear HV1 HV2
 replace HBT := hid (HBT.out.trans (hb.mono HBT.out.size))
 clear hb
 go_wp2_with fail
 clear hHeld
 refine hK.out _ _ (by (try dsimp only); exact HBT.out) (fun hHeld => ?_)
 clear hK K
 (try simp only [pq1, ls0, ls1])
 refine' tk_q 5 11 hHeld ?hi15 ?hr15
 case hi15 => (refine ⟨_, rfl, rfl, rfl, fun wz hSw => ?_⟩; (try dsimp only at hSw); go_simp; (try with_reducible rfl))
 (try simp only [pq1, ls0, ls1])
 refine wpAnyH_done (by kernel_rfl) ?_ _
 refine NoPanic.normal ?_
 clear Lx Lz
 replace HL := hid (HL.out.trans (HBT.out.mono HL.out.size))
 replace HT := hid (HT.out.keep HBT.out)
 replace HX := hid (HX.out.keep HBT.out)
 replace HY := hid (HY.out.keep HBT.out)
 replace HCV := hid (HCV.out.below HBT.out)
 replace HDV := hid (HDV.out.below HBT.out)
 replace HUV := hid (HUV.out.below HBT.out)
 replace HU := hid (HU.out.keep HBT.out)
 clear HBT
 have Lx := hid (fun (wz : World) (hSw : Below r2_3.heap.size r2_3 wz) => (HX.out.keep hSw).cs)
 have Lz := hid (fun (wz : World) (hSw : Below r2_3.heap.size r2_3 wz) => (HU.out.keep hSw).cs)
 go_upto_region 12 with fail
 (try dsimp only [List.append])
 refine wp_region_noPanic ?_
 refine wp_region_held_drew (S := (fun w' => Below r2_3.heap.size r2_3 w')) (by kernel_rfl) (by (try dsimp only); exact (Below.refl _ _).drew) (fun hHeld => ?_)
 have HBT := hid (show Below r2_3.heap.size r2_3 r2_3.drew from (Below.refl _ _).drew)
 generalize r2_3.drew = r3_0 at hHeld HBT ⊢
 refine' tk_q 0 72 hHeld ?hi16 ?hr16
 case hi16 => (refine ⟨_, rfl, rfl, rfl, fun wz hSw => ?_⟩; (try dsimp only at hSw); obtain ⟨xz0, xz1, xz2, xz3, xz4, xz5, xz6, xz7, xz8, xz9, xz10, xz11⟩ := Lx.out wz hSw; (try dsimp only at xz0 xz1 xz2 xz3 xz4 xz5 xz6 xz7 xz8 xz9 xz10 xz11); go_simp; (try with_reducible rfl))
 (try simp only [pq1, ls0, ls1])
 refine' tk_q 2 74 hHeld ?hi17 ?hr17
 case hi17 => (refine ⟨_, rfl, rfl, rfl, fun wz hSw => ?_⟩; (try dsimp only at hSw); obtain ⟨zz0, zz1, zz2, zz3, zz4, zz5, zz6, zz7, zz8, zz9, zz10, zz11⟩ := Lz.out wz hSw; (try dsimp only at zz0 zz1 zz2 zz3 zz4 zz5 zz6 zz7 zz8 zz9 zz10 zz11); go_simp; (try with_reducible rfl))
 (try simp only [pq1, ls0, ls1])
 refine' tk_call 1 ?hi18 (by kernel_rfl) ?hr18
 case hi18 => rfl
 intro K hK
 go_simp
 go_at_call 23
 refine (cdr_p c _ r3_0 HOK.out.shape (by have := HCD.out; have := HSC.out; omega) (by have := HCD.out; have := HSC.out; omega) HCD.out.2.2.thin (HT.out.keep HBT.out) (HCV.out.below HBT.out)).mono ?_
 rintro e r3_1 ⟨⟨v, rfl, hv⟩, hb⟩
 obtain ⟨a1, a2, a3, a4, rfl, _, _⟩ := hv.form
 have HV1 := hid hv.cv
 clear hv
 replace HBT := hid (HBT.out.trans (hb.mono HBT.out.size))
 clear hb
 go_wp2_with fail
 clear hHeld
 refine hK.out _ _ (by (try dsimp only); exact HBT.out) (fun hHeld => ?_)
 clear hK K
 (try simp only [pq1, ls0, ls1])
 refine' tk_call 3 ?hi19 (by kernel_rfl) ?hr19
 case hi19 => rfl
 intro K hK
 go_simp
 go_at_call 24
 refine (rcdr_go NC c _ r3_1 (fun _ h => h.elim) (plen_all HOK.out).1 (plen_all HOK.out).2 (HUV.out.below HBT.out)).mono ?_
 rintro e r3_2 ⟨⟨u, rfl, hu⟩, hb⟩
 obtain ⟨b1, b2, b3, b4, rfl, _, _⟩ := hu.form
 have HV2 := hid hu
 replace HV1 := hid (HV1.out.below hb)
 clear hu
 replace HBT := hid (HBT.out.trans (hb.mono HBT.out.size))
 clear hb
 go_wp2_with fail
 clear hHeld
 refine hK.out _ _ (by (try dsimp only); exact HBT.out) (fun hHeld => ?_)
 clear hK K
 (try simp only [pq1, ls0, ls1])
 refine' tk_call 4 ?hi1a (by kernel_rfl) ?hr1a
 case hi1a => rfl
 intro K hK
 go_simp
 go_at_call 20
 refine (same7_go (cdrC c) (cdrC c) _ _ r3_2 HCD.out.2.2.thin HV1.out HV2.out).mono ?_
 rintro e r3_3 ⟨rfl, hb⟩
 rw [sameC_self]
 clear HV1 HV2
 replace HBT := hid (HBT.out.trans (hb.mono HBT.out.size))
 clear hb
 go_wp2_with fail
 clear hHeld
 refine hK.out _ _ (by (try dsimp only); exact HBT.out) (fun hHeld => ?_)
 clear hK K
 (try simp only [pq1, ls0, ls1])
 refine' tk_q 5 12 hHeld ?hi1b ?hr1b
 case hi1b => (refine ⟨_, rfl, rfl, rfl, fun wz hSw => ?_⟩; (try dsimp only at hSw); go_simp; (try with_reducible rfl))
 (try simp only [pq1, ls0, ls1])
 refine wpAnyH_done (by kernel_rfl) ?_ _
 refine NoPanic.normal ?_
 clear Lx Lz
 replace HL := hid (HL.out.trans (HBT.out.mono HL.out.size))
 replace HT := hid (HT.out.keep HBT.out)
 replace HX := hid (HX.out.keep HBT.out)
 replace HY := hid (HY.out.keep HBT.out)
 replace HCV := hid (HCV.out.below HBT.out)
 replace HDV := hid (HDV.out.below HBT.out)
 replace HUV := hid (HUV.out.below HBT.out)
 replace HU := hid (HU.out.keep HBT.out)
 clear HBT
 have HRG := HRG0
 have Lx := hid (fun (wz : World) (hSw : Below r3_3.heap.size r3_3 wz) => (HX.out.keep hSw).cs)
 have Lz := hid (fun (wz : World) (hSw : Below r3_3.heap.size r3_3 wz) => (HU.out.keep hSw).cs)
 go_upto_region 13 with fail
 (try dsimp only [List.append])
 refine wp_region_noPanic ?_
 refine wp_region_held_drew (S := (fun w' => Below r3_3.heap.size r3_3 w')) (by kernel_rfl) (by (try dsimp only); exact (Below.refl _ _).drew) (fun hHeld => ?_)
 have HBT := hid (show Below r3_3.heap.size r3_3 r3_3.drew from (Below.refl _ _).drew)
 generalize r3_3.drew = r4_0 at hHeld HBT ⊢
 refine' tk_q 0 77 hHeld ?hi1c ?hr1c
 case hi1c => (refine ⟨_, rfl, rfl, rfl, fun wz hSw => ?_⟩; (try dsimp only at hSw); go_simp; (try with_reducible rfl))
 (try simp only [pq1, ls0, ls1])
 refine' tk_q 1 78 hHeld ?hi1d ?hr1d
 case hi1d => (refine ⟨_, rfl, rfl, rfl, fun wz hSw => ?_⟩; (try dsimp only at hSw); go_simp; (try with_reducible rfl))
 (try simp only [pq1, ls0, ls1])
 refine' tk_q 2 79 hHeld ?hi1e ?hr1e
 case hi1e => (refine ⟨_, rfl, rfl, rfl, fun wz hSw => ?_⟩; (try dsimp only at hSw); go_simp; (try with_reducible rfl))
 (try simp only [pq1, ls0, ls1])
 refine' tk_q 3 80 hHeld ?hi1f ?hr1f
 case hi1f => (refine ⟨_, rfl, rfl, rfl, fun wz hSw => ?_⟩; (try dsimp only at hSw); go_simp; (try with_reducible rfl))
 (try simp only [pq1, ls0, ls1])
 refine' tk_q 4 81 hHeld ?hi1g ?hr1g
 case hi1g => (refine ⟨_, rfl, rfl, rfl, fun wz hSw => ?_⟩; (try dsimp only at hSw); go_simp; (try with_reducible rfl))
 (try simp only [pq1, ls0, ls1])
 refine' tk_q 5 82 hHeld ?hi1h ?hr1h
 case hi1h => (refine ⟨_, rfl, rfl, rfl, fun wz hSw => ?_⟩; (try dsimp only at hSw); go_simp; (try with_reducible rfl))
 (try simp only [pq1, ls0, ls1])
 refine' tk_q 6 83 hHeld ?hi1i ?hr1i
 case hi1i => (refine ⟨_, rfl, rfl, rfl, fun wz hSw => ?_⟩; (try dsimp only at hSw); go_simp; (try with_reducible rfl))
 (try simp only [pq1, ls0, ls1])
 refine' tk_q 7 84 hHeld ?hi1j ?hr1j
 case hi1j => (refine ⟨_, rfl, rfl, rfl, fun wz hSw => ?_⟩; (try dsimp only at hSw); go_simp; (try with_reducible rfl))
 (try simp only [pq1, ls0, ls1])
 refine' tk_q 8 85 hHeld ?hi1k ?hr1k
 case hi1k => (refine ⟨_, rfl, rfl, rfl, fun wz hSw => ?_⟩; (try dsimp only at hSw); obtain ⟨xz0, xz1, xz2, xz3, xz4, xz5, xz6, xz7, xz8, xz9, xz10, xz11⟩ := Lx.out wz hSw; (try dsimp only at xz0 xz1 xz2 xz3 xz4 xz5 xz6 xz7 xz8 xz9 xz10 xz11); go_simp; (try with_reducible rfl))
 (try simp only [pq1, ls0, ls1])
 refine' tk_q 9 86 hHeld ?hi1l ?hr1l
 case hi1l => (refine ⟨_, rfl, rfl, rfl, fun wz hSw => ?_⟩; (try dsimp only at hSw); go_simp; (try with_reducible rfl))
 (try simp only [pq1, ls0, ls1])
 refine' tk_q 11 88 hHeld ?hi1m ?hr1m
 case hi1m => (refine ⟨_, rfl, rfl, rfl, fun wz hSw => ?_⟩; (try dsimp only at hSw); obtain ⟨zz0, zz1, zz2, zz3, zz4, zz5, zz6, zz7, zz8, zz9, zz10, zz11⟩ := Lz.out wz hSw; (try dsimp only at zz0 zz1 zz2 zz3 zz4 zz5 zz6 zz7 zz8 zz9 zz10 zz11); go_simp; (try with_reducible rfl))
 (try simp only [pq1, ls0, ls1])
 refine' tk_q 12 89 hHeld ?hi1n ?hr1n
 case hi1n => (refine ⟨_, rfl, rfl, rfl, fun wz hSw => ?_⟩; (try dsimp only at hSw); go_simp; (try with_reducible rfl))
 (try simp only [pq1, ls0, ls1])
 refine' tk_call 10 ?hi1o (by kernel_rfl) ?hr1o
 case hi1o => rfl
 intro K hK
 go_simp
 go_at_call 25
 refine (first_p c tag _ r4_0 HRG.out (HT.out.keep HBT.out) (HCV.out.below HBT.out)).mono ?_
 rintro e r4_1 ⟨rfl, hb⟩
 replace HBT := hid (HBT.out.trans (hb.mono HBT.out.size))
 clear hb
 go_wp2_with fail
 clear hHeld
 refine hK.out _ _ (by (try dsimp only); exact HBT.out) (fun hHeld => ?_)
 clear hK K
 (try simp only [pq1, ls0, ls1])
 refine' tk_call 13 ?hi1p (by kernel_rfl) ?hr1p
 case hi1p => rfl
 intro K hK
 go_simp
 go_at_call 26
 refine (rfirst_go c tag _ r4_1 (HUV.out.below HBT.out)).mono ?_
 rintro e r4_2 ⟨rfl, hb⟩
 replace HBT := hid (HBT.out.trans (hb.mono HBT.out.size))
 clear hb
 go_wp2_with fail
 clear hHeld
 refine hK.out _ _ (by (try dsimp only); exact HBT.out) (fun hHeld => ?_)
 clear hK K
 (try simp only [pq1, ls0, ls1])
 refine' tk_q 14 91 hHeld ?hi1q ?hr1q
 case hi1q => (refine ⟨_, rfl, rfl, rfl, fun wz hSw => ?_⟩; (try dsimp only at hSw); go_simp; (try with_reducible rfl))
 (try simp only [pq1, ls0, ls1])
 refine' tk_q 15 92 hHeld ?hi1r ?hr1r
 case hi1r => (refine ⟨_, rfl, rfl, rfl, fun wz hSw => ?_⟩; (try dsimp only at hSw); go_simp; (try with_reducible rfl))
 (try simp only [pq1, ls0, ls1])
 refine' tk_q 16 93 hHeld ?hi1s ?hr1s
 case hi1s => (refine ⟨_, rfl, rfl, rfl, fun wz hSw => ?_⟩; (try dsimp only at hSw); go_simp; (try with_reducible rfl))
 (try simp only [pq1, ls0, ls1])
 refine' tk_q 17 94 hHeld ?hi1t ?hr1t
 case hi1t => (refine ⟨_, rfl, rfl, rfl, fun wz hSw => ?_⟩; (try dsimp only at hSw); obtain ⟨xz0, xz1, xz2, xz3, xz4, xz5, xz6, xz7, xz8, xz9, xz10, xz11⟩ := Lx.out wz hSw; (try dsimp only at xz0 xz1 xz2 xz3 xz4 xz5 xz6 xz7 xz8 xz9 xz10 xz11); go_simp; (try with_reducible rfl))
 (try simp only [pq1, ls0, ls1])
 refine' tk_q 18 95 hHeld ?hi1u ?hr1u
 case hi1u => (refine ⟨_, rfl, rfl, rfl, fun wz hSw => ?_⟩; (try dsimp only at hSw); go_simp; (try with_reducible rfl))
 (try simp only [pq1, ls0, ls1])
 refine' tk_q 20 97 hHeld ?hi1v ?hr1v
 case hi1v => (refine ⟨_, rfl, rfl, rfl, fun wz hSw => ?_⟩; (try dsimp only at hSw); obtain ⟨zz0, zz1, zz2, zz3, zz4, zz5, zz6, zz7, zz8, zz9, zz10, zz11⟩ := Lz.out wz hSw; (try dsimp only at zz0 zz1 zz2 zz3 zz4 zz5 zz6 zz7 zz8 zz9 zz10 zz11); go_simp; (try with_reducible rfl))
 (try simp only [pq1, ls0, ls1])
 refine' tk_q 21 98 hHeld ?hi1w ?hr1w
 case hi1w => (refine ⟨_, rfl, rfl, rfl, fun wz hSw => ?_⟩; (try dsimp only at hSw); go_simp; (try with_reducible rfl))
 (try simp only [pq1, ls0, ls1])
 refine' tk_call 19 ?hi1x (by kernel_rfl) ?hr1x
 case hi1x => rfl
 intro K hK
 go_simp
 go_at_call 27
 refine (wraps_p c tag _ r4_2 HOK.out.shape (HCV.out.below HBT.out)).mono ?_
 rintro e r4_3 ⟨rfl, hb⟩
 replace HBT := hid (HBT.out.trans (hb.mono HBT.out.size))
 clear hb
 go_wp2_with fail
 clear hHeld
 refine hK.out _ _ (by (try dsimp only); exact HBT.out) (fun hHeld => ?_)
 clear hK K
 (try simp only [pq1, ls0, ls1])
 refine' tk_call 22 ?hi1y (by kernel_rfl) ?hr1y
 case hi1y => rfl
 intro K hK
 go_simp
 go_at_call 28
 refine (rwraps_go c tag _ r4_3 (HUV.out.below HBT.out)).mono ?_
 rintro e r4_4 ⟨rfl, hb⟩
 replace HBT := hid (HBT.out.trans (hb.mono HBT.out.size))
 clear hb
 go_wp2_with fail
 clear hHeld
 refine hK.out _ _ (by (try dsimp only); exact HBT.out) (fun hHeld => ?_)
 clear hK K
 (try simp only [pq1, ls0, ls1])
 refine' tk_q 23 100 hHeld ?hi1z ?hr1z
 case hi1z => (refine ⟨_, rfl, rfl, rfl, fun wz hSw => ?_⟩; (try dsimp only at hSw); go_simp; (try with_reducible rfl))
 (try simp only [pq1, ls0, ls1])
 refine' tk_q 24 101 hHeld ?hi20 ?hr20
 case hi20 => (refine ⟨_, rfl, rfl, rfl, fun wz hSw => ?_⟩; (try dsimp only at hSw); go_simp; (try with_reducible rfl))
 (try simp only [pq1, ls0, ls1])
 refine' tk_q 25 6 hHeld ?hi21 ?hr21
 case hi21 => (refine ⟨_, rfl, rfl, rfl, fun wz hSw => ?_⟩; (try dsimp only at hSw); go_simp; (try with_reducible rfl))
 (try simp only [pq1, ls0, ls1])
 refine wpAnyH_done (by kernel_rfl) ?_ _
 refine NoPanic.normal ?_
 clear Lx Lz
 replace HL := hid (HL.out.trans (HBT.out.mono HL.out.size))
 replace HT := hid (HT.out.keep HBT.out)
 replace HX := hid (HX.out.keep HBT.out)
 replace HY := hid (HY.out.keep HBT.out)
 replace HCV := hid (HCV.out.below HBT.out)
 replace HDV := hid (HDV.out.below HBT.out)
 replace HUV := hid (HUV.out.below HBT.out)
 replace HU := hid (HU.out.keep HBT.out)
 clear HBT
 go_wp2
 refine bodyPost_ret (v := .bool true) ?_ ?_ ?_
 ·
  simp [results, Tryd.results3, go_sem]
 ·
  rfl
 ·
  exact ⟨rfl, HL.out⟩
end Go.Proofs.YtlalnkabfigodaaDoor
