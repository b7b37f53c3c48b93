import Derived.Test.YtlalnkabfigodaaDoorCoCp
namespace Go.Proofs.YtlalnkabfigodaaDoor
open Go.Lib (hid)
open Go.RowKit

set_option maxRecDepth 100000 in
set_option maxHeartbeats 16000000 in
theorem copied_succ (M n : Nat) (hM : M ≤ 2147483647) (ih : CpOK M n) : CpOK M (n + 1) := by
 intro x vx w cw k d hsz hk hd hth hw hx
 have hsx := szC_eq x
 have hhx := htC_eq x
 have hcw := hw.lt
 obtain ⟨sz, hszz⟩ : ∃ n, n = szC x := ⟨_, rfl⟩
 rw [← hszz] at hsz hk hsx ⊢
 obtain ⟨pa, pc, fa, fc, rfl, hp, hf⟩ := hx.form
 obtain ⟨np, hnp⟩ : ∃ n, n = x.pairs.length := ⟨_, rfl⟩
 obtain ⟨nf, hnf⟩ : ∃ n, n = x.funs.length := ⟨_, rfl⟩
 have hcpp := fun w1 k1 (h1 : szCs x.pairs ≤ n) h2 h3 h4 h5 => copies_of M n ih x.pairs pa pc w1 cw k1 d h1 h2 h3 (by have := hth.len; omega) (fun e he => hth.pair he) h4 h5
 have hcpf := fun w1 k1 (h1 : szCs x.funs ≤ n) h2 h3 h4 h5 => copies_of M n ih x.funs fa fc w1 cw k1 d h1 h2 h3 (by have := hth.len; omega) (fun e he => hth.fun he) h4 h5
 rw [← hnp] at hp hcpp
 rw [← hnf] at hf hcpf
 rw [← hnp, ← hnf]
 obtain ⟨W, hW⟩ : ∃ W, W = (w.alloc (.cells #[.int .i64 x.h.f0, .int .i64 x.h.f1, .int .i64 x.h.f2, .int .i64 x.h.f3, .int .i64 x.h.f4, .int .i64 x.h.f5, .int .i64 x.h.pair, .int .i64 x.h.pl, .slice pa np pc, .int .i64 x.h.fn, .int .i64 x.h.fl, .slice fa nf fc] 25)).alloc (.cells #[.int .i64 0, .int .i64 0, .int .i64 0, .int .i64 0, .int .i64 0, .int .i64 0, .int .i64 0, .int .i64 0, .slice none 0 0, .int .i64 0, .int .i64 0, .slice none 0 0] 25) := ⟨_, rfl⟩
 have hb : Below w.heap.size w W := by rw [hW]; exact (bAl _ _).alloc (by simp) _
 have hsz2 : W.heap.size = w.heap.size + 2 := by rw [hW]; simp
 have HX := hid (show CBox W w.heap.size 25 ⟨x.h, .slice pa np pc, .slice fa nf fc⟩ by rw [hW]; exact (CBox.made w 25 ⟨x.h, .slice pa np pc, .slice fa nf fc⟩).keep (bAl _ _))
 have HR := hid (show CBox W (w.heap.size + 1) 25 ⟨⟨0, 0, 0, 0, 0, 0, 0, 0, 0, 0⟩, .slice none 0 0, .slice none 0 0⟩ by rw [hW]; have := CBox.made (w.alloc (.cells #[.int .i64 x.h.f0, .int .i64 x.h.f1, .int .i64 x.h.f2, .int .i64 x.h.f3, .int .i64 x.h.f4, .int .i64 x.h.f5, .int .i64 x.h.pair, .int .i64 x.h.pl, .slice pa np pc, .int .i64 x.h.fn, .int .i64 x.h.fl, .slice fa nf fc] 25)) 25 ⟨⟨0, 0, 0, 0, 0, 0, 0, 0, 0, 0⟩, .slice none 0 0, .slice none 0 0⟩; simp only [alloc_hs7] at this; exact this)
 have HB := hid hb
 have HCPp := hid hcpp
 have HCPf := hid hcpf
 have HWK0 := hid (hw.keep hb)
 have HLT0 := hid hcw
 have HP := hid (CoSN.below hp hb)
 have HF := hid (CoSN.below hf hb)
 have HNP := hid hnp
 have HNF := hid hnf
 have HM := hid hM
 have HBD := hid (show sz ≤ n + 1 ∧ k + sz ≤ M ∧ d + (max (htCs x.pairs) (htCs x.funs) + 1) ≤ 131000 ∧ sz = 1 + szCs x.pairs + szCs x.funs from ⟨hsz, hk, by rw [← hhx]; exact hd, hsx⟩)
 have HS2 := hid hsz2
 have HW := hid hW
 have hd2 : (d : Int) ≤ 131000 := by omega
 clear hb hsz2 hcpp hcpf hth hw hcw hp hf hnp hnf hM hsz hk hd hsx hhx hW hx ih hszz
 go_enter Tryd.func73, Tryd.ntmps73
 go_wp2_with fail
 rw [← HW.out]
 refine (onc_any M cw k d W HWK0.out (by have := HBD.out; omega) HM.out (by omega)).mono ?_
 rintro e w2 ⟨rfl, hs2, hw2⟩
 have HXC := hid (HX.out.stay hs2 (by have := HLT0.out; omega))
 have HRC := hid (HR.out.stay hs2 (by have := HLT0.out; omega))
 have HS0 := hid (show Stay (· = cw) w w2 from (Stay.of HB.out).trans hs2)
 have HWK := hid hw2
 have HP2 := hid (CoSN.stay HP.out hs2)
 have HF2 := hid (CoSN.stay HF.out hs2)
 have HSZ := hid (show w.heap.size + 2 ≤ w2.heap.size by have := hs2.size; have := HS2.out; omega)
 clear hs2 hw2
 replace HP := HP2
 replace HF := HF2
 clear HP2 HF2 HX HR HWK0 HW HS2 HB
 go_upto_region 3 with fail
 clear W
 obtain ⟨W, hWW⟩ : ∃ W, W = w2.drew := ⟨_, rfl⟩
 have hbd : Below w2.heap.size w2 W := by rw [hWW]; exact (Below.refl _ _).drew
 have hlt : Old W.heap.size w.heap.size ∧ Old W.heap.size cw := by unfold Old; have := hbd.size; have := HSZ.out; have := HLT0.out; exact ⟨by omega, by omega⟩
 replace HXC := hid (HXC.out.keep hbd)
 replace HRC := hid (HRC.out.keep hbd)
 replace HS0 := hid (HS0.out.then hbd)
 replace HWK := hid (HWK.out.keep hbd)
 replace HP := hid (CoSN.below HP.out hbd)
 replace HF := hid (CoSN.below HF.out hbd)
 replace HSZ := hid (Nat.le_trans HSZ.out hbd.size)
 have HSC := hid (Stay.refl (N := (· = cw)) (a := W))
 have HLT2 := hid (show w.heap.size + 1 < W.heap.size by have := HSZ.out; omega)
 have HLT := hid (show Old W.heap.size w.heap.size ∧ Old W.heap.size cw ∧ cw < w.heap.size from ⟨hlt.1, hlt.2, HLT0.out⟩)
 have X8 := HXC.out.c8
 have X11 := HXC.out.c11
 have HWW := hid hWW
 clear hbd hlt HLT0 hWW
 (try dsimp only [List.append])
 refine wp_region_noPanic ?_
 refine wp_region_held_drew (S := (fun _ => True)) (by kernel_rfl) (by (try dsimp only); (try trivial)) (fun hHeld => ?_)
 rw [← HWW.out]
 refine' tk_q 0 12 hHeld ?hi0 ?hr0
 case hi0 => (refine ⟨_, rfl, rfl, rfl, fun w hSw => ?_⟩; (try dsimp only at hSw); go_simp; (try with_reducible rfl))
 (try simp only [pq1, ls0, ls1])
 refine' tk_q 1 13 hHeld ?hi1 ?hr1
 case hi1 => (refine ⟨_, rfl, rfl, rfl, fun w hSw => ?_⟩; (try dsimp only at hSw); go_simp; (try with_reducible rfl))
 (try simp only [pq1, ls0, ls1])
 refine' tk_q 3 15 hHeld ?hi2 ?hr2
 case hi2 => (refine ⟨_, rfl, rfl, rfl, fun w hSw => ?_⟩; (try dsimp only at hSw); go_simp; (try with_reducible rfl))
 (try simp only [pq1, ls0, ls1])
 refine' tk_q 5 17 hHeld ?hi3 ?hr3
 case hi3 => (refine ⟨_, rfl, rfl, rfl, fun w hSw => ?_⟩; (try dsimp only at hSw); go_simp; (try with_reducible rfl))
 (try simp only [pq1, ls0, ls1])
 refine' tk_q 6 18 hHeld ?hi4 ?hr4
 case hi4 => (refine ⟨_, rfl, rfl, rfl, fun w hSw => ?_⟩; (try dsimp only at hSw); go_simp; (try with_reducible rfl))
 (try simp only [pq1, ls0, ls1])
 refine' tk_q 8 20 hHeld ?hi5 ?hr5
 case hi5 => (refine ⟨_, rfl, rfl, rfl, fun w hSw => ?_⟩; (try dsimp only at hSw); go_simp; (try with_reducible rfl))
 (try simp only [pq1, ls0, ls1])
 refine' tk_two 2 7 ?hi6 ?hj6 (by kernel_rfl) ?ha6 ?hb6
 case hi6 => rfl
 case hj6 => rfl
 case ha6 =>
  intro K hK
  go_simp
  clear hHeld
  refine hK.out _ _ (by (try dsimp only); (try trivial)) (fun hHeld => ?_)
  clear hK K
  (try simp only [pq1, ls0, ls1])
  refine' tk_two 4 7 ?hi7 ?hj7 (by kernel_rfl) ?ha7 ?hb7
  case hi7 => rfl
  case hj7 => rfl
  case ha7 =>
   intro K hK
   go_simp
   go_at_call 93
   refine (HCPp.out W (k + 1) (by have := HBD.out; omega) (by have := HBD.out; omega) (by have := HBD.out; omega) HWK.out (CoSN.stay HP.out HSC.out)).mono ?_
   rintro e wp ⟨⟨v, rfl, hv⟩, hs, k2, hk2, hw2⟩
   obtain ⟨rpa, rpc, rfl⟩ := hv.val
   rw [← HNP.out] at hv ⊢
   have HVp := hid hv
   have HK2 := hid hk2
   have HWK2 := hid hw2
   have HSA := hid hs
   have HXC2 := hid (HXC.out.stay hs (by have := HLT.out; omega))
   have HSC2 := hid (HSC.out.trans hs)
   have HS02 := hid (HS0.out.trans hs)
   have HSZ2 := hid (Nat.le_trans HSZ.out hs.size)
   clear hv hs hk2 hw2 X8 X11
   replace HXC := HXC2
   replace HSC := HSC2
   replace HS0 := HS02
   replace HSZ := HSZ2
   clear HXC2 HSC2 HS02 HSZ2
   have X8 := HXC.out.c8
   have X11 := HXC.out.c11
   go_wp2_with fail
   clear hHeld
   refine hK.out _ _ (by (try dsimp only); (try trivial)) (fun hHeld => ?_)
   clear hK K
   (try simp only [pq1, ls0, ls1])
   refine' tk_call 7 ?hi8 (by kernel_rfl) ?hr8
   case hi8 => rfl
   intro K hK
   go_simp
   clear hHeld
   refine hK.out _ _ (by (try dsimp only); (try trivial)) (fun hHeld => ?_)
   clear hK K
   (try simp only [pq1, ls0, ls1])
   refine' tk_q 10 22 hHeld ?hi9 ?hr9
   case hi9 => (refine ⟨_, rfl, rfl, rfl, fun w hSw => ?_⟩; (try dsimp only at hSw); go_simp; (try with_reducible rfl))
   (try simp only [pq1, ls0, ls1])
   refine' tk_call 9 ?hia (by kernel_rfl) ?hra
   case hia => rfl
   intro K hK
   go_simp
   go_at_call 93
   refine (HCPf.out wp k2 (by have := HBD.out; omega) (by have := HBD.out; have := HK2.out; omega) (by have := HBD.out; omega) HWK2.out (CoSN.stay HF.out HSC.out)).mono ?_
   rintro e wf ⟨⟨v, rfl, hv⟩, hs, k3, hk2, hw2⟩
   obtain ⟨rfa, rfc, rfl⟩ := hv.val
   rw [← HNF.out] at hv ⊢
   have HVf := hid (CoSN.mono hv fun b _ h => Nat.lt_of_lt_of_le h HSC.out.size)
   have HK3 := hid hk2
   have HWK3 := hid hw2
   replace HVp := hid (CoSN.stay HVp.out (hs.up (M := Old W.heap.size) fun b h => by rw [h]; exact HLT.out.2.1))
   have HXC2 := hid (HXC.out.stay hs (by have := HLT.out; omega))
   have HSC2 := hid (HSC.out.trans hs)
   have HS02 := hid (HS0.out.trans hs)
   have HSZ2 := hid (Nat.le_trans HSZ.out hs.size)
   clear hv hs hk2 hw2 X8 X11
   replace HXC := HXC2
   replace HSC := HSC2
   replace HS0 := HS02
   replace HSZ := HSZ2
   clear HXC2 HSC2 HS02 HSZ2
   go_wp2_with fail
   clear hHeld
   refine hK.out _ _ (by (try dsimp only); (try trivial)) (fun hHeld => ?_)
   clear hK K
   (try simp only [pq1, ls0, ls1])
   have X8 := HXC.out.c8
   have X11 := HXC.out.c11
   have F8 := HXC.out.fr 8
   have F11 := HXC.out.fr 11
   refine' tk_call 11 ?hib (by kernel_rfl) ?hrb
   case hib => rfl
   intro K hK
   go_simp
   clear hHeld
   refine hK.out _ _ (by (try dsimp only); (try trivial)) (fun hHeld => ?_)
   clear hK K
   (try simp only [pq1, ls0, ls1])
   have HXD := hid (show CBox (wf.setCell ⟨w.heap.size, 8, none⟩ (.slice rpa np rpc)) w.heap.size 25 ⟨x.h, .slice rpa np rpc, .slice fa nf fc⟩ from HXC.out.s8)
   clear X8 X11 F8 F11
   have X11 := HXD.out.c11
   have F11 := HXD.out.fr 11
   refine' tk_q 12 23 hHeld ?hic ?hrc
   case hic => (refine ⟨_, rfl, rfl, rfl, fun w hSw => ?_⟩; (try dsimp only at hSw); go_simp; (try with_reducible rfl))
   (try simp only [pq1, ls0, ls1])
   refine' tk_call 13 ?hid (by kernel_rfl) ?hrd
   case hid => rfl
   intro K hK
   go_simp
   clear hHeld
   refine hK.out _ _ (by (try dsimp only); (try trivial)) (fun hHeld => ?_)
   clear hK K
   (try simp only [pq1, ls0, ls1])
   refine wpAnyH_done (by kernel_rfl) ?_ _
   refine NoPanic.normal ?_
   have HXE := hid (show CBox ((wf.setCell ⟨w.heap.size, 8, none⟩ (.slice rpa np rpc)).setCell ⟨w.heap.size, 11, none⟩ (.slice rfa nf rfc)) w.heap.size 25 ⟨x.h, .slice rpa np rpc, .slice rfa nf rfc⟩ from HXD.out.s11)
   have HSE := hid (show Stay (· = cw) w ((wf.setCell ⟨w.heap.size, 8, none⟩ (.slice rpa np rpc)).setCell ⟨w.heap.size, 11, none⟩ (.slice rfa nf rfc)) from (HS0.out.setG (p := ⟨w.heap.size, 8, none⟩) (Nat.le_refl _) _).setG (p := ⟨w.heap.size, 11, none⟩) (Nat.le_refl _) _)
   have HWE := hid (show WalkC M cw _ ((wf.setCell ⟨w.heap.size, 8, none⟩ (.slice rpa np rpc)).setCell ⟨w.heap.size, 11, none⟩ (.slice rfa nf rfc)) from VarIs.off (VarIs.off HWK3.out (by have := HLT.out; omega)) (by have := HLT.out; omega))
   have HPE := hid (CoSN.set (CoSN.set HVp.out ⟨w.heap.size, 8, none⟩ HLT.out.1 (.slice rpa np rpc)) ⟨w.heap.size, 11, none⟩ HLT.out.1 (.slice rfa nf rfc))
   have HFE := hid (CoSN.set (CoSN.set HVf.out ⟨w.heap.size, 8, none⟩ HLT.out.1 (.slice rpa np rpc)) ⟨w.heap.size, 11, none⟩ HLT.out.1 (.slice rfa nf rfc))
   have HRE := hid (show CBox ((wf.setCell ⟨w.heap.size, 8, none⟩ (.slice rpa np rpc)).setCell ⟨w.heap.size, 11, none⟩ (.slice rfa nf rfc)) (w.heap.size + 1) 25 ⟨⟨0, 0, 0, 0, 0, 0, 0, 0, 0, 0⟩, .slice none 0 0, .slice none 0 0⟩ from (HRC.out.stay HSC.out (by have := HLT.out; omega)).other (by omega) |>.other (by omega))
   clear X11 F11 HXD HXC HVp HVf HSC HRC
   generalize ((wf.setCell ⟨w.heap.size, 8, none⟩ (.slice rpa np rpc)).setCell ⟨w.heap.size, 11, none⟩ (.slice rfa nf rfc)) = wz at HXE HSE HWE HPE HFE HRE ⊢
   clear HS0 HSZ HWK2 HWK HCPp HCPf HSA HP HF HWW
   have HRES := hid (show CoVN (Old W.heap.size) wz _ x by rw [x.eta]; exact CoVN.mk (h := x.h) HPE.out HFE.out)
   clear HPE HFE
   obtain ⟨x0, x1, x2, x3, x4, x5, x6, x7, x8, x9, x10, x11⟩ := HXE.out.cs
   (try dsimp only at x0 x1 x2 x3 x4 x5 x6 x7 x8 x9 x10 x11)
   obtain ⟨r0, r1, r2, r3, r4, r5, r6, r7, r8, r9, r10, r11⟩ := HRE.out.cs
   (try dsimp only at r0 r1 r2 r3 r4 r5 r6 r7 r8 r9 r10 r11)
   obtain ⟨fr0, fr1, fr2, fr3, fr4, fr5, fr6, fr7, fr8, fr9, fr10, fr11⟩ := HRE.out.frs
   go_wp2
   have HPOST := hid (show WPost M cw k sz x w (.returned (coV ⟨x.h, .slice rpa np rpc, .slice rfa nf rfc⟩)) (set12 (wz) (w.heap.size + 1) ⟨x.h, .slice rpa np rpc, .slice rfa nf rfc⟩) from WPost.cell (w1 := W) HRES.out (by omega) HLT2.out HSE.out (by have := HBD.out; have := HK3.out; have := HK2.out; omega) HWE.out HLT.out.2.2)
   refine ret12 (wz) (w.heap.size + 1) ⟨x.h, .slice rpa np rpc, .slice rfa nf rfc⟩ (HRE.out) HPOST.out (fun wf hb => ?_) rfl
   obtain ⟨z0, z1, z2, z3, z4, z5, z6, z7, z8, z9, z10, z11⟩ := hb.cs
   simp [results, Tryd.results73, go_sem, coV, z0, z1, z2, z3, z4, z5, z6, z7, z8, z9, z10, z11]
  case hb7 =>
   intro K hK
   go_simp
   clear hHeld
   refine hK.out _ _ (by (try dsimp only); (try trivial)) (fun hHeld => ?_)
   clear hK K
   (try simp only [pq1, ls0, ls1])
   refine' tk_call 4 ?hie (by kernel_rfl) ?hre
   case hie => rfl
   intro K hK
   go_simp
   go_at_call 93
   refine (HCPp.out W (k + 1) (by have := HBD.out; omega) (by have := HBD.out; omega) (by have := HBD.out; omega) HWK.out (CoSN.stay HP.out HSC.out)).mono ?_
   rintro e wp ⟨⟨v, rfl, hv⟩, hs, k2, hk2, hw2⟩
   obtain ⟨rpa, rpc, rfl⟩ := hv.val
   rw [← HNP.out] at hv ⊢
   have HVp := hid hv
   have HK2 := hid hk2
   have HWK2 := hid hw2
   have HSA := hid hs
   have HXC2 := hid (HXC.out.stay hs (by have := HLT.out; omega))
   have HSC2 := hid (HSC.out.trans hs)
   have HS02 := hid (HS0.out.trans hs)
   have HSZ2 := hid (Nat.le_trans HSZ.out hs.size)
   clear hv hs hk2 hw2 X8 X11
   replace HXC := HXC2
   replace HSC := HSC2
   replace HS0 := HS02
   replace HSZ := HSZ2
   clear HXC2 HSC2 HS02 HSZ2
   have X8 := HXC.out.c8
   have X11 := HXC.out.c11
   go_wp2_with fail
   clear hHeld
   refine hK.out _ _ (by (try dsimp only); (try trivial)) (fun hHeld => ?_)
   clear hK K
   (try simp only [pq1, ls0, ls1])
   refine' tk_q 10 22 hHeld ?hif ?hrf
   case hif => (refine ⟨_, rfl, rfl, rfl, fun w hSw => ?_⟩; (try dsimp only at hSw); go_simp; (try with_reducible rfl))
   (try simp only [pq1, ls0, ls1])
   refine' tk_call 9 ?hig (by kernel_rfl) ?hrg
   case hig => rfl
   intro K hK
   go_simp
   go_at_call 93
   refine (HCPf.out wp k2 (by have := HBD.out; omega) (by have := HBD.out; have := HK2.out; omega) (by have := HBD.out; omega) HWK2.out (CoSN.stay HF.out HSC.out)).mono ?_
   rintro e wf ⟨⟨v, rfl, hv⟩, hs, k3, hk2, hw2⟩
   obtain ⟨rfa, rfc, rfl⟩ := hv.val
   rw [← HNF.out] at hv ⊢
   have HVf := hid (CoSN.mono hv fun b _ h => Nat.lt_of_lt_of_le h HSC.out.size)
   have HK3 := hid hk2
   have HWK3 := hid hw2
   replace HVp := hid (CoSN.stay HVp.out (hs.up (M := Old W.heap.size) fun b h => by rw [h]; exact HLT.out.2.1))
   have HXC2 := hid (HXC.out.stay hs (by have := HLT.out; omega))
   have HSC2 := hid (HSC.out.trans hs)
   have HS02 := hid (HS0.out.trans hs)
   have HSZ2 := hid (Nat.le_trans HSZ.out hs.size)
   clear hv hs hk2 hw2 X8 X11
   replace HXC := HXC2
   replace HSC := HSC2
   replace HS0 := HS02
   replace HSZ := HSZ2
   clear HXC2 HSC2 HS02 HSZ2
   go_wp2_with fail
   clear hHeld
   refine hK.out _ _ (by (try dsimp only); (try trivial)) (fun hHeld => ?_)
   clear hK K
   (try simp only [pq1, ls0, ls1])
   have X8 := HXC.out.c8
   have X11 := HXC.out.c11
   have F8 := HXC.out.fr 8
   have F11 := HXC.out.fr 11
   refine' tk_call 11 ?hih (by kernel_rfl) ?hrh
   case hih => rfl
   intro K hK
   go_simp
   clear hHeld
   refine hK.out _ _ (by (try dsimp only); (try trivial)) (fun hHeld => ?_)
   clear hK K
   (try simp only [pq1, ls0, ls1])
   have HXD := hid (show CBox (wf.setCell ⟨w.heap.size, 8, none⟩ (.slice rpa np rpc)) w.heap.size 25 ⟨x.h, .slice rpa np rpc, .slice fa nf fc⟩ from HXC.out.s8)
   clear X8 X11 F8 F11
   have X11 := HXD.out.c11
   have F11 := HXD.out.fr 11
   refine' tk_q 12 23 hHeld ?hii ?hri
   case hii => (refine ⟨_, rfl, rfl, rfl, fun w hSw => ?_⟩; (try dsimp only at hSw); go_simp; (try with_reducible rfl))
   (try simp only [pq1, ls0, ls1])
   refine' tk_call 13 ?hij (by kernel_rfl) ?hrj
   case hij => rfl
   intro K hK
   go_simp
   clear hHeld
   refine hK.out _ _ (by (try dsimp only); (try trivial)) (fun hHeld => ?_)
   clear hK K
   (try simp only [pq1, ls0, ls1])
   refine wpAnyH_done (by kernel_rfl) ?_ _
   refine NoPanic.normal ?_
   have HXE := hid (show CBox ((wf.setCell ⟨w.heap.size, 8, none⟩ (.slice rpa np rpc)).setCell ⟨w.heap.size, 11, none⟩ (.slice rfa nf rfc)) w.heap.size 25 ⟨x.h, .slice rpa np rpc, .slice rfa nf rfc⟩ from HXD.out.s11)
   have HSE := hid (show Stay (· = cw) w ((wf.setCell ⟨w.heap.size, 8, none⟩ (.slice rpa np rpc)).setCell ⟨w.heap.size, 11, none⟩ (.slice rfa nf rfc)) from (HS0.out.setG (p := ⟨w.heap.size, 8, none⟩) (Nat.le_refl _) _).setG (p := ⟨w.heap.size, 11, none⟩) (Nat.le_refl _) _)
   have HWE := hid (show WalkC M cw _ ((wf.setCell ⟨w.heap.size, 8, none⟩ (.slice rpa np rpc)).setCell ⟨w.heap.size, 11, none⟩ (.slice rfa nf rfc)) from VarIs.off (VarIs.off HWK3.out (by have := HLT.out; omega)) (by have := HLT.out; omega))
   have HPE := hid (CoSN.set (CoSN.set HVp.out ⟨w.heap.size, 8, none⟩ HLT.out.1 (.slice rpa np rpc)) ⟨w.heap.size, 11, none⟩ HLT.out.1 (.slice rfa nf rfc))
   have HFE := hid (CoSN.set (CoSN.set HVf.out ⟨w.heap.size, 8, none⟩ HLT.out.1 (.slice rpa np rpc)) ⟨w.heap.size, 11, none⟩ HLT.out.1 (.slice rfa nf rfc))
   have HRE := hid (show CBox ((wf.setCell ⟨w.heap.size, 8, none⟩ (.slice rpa np rpc)).setCell ⟨w.heap.size, 11, none⟩ (.slice rfa nf rfc)) (w.heap.size + 1) 25 ⟨⟨0, 0, 0, 0, 0, 0, 0, 0, 0, 0⟩, .slice none 0 0, .slice none 0 0⟩ from (HRC.out.stay HSC.out (by have := HLT.out; omega)).other (by omega) |>.other (by omega))
   clear X11 F11 HXD HXC HVp HVf HSC HRC
   generalize ((wf.setCell ⟨w.heap.size, 8, none⟩ (.slice rpa np rpc)).setCell ⟨w.heap.size, 11, none⟩ (.slice rfa nf rfc)) = wz at HXE HSE HWE HPE HFE HRE ⊢
   clear HS0 HSZ HWK2 HWK HCPp HCPf HSA HP HF HWW
   have HRES := hid (show CoVN (Old W.heap.size) wz _ x by rw [x.eta]; exact CoVN.mk (h := x.h) HPE.out HFE.out)
   clear HPE HFE
   obtain ⟨x0, x1, x2, x3, x4, x5, x6, x7, x8, x9, x10, x11⟩ := HXE.out.cs
   (try dsimp only at x0 x1 x2 x3 x4 x5 x6 x7 x8 x9 x10 x11)
   obtain ⟨r0, r1, r2, r3, r4, r5, r6, r7, r8, r9, r10, r11⟩ := HRE.out.cs
   (try dsimp only at r0 r1 r2 r3 r4 r5 r6 r7 r8 r9 r10 r11)
   obtain ⟨fr0, fr1, fr2, fr3, fr4, fr5, fr6, fr7, fr8, fr9, fr10, fr11⟩ := HRE.out.frs
   go_wp2
   have HPOST := hid (show WPost M cw k sz x w (.returned (coV ⟨x.h, .slice rpa np rpc, .slice rfa nf rfc⟩)) (set12 (wz) (w.heap.size + 1) ⟨x.h, .slice rpa np rpc, .slice rfa nf rfc⟩) from WPost.cell (w1 := W) HRES.out (by omega) HLT2.out HSE.out (by have := HBD.out; have := HK3.out; have := HK2.out; omega) HWE.out HLT.out.2.2)
   refine ret12 (wz) (w.heap.size + 1) ⟨x.h, .slice rpa np rpc, .slice rfa nf rfc⟩ (HRE.out) HPOST.out (fun wf hb => ?_) rfl
   obtain ⟨z0, z1, z2, z3, z4, z5, z6, z7, z8, z9, z10, z11⟩ := hb.cs
   simp [results, Tryd.results73, go_sem, coV, z0, z1, z2, z3, z4, z5, z6, z7, z8, z9, z10, z11]
 case hb6 =>
  intro K hK
  go_simp
  clear hHeld
  refine hK.out _ _ (by (try dsimp only); (try trivial)) (fun hHeld => ?_)
  clear hK K
  (try simp only [pq1, ls0, ls1])
  refine' tk_call 2 ?hik (by kernel_rfl) ?hrk
  case hik => rfl
  intro K hK
  go_simp
  clear hHeld
  refine hK.out _ _ (by (try dsimp only); (try trivial)) (fun hHeld => ?_)
  clear hK K
  (try simp only [pq1, ls0, ls1])
  refine' tk_call 4 ?hil (by kernel_rfl) ?hrl
  case hil => rfl
  intro K hK
  go_simp
  go_at_call 93
  refine (HCPp.out W (k + 1) (by have := HBD.out; omega) (by have := HBD.out; omega) (by have := HBD.out; omega) HWK.out (CoSN.stay HP.out HSC.out)).mono ?_
  rintro e wp ⟨⟨v, rfl, hv⟩, hs, k2, hk2, hw2⟩
  obtain ⟨rpa, rpc, rfl⟩ := hv.val
  rw [← HNP.out] at hv ⊢
  have HVp := hid hv
  have HK2 := hid hk2
  have HWK2 := hid hw2
  have HSA := hid hs
  have HXC2 := hid (HXC.out.stay hs (by have := HLT.out; omega))
  have HSC2 := hid (HSC.out.trans hs)
  have HS02 := hid (HS0.out.trans hs)
  have HSZ2 := hid (Nat.le_trans HSZ.out hs.size)
  clear hv hs hk2 hw2 X8 X11
  replace HXC := HXC2
  replace HSC := HSC2
  replace HS0 := HS02
  replace HSZ := HSZ2
  clear HXC2 HSC2 HS02 HSZ2
  have X8 := HXC.out.c8
  have X11 := HXC.out.c11
  go_wp2_with fail
  clear hHeld
  refine hK.out _ _ (by (try dsimp only); (try trivial)) (fun hHeld => ?_)
  clear hK K
  (try simp only [pq1, ls0, ls1])
  refine' tk_q 10 22 hHeld ?him ?hrm
  case him => (refine ⟨_, rfl, rfl, rfl, fun w hSw => ?_⟩; (try dsimp only at hSw); go_simp; (try with_reducible rfl))
  (try simp only [pq1, ls0, ls1])
  refine' tk_call 9 ?hin (by kernel_rfl) ?hrn
  case hin => rfl
  intro K hK
  go_simp
  go_at_call 93
  refine (HCPf.out wp k2 (by have := HBD.out; omega) (by have := HBD.out; have := HK2.out; omega) (by have := HBD.out; omega) HWK2.out (CoSN.stay HF.out HSC.out)).mono ?_
  rintro e wf ⟨⟨v, rfl, hv⟩, hs, k3, hk2, hw2⟩
  obtain ⟨rfa, rfc, rfl⟩ := hv.val
  rw [← HNF.out] at hv ⊢
  have HVf := hid (CoSN.mono hv fun b _ h => Nat.lt_of_lt_of_le h HSC.out.size)
  have HK3 := hid hk2
  have HWK3 := hid hw2
  replace HVp := hid (CoSN.stay HVp.out (hs.up (M := Old W.heap.size) fun b h => by rw [h]; exact HLT.out.2.1))
  have HXC2 := hid (HXC.out.stay hs (by have := HLT.out; omega))
  have HSC2 := hid (HSC.out.trans hs)
  have HS02 := hid (HS0.out.trans hs)
  have HSZ2 := hid (Nat.le_trans HSZ.out hs.size)
  clear hv hs hk2 hw2 X8 X11
  replace HXC := HXC2
  replace HSC := HSC2
  replace HS0 := HS02
  replace HSZ := HSZ2
  clear HXC2 HSC2 HS02 HSZ2
  go_wp2_with fail
  clear hHeld
  refine hK.out _ _ (by (try dsimp only); (try trivial)) (fun hHeld => ?_)
  clear hK K
  (try simp only [pq1, ls0, ls1])
  have X8 := HXC.out.c8
  have X11 := HXC.out.c11
  have F8 := HXC.out.fr 8
  have F11 := HXC.out.fr 11
  refine' tk_call 11 ?hio (by kernel_rfl) ?hro
  case hio => rfl
  intro K hK
  go_simp
  clear hHeld
  refine hK.out _ _ (by (try dsimp only); (try trivial)) (fun hHeld => ?_)
  clear hK K
  (try simp only [pq1, ls0, ls1])
  have HXD := hid (show CBox (wf.setCell ⟨w.heap.size, 8, none⟩ (.slice rpa np rpc)) w.heap.size 25 ⟨x.h, .slice rpa np rpc, .slice fa nf fc⟩ from HXC.out.s8)
  clear X8 X11 F8 F11
  have X11 := HXD.out.c11
  have F11 := HXD.out.fr 11
  refine' tk_q 12 23 hHeld ?hip ?hrp
  case hip => (refine ⟨_, rfl, rfl, rfl, fun w hSw => ?_⟩; (try dsimp only at hSw); go_simp; (try with_reducible rfl))
  (try simp only [pq1, ls0, ls1])
  refine' tk_call 13 ?hiq (by kernel_rfl) ?hrq
  case hiq => rfl
  intro K hK
  go_simp
  clear hHeld
  refine hK.out _ _ (by (try dsimp only); (try trivial)) (fun hHeld => ?_)
  clear hK K
  (try simp only [pq1, ls0, ls1])
  refine wpAnyH_done (by kernel_rfl) ?_ _
  refine NoPanic.normal ?_
  have HXE := hid (show CBox ((wf.setCell ⟨w.heap.size, 8, none⟩ (.slice rpa np rpc)).setCell ⟨w.heap.size, 11, none⟩ (.slice rfa nf rfc)) w.heap.size 25 ⟨x.h, .slice rpa np rpc, .slice rfa nf rfc⟩ from HXD.out.s11)
  have HSE := hid (show Stay (· = cw) w ((wf.setCell ⟨w.heap.size, 8, none⟩ (.slice rpa np rpc)).setCell ⟨w.heap.size, 11, none⟩ (.slice rfa nf rfc)) from (HS0.out.setG (p := ⟨w.heap.size, 8, none⟩) (Nat.le_refl _) _).setG (p := ⟨w.heap.size, 11, none⟩) (Nat.le_refl _) _)
  have HWE := hid (show WalkC M cw _ ((wf.setCell ⟨w.heap.size, 8, none⟩ (.slice rpa np rpc)).setCell ⟨w.heap.size, 11, none⟩ (.slice rfa nf rfc)) from VarIs.off (VarIs.off HWK3.out (by have := HLT.out; omega)) (by have := HLT.out; omega))
  have HPE := hid (CoSN.set (CoSN.set HVp.out ⟨w.heap.size, 8, none⟩ HLT.out.1 (.slice rpa np rpc)) ⟨w.heap.size, 11, none⟩ HLT.out.1 (.slice rfa nf rfc))
  have HFE := hid (CoSN.set (CoSN.set HVf.out ⟨w.heap.size, 8, none⟩ HLT.out.1 (.slice rpa np rpc)) ⟨w.heap.size, 11, none⟩ HLT.out.1 (.slice rfa nf rfc))
  have HRE := hid (show CBox ((wf.setCell ⟨w.heap.size, 8, none⟩ (.slice rpa np rpc)).setCell ⟨w.heap.size, 11, none⟩ (.slice rfa nf rfc)) (w.heap.size + 1) 25 ⟨⟨0, 0, 0, 0, 0, 0, 0, 0, 0, 0⟩, .slice none 0 0, .slice none 0 0⟩ from (HRC.out.stay HSC.out (by have := HLT.out; omega)).other (by omega) |>.other (by omega))
  clear X11 F11 HXD HXC HVp HVf HSC HRC
  generalize ((wf.setCell ⟨w.heap.size, 8, none⟩ (.slice rpa np rpc)).setCell ⟨w.heap.size, 11, none⟩ (.slice rfa nf rfc)) = wz at HXE HSE HWE HPE HFE HRE ⊢
  clear HS0 HSZ HWK2 HWK HCPp HCPf HSA HP HF HWW
  have HRES := hid (show CoVN (Old W.heap.size) wz _ x by rw [x.eta]; exact CoVN.mk (h := x.h) HPE.out HFE.out)
  clear HPE HFE
  obtain ⟨x0, x1, x2, x3, x4, x5, x6, x7, x8, x9, x10, x11⟩ := HXE.out.cs
  (try dsimp only at x0 x1 x2 x3 x4 x5 x6 x7 x8 x9 x10 x11)
  obtain ⟨r0, r1, r2, r3, r4, r5, r6, r7, r8, r9, r10, r11⟩ := HRE.out.cs
  (try dsimp only at r0 r1 r2 r3 r4 r5 r6 r7 r8 r9 r10 r11)
  obtain ⟨fr0, fr1, fr2, fr3, fr4, fr5, fr6, fr7, fr8, fr9, fr10, fr11⟩ := HRE.out.frs
  go_wp2
  have HPOST := hid (show WPost M cw k sz x w (.returned (coV ⟨x.h, .slice rpa np rpc, .slice rfa nf rfc⟩)) (set12 (wz) (w.heap.size + 1) ⟨x.h, .slice rpa np rpc, .slice rfa nf rfc⟩) from WPost.cell (w1 := W) HRES.out (by omega) HLT2.out HSE.out (by have := HBD.out; have := HK3.out; have := HK2.out; omega) HWE.out HLT.out.2.2)
  refine ret12 (wz) (w.heap.size + 1) ⟨x.h, .slice rpa np rpc, .slice rfa nf rfc⟩ (HRE.out) HPOST.out (fun wf hb => ?_) rfl
  obtain ⟨z0, z1, z2, z3, z4, z5, z6, z7, z8, z9, z10, z11⟩ := hb.cs
  simp [results, Tryd.results73, go_sem, coV, z0, z1, z2, z3, z4, z5, z6, z7, z8, z9, z10, z11]

theorem copied_any (M : Nat) (hM : M ≤ 2147483647) (n : Nat) : CpOK M n := by
 induction n with
 | zero => intro x vx w cw k d h; have := szC_pos x; omega
 | succ n ih => exact copied_succ M n hM ih

set_option maxRecDepth 100000 in
set_option maxHeartbeats 8000000 in
theorem newwalk_p (w : World) : Calls Tryd.prog 59 #[] w fun e w' => e = .returned (.pointer (some ⟨w.heap.size, 0, none⟩)) ∧ Below w.heap.size w w' ∧ WalkC 16777216 w.heap.size 0 w' := by
 go_enter Tryd.func59, Tryd.ntmps59
 go_wp2
 go_ret
 refine ⟨rfl, bAl _ _, ?_⟩
 exact VarIs.made w 58 (.int .i64 16777216)
end Go.Proofs.YtlalnkabfigodaaDoor
