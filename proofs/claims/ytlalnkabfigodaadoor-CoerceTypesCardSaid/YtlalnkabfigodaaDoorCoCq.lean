import Derived.Test.YtlalnkabfigodaaDoorCoCp
namespace Go.Proofs.YtlalnkabfigodaaDoor
open Go.RowKit

set_option maxRecDepth 100000 in
set_option maxHeartbeats 16000000 in
theorem copied_succ (M n : Nat) (hM : M ≤ 2147483647) (ih : CpOK M n) : CpOK M (n + 1) := by
  intro x vx w cw k d hsz hk hd hth hw hx
  have hsx := szC_eq x
  have hhx := htC_eq x
  have hcw := hw.lt
  obtain ⟨sz, hszz⟩ : ∃ n, n = szC x := ⟨_, rfl⟩
  rw [← hszz] at hsz hk hsx ⊢
  obtain ⟨pa, pc, fa, fc, rfl, hp, hf⟩ := hx.form
  obtain ⟨np, hnp⟩ : ∃ n, n = x.pairs.length := ⟨_, rfl⟩
  obtain ⟨nf, hnf⟩ : ∃ n, n = x.funs.length := ⟨_, rfl⟩
  have hcpp := fun w1 k1 (h1 : szCs x.pairs ≤ n) h2 h3 h4 h5 => copies_of M n ih x.pairs pa pc w1 cw k1 d h1 h2 h3 (by have := hth.len; omega) (fun e he => hth.pair he) h4 h5
  have hcpf := fun w1 k1 (h1 : szCs x.funs ≤ n) h2 h3 h4 h5 => copies_of M n ih x.funs fa fc w1 cw k1 d h1 h2 h3 (by have := hth.len; omega) (fun e he => hth.fun he) h4 h5
  rw [← hnp] at hp hcpp
  rw [← hnf] at hf hcpf
  rw [← hnp, ← hnf]
  obtain ⟨W, hW⟩ : ∃ W, W = (w.alloc (.cells #[.int .i64 x.h.f0, .int .i64 x.h.f1, .int .i64 x.h.f2, .int .i64 x.h.f3, .int .i64 x.h.f4, .int .i64 x.h.f5, .int .i64 x.h.pair, .int .i64 x.h.pl, .slice pa np pc, .int .i64 x.h.fn, .int .i64 x.h.fl, .slice fa nf fc] 25)).alloc (.cells #[.int .i64 0, .int .i64 0, .int .i64 0, .int .i64 0, .int .i64 0, .int .i64 0, .int .i64 0, .int .i64 0, .slice none 0 0, .int .i64 0, .int .i64 0, .slice none 0 0] 25) := ⟨_, rfl⟩
  have hb : Below w.heap.size w W := by rw [hW]; exact ((Below.refl _ _).alloc (Nat.le_refl _) _).alloc (by simp) _
  have hsz2 : W.heap.size = w.heap.size + 2 := by rw [hW]; simp
  have HX := Lib.hid (show CBox W w.heap.size 25 ⟨x.h, .slice pa np pc, .slice fa nf fc⟩ by rw [hW]; exact (CBox.made w 25 ⟨x.h, .slice pa np pc, .slice fa nf fc⟩).keep ((Below.refl _ _).alloc (Nat.le_refl _) _))
  have HR := Lib.hid (show CBox W (w.heap.size + 1) 25 ⟨⟨0, 0, 0, 0, 0, 0, 0, 0, 0, 0⟩, .slice none 0 0, .slice none 0 0⟩ by rw [hW]; have := CBox.made (w.alloc (.cells #[.int .i64 x.h.f0, .int .i64 x.h.f1, .int .i64 x.h.f2, .int .i64 x.h.f3, .int .i64 x.h.f4, .int .i64 x.h.f5, .int .i64 x.h.pair, .int .i64 x.h.pl, .slice pa np pc, .int .i64 x.h.fn, .int .i64 x.h.fl, .slice fa nf fc] 25)) 25 ⟨⟨0, 0, 0, 0, 0, 0, 0, 0, 0, 0⟩, .slice none 0 0, .slice none 0 0⟩; simp only [alloc_hs7] at this; exact this)
  have HB := Lib.hid hb
  have HCPp := Lib.hid hcpp
  have HCPf := Lib.hid hcpf
  have HWK0 := Lib.hid (hw.keep hb)
  have HLT0 := Lib.hid hcw
  have HP := Lib.hid (CoSN.below hp hb)
  have HF := Lib.hid (CoSN.below hf hb)
  have HNP := Lib.hid hnp
  have HNF := Lib.hid hnf
  have HM := Lib.hid hM
  have HBD := Lib.hid (show sz ≤ n + 1 ∧ k + sz ≤ M ∧ d + (max (htCs x.pairs) (htCs x.funs) + 1) ≤ 131000 ∧ sz = 1 + szCs x.pairs + szCs x.funs from ⟨hsz, hk, by rw [← hhx]; exact hd, hsx⟩)
  have HS2 := Lib.hid hsz2
  have HW := Lib.hid hW
  have hd2 : (d : Int) ≤ 131000 := by omega
  clear hb hsz2 hcpp hcpf hth hw hcw hp hf hnp hnf hM hsz hk hd hsx hhx hW hx ih hszz
  go_enter Tryd.func73, Tryd.ntmps73
  go_wp2_with fail
  rw [← HW.out]
  refine (onc_any M cw k d W HWK0.out (by have := HBD.out; omega) HM.out (by omega)).mono ?_
  rintro e w2 ⟨rfl, hs2, hw2⟩
  have HXC := Lib.hid (HX.out.stay hs2 (by have := HLT0.out; omega))
  have HRC := Lib.hid (HR.out.stay hs2 (by have := HLT0.out; omega))
  have HS0 := Lib.hid (show Stay (· = cw) w w2 from (Stay.of HB.out).trans hs2)
  have HWK := Lib.hid hw2
  have HP2 := Lib.hid (CoSN.stay HP.out hs2)
  have HF2 := Lib.hid (CoSN.stay HF.out hs2)
  have HSZ := Lib.hid (show w.heap.size + 2 ≤ w2.heap.size by have := hs2.size; have := HS2.out; omega)
  clear hs2 hw2
  replace HP := HP2
  replace HF := HF2
  clear HP2 HF2 HX HR HWK0 HW HS2 HB
  go_upto_region 3 with fail
  clear W
  obtain ⟨W, hWW⟩ : ∃ W, W = w2.drew := ⟨_, rfl⟩
  have hbd : Below w2.heap.size w2 W := by rw [hWW]; exact (Below.refl _ _).drew
  have hlt : Old W.heap.size w.heap.size ∧ Old W.heap.size cw := by unfold Old; have := hbd.size; have := HSZ.out; have := HLT0.out; exact ⟨by omega, by omega⟩
  replace HXC := Lib.hid (HXC.out.keep hbd)
  replace HRC := Lib.hid (HRC.out.keep hbd)
  replace HS0 := Lib.hid (HS0.out.then hbd)
  replace HWK := Lib.hid (HWK.out.keep hbd)
  replace HP := Lib.hid (CoSN.below HP.out hbd)
  replace HF := Lib.hid (CoSN.below HF.out hbd)
  replace HSZ := Lib.hid (Nat.le_trans HSZ.out hbd.size)
  have HSC := Lib.hid (Stay.refl (N := (· = cw)) (a := W))
  have HLT2 := Lib.hid (show w.heap.size + 1 < W.heap.size by have := HSZ.out; omega)
  have HLT := Lib.hid (show Old W.heap.size w.heap.size ∧ Old W.heap.size cw ∧ cw < w.heap.size from ⟨hlt.1, hlt.2, HLT0.out⟩)
  have X8 := HXC.out.c8
  have X11 := HXC.out.c11
  have HWW := Lib.hid hWW
  clear hbd hlt HLT0 hWW
  (try dsimp only [List.append])
  refine wp_region_noPanic ?_
  refine wp_region_held_drew (S := (fun _ => True)) (by kernel_rfl) (by (try dsimp only); (try trivial)) (fun hHeld => ?_)
  rw [← HWW.out]
  refine' tk_any 0 12 (v := _) ?hi81001 ?hd81001 (by kernel_rfl) (by kernel_rfl) (by kernel_rfl) (fun _ _ _ h => h) ?hy81001 hHeld ?hr81001
  case hi81001 => (simp only [List.getElem?_toArray, List.getElem?_cons_zero]; rfl)
  case hd81001 => rfl
  case hy81001 =>
    refine' Or.inl ⟨?hw81001, ?hx81001⟩
    case hw81001 => rfl
    case hx81001 => (intro w hSw; (try dsimp only at hSw); go_simp; (try with_reducible rfl))
  (try simp only [Act.put, List.setIfInBounds_toArray, List.set_cons_zero, List.set_cons_succ])
  refine' tk_any 1 13 (v := _) ?hi81002 ?hd81002 (by kernel_rfl) (by kernel_rfl) (by kernel_rfl) (fun _ _ _ h => h) ?hy81002 hHeld ?hr81002
  case hi81002 => (simp only [List.getElem?_toArray, List.getElem?_cons_succ, List.getElem?_cons_zero]; rfl)
  case hd81002 => rfl
  case hy81002 =>
    refine' Or.inl ⟨?hw81002, ?hx81002⟩
    case hw81002 => rfl
    case hx81002 => (intro w hSw; (try dsimp only at hSw); go_simp; (try with_reducible rfl))
  (try simp only [Act.put, List.setIfInBounds_toArray, List.set_cons_zero, List.set_cons_succ])
  refine' tk_any 3 15 (v := _) ?hi81003 ?hd81003 (by kernel_rfl) (by kernel_rfl) (by kernel_rfl) (fun _ _ _ h => h) ?hy81003 hHeld ?hr81003
  case hi81003 => (simp only [List.getElem?_toArray, List.getElem?_cons_succ, List.getElem?_cons_zero]; rfl)
  case hd81003 => rfl
  case hy81003 =>
    refine' Or.inl ⟨?hw81003, ?hx81003⟩
    case hw81003 => rfl
    case hx81003 => (intro w hSw; (try dsimp only at hSw); go_simp; (try with_reducible rfl))
  (try simp only [Act.put, List.setIfInBounds_toArray, List.set_cons_zero, List.set_cons_succ])
  refine' tk_any 5 17 (v := _) ?hi81004 ?hd81004 (by kernel_rfl) (by kernel_rfl) (by kernel_rfl) (fun _ _ _ h => h) ?hy81004 hHeld ?hr81004
  case hi81004 => (simp only [List.getElem?_toArray, List.getElem?_cons_succ, List.getElem?_cons_zero]; rfl)
  case hd81004 => rfl
  case hy81004 =>
    refine' Or.inl ⟨?hw81004, ?hx81004⟩
    case hw81004 => rfl
    case hx81004 => (intro w hSw; (try dsimp only at hSw); go_simp; (try with_reducible rfl))
  (try simp only [Act.put, List.setIfInBounds_toArray, List.set_cons_zero, List.set_cons_succ])
  refine' tk_any 6 18 (v := _) ?hi81005 ?hd81005 (by kernel_rfl) (by kernel_rfl) (by kernel_rfl) (fun _ _ _ h => h) ?hy81005 hHeld ?hr81005
  case hi81005 => (simp only [List.getElem?_toArray, List.getElem?_cons_succ, List.getElem?_cons_zero]; rfl)
  case hd81005 => rfl
  case hy81005 =>
    refine' Or.inl ⟨?hw81005, ?hx81005⟩
    case hw81005 => rfl
    case hx81005 => (intro w hSw; (try dsimp only at hSw); go_simp; (try with_reducible rfl))
  (try simp only [Act.put, List.setIfInBounds_toArray, List.set_cons_zero, List.set_cons_succ])
  refine' tk_any 8 20 (v := _) ?hi81006 ?hd81006 (by kernel_rfl) (by kernel_rfl) (by kernel_rfl) (fun _ _ _ h => h) ?hy81006 hHeld ?hr81006
  case hi81006 => (simp only [List.getElem?_toArray, List.getElem?_cons_succ, List.getElem?_cons_zero]; rfl)
  case hd81006 => rfl
  case hy81006 =>
    refine' Or.inl ⟨?hw81006, ?hx81006⟩
    case hw81006 => rfl
    case hx81006 => (intro w hSw; (try dsimp only at hSw); go_simp; (try with_reducible rfl))
  (try simp only [Act.put, List.setIfInBounds_toArray, List.set_cons_zero, List.set_cons_succ])
  refine' tk_two 2 7 ?hi81038 ?hj81038 (by kernel_rfl) ?ha81038 ?hb81038
  case hi81038 => (simp only [List.getElem?_toArray, List.getElem?_cons_succ, List.getElem?_cons_zero]; rfl)
  case hj81038 => (simp only [List.getElem?_toArray, List.getElem?_cons_succ, List.getElem?_cons_zero]; rfl)
  case ha81038 =>
    intro K hK
    go_simp
    clear hHeld
    refine hK.out _ _ (by (try dsimp only); (try trivial)) (fun hHeld => ?_)
    clear hK K
    (try simp only [Act.put, List.setIfInBounds_toArray, List.set_cons_zero, List.set_cons_succ])
    refine' tk_two 4 7 ?hi81030 ?hj81030 (by kernel_rfl) ?ha81030 ?hb81030
    case hi81030 => (simp only [List.getElem?_toArray, List.getElem?_cons_succ, List.getElem?_cons_zero]; rfl)
    case hj81030 => (simp only [List.getElem?_toArray, List.getElem?_cons_succ, List.getElem?_cons_zero]; rfl)
    case ha81030 =>
      intro K hK
      go_simp
      go_at_call 93
      refine (HCPp.out W (k + 1) (by have := HBD.out; omega) (by have := HBD.out; omega) (by have := HBD.out; omega) HWK.out (CoSN.stay HP.out HSC.out)).mono ?_
      rintro e wp ⟨⟨v, rfl, hv⟩, hs, k2, hk2, hw2⟩
      obtain ⟨rpa, rpc, rfl⟩ := hv.val
      rw [← HNP.out] at hv ⊢
      have HVp := Lib.hid hv
      have HK2 := Lib.hid hk2
      have HWK2 := Lib.hid hw2
      have HSA := Lib.hid hs
      have HXC2 := Lib.hid (HXC.out.stay hs (by have := HLT.out; omega))
      have HSC2 := Lib.hid (HSC.out.trans hs)
      have HS02 := Lib.hid (HS0.out.trans hs)
      have HSZ2 := Lib.hid (Nat.le_trans HSZ.out hs.size)
      clear hv hs hk2 hw2 X8 X11
      replace HXC := HXC2
      replace HSC := HSC2
      replace HS0 := HS02
      replace HSZ := HSZ2
      clear HXC2 HSC2 HS02 HSZ2
      have X8 := HXC.out.c8
      have X11 := HXC.out.c11
      go_wp2_with fail
      clear hHeld
      refine hK.out _ _ (by (try dsimp only); (try trivial)) (fun hHeld => ?_)
      clear hK K
      (try simp only [Act.put, List.setIfInBounds_toArray, List.set_cons_zero, List.set_cons_succ])
      refine' tk_call 7 ?hi81018 (by kernel_rfl) ?hr81018
      case hi81018 => (simp only [List.getElem?_toArray, List.getElem?_cons_succ, List.getElem?_cons_zero]; rfl)
      intro K hK
      go_simp
      clear hHeld
      refine hK.out _ _ (by (try dsimp only); (try trivial)) (fun hHeld => ?_)
      clear hK K
      (try simp only [Act.put, List.setIfInBounds_toArray, List.set_cons_zero, List.set_cons_succ])
      refine' tk_any 10 22 (v := _) ?hi81019 ?hd81019 (by kernel_rfl) (by kernel_rfl) (by kernel_rfl) (fun _ _ _ h => h) ?hy81019 hHeld ?hr81019
      case hi81019 => (simp only [List.getElem?_toArray, List.getElem?_cons_succ, List.getElem?_cons_zero]; rfl)
      case hd81019 => rfl
      case hy81019 =>
        refine' Or.inl ⟨?hw81019, ?hx81019⟩
        case hw81019 => rfl
        case hx81019 => (intro w hSw; (try dsimp only at hSw); go_simp; (try with_reducible rfl))
      (try simp only [Act.put, List.setIfInBounds_toArray, List.set_cons_zero, List.set_cons_succ])
      refine' tk_call 9 ?hi81020 (by kernel_rfl) ?hr81020
      case hi81020 => (simp only [List.getElem?_toArray, List.getElem?_cons_succ, List.getElem?_cons_zero]; rfl)
      intro K hK
      go_simp
      go_at_call 93
      refine (HCPf.out wp k2 (by have := HBD.out; omega) (by have := HBD.out; have := HK2.out; omega) (by have := HBD.out; omega) HWK2.out (CoSN.stay HF.out HSC.out)).mono ?_
      rintro e wf ⟨⟨v, rfl, hv⟩, hs, k3, hk2, hw2⟩
      obtain ⟨rfa, rfc, rfl⟩ := hv.val
      rw [← HNF.out] at hv ⊢
      have HVf := Lib.hid (CoSN.mono hv fun b _ h => Nat.lt_of_lt_of_le h HSC.out.size)
      have HK3 := Lib.hid hk2
      have HWK3 := Lib.hid hw2
      replace HVp := Lib.hid (CoSN.stay HVp.out (hs.up (M := Old W.heap.size) fun b h => by rw [h]; exact HLT.out.2.1))
      have HXC2 := Lib.hid (HXC.out.stay hs (by have := HLT.out; omega))
      have HSC2 := Lib.hid (HSC.out.trans hs)
      have HS02 := Lib.hid (HS0.out.trans hs)
      have HSZ2 := Lib.hid (Nat.le_trans HSZ.out hs.size)
      clear hv hs hk2 hw2 X8 X11
      replace HXC := HXC2
      replace HSC := HSC2
      replace HS0 := HS02
      replace HSZ := HSZ2
      clear HXC2 HSC2 HS02 HSZ2
      go_wp2_with fail
      clear hHeld
      refine hK.out _ _ (by (try dsimp only); (try trivial)) (fun hHeld => ?_)
      clear hK K
      (try simp only [Act.put, List.setIfInBounds_toArray, List.set_cons_zero, List.set_cons_succ])
      have X8 := HXC.out.c8
      have X11 := HXC.out.c11
      have F8 := HXC.out.fr 8
      have F11 := HXC.out.fr 11
      refine' tk_call 11 ?hi81021 (by kernel_rfl) ?hr81021
      case hi81021 => (simp only [List.getElem?_toArray, List.getElem?_cons_succ, List.getElem?_cons_zero]; rfl)
      intro K hK
      go_simp
      clear hHeld
      refine hK.out _ _ (by (try dsimp only); (try trivial)) (fun hHeld => ?_)
      clear hK K
      (try simp only [Act.put, List.setIfInBounds_toArray, List.set_cons_zero, List.set_cons_succ])
      have HXD := Lib.hid (show CBox (wf.setCell ⟨w.heap.size, 8, none⟩ (.slice rpa np rpc)) w.heap.size 25 ⟨x.h, .slice rpa np rpc, .slice fa nf fc⟩ from HXC.out.s8)
      clear X8 X11 F8 F11
      have X11 := HXD.out.c11
      have F11 := HXD.out.fr 11
      refine' tk_any 12 23 (v := _) ?hi81022 ?hd81022 (by kernel_rfl) (by kernel_rfl) (by kernel_rfl) (fun _ _ _ h => h) ?hy81022 hHeld ?hr81022
      case hi81022 => (simp only [List.getElem?_toArray, List.getElem?_cons_succ, List.getElem?_cons_zero]; rfl)
      case hd81022 => rfl
      case hy81022 =>
        refine' Or.inl ⟨?hw81022, ?hx81022⟩
        case hw81022 => rfl
        case hx81022 => (intro w hSw; (try dsimp only at hSw); go_simp; (try with_reducible rfl))
      (try simp only [Act.put, List.setIfInBounds_toArray, List.set_cons_zero, List.set_cons_succ])
      refine' tk_call 13 ?hi81023 (by kernel_rfl) ?hr81023
      case hi81023 => (simp only [List.getElem?_toArray, List.getElem?_cons_succ, List.getElem?_cons_zero]; rfl)
      intro K hK
      go_simp
      clear hHeld
      refine hK.out _ _ (by (try dsimp only); (try trivial)) (fun hHeld => ?_)
      clear hK K
      (try simp only [Act.put, List.setIfInBounds_toArray, List.set_cons_zero, List.set_cons_succ])
      refine wpAnyH_done (by kernel_rfl) ?_ _
      refine NoPanic.normal ?_
      have HXE := Lib.hid (show CBox ((wf.setCell ⟨w.heap.size, 8, none⟩ (.slice rpa np rpc)).setCell ⟨w.heap.size, 11, none⟩ (.slice rfa nf rfc)) w.heap.size 25 ⟨x.h, .slice rpa np rpc, .slice rfa nf rfc⟩ from HXD.out.s11)
      have HSE := Lib.hid (show Stay (· = cw) w ((wf.setCell ⟨w.heap.size, 8, none⟩ (.slice rpa np rpc)).setCell ⟨w.heap.size, 11, none⟩ (.slice rfa nf rfc)) from (HS0.out.setG (p := ⟨w.heap.size, 8, none⟩) (Nat.le_refl _) _).setG (p := ⟨w.heap.size, 11, none⟩) (Nat.le_refl _) _)
      have HWE := Lib.hid (show WalkC M cw _ ((wf.setCell ⟨w.heap.size, 8, none⟩ (.slice rpa np rpc)).setCell ⟨w.heap.size, 11, none⟩ (.slice rfa nf rfc)) from VarIs.off (VarIs.off HWK3.out (by have := HLT.out; omega)) (by have := HLT.out; omega))
      have HPE := Lib.hid (CoSN.set (CoSN.set HVp.out ⟨w.heap.size, 8, none⟩ HLT.out.1 (.slice rpa np rpc)) ⟨w.heap.size, 11, none⟩ HLT.out.1 (.slice rfa nf rfc))
      have HFE := Lib.hid (CoSN.set (CoSN.set HVf.out ⟨w.heap.size, 8, none⟩ HLT.out.1 (.slice rpa np rpc)) ⟨w.heap.size, 11, none⟩ HLT.out.1 (.slice rfa nf rfc))
      have HRE := Lib.hid (show CBox ((wf.setCell ⟨w.heap.size, 8, none⟩ (.slice rpa np rpc)).setCell ⟨w.heap.size, 11, none⟩ (.slice rfa nf rfc)) (w.heap.size + 1) 25 ⟨⟨0, 0, 0, 0, 0, 0, 0, 0, 0, 0⟩, .slice none 0 0, .slice none 0 0⟩ from (HRC.out.stay HSC.out (by have := HLT.out; omega)).other (by omega) |>.other (by omega))
      clear X11 F11 HXD HXC HVp HVf HSC HRC
      generalize ((wf.setCell ⟨w.heap.size, 8, none⟩ (.slice rpa np rpc)).setCell ⟨w.heap.size, 11, none⟩ (.slice rfa nf rfc)) = wz at HXE HSE HWE HPE HFE HRE ⊢
      clear HS0 HSZ HWK2 HWK HCPp HCPf HSA HP HF HWW
      have HRES := Lib.hid (show CoVN (Old W.heap.size) wz _ x by rw [x.eta]; exact CoVN.mk (h := x.h) HPE.out HFE.out)
      clear HPE HFE
      have x0 : wz.cell? ⟨w.heap.size, 0, none⟩ = some (.int .i64 x.h.f0) := HXE.out.c0
      have x1 : wz.cell? ⟨w.heap.size, 1, none⟩ = some (.int .i64 x.h.f1) := HXE.out.c1
      have x2 : wz.cell? ⟨w.heap.size, 2, none⟩ = some (.int .i64 x.h.f2) := HXE.out.c2
      have x3 : wz.cell? ⟨w.heap.size, 3, none⟩ = some (.int .i64 x.h.f3) := HXE.out.c3
      have x4 : wz.cell? ⟨w.heap.size, 4, none⟩ = some (.int .i64 x.h.f4) := HXE.out.c4
      have x5 : wz.cell? ⟨w.heap.size, 5, none⟩ = some (.int .i64 x.h.f5) := HXE.out.c5
      have x6 : wz.cell? ⟨w.heap.size, 6, none⟩ = some (.int .i64 x.h.pair) := HXE.out.c6
      have x7 : wz.cell? ⟨w.heap.size, 7, none⟩ = some (.int .i64 x.h.pl) := HXE.out.c7
      have x8 : wz.cell? ⟨w.heap.size, 8, none⟩ = some (.slice rpa np rpc) := HXE.out.c8
      have x9 : wz.cell? ⟨w.heap.size, 9, none⟩ = some (.int .i64 x.h.fn) := HXE.out.c9
      have x10 : wz.cell? ⟨w.heap.size, 10, none⟩ = some (.int .i64 x.h.fl) := HXE.out.c10
      have x11 : wz.cell? ⟨w.heap.size, 11, none⟩ = some (.slice rfa nf rfc) := HXE.out.c11
      have r0 : wz.cell? ⟨(w.heap.size + 1), 0, none⟩ = some (.int .i64 0) := HRE.out.c0
      have r1 : wz.cell? ⟨(w.heap.size + 1), 1, none⟩ = some (.int .i64 0) := HRE.out.c1
      have r2 : wz.cell? ⟨(w.heap.size + 1), 2, none⟩ = some (.int .i64 0) := HRE.out.c2
      have r3 : wz.cell? ⟨(w.heap.size + 1), 3, none⟩ = some (.int .i64 0) := HRE.out.c3
      have r4 : wz.cell? ⟨(w.heap.size + 1), 4, none⟩ = some (.int .i64 0) := HRE.out.c4
      have r5 : wz.cell? ⟨(w.heap.size + 1), 5, none⟩ = some (.int .i64 0) := HRE.out.c5
      have r6 : wz.cell? ⟨(w.heap.size + 1), 6, none⟩ = some (.int .i64 0) := HRE.out.c6
      have r7 : wz.cell? ⟨(w.heap.size + 1), 7, none⟩ = some (.int .i64 0) := HRE.out.c7
      have r8 : wz.cell? ⟨(w.heap.size + 1), 8, none⟩ = some (.slice none 0 0) := HRE.out.c8
      have r9 : wz.cell? ⟨(w.heap.size + 1), 9, none⟩ = some (.int .i64 0) := HRE.out.c9
      have r10 : wz.cell? ⟨(w.heap.size + 1), 10, none⟩ = some (.int .i64 0) := HRE.out.c10
      have r11 : wz.cell? ⟨(w.heap.size + 1), 11, none⟩ = some (.slice none 0 0) := HRE.out.c11
      have fr0 : wz.frozen? ⟨(w.heap.size + 1), 0, none⟩ = false := HRE.out.fr 0
      have fr1 : wz.frozen? ⟨(w.heap.size + 1), 1, none⟩ = false := HRE.out.fr 1
      have fr2 : wz.frozen? ⟨(w.heap.size + 1), 2, none⟩ = false := HRE.out.fr 2
      have fr3 : wz.frozen? ⟨(w.heap.size + 1), 3, none⟩ = false := HRE.out.fr 3
      have fr4 : wz.frozen? ⟨(w.heap.size + 1), 4, none⟩ = false := HRE.out.fr 4
      have fr5 : wz.frozen? ⟨(w.heap.size + 1), 5, none⟩ = false := HRE.out.fr 5
      have fr6 : wz.frozen? ⟨(w.heap.size + 1), 6, none⟩ = false := HRE.out.fr 6
      have fr7 : wz.frozen? ⟨(w.heap.size + 1), 7, none⟩ = false := HRE.out.fr 7
      have fr8 : wz.frozen? ⟨(w.heap.size + 1), 8, none⟩ = false := HRE.out.fr 8
      have fr9 : wz.frozen? ⟨(w.heap.size + 1), 9, none⟩ = false := HRE.out.fr 9
      have fr10 : wz.frozen? ⟨(w.heap.size + 1), 10, none⟩ = false := HRE.out.fr 10
      have fr11 : wz.frozen? ⟨(w.heap.size + 1), 11, none⟩ = false := HRE.out.fr 11
      go_wp2
      have HBF := Lib.hid (show CBox (set12 (wz) (w.heap.size + 1) ⟨x.h, .slice rpa np rpc, .slice rfa nf rfc⟩) (w.heap.size + 1) 25 ⟨x.h, .slice rpa np rpc, .slice rfa nf rfc⟩ from CBox.set12 (HRE.out))
      have HPOST := Lib.hid (show WPost M cw k sz x w (.returned (.agg #[.int .i64 x.h.f0, .int .i64 x.h.f1, .int .i64 x.h.f2, .int .i64 x.h.f3, .int .i64 x.h.f4, .int .i64 x.h.f5, .int .i64 x.h.pair, .int .i64 x.h.pl, .slice rpa np rpc, .int .i64 x.h.fn, .int .i64 x.h.fl, .slice rfa nf rfc])) (set12 (wz) (w.heap.size + 1) ⟨x.h, .slice rpa np rpc, .slice rfa nf rfc⟩) from WPost.cell (w1 := W) HRES.out (by omega) HLT2.out HSE.out (by have := HBD.out; have := HK3.out; have := HK2.out; omega) HWE.out HLT.out.2.2)
      change bodyPost _ _ _ _ _ (set12 (wz) (w.heap.size + 1) ⟨x.h, .slice rpa np rpc, .slice rfa nf rfc⟩)
      generalize set12 (wz) (w.heap.size + 1) ⟨x.h, .slice rpa np rpc, .slice rfa nf rfc⟩ = wf at HBF HPOST ⊢
      have z0 := HBF.out.c0; have z1 := HBF.out.c1; have z2 := HBF.out.c2; have z3 := HBF.out.c3; have z4 := HBF.out.c4; have z5 := HBF.out.c5; have z6 := HBF.out.c6; have z7 := HBF.out.c7; have z8 := HBF.out.c8; have z9 := HBF.out.c9; have z10 := HBF.out.c10; have z11 := HBF.out.c11
      clear HBF
      refine bodyPost_ret (v := .agg #[.int .i64 x.h.f0, .int .i64 x.h.f1, .int .i64 x.h.f2, .int .i64 x.h.f3, .int .i64 x.h.f4, .int .i64 x.h.f5, .int .i64 x.h.pair, .int .i64 x.h.pl, .slice rpa np rpc, .int .i64 x.h.fn, .int .i64 x.h.fl, .slice rfa nf rfc]) ?_ ?_ ?_
      · simp [results, Tryd.results73, go_sem, z0, z1, z2, z3, z4, z5, z6, z7, z8, z9, z10, z11]
      · rfl
      · exact HPOST.out
    case hb81030 =>
      intro K hK
      go_simp
      clear hHeld
      refine hK.out _ _ (by (try dsimp only); (try trivial)) (fun hHeld => ?_)
      clear hK K
      (try simp only [Act.put, List.setIfInBounds_toArray, List.set_cons_zero, List.set_cons_succ])
      refine' tk_call 4 ?hi81024 (by kernel_rfl) ?hr81024
      case hi81024 => (simp only [List.getElem?_toArray, List.getElem?_cons_succ, List.getElem?_cons_zero]; rfl)
      intro K hK
      go_simp
      go_at_call 93
      refine (HCPp.out W (k + 1) (by have := HBD.out; omega) (by have := HBD.out; omega) (by have := HBD.out; omega) HWK.out (CoSN.stay HP.out HSC.out)).mono ?_
      rintro e wp ⟨⟨v, rfl, hv⟩, hs, k2, hk2, hw2⟩
      obtain ⟨rpa, rpc, rfl⟩ := hv.val
      rw [← HNP.out] at hv ⊢
      have HVp := Lib.hid hv
      have HK2 := Lib.hid hk2
      have HWK2 := Lib.hid hw2
      have HSA := Lib.hid hs
      have HXC2 := Lib.hid (HXC.out.stay hs (by have := HLT.out; omega))
      have HSC2 := Lib.hid (HSC.out.trans hs)
      have HS02 := Lib.hid (HS0.out.trans hs)
      have HSZ2 := Lib.hid (Nat.le_trans HSZ.out hs.size)
      clear hv hs hk2 hw2 X8 X11
      replace HXC := HXC2
      replace HSC := HSC2
      replace HS0 := HS02
      replace HSZ := HSZ2
      clear HXC2 HSC2 HS02 HSZ2
      have X8 := HXC.out.c8
      have X11 := HXC.out.c11
      go_wp2_with fail
      clear hHeld
      refine hK.out _ _ (by (try dsimp only); (try trivial)) (fun hHeld => ?_)
      clear hK K
      (try simp only [Act.put, List.setIfInBounds_toArray, List.set_cons_zero, List.set_cons_succ])
      refine' tk_any 10 22 (v := _) ?hi81025 ?hd81025 (by kernel_rfl) (by kernel_rfl) (by kernel_rfl) (fun _ _ _ h => h) ?hy81025 hHeld ?hr81025
      case hi81025 => (simp only [List.getElem?_toArray, List.getElem?_cons_succ, List.getElem?_cons_zero]; rfl)
      case hd81025 => rfl
      case hy81025 =>
        refine' Or.inl ⟨?hw81025, ?hx81025⟩
        case hw81025 => rfl
        case hx81025 => (intro w hSw; (try dsimp only at hSw); go_simp; (try with_reducible rfl))
      (try simp only [Act.put, List.setIfInBounds_toArray, List.set_cons_zero, List.set_cons_succ])
      refine' tk_call 9 ?hi81026 (by kernel_rfl) ?hr81026
      case hi81026 => (simp only [List.getElem?_toArray, List.getElem?_cons_succ, List.getElem?_cons_zero]; rfl)
      intro K hK
      go_simp
      go_at_call 93
      refine (HCPf.out wp k2 (by have := HBD.out; omega) (by have := HBD.out; have := HK2.out; omega) (by have := HBD.out; omega) HWK2.out (CoSN.stay HF.out HSC.out)).mono ?_
      rintro e wf ⟨⟨v, rfl, hv⟩, hs, k3, hk2, hw2⟩
      obtain ⟨rfa, rfc, rfl⟩ := hv.val
      rw [← HNF.out] at hv ⊢
      have HVf := Lib.hid (CoSN.mono hv fun b _ h => Nat.lt_of_lt_of_le h HSC.out.size)
      have HK3 := Lib.hid hk2
      have HWK3 := Lib.hid hw2
      replace HVp := Lib.hid (CoSN.stay HVp.out (hs.up (M := Old W.heap.size) fun b h => by rw [h]; exact HLT.out.2.1))
      have HXC2 := Lib.hid (HXC.out.stay hs (by have := HLT.out; omega))
      have HSC2 := Lib.hid (HSC.out.trans hs)
      have HS02 := Lib.hid (HS0.out.trans hs)
      have HSZ2 := Lib.hid (Nat.le_trans HSZ.out hs.size)
      clear hv hs hk2 hw2 X8 X11
      replace HXC := HXC2
      replace HSC := HSC2
      replace HS0 := HS02
      replace HSZ := HSZ2
      clear HXC2 HSC2 HS02 HSZ2
      go_wp2_with fail
      clear hHeld
      refine hK.out _ _ (by (try dsimp only); (try trivial)) (fun hHeld => ?_)
      clear hK K
      (try simp only [Act.put, List.setIfInBounds_toArray, List.set_cons_zero, List.set_cons_succ])
      have X8 := HXC.out.c8
      have X11 := HXC.out.c11
      have F8 := HXC.out.fr 8
      have F11 := HXC.out.fr 11
      refine' tk_call 11 ?hi81027 (by kernel_rfl) ?hr81027
      case hi81027 => (simp only [List.getElem?_toArray, List.getElem?_cons_succ, List.getElem?_cons_zero]; rfl)
      intro K hK
      go_simp
      clear hHeld
      refine hK.out _ _ (by (try dsimp only); (try trivial)) (fun hHeld => ?_)
      clear hK K
      (try simp only [Act.put, List.setIfInBounds_toArray, List.set_cons_zero, List.set_cons_succ])
      have HXD := Lib.hid (show CBox (wf.setCell ⟨w.heap.size, 8, none⟩ (.slice rpa np rpc)) w.heap.size 25 ⟨x.h, .slice rpa np rpc, .slice fa nf fc⟩ from HXC.out.s8)
      clear X8 X11 F8 F11
      have X11 := HXD.out.c11
      have F11 := HXD.out.fr 11
      refine' tk_any 12 23 (v := _) ?hi81028 ?hd81028 (by kernel_rfl) (by kernel_rfl) (by kernel_rfl) (fun _ _ _ h => h) ?hy81028 hHeld ?hr81028
      case hi81028 => (simp only [List.getElem?_toArray, List.getElem?_cons_succ, List.getElem?_cons_zero]; rfl)
      case hd81028 => rfl
      case hy81028 =>
        refine' Or.inl ⟨?hw81028, ?hx81028⟩
        case hw81028 => rfl
        case hx81028 => (intro w hSw; (try dsimp only at hSw); go_simp; (try with_reducible rfl))
      (try simp only [Act.put, List.setIfInBounds_toArray, List.set_cons_zero, List.set_cons_succ])
      refine' tk_call 13 ?hi81029 (by kernel_rfl) ?hr81029
      case hi81029 => (simp only [List.getElem?_toArray, List.getElem?_cons_succ, List.getElem?_cons_zero]; rfl)
      intro K hK
      go_simp
      clear hHeld
      refine hK.out _ _ (by (try dsimp only); (try trivial)) (fun hHeld => ?_)
      clear hK K
      (try simp only [Act.put, List.setIfInBounds_toArray, List.set_cons_zero, List.set_cons_succ])
      refine wpAnyH_done (by kernel_rfl) ?_ _
      refine NoPanic.normal ?_
      have HXE := Lib.hid (show CBox ((wf.setCell ⟨w.heap.size, 8, none⟩ (.slice rpa np rpc)).setCell ⟨w.heap.size, 11, none⟩ (.slice rfa nf rfc)) w.heap.size 25 ⟨x.h, .slice rpa np rpc, .slice rfa nf rfc⟩ from HXD.out.s11)
      have HSE := Lib.hid (show Stay (· = cw) w ((wf.setCell ⟨w.heap.size, 8, none⟩ (.slice rpa np rpc)).setCell ⟨w.heap.size, 11, none⟩ (.slice rfa nf rfc)) from (HS0.out.setG (p := ⟨w.heap.size, 8, none⟩) (Nat.le_refl _) _).setG (p := ⟨w.heap.size, 11, none⟩) (Nat.le_refl _) _)
      have HWE := Lib.hid (show WalkC M cw _ ((wf.setCell ⟨w.heap.size, 8, none⟩ (.slice rpa np rpc)).setCell ⟨w.heap.size, 11, none⟩ (.slice rfa nf rfc)) from VarIs.off (VarIs.off HWK3.out (by have := HLT.out; omega)) (by have := HLT.out; omega))
      have HPE := Lib.hid (CoSN.set (CoSN.set HVp.out ⟨w.heap.size, 8, none⟩ HLT.out.1 (.slice rpa np rpc)) ⟨w.heap.size, 11, none⟩ HLT.out.1 (.slice rfa nf rfc))
      have HFE := Lib.hid (CoSN.set (CoSN.set HVf.out ⟨w.heap.size, 8, none⟩ HLT.out.1 (.slice rpa np rpc)) ⟨w.heap.size, 11, none⟩ HLT.out.1 (.slice rfa nf rfc))
      have HRE := Lib.hid (show CBox ((wf.setCell ⟨w.heap.size, 8, none⟩ (.slice rpa np rpc)).setCell ⟨w.heap.size, 11, none⟩ (.slice rfa nf rfc)) (w.heap.size + 1) 25 ⟨⟨0, 0, 0, 0, 0, 0, 0, 0, 0, 0⟩, .slice none 0 0, .slice none 0 0⟩ from (HRC.out.stay HSC.out (by have := HLT.out; omega)).other (by omega) |>.other (by omega))
      clear X11 F11 HXD HXC HVp HVf HSC HRC
      generalize ((wf.setCell ⟨w.heap.size, 8, none⟩ (.slice rpa np rpc)).setCell ⟨w.heap.size, 11, none⟩ (.slice rfa nf rfc)) = wz at HXE HSE HWE HPE HFE HRE ⊢
      clear HS0 HSZ HWK2 HWK HCPp HCPf HSA HP HF HWW
      have HRES := Lib.hid (show CoVN (Old W.heap.size) wz _ x by rw [x.eta]; exact CoVN.mk (h := x.h) HPE.out HFE.out)
      clear HPE HFE
      have x0 : wz.cell? ⟨w.heap.size, 0, none⟩ = some (.int .i64 x.h.f0) := HXE.out.c0
      have x1 : wz.cell? ⟨w.heap.size, 1, none⟩ = some (.int .i64 x.h.f1) := HXE.out.c1
      have x2 : wz.cell? ⟨w.heap.size, 2, none⟩ = some (.int .i64 x.h.f2) := HXE.out.c2
      have x3 : wz.cell? ⟨w.heap.size, 3, none⟩ = some (.int .i64 x.h.f3) := HXE.out.c3
      have x4 : wz.cell? ⟨w.heap.size, 4, none⟩ = some (.int .i64 x.h.f4) := HXE.out.c4
      have x5 : wz.cell? ⟨w.heap.size, 5, none⟩ = some (.int .i64 x.h.f5) := HXE.out.c5
      have x6 : wz.cell? ⟨w.heap.size, 6, none⟩ = some (.int .i64 x.h.pair) := HXE.out.c6
      have x7 : wz.cell? ⟨w.heap.size, 7, none⟩ = some (.int .i64 x.h.pl) := HXE.out.c7
      have x8 : wz.cell? ⟨w.heap.size, 8, none⟩ = some (.slice rpa np rpc) := HXE.out.c8
      have x9 : wz.cell? ⟨w.heap.size, 9, none⟩ = some (.int .i64 x.h.fn) := HXE.out.c9
      have x10 : wz.cell? ⟨w.heap.size, 10, none⟩ = some (.int .i64 x.h.fl) := HXE.out.c10
      have x11 : wz.cell? ⟨w.heap.size, 11, none⟩ = some (.slice rfa nf rfc) := HXE.out.c11
      have r0 : wz.cell? ⟨(w.heap.size + 1), 0, none⟩ = some (.int .i64 0) := HRE.out.c0
      have r1 : wz.cell? ⟨(w.heap.size + 1), 1, none⟩ = some (.int .i64 0) := HRE.out.c1
      have r2 : wz.cell? ⟨(w.heap.size + 1), 2, none⟩ = some (.int .i64 0) := HRE.out.c2
      have r3 : wz.cell? ⟨(w.heap.size + 1), 3, none⟩ = some (.int .i64 0) := HRE.out.c3
      have r4 : wz.cell? ⟨(w.heap.size + 1), 4, none⟩ = some (.int .i64 0) := HRE.out.c4
      have r5 : wz.cell? ⟨(w.heap.size + 1), 5, none⟩ = some (.int .i64 0) := HRE.out.c5
      have r6 : wz.cell? ⟨(w.heap.size + 1), 6, none⟩ = some (.int .i64 0) := HRE.out.c6
      have r7 : wz.cell? ⟨(w.heap.size + 1), 7, none⟩ = some (.int .i64 0) := HRE.out.c7
      have r8 : wz.cell? ⟨(w.heap.size + 1), 8, none⟩ = some (.slice none 0 0) := HRE.out.c8
      have r9 : wz.cell? ⟨(w.heap.size + 1), 9, none⟩ = some (.int .i64 0) := HRE.out.c9
      have r10 : wz.cell? ⟨(w.heap.size + 1), 10, none⟩ = some (.int .i64 0) := HRE.out.c10
      have r11 : wz.cell? ⟨(w.heap.size + 1), 11, none⟩ = some (.slice none 0 0) := HRE.out.c11
      have fr0 : wz.frozen? ⟨(w.heap.size + 1), 0, none⟩ = false := HRE.out.fr 0
      have fr1 : wz.frozen? ⟨(w.heap.size + 1), 1, none⟩ = false := HRE.out.fr 1
      have fr2 : wz.frozen? ⟨(w.heap.size + 1), 2, none⟩ = false := HRE.out.fr 2
      have fr3 : wz.frozen? ⟨(w.heap.size + 1), 3, none⟩ = false := HRE.out.fr 3
      have fr4 : wz.frozen? ⟨(w.heap.size + 1), 4, none⟩ = false := HRE.out.fr 4
      have fr5 : wz.frozen? ⟨(w.heap.size + 1), 5, none⟩ = false := HRE.out.fr 5
      have fr6 : wz.frozen? ⟨(w.heap.size + 1), 6, none⟩ = false := HRE.out.fr 6
      have fr7 : wz.frozen? ⟨(w.heap.size + 1), 7, none⟩ = false := HRE.out.fr 7
      have fr8 : wz.frozen? ⟨(w.heap.size + 1), 8, none⟩ = false := HRE.out.fr 8
      have fr9 : wz.frozen? ⟨(w.heap.size + 1), 9, none⟩ = false := HRE.out.fr 9
      have fr10 : wz.frozen? ⟨(w.heap.size + 1), 10, none⟩ = false := HRE.out.fr 10
      have fr11 : wz.frozen? ⟨(w.heap.size + 1), 11, none⟩ = false := HRE.out.fr 11
      go_wp2
      have HBF := Lib.hid (show CBox (set12 (wz) (w.heap.size + 1) ⟨x.h, .slice rpa np rpc, .slice rfa nf rfc⟩) (w.heap.size + 1) 25 ⟨x.h, .slice rpa np rpc, .slice rfa nf rfc⟩ from CBox.set12 (HRE.out))
      have HPOST := Lib.hid (show WPost M cw k sz x w (.returned (.agg #[.int .i64 x.h.f0, .int .i64 x.h.f1, .int .i64 x.h.f2, .int .i64 x.h.f3, .int .i64 x.h.f4, .int .i64 x.h.f5, .int .i64 x.h.pair, .int .i64 x.h.pl, .slice rpa np rpc, .int .i64 x.h.fn, .int .i64 x.h.fl, .slice rfa nf rfc])) (set12 (wz) (w.heap.size + 1) ⟨x.h, .slice rpa np rpc, .slice rfa nf rfc⟩) from WPost.cell (w1 := W) HRES.out (by omega) HLT2.out HSE.out (by have := HBD.out; have := HK3.out; have := HK2.out; omega) HWE.out HLT.out.2.2)
      change bodyPost _ _ _ _ _ (set12 (wz) (w.heap.size + 1) ⟨x.h, .slice rpa np rpc, .slice rfa nf rfc⟩)
      generalize set12 (wz) (w.heap.size + 1) ⟨x.h, .slice rpa np rpc, .slice rfa nf rfc⟩ = wf at HBF HPOST ⊢
      have z0 := HBF.out.c0; have z1 := HBF.out.c1; have z2 := HBF.out.c2; have z3 := HBF.out.c3; have z4 := HBF.out.c4; have z5 := HBF.out.c5; have z6 := HBF.out.c6; have z7 := HBF.out.c7; have z8 := HBF.out.c8; have z9 := HBF.out.c9; have z10 := HBF.out.c10; have z11 := HBF.out.c11
      clear HBF
      refine bodyPost_ret (v := .agg #[.int .i64 x.h.f0, .int .i64 x.h.f1, .int .i64 x.h.f2, .int .i64 x.h.f3, .int .i64 x.h.f4, .int .i64 x.h.f5, .int .i64 x.h.pair, .int .i64 x.h.pl, .slice rpa np rpc, .int .i64 x.h.fn, .int .i64 x.h.fl, .slice rfa nf rfc]) ?_ ?_ ?_
      · simp [results, Tryd.results73, go_sem, z0, z1, z2, z3, z4, z5, z6, z7, z8, z9, z10, z11]
      · rfl
      · exact HPOST.out
  case hb81038 =>
    intro K hK
    go_simp
    clear hHeld
    refine hK.out _ _ (by (try dsimp only); (try trivial)) (fun hHeld => ?_)
    clear hK K
    (try simp only [Act.put, List.setIfInBounds_toArray, List.set_cons_zero, List.set_cons_succ])
    refine' tk_call 2 ?hi81031 (by kernel_rfl) ?hr81031
    case hi81031 => (simp only [List.getElem?_toArray, List.getElem?_cons_succ, List.getElem?_cons_zero]; rfl)
    intro K hK
    go_simp
    clear hHeld
    refine hK.out _ _ (by (try dsimp only); (try trivial)) (fun hHeld => ?_)
    clear hK K
    (try simp only [Act.put, List.setIfInBounds_toArray, List.set_cons_zero, List.set_cons_succ])
    refine' tk_call 4 ?hi81032 (by kernel_rfl) ?hr81032
    case hi81032 => (simp only [List.getElem?_toArray, List.getElem?_cons_succ, List.getElem?_cons_zero]; rfl)
    intro K hK
    go_simp
    go_at_call 93
    refine (HCPp.out W (k + 1) (by have := HBD.out; omega) (by have := HBD.out; omega) (by have := HBD.out; omega) HWK.out (CoSN.stay HP.out HSC.out)).mono ?_
    rintro e wp ⟨⟨v, rfl, hv⟩, hs, k2, hk2, hw2⟩
    obtain ⟨rpa, rpc, rfl⟩ := hv.val
    rw [← HNP.out] at hv ⊢
    have HVp := Lib.hid hv
    have HK2 := Lib.hid hk2
    have HWK2 := Lib.hid hw2
    have HSA := Lib.hid hs
    have HXC2 := Lib.hid (HXC.out.stay hs (by have := HLT.out; omega))
    have HSC2 := Lib.hid (HSC.out.trans hs)
    have HS02 := Lib.hid (HS0.out.trans hs)
    have HSZ2 := Lib.hid (Nat.le_trans HSZ.out hs.size)
    clear hv hs hk2 hw2 X8 X11
    replace HXC := HXC2
    replace HSC := HSC2
    replace HS0 := HS02
    replace HSZ := HSZ2
    clear HXC2 HSC2 HS02 HSZ2
    have X8 := HXC.out.c8
    have X11 := HXC.out.c11
    go_wp2_with fail
    clear hHeld
    refine hK.out _ _ (by (try dsimp only); (try trivial)) (fun hHeld => ?_)
    clear hK K
    (try simp only [Act.put, List.setIfInBounds_toArray, List.set_cons_zero, List.set_cons_succ])
    refine' tk_any 10 22 (v := _) ?hi81033 ?hd81033 (by kernel_rfl) (by kernel_rfl) (by kernel_rfl) (fun _ _ _ h => h) ?hy81033 hHeld ?hr81033
    case hi81033 => (simp only [List.getElem?_toArray, List.getElem?_cons_succ, List.getElem?_cons_zero]; rfl)
    case hd81033 => rfl
    case hy81033 =>
      refine' Or.inl ⟨?hw81033, ?hx81033⟩
      case hw81033 => rfl
      case hx81033 => (intro w hSw; (try dsimp only at hSw); go_simp; (try with_reducible rfl))
    (try simp only [Act.put, List.setIfInBounds_toArray, List.set_cons_zero, List.set_cons_succ])
    refine' tk_call 9 ?hi81034 (by kernel_rfl) ?hr81034
    case hi81034 => (simp only [List.getElem?_toArray, List.getElem?_cons_succ, List.getElem?_cons_zero]; rfl)
    intro K hK
    go_simp
    go_at_call 93
    refine (HCPf.out wp k2 (by have := HBD.out; omega) (by have := HBD.out; have := HK2.out; omega) (by have := HBD.out; omega) HWK2.out (CoSN.stay HF.out HSC.out)).mono ?_
    rintro e wf ⟨⟨v, rfl, hv⟩, hs, k3, hk2, hw2⟩
    obtain ⟨rfa, rfc, rfl⟩ := hv.val
    rw [← HNF.out] at hv ⊢
    have HVf := Lib.hid (CoSN.mono hv fun b _ h => Nat.lt_of_lt_of_le h HSC.out.size)
    have HK3 := Lib.hid hk2
    have HWK3 := Lib.hid hw2
    replace HVp := Lib.hid (CoSN.stay HVp.out (hs.up (M := Old W.heap.size) fun b h => by rw [h]; exact HLT.out.2.1))
    have HXC2 := Lib.hid (HXC.out.stay hs (by have := HLT.out; omega))
    have HSC2 := Lib.hid (HSC.out.trans hs)
    have HS02 := Lib.hid (HS0.out.trans hs)
    have HSZ2 := Lib.hid (Nat.le_trans HSZ.out hs.size)
    clear hv hs hk2 hw2 X8 X11
    replace HXC := HXC2
    replace HSC := HSC2
    replace HS0 := HS02
    replace HSZ := HSZ2
    clear HXC2 HSC2 HS02 HSZ2
    go_wp2_with fail
    clear hHeld
    refine hK.out _ _ (by (try dsimp only); (try trivial)) (fun hHeld => ?_)
    clear hK K
    (try simp only [Act.put, List.setIfInBounds_toArray, List.set_cons_zero, List.set_cons_succ])
    have X8 := HXC.out.c8
    have X11 := HXC.out.c11
    have F8 := HXC.out.fr 8
    have F11 := HXC.out.fr 11
    refine' tk_call 11 ?hi81035 (by kernel_rfl) ?hr81035
    case hi81035 => (simp only [List.getElem?_toArray, List.getElem?_cons_succ, List.getElem?_cons_zero]; rfl)
    intro K hK
    go_simp
    clear hHeld
    refine hK.out _ _ (by (try dsimp only); (try trivial)) (fun hHeld => ?_)
    clear hK K
    (try simp only [Act.put, List.setIfInBounds_toArray, List.set_cons_zero, List.set_cons_succ])
    have HXD := Lib.hid (show CBox (wf.setCell ⟨w.heap.size, 8, none⟩ (.slice rpa np rpc)) w.heap.size 25 ⟨x.h, .slice rpa np rpc, .slice fa nf fc⟩ from HXC.out.s8)
    clear X8 X11 F8 F11
    have X11 := HXD.out.c11
    have F11 := HXD.out.fr 11
    refine' tk_any 12 23 (v := _) ?hi81036 ?hd81036 (by kernel_rfl) (by kernel_rfl) (by kernel_rfl) (fun _ _ _ h => h) ?hy81036 hHeld ?hr81036
    case hi81036 => (simp only [List.getElem?_toArray, List.getElem?_cons_succ, List.getElem?_cons_zero]; rfl)
    case hd81036 => rfl
    case hy81036 =>
      refine' Or.inl ⟨?hw81036, ?hx81036⟩
      case hw81036 => rfl
      case hx81036 => (intro w hSw; (try dsimp only at hSw); go_simp; (try with_reducible rfl))
    (try simp only [Act.put, List.setIfInBounds_toArray, List.set_cons_zero, List.set_cons_succ])
    refine' tk_call 13 ?hi81037 (by kernel_rfl) ?hr81037
    case hi81037 => (simp only [List.getElem?_toArray, List.getElem?_cons_succ, List.getElem?_cons_zero]; rfl)
    intro K hK
    go_simp
    clear hHeld
    refine hK.out _ _ (by (try dsimp only); (try trivial)) (fun hHeld => ?_)
    clear hK K
    (try simp only [Act.put, List.setIfInBounds_toArray, List.set_cons_zero, List.set_cons_succ])
    refine wpAnyH_done (by kernel_rfl) ?_ _
    refine NoPanic.normal ?_
    have HXE := Lib.hid (show CBox ((wf.setCell ⟨w.heap.size, 8, none⟩ (.slice rpa np rpc)).setCell ⟨w.heap.size, 11, none⟩ (.slice rfa nf rfc)) w.heap.size 25 ⟨x.h, .slice rpa np rpc, .slice rfa nf rfc⟩ from HXD.out.s11)
    have HSE := Lib.hid (show Stay (· = cw) w ((wf.setCell ⟨w.heap.size, 8, none⟩ (.slice rpa np rpc)).setCell ⟨w.heap.size, 11, none⟩ (.slice rfa nf rfc)) from (HS0.out.setG (p := ⟨w.heap.size, 8, none⟩) (Nat.le_refl _) _).setG (p := ⟨w.heap.size, 11, none⟩) (Nat.le_refl _) _)
    have HWE := Lib.hid (show WalkC M cw _ ((wf.setCell ⟨w.heap.size, 8, none⟩ (.slice rpa np rpc)).setCell ⟨w.heap.size, 11, none⟩ (.slice rfa nf rfc)) from VarIs.off (VarIs.off HWK3.out (by have := HLT.out; omega)) (by have := HLT.out; omega))
    have HPE := Lib.hid (CoSN.set (CoSN.set HVp.out ⟨w.heap.size, 8, none⟩ HLT.out.1 (.slice rpa np rpc)) ⟨w.heap.size, 11, none⟩ HLT.out.1 (.slice rfa nf rfc))
    have HFE := Lib.hid (CoSN.set (CoSN.set HVf.out ⟨w.heap.size, 8, none⟩ HLT.out.1 (.slice rpa np rpc)) ⟨w.heap.size, 11, none⟩ HLT.out.1 (.slice rfa nf rfc))
    have HRE := Lib.hid (show CBox ((wf.setCell ⟨w.heap.size, 8, none⟩ (.slice rpa np rpc)).setCell ⟨w.heap.size, 11, none⟩ (.slice rfa nf rfc)) (w.heap.size + 1) 25 ⟨⟨0, 0, 0, 0, 0, 0, 0, 0, 0, 0⟩, .slice none 0 0, .slice none 0 0⟩ from (HRC.out.stay HSC.out (by have := HLT.out; omega)).other (by omega) |>.other (by omega))
    clear X11 F11 HXD HXC HVp HVf HSC HRC
    generalize ((wf.setCell ⟨w.heap.size, 8, none⟩ (.slice rpa np rpc)).setCell ⟨w.heap.size, 11, none⟩ (.slice rfa nf rfc)) = wz at HXE HSE HWE HPE HFE HRE ⊢
    clear HS0 HSZ HWK2 HWK HCPp HCPf HSA HP HF HWW
    have HRES := Lib.hid (show CoVN (Old W.heap.size) wz _ x by rw [x.eta]; exact CoVN.mk (h := x.h) HPE.out HFE.out)
    clear HPE HFE
    have x0 : wz.cell? ⟨w.heap.size, 0, none⟩ = some (.int .i64 x.h.f0) := HXE.out.c0
    have x1 : wz.cell? ⟨w.heap.size, 1, none⟩ = some (.int .i64 x.h.f1) := HXE.out.c1
    have x2 : wz.cell? ⟨w.heap.size, 2, none⟩ = some (.int .i64 x.h.f2) := HXE.out.c2
    have x3 : wz.cell? ⟨w.heap.size, 3, none⟩ = some (.int .i64 x.h.f3) := HXE.out.c3
    have x4 : wz.cell? ⟨w.heap.size, 4, none⟩ = some (.int .i64 x.h.f4) := HXE.out.c4
    have x5 : wz.cell? ⟨w.heap.size, 5, none⟩ = some (.int .i64 x.h.f5) := HXE.out.c5
    have x6 : wz.cell? ⟨w.heap.size, 6, none⟩ = some (.int .i64 x.h.pair) := HXE.out.c6
    have x7 : wz.cell? ⟨w.heap.size, 7, none⟩ = some (.int .i64 x.h.pl) := HXE.out.c7
    have x8 : wz.cell? ⟨w.heap.size, 8, none⟩ = some (.slice rpa np rpc) := HXE.out.c8
    have x9 : wz.cell? ⟨w.heap.size, 9, none⟩ = some (.int .i64 x.h.fn) := HXE.out.c9
    have x10 : wz.cell? ⟨w.heap.size, 10, none⟩ = some (.int .i64 x.h.fl) := HXE.out.c10
    have x11 : wz.cell? ⟨w.heap.size, 11, none⟩ = some (.slice rfa nf rfc) := HXE.out.c11
    have r0 : wz.cell? ⟨(w.heap.size + 1), 0, none⟩ = some (.int .i64 0) := HRE.out.c0
    have r1 : wz.cell? ⟨(w.heap.size + 1), 1, none⟩ = some (.int .i64 0) := HRE.out.c1
    have r2 : wz.cell? ⟨(w.heap.size + 1), 2, none⟩ = some (.int .i64 0) := HRE.out.c2
    have r3 : wz.cell? ⟨(w.heap.size + 1), 3, none⟩ = some (.int .i64 0) := HRE.out.c3
    have r4 : wz.cell? ⟨(w.heap.size + 1), 4, none⟩ = some (.int .i64 0) := HRE.out.c4
    have r5 : wz.cell? ⟨(w.heap.size + 1), 5, none⟩ = some (.int .i64 0) := HRE.out.c5
    have r6 : wz.cell? ⟨(w.heap.size + 1), 6, none⟩ = some (.int .i64 0) := HRE.out.c6
    have r7 : wz.cell? ⟨(w.heap.size + 1), 7, none⟩ = some (.int .i64 0) := HRE.out.c7
    have r8 : wz.cell? ⟨(w.heap.size + 1), 8, none⟩ = some (.slice none 0 0) := HRE.out.c8
    have r9 : wz.cell? ⟨(w.heap.size + 1), 9, none⟩ = some (.int .i64 0) := HRE.out.c9
    have r10 : wz.cell? ⟨(w.heap.size + 1), 10, none⟩ = some (.int .i64 0) := HRE.out.c10
    have r11 : wz.cell? ⟨(w.heap.size + 1), 11, none⟩ = some (.slice none 0 0) := HRE.out.c11
    have fr0 : wz.frozen? ⟨(w.heap.size + 1), 0, none⟩ = false := HRE.out.fr 0
    have fr1 : wz.frozen? ⟨(w.heap.size + 1), 1, none⟩ = false := HRE.out.fr 1
    have fr2 : wz.frozen? ⟨(w.heap.size + 1), 2, none⟩ = false := HRE.out.fr 2
    have fr3 : wz.frozen? ⟨(w.heap.size + 1), 3, none⟩ = false := HRE.out.fr 3
    have fr4 : wz.frozen? ⟨(w.heap.size + 1), 4, none⟩ = false := HRE.out.fr 4
    have fr5 : wz.frozen? ⟨(w.heap.size + 1), 5, none⟩ = false := HRE.out.fr 5
    have fr6 : wz.frozen? ⟨(w.heap.size + 1), 6, none⟩ = false := HRE.out.fr 6
    have fr7 : wz.frozen? ⟨(w.heap.size + 1), 7, none⟩ = false := HRE.out.fr 7
    have fr8 : wz.frozen? ⟨(w.heap.size + 1), 8, none⟩ = false := HRE.out.fr 8
    have fr9 : wz.frozen? ⟨(w.heap.size + 1), 9, none⟩ = false := HRE.out.fr 9
    have fr10 : wz.frozen? ⟨(w.heap.size + 1), 10, none⟩ = false := HRE.out.fr 10
    have fr11 : wz.frozen? ⟨(w.heap.size + 1), 11, none⟩ = false := HRE.out.fr 11
    go_wp2
    have HBF := Lib.hid (show CBox (set12 (wz) (w.heap.size + 1) ⟨x.h, .slice rpa np rpc, .slice rfa nf rfc⟩) (w.heap.size + 1) 25 ⟨x.h, .slice rpa np rpc, .slice rfa nf rfc⟩ from CBox.set12 (HRE.out))
    have HPOST := Lib.hid (show WPost M cw k sz x w (.returned (.agg #[.int .i64 x.h.f0, .int .i64 x.h.f1, .int .i64 x.h.f2, .int .i64 x.h.f3, .int .i64 x.h.f4, .int .i64 x.h.f5, .int .i64 x.h.pair, .int .i64 x.h.pl, .slice rpa np rpc, .int .i64 x.h.fn, .int .i64 x.h.fl, .slice rfa nf rfc])) (set12 (wz) (w.heap.size + 1) ⟨x.h, .slice rpa np rpc, .slice rfa nf rfc⟩) from WPost.cell (w1 := W) HRES.out (by omega) HLT2.out HSE.out (by have := HBD.out; have := HK3.out; have := HK2.out; omega) HWE.out HLT.out.2.2)
    change bodyPost _ _ _ _ _ (set12 (wz) (w.heap.size + 1) ⟨x.h, .slice rpa np rpc, .slice rfa nf rfc⟩)
    generalize set12 (wz) (w.heap.size + 1) ⟨x.h, .slice rpa np rpc, .slice rfa nf rfc⟩ = wf at HBF HPOST ⊢
    have z0 := HBF.out.c0; have z1 := HBF.out.c1; have z2 := HBF.out.c2; have z3 := HBF.out.c3; have z4 := HBF.out.c4; have z5 := HBF.out.c5; have z6 := HBF.out.c6; have z7 := HBF.out.c7; have z8 := HBF.out.c8; have z9 := HBF.out.c9; have z10 := HBF.out.c10; have z11 := HBF.out.c11
    clear HBF
    refine bodyPost_ret (v := .agg #[.int .i64 x.h.f0, .int .i64 x.h.f1, .int .i64 x.h.f2, .int .i64 x.h.f3, .int .i64 x.h.f4, .int .i64 x.h.f5, .int .i64 x.h.pair, .int .i64 x.h.pl, .slice rpa np rpc, .int .i64 x.h.fn, .int .i64 x.h.fl, .slice rfa nf rfc]) ?_ ?_ ?_
    · simp [results, Tryd.results73, go_sem, z0, z1, z2, z3, z4, z5, z6, z7, z8, z9, z10, z11]
    · rfl
    · exact HPOST.out

theorem copied_any (M : Nat) (hM : M ≤ 2147483647) (n : Nat) : CpOK M n := by
  induction n with
  | zero => intro x vx w cw k d h; have := szC_pos x; omega
  | succ n ih => exact copied_succ M n hM ih

set_option maxRecDepth 100000 in
set_option maxHeartbeats 8000000 in
theorem newwalk_p (w : World) : Calls Tryd.prog 59 #[] w fun e w' => e = .returned (.pointer (some ⟨w.heap.size, 0, none⟩)) ∧ Below w.heap.size w w' ∧ WalkC 16777216 w.heap.size 0 w' := by
  go_enter Tryd.func59, Tryd.ntmps59
  go_wp2
  go_ret
  refine ⟨rfl, (Below.refl _ _).alloc (Nat.le_refl _) _, ?_⟩
  exact VarIs.made w 58 (.int .i64 16777216)
end Go.Proofs.YtlalnkabfigodaaDoor
