import Derived.Test.YtgjkobkcmgliaaaNwPl
import Derived.Test.YtgjkobkcmgliaaaNwAw
import Derived.Test.YtgjkobkcmgliaaaTyC
import Derived.Test.YtgjkobkcmgliaaaTyD
import Derived.Test.YtgjkobkcmgliaaaTyJo
namespace Go.Proofs.Ytgjkobkcmgliaaa
open Go.RowKit

theorem sixB {w : World} {g : Nat} {a : Bool} {f p k : Int} {pv fv : Value} (h : BoxAt w g a f p pv k fv) : w.cell? ⟨g, 0, none⟩ = some (.bool a) ∧ w.cell? ⟨g, 1, none⟩ = some (.int .i64 f) ∧ w.cell? ⟨g, 2, none⟩ = some (.int .i64 p) ∧ w.cell? ⟨g, 3, none⟩ = some pv ∧ w.cell? ⟨g, 4, none⟩ = some (.int .i64 k) ∧ w.cell? ⟨g, 5, none⟩ = some fv := ⟨h.c0, h.c1, h.c2, h.c3, h.c4, h.c5⟩

set_option maxRecDepth 100000 in
set_option maxHeartbeats 32000000 in
theorem nparts_p (t : Ty) (g : Int) (v : Value) (w : World) (hrng : RngT t) (hv : TyVN N0 w v t) :
    Calls Try.prog 7 #[v, .int .i64 g] w fun e w' => e = .returned (.bool true) ∧ Below w.heap.size w w' := by
  obtain ⟨tp, tq, tf, tg, rfl, _, _⟩ := TyVN.form hv
  obtain ⟨W, hW⟩ : ∃ W, W = w.alloc (.cells #[.bool t.all, .int .i64 t.flat, .int .i64 t.pair, .slice tp t.pairs.length tq, .int .i64 t.fn, .slice tf t.funs.length tg] 49) := ⟨_, rfl⟩
  have HX := Lib.hid (show BoxAt W w.heap.size (t.all) (t.flat) (t.pair) (.slice tp t.pairs.length tq) (t.fn) (.slice tf t.funs.length tg) by rw [hW]; exact BoxAt.made _ _ _ _ _ _ _)
  have HL := Lib.hid (show Below w.heap.size w W by rw [hW]; exact (Below.refl _ _).alloc (Nat.le_refl _) _)
  have HV := Lib.hid (TyVN.below hv (by rw [hW]; exact (Below.refl _ _).alloc (Nat.le_refl _) _ : Below w.heap.size w W))
  have HRNG := Lib.hid hrng
  have HW := Lib.hid hW
  clear hv hW hrng
  go_enter Try.func7, Try.ntmps7
  go_wp2_with fail
  rw [← HW.out]
  refine (awake_p W).mono ?_
  rintro e w1 ⟨rfl, hb⟩
  replace HX := Lib.hid (HX.out.keep hb)
  replace HV := Lib.hid (TyVN.below HV.out hb)
  replace HL := Lib.hid (HL.out.trans (hb.mono HL.out.size))
  clear HW
  (try clear t0 t1 t2 t3 t4 t5)
  obtain ⟨t0, t1, t2, t3, t4, t5⟩ := sixB HX.out
  go_wp2_with fail
  refine (light_any t _ w1 (TyVN.v HV.out)).mono ?_
  rintro e w2 ⟨rfl, hb⟩
  replace HX := Lib.hid (HX.out.keep hb)
  replace HV := Lib.hid (TyVN.below HV.out hb)
  replace HL := Lib.hid (HL.out.trans (hb.mono HL.out.size))
  obtain ⟨z, hz⟩ : ∃ z, z = lightT t := ⟨_, rfl⟩
  rw [← hz]
  have HZL := Lib.hid hz
  clear hz
  (try clear t0 t1 t2 t3 t4 t5)
  obtain ⟨t0, t1, t2, t3, t4, t5⟩ := sixB HX.out
  cases z with
  | false =>
    go_wp2
    refine bodyPost_ret (v := .bool true) ?_ ?_ ?_
    · simp [results, Try.results7, go_sem]
    · rfl
    · exact ⟨rfl, HL.out⟩
  | true =>
    have HSZ := Lib.hid (light_sz HZL.out.symm)
    go_wp2_with fail
    refine (right_p t _ w2 (by have := HSZ.out; omega) HRNG.out (TyVN.v HV.out)).mono ?_
    rintro e w3 ⟨rfl, hb⟩
    replace HX := Lib.hid (HX.out.keep hb)
    replace HV := Lib.hid (TyVN.below HV.out hb)
    replace HL := Lib.hid (HL.out.trans (hb.mono HL.out.size))
    obtain ⟨z, hz⟩ : ∃ z, z = deepF 20 t := ⟨_, rfl⟩
    rw [← hz]
    have HZD := Lib.hid hz
    clear hz
    (try clear t0 t1 t2 t3 t4 t5)
    obtain ⟨t0, t1, t2, t3, t4, t5⟩ := sixB HX.out
    cases z with
    | false =>
      go_wp2
      refine bodyPost_ret (v := .bool true) ?_ ?_ ?_
      · simp [results, Try.results7, go_sem]
      · rfl
      · exact ⟨rfl, HL.out⟩
    | true =>
      have HD := Lib.hid HZD.out.symm
      have HHD := Lib.hid (show HdT t from okTy.head ⟨20, HZD.out.symm⟩)
      obtain ⟨A, hA⟩ : ∃ A, A = keepT t (lowN g) := ⟨_, rfl⟩
      obtain ⟨C, hC⟩ : ∃ C, C = keepT t (lowN (-1 - g)) := ⟨_, rfl⟩
      have HAD := Lib.hid (show deepF 20 A = true by rw [hA]; exact deep_keep HD.out _)
      have HCD := Lib.hid (show deepF 20 C = true by rw [hC]; exact deep_keep HD.out _)
      have HAS := Lib.hid (show szT A ≤ 122 by rw [hA]; have := sz_keep t (lowN g); have := HSZ.out; omega)
      have HCS := Lib.hid (show szT C ≤ 122 by rw [hC]; have := sz_keep t (lowN (-1 - g)); have := HSZ.out; omega)
      have HAR := Lib.hid (show RngT A by rw [hA]; exact rng_keep HRNG.out HHD.out _)
      have HAT := Lib.hid (show subT A t = true by rw [hA]; exact sub_keep HD.out _)
      have HCT := Lib.hid (show subT C t = true by rw [hC]; exact sub_keep HD.out _)
      have HJ := Lib.hid (show t.all = false → joinT A C = t by intro h; rw [hA, hC]; exact join_keep HD.out h g)
      have HTG := Lib.hid (show bits .and .i64 (bits .and .i64 (tagsT t) g) 255 = tagsT A by
        obtain ⟨r0, r1⟩ := tagsT_rng HHD.out
        rw [i64_and255, low_and, hA, tags_keep HHD.out _ (lowN_lt g)]
        have e : lowN (tagsT t) = (tagsT t).toNat := by unfold lowN; omega
        rw [e])
      have HA := Lib.hid hA
      have HC := Lib.hid hC
      clear hA hC
      go_wp2_with fail
      refine (keep_p N0 t g _ w3 n0 HHD.out HV.out).mono ?_
      rintro e w4 ⟨⟨v, rfl, hv⟩, hb⟩
      rw [← HA.out] at hv
      obtain ⟨ap, aq, af, ag, rfl, _, _⟩ := TyVN.form hv
      replace HX := Lib.hid (HX.out.keep hb)
      replace HV := Lib.hid (TyVN.below HV.out hb)
      replace HL := Lib.hid (HL.out.trans (hb.mono HL.out.size))
      have HVA := Lib.hid hv
      clear hv
      (try clear t0 t1 t2 t3 t4 t5)
      obtain ⟨t0, t1, t2, t3, t4, t5⟩ := sixB HX.out
      go_upto_region 6 with fail
      obtain ⟨w5, hw5⟩ : ∃ w5, w5 = w4.alloc (.cells #[.bool A.all, .int .i64 A.flat, .int .i64 A.pair, .slice ap A.pairs.length aq, .int .i64 A.fn, .slice af A.funs.length ag] 49) := ⟨_, rfl⟩
      rw [← hw5]
      have hb : Below w4.heap.size w4 w5 := by rw [hw5]; exact (Below.refl _ _).alloc (Nat.le_refl _) _
      have HXA := Lib.hid (show BoxAt w5 w4.heap.size (A.all) (A.flat) (A.pair) (.slice ap A.pairs.length aq) (A.fn) (.slice af A.funs.length ag) by rw [hw5]; exact BoxAt.made _ _ _ _ _ _ _)
      replace HX := Lib.hid (HX.out.keep hb)
      replace HV := Lib.hid (TyVN.below HV.out hb)
      replace HL := Lib.hid (HL.out.trans (hb.mono HL.out.size))
      replace HVA := Lib.hid (TyVN.below HVA.out hb)
      clear hb hw5
      (try clear t0 t1 t2 t3 t4 t5)
      obtain ⟨t0, t1, t2, t3, t4, t5⟩ := sixB HX.out
      go_wp2_with fail
      refine (keep_p N0 t (bits .xor .i64 (-1) g) _ w5 n0 HHD.out HV.out).mono ?_
      rintro e w6 ⟨⟨v, rfl, hv⟩, hb⟩
      rw [i64_not, ← HC.out] at hv
      obtain ⟨cp, cq, cf, cg, rfl, _, _⟩ := TyVN.form hv
      replace HX := Lib.hid (HX.out.keep hb)
      replace HV := Lib.hid (TyVN.below HV.out hb)
      replace HL := Lib.hid (HL.out.trans (hb.mono HL.out.size))
      replace HVA := Lib.hid (TyVN.below HVA.out hb)
      replace HXA := Lib.hid (HXA.out.keep hb)
      have HVC := Lib.hid hv
      clear hv hb
      have px0 := sixB HX.out
      go_upto_region 7 with fail
      clear px0 t0 t1 t2 t3 t4 t5
      obtain ⟨w7, hw7⟩ : ∃ w7, w7 = w6.alloc (.cells #[.bool C.all, .int .i64 C.flat, .int .i64 C.pair, .slice cp C.pairs.length cq, .int .i64 C.fn, .slice cf C.funs.length cg] 49) := ⟨_, rfl⟩
      rw [← hw7]
      have hb : Below w6.heap.size w6 w7.drew := by rw [hw7]; exact ((Below.refl _ _).alloc (Nat.le_refl _) _).drew
      have HXC := Lib.hid (show BoxAt w7.drew w6.heap.size (C.all) (C.flat) (C.pair) (.slice cp C.pairs.length cq) (C.fn) (.slice cf C.funs.length cg) by rw [hw7]; exact BoxAt.made _ _ _ _ _ _ _)
      replace HX := Lib.hid (HX.out.keep hb)
      replace HV := Lib.hid (TyVN.below HV.out hb)
      replace HL := Lib.hid (HL.out.trans (hb.mono HL.out.size))
      replace HVA := Lib.hid (TyVN.below HVA.out hb)
      replace HXA := Lib.hid (HXA.out.keep hb)
      replace HVC := Lib.hid (TyVN.below HVC.out hb)
      clear hb hw7
      (try dsimp only [List.append])
      refine wp_region_noPanic ?_
      refine wp_region_held_drew (S := (fun w' => (w'.cell? ⟨w.heap.size, 0, none⟩ = some (.bool t.all) ∧ w'.cell? ⟨w.heap.size, 1, none⟩ = some (.int .i64 t.flat) ∧ w'.cell? ⟨w.heap.size, 2, none⟩ = some (.int .i64 t.pair) ∧ w'.cell? ⟨w.heap.size, 3, none⟩ = some (.slice tp t.pairs.length tq) ∧ w'.cell? ⟨w.heap.size, 4, none⟩ = some (.int .i64 t.fn) ∧ w'.cell? ⟨w.heap.size, 5, none⟩ = some (.slice tf t.funs.length tg)) ∧ (w'.cell? ⟨w4.heap.size, 0, none⟩ = some (.bool A.all) ∧ w'.cell? ⟨w4.heap.size, 1, none⟩ = some (.int .i64 A.flat) ∧ w'.cell? ⟨w4.heap.size, 2, none⟩ = some (.int .i64 A.pair) ∧ w'.cell? ⟨w4.heap.size, 3, none⟩ = some (.slice ap A.pairs.length aq) ∧ w'.cell? ⟨w4.heap.size, 4, none⟩ = some (.int .i64 A.fn) ∧ w'.cell? ⟨w4.heap.size, 5, none⟩ = some (.slice af A.funs.length ag)) ∧ (w'.cell? ⟨w6.heap.size, 0, none⟩ = some (.bool C.all) ∧ w'.cell? ⟨w6.heap.size, 1, none⟩ = some (.int .i64 C.flat) ∧ w'.cell? ⟨w6.heap.size, 2, none⟩ = some (.int .i64 C.pair) ∧ w'.cell? ⟨w6.heap.size, 3, none⟩ = some (.slice cp C.pairs.length cq) ∧ w'.cell? ⟨w6.heap.size, 4, none⟩ = some (.int .i64 C.fn) ∧ w'.cell? ⟨w6.heap.size, 5, none⟩ = some (.slice cf C.funs.length cg)))) (by kernel_rfl) (by (try dsimp only); exact ⟨sixB HX.out, sixB HXA.out, sixB HXC.out⟩) (fun hHeld => ?_)
      generalize w7.drew = wd at hHeld HX HV HL HVA HXA HVC HXC ⊢
      refine' tk_any 0 28 (v := _) ?hi45001 ?hd45001 (by kernel_rfl) (by kernel_rfl) (by kernel_rfl) (fun _ _ _ h => h) ?hy45001 hHeld ?hr45001
      case hi45001 => (simp only [List.getElem?_toArray, List.getElem?_cons_zero]; rfl)
      case hd45001 => rfl
      case hy45001 =>
        refine' Or.inl ⟨?hw45001, ?hx45001⟩
        case hw45001 => rfl
        case hx45001 => (intro w hSw; (try dsimp only at hSw); go_simp; (try with_reducible rfl))
      (try simp only [Act.put, List.setIfInBounds_toArray, List.set_cons_zero, List.set_cons_succ])
      refine' tk_any 1 29 (v := _) ?hi45002 ?hd45002 (by kernel_rfl) (by kernel_rfl) (by kernel_rfl) (fun _ _ _ h => h) ?hy45002 hHeld ?hr45002
      case hi45002 => (simp only [List.getElem?_toArray, List.getElem?_cons_succ, List.getElem?_cons_zero]; rfl)
      case hd45002 => rfl
      case hy45002 =>
        refine' Or.inl ⟨?hw45002, ?hx45002⟩
        case hw45002 => rfl
        case hx45002 => (intro w hSw; (try dsimp only at hSw); go_simp; (try with_reducible rfl))
      (try simp only [Act.put, List.setIfInBounds_toArray, List.set_cons_zero, List.set_cons_succ])
      refine' tk_any 3 31 (v := _) ?hi45003 ?hd45003 (by kernel_rfl) (by kernel_rfl) (by kernel_rfl) (fun _ _ _ h => h) ?hy45003 hHeld ?hr45003
      case hi45003 => (simp only [List.getElem?_toArray, List.getElem?_cons_succ, List.getElem?_cons_zero]; rfl)
      case hd45003 => rfl
      case hy45003 =>
        refine' Or.inl ⟨?hw45003, ?hx45003⟩
        case hw45003 => rfl
        case hx45003 => (intro w hSw; (try dsimp only at hSw); go_simp; (try with_reducible rfl))
      (try simp only [Act.put, List.setIfInBounds_toArray, List.set_cons_zero, List.set_cons_succ])
      refine' tk_call 2 ?hi45004 (by kernel_rfl) ?hr45004
      case hi45004 => (simp only [List.getElem?_toArray, List.getElem?_cons_succ, List.getElem?_cons_zero]; rfl)
      intro K hK
      go_simp
      go_at_call 31
      refine (join_p N0 A C _ _ wd n0 ⟨20, HAD.out⟩ ⟨20, HCD.out⟩ (Nat.le_trans (Nat.mul_le_mul HAS.out HCS.out) (by decide)) (by have := HAS.out; have := HCS.out; omega) HVA.out HVC.out).mono ?_
      rintro e w8 ⟨⟨v, rfl, hv⟩, hb⟩
      replace HX := Lib.hid (HX.out.keep hb)
      replace HV := Lib.hid (TyVN.below HV.out hb)
      replace HL := Lib.hid (HL.out.trans (hb.mono HL.out.size))
      replace HVA := Lib.hid (TyVN.below HVA.out hb)
      replace HXA := Lib.hid (HXA.out.keep hb)
      replace HVC := Lib.hid (TyVN.below HVC.out hb)
      replace HXC := Lib.hid (HXC.out.keep hb)
      have HVJ := Lib.hid hv
      obtain ⟨ja, jf, jp, jpa, jpn, jpc, jk, jfa, jfn, jfc, rfl⟩ := TyVN.shape HVJ.out
      clear hv hb
      go_wp2_with fail
      clear hHeld
      refine hK.out _ _ (by (try dsimp only); exact ⟨sixB HX.out, sixB HXA.out, sixB HXC.out⟩) (fun hHeld => ?_)
      clear hK K
      (try simp only [Act.put, List.setIfInBounds_toArray, List.set_cons_zero, List.set_cons_succ])
      refine' tk_call 4 ?hi45005 (by kernel_rfl) ?hr45005
      case hi45005 => (simp only [List.getElem?_toArray, List.getElem?_cons_succ, List.getElem?_cons_zero]; rfl)
      intro K hK
      go_simp
      go_at_call 23
      refine (same_any (joinT A C) t _ _ w8 (TyVN.v HVJ.out) (TyVN.v HV.out)).mono ?_
      rintro e w9 ⟨rfl, hb⟩
      replace HX := Lib.hid (HX.out.keep hb)
      replace HV := Lib.hid (TyVN.below HV.out hb)
      replace HL := Lib.hid (HL.out.trans (hb.mono HL.out.size))
      replace HVA := Lib.hid (TyVN.below HVA.out hb)
      replace HXA := Lib.hid (HXA.out.keep hb)
      replace HVC := Lib.hid (TyVN.below HVC.out hb)
      replace HXC := Lib.hid (HXC.out.keep hb)
      obtain ⟨Z, hZ⟩ : ∃ Z, Z = sameT (joinT A C) t := ⟨_, rfl⟩
      rw [← hZ]
      have HZ := Lib.hid (show t.all = false → Z = true by intro h; rw [hZ, HJ.out h]; exact (sameT_iff t t).2 rfl)
      clear hb hZ HVJ
      go_wp2_with fail
      clear hHeld
      refine hK.out _ _ (by (try dsimp only); exact ⟨sixB HX.out, sixB HXA.out, sixB HXC.out⟩) (fun hHeld => ?_)
      clear hK K
      (try simp only [Act.put, List.setIfInBounds_toArray, List.set_cons_zero, List.set_cons_succ])
      refine' tk_any 5 9 (v := _) ?hi45006 ?hd45006 (by kernel_rfl) (by kernel_rfl) (by kernel_rfl) (fun _ _ _ h => h) ?hy45006 hHeld ?hr45006
      case hi45006 => (simp only [List.getElem?_toArray, List.getElem?_cons_succ, List.getElem?_cons_zero]; rfl)
      case hd45006 => rfl
      case hy45006 =>
        refine' Or.inl ⟨?hw45006, ?hx45006⟩
        case hw45006 => rfl
        case hx45006 => (intro w hSw; (try dsimp only at hSw); go_simp; (try with_reducible rfl))
      (try simp only [Act.put, List.setIfInBounds_toArray, List.set_cons_zero, List.set_cons_succ])
      refine wpAnyH_done (by kernel_rfl) ?_ _
      refine NoPanic.normal ?_
      cases hta : t.all with
      | true =>
        have X0 := SubW.cell HX.out.c0 HX.out.lt
        have X1 := SubW.cell HX.out.c1 HX.out.lt
        have X2 := SubW.cell HX.out.c2 HX.out.lt
        have X3 := SubW.cell HX.out.c3 HX.out.lt
        have X4 := SubW.cell HX.out.c4 HX.out.lt
        have X5 := SubW.cell HX.out.c5 HX.out.lt
        have Y0 := SubW.cell HXA.out.c0 HXA.out.lt
        have Y1 := SubW.cell HXA.out.c1 HXA.out.lt
        have Y2 := SubW.cell HXA.out.c2 HXA.out.lt
        have Y3 := SubW.cell HXA.out.c3 HXA.out.lt
        have Y4 := SubW.cell HXA.out.c4 HXA.out.lt
        have Y5 := SubW.cell HXA.out.c5 HXA.out.lt
        have V0 := SubW.cell HXC.out.c0 HXC.out.lt
        have V1 := SubW.cell HXC.out.c1 HXC.out.lt
        have V2 := SubW.cell HXC.out.c2 HXC.out.lt
        have V3 := SubW.cell HXC.out.c3 HXC.out.lt
        have V4 := SubW.cell HXC.out.c4 HXC.out.lt
        have V5 := SubW.cell HXC.out.c5 HXC.out.lt
        have TG1 := Lib.hid (fun p : SubW w9 => tags_p A _ _ p.wx (okTy.head ⟨20, HAD.out⟩) (TyVN.below HVA.out p.h))
        have TG2 := Lib.hid (fun p : SubW w9 => tags_p t _ _ p.wx HHD.out (TyVN.below HV.out p.h))
        have TG3 := Lib.hid (fun p : SubW w9 => sub_p A t _ _ p.wx ⟨20, HAD.out⟩ ⟨20, HD.out⟩ (Nat.le_trans (Nat.mul_le_mul HAS.out (Nat.le_of_lt HSZ.out)) (by decide)) (by have := HAS.out; have := HSZ.out; omega) (TyVN.v (TyVN.below HVA.out p.h)) (TyVN.v (TyVN.below HV.out p.h)))
        have TG4 := Lib.hid (fun p : SubW w9 => sub_p C t _ _ p.wx ⟨20, HCD.out⟩ ⟨20, HD.out⟩ (Nat.le_trans (Nat.mul_le_mul HCS.out (Nat.le_of_lt HSZ.out)) (by decide)) (by have := HCS.out; have := HSZ.out; omega) (TyVN.v (TyVN.below HVC.out p.h)) (TyVN.v (TyVN.below HV.out p.h)))
        have TG5 := Lib.hid (fun p : SubW w9 => right_p A _ p.wx (by have := HAS.out; omega) HAR.out (TyVN.v (TyVN.below HVA.out p.h)))
        rw [HAT.out] at TG3
        rw [HCT.out] at TG4
        rw [HAD.out] at TG5
        rw [hta] at X0 TG2 TG3 TG4
        have tg := HTG.out
        clear hta
        go_upto_region 8 with fail
        refine wp_region_sub (by kernel_rfl) (by kernel_rfl) ?_
        repeat (quiet_step (first | exact rfl | (go_at_call 26; first | (with_reducible exact Calls.sub_of _ (TG1.out _)) | exact Calls.sub_of _ (TG2.out _)) | (go_at_call 32; first | (with_reducible exact Calls.sub_of _ (TG3.out _)) | exact Calls.sub_of _ (TG4.out _)) | (go_at_call 30; exact Calls.sub_of _ (TG5.out _))))
        refine wpQuiet_nil ?_
        intro wq hw'
        obtain ⟨⟨wz', hbq⟩, hw''⟩ := hw'
        (try dsimp only at hw'')
        subst hw''
        (try dsimp only)
        have HBQ := Lib.hid (HL.out.trans (hbq.mono HL.out.size))
        clear hbq X0 X1 X2 X3 X4 X5 Y0 Y1 Y2 Y3 Y4 Y5 V0 V1 V2 V3 V4 V5
        go_wp2
        refine bodyPost_ret (v := .bool true) ?_ ?_ ?_
        · simp [results, Try.results7, go_sem]
        · rfl
        · exact ⟨rfl, HBQ.out⟩
      | false =>
        have hz9 := HZ.out hta
        subst hz9
        have X0 := SubW.cell HX.out.c0 HX.out.lt
        have X1 := SubW.cell HX.out.c1 HX.out.lt
        have X2 := SubW.cell HX.out.c2 HX.out.lt
        have X3 := SubW.cell HX.out.c3 HX.out.lt
        have X4 := SubW.cell HX.out.c4 HX.out.lt
        have X5 := SubW.cell HX.out.c5 HX.out.lt
        have Y0 := SubW.cell HXA.out.c0 HXA.out.lt
        have Y1 := SubW.cell HXA.out.c1 HXA.out.lt
        have Y2 := SubW.cell HXA.out.c2 HXA.out.lt
        have Y3 := SubW.cell HXA.out.c3 HXA.out.lt
        have Y4 := SubW.cell HXA.out.c4 HXA.out.lt
        have Y5 := SubW.cell HXA.out.c5 HXA.out.lt
        have V0 := SubW.cell HXC.out.c0 HXC.out.lt
        have V1 := SubW.cell HXC.out.c1 HXC.out.lt
        have V2 := SubW.cell HXC.out.c2 HXC.out.lt
        have V3 := SubW.cell HXC.out.c3 HXC.out.lt
        have V4 := SubW.cell HXC.out.c4 HXC.out.lt
        have V5 := SubW.cell HXC.out.c5 HXC.out.lt
        have TG1 := Lib.hid (fun p : SubW w9 => tags_p A _ _ p.wx (okTy.head ⟨20, HAD.out⟩) (TyVN.below HVA.out p.h))
        have TG2 := Lib.hid (fun p : SubW w9 => tags_p t _ _ p.wx HHD.out (TyVN.below HV.out p.h))
        have TG3 := Lib.hid (fun p : SubW w9 => sub_p A t _ _ p.wx ⟨20, HAD.out⟩ ⟨20, HD.out⟩ (Nat.le_trans (Nat.mul_le_mul HAS.out (Nat.le_of_lt HSZ.out)) (by decide)) (by have := HAS.out; have := HSZ.out; omega) (TyVN.v (TyVN.below HVA.out p.h)) (TyVN.v (TyVN.below HV.out p.h)))
        have TG4 := Lib.hid (fun p : SubW w9 => sub_p C t _ _ p.wx ⟨20, HCD.out⟩ ⟨20, HD.out⟩ (Nat.le_trans (Nat.mul_le_mul HCS.out (Nat.le_of_lt HSZ.out)) (by decide)) (by have := HCS.out; have := HSZ.out; omega) (TyVN.v (TyVN.below HVC.out p.h)) (TyVN.v (TyVN.below HV.out p.h)))
        have TG5 := Lib.hid (fun p : SubW w9 => right_p A _ p.wx (by have := HAS.out; omega) HAR.out (TyVN.v (TyVN.below HVA.out p.h)))
        rw [HAT.out] at TG3
        rw [HCT.out] at TG4
        rw [HAD.out] at TG5
        rw [hta] at X0 TG2 TG3 TG4
        have tg := HTG.out
        clear hta
        go_upto_region 8 with fail
        refine wp_region_sub (by kernel_rfl) (by kernel_rfl) ?_
        repeat (quiet_step (first | exact rfl | (go_at_call 26; first | (with_reducible exact Calls.sub_of _ (TG1.out _)) | exact Calls.sub_of _ (TG2.out _)) | (go_at_call 32; first | (with_reducible exact Calls.sub_of _ (TG3.out _)) | exact Calls.sub_of _ (TG4.out _)) | (go_at_call 30; exact Calls.sub_of _ (TG5.out _))))
        refine wpQuiet_nil ?_
        intro wq hw'
        obtain ⟨⟨wz', hbq⟩, hw''⟩ := hw'
        (try dsimp only at hw'')
        subst hw''
        (try dsimp only)
        have HBQ := Lib.hid (HL.out.trans (hbq.mono HL.out.size))
        clear hbq X0 X1 X2 X3 X4 X5 Y0 Y1 Y2 Y3 Y4 Y5 V0 V1 V2 V3 V4 V5
        go_wp2
        refine bodyPost_ret (v := .bool true) ?_ ?_ ?_
        · simp [results, Try.results7, go_sem]
        · rfl
        · exact ⟨rfl, HBQ.out⟩
end Go.Proofs.Ytgjkobkcmgliaaa
