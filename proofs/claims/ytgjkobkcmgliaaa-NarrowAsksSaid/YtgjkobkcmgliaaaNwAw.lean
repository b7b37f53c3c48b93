import Derived.Test.YtgjkobkcmgliaaaNwAp
namespace Go.Proofs.Ytgjkobkcmgliaaa
open Go.RowKit

def awP : Prp := ifP (isP 0 1) (isP 1 4) (constP false)
theorem aw_th : awP.th.never = false ∧ awP.th.l = [(0, 1), (1, 4)] := by constructor <;> rfl
theorem aw_el : awP.el.l = [] := by rfl
def awT : List Ty := applyT [tyAll, tyAll] ⟨false, [(0, 1), (1, 4)]⟩
theorem aw_t0 : tagsT (awT.getD 0 ty0) = 1 ∧ HdT (awT.getD 0 ty0) := ⟨by decide, show headOK _ = true by decide⟩
theorem aw_t1 : (keepT (awT.getD 1 ty0) (lowN 255)).flat = 4 ∧ HdT (awT.getD 1 ty0) := ⟨by decide, show headOK _ = true by decide⟩

theorem aw_row (w : World) : RowG w.heap.size 2 (w.alloc (.cells #[.bool true, .int .i64 0, .int .i64 0, .slice none 0 0, .int .i64 0, .slice none 0 0, .bool true, .int .i64 0, .int .i64 0, .slice none 0 0, .int .i64 0, .slice none 0 0] 49)) [tyAll, tyAll] := by
  refine ⟨rfl, by unfold maxLen; omega, [⟨true, 0, 0, .slice none 0 0, 0, .slice none 0 0⟩, ⟨true, 0, 0, .slice none 0 0, 0, .slice none 0 0⟩], alloc_at rfl, rfl, fun j hj => ?_⟩
  match j, hj with
  | 0, _ => exact ⟨rfl, rfl, rfl, rfl, .mkNil _ _, .mkNil _ _⟩
  | 1, _ => exact ⟨rfl, rfl, rfl, rfl, .mkNil _ _, .mkNil _ _⟩

theorem fld_flat (a : Bool) (f p k : Int) (u v : Value) (w : World) : (Instr.field 49 (.agg #[.bool a, .int .i64 f, .int .i64 p, u, .int .i64 k, v]) 1).run Try.prog w = .ok (.int .i64 f) w := by kernel_rfl

set_option maxRecDepth 100000 in
set_option maxHeartbeats 16000000 in
theorem awake_p (w : World) : Calls Try.prog 8 #[] w fun e w' => e = .returned (.bool true) ∧ Below w.heap.size w w' := by
  go_enter Try.func8, Try.ntmps8
  go_wp2_with fail
  refine (pis_go 0 1 w).mono ?_
  rintro e w1 ⟨⟨v1, rfl, a1, c1, a2, c2, rfl, hx1, hx2⟩, hb1⟩
  (try dsimp only [isP, stateF] at hx1 hx2 ⊢)
  go_wp2_with fail
  refine (pis_go 1 4 w1).mono ?_
  rintro e w2 ⟨⟨v2, rfl, a3, c3, a4, c4, rfl, hy1, hy2⟩, hb2⟩
  go_wp2_with fail
  refine (pconst_go false w2).mono ?_
  rintro e w3 ⟨⟨v3, rfl, a5, c5, a6, c6, rfl, hz1, hz2⟩, hb3⟩
  have hx1' := (hx1.below hb2).below hb3
  have hx2' := (hx2.below hb2).below hb3
  have hy1' := hy1.below hb3
  have hy2' := hy2.below hb3
  go_wp2_with fail
  refine (pif_go _ _ _ a1 a2 _ c1 _ c2 (isP 0 1) a3 a4 _ c3 _ c4 (isP 1 4) a5 a6 _ c5 _ c6 (constP false) w3 rfl rfl (by decide) (by decide) hx1' hx2' rfl rfl (by decide) (by decide) hy1' hy2' rfl rfl (by decide) (by decide) hz1 hz2).mono ?_
  rintro e w4 ⟨⟨v4, rfl, a7, c7, a8, c8, rfl, hp1, hp2⟩, hb4⟩
  have HB4 := Lib.hid (((hb1.trans (hb2.mono hb1.size)).trans (hb3.mono (Nat.le_trans hb1.size hb2.size))).trans (hb4.mono (Nat.le_trans hb1.size (Nat.le_trans hb2.size hb3.size))))
  rw [show (ifP (isP 0 1) (isP 1 4) (constP false)).th.l = [(0, 1), (1, 4)] from aw_th.2] at hp1 ⊢
  rw [show (ifP (isP 0 1) (isP 1 4) (constP false)).th.never = false from aw_th.1]
  rw [show (ifP (isP 0 1) (isP 1 4) (constP false)).el.l = [] from aw_el] at ⊢
  generalize (ifP (isP 0 1) (isP 1 4) (constP false)).el.never = en
  have HP1 := Lib.hid (show FaB w3.heap.size w4 (.slice a7 2 c7) [(0, 1), (1, 4)] from hp1)
  clear hx1 hx2 hb1 hb2 hb3 hb4 hy1 hy2 hz1 hz2 hx1' hx2' hy1' hy2' hp1 hp2
  go_upto_region 2 with fail
  obtain ⟨wa, hwa⟩ : ∃ wa, wa = w4.alloc (.cells #[.bool false, .slice a7 2 c7, .bool en, .slice a8 0 c8] 32) := ⟨_, rfl⟩
  rw [← hwa]
  have hba : Below w4.heap.size w4 wa.drew := by rw [hwa]; exact ((Below.refl _ _).alloc (Nat.le_refl _) _).drew
  have HQA := Lib.hid (show Bx wa.drew w4.heap.size 32 #[.bool false, .slice a7 2 c7, .bool en, .slice a8 0 c8] by rw [hwa]; exact Bx.made w4 _ _)
  have HBA := Lib.hid (HB4.out.trans (hba.mono HB4.out.size))
  have HPA := Lib.hid (HP1.out.below hba)
  have z0 := HQA.out.d0
  have z1 := HQA.out.d1
  clear hba hwa
  (try dsimp only [List.append])
  refine wp_region_noPanic ?_
  refine wp_region_held_drew (S := (fun w' => w'.cell? ⟨w4.heap.size, 0, none⟩ = some (.bool false) ∧ w'.cell? ⟨w4.heap.size, 1, none⟩ = some (.slice a7 2 c7))) (by kernel_rfl) (by (try dsimp only); exact ⟨z0, z1⟩) (fun hHeld => ?_)
  generalize wa.drew = wd at hHeld HQA HBA HPA z0 z1 ⊢
  refine' tk_any 3 10 (v := _) ?hi41001 ?hd41001 (by kernel_rfl) (by kernel_rfl) (by kernel_rfl) (fun _ _ _ h => h) ?hy41001 hHeld ?hr41001
  case hi41001 => (simp only [List.getElem?_toArray, List.getElem?_cons_succ, List.getElem?_cons_zero]; rfl)
  case hd41001 => rfl
  case hy41001 =>
    refine' Or.inl ⟨?hw41001, ?hx41001⟩
    case hw41001 => rfl
    case hx41001 => (intro w hSw; (try dsimp only at hSw); go_simp; (try with_reducible rfl))
  (try simp only [Act.put, List.setIfInBounds_toArray, List.set_cons_zero, List.set_cons_succ])
  refine' tk_any 4 11 (v := _) ?hi41002 ?hd41002 (by kernel_rfl) (by kernel_rfl) (by kernel_rfl) (fun _ _ _ h => h) ?hy41002 hHeld ?hr41002
  case hi41002 => (simp only [List.getElem?_toArray, List.getElem?_cons_succ, List.getElem?_cons_zero]; rfl)
  case hd41002 => rfl
  case hy41002 =>
    refine' Or.inl ⟨?hw41002, ?hx41002⟩
    case hw41002 => rfl
    case hx41002 => (intro w hSw; (try dsimp only at hSw); go_simp; (try with_reducible rfl))
  (try simp only [Act.put, List.setIfInBounds_toArray, List.set_cons_zero, List.set_cons_succ])
  refine' tk_call 0 ?hi41003 (by kernel_rfl) ?hr41003
  case hi41003 => (simp only [List.getElem?_toArray, List.getElem?_cons_zero]; rfl)
  intro K hK
  go_simp
  go_at_call 36
  refine (all_p wd).mono ?_
  rintro e w5 ⟨rfl, hb⟩
  replace HQA := Lib.hid (HQA.out.keep hb)
  replace HBA := Lib.hid (HBA.out.trans (hb.mono HBA.out.size))
  replace HPA := Lib.hid (HPA.out.below hb)
  clear z0 z1 hb
  have z0 := HQA.out.d0
  have z1 := HQA.out.d1
  go_wp2_with fail
  clear hHeld
  refine hK.out _ _ (by (try dsimp only); exact ⟨z0, z1⟩) (fun hHeld => ?_)
  clear hK K
  (try simp only [Act.put, List.setIfInBounds_toArray, List.set_cons_zero, List.set_cons_succ])
  refine' tk_call 1 ?hi41004 (by kernel_rfl) ?hr41004
  case hi41004 => (simp only [List.getElem?_toArray, List.getElem?_cons_succ, List.getElem?_cons_zero]; rfl)
  intro K hK
  go_simp
  go_at_call 36
  refine (all_p w5).mono ?_
  rintro e w6 ⟨rfl, hb⟩
  replace HQA := Lib.hid (HQA.out.keep hb)
  replace HBA := Lib.hid (HBA.out.trans (hb.mono HBA.out.size))
  replace HPA := Lib.hid (HPA.out.below hb)
  clear z0 z1 hb
  have z0 := HQA.out.d0
  have z1 := HQA.out.d1
  go_wp2_with fail
  clear hHeld
  refine hK.out _ _ (by (try dsimp only); exact ⟨z0, z1⟩) (fun hHeld => ?_)
  clear hK K
  (try simp only [Act.put, List.setIfInBounds_toArray, List.set_cons_zero, List.set_cons_succ])
  refine' tk_call 2 ?hi41005 (by kernel_rfl) ?hr41005
  case hi41005 => (simp only [List.getElem?_toArray, List.getElem?_cons_succ, List.getElem?_cons_zero]; rfl)
  intro K hK
  go_simp
  obtain ⟨w7, hw7⟩ : ∃ w7, w7 = w6.alloc (.cells #[.bool true, .int .i64 0, .int .i64 0, .slice none 0 0, .int .i64 0, .slice none 0 0, .bool true, .int .i64 0, .int .i64 0, .slice none 0 0, .int .i64 0, .slice none 0 0] 49) := ⟨_, rfl⟩
  rw [← hw7]
  have hb : Below w6.heap.size w6 w7 := by rw [hw7]; exact (Below.refl _ _).alloc (Nat.le_refl _) _
  have HR7 := Lib.hid (show RowG w6.heap.size 2 w7 [tyAll, tyAll] by rw [hw7]; exact aw_row w6)
  replace HQA := Lib.hid (HQA.out.keep hb)
  replace HBA := Lib.hid (HBA.out.trans (hb.mono HBA.out.size))
  replace HPA := Lib.hid (HPA.out.below hb)
  clear z0 z1 hb hw7
  have z0 := HQA.out.d0
  have z1 := HQA.out.d1
  clear hHeld
  refine hK.out _ _ (by (try dsimp only); exact ⟨z0, z1⟩) (fun hHeld => ?_)
  clear hK K
  (try simp only [Act.put, List.setIfInBounds_toArray, List.set_cons_zero, List.set_cons_succ])
  refine' tk_call 5 ?hi41006 (by kernel_rfl) ?hr41006
  case hi41006 => (simp only [List.getElem?_toArray, List.getElem?_cons_succ, List.getElem?_cons_zero]; rfl)
  intro K hK
  go_simp
  go_at_call 21
  refine (apply_p _ [tyAll, tyAll] false [(0, 1), (1, 4)] _ a7 2 2 2 c7 w7 rfl (by decide) rfl (by decide) (by intro t ht; simp at ht; rw [ht]; exact show headOK tyAll = true by decide) HR7.out.done HPA.out).mono ?_
  rintro e w8 ⟨g, rfl, hg, hrow, hb⟩
  have HG := Lib.hid (show RowG g 2 w8 awT from hrow)
  have HGL := Lib.hid hg
  replace HQA := Lib.hid (HQA.out.keep hb)
  replace HBA := Lib.hid (HBA.out.trans (hb.mono HBA.out.size))
  replace HPA := Lib.hid (HPA.out.below hb)
  clear z0 z1 hb hg hrow
  have z0 := HQA.out.d0
  have z1 := HQA.out.d1
  go_wp2_with fail
  clear hHeld
  refine hK.out _ _ (by (try dsimp only); exact ⟨z0, z1⟩) (fun hHeld => ?_)
  clear hK K
  (try simp only [Act.put, List.setIfInBounds_toArray, List.set_cons_zero, List.set_cons_succ])
  refine' tk_any 6 2 (v := _) ?hi41007 ?hd41007 (by kernel_rfl) (by kernel_rfl) (by kernel_rfl) (fun _ _ _ h => h) ?hy41007 hHeld ?hr41007
  case hi41007 => (simp only [List.getElem?_toArray, List.getElem?_cons_succ, List.getElem?_cons_zero]; rfl)
  case hd41007 => rfl
  case hy41007 =>
    refine' Or.inl ⟨?hw41007, ?hx41007⟩
    case hw41007 => rfl
    case hx41007 => (intro w hSw; (try dsimp only at hSw); go_simp; (try with_reducible rfl))
  (try simp only [Act.put, List.setIfInBounds_toArray, List.set_cons_zero, List.set_cons_succ])
  refine wpAnyH_done (by kernel_rfl) ?_ _
  refine NoPanic.normal ?_
  obtain ⟨q, off, rfl, _, hq, f0, f1⟩ := HPA.out.get (k := 1) (by decide)
  obtain ⟨a, f, p, pa, np, pc, k, ga, nf, gc, d0, d1, d2, d3, d4, d5, _, hv0⟩ := HG.out.get (j := 0) (by decide)
  have HV0 := Lib.hid hv0
  clear hv0
  have f0 : w8.cell? ⟨q, off + 2, none⟩ = some (.int .i64 1) := f0
  have f1 : w8.cell? ⟨q, off + 3, none⟩ = some (.int .i64 4) := f1
  have d0 : w8.cell? ⟨g, 0, none⟩ = _ := d0
  have d1 : w8.cell? ⟨g, 1, none⟩ = _ := d1
  have d2 : w8.cell? ⟨g, 2, none⟩ = _ := d2
  have d3 : w8.cell? ⟨g, 3, none⟩ = _ := d3
  have d4 : w8.cell? ⟨g, 4, none⟩ = _ := d4
  have d5 : w8.cell? ⟨g, 5, none⟩ = _ := d5
  have z3 := HQA.out.c 3
  go_wp2_with fail
  refine (tags_p (awT.getD 0 ty0) _ _ w8 aw_t0.2 HV0.out).mono ?_
  rintro e w9 ⟨rfl, hb⟩
  rw [aw_t0.1]
  replace HBA := Lib.hid (HBA.out.trans (hb.mono HBA.out.size))
  replace HG := Lib.hid (HG.out.keep hb)
  clear d0 d1 d2 d3 d4 d5 hb f0 f1 z0 z1 z3
  obtain ⟨a, f, p, pa, np, pc, k, ga, nf, gc, d0, d1, d2, d3, d4, d5, _, hv0⟩ := HG.out.get (j := 1) (by decide)
  have HV1 := Lib.hid hv0
  clear hv0
  have d0 : w9.cell? ⟨g, 6, none⟩ = _ := d0
  have d1 : w9.cell? ⟨g, 7, none⟩ = _ := d1
  have d2 : w9.cell? ⟨g, 8, none⟩ = _ := d2
  have d3 : w9.cell? ⟨g, 9, none⟩ = _ := d3
  have d4 : w9.cell? ⟨g, 10, none⟩ = _ := d4
  have d5 : w9.cell? ⟨g, 11, none⟩ = _ := d5
  go_wp2_with fail
  refine (keep_p (· = g) (awT.getD 1 ty0) 255 _ w9 (fun b hb => by rw [hb]; exact HG.out.lt) aw_t1.2 HV1.out).mono ?_
  rintro e w10 ⟨⟨v, rfl, hv2⟩, hb⟩
  obtain ⟨xa, xc, ya, yc, rfl, _, _⟩ := TyVN.form hv2
  rw [aw_t1.1]
  generalize (keepT (awT.getD 1 ty0) (lowN 255)).all = k0, (keepT (awT.getD 1 ty0) (lowN 255)).pair = k2, (keepT (awT.getD 1 ty0) (lowN 255)).pairs.length = k3, (keepT (awT.getD 1 ty0) (lowN 255)).fn = k4, (keepT (awT.getD 1 ty0) (lowN 255)).funs.length = k5
  have hfd := fld_flat k0 4 k2 k4 (.slice xa k3 xc) (.slice ya k5 yc) w10
  replace HBA := Lib.hid (HBA.out.trans (hb.mono HBA.out.size))
  clear d0 d1 d2 d3 d4 d5 hb hv2
  go_wp2
  refine bodyPost_ret (v := .bool true) ?_ ?_ ?_
  · simp [results, Try.results8, go_sem]
  · rfl
  · exact ⟨rfl, HBA.out⟩
end Go.Proofs.Ytgjkobkcmgliaaa
