import Derived.Test.YtgjkobkcmgliaaaNwTs
import Derived.Test.YtgjkobkcmgliaaaNwTo
import Derived.Test.YtgjkobkcmgliaaaNwTl
import Derived.Test.YtgjkobkcmgliaaaNwAw
namespace Go.Proofs.Ytgjkobkcmgliaaa
open Go.RowKit

set_option maxRecDepth 100000 in
set_option maxHeartbeats 16000000 in
theorem nasks_p (t : Tst) (v : Value) (w : World) (hv : TeV w v t) : Calls Try.prog 3 #[v] w fun e w' => e = .returned (.bool true) ∧ Below w.heap.size w w' := by
  obtain ⟨a, c, rfl, hs⟩ := hv.form
  obtain ⟨W, hW⟩ : ∃ W, W = w.alloc (.cells #[.int .i64 t.op, .int .i64 t.vr, .int .i64 t.tags, .bool t.yes, .slice a t.of.length c] 24) := ⟨_, rfl⟩
  have HX := Lib.hid (show Bx W w.heap.size 24 #[.int .i64 t.op, .int .i64 t.vr, .int .i64 t.tags, .bool t.yes, .slice a t.of.length c] by rw [hW]; exact Bx.made _ _ _)
  have HL := Lib.hid (show Below w.heap.size w W by rw [hW]; exact (Below.refl _ _).alloc (Nat.le_refl _) _)
  have HV := Lib.hid (hv.below HL.out)
  have HW := Lib.hid hW
  clear hs hv hW
  go_enter Try.func3, Try.ntmps3
  go_wp2_with fail
  rw [← HW.out]
  refine (awake_p W).mono ?_
  rintro e w1 ⟨rfl, hb⟩
  replace HX := Lib.hid (HX.out.keep hb)
  replace HV := Lib.hid (HV.out.below hb)
  replace HL := Lib.hid (HL.out.trans (hb.mono HL.out.size))
  clear hb HW
  have x0 : w1.cell? ⟨w.heap.size, 0, none⟩ = some (.int .i64 t.op) := HX.out.c 0
  have x1 : w1.cell? ⟨w.heap.size, 1, none⟩ = some (.int .i64 t.vr) := HX.out.c 1
  have x2 : w1.cell? ⟨w.heap.size, 2, none⟩ = some (.int .i64 t.tags) := HX.out.c 2
  have x3 : w1.cell? ⟨w.heap.size, 3, none⟩ = some (.bool t.yes) := HX.out.c 3
  have x4 : w1.cell? ⟨w.heap.size, 4, none⟩ = some (.slice a t.of.length c) := HX.out.c 4
  go_wp2_with fail
  refine (light_go 6 (by decide) 6 t _ w1 rfl HV.out).mono ?_
  rintro e w2 ⟨rfl, hb⟩
  replace HX := Lib.hid (HX.out.keep hb)
  replace HV := Lib.hid (HV.out.below hb)
  replace HL := Lib.hid (HL.out.trans (hb.mono HL.out.size))
  obtain ⟨z, hz⟩ : ∃ z, z = litT 6 t := ⟨_, rfl⟩
  rw [← hz]
  have HZ := Lib.hid hz
  clear hz hb x0 x1 x2 x3 x4
  cases z with
  | false =>
    go_wp2
    refine bodyPost_ret (v := .bool true) ?_ ?_ ?_
    · simp [results, Try.results3, go_sem]
    · rfl
    · exact ⟨rfl, HL.out⟩
  | true =>
    go_upto_region 5 with fail
    have hb : Below w2.heap.size w2 w2.drew := (Below.refl _ _).drew
    replace HX := Lib.hid (HX.out.keep hb)
    replace HV := Lib.hid (HV.out.below hb)
    replace HL := Lib.hid (HL.out.trans (hb.mono HL.out.size))
    clear hb
    (try dsimp only [List.append])
    refine wp_region_noPanic ?_
    refine wp_region_held_drew (S := (fun w' => w'.cell? ⟨w.heap.size, 0, none⟩ = some (.int .i64 t.op) ∧ w'.cell? ⟨w.heap.size, 1, none⟩ = some (.int .i64 t.vr) ∧ w'.cell? ⟨w.heap.size, 2, none⟩ = some (.int .i64 t.tags) ∧ w'.cell? ⟨w.heap.size, 3, none⟩ = some (.bool t.yes) ∧ w'.cell? ⟨w.heap.size, 4, none⟩ = some (.slice a t.of.length c))) (by kernel_rfl) (by (try dsimp only); exact ⟨HX.out.c 0, HX.out.c 1, HX.out.c 2, HX.out.c 3, HX.out.c 4⟩) (fun hHeld => ?_)
    generalize w2.drew = wd at hHeld HX HV HL ⊢
    refine' tk_any 0 12 (v := _) ?hi49001 ?hd49001 (by kernel_rfl) (by kernel_rfl) (by kernel_rfl) (fun _ _ _ h => h) ?hy49001 hHeld ?hr49001
    case hi49001 => (simp only [List.getElem?_toArray, List.getElem?_cons_zero]; rfl)
    case hd49001 => rfl
    case hy49001 =>
      refine' Or.inl ⟨?hw49001, ?hx49001⟩
      case hw49001 => rfl
      case hx49001 => (intro w hSw; (try dsimp only at hSw); go_simp; (try with_reducible rfl))
    (try simp only [Act.put, List.setIfInBounds_toArray, List.set_cons_zero, List.set_cons_succ])
    refine' tk_any 2 14 (v := _) ?hi49002 ?hd49002 (by kernel_rfl) (by kernel_rfl) (by kernel_rfl) (fun _ _ _ h => h) ?hy49002 hHeld ?hr49002
    case hi49002 => (simp only [List.getElem?_toArray, List.getElem?_cons_succ, List.getElem?_cons_zero]; rfl)
    case hd49002 => rfl
    case hy49002 =>
      refine' Or.inl ⟨?hw49002, ?hx49002⟩
      case hw49002 => rfl
      case hx49002 => (intro w hSw; (try dsimp only at hSw); go_simp; (try with_reducible rfl))
    (try simp only [Act.put, List.setIfInBounds_toArray, List.set_cons_zero, List.set_cons_succ])
    refine' tk_call 1 ?hi49003 (by kernel_rfl) ?hr49003
    case hi49003 => (simp only [List.getElem?_toArray, List.getElem?_cons_succ, List.getElem?_cons_zero]; rfl)
    intro K hK
    go_simp
    go_at_call 11
    refine (prop_go 6 (by decide) t _ wd HZ.out.symm HV.out).mono ?_
    rintro e w3 ⟨⟨v, rfl, pa1, pc1, pa2, pc2, rfl, hp1, hp2⟩, hb⟩
    obtain ⟨P, hP⟩ : ∃ P, P = prpT 6 t := ⟨_, rfl⟩
    have HPL := Lib.hid (show P.th.l.length ≤ 10000 ∧ P.el.l.length ≤ 10000 by have h := prp_len 6 t; rw [← hP] at h; have e : 2 ^ 6 = 64 := rfl; omega)
    rw [← hP] at hp1 hp2 ⊢
    have HP := Lib.hid hP
    replace HX := Lib.hid (HX.out.keep hb)
    replace HV := Lib.hid (HV.out.below hb)
    replace HL := Lib.hid (HL.out.trans (hb.mono HL.out.size))
    have HP1 := Lib.hid hp1
    have HP2 := Lib.hid hp2
    clear hb hp1 hp2 hP
    go_wp2_with fail
    clear hHeld
    refine hK.out _ _ (by (try dsimp only); exact ⟨HX.out.c 0, HX.out.c 1, HX.out.c 2, HX.out.c 3, HX.out.c 4⟩) (fun hHeld => ?_)
    clear hK K
    (try simp only [Act.put, List.setIfInBounds_toArray, List.set_cons_zero, List.set_cons_succ])
    refine' tk_call 3 ?hi49004 (by kernel_rfl) ?hr49004
    case hi49004 => (simp only [List.getElem?_toArray, List.getElem?_cons_succ, List.getElem?_cons_zero]; rfl)
    intro K hK
    go_simp
    go_at_call 12
    refine (owns_go 6 (by decide) t _ w3 HZ.out.symm HV.out).mono ?_
    rintro e w4 ⟨⟨v, rfl, qa1, qc1, qa2, qc2, rfl, hq1, hq2⟩, hb⟩
    rw [← HP.out] at hq1 hq2 ⊢
    replace HX := Lib.hid (HX.out.keep hb)
    replace HV := Lib.hid (HV.out.below hb)
    replace HL := Lib.hid (HL.out.trans (hb.mono HL.out.size))
    replace HP1 := Lib.hid (HP1.out.below hb)
    replace HP2 := Lib.hid (HP2.out.below hb)
    have HQ1 := Lib.hid hq1
    have HQ2 := Lib.hid hq2
    clear hb hq1 hq2
    go_wp2_with fail
    clear hHeld
    refine hK.out _ _ (by (try dsimp only); exact ⟨HX.out.c 0, HX.out.c 1, HX.out.c 2, HX.out.c 3, HX.out.c 4⟩) (fun hHeld => ?_)
    clear hK K
    (try simp only [Act.put, List.setIfInBounds_toArray, List.set_cons_zero, List.set_cons_succ])
    refine' tk_call 4 ?hi49005 (by kernel_rfl) ?hr49005
    case hi49005 => (simp only [List.getElem?_toArray, List.getElem?_cons_succ, List.getElem?_cons_zero]; rfl)
    intro K hK
    go_simp
    go_at_call 10
    refine (psame_go _ _ pa1 pa2 qa1 qa2 P.th.l.length P.el.l.length pc1 pc2 qc1 qc2 P.th.never P.el.never P.th.l P.el.l w4 HPL.out.1 HPL.out.2 rfl rfl HP1.out HP2.out HQ1.out HQ2.out).mono ?_
    rintro e w5 ⟨rfl, hb⟩
    replace HX := Lib.hid (HX.out.keep hb)
    replace HV := Lib.hid (HV.out.below hb)
    replace HL := Lib.hid (HL.out.trans (hb.mono HL.out.size))
    clear hb
    go_wp2_with fail
    clear hHeld
    refine hK.out _ _ (by (try dsimp only); exact ⟨HX.out.c 0, HX.out.c 1, HX.out.c 2, HX.out.c 3, HX.out.c 4⟩) (fun hHeld => ?_)
    clear hK K
    (try simp only [Act.put, List.setIfInBounds_toArray, List.set_cons_zero, List.set_cons_succ])
    refine' tk_any 5 5 (v := _) ?hi49006 ?hd49006 (by kernel_rfl) (by kernel_rfl) (by kernel_rfl) (fun _ _ _ h => h) ?hy49006 hHeld ?hr49006
    case hi49006 => (simp only [List.getElem?_toArray, List.getElem?_cons_succ, List.getElem?_cons_zero]; rfl)
    case hd49006 => rfl
    case hy49006 =>
      refine' Or.inl ⟨?hw49006, ?hx49006⟩
      case hw49006 => rfl
      case hx49006 => (intro w hSw; (try dsimp only at hSw); go_simp; (try with_reducible rfl))
    (try simp only [Act.put, List.setIfInBounds_toArray, List.set_cons_zero, List.set_cons_succ])
    refine wpAnyH_done (by kernel_rfl) ?_ _
    refine NoPanic.normal ?_
    go_wp2
    refine bodyPost_ret (v := .bool true) ?_ ?_ ?_
    · simp [results, Try.results3, go_sem]
    · rfl
    · exact ⟨rfl, HL.out⟩
end Go.Proofs.Ytgjkobkcmgliaaa
