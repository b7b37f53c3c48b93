import Derived.Test.YtlalnkabfigodaaDoorCoFi
import Derived.Test.YtlalnkabfigodaaDoorCoC5
import Derived.Test.YtlalnkabfigodaaDoorCoF
import Derived.Test.YtlalnkabfigodaaDoorCoHx
import Derived.Test.YtlalnkabfigodaaDoorTyTw
namespace Go.Proofs.YtlalnkabfigodaaDoor
open Go.RowKit

abbrev awN : Ty := .mk false 1 0 [] 0 []
abbrev awF : Ty := .mk false 0 0 [] 1 [awN, awN]
theorem aw_first : firstC (goC 3 true awN 5) 1 = 0 ∧ firstC (goC 3 true awN 5) 4 = 5 ∧ firstC (goC 3 true awN 5) 128 = 5 := by decide +kernel
theorem aw_f : wrapsC (goC 3 false awF 6) 128 = true ∧ (goC 3 false awF 6).funs.length = 2 ∧ passC ((goC 3 false awF 6).funs.getD 1 co0) = true ∧ htC (goC 3 false awF 6) = 2 ∧ szC (goC 3 false awF 6) = 3 ∧ rightC (goC 3 false awF 6) = true := by decide +kernel
theorem awn_v (w : World) : TyV w (.agg #[.bool false, .int .i64 1, .int .i64 0, .slice none 0 0, .int .i64 0, .slice none 0 0]) awN := TyV.mk (.mkNil _ _) (.mkNil _ _)

set_option maxRecDepth 100000 in
set_option maxHeartbeats 16000000 in
theorem awake_p (w : World) (hT : TzW w) : Calls Tryd.prog 7 #[] w fun e w' => e = .returned (.bool true) ∧ Below w.heap.size w w' := by
  obtain ⟨cA, hcA⟩ : ∃ x, x = goC 3 true awN 5 := ⟨_, rfl⟩
  obtain ⟨fA, hfA⟩ : ∃ x, x = goC 3 false awF 6 := ⟨_, rfl⟩
  have HFI := Lib.hid (show firstC cA 1 = 0 ∧ firstC cA 4 = 5 ∧ firstC cA 128 = 5 by rw [hcA]; exact aw_first)
  obtain ⟨f1, f2, f3, f4, f5, f6⟩ := aw_f
  rw [← hfA] at f1 f2 f3 f4 f5 f6
  have hok : okC fA := ⟨25, f6⟩
  have hco : compF 4 fA fA = fA := comp_self 4 fA hok (by omega)
  have HWR := Lib.hid f1
  have HLF := Lib.hid f2
  have HPS := Lib.hid f3
  have HHT := Lib.hid (show ((htC fA : Nat) : Int) = 2 by rw [f4]; rfl)
  have HSZ := Lib.hid (show ((szC fA : Nat) : Int) = 3 by rw [f5]; rfl)
  have HRT := Lib.hid f6
  have HSH := Lib.hid hok.shape
  have HS9 := Lib.hid (show szC fA ≤ 900 by omega)
  have HTO := Lib.hid (fun (w1 : World) (vt : Value) (hv : TyV w1 vt awN) => top_p 3 awN 5 vt w1 (by decide) (by omega) (by decide) (by decide) hv)
  have HFR := Lib.hid (fun (w1 : World) (vt : Value) (hv : TyV w1 vt awF) => fromp_p 3 awF 6 vt w1 (by decide) (by omega) (by decide) (by decide) hv)
  have HCO := Lib.hid (fun (w1 : World) (u v : Value) (h : TzW w1) (hu : CoV w1 u fA) (hv : CoV w1 v fA) => compose_p 4 fA fA u v w1 hok hok (by omega) (by omega) (by rw [f5]; decide) h hu hv)
  rw [← hcA] at HTO
  rw [← hfA] at HFR
  rw [hco] at HCO
  have HT := Lib.hid hT
  clear hcA hfA f1 f2 f3 f4 f5 f6 hok hco hT
  go_enter Tryd.func7, Tryd.ntmps7
  go_upto_region 2 with fail
  obtain ⟨W1, hw⟩ : ∃ x : World, x = w.alloc (.cells #[.bool false, .int .i64 1, .int .i64 0, .slice none 0 0, .int .i64 0, .slice none 0 0] 47) := ⟨_, rfl⟩
  rw [← hw]
  have HN := Lib.hid (show BoxAt W1 w.heap.size false 1 0 (.slice none 0 0) 0 (.slice none 0 0) by rw [hw]; exact BoxAt.made _ _ _ _ _ _ _)
  have HL := Lib.hid (show Below w.heap.size w W1 by rw [hw]; exact (Below.refl _ _).alloc (Nat.le_refl _) _)
  replace HT := Lib.hid (HT.out.keep HL.out)
  clear hw
  have n0 := HN.out.c0
  have n1 := HN.out.c1
  have n2 := HN.out.c2
  have n3 := HN.out.c3
  have n4 := HN.out.c4
  have n5 := HN.out.c5
  go_wp2_with fail
  refine (HTO.out W1 _ (awn_v W1)).mono ?_
  rintro e W2 ⟨⟨v, rfl, hv⟩, hb⟩
  obtain ⟨pa, pc, fa, fc, rfl, _, _⟩ := hv.form
  obtain ⟨np, hnp⟩ : ∃ n, n = cA.pairs.length := ⟨_, rfl⟩
  obtain ⟨nf, hnf⟩ : ∃ n, n = cA.funs.length := ⟨_, rfl⟩
  rw [← hnp, ← hnf] at hv ⊢
  have HCV := Lib.hid hv.cv
  replace HL := Lib.hid (HL.out.trans (hb.mono HL.out.size))
  replace HT := Lib.hid (HT.out.keep hb)
  replace HN := Lib.hid (HN.out.keep hb)
  clear hv hb hnp hnf n0 n1 n2 n3 n4 n5
  go_upto_region 3 with fail
  obtain ⟨gc0, hg⟩ : ∃ x, x = W2.heap.size := ⟨_, rfl⟩
  obtain ⟨W3, hw⟩ : ∃ x : World, x = W2.alloc (.cells #[.int .i64 cA.h.f0, .int .i64 cA.h.f1, .int .i64 cA.h.f2, .int .i64 cA.h.f3, .int .i64 cA.h.f4, .int .i64 cA.h.f5, .int .i64 cA.h.pair, .int .i64 cA.h.pl, .slice pa np pc, .int .i64 cA.h.fn, .int .i64 cA.h.fl, .slice fa nf fc] 25) := ⟨_, rfl⟩
  rw [← hw, ← hg]
  have hb : Below W2.heap.size W2 W3 := by rw [hw]; exact (Below.refl _ _).alloc (Nat.le_refl _) _
  have HC := Lib.hid (show CBox W3 gc0 25 ⟨cA.h, .slice pa np pc, .slice fa nf fc⟩ by rw [hw, hg]; exact CBox.made W2 25 ⟨cA.h, .slice pa np pc, .slice fa nf fc⟩)
  replace HL := Lib.hid (HL.out.trans (hb.mono HL.out.size))
  replace HT := Lib.hid (HT.out.keep hb)
  replace HN := Lib.hid (HN.out.keep hb)
  replace HCV := Lib.hid (HCV.out.below hb)
  clear hb hw hg
  have n0 := HN.out.c0
  have n1 := HN.out.c1
  have n2 := HN.out.c2
  have n3 := HN.out.c3
  have n4 := HN.out.c4
  have n5 := HN.out.c5
  go_wp2_with fail
  obtain ⟨bt, hbt⟩ : ∃ x, x = W3.heap.size := ⟨_, rfl⟩
  obtain ⟨W4, hw⟩ : ∃ x : World, x = W3.alloc (.cells #[.bool false, .int .i64 1, .int .i64 0, .slice none 0 0, .int .i64 0, .slice none 0 0, .bool false, .int .i64 1, .int .i64 0, .slice none 0 0, .int .i64 0, .slice none 0 0] 47) := ⟨_, rfl⟩
  rw [← hw, ← hbt]
  have hb : Below W3.heap.size W3 W4 := by rw [hw]; exact (Below.refl _ _).alloc (Nat.le_refl _) _
  have HB2 := Lib.hid (show W4.heap[bt]? = some (.cells #[.bool false, .int .i64 1, .int .i64 0, .slice none 0 0, .int .i64 0, .slice none 0 0, .bool false, .int .i64 1, .int .i64 0, .slice none 0 0, .int .i64 0, .slice none 0 0] 47 (0, 0)) by rw [hw, hbt]; exact heap_alloc_new _ _)
  have htv : TyV W4 (.agg #[.bool false, .int .i64 0, .int .i64 0, .slice none 0 0, .int .i64 1, .slice (some ⟨bt, 0, none⟩) 2 2]) awF := by
    refine TyV.mk (.mkNil _ _) ?_
    have h1 := TyS.two (N := fun _ => False) (w := W4) (b := bt) (cap := 2) (r := ⟨false, 1, 0, .slice none 0 0, 0, .slice none 0 0⟩) (s := ⟨false, 1, 0, .slice none 0 0, 0, .slice none 0 0⟩) (x := awN) (y := awN) ⟨(Array.getElem?_eq_some_iff.1 HB2.out).1, fun h => h⟩
      ⟨Lib.cell_of_heap HB2.out 0, Lib.cell_of_heap HB2.out 1, Lib.cell_of_heap HB2.out 2, Lib.cell_of_heap HB2.out 3, Lib.cell_of_heap HB2.out 4, Lib.cell_of_heap HB2.out 5⟩
      ⟨Lib.cell_of_heap HB2.out 6, Lib.cell_of_heap HB2.out 7, Lib.cell_of_heap HB2.out 8, Lib.cell_of_heap HB2.out 9, Lib.cell_of_heap HB2.out 10, Lib.cell_of_heap HB2.out 11⟩
      ⟨rfl, rfl, rfl, rfl, .mkNil _ _, .mkNil _ _⟩ ⟨rfl, rfl, rfl, rfl, .mkNil _ _, .mkNil _ _⟩
    exact h1.mono (fun _ h => h.1) (fun _ _ _ => rfl)
  refine (HFR.out W4 _ htv).mono ?_
  clear n0 n1 n2 n3 n4 n5
  replace HL := Lib.hid (HL.out.trans (hb.mono HL.out.size))
  replace HT := Lib.hid (HT.out.keep hb)
  replace HN := Lib.hid (HN.out.keep hb)
  replace HCV := Lib.hid (HCV.out.below hb)
  replace HC := Lib.hid (HC.out.keep hb)
  clear hb hw hbt htv HB2
  rintro e W5 ⟨⟨v, rfl, hv⟩, hb⟩
  obtain ⟨qa, qc, ga, gc, rfl, _, _⟩ := hv.form
  obtain ⟨mp, hmp⟩ : ∃ n, n = fA.pairs.length := ⟨_, rfl⟩
  rw [← hmp, HLF.out] at hv ⊢
  have HFV := Lib.hid hv.cv
  replace HL := Lib.hid (HL.out.trans (hb.mono HL.out.size))
  replace HT := Lib.hid (HT.out.keep hb)
  replace HN := Lib.hid (HN.out.keep hb)
  replace HCV := Lib.hid (HCV.out.below hb)
  replace HC := Lib.hid (HC.out.keep hb)
  clear hv hb hmp HN
  go_upto_region 4 with fail
  obtain ⟨gf0, hg⟩ : ∃ x, x = W5.heap.size := ⟨_, rfl⟩
  obtain ⟨W6a, hw⟩ : ∃ x : World, x = W5.alloc (.cells #[.int .i64 fA.h.f0, .int .i64 fA.h.f1, .int .i64 fA.h.f2, .int .i64 fA.h.f3, .int .i64 fA.h.f4, .int .i64 fA.h.f5, .int .i64 fA.h.pair, .int .i64 fA.h.pl, .slice qa mp qc, .int .i64 fA.h.fn, .int .i64 fA.h.fl, .slice ga 2 gc] 25) := ⟨_, rfl⟩
  rw [← hw, ← hg]
  have hb : Below W5.heap.size W5 W6a := by rw [hw]; exact (Below.refl _ _).alloc (Nat.le_refl _) _
  have HF := Lib.hid (show CBox W6a gf0 25 ⟨fA.h, .slice qa mp qc, .slice ga 2 gc⟩ by rw [hw, hg]; exact CBox.made W5 25 ⟨fA.h, .slice qa mp qc, .slice ga 2 gc⟩)
  replace HL := Lib.hid (HL.out.trans (hb.mono HL.out.size))
  replace HT := Lib.hid (HT.out.keep hb)
  replace HCV := Lib.hid (HCV.out.below hb)
  replace HC := Lib.hid (HC.out.keep hb)
  replace HFV := Lib.hid (HFV.out.below hb)
  clear hb hw hg
  have y0 : W6a.cell? ⟨gf0, 0, none⟩ = some (.int .i64 fA.h.f0) := HF.out.c0
  have y1 : W6a.cell? ⟨gf0, 1, none⟩ = some (.int .i64 fA.h.f1) := HF.out.c1
  have y2 : W6a.cell? ⟨gf0, 2, none⟩ = some (.int .i64 fA.h.f2) := HF.out.c2
  have y3 : W6a.cell? ⟨gf0, 3, none⟩ = some (.int .i64 fA.h.f3) := HF.out.c3
  have y4 : W6a.cell? ⟨gf0, 4, none⟩ = some (.int .i64 fA.h.f4) := HF.out.c4
  have y5 : W6a.cell? ⟨gf0, 5, none⟩ = some (.int .i64 fA.h.f5) := HF.out.c5
  have y6 : W6a.cell? ⟨gf0, 6, none⟩ = some (.int .i64 fA.h.pair) := HF.out.c6
  have y7 : W6a.cell? ⟨gf0, 7, none⟩ = some (.int .i64 fA.h.pl) := HF.out.c7
  have y8 : W6a.cell? ⟨gf0, 8, none⟩ = some (.slice qa mp qc) := HF.out.c8
  have y9 : W6a.cell? ⟨gf0, 9, none⟩ = some (.int .i64 fA.h.fn) := HF.out.c9
  have y10 : W6a.cell? ⟨gf0, 10, none⟩ = some (.int .i64 fA.h.fl) := HF.out.c10
  have y11 : W6a.cell? ⟨gf0, 11, none⟩ = some (.slice ga 2 gc) := HF.out.c11
  go_wp2_with fail
  refine (HCO.out W6a _ _ HT.out HFV.out HFV.out).mono ?_
  rintro e W6 ⟨⟨v, rfl, hv⟩, hb⟩
  obtain ⟨ua, uc, va, vc, rfl, _, hvf⟩ := hv.form
  obtain ⟨up, hup⟩ : ∃ n, n = fA.pairs.length := ⟨_, rfl⟩
  rw [HLF.out] at hvf
  rw [← hup, HLF.out] at hv ⊢
  have HGV := Lib.hid hv.cv
  have HGR := Lib.hid hvf
  clear y0 y1 y2 y3 y4 y5 y6 y7 y8 y9 y10 y11
  replace HL := Lib.hid (HL.out.trans (hb.mono HL.out.size))
  replace HT := Lib.hid (HT.out.keep hb)
  replace HCV := Lib.hid (HCV.out.below hb)
  replace HC := Lib.hid (HC.out.keep hb)
  replace HFV := Lib.hid (HFV.out.below hb)
  replace HF := Lib.hid (HF.out.keep hb)
  clear hv hb hup hvf
  go_upto_region 5 with fail
  obtain ⟨gg0, hg⟩ : ∃ x, x = W6.heap.size := ⟨_, rfl⟩
  obtain ⟨W7, hw⟩ : ∃ x : World, x = W6.alloc (.cells #[.int .i64 fA.h.f0, .int .i64 fA.h.f1, .int .i64 fA.h.f2, .int .i64 fA.h.f3, .int .i64 fA.h.f4, .int .i64 fA.h.f5, .int .i64 fA.h.pair, .int .i64 fA.h.pl, .slice ua up uc, .int .i64 fA.h.fn, .int .i64 fA.h.fl, .slice va 2 vc] 25) := ⟨_, rfl⟩
  rw [← hw, ← hg]
  have hb : Below W6.heap.size W6 W7 := by rw [hw]; exact (Below.refl _ _).alloc (Nat.le_refl _) _
  have HG := Lib.hid (show CBox W7 gg0 25 ⟨fA.h, .slice ua up uc, .slice va 2 vc⟩ by rw [hw, hg]; exact CBox.made W6 25 ⟨fA.h, .slice ua up uc, .slice va 2 vc⟩)
  replace HL := Lib.hid (HL.out.trans (hb.mono HL.out.size))
  replace HT := Lib.hid (HT.out.keep hb)
  replace HCV := Lib.hid (HCV.out.below hb)
  replace HC := Lib.hid (HC.out.keep hb)
  replace HFV := Lib.hid (HFV.out.below hb)
  replace HF := Lib.hid (HF.out.keep hb)
  replace HGV := Lib.hid (HGV.out.below hb)
  replace HGR := Lib.hid (CoSN.below HGR.out hb)
  clear hb hw hg
  have x0 : W7.cell? ⟨gc0, 0, none⟩ = some (.int .i64 cA.h.f0) := HC.out.c0
  have x1 : W7.cell? ⟨gc0, 1, none⟩ = some (.int .i64 cA.h.f1) := HC.out.c1
  have x2 : W7.cell? ⟨gc0, 2, none⟩ = some (.int .i64 cA.h.f2) := HC.out.c2
  have x3 : W7.cell? ⟨gc0, 3, none⟩ = some (.int .i64 cA.h.f3) := HC.out.c3
  have x4 : W7.cell? ⟨gc0, 4, none⟩ = some (.int .i64 cA.h.f4) := HC.out.c4
  have x5 : W7.cell? ⟨gc0, 5, none⟩ = some (.int .i64 cA.h.f5) := HC.out.c5
  have x6 : W7.cell? ⟨gc0, 6, none⟩ = some (.int .i64 cA.h.pair) := HC.out.c6
  have x7 : W7.cell? ⟨gc0, 7, none⟩ = some (.int .i64 cA.h.pl) := HC.out.c7
  have x8 : W7.cell? ⟨gc0, 8, none⟩ = some (.slice pa np pc) := HC.out.c8
  have x9 : W7.cell? ⟨gc0, 9, none⟩ = some (.int .i64 cA.h.fn) := HC.out.c9
  have x10 : W7.cell? ⟨gc0, 10, none⟩ = some (.int .i64 cA.h.fl) := HC.out.c10
  have x11 : W7.cell? ⟨gc0, 11, none⟩ = some (.slice fa nf fc) := HC.out.c11
  go_wp2_with fail
  refine (first_p cA 1 _ W7 (by omega) HT.out HCV.out).mono ?_
  rintro e a0 ⟨rfl, hb⟩
  rw [HFI.out.1]
  clear x0 x1 x2 x3 x4 x5 x6 x7 x8 x9 x10 x11
  replace HL := Lib.hid (HL.out.trans (hb.mono HL.out.size))
  replace HT := Lib.hid (HT.out.keep hb)
  replace HC := Lib.hid (HC.out.keep hb)
  replace HF := Lib.hid (HF.out.keep hb)
  replace HG := Lib.hid (HG.out.keep hb)
  replace HCV := Lib.hid (HCV.out.below hb)
  replace HFV := Lib.hid (HFV.out.below hb)
  replace HGV := Lib.hid (HGV.out.below hb)
  replace HGR := Lib.hid (CoSN.below HGR.out hb)
  clear hb
  have x0 : a0.cell? ⟨gc0, 0, none⟩ = some (.int .i64 cA.h.f0) := HC.out.c0
  have x1 : a0.cell? ⟨gc0, 1, none⟩ = some (.int .i64 cA.h.f1) := HC.out.c1
  have x2 : a0.cell? ⟨gc0, 2, none⟩ = some (.int .i64 cA.h.f2) := HC.out.c2
  have x3 : a0.cell? ⟨gc0, 3, none⟩ = some (.int .i64 cA.h.f3) := HC.out.c3
  have x4 : a0.cell? ⟨gc0, 4, none⟩ = some (.int .i64 cA.h.f4) := HC.out.c4
  have x5 : a0.cell? ⟨gc0, 5, none⟩ = some (.int .i64 cA.h.f5) := HC.out.c5
  have x6 : a0.cell? ⟨gc0, 6, none⟩ = some (.int .i64 cA.h.pair) := HC.out.c6
  have x7 : a0.cell? ⟨gc0, 7, none⟩ = some (.int .i64 cA.h.pl) := HC.out.c7
  have x8 : a0.cell? ⟨gc0, 8, none⟩ = some (.slice pa np pc) := HC.out.c8
  have x9 : a0.cell? ⟨gc0, 9, none⟩ = some (.int .i64 cA.h.fn) := HC.out.c9
  have x10 : a0.cell? ⟨gc0, 10, none⟩ = some (.int .i64 cA.h.fl) := HC.out.c10
  have x11 : a0.cell? ⟨gc0, 11, none⟩ = some (.slice fa nf fc) := HC.out.c11
  go_wp2_with fail
  refine (first_p cA 4 _ a0 (by omega) HT.out HCV.out).mono ?_
  rintro e a1 ⟨rfl, hb⟩
  rw [HFI.out.2.1]
  clear x0 x1 x2 x3 x4 x5 x6 x7 x8 x9 x10 x11
  replace HL := Lib.hid (HL.out.trans (hb.mono HL.out.size))
  replace HT := Lib.hid (HT.out.keep hb)
  replace HC := Lib.hid (HC.out.keep hb)
  replace HF := Lib.hid (HF.out.keep hb)
  replace HG := Lib.hid (HG.out.keep hb)
  replace HCV := Lib.hid (HCV.out.below hb)
  replace HFV := Lib.hid (HFV.out.below hb)
  replace HGV := Lib.hid (HGV.out.below hb)
  replace HGR := Lib.hid (CoSN.below HGR.out hb)
  clear hb
  have x0 : a1.cell? ⟨gc0, 0, none⟩ = some (.int .i64 cA.h.f0) := HC.out.c0
  have x1 : a1.cell? ⟨gc0, 1, none⟩ = some (.int .i64 cA.h.f1) := HC.out.c1
  have x2 : a1.cell? ⟨gc0, 2, none⟩ = some (.int .i64 cA.h.f2) := HC.out.c2
  have x3 : a1.cell? ⟨gc0, 3, none⟩ = some (.int .i64 cA.h.f3) := HC.out.c3
  have x4 : a1.cell? ⟨gc0, 4, none⟩ = some (.int .i64 cA.h.f4) := HC.out.c4
  have x5 : a1.cell? ⟨gc0, 5, none⟩ = some (.int .i64 cA.h.f5) := HC.out.c5
  have x6 : a1.cell? ⟨gc0, 6, none⟩ = some (.int .i64 cA.h.pair) := HC.out.c6
  have x7 : a1.cell? ⟨gc0, 7, none⟩ = some (.int .i64 cA.h.pl) := HC.out.c7
  have x8 : a1.cell? ⟨gc0, 8, none⟩ = some (.slice pa np pc) := HC.out.c8
  have x9 : a1.cell? ⟨gc0, 9, none⟩ = some (.int .i64 cA.h.fn) := HC.out.c9
  have x10 : a1.cell? ⟨gc0, 10, none⟩ = some (.int .i64 cA.h.fl) := HC.out.c10
  have x11 : a1.cell? ⟨gc0, 11, none⟩ = some (.slice fa nf fc) := HC.out.c11
  go_wp2_with fail
  refine (first_p cA 128 _ a1 (by omega) HT.out HCV.out).mono ?_
  rintro e a2 ⟨rfl, hb⟩
  rw [HFI.out.2.2]
  clear x0 x1 x2 x3 x4 x5 x6 x7 x8 x9 x10 x11
  replace HL := Lib.hid (HL.out.trans (hb.mono HL.out.size))
  replace HT := Lib.hid (HT.out.keep hb)
  replace HC := Lib.hid (HC.out.keep hb)
  replace HF := Lib.hid (HF.out.keep hb)
  replace HG := Lib.hid (HG.out.keep hb)
  replace HCV := Lib.hid (HCV.out.below hb)
  replace HFV := Lib.hid (HFV.out.below hb)
  replace HGV := Lib.hid (HGV.out.below hb)
  replace HGR := Lib.hid (CoSN.below HGR.out hb)
  clear hb
  have y0 : a2.cell? ⟨gf0, 0, none⟩ = some (.int .i64 fA.h.f0) := HF.out.c0
  have y1 : a2.cell? ⟨gf0, 1, none⟩ = some (.int .i64 fA.h.f1) := HF.out.c1
  have y2 : a2.cell? ⟨gf0, 2, none⟩ = some (.int .i64 fA.h.f2) := HF.out.c2
  have y3 : a2.cell? ⟨gf0, 3, none⟩ = some (.int .i64 fA.h.f3) := HF.out.c3
  have y4 : a2.cell? ⟨gf0, 4, none⟩ = some (.int .i64 fA.h.f4) := HF.out.c4
  have y5 : a2.cell? ⟨gf0, 5, none⟩ = some (.int .i64 fA.h.f5) := HF.out.c5
  have y6 : a2.cell? ⟨gf0, 6, none⟩ = some (.int .i64 fA.h.pair) := HF.out.c6
  have y7 : a2.cell? ⟨gf0, 7, none⟩ = some (.int .i64 fA.h.pl) := HF.out.c7
  have y8 : a2.cell? ⟨gf0, 8, none⟩ = some (.slice qa mp qc) := HF.out.c8
  have y9 : a2.cell? ⟨gf0, 9, none⟩ = some (.int .i64 fA.h.fn) := HF.out.c9
  have y10 : a2.cell? ⟨gf0, 10, none⟩ = some (.int .i64 fA.h.fl) := HF.out.c10
  have y11 : a2.cell? ⟨gf0, 11, none⟩ = some (.slice ga 2 gc) := HF.out.c11
  go_wp2_with fail
  refine (wraps_p fA 128 _ a2 HSH.out HFV.out).mono ?_
  rintro e b0 ⟨rfl, hb⟩
  rw [HWR.out]
  clear y0 y1 y2 y3 y4 y5 y6 y7 y8 y9 y10 y11
  replace HL := Lib.hid (HL.out.trans (hb.mono HL.out.size))
  replace HT := Lib.hid (HT.out.keep hb)
  replace HC := Lib.hid (HC.out.keep hb)
  replace HF := Lib.hid (HF.out.keep hb)
  replace HG := Lib.hid (HG.out.keep hb)
  replace HCV := Lib.hid (HCV.out.below hb)
  replace HFV := Lib.hid (HFV.out.below hb)
  replace HGV := Lib.hid (HGV.out.below hb)
  replace HGR := Lib.hid (CoSN.below HGR.out hb)
  clear hb
  obtain ⟨b, off, p1, c1, p2, c2, hva, hlt, ⟨e0, e1, e2, e3, e4, e5, e6, e7, e8, e9, e10, e11⟩, hv⟩ := CoSN.elem2 HGR.out (j := 1) (show 1 < fA.funs.length by rw [HLF.out]; decide) rfl
  have HVA := Lib.hid hva
  have HV1 := Lib.hid hv
  have z11 : b0.cell? ⟨gg0, 11, none⟩ = some (.slice (some ⟨b, off, none⟩) 2 vc) := by rw [← hva]; exact HG.out.c11
  clear hva hv hlt
  go_wp2_with fail
  refine (pass_p _ _ b0 HV1.out.cv).mono ?_
  rintro e b1 ⟨rfl, hb⟩
  rw [HPS.out]
  clear z11 HV1 e0 e1 e2 e3 e4 e5 e6 e7 e8 e9 e10 e11
  replace HL := Lib.hid (HL.out.trans (hb.mono HL.out.size))
  replace HT := Lib.hid (HT.out.keep hb)
  replace HC := Lib.hid (HC.out.keep hb)
  replace HF := Lib.hid (HF.out.keep hb)
  replace HG := Lib.hid (HG.out.keep hb)
  replace HCV := Lib.hid (HCV.out.below hb)
  replace HFV := Lib.hid (HFV.out.below hb)
  replace HGV := Lib.hid (HGV.out.below hb)
  replace HGR := Lib.hid (CoSN.below HGR.out hb)
  clear hb
  have z0 : b1.cell? ⟨gg0, 0, none⟩ = some (.int .i64 fA.h.f0) := HG.out.c0
  have z1 : b1.cell? ⟨gg0, 1, none⟩ = some (.int .i64 fA.h.f1) := HG.out.c1
  have z2 : b1.cell? ⟨gg0, 2, none⟩ = some (.int .i64 fA.h.f2) := HG.out.c2
  have z3 : b1.cell? ⟨gg0, 3, none⟩ = some (.int .i64 fA.h.f3) := HG.out.c3
  have z4 : b1.cell? ⟨gg0, 4, none⟩ = some (.int .i64 fA.h.f4) := HG.out.c4
  have z5 : b1.cell? ⟨gg0, 5, none⟩ = some (.int .i64 fA.h.f5) := HG.out.c5
  have z6 : b1.cell? ⟨gg0, 6, none⟩ = some (.int .i64 fA.h.pair) := HG.out.c6
  have z7 : b1.cell? ⟨gg0, 7, none⟩ = some (.int .i64 fA.h.pl) := HG.out.c7
  have z8 : b1.cell? ⟨gg0, 8, none⟩ = some (.slice ua up uc) := HG.out.c8
  have z9 : b1.cell? ⟨gg0, 9, none⟩ = some (.int .i64 fA.h.fn) := HG.out.c9
  have z10 : b1.cell? ⟨gg0, 10, none⟩ = some (.int .i64 fA.h.fl) := HG.out.c10
  have z11 : b1.cell? ⟨gg0, 11, none⟩ = some (.slice va 2 vc) := HG.out.c11
  go_wp2_with fail
  refine (height_p fA _ b1 HS9.out HGV.out).mono ?_
  rintro e b2 ⟨rfl, hb⟩
  rw [HHT.out]
  clear z0 z1 z2 z3 z4 z5 z6 z7 z8 z9 z10 z11
  replace HL := Lib.hid (HL.out.trans (hb.mono HL.out.size))
  replace HT := Lib.hid (HT.out.keep hb)
  replace HC := Lib.hid (HC.out.keep hb)
  replace HF := Lib.hid (HF.out.keep hb)
  replace HG := Lib.hid (HG.out.keep hb)
  replace HCV := Lib.hid (HCV.out.below hb)
  replace HFV := Lib.hid (HFV.out.below hb)
  replace HGV := Lib.hid (HGV.out.below hb)
  replace HGR := Lib.hid (CoSN.below HGR.out hb)
  clear hb
  have z0 : b2.cell? ⟨gg0, 0, none⟩ = some (.int .i64 fA.h.f0) := HG.out.c0
  have z1 : b2.cell? ⟨gg0, 1, none⟩ = some (.int .i64 fA.h.f1) := HG.out.c1
  have z2 : b2.cell? ⟨gg0, 2, none⟩ = some (.int .i64 fA.h.f2) := HG.out.c2
  have z3 : b2.cell? ⟨gg0, 3, none⟩ = some (.int .i64 fA.h.f3) := HG.out.c3
  have z4 : b2.cell? ⟨gg0, 4, none⟩ = some (.int .i64 fA.h.f4) := HG.out.c4
  have z5 : b2.cell? ⟨gg0, 5, none⟩ = some (.int .i64 fA.h.f5) := HG.out.c5
  have z6 : b2.cell? ⟨gg0, 6, none⟩ = some (.int .i64 fA.h.pair) := HG.out.c6
  have z7 : b2.cell? ⟨gg0, 7, none⟩ = some (.int .i64 fA.h.pl) := HG.out.c7
  have z8 : b2.cell? ⟨gg0, 8, none⟩ = some (.slice ua up uc) := HG.out.c8
  have z9 : b2.cell? ⟨gg0, 9, none⟩ = some (.int .i64 fA.h.fn) := HG.out.c9
  have z10 : b2.cell? ⟨gg0, 10, none⟩ = some (.int .i64 fA.h.fl) := HG.out.c10
  have z11 : b2.cell? ⟨gg0, 11, none⟩ = some (.slice va 2 vc) := HG.out.c11
  go_wp2_with fail
  refine (size_p fA _ b2 HS9.out HGV.out).mono ?_
  rintro e b3 ⟨rfl, hb⟩
  rw [HSZ.out]
  clear z0 z1 z2 z3 z4 z5 z6 z7 z8 z9 z10 z11
  replace HL := Lib.hid (HL.out.trans (hb.mono HL.out.size))
  replace HT := Lib.hid (HT.out.keep hb)
  replace HC := Lib.hid (HC.out.keep hb)
  replace HF := Lib.hid (HF.out.keep hb)
  replace HG := Lib.hid (HG.out.keep hb)
  replace HCV := Lib.hid (HCV.out.below hb)
  replace HFV := Lib.hid (HFV.out.below hb)
  replace HGV := Lib.hid (HGV.out.below hb)
  replace HGR := Lib.hid (CoSN.below HGR.out hb)
  clear hb
  have z0 : b3.cell? ⟨gg0, 0, none⟩ = some (.int .i64 fA.h.f0) := HG.out.c0
  have z1 : b3.cell? ⟨gg0, 1, none⟩ = some (.int .i64 fA.h.f1) := HG.out.c1
  have z2 : b3.cell? ⟨gg0, 2, none⟩ = some (.int .i64 fA.h.f2) := HG.out.c2
  have z3 : b3.cell? ⟨gg0, 3, none⟩ = some (.int .i64 fA.h.f3) := HG.out.c3
  have z4 : b3.cell? ⟨gg0, 4, none⟩ = some (.int .i64 fA.h.f4) := HG.out.c4
  have z5 : b3.cell? ⟨gg0, 5, none⟩ = some (.int .i64 fA.h.f5) := HG.out.c5
  have z6 : b3.cell? ⟨gg0, 6, none⟩ = some (.int .i64 fA.h.pair) := HG.out.c6
  have z7 : b3.cell? ⟨gg0, 7, none⟩ = some (.int .i64 fA.h.pl) := HG.out.c7
  have z8 : b3.cell? ⟨gg0, 8, none⟩ = some (.slice ua up uc) := HG.out.c8
  have z9 : b3.cell? ⟨gg0, 9, none⟩ = some (.int .i64 fA.h.fn) := HG.out.c9
  have z10 : b3.cell? ⟨gg0, 10, none⟩ = some (.int .i64 fA.h.fl) := HG.out.c10
  have z11 : b3.cell? ⟨gg0, 11, none⟩ = some (.slice va 2 vc) := HG.out.c11
  go_wp2_with fail
  refine (right_p fA _ b3 HS9.out HGV.out).mono ?_
  rintro e b4 ⟨rfl, hb⟩
  rw [HRT.out]
  clear z0 z1 z2 z3 z4 z5 z6 z7 z8 z9 z10 z11
  replace HL := Lib.hid (HL.out.trans (hb.mono HL.out.size))
  replace HT := Lib.hid (HT.out.keep hb)
  replace HC := Lib.hid (HC.out.keep hb)
  replace HF := Lib.hid (HF.out.keep hb)
  replace HG := Lib.hid (HG.out.keep hb)
  replace HCV := Lib.hid (HCV.out.below hb)
  replace HFV := Lib.hid (HFV.out.below hb)
  replace HGV := Lib.hid (HGV.out.below hb)
  replace HGR := Lib.hid (CoSN.below HGR.out hb)
  clear hb
  go_wp2
  refine bodyPost_ret (v := .bool true) ?_ ?_ ?_
  · simp [results, Tryd.results7, go_sem]
  · rfl
  · exact ⟨rfl, HL.out⟩
end Go.Proofs.YtlalnkabfigodaaDoor
