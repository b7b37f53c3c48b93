import Derived.Test.YtlalnkabfigodaaDoorCoFi
import Derived.Test.YtlalnkabfigodaaDoorCoC5
import Derived.Test.YtlalnkabfigodaaDoorCoF
import Derived.Test.YtlalnkabfigodaaDoorCoHx
import Derived.Test.YtlalnkabfigodaaDoorTyTw
namespace Go.Proofs.YtlalnkabfigodaaDoor
open Go.Lib (hid)
open Go.RowKit

abbrev awN : Ty := .mk false 1 0 [] 0 []
abbrev awF : Ty := .mk false 0 0 [] 1 [awN, awN]
theorem aw_first : firstC (goC 3 true awN 5) 1 = 0 ∧ firstC (goC 3 true awN 5) 4 = 5 ∧ firstC (goC 3 true awN 5) 128 = 5 := by decide +kernel
theorem aw_f : wrapsC (goC 3 false awF 6) 128 = true ∧ (goC 3 false awF 6).funs.length = 2 ∧ passC ((goC 3 false awF 6).funs.getD 1 co0) = true ∧ htC (goC 3 false awF 6) = 2 ∧ szC (goC 3 false awF 6) = 3 ∧ rightC (goC 3 false awF 6) = true := by decide +kernel
theorem awn_v (w : World) : TyV w (.agg #[.bool false, .int .i64 1, .int .i64 0, .slice none 0 0, .int .i64 0, .slice none 0 0]) awN := TyV.mk (.mkNil _ _) (.mkNil _ _)

set_option maxRecDepth 100000 in
set_option maxHeartbeats 16000000 in
theorem awake_p (w : World) (hT : TzW w) : Calls Tryd.prog 7 #[] w fun e w' => e = .returned (.bool true) ∧ Below w.heap.size w w' := by
 obtain ⟨cA, hcA⟩ : ∃ x, x = goC 3 true awN 5 := ⟨_, rfl⟩
 obtain ⟨fA, hfA⟩ : ∃ x, x = goC 3 false awF 6 := ⟨_, rfl⟩
 have HFI := hid (show firstC cA 1 = 0 ∧ firstC cA 4 = 5 ∧ firstC cA 128 = 5 by rw [hcA]; exact aw_first)
 obtain ⟨f1, f2, f3, f4, f5, f6⟩ := aw_f
 rw [← hfA] at f1 f2 f3 f4 f5 f6
 have hok : okC fA := ⟨25, f6⟩
 have hco : compF 4 fA fA = fA := comp_self 4 fA hok (by omega)
 have HWR := hid f1
 have HLF := hid f2
 have HPS := hid f3
 have HHT := hid (show ((htC fA : Nat) : Int) = 2 by rw [f4]; rfl)
 have HSZ := hid (show ((szC fA : Nat) : Int) = 3 by rw [f5]; rfl)
 have HRT := hid f6
 have HSH := hid hok.shape
 have HS9 := hid (show szC fA ≤ 900 by omega)
 have HTO := hid (fun (w1 : World) (vt : Value) (hv : TyV w1 vt awN) => top_p 3 awN 5 vt w1 (by decide) (by omega) (by decide) (by decide) hv)
 have HFR := hid (fun (w1 : World) (vt : Value) (hv : TyV w1 vt awF) => fromp_p 3 awF 6 vt w1 (by decide) (by omega) (by decide) (by decide) hv)
 have HCO := hid (fun (w1 : World) (u v : Value) (h : TzW w1) (hu : CoV w1 u fA) (hv : CoV w1 v fA) => compose_p 4 fA fA u v w1 hok hok (by omega) (by omega) (by rw [f5]; decide) h hu hv)
 rw [← hcA] at HTO
 rw [← hfA] at HFR
 rw [hco] at HCO
 have HT := hid hT
 clear hcA hfA f1 f2 f3 f4 f5 f6 hok hco hT
 go_enter Tryd.func7, Tryd.ntmps7
 go_upto_region 2 with fail
 obtain ⟨W1, hw⟩ : ∃ x : World, x = w.alloc (.cells #[.bool false, .int .i64 1, .int .i64 0, .slice none 0 0, .int .i64 0, .slice none 0 0] 47) := ⟨_, rfl⟩
 rw [← hw]
 have HN := hid (show BoxAt W1 w.heap.size false 1 0 (.slice none 0 0) 0 (.slice none 0 0) by rw [hw]; exact BoxAt.made _ _ _ _ _ _ _)
 have HL := hid (show Below w.heap.size w W1 by rw [hw]; exact bAl _ _)
 replace HT := hid (HT.out.keep HL.out)
 clear hw
 have n0 := HN.out.c0
 have n1 := HN.out.c1
 have n2 := HN.out.c2
 have n3 := HN.out.c3
 have n4 := HN.out.c4
 have n5 := HN.out.c5
 go_wp2_with fail
 refine (HTO.out W1 _ (awn_v W1)).mono ?_
 rintro e W2 ⟨⟨v, rfl, hv⟩, hb⟩
 obtain ⟨pa, pc, fa, fc, rfl, _, _⟩ := hv.form
 obtain ⟨np, hnp⟩ : ∃ n, n = cA.pairs.length := ⟨_, rfl⟩
 obtain ⟨nf, hnf⟩ : ∃ n, n = cA.funs.length := ⟨_, rfl⟩
 rw [← hnp, ← hnf] at hv ⊢
 have HCV := hid hv.cv
 replace HL := hid (HL.out.trans (hb.mono HL.out.size))
 replace HT := hid (HT.out.keep hb)
 replace HN := hid (HN.out.keep hb)
 clear hv hb hnp hnf n0 n1 n2 n3 n4 n5
 go_upto_region 3 with fail
 obtain ⟨gc0, hg⟩ : ∃ x, x = W2.heap.size := ⟨_, rfl⟩
 obtain ⟨W3, hw⟩ : ∃ x : World, x = W2.alloc (.cells #[.int .i64 cA.h.f0, .int .i64 cA.h.f1, .int .i64 cA.h.f2, .int .i64 cA.h.f3, .int .i64 cA.h.f4, .int .i64 cA.h.f5, .int .i64 cA.h.pair, .int .i64 cA.h.pl, .slice pa np pc, .int .i64 cA.h.fn, .int .i64 cA.h.fl, .slice fa nf fc] 25) := ⟨_, rfl⟩
 rw [← hw, ← hg]
 have hb : Below W2.heap.size W2 W3 := by rw [hw]; exact bAl _ _
 have HC := hid (show CBox W3 gc0 25 ⟨cA.h, .slice pa np pc, .slice fa nf fc⟩ by rw [hw, hg]; exact CBox.made W2 25 ⟨cA.h, .slice pa np pc, .slice fa nf fc⟩)
 replace HL := hid (HL.out.trans (hb.mono HL.out.size))
 replace HT := hid (HT.out.keep hb)
 replace HN := hid (HN.out.keep hb)
 replace HCV := hid (HCV.out.below hb)
 clear hb hw hg
 have n0 := HN.out.c0
 have n1 := HN.out.c1
 have n2 := HN.out.c2
 have n3 := HN.out.c3
 have n4 := HN.out.c4
 have n5 := HN.out.c5
 go_wp2_with fail
 obtain ⟨bt, hbt⟩ : ∃ x, x = W3.heap.size := ⟨_, rfl⟩
 obtain ⟨W4, hw⟩ : ∃ x : World, x = W3.alloc (.cells #[.bool false, .int .i64 1, .int .i64 0, .slice none 0 0, .int .i64 0, .slice none 0 0, .bool false, .int .i64 1, .int .i64 0, .slice none 0 0, .int .i64 0, .slice none 0 0] 47) := ⟨_, rfl⟩
 rw [← hw, ← hbt]
 have hb : Below W3.heap.size W3 W4 := by rw [hw]; exact bAl _ _
 have HB2 := hid (show W4.heap[bt]? = some (.cells #[.bool false, .int .i64 1, .int .i64 0, .slice none 0 0, .int .i64 0, .slice none 0 0, .bool false, .int .i64 1, .int .i64 0, .slice none 0 0, .int .i64 0, .slice none 0 0] 47 (0, 0)) by rw [hw, hbt]; exact heap_alloc_new _ _)
 have htv : TyV W4 (.agg #[.bool false, .int .i64 0, .int .i64 0, .slice none 0 0, .int .i64 1, .slice (some ⟨bt, 0, none⟩) 2 2]) awF := by
  refine TyV.mk (.mkNil _ _) ?_
  have h1 := TyS.two (N := fun _ => False) (w := W4) (b := bt) (cap := 2) (r := ⟨false, 1, 0, .slice none 0 0, 0, .slice none 0 0⟩) (s := ⟨false, 1, 0, .slice none 0 0, 0, .slice none 0 0⟩) (x := awN) (y := awN) ⟨(Array.getElem?_eq_some_iff.1 HB2.out).1, fun h => h⟩
   ⟨Lib.cell_of_heap HB2.out 0, Lib.cell_of_heap HB2.out 1, Lib.cell_of_heap HB2.out 2, Lib.cell_of_heap HB2.out 3, Lib.cell_of_heap HB2.out 4, Lib.cell_of_heap HB2.out 5⟩
   ⟨Lib.cell_of_heap HB2.out 6, Lib.cell_of_heap HB2.out 7, Lib.cell_of_heap HB2.out 8, Lib.cell_of_heap HB2.out 9, Lib.cell_of_heap HB2.out 10, Lib.cell_of_heap HB2.out 11⟩
   ⟨rfl, rfl, rfl, rfl, .mkNil _ _, .mkNil _ _⟩ ⟨rfl, rfl, rfl, rfl, .mkNil _ _, .mkNil _ _⟩
  exact h1.mono (fun _ h => h.1) (fun _ _ _ => rfl)
 refine (HFR.out W4 _ htv).mono ?_
 clear n0 n1 n2 n3 n4 n5
 replace HL := hid (HL.out.trans (hb.mono HL.out.size))
 replace HT := hid (HT.out.keep hb)
 replace HN := hid (HN.out.keep hb)
 replace HCV := hid (HCV.out.below hb)
 replace HC := hid (HC.out.keep hb)
 clear hb hw hbt htv HB2
 rintro e W5 ⟨⟨v, rfl, hv⟩, hb⟩
 obtain ⟨qa, qc, ga, gc, rfl, _, _⟩ := hv.form
 obtain ⟨mp, hmp⟩ : ∃ n, n = fA.pairs.length := ⟨_, rfl⟩
 rw [← hmp, HLF.out] at hv ⊢
 have HFV := hid hv.cv
 replace HL := hid (HL.out.trans (hb.mono HL.out.size))
 replace HT := hid (HT.out.keep hb)
 replace HN := hid (HN.out.keep hb)
 replace HCV := hid (HCV.out.below hb)
 replace HC := hid (HC.out.keep hb)
 clear hv hb hmp HN
 go_upto_region 4 with fail
 obtain ⟨gf0, hg⟩ : ∃ x, x = W5.heap.size := ⟨_, rfl⟩
 obtain ⟨W6a, hw⟩ : ∃ x : World, x = W5.alloc (.cells #[.int .i64 fA.h.f0, .int .i64 fA.h.f1, .int .i64 fA.h.f2, .int .i64 fA.h.f3, .int .i64 fA.h.f4, .int .i64 fA.h.f5, .int .i64 fA.h.pair, .int .i64 fA.h.pl, .slice qa mp qc, .int .i64 fA.h.fn, .int .i64 fA.h.fl, .slice ga 2 gc] 25) := ⟨_, rfl⟩
 rw [← hw, ← hg]
 have hb : Below W5.heap.size W5 W6a := by rw [hw]; exact bAl _ _
 have HF := hid (show CBox W6a gf0 25 ⟨fA.h, .slice qa mp qc, .slice ga 2 gc⟩ by rw [hw, hg]; exact CBox.made W5 25 ⟨fA.h, .slice qa mp qc, .slice ga 2 gc⟩)
 replace HL := hid (HL.out.trans (hb.mono HL.out.size))
 replace HT := hid (HT.out.keep hb)
 replace HCV := hid (HCV.out.below hb)
 replace HC := hid (HC.out.keep hb)
 replace HFV := hid (HFV.out.below hb)
 clear hb hw hg
 obtain ⟨y0, y1, y2, y3, y4, y5, y6, y7, y8, y9, y10, y11⟩ := HF.out.cs
 (try dsimp only at y0 y1 y2 y3 y4 y5 y6 y7 y8 y9 y10 y11)
 go_wp2_with fail
 refine (HCO.out W6a _ _ HT.out HFV.out HFV.out).mono ?_
 rintro e W6 ⟨⟨v, rfl, hv⟩, hb⟩
 obtain ⟨ua, uc, va, vc, rfl, _, hvf⟩ := hv.form
 obtain ⟨up, hup⟩ : ∃ n, n = fA.pairs.length := ⟨_, rfl⟩
 rw [HLF.out] at hvf
 rw [← hup, HLF.out] at hv ⊢
 have HGV := hid hv.cv
 have HGR := hid hvf
 clear y0 y1 y2 y3 y4 y5 y6 y7 y8 y9 y10 y11
 replace HL := hid (HL.out.trans (hb.mono HL.out.size))
 replace HT := hid (HT.out.keep hb)
 replace HCV := hid (HCV.out.below hb)
 replace HC := hid (HC.out.keep hb)
 replace HFV := hid (HFV.out.below hb)
 replace HF := hid (HF.out.keep hb)
 clear hv hb hup hvf
 go_upto_region 5 with fail
 obtain ⟨gg0, hg⟩ : ∃ x, x = W6.heap.size := ⟨_, rfl⟩
 obtain ⟨W7, hw⟩ : ∃ x : World, x = W6.alloc (.cells #[.int .i64 fA.h.f0, .int .i64 fA.h.f1, .int .i64 fA.h.f2, .int .i64 fA.h.f3, .int .i64 fA.h.f4, .int .i64 fA.h.f5, .int .i64 fA.h.pair, .int .i64 fA.h.pl, .slice ua up uc, .int .i64 fA.h.fn, .int .i64 fA.h.fl, .slice va 2 vc] 25) := ⟨_, rfl⟩
 rw [← hw, ← hg]
 have hb : Below W6.heap.size W6 W7 := by rw [hw]; exact bAl _ _
 have HG := hid (show CBox W7 gg0 25 ⟨fA.h, .slice ua up uc, .slice va 2 vc⟩ by rw [hw, hg]; exact CBox.made W6 25 ⟨fA.h, .slice ua up uc, .slice va 2 vc⟩)
 replace HL := hid (HL.out.trans (hb.mono HL.out.size))
 replace HT := hid (HT.out.keep hb)
 replace HCV := hid (HCV.out.below hb)
 replace HC := hid (HC.out.keep hb)
 replace HFV := hid (HFV.out.below hb)
 replace HF := hid (HF.out.keep hb)
 replace HGV := hid (HGV.out.below hb)
 replace HGR := hid (CoSN.below HGR.out hb)
 clear hb hw hg
 obtain ⟨x0, x1, x2, x3, x4, x5, x6, x7, x8, x9, x10, x11⟩ := HC.out.cs
 (try dsimp only at x0 x1 x2 x3 x4 x5 x6 x7 x8 x9 x10 x11)
 go_wp2_with fail
 refine (first_p cA 1 _ W7 (by omega) HT.out HCV.out).mono ?_
 rintro e a0 ⟨rfl, hb⟩
 rw [HFI.out.1]
 clear x0 x1 x2 x3 x4 x5 x6 x7 x8 x9 x10 x11
 replace HL := hid (HL.out.trans (hb.mono HL.out.size))
 replace HT := hid (HT.out.keep hb)
 replace HC := hid (HC.out.keep hb)
 replace HF := hid (HF.out.keep hb)
 replace HG := hid (HG.out.keep hb)
 replace HCV := hid (HCV.out.below hb)
 replace HFV := hid (HFV.out.below hb)
 replace HGV := hid (HGV.out.below hb)
 replace HGR := hid (CoSN.below HGR.out hb)
 clear hb
 obtain ⟨x0, x1, x2, x3, x4, x5, x6, x7, x8, x9, x10, x11⟩ := HC.out.cs
 (try dsimp only at x0 x1 x2 x3 x4 x5 x6 x7 x8 x9 x10 x11)
 go_wp2_with fail
 refine (first_p cA 4 _ a0 (by omega) HT.out HCV.out).mono ?_
 rintro e a1 ⟨rfl, hb⟩
 rw [HFI.out.2.1]
 clear x0 x1 x2 x3 x4 x5 x6 x7 x8 x9 x10 x11
 replace HL := hid (HL.out.trans (hb.mono HL.out.size))
 replace HT := hid (HT.out.keep hb)
 replace HC := hid (HC.out.keep hb)
 replace HF := hid (HF.out.keep hb)
 replace HG := hid (HG.out.keep hb)
 replace HCV := hid (HCV.out.below hb)
 replace HFV := hid (HFV.out.below hb)
 replace HGV := hid (HGV.out.below hb)
 replace HGR := hid (CoSN.below HGR.out hb)
 clear hb
 obtain ⟨x0, x1, x2, x3, x4, x5, x6, x7, x8, x9, x10, x11⟩ := HC.out.cs
 (try dsimp only at x0 x1 x2 x3 x4 x5 x6 x7 x8 x9 x10 x11)
 go_wp2_with fail
 refine (first_p cA 128 _ a1 (by omega) HT.out HCV.out).mono ?_
 rintro e a2 ⟨rfl, hb⟩
 rw [HFI.out.2.2]
 clear x0 x1 x2 x3 x4 x5 x6 x7 x8 x9 x10 x11
 replace HL := hid (HL.out.trans (hb.mono HL.out.size))
 replace HT := hid (HT.out.keep hb)
 replace HC := hid (HC.out.keep hb)
 replace HF := hid (HF.out.keep hb)
 replace HG := hid (HG.out.keep hb)
 replace HCV := hid (HCV.out.below hb)
 replace HFV := hid (HFV.out.below hb)
 replace HGV := hid (HGV.out.below hb)
 replace HGR := hid (CoSN.below HGR.out hb)
 clear hb
 obtain ⟨y0, y1, y2, y3, y4, y5, y6, y7, y8, y9, y10, y11⟩ := HF.out.cs
 (try dsimp only at y0 y1 y2 y3 y4 y5 y6 y7 y8 y9 y10 y11)
 go_wp2_with fail
 refine (wraps_p fA 128 _ a2 HSH.out HFV.out).mono ?_
 rintro e b0 ⟨rfl, hb⟩
 rw [HWR.out]
 clear y0 y1 y2 y3 y4 y5 y6 y7 y8 y9 y10 y11
 replace HL := hid (HL.out.trans (hb.mono HL.out.size))
 replace HT := hid (HT.out.keep hb)
 replace HC := hid (HC.out.keep hb)
 replace HF := hid (HF.out.keep hb)
 replace HG := hid (HG.out.keep hb)
 replace HCV := hid (HCV.out.below hb)
 replace HFV := hid (HFV.out.below hb)
 replace HGV := hid (HGV.out.below hb)
 replace HGR := hid (CoSN.below HGR.out hb)
 clear hb
 obtain ⟨b, off, p1, c1, p2, c2, hva, hlt, ⟨e0, e1, e2, e3, e4, e5, e6, e7, e8, e9, e10, e11⟩, hv⟩ := CoSN.elem2 HGR.out (j := 1) (show 1 < fA.funs.length by rw [HLF.out]; decide) rfl
 have HVA := hid hva
 have HV1 := hid hv
 have z11 : b0.cell? ⟨gg0, 11, none⟩ = some (.slice (some ⟨b, off, none⟩) 2 vc) := by rw [← hva]; exact HG.out.c11
 clear hva hv hlt
 go_wp2_with fail
 refine (pass_p _ _ b0 HV1.out.cv).mono ?_
 rintro e b1 ⟨rfl, hb⟩
 rw [HPS.out]
 clear z11 HV1 e0 e1 e2 e3 e4 e5 e6 e7 e8 e9 e10 e11
 replace HL := hid (HL.out.trans (hb.mono HL.out.size))
 replace HT := hid (HT.out.keep hb)
 replace HC := hid (HC.out.keep hb)
 replace HF := hid (HF.out.keep hb)
 replace HG := hid (HG.out.keep hb)
 replace HCV := hid (HCV.out.below hb)
 replace HFV := hid (HFV.out.below hb)
 replace HGV := hid (HGV.out.below hb)
 replace HGR := hid (CoSN.below HGR.out hb)
 clear hb
 obtain ⟨z0, z1, z2, z3, z4, z5, z6, z7, z8, z9, z10, z11⟩ := HG.out.cs
 (try dsimp only at z0 z1 z2 z3 z4 z5 z6 z7 z8 z9 z10 z11)
 go_wp2_with fail
 refine (height_p fA _ b1 HS9.out HGV.out).mono ?_
 rintro e b2 ⟨rfl, hb⟩
 rw [HHT.out]
 clear z0 z1 z2 z3 z4 z5 z6 z7 z8 z9 z10 z11
 replace HL := hid (HL.out.trans (hb.mono HL.out.size))
 replace HT := hid (HT.out.keep hb)
 replace HC := hid (HC.out.keep hb)
 replace HF := hid (HF.out.keep hb)
 replace HG := hid (HG.out.keep hb)
 replace HCV := hid (HCV.out.below hb)
 replace HFV := hid (HFV.out.below hb)
 replace HGV := hid (HGV.out.below hb)
 replace HGR := hid (CoSN.below HGR.out hb)
 clear hb
 obtain ⟨z0, z1, z2, z3, z4, z5, z6, z7, z8, z9, z10, z11⟩ := HG.out.cs
 (try dsimp only at z0 z1 z2 z3 z4 z5 z6 z7 z8 z9 z10 z11)
 go_wp2_with fail
 refine (size_p fA _ b2 HS9.out HGV.out).mono ?_
 rintro e b3 ⟨rfl, hb⟩
 rw [HSZ.out]
 clear z0 z1 z2 z3 z4 z5 z6 z7 z8 z9 z10 z11
 replace HL := hid (HL.out.trans (hb.mono HL.out.size))
 replace HT := hid (HT.out.keep hb)
 replace HC := hid (HC.out.keep hb)
 replace HF := hid (HF.out.keep hb)
 replace HG := hid (HG.out.keep hb)
 replace HCV := hid (HCV.out.below hb)
 replace HFV := hid (HFV.out.below hb)
 replace HGV := hid (HGV.out.below hb)
 replace HGR := hid (CoSN.below HGR.out hb)
 clear hb
 obtain ⟨z0, z1, z2, z3, z4, z5, z6, z7, z8, z9, z10, z11⟩ := HG.out.cs
 (try dsimp only at z0 z1 z2 z3 z4 z5 z6 z7 z8 z9 z10 z11)
 go_wp2_with fail
 refine (right_p fA _ b3 HS9.out HGV.out).mono ?_
 rintro e b4 ⟨rfl, hb⟩
 rw [HRT.out]
 clear z0 z1 z2 z3 z4 z5 z6 z7 z8 z9 z10 z11
 replace HL := hid (HL.out.trans (hb.mono HL.out.size))
 replace HT := hid (HT.out.keep hb)
 replace HC := hid (HC.out.keep hb)
 replace HF := hid (HF.out.keep hb)
 replace HG := hid (HG.out.keep hb)
 replace HCV := hid (HCV.out.below hb)
 replace HFV := hid (HFV.out.below hb)
 replace HGV := hid (HGV.out.below hb)
 replace HGR := hid (CoSN.below HGR.out hb)
 clear hb
 go_wp2
 refine bodyPost_ret (v := .bool true) ?_ ?_ ?_
 ·
  simp [results, Tryd.results7, go_sem]
 ·
  rfl
 ·
  exact ⟨rfl, HL.out⟩
end Go.Proofs.YtlalnkabfigodaaDoor
