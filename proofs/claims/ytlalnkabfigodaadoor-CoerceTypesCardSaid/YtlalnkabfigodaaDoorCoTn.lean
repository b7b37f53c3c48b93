import Derived.Test.YtlalnkabfigodaaDoorCoAw
import Derived.Test.YtlalnkabfigodaaDoorCoTs
import Derived.Test.YtlalnkabfigodaaDoorCoBl
import Derived.Test.YtlalnkabfigodaaDoorTyB
import Derived.Test.YtlalnkabfigodaaDoorTyC
namespace Go.Proofs.YtlalnkabfigodaaDoor
open Go.RowKit

instance (tag : Int) : Decidable (isTag tag) := by unfold isTag; infer_instance

set_option maxRecDepth 100000 in
set_option maxHeartbeats 32000000 in
theorem typesc_p (t : Ty) (l tag : Int) (v1 : Value) (w : World) (hrg : -9223372036854775808 ≤ tag ∧ tag ≤ 9223372036854775807) (hT : TzW w) (ht : TyV w v1 t) : Calls Tryd.prog 6 #[v1, .int .i64 l, .int .i64 tag] w fun e w' => e = .returned (.bool true) ∧ Below w.heap.size w w' := by
  obtain ⟨pa, pc, fa, fc, rfl, _, _⟩ := ht.form
  obtain ⟨np, hnp⟩ : ∃ n, n = t.pairs.length := ⟨_, rfl⟩
  obtain ⟨nf, hnf⟩ : ∃ n, n = t.funs.length := ⟨_, rfl⟩
  obtain ⟨al, hal⟩ : ∃ n, n = t.all := ⟨_, rfl⟩
  rw [← hnp, ← hnf, ← hal] at ht ⊢
  obtain ⟨W, hW⟩ : ∃ W, W = w.alloc (.cells #[.bool al, .int .i64 t.flat, .int .i64 t.pair, .slice pa np pc, .int .i64 t.fn, .slice fa nf fc] 47) := ⟨_, rfl⟩
  have HL := Lib.hid (show Below w.heap.size w W by rw [hW]; exact (Below.refl _ _).alloc (Nat.le_refl _) _)
  have HX := Lib.hid (show BoxAt W w.heap.size al t.flat t.pair (.slice pa np pc) t.fn (.slice fa nf fc) by rw [hW]; exact BoxAt.made _ _ _ _ _ _ _)
  have HTV := Lib.hid (ht.below HL.out)
  have HT := Lib.hid (hT.keep HL.out)
  have HAL := Lib.hid hal
  have HW := Lib.hid hW
  have HRG := Lib.hid hrg
  clear hW hnp hnf hal ht hT hrg
  go_enter Tryd.func6, Tryd.ntmps6
  go_upto_region 1 with fail
  rw [← HW.out]
  clear HW
  go_wp2_with fail
  refine (awake_p W HT.out).mono ?_
  rintro e w1 ⟨rfl, hb⟩
  replace HL := Lib.hid (HL.out.trans (hb.mono HL.out.size))
  replace HT := Lib.hid (HT.out.keep hb)
  replace HX := Lib.hid (HX.out.keep hb)
  replace HTV := Lib.hid (HTV.out.below hb)
  clear hb
  have x0 : w1.cell? ⟨w.heap.size, 0, none⟩ = some (.bool al) := HX.out.c0
  have x1 : w1.cell? ⟨w.heap.size, 1, none⟩ = some (.int .i64 t.flat) := HX.out.c1
  have x2 : w1.cell? ⟨w.heap.size, 2, none⟩ = some (.int .i64 t.pair) := HX.out.c2
  have x3 : w1.cell? ⟨w.heap.size, 3, none⟩ = some (.slice pa np pc) := HX.out.c3
  have x4 : w1.cell? ⟨w.heap.size, 4, none⟩ = some (.int .i64 t.fn) := HX.out.c4
  have x5 : w1.cell? ⟨w.heap.size, 5, none⟩ = some (.slice fa nf fc) := HX.out.c5
  go_wp2_with fail
  refine (light_any t _ w1 HTV.out).mono ?_
  rintro e w2 ⟨rfl, hb⟩
  clear x0 x1 x2 x3 x4 x5
  replace HL := Lib.hid (HL.out.trans (hb.mono HL.out.size))
  replace HT := Lib.hid (HT.out.keep hb)
  replace HX := Lib.hid (HX.out.keep hb)
  replace HTV := Lib.hid (HTV.out.below hb)
  clear hb
  obtain ⟨z1, hz1⟩ : ∃ z, z = lightT t := ⟨_, rfl⟩
  rw [← hz1]
  have Hz1 := Lib.hid hz1
  clear hz1
  cases z1 with
  | false =>
    go_wp2
    refine bodyPost_ret (v := .bool true) ?_ ?_ ?_
    · simp [results, Tryd.results6, go_sem]
    · rfl
    · exact ⟨rfl, HL.out⟩
  | true =>
  clear Hz1
  have x0 : w2.cell? ⟨w.heap.size, 0, none⟩ = some (.bool al) := HX.out.c0
  have x1 : w2.cell? ⟨w.heap.size, 1, none⟩ = some (.int .i64 t.flat) := HX.out.c1
  have x2 : w2.cell? ⟨w.heap.size, 2, none⟩ = some (.int .i64 t.pair) := HX.out.c2
  have x3 : w2.cell? ⟨w.heap.size, 3, none⟩ = some (.slice pa np pc) := HX.out.c3
  have x4 : w2.cell? ⟨w.heap.size, 4, none⟩ = some (.int .i64 t.fn) := HX.out.c4
  have x5 : w2.cell? ⟨w.heap.size, 5, none⟩ = some (.slice fa nf fc) := HX.out.c5
  go_wp2_with fail
  refine (right_any t _ w2 HTV.out).mono ?_
  rintro e w3 ⟨rfl, hb⟩
  clear x0 x1 x2 x3 x4 x5
  replace HL := Lib.hid (HL.out.trans (hb.mono HL.out.size))
  replace HT := Lib.hid (HT.out.keep hb)
  replace HX := Lib.hid (HX.out.keep hb)
  replace HTV := Lib.hid (HTV.out.below hb)
  clear hb
  obtain ⟨z2, hz2⟩ : ∃ z, z = rightT t := ⟨_, rfl⟩
  rw [← hz2]
  have Hz2 := Lib.hid hz2
  clear hz2
  cases z2 with
  | false =>
    go_wp2
    refine bodyPost_ret (v := .bool true) ?_ ?_ ?_
    · simp [results, Tryd.results6, go_sem]
    · rfl
    · exact ⟨rfl, HL.out⟩
  | true =>
  have HRT := Lib.hid (right7 Hz2.out.symm)
  clear Hz2
  by_cases h1 : l < 1
  case pos =>
    have bq1 : decide (l < 1) = true := decide_eq_true h1
    go_wp2
    refine bodyPost_ret (v := .bool true) ?_ ?_ ?_
    · simp [results, Tryd.results6, go_sem]
    · rfl
    · exact ⟨rfl, HL.out⟩
  have bq1 : decide (l < 1) = false := decide_eq_false h1
  by_cases h2 : 99 < l
  case pos =>
    have bq2 : decide (99 < l) = true := decide_eq_true h2
    go_wp2
    refine bodyPost_ret (v := .bool true) ?_ ?_ ?_
    · simp [results, Tryd.results6, go_sem]
    · rfl
    · exact ⟨rfl, HL.out⟩
  have bq2 : decide (99 < l) = false := decide_eq_false h2
  obtain ⟨cT, hcT⟩ : ∃ x, x = goC 20 true t l := ⟨_, rfl⟩
  obtain ⟨dT, hdT⟩ : ∃ x, x = goC 20 false t l := ⟨_, rfl⟩
  have HTO := Lib.hid (fun (w1 : World) (vt : Value) (hv : TyV w1 vt t) => top_p 20 t l vt w1 HRT.out.2 (by omega) (by have := HRT.out; omega) (by omega) hv)
  have HFR := Lib.hid (fun (w1 : World) (vt : Value) (hv : TyV w1 vt t) => fromp_p 20 t l vt w1 HRT.out.2 (by omega) (by have := HRT.out; omega) (by omega) hv)
  have ok1 := goC_ok (l := l) (by omega) (by omega) 20 true t HRT.out.2
  have ok2 := goC_ok (l := l) (by omega) (by omega) 20 false t HRT.out.2
  have hs1 := goC_size 20 true t l HRT.out.2
  have hs2 := goC_size 20 false t l HRT.out.2
  have hb1 := goC_blames l 20 true t
  have hb2 := goC_blames l 20 false t
  have hf1 := goC_first 19 t l tag
  have hf2 := goC_first0 20 t l tag
  rw [show goC (19 + 1) true t l = goC 20 true t l from rfl] at hf1
  rw [← hcT] at HTO ok1 hs1 hb1 hf1
  rw [← hdT] at HFR ok2 hs2 hb2 hf2
  have HR1 := Lib.hid (show rightC cT = true from (rightC_iff cT).2 ⟨ok1.1, by omega⟩)
  have HR2 := Lib.hid (show rightC dT = true from (rightC_iff dT).2 ⟨ok2.1, by omega⟩)
  have HS1 := Lib.hid (show szC cT ≤ 900 by have := HRT.out; omega)
  have HS2 := Lib.hid (show szC dT ≤ 900 by have := HRT.out; omega)
  have HB1 := Lib.hid hb1
  have HB2 := Lib.hid hb2
  have HF1 := Lib.hid hf1
  have HF2 := Lib.hid hf2
  have HLL := Lib.hid (show 1 ≤ l by omega)
  clear hcT hdT ok1 ok2 hs1 hs2 hb1 hb2 hf1 hf2
  have x0 : w3.cell? ⟨w.heap.size, 0, none⟩ = some (.bool al) := HX.out.c0
  have x1 : w3.cell? ⟨w.heap.size, 1, none⟩ = some (.int .i64 t.flat) := HX.out.c1
  have x2 : w3.cell? ⟨w.heap.size, 2, none⟩ = some (.int .i64 t.pair) := HX.out.c2
  have x3 : w3.cell? ⟨w.heap.size, 3, none⟩ = some (.slice pa np pc) := HX.out.c3
  have x4 : w3.cell? ⟨w.heap.size, 4, none⟩ = some (.int .i64 t.fn) := HX.out.c4
  have x5 : w3.cell? ⟨w.heap.size, 5, none⟩ = some (.slice fa nf fc) := HX.out.c5
  go_wp2_with fail
  refine (HTO.out w3 _ HTV.out).mono ?_
  rintro e w4 ⟨⟨v, rfl, hv⟩, hb⟩
  clear x0 x1 x2 x3 x4 x5
  replace HL := Lib.hid (HL.out.trans (hb.mono HL.out.size))
  replace HT := Lib.hid (HT.out.keep hb)
  replace HX := Lib.hid (HX.out.keep hb)
  replace HTV := Lib.hid (HTV.out.below hb)
  obtain ⟨a1, a2, a3, a4, rfl, _, _⟩ := hv.form
  obtain ⟨an, hn⟩ : ∃ n, n = cT.pairs.length := ⟨_, rfl⟩
  obtain ⟨am, hm⟩ : ∃ n, n = cT.funs.length := ⟨_, rfl⟩
  rw [← hn, ← hm] at hv ⊢
  have HCV := Lib.hid hv.cv
  clear hv hn hm
  clear hb
  go_upto_region 6 with fail
  obtain ⟨g1, hg⟩ : ∃ x, x = w4.heap.size := ⟨_, rfl⟩
  obtain ⟨w5, hw⟩ : ∃ x : World, x = w4.alloc (.cells #[.int .i64 cT.h.f0, .int .i64 cT.h.f1, .int .i64 cT.h.f2, .int .i64 cT.h.f3, .int .i64 cT.h.f4, .int .i64 cT.h.f5, .int .i64 cT.h.pair, .int .i64 cT.h.pl, .slice a1 an a2, .int .i64 cT.h.fn, .int .i64 cT.h.fl, .slice a3 am a4] 25) := ⟨_, rfl⟩
  rw [← hw, ← hg]
  have hb : Below w4.heap.size w4 w5 := by rw [hw]; exact (Below.refl _ _).alloc (Nat.le_refl _) _
  have HG := Lib.hid (show CBox w5 g1 25 ⟨cT.h, .slice a1 an a2, .slice a3 am a4⟩ by rw [hw, hg]; exact CBox.made w4 25 ⟨cT.h, .slice a1 an a2, .slice a3 am a4⟩)
  replace HL := Lib.hid (HL.out.trans (hb.mono HL.out.size))
  replace HT := Lib.hid (HT.out.keep hb)
  replace HX := Lib.hid (HX.out.keep hb)
  replace HTV := Lib.hid (HTV.out.below hb)
  replace HCV := Lib.hid (HCV.out.below hb)
  clear hb hw hg
  have x0 : w5.cell? ⟨w.heap.size, 0, none⟩ = some (.bool al) := HX.out.c0
  have x1 : w5.cell? ⟨w.heap.size, 1, none⟩ = some (.int .i64 t.flat) := HX.out.c1
  have x2 : w5.cell? ⟨w.heap.size, 2, none⟩ = some (.int .i64 t.pair) := HX.out.c2
  have x3 : w5.cell? ⟨w.heap.size, 3, none⟩ = some (.slice pa np pc) := HX.out.c3
  have x4 : w5.cell? ⟨w.heap.size, 4, none⟩ = some (.int .i64 t.fn) := HX.out.c4
  have x5 : w5.cell? ⟨w.heap.size, 5, none⟩ = some (.slice fa nf fc) := HX.out.c5
  go_wp2_with fail
  refine (HFR.out w5 _ HTV.out).mono ?_
  rintro e w6 ⟨⟨v, rfl, hv⟩, hb⟩
  clear x0 x1 x2 x3 x4 x5
  replace HL := Lib.hid (HL.out.trans (hb.mono HL.out.size))
  replace HT := Lib.hid (HT.out.keep hb)
  replace HX := Lib.hid (HX.out.keep hb)
  replace HTV := Lib.hid (HTV.out.below hb)
  replace HCV := Lib.hid (HCV.out.below hb)
  replace HG := Lib.hid (HG.out.keep hb)
  obtain ⟨b1, b2, b3, b4, rfl, _, _⟩ := hv.form
  obtain ⟨bn, hn⟩ : ∃ n, n = dT.pairs.length := ⟨_, rfl⟩
  obtain ⟨bm, hm⟩ : ∃ n, n = dT.funs.length := ⟨_, rfl⟩
  rw [← hn, ← hm] at hv ⊢
  have HDV := Lib.hid hv.cv
  clear hv hn hm
  clear hb
  go_upto_region 7 with fail
  obtain ⟨g2, hg⟩ : ∃ x, x = w6.heap.size := ⟨_, rfl⟩
  obtain ⟨w7, hw⟩ : ∃ x : World, x = w6.alloc (.cells #[.int .i64 dT.h.f0, .int .i64 dT.h.f1, .int .i64 dT.h.f2, .int .i64 dT.h.f3, .int .i64 dT.h.f4, .int .i64 dT.h.f5, .int .i64 dT.h.pair, .int .i64 dT.h.pl, .slice b1 bn b2, .int .i64 dT.h.fn, .int .i64 dT.h.fl, .slice b3 bm b4] 25) := ⟨_, rfl⟩
  rw [← hw, ← hg]
  have hb : Below w6.heap.size w6 w7 := by rw [hw]; exact (Below.refl _ _).alloc (Nat.le_refl _) _
  have HH := Lib.hid (show CBox w7 g2 25 ⟨dT.h, .slice b1 bn b2, .slice b3 bm b4⟩ by rw [hw, hg]; exact CBox.made w6 25 ⟨dT.h, .slice b1 bn b2, .slice b3 bm b4⟩)
  replace HL := Lib.hid (HL.out.trans (hb.mono HL.out.size))
  replace HT := Lib.hid (HT.out.keep hb)
  replace HX := Lib.hid (HX.out.keep hb)
  replace HTV := Lib.hid (HTV.out.below hb)
  replace HCV := Lib.hid (HCV.out.below hb)
  replace HG := Lib.hid (HG.out.keep hb)
  replace HDV := Lib.hid (HDV.out.below hb)
  clear hb hw hg
  have y0 : w7.cell? ⟨g1, 0, none⟩ = some (.int .i64 cT.h.f0) := HG.out.c0
  have y1 : w7.cell? ⟨g1, 1, none⟩ = some (.int .i64 cT.h.f1) := HG.out.c1
  have y2 : w7.cell? ⟨g1, 2, none⟩ = some (.int .i64 cT.h.f2) := HG.out.c2
  have y3 : w7.cell? ⟨g1, 3, none⟩ = some (.int .i64 cT.h.f3) := HG.out.c3
  have y4 : w7.cell? ⟨g1, 4, none⟩ = some (.int .i64 cT.h.f4) := HG.out.c4
  have y5 : w7.cell? ⟨g1, 5, none⟩ = some (.int .i64 cT.h.f5) := HG.out.c5
  have y6 : w7.cell? ⟨g1, 6, none⟩ = some (.int .i64 cT.h.pair) := HG.out.c6
  have y7 : w7.cell? ⟨g1, 7, none⟩ = some (.int .i64 cT.h.pl) := HG.out.c7
  have y8 : w7.cell? ⟨g1, 8, none⟩ = some (.slice a1 an a2) := HG.out.c8
  have y9 : w7.cell? ⟨g1, 9, none⟩ = some (.int .i64 cT.h.fn) := HG.out.c9
  have y10 : w7.cell? ⟨g1, 10, none⟩ = some (.int .i64 cT.h.fl) := HG.out.c10
  have y11 : w7.cell? ⟨g1, 11, none⟩ = some (.slice a3 am a4) := HG.out.c11
  go_wp2_with fail
  refine (blames_go l (szC cT) cT _ w7 (Nat.le_refl _) HCV.out).mono ?_
  rintro e w8 ⟨rfl, hb⟩
  clear y0 y1 y2 y3 y4 y5 y6 y7 y8 y9 y10 y11
  replace HL := Lib.hid (HL.out.trans (hb.mono HL.out.size))
  replace HT := Lib.hid (HT.out.keep hb)
  replace HX := Lib.hid (HX.out.keep hb)
  replace HTV := Lib.hid (HTV.out.below hb)
  replace HCV := Lib.hid (HCV.out.below hb)
  replace HG := Lib.hid (HG.out.keep hb)
  replace HDV := Lib.hid (HDV.out.below hb)
  replace HH := Lib.hid (HH.out.keep hb)
  rw [HB1.out]
  clear hb
  have z0 : w8.cell? ⟨g2, 0, none⟩ = some (.int .i64 dT.h.f0) := HH.out.c0
  have z1 : w8.cell? ⟨g2, 1, none⟩ = some (.int .i64 dT.h.f1) := HH.out.c1
  have z2 : w8.cell? ⟨g2, 2, none⟩ = some (.int .i64 dT.h.f2) := HH.out.c2
  have z3 : w8.cell? ⟨g2, 3, none⟩ = some (.int .i64 dT.h.f3) := HH.out.c3
  have z4 : w8.cell? ⟨g2, 4, none⟩ = some (.int .i64 dT.h.f4) := HH.out.c4
  have z5 : w8.cell? ⟨g2, 5, none⟩ = some (.int .i64 dT.h.f5) := HH.out.c5
  have z6 : w8.cell? ⟨g2, 6, none⟩ = some (.int .i64 dT.h.pair) := HH.out.c6
  have z7 : w8.cell? ⟨g2, 7, none⟩ = some (.int .i64 dT.h.pl) := HH.out.c7
  have z8 : w8.cell? ⟨g2, 8, none⟩ = some (.slice b1 bn b2) := HH.out.c8
  have z9 : w8.cell? ⟨g2, 9, none⟩ = some (.int .i64 dT.h.fn) := HH.out.c9
  have z10 : w8.cell? ⟨g2, 10, none⟩ = some (.int .i64 dT.h.fl) := HH.out.c10
  have z11 : w8.cell? ⟨g2, 11, none⟩ = some (.slice b3 bm b4) := HH.out.c11
  go_wp2_with fail
  refine (blames_go l (szC dT) dT _ w8 (Nat.le_refl _) HDV.out).mono ?_
  rintro e w9 ⟨rfl, hb⟩
  clear z0 z1 z2 z3 z4 z5 z6 z7 z8 z9 z10 z11
  replace HL := Lib.hid (HL.out.trans (hb.mono HL.out.size))
  replace HT := Lib.hid (HT.out.keep hb)
  replace HX := Lib.hid (HX.out.keep hb)
  replace HTV := Lib.hid (HTV.out.below hb)
  replace HCV := Lib.hid (HCV.out.below hb)
  replace HG := Lib.hid (HG.out.keep hb)
  replace HDV := Lib.hid (HDV.out.below hb)
  replace HH := Lib.hid (HH.out.keep hb)
  rw [HB2.out]
  clear hb
  clear bq1 bq2 h1 h2
  go_upto_region 9 with fail
  go_cut [74] from 45 to 74 (fun v wx => ∃ z : Bool, v = .bool z ∧ Hid (z = decide (¬ isTag tag)) ∧ w9 = wx)
  case first =>
    by_cases h1 : tag = 1
    case pos =>
      have c1 : (tag != 1) = false := by simp [h1]
      have HK := Lib.hid (show isTag tag by unfold isTag; omega)
      clear h1
      go_wp2
      go_meet
      case rel => exact ⟨false, rfl, Lib.hid (decide_eq_false (fun h => h HK.out)).symm, rfl⟩
    have c1 : (tag != 1) = true := bne_iff_ne.2 h1
    by_cases h2 : tag = 2
    case pos =>
      have c2 : (tag != 2) = false := by simp [h2]
      have HK := Lib.hid (show isTag tag by unfold isTag; omega)
      clear h2
      go_wp2
      go_meet
      case rel => exact ⟨false, rfl, Lib.hid (decide_eq_false (fun h => h HK.out)).symm, rfl⟩
    have c2 : (tag != 2) = true := bne_iff_ne.2 h2
    by_cases h4 : tag = 4
    case pos =>
      have c4 : (tag != 4) = false := by simp [h4]
      have HK := Lib.hid (show isTag tag by unfold isTag; omega)
      clear h4
      go_wp2
      go_meet
      case rel => exact ⟨false, rfl, Lib.hid (decide_eq_false (fun h => h HK.out)).symm, rfl⟩
    have c4 : (tag != 4) = true := bne_iff_ne.2 h4
    by_cases h8 : tag = 8
    case pos =>
      have c8 : (tag != 8) = false := by simp [h8]
      have HK := Lib.hid (show isTag tag by unfold isTag; omega)
      clear h8
      go_wp2
      go_meet
      case rel => exact ⟨false, rfl, Lib.hid (decide_eq_false (fun h => h HK.out)).symm, rfl⟩
    have c8 : (tag != 8) = true := bne_iff_ne.2 h8
    by_cases h16 : tag = 16
    case pos =>
      have c16 : (tag != 16) = false := by simp [h16]
      have HK := Lib.hid (show isTag tag by unfold isTag; omega)
      clear h16
      go_wp2
      go_meet
      case rel => exact ⟨false, rfl, Lib.hid (decide_eq_false (fun h => h HK.out)).symm, rfl⟩
    have c16 : (tag != 16) = true := bne_iff_ne.2 h16
    by_cases h32 : tag = 32
    case pos =>
      have c32 : (tag != 32) = false := by simp [h32]
      have HK := Lib.hid (show isTag tag by unfold isTag; omega)
      clear h32
      go_wp2
      go_meet
      case rel => exact ⟨false, rfl, Lib.hid (decide_eq_false (fun h => h HK.out)).symm, rfl⟩
    have c32 : (tag != 32) = true := bne_iff_ne.2 h32
    by_cases h64 : tag = 64
    case pos =>
      have c64 : (tag != 64) = false := by simp [h64]
      have HK := Lib.hid (show isTag tag by unfold isTag; omega)
      clear h64
      go_wp2
      go_meet
      case rel => exact ⟨false, rfl, Lib.hid (decide_eq_false (fun h => h HK.out)).symm, rfl⟩
    have c64 : (tag != 64) = true := bne_iff_ne.2 h64
    by_cases h128 : tag = 128
    case pos =>
      have c128 : (tag != 128) = false := by simp [h128]
      have HK := Lib.hid (show isTag tag by unfold isTag; omega)
      clear h128
      go_wp2
      go_meet
      case rel => exact ⟨false, rfl, Lib.hid (decide_eq_false (fun h => h HK.out)).symm, rfl⟩
    have c128 : (tag != 128) = true := bne_iff_ne.2 h128
    have HK := Lib.hid (show ¬ isTag tag by unfold isTag; omega)
    clear h1 h2 h4 h8 h16 h32 h64 h128
    go_wp2
    go_meet
    case rel => exact ⟨true, rfl, Lib.hid (decide_eq_true HK.out).symm, rfl⟩
  case rest =>
    obtain ⟨zn, rfl, HZN, rfl⟩ := hcut
    cases zn with
    | true =>
      have HNT := Lib.hid (show ¬ isTag tag from of_decide_eq_true HZN.out.symm)
      clear HZN
      have y0 : w9.cell? ⟨g1, 0, none⟩ = some (.int .i64 cT.h.f0) := HG.out.c0
      have y1 : w9.cell? ⟨g1, 1, none⟩ = some (.int .i64 cT.h.f1) := HG.out.c1
      have y2 : w9.cell? ⟨g1, 2, none⟩ = some (.int .i64 cT.h.f2) := HG.out.c2
      have y3 : w9.cell? ⟨g1, 3, none⟩ = some (.int .i64 cT.h.f3) := HG.out.c3
      have y4 : w9.cell? ⟨g1, 4, none⟩ = some (.int .i64 cT.h.f4) := HG.out.c4
      have y5 : w9.cell? ⟨g1, 5, none⟩ = some (.int .i64 cT.h.f5) := HG.out.c5
      have y6 : w9.cell? ⟨g1, 6, none⟩ = some (.int .i64 cT.h.pair) := HG.out.c6
      have y7 : w9.cell? ⟨g1, 7, none⟩ = some (.int .i64 cT.h.pl) := HG.out.c7
      have y8 : w9.cell? ⟨g1, 8, none⟩ = some (.slice a1 an a2) := HG.out.c8
      have y9 : w9.cell? ⟨g1, 9, none⟩ = some (.int .i64 cT.h.fn) := HG.out.c9
      have y10 : w9.cell? ⟨g1, 10, none⟩ = some (.int .i64 cT.h.fl) := HG.out.c10
      have y11 : w9.cell? ⟨g1, 11, none⟩ = some (.slice a3 am a4) := HG.out.c11
      go_wp2_with fail
      refine (first_p cT tag _ w9 HRG.out HT.out HCV.out).mono ?_
      rintro e w61 ⟨rfl, hb⟩
      clear y0 y1 y2 y3 y4 y5 y6 y7 y8 y9 y10 y11
      replace HL := Lib.hid (HL.out.trans (hb.mono HL.out.size))
      replace HT := Lib.hid (HT.out.keep hb)
      replace HX := Lib.hid (HX.out.keep hb)
      replace HTV := Lib.hid (HTV.out.below hb)
      replace HCV := Lib.hid (HCV.out.below hb)
      replace HG := Lib.hid (HG.out.keep hb)
      replace HDV := Lib.hid (HDV.out.below hb)
      replace HH := Lib.hid (HH.out.keep hb)
      rw [first_none cT HNT.out]
      clear hb
      go_wp2
      refine bodyPost_ret (v := .bool true) ?_ ?_ ?_
      · simp [results, Tryd.results6, go_sem]
      · rfl
      · exact ⟨rfl, HL.out⟩
    | false =>
      have HIT := Lib.hid (show isTag tag from Decidable.not_not.1 (of_decide_eq_false HZN.out.symm))
      clear HZN
      go_upto_region 11 with fail
      go_cut [13] from 88 to 118 (fun v wx => ∃ z : Bool, v = .bool z ∧ Hid (z = (firstC cT tag == 0)) ∧ w9 = wx)
      case first =>
        have x0 : w9.cell? ⟨w.heap.size, 0, none⟩ = some (.bool al) := HX.out.c0
        have x1 : w9.cell? ⟨w.heap.size, 1, none⟩ = some (.int .i64 t.flat) := HX.out.c1
        have x2 : w9.cell? ⟨w.heap.size, 2, none⟩ = some (.int .i64 t.pair) := HX.out.c2
        have x4 : w9.cell? ⟨w.heap.size, 4, none⟩ = some (.int .i64 t.fn) := HX.out.c4
        have HF := HF1
        have HFLT := Lib.hid (show 0 ≤ t.flat ∧ t.flat ≤ 63 by have h := HRT.out.2; rw [show (20 : Nat) = 19 + 1 from rfl, deepF_succ, Bool.and_eq_true, Bool.and_eq_true] at h; have hh := h.1.1; unfold headOK at hh; rw [decide_eq_true_eq] at hh; exact ⟨hh.1, hh.2.1⟩)
        have HLZ := Lib.hid (show (l == 0) = false from beq_false_of_ne (by have := HLL.out; omega))
        cases al with
        | true =>
          have HZ0 := Lib.hid (show firstC cT tag = 0 by rw [HF.out, if_pos HAL.out.symm])
          go_wp2
          go_meet
          case rel => exact ⟨true, rfl, Lib.hid (by rw [HZ0.out]; rfl), rfl⟩
        | false =>
          have HNA := Lib.hid (show ¬ t.all = true by rw [← HAL.out]; decide)
          have HIT2 := Lib.hid HIT.out
          have hit := HIT.out
          unfold isTag at hit
          clear HIT HIT2
          obtain rfl | rfl | rfl | rfl | rfl | rfl | rfl | rfl := hit
          · by_cases hb : (t.flat.tdiv 1).tmod 2 = 0
            case pos =>
              have c1 : (bits .and .i64 t.flat 1 == 0) = true := by rw [show (((1 : Int))) = ((2 ^ 0 : Nat) : Int) from rfl, bit_two HFLT.out 0 (by omega)]; exact decide_eq_true hb
              have c2 : (bits .and .i64 t.flat 1 != 0) = false := by rw [bne, c1]; rfl
              have HEB := (show bitF t.flat 1 l = l by unfold bitF; exact if_pos hb)
              have HZ0 := Lib.hid (show firstC cT 1 = l by rw [HF.out, if_neg HNA.out]; simp [HEB])
              clear HEB
              clear hb
              go_wp2
              go_meet
              case rel => exact ⟨false, rfl, Lib.hid (by rw [HZ0.out]; exact HLZ.out.symm), rfl⟩
            have c1 : (bits .and .i64 t.flat 1 == 0) = false := by rw [show (((1 : Int))) = ((2 ^ 0 : Nat) : Int) from rfl, bit_two HFLT.out 0 (by omega)]; exact decide_eq_false hb
            have c2 : (bits .and .i64 t.flat 1 != 0) = true := by rw [bne, c1]; rfl
            have HEB := (show bitF t.flat 1 l = 0 by unfold bitF; exact if_neg hb)
            have HZ0 := Lib.hid (show firstC cT 1 = 0 by rw [HF.out, if_neg HNA.out]; simp [HEB])
            clear HEB
            clear hb
            go_wp2
            go_meet
            case rel => exact ⟨true, rfl, Lib.hid (by rw [HZ0.out]; rfl), rfl⟩
          · by_cases hb : (t.flat.tdiv 2).tmod 2 = 0
            case pos =>
              have c1 : (bits .and .i64 t.flat 2 == 0) = true := by rw [show (((2 : Int))) = ((2 ^ 1 : Nat) : Int) from rfl, bit_two HFLT.out 1 (by omega)]; exact decide_eq_true hb
              have c2 : (bits .and .i64 t.flat 2 != 0) = false := by rw [bne, c1]; rfl
              have HEB := (show bitF t.flat 2 l = l by unfold bitF; exact if_pos hb)
              have HZ0 := Lib.hid (show firstC cT 2 = l by rw [HF.out, if_neg HNA.out]; simp [HEB])
              clear HEB
              clear hb
              go_wp2
              go_meet
              case rel => exact ⟨false, rfl, Lib.hid (by rw [HZ0.out]; exact HLZ.out.symm), rfl⟩
            have c1 : (bits .and .i64 t.flat 2 == 0) = false := by rw [show (((2 : Int))) = ((2 ^ 1 : Nat) : Int) from rfl, bit_two HFLT.out 1 (by omega)]; exact decide_eq_false hb
            have c2 : (bits .and .i64 t.flat 2 != 0) = true := by rw [bne, c1]; rfl
            have HEB := (show bitF t.flat 2 l = 0 by unfold bitF; exact if_neg hb)
            have HZ0 := Lib.hid (show firstC cT 2 = 0 by rw [HF.out, if_neg HNA.out]; simp [HEB])
            clear HEB
            clear hb
            go_wp2
            go_meet
            case rel => exact ⟨true, rfl, Lib.hid (by rw [HZ0.out]; rfl), rfl⟩
          · by_cases hb : (t.flat.tdiv 4).tmod 2 = 0
            case pos =>
              have c1 : (bits .and .i64 t.flat 4 == 0) = true := by rw [show (((4 : Int))) = ((2 ^ 2 : Nat) : Int) from rfl, bit_two HFLT.out 2 (by omega)]; exact decide_eq_true hb
              have c2 : (bits .and .i64 t.flat 4 != 0) = false := by rw [bne, c1]; rfl
              have HEB := (show bitF t.flat 4 l = l by unfold bitF; exact if_pos hb)
              have HZ0 := Lib.hid (show firstC cT 4 = l by rw [HF.out, if_neg HNA.out]; simp [HEB])
              clear HEB
              clear hb
              go_wp2
              go_meet
              case rel => exact ⟨false, rfl, Lib.hid (by rw [HZ0.out]; exact HLZ.out.symm), rfl⟩
            have c1 : (bits .and .i64 t.flat 4 == 0) = false := by rw [show (((4 : Int))) = ((2 ^ 2 : Nat) : Int) from rfl, bit_two HFLT.out 2 (by omega)]; exact decide_eq_false hb
            have c2 : (bits .and .i64 t.flat 4 != 0) = true := by rw [bne, c1]; rfl
            have HEB := (show bitF t.flat 4 l = 0 by unfold bitF; exact if_neg hb)
            have HZ0 := Lib.hid (show firstC cT 4 = 0 by rw [HF.out, if_neg HNA.out]; simp [HEB])
            clear HEB
            clear hb
            go_wp2
            go_meet
            case rel => exact ⟨true, rfl, Lib.hid (by rw [HZ0.out]; rfl), rfl⟩
          · by_cases hb : (t.flat.tdiv 8).tmod 2 = 0
            case pos =>
              have c1 : (bits .and .i64 t.flat 8 == 0) = true := by rw [show (((8 : Int))) = ((2 ^ 3 : Nat) : Int) from rfl, bit_two HFLT.out 3 (by omega)]; exact decide_eq_true hb
              have c2 : (bits .and .i64 t.flat 8 != 0) = false := by rw [bne, c1]; rfl
              have HEB := (show bitF t.flat 8 l = l by unfold bitF; exact if_pos hb)
              have HZ0 := Lib.hid (show firstC cT 8 = l by rw [HF.out, if_neg HNA.out]; simp [HEB])
              clear HEB
              clear hb
              go_wp2
              go_meet
              case rel => exact ⟨false, rfl, Lib.hid (by rw [HZ0.out]; exact HLZ.out.symm), rfl⟩
            have c1 : (bits .and .i64 t.flat 8 == 0) = false := by rw [show (((8 : Int))) = ((2 ^ 3 : Nat) : Int) from rfl, bit_two HFLT.out 3 (by omega)]; exact decide_eq_false hb
            have c2 : (bits .and .i64 t.flat 8 != 0) = true := by rw [bne, c1]; rfl
            have HEB := (show bitF t.flat 8 l = 0 by unfold bitF; exact if_neg hb)
            have HZ0 := Lib.hid (show firstC cT 8 = 0 by rw [HF.out, if_neg HNA.out]; simp [HEB])
            clear HEB
            clear hb
            go_wp2
            go_meet
            case rel => exact ⟨true, rfl, Lib.hid (by rw [HZ0.out]; rfl), rfl⟩
          · by_cases hb : (t.flat.tdiv 16).tmod 2 = 0
            case pos =>
              have c1 : (bits .and .i64 t.flat 16 == 0) = true := by rw [show (((16 : Int))) = ((2 ^ 4 : Nat) : Int) from rfl, bit_two HFLT.out 4 (by omega)]; exact decide_eq_true hb
              have c2 : (bits .and .i64 t.flat 16 != 0) = false := by rw [bne, c1]; rfl
              have HEB := (show bitF t.flat 16 l = l by unfold bitF; exact if_pos hb)
              have HZ0 := Lib.hid (show firstC cT 16 = l by rw [HF.out, if_neg HNA.out]; simp [HEB])
              clear HEB
              clear hb
              go_wp2
              go_meet
              case rel => exact ⟨false, rfl, Lib.hid (by rw [HZ0.out]; exact HLZ.out.symm), rfl⟩
            have c1 : (bits .and .i64 t.flat 16 == 0) = false := by rw [show (((16 : Int))) = ((2 ^ 4 : Nat) : Int) from rfl, bit_two HFLT.out 4 (by omega)]; exact decide_eq_false hb
            have c2 : (bits .and .i64 t.flat 16 != 0) = true := by rw [bne, c1]; rfl
            have HEB := (show bitF t.flat 16 l = 0 by unfold bitF; exact if_neg hb)
            have HZ0 := Lib.hid (show firstC cT 16 = 0 by rw [HF.out, if_neg HNA.out]; simp [HEB])
            clear HEB
            clear hb
            go_wp2
            go_meet
            case rel => exact ⟨true, rfl, Lib.hid (by rw [HZ0.out]; rfl), rfl⟩
          · by_cases hb : (t.flat.tdiv 32).tmod 2 = 0
            case pos =>
              have c1 : (bits .and .i64 t.flat 32 == 0) = true := by rw [show (((32 : Int))) = ((2 ^ 5 : Nat) : Int) from rfl, bit_two HFLT.out 5 (by omega)]; exact decide_eq_true hb
              have c2 : (bits .and .i64 t.flat 32 != 0) = false := by rw [bne, c1]; rfl
              have HEB := (show bitF t.flat 32 l = l by unfold bitF; exact if_pos hb)
              have HZ0 := Lib.hid (show firstC cT 32 = l by rw [HF.out, if_neg HNA.out]; simp [HEB])
              clear HEB
              clear hb
              go_wp2
              go_meet
              case rel => exact ⟨false, rfl, Lib.hid (by rw [HZ0.out]; exact HLZ.out.symm), rfl⟩
            have c1 : (bits .and .i64 t.flat 32 == 0) = false := by rw [show (((32 : Int))) = ((2 ^ 5 : Nat) : Int) from rfl, bit_two HFLT.out 5 (by omega)]; exact decide_eq_false hb
            have c2 : (bits .and .i64 t.flat 32 != 0) = true := by rw [bne, c1]; rfl
            have HEB := (show bitF t.flat 32 l = 0 by unfold bitF; exact if_neg hb)
            have HZ0 := Lib.hid (show firstC cT 32 = 0 by rw [HF.out, if_neg HNA.out]; simp [HEB])
            clear HEB
            clear hb
            go_wp2
            go_meet
            case rel => exact ⟨true, rfl, Lib.hid (by rw [HZ0.out]; rfl), rfl⟩
          · by_cases hb : t.pair = 0
            case pos =>
              have c2 : (t.pair != 0) = false := by simp [hb]
              have HZ0 := Lib.hid (show firstC cT 64 = l by rw [HF.out, if_neg HNA.out]; simp [hb])
              clear hb
              go_wp2
              go_meet
              case rel => exact ⟨false, rfl, Lib.hid (by rw [HZ0.out]; exact HLZ.out.symm), rfl⟩
            have c2 : (t.pair != 0) = true := bne_iff_ne.2 hb
            have HZ0 := Lib.hid (show firstC cT 64 = 0 by rw [HF.out, if_neg HNA.out]; simp [hb])
            clear hb
            go_wp2
            go_meet
            case rel => exact ⟨true, rfl, Lib.hid (by rw [HZ0.out]; rfl), rfl⟩
          · by_cases hb : t.fn = 0
            case pos =>
              have c2 : (t.fn != 0) = false := by simp [hb]
              have HZ0 := Lib.hid (show firstC cT 128 = l by rw [HF.out, if_neg HNA.out]; simp [hb])
              clear hb
              go_wp2
              go_meet
              case rel => exact ⟨false, rfl, Lib.hid (by rw [HZ0.out]; exact HLZ.out.symm), rfl⟩
            have c2 : (t.fn != 0) = true := bne_iff_ne.2 hb
            have HZ0 := Lib.hid (show firstC cT 128 = 0 by rw [HF.out, if_neg HNA.out]; simp [hb])
            clear hb
            go_wp2
            go_meet
            case rel => exact ⟨true, rfl, Lib.hid (by rw [HZ0.out]; rfl), rfl⟩
      case rest =>
        obtain ⟨z9, rfl, HZ9, rfl⟩ := hcut
        have b9 := HZ9.out.symm
        have y0 : w9.cell? ⟨g1, 0, none⟩ = some (.int .i64 cT.h.f0) := HG.out.c0
        have y1 : w9.cell? ⟨g1, 1, none⟩ = some (.int .i64 cT.h.f1) := HG.out.c1
        have y2 : w9.cell? ⟨g1, 2, none⟩ = some (.int .i64 cT.h.f2) := HG.out.c2
        have y3 : w9.cell? ⟨g1, 3, none⟩ = some (.int .i64 cT.h.f3) := HG.out.c3
        have y4 : w9.cell? ⟨g1, 4, none⟩ = some (.int .i64 cT.h.f4) := HG.out.c4
        have y5 : w9.cell? ⟨g1, 5, none⟩ = some (.int .i64 cT.h.f5) := HG.out.c5
        have y6 : w9.cell? ⟨g1, 6, none⟩ = some (.int .i64 cT.h.pair) := HG.out.c6
        have y7 : w9.cell? ⟨g1, 7, none⟩ = some (.int .i64 cT.h.pl) := HG.out.c7
        have y8 : w9.cell? ⟨g1, 8, none⟩ = some (.slice a1 an a2) := HG.out.c8
        have y9 : w9.cell? ⟨g1, 9, none⟩ = some (.int .i64 cT.h.fn) := HG.out.c9
        have y10 : w9.cell? ⟨g1, 10, none⟩ = some (.int .i64 cT.h.fl) := HG.out.c10
        have y11 : w9.cell? ⟨g1, 11, none⟩ = some (.slice a3 am a4) := HG.out.c11
        go_wp2_with fail
        refine (right_p cT _ w9 HS1.out HCV.out).mono ?_
        rintro e w71 ⟨rfl, hb⟩
        clear y0 y1 y2 y3 y4 y5 y6 y7 y8 y9 y10 y11
        replace HL := Lib.hid (HL.out.trans (hb.mono HL.out.size))
        replace HT := Lib.hid (HT.out.keep hb)
        replace HX := Lib.hid (HX.out.keep hb)
        replace HTV := Lib.hid (HTV.out.below hb)
        replace HCV := Lib.hid (HCV.out.below hb)
        replace HG := Lib.hid (HG.out.keep hb)
        replace HDV := Lib.hid (HDV.out.below hb)
        replace HH := Lib.hid (HH.out.keep hb)
        rw [HR1.out]
        clear hb
        have z0 : w71.cell? ⟨g2, 0, none⟩ = some (.int .i64 dT.h.f0) := HH.out.c0
        have z1 : w71.cell? ⟨g2, 1, none⟩ = some (.int .i64 dT.h.f1) := HH.out.c1
        have z2 : w71.cell? ⟨g2, 2, none⟩ = some (.int .i64 dT.h.f2) := HH.out.c2
        have z3 : w71.cell? ⟨g2, 3, none⟩ = some (.int .i64 dT.h.f3) := HH.out.c3
        have z4 : w71.cell? ⟨g2, 4, none⟩ = some (.int .i64 dT.h.f4) := HH.out.c4
        have z5 : w71.cell? ⟨g2, 5, none⟩ = some (.int .i64 dT.h.f5) := HH.out.c5
        have z6 : w71.cell? ⟨g2, 6, none⟩ = some (.int .i64 dT.h.pair) := HH.out.c6
        have z7 : w71.cell? ⟨g2, 7, none⟩ = some (.int .i64 dT.h.pl) := HH.out.c7
        have z8 : w71.cell? ⟨g2, 8, none⟩ = some (.slice b1 bn b2) := HH.out.c8
        have z9 : w71.cell? ⟨g2, 9, none⟩ = some (.int .i64 dT.h.fn) := HH.out.c9
        have z10 : w71.cell? ⟨g2, 10, none⟩ = some (.int .i64 dT.h.fl) := HH.out.c10
        have z11 : w71.cell? ⟨g2, 11, none⟩ = some (.slice b3 bm b4) := HH.out.c11
        go_wp2_with fail
        refine (right_p dT _ w71 HS2.out HDV.out).mono ?_
        rintro e w72 ⟨rfl, hb⟩
        clear z0 z1 z2 z3 z4 z5 z6 z7 z8 z9 z10 z11
        replace HL := Lib.hid (HL.out.trans (hb.mono HL.out.size))
        replace HT := Lib.hid (HT.out.keep hb)
        replace HX := Lib.hid (HX.out.keep hb)
        replace HTV := Lib.hid (HTV.out.below hb)
        replace HCV := Lib.hid (HCV.out.below hb)
        replace HG := Lib.hid (HG.out.keep hb)
        replace HDV := Lib.hid (HDV.out.below hb)
        replace HH := Lib.hid (HH.out.keep hb)
        rw [HR2.out]
        clear hb
        have y0 : w72.cell? ⟨g1, 0, none⟩ = some (.int .i64 cT.h.f0) := HG.out.c0
        have y1 : w72.cell? ⟨g1, 1, none⟩ = some (.int .i64 cT.h.f1) := HG.out.c1
        have y2 : w72.cell? ⟨g1, 2, none⟩ = some (.int .i64 cT.h.f2) := HG.out.c2
        have y3 : w72.cell? ⟨g1, 3, none⟩ = some (.int .i64 cT.h.f3) := HG.out.c3
        have y4 : w72.cell? ⟨g1, 4, none⟩ = some (.int .i64 cT.h.f4) := HG.out.c4
        have y5 : w72.cell? ⟨g1, 5, none⟩ = some (.int .i64 cT.h.f5) := HG.out.c5
        have y6 : w72.cell? ⟨g1, 6, none⟩ = some (.int .i64 cT.h.pair) := HG.out.c6
        have y7 : w72.cell? ⟨g1, 7, none⟩ = some (.int .i64 cT.h.pl) := HG.out.c7
        have y8 : w72.cell? ⟨g1, 8, none⟩ = some (.slice a1 an a2) := HG.out.c8
        have y9 : w72.cell? ⟨g1, 9, none⟩ = some (.int .i64 cT.h.fn) := HG.out.c9
        have y10 : w72.cell? ⟨g1, 10, none⟩ = some (.int .i64 cT.h.fl) := HG.out.c10
        have y11 : w72.cell? ⟨g1, 11, none⟩ = some (.slice a3 am a4) := HG.out.c11
        go_wp2_with fail
        refine (first_p cT tag _ w72 HRG.out HT.out HCV.out).mono ?_
        rintro e w73 ⟨rfl, hb⟩
        clear y0 y1 y2 y3 y4 y5 y6 y7 y8 y9 y10 y11
        replace HL := Lib.hid (HL.out.trans (hb.mono HL.out.size))
        replace HT := Lib.hid (HT.out.keep hb)
        replace HX := Lib.hid (HX.out.keep hb)
        replace HTV := Lib.hid (HTV.out.below hb)
        replace HCV := Lib.hid (HCV.out.below hb)
        replace HG := Lib.hid (HG.out.keep hb)
        replace HDV := Lib.hid (HDV.out.below hb)
        replace HH := Lib.hid (HH.out.keep hb)
        clear hb
        have z0 : w73.cell? ⟨g2, 0, none⟩ = some (.int .i64 dT.h.f0) := HH.out.c0
        have z1 : w73.cell? ⟨g2, 1, none⟩ = some (.int .i64 dT.h.f1) := HH.out.c1
        have z2 : w73.cell? ⟨g2, 2, none⟩ = some (.int .i64 dT.h.f2) := HH.out.c2
        have z3 : w73.cell? ⟨g2, 3, none⟩ = some (.int .i64 dT.h.f3) := HH.out.c3
        have z4 : w73.cell? ⟨g2, 4, none⟩ = some (.int .i64 dT.h.f4) := HH.out.c4
        have z5 : w73.cell? ⟨g2, 5, none⟩ = some (.int .i64 dT.h.f5) := HH.out.c5
        have z6 : w73.cell? ⟨g2, 6, none⟩ = some (.int .i64 dT.h.pair) := HH.out.c6
        have z7 : w73.cell? ⟨g2, 7, none⟩ = some (.int .i64 dT.h.pl) := HH.out.c7
        have z8 : w73.cell? ⟨g2, 8, none⟩ = some (.slice b1 bn b2) := HH.out.c8
        have z9 : w73.cell? ⟨g2, 9, none⟩ = some (.int .i64 dT.h.fn) := HH.out.c9
        have z10 : w73.cell? ⟨g2, 10, none⟩ = some (.int .i64 dT.h.fl) := HH.out.c10
        have z11 : w73.cell? ⟨g2, 11, none⟩ = some (.slice b3 bm b4) := HH.out.c11
        go_wp2_with fail
        refine (first_p dT tag _ w73 HRG.out HT.out HDV.out).mono ?_
        rintro e w74 ⟨rfl, hb⟩
        clear z0 z1 z2 z3 z4 z5 z6 z7 z8 z9 z10 z11
        replace HL := Lib.hid (HL.out.trans (hb.mono HL.out.size))
        replace HT := Lib.hid (HT.out.keep hb)
        replace HX := Lib.hid (HX.out.keep hb)
        replace HTV := Lib.hid (HTV.out.below hb)
        replace HCV := Lib.hid (HCV.out.below hb)
        replace HG := Lib.hid (HG.out.keep hb)
        replace HDV := Lib.hid (HDV.out.below hb)
        replace HH := Lib.hid (HH.out.keep hb)
        rw [HF2.out]
        clear hb
        go_wp2
        refine bodyPost_ret (v := .bool true) ?_ ?_ ?_
        · simp [results, Tryd.results6, go_sem]
        · rfl
        · exact ⟨rfl, HL.out⟩
end Go.Proofs.YtlalnkabfigodaaDoor
