import Derived.Test.YtlalnkabfigodaaDoorCoAw
import Derived.Test.YtlalnkabfigodaaDoorCoPx
namespace Go.Proofs.YtlalnkabfigodaaDoor
open Go.RowKit

set_option maxRecDepth 100000 in
set_option maxHeartbeats 32000000 in
theorem often_p (c : Co) (n : Int) (v1 : Value) (w : World) (hT : TzW w) (hc : CoV w v1 c) : Calls Tryd.prog 5 #[v1, .int .i64 n] w fun e w' => e = .returned (.bool true) ∧ Below w.heap.size w w' := by
  obtain ⟨pa, pc, fa, fc, rfl, _, _⟩ := hc.form
  obtain ⟨np, hnp⟩ : ∃ n, n = c.pairs.length := ⟨_, rfl⟩
  obtain ⟨nf, hnf⟩ : ∃ n, n = c.funs.length := ⟨_, rfl⟩
  rw [← hnp, ← hnf] at hc ⊢
  obtain ⟨W, hW⟩ : ∃ W, W = w.alloc (.cells #[.int .i64 c.h.f0, .int .i64 c.h.f1, .int .i64 c.h.f2, .int .i64 c.h.f3, .int .i64 c.h.f4, .int .i64 c.h.f5, .int .i64 c.h.pair, .int .i64 c.h.pl, .slice pa np pc, .int .i64 c.h.fn, .int .i64 c.h.fl, .slice fa nf fc] 25) := ⟨_, rfl⟩
  have HL := Lib.hid (show Below w.heap.size w W by rw [hW]; exact (Below.refl _ _).alloc (Nat.le_refl _) _)
  have HX := Lib.hid (show CBox W w.heap.size 25 ⟨c.h, .slice pa np pc, .slice fa nf fc⟩ by rw [hW]; exact CBox.made w 25 ⟨c.h, .slice pa np pc, .slice fa nf fc⟩)
  have HCV := Lib.hid (hc.below HL.out)
  have HT := Lib.hid (hT.keep HL.out)
  have HPN := Lib.hid hnp
  have HFN := Lib.hid hnf
  have HW := Lib.hid hW
  clear hW hnp hnf hc hT
  go_enter Tryd.func5, Tryd.ntmps5
  go_upto_region 1 with fail
  rw [← HW.out]
  clear HW
  go_wp2_with fail
  refine (awake_p W HT.out).mono ?_
  rintro e w1 ⟨rfl, hb⟩
  replace HL := Lib.hid (HL.out.trans (hb.mono HL.out.size))
  replace HT := Lib.hid (HT.out.keep hb)
  replace HX := Lib.hid (HX.out.keep hb)
  replace HCV := Lib.hid (HCV.out.below hb)
  clear hb
  have x0 : w1.cell? ⟨w.heap.size, 0, none⟩ = some (.int .i64 c.h.f0) := HX.out.c0
  have x1 : w1.cell? ⟨w.heap.size, 1, none⟩ = some (.int .i64 c.h.f1) := HX.out.c1
  have x2 : w1.cell? ⟨w.heap.size, 2, none⟩ = some (.int .i64 c.h.f2) := HX.out.c2
  have x3 : w1.cell? ⟨w.heap.size, 3, none⟩ = some (.int .i64 c.h.f3) := HX.out.c3
  have x4 : w1.cell? ⟨w.heap.size, 4, none⟩ = some (.int .i64 c.h.f4) := HX.out.c4
  have x5 : w1.cell? ⟨w.heap.size, 5, none⟩ = some (.int .i64 c.h.f5) := HX.out.c5
  have x6 : w1.cell? ⟨w.heap.size, 6, none⟩ = some (.int .i64 c.h.pair) := HX.out.c6
  have x7 : w1.cell? ⟨w.heap.size, 7, none⟩ = some (.int .i64 c.h.pl) := HX.out.c7
  have x8 : w1.cell? ⟨w.heap.size, 8, none⟩ = some (.slice pa np pc) := HX.out.c8
  have x9 : w1.cell? ⟨w.heap.size, 9, none⟩ = some (.int .i64 c.h.fn) := HX.out.c9
  have x10 : w1.cell? ⟨w.heap.size, 10, none⟩ = some (.int .i64 c.h.fl) := HX.out.c10
  have x11 : w1.cell? ⟨w.heap.size, 11, none⟩ = some (.slice fa nf fc) := HX.out.c11
  go_wp2_with fail
  refine (light7_go c _ w1 HCV.out).mono ?_
  rintro e w2 ⟨rfl, hb⟩
  clear x0 x1 x2 x3 x4 x5 x6 x7 x8 x9 x10 x11
  replace HL := Lib.hid (HL.out.trans (hb.mono HL.out.size))
  replace HT := Lib.hid (HT.out.keep hb)
  replace HX := Lib.hid (HX.out.keep hb)
  replace HCV := Lib.hid (HCV.out.below hb)
  clear hb
  obtain ⟨z1, hz1⟩ : ∃ z, z = lit7 c := ⟨_, rfl⟩
  rw [← hz1]
  have Hz1 := Lib.hid hz1
  clear hz1
  cases z1 with
  | false =>
    go_wp2
    refine bodyPost_ret (v := .bool true) ?_ ?_ ?_
    · simp [results, Tryd.results5, go_sem]
    · rfl
    · exact ⟨rfl, HL.out⟩
  | true =>
  have HSC := Lib.hid (lit_sz Hz1.out.symm)
  clear Hz1
  have x0 : w2.cell? ⟨w.heap.size, 0, none⟩ = some (.int .i64 c.h.f0) := HX.out.c0
  have x1 : w2.cell? ⟨w.heap.size, 1, none⟩ = some (.int .i64 c.h.f1) := HX.out.c1
  have x2 : w2.cell? ⟨w.heap.size, 2, none⟩ = some (.int .i64 c.h.f2) := HX.out.c2
  have x3 : w2.cell? ⟨w.heap.size, 3, none⟩ = some (.int .i64 c.h.f3) := HX.out.c3
  have x4 : w2.cell? ⟨w.heap.size, 4, none⟩ = some (.int .i64 c.h.f4) := HX.out.c4
  have x5 : w2.cell? ⟨w.heap.size, 5, none⟩ = some (.int .i64 c.h.f5) := HX.out.c5
  have x6 : w2.cell? ⟨w.heap.size, 6, none⟩ = some (.int .i64 c.h.pair) := HX.out.c6
  have x7 : w2.cell? ⟨w.heap.size, 7, none⟩ = some (.int .i64 c.h.pl) := HX.out.c7
  have x8 : w2.cell? ⟨w.heap.size, 8, none⟩ = some (.slice pa np pc) := HX.out.c8
  have x9 : w2.cell? ⟨w.heap.size, 9, none⟩ = some (.int .i64 c.h.fn) := HX.out.c9
  have x10 : w2.cell? ⟨w.heap.size, 10, none⟩ = some (.int .i64 c.h.fl) := HX.out.c10
  have x11 : w2.cell? ⟨w.heap.size, 11, none⟩ = some (.slice fa nf fc) := HX.out.c11
  go_wp2_with fail
  refine (right_p c _ w2 (by have := HSC.out; omega) HCV.out).mono ?_
  rintro e w3 ⟨rfl, hb⟩
  clear x0 x1 x2 x3 x4 x5 x6 x7 x8 x9 x10 x11
  replace HL := Lib.hid (HL.out.trans (hb.mono HL.out.size))
  replace HT := Lib.hid (HT.out.keep hb)
  replace HX := Lib.hid (HX.out.keep hb)
  replace HCV := Lib.hid (HCV.out.below hb)
  clear hb
  obtain ⟨z2, hz2⟩ : ∃ z, z = rightC c := ⟨_, rfl⟩
  rw [← hz2]
  have Hz2 := Lib.hid hz2
  clear hz2
  cases z2 with
  | false =>
    go_wp2
    refine bodyPost_ret (v := .bool true) ?_ ?_ ?_
    · simp [results, Tryd.results5, go_sem]
    · rfl
    · exact ⟨rfl, HL.out⟩
  | true =>
  have HOK := Lib.hid (show okC c from ⟨25, Hz2.out.symm⟩)
  have HRT := Lib.hid (show rightC c = true from Hz2.out.symm)
  clear Hz2
  by_cases h1 : n < 1
  case pos =>
    have b1 : decide (n < 1) = true := decide_eq_true h1
    go_wp2
    refine bodyPost_ret (v := .bool true) ?_ ?_ ?_
    · simp [results, Tryd.results5, go_sem]
    · rfl
    · exact ⟨rfl, HL.out⟩
  have b1 : decide (n < 1) = false := decide_eq_false h1
  by_cases h2 : 30 < n
  case pos =>
    have b2 : decide (30 < n) = true := decide_eq_true h2
    go_wp2
    refine bodyPost_ret (v := .bool true) ?_ ?_ ?_
    · simp [results, Tryd.results5, go_sem]
    · rfl
    · exact ⟨rfl, HL.out⟩
  have b2 : decide (30 < n) = false := decide_eq_false h2
  obtain ⟨m, hm⟩ : ∃ m : Nat, n = (m : Int) := ⟨n.toNat, by omega⟩
  subst hm
  have hm1 : 1 ≤ m := by omega
  have hm2 : m ≤ 30 := by omega
  have x0 : w3.cell? ⟨w.heap.size, 0, none⟩ = some (.int .i64 c.h.f0) := HX.out.c0
  have x1 : w3.cell? ⟨w.heap.size, 1, none⟩ = some (.int .i64 c.h.f1) := HX.out.c1
  have x2 : w3.cell? ⟨w.heap.size, 2, none⟩ = some (.int .i64 c.h.f2) := HX.out.c2
  have x3 : w3.cell? ⟨w.heap.size, 3, none⟩ = some (.int .i64 c.h.f3) := HX.out.c3
  have x4 : w3.cell? ⟨w.heap.size, 4, none⟩ = some (.int .i64 c.h.f4) := HX.out.c4
  have x5 : w3.cell? ⟨w.heap.size, 5, none⟩ = some (.int .i64 c.h.f5) := HX.out.c5
  have x6 : w3.cell? ⟨w.heap.size, 6, none⟩ = some (.int .i64 c.h.pair) := HX.out.c6
  have x7 : w3.cell? ⟨w.heap.size, 7, none⟩ = some (.int .i64 c.h.pl) := HX.out.c7
  have x8 : w3.cell? ⟨w.heap.size, 8, none⟩ = some (.slice pa np pc) := HX.out.c8
  have x9 : w3.cell? ⟨w.heap.size, 9, none⟩ = some (.int .i64 c.h.fn) := HX.out.c9
  have x10 : w3.cell? ⟨w.heap.size, 10, none⟩ = some (.int .i64 c.h.fl) := HX.out.c10
  have x11 : w3.cell? ⟨w.heap.size, 11, none⟩ = some (.slice fa nf fc) := HX.out.c11
  go_upto_region 6 with fail
  obtain ⟨gd, hg⟩ : ∃ x, x = w3.heap.size := ⟨_, rfl⟩
  obtain ⟨w4, hw⟩ : ∃ x : World, x = w3.alloc (.cells #[.int .i64 c.h.f0, .int .i64 c.h.f1, .int .i64 c.h.f2, .int .i64 c.h.f3, .int .i64 c.h.f4, .int .i64 c.h.f5, .int .i64 c.h.pair, .int .i64 c.h.pl, .slice pa np pc, .int .i64 c.h.fn, .int .i64 c.h.fl, .slice fa nf fc] 25) := ⟨_, rfl⟩
  rw [← hw, ← hg]
  have hb : Below w3.heap.size w3 w4 := by rw [hw]; exact (Below.refl _ _).alloc (Nat.le_refl _) _
  have HXG := Lib.hid (show gd ≠ w.heap.size ∧ 1 ≠ gd by have h1 := HX.out.lt; have h2 := HT.out.lt; rw [hg]; omega)
  have HGW := Lib.hid (show w.heap.size ≤ gd by rw [hg]; exact HL.out.size)
  have HCG := Lib.hid (CoVN.later (M := (fun b => b = gd)) HCV.out hb (fun b h => .inr (by rw [h, hg]; exact Nat.le_refl _)))
  have HG := Lib.hid (show CBox w4 gd 25 ⟨c.h, .slice pa np pc, .slice fa nf fc⟩ by rw [hw, hg]; exact CBox.made w3 25 ⟨c.h, .slice pa np pc, .slice fa nf fc⟩)
  replace HL := Lib.hid (HL.out.trans (hb.mono HL.out.size))
  replace HT := Lib.hid (HT.out.keep hb)
  replace HX := Lib.hid (HX.out.keep hb)
  replace HCV := Lib.hid (HCV.out.below hb)
  clear hb hw hg
  clear x0 x1 x2 x3 x4 x5 x6 x7 x8 x9 x10 x11
  have HGN := Lib.hid (show gd ≠ w.heap.size ∧ 1 ≠ gd from ⟨HXG.out.1, HXG.out.2⟩)
  clear b1 b2 h1 h2
  go_wp2
  have HCVG := Lib.hid HCG.out
  go_loopw [8] (fun iv wr => ∃ (i : Nat) (da : Option Addr) (dc : Nat) (ea : Option Addr) (ec : Nat), 1 ≤ i ∧ i ≤ m ∧ iv = .int .i64 i ∧ Hid (CBox wr gd 25 ⟨c.h, .slice da np dc, .slice ea nf ec⟩) ∧ Hid (CoVN (fun b => b = gd) wr (.agg #[.int .i64 c.h.f0, .int .i64 c.h.f1, .int .i64 c.h.f2, .int .i64 c.h.f3, .int .i64 c.h.f4, .int .i64 c.h.f5, .int .i64 c.h.pair, .int .i64 c.h.pl, .slice da np dc, .int .i64 c.h.fn, .int .i64 c.h.fl, .slice ea nf ec]) c) ∧ Hid (But gd w4 wr)) (fun iv _ => m - (intOf iv).toNat)
  case atStart => exact ⟨1, pa, pc, fa, fc, Nat.le_refl _, hm1, rfl, HG, HCVG, Lib.hid (But.refl _ _)⟩
  case round =>
    clear HG
    obtain ⟨i, da, dc, ea, ec, hi1, hi2, rfl, HG, HDV, HRL⟩ := hrel
    have hi0 : (0 : Int) ≤ (i : Int) := Int.natCast_nonneg _
    have HX2 := Lib.hid (HX.out.but HRL.out (fun e => HGN.out.1 e.symm))
    have HCV2 := Lib.hid (CoVN.but HCVG.out HRL.out rfl)
    have HT2 := Lib.hid (TzW.but HT.out HRL.out HGN.out.2)
    have HL2 := Lib.hid (HL.out.trans (HRL.out.below (B := w.heap.size) HGW.out (HL.out.size)))
    by_cases hlt : i < m
    · have hi3 : (i : Int) < (m : Int) := by omega
      have hi9 : (i : Int) ≤ 30 := by omega
      have HLT := Lib.hid hlt
      clear hlt
      have z0 : wr.cell? ⟨gd, 0, none⟩ = some (.int .i64 c.h.f0) := HG.out.c0
      have z1 : wr.cell? ⟨gd, 1, none⟩ = some (.int .i64 c.h.f1) := HG.out.c1
      have z2 : wr.cell? ⟨gd, 2, none⟩ = some (.int .i64 c.h.f2) := HG.out.c2
      have z3 : wr.cell? ⟨gd, 3, none⟩ = some (.int .i64 c.h.f3) := HG.out.c3
      have z4 : wr.cell? ⟨gd, 4, none⟩ = some (.int .i64 c.h.f4) := HG.out.c4
      have z5 : wr.cell? ⟨gd, 5, none⟩ = some (.int .i64 c.h.f5) := HG.out.c5
      have z6 : wr.cell? ⟨gd, 6, none⟩ = some (.int .i64 c.h.pair) := HG.out.c6
      have z7 : wr.cell? ⟨gd, 7, none⟩ = some (.int .i64 c.h.pl) := HG.out.c7
      have z8 : wr.cell? ⟨gd, 8, none⟩ = some (.slice da np dc) := HG.out.c8
      have z9 : wr.cell? ⟨gd, 9, none⟩ = some (.int .i64 c.h.fn) := HG.out.c9
      have z10 : wr.cell? ⟨gd, 10, none⟩ = some (.int .i64 c.h.fl) := HG.out.c10
      have z11 : wr.cell? ⟨gd, 11, none⟩ = some (.slice ea nf ec) := HG.out.c11
      have x0 : wr.cell? ⟨w.heap.size, 0, none⟩ = some (.int .i64 c.h.f0) := HX2.out.c0
      have x1 : wr.cell? ⟨w.heap.size, 1, none⟩ = some (.int .i64 c.h.f1) := HX2.out.c1
      have x2 : wr.cell? ⟨w.heap.size, 2, none⟩ = some (.int .i64 c.h.f2) := HX2.out.c2
      have x3 : wr.cell? ⟨w.heap.size, 3, none⟩ = some (.int .i64 c.h.f3) := HX2.out.c3
      have x4 : wr.cell? ⟨w.heap.size, 4, none⟩ = some (.int .i64 c.h.f4) := HX2.out.c4
      have x5 : wr.cell? ⟨w.heap.size, 5, none⟩ = some (.int .i64 c.h.f5) := HX2.out.c5
      have x6 : wr.cell? ⟨w.heap.size, 6, none⟩ = some (.int .i64 c.h.pair) := HX2.out.c6
      have x7 : wr.cell? ⟨w.heap.size, 7, none⟩ = some (.int .i64 c.h.pl) := HX2.out.c7
      have x8 : wr.cell? ⟨w.heap.size, 8, none⟩ = some (.slice pa np pc) := HX2.out.c8
      have x9 : wr.cell? ⟨w.heap.size, 9, none⟩ = some (.int .i64 c.h.fn) := HX2.out.c9
      have x10 : wr.cell? ⟨w.heap.size, 10, none⟩ = some (.int .i64 c.h.fl) := HX2.out.c10
      have x11 : wr.cell? ⟨w.heap.size, 11, none⟩ = some (.slice fa nf fc) := HX2.out.c11
      go_wp2_with fail
      have HCC := Lib.hid (compose_p 400 c c _ _ wr HOK.out HOK.out (by have := htC_size c; have := HSC.out; omega) (by omega) (Nat.le_trans (Nat.mul_le_mul (Nat.le_of_lt HSC.out.1) (Nat.le_of_lt HSC.out.1)) (by decide)) HT2.out HDV.out.cv HCV2.out.cv)
      rw [comp_self 400 c HOK.out (by have := htC_size c; have := HSC.out; omega)] at HCC
      refine HCC.out.mono ?_
      rintro e wq ⟨⟨v, rfl, hv⟩, hb⟩
      obtain ⟨da2, dc2, ea2, ec2, rfl, _, _⟩ := hv.form
      rw [← HPN.out, ← HFN.out] at hv ⊢
      have HV := Lib.hid hv
      have HGL := Lib.hid (show gd < wr.heap.size from HG.out.lt)
      have HG2 := Lib.hid (HG.out.keep hb)
      have HRL2 := Lib.hid (HRL.out.then hb)
      clear hb hv
      clear z0 z1 z2 z3 z4 z5 z6 z7 z8 z9 z10 z11 x0 x1 x2 x3 x4 x5 x6 x7 x8 x9 x10 x11
      have z0 : wq.cell? ⟨gd, 0, none⟩ = some (.int .i64 c.h.f0) := HG2.out.c0
      have z1 : wq.cell? ⟨gd, 1, none⟩ = some (.int .i64 c.h.f1) := HG2.out.c1
      have z2 : wq.cell? ⟨gd, 2, none⟩ = some (.int .i64 c.h.f2) := HG2.out.c2
      have z3 : wq.cell? ⟨gd, 3, none⟩ = some (.int .i64 c.h.f3) := HG2.out.c3
      have z4 : wq.cell? ⟨gd, 4, none⟩ = some (.int .i64 c.h.f4) := HG2.out.c4
      have z5 : wq.cell? ⟨gd, 5, none⟩ = some (.int .i64 c.h.f5) := HG2.out.c5
      have z6 : wq.cell? ⟨gd, 6, none⟩ = some (.int .i64 c.h.pair) := HG2.out.c6
      have z7 : wq.cell? ⟨gd, 7, none⟩ = some (.int .i64 c.h.pl) := HG2.out.c7
      have z8 : wq.cell? ⟨gd, 8, none⟩ = some (.slice da np dc) := HG2.out.c8
      have z9 : wq.cell? ⟨gd, 9, none⟩ = some (.int .i64 c.h.fn) := HG2.out.c9
      have z10 : wq.cell? ⟨gd, 10, none⟩ = some (.int .i64 c.h.fl) := HG2.out.c10
      have z11 : wq.cell? ⟨gd, 11, none⟩ = some (.slice ea nf ec) := HG2.out.c11
      have fr0 : wq.frozen? ⟨gd, 0, none⟩ = false := HG2.out.fr 0
      have fr1 : wq.frozen? ⟨gd, 1, none⟩ = false := HG2.out.fr 1
      have fr2 : wq.frozen? ⟨gd, 2, none⟩ = false := HG2.out.fr 2
      have fr3 : wq.frozen? ⟨gd, 3, none⟩ = false := HG2.out.fr 3
      have fr4 : wq.frozen? ⟨gd, 4, none⟩ = false := HG2.out.fr 4
      have fr5 : wq.frozen? ⟨gd, 5, none⟩ = false := HG2.out.fr 5
      have fr6 : wq.frozen? ⟨gd, 6, none⟩ = false := HG2.out.fr 6
      have fr7 : wq.frozen? ⟨gd, 7, none⟩ = false := HG2.out.fr 7
      have fr8 : wq.frozen? ⟨gd, 8, none⟩ = false := HG2.out.fr 8
      have fr9 : wq.frozen? ⟨gd, 9, none⟩ = false := HG2.out.fr 9
      have fr10 : wq.frozen? ⟨gd, 10, none⟩ = false := HG2.out.fr 10
      have fr11 : wq.frozen? ⟨gd, 11, none⟩ = false := HG2.out.fr 11
      go_wp2
      have h1 : CBox (set12 wq gd ⟨c.h, .slice da2 np dc2, .slice ea2 nf ec2⟩) gd 25 ⟨c.h, .slice da2 np dc2, .slice ea2 nf ec2⟩ := CBox.set12 HG2.out
      have h2 : CoVN (fun b => b = gd) (set12 wq gd ⟨c.h, .slice da2 np dc2, .slice ea2 nf ec2⟩) (.agg #[.int .i64 c.h.f0, .int .i64 c.h.f1, .int .i64 c.h.f2, .int .i64 c.h.f3, .int .i64 c.h.f4, .int .i64 c.h.f5, .int .i64 c.h.pair, .int .i64 c.h.pl, .slice da2 np dc2, .int .i64 c.h.fn, .int .i64 c.h.fl, .slice ea2 nf ec2]) c := CoVN.set12 (HV.out.mono fun b _ h => by rw [h]; exact HGL.out) rfl
      have h3 : But gd w4 (set12 wq gd ⟨c.h, .slice da2 np dc2, .slice ea2 nf ec2⟩) := But.then12 HRL2.out _
      refine ⟨⟨i + 1, da2, dc2, ea2, ec2, by have := HLT.out; omega, HLT.out, by go_num, Lib.hid h1, Lib.hid h2, Lib.hid h3⟩, by have := HLT.out; simp [intOf]; omega⟩
    · have hin : i = m := by omega
      have HDV2 := Lib.hid HDV.out.cv
      clear HDV
      have HDV := HDV2
      have HCV3 := Lib.hid HCV2.out.cv
      have Lz := Lib.hid (fun (wz : World) (hSw : Below wr.heap.size wr wz) => (HG.out.keep hSw).cs)
      have Lx := Lib.hid (fun (wz : World) (hSw : Below wr.heap.size wr wz) => (HX2.out.keep hSw).cs)
      go_upto_region 10 with fail
      (try dsimp only [List.append])
      refine wp_region_noPanic ?_
      refine wp_region_held_drew (S := (fun w' => Below wr.heap.size wr w')) (by kernel_rfl) (by (try dsimp only); exact (Below.refl _ _).drew) (fun hHeld => ?_)
      have HBT := Lib.hid (show Below wr.heap.size wr wr.drew from (Below.refl _ _).drew)
      generalize wr.drew = r6_0 at hHeld HBT ⊢
      refine' tk_any 0 37 (v := _) ?hi140001 ?hd140001 (by kernel_rfl) (by kernel_rfl) (by kernel_rfl) (fun _ _ _ h => h) ?hy140001 hHeld ?hr140001
      case hi140001 => (simp only [List.getElem?_toArray, List.getElem?_cons_zero]; rfl)
      case hd140001 => rfl
      case hy140001 =>
        refine' Or.inl ⟨?hw140001, ?hx140001⟩
        case hw140001 => rfl
        case hx140001 => (intro wz hSw; (try dsimp only at hSw); go_simp; (try with_reducible rfl))
      (try simp only [Act.put, List.setIfInBounds_toArray, List.set_cons_zero, List.set_cons_succ])
      refine' tk_any 1 38 (v := _) ?hi140002 ?hd140002 (by kernel_rfl) (by kernel_rfl) (by kernel_rfl) (fun _ _ _ h => h) ?hy140002 hHeld ?hr140002
      case hi140002 => (simp only [List.getElem?_toArray, List.getElem?_cons_succ, List.getElem?_cons_zero]; rfl)
      case hd140002 => rfl
      case hy140002 =>
        refine' Or.inl ⟨?hw140002, ?hx140002⟩
        case hw140002 => rfl
        case hx140002 => (intro wz hSw; (try dsimp only at hSw); go_simp; (try with_reducible rfl))
      (try simp only [Act.put, List.setIfInBounds_toArray, List.set_cons_zero, List.set_cons_succ])
      refine' tk_any 2 39 (v := _) ?hi140003 ?hd140003 (by kernel_rfl) (by kernel_rfl) (by kernel_rfl) (fun _ _ _ h => h) ?hy140003 hHeld ?hr140003
      case hi140003 => (simp only [List.getElem?_toArray, List.getElem?_cons_succ, List.getElem?_cons_zero]; rfl)
      case hd140003 => rfl
      case hy140003 =>
        refine' Or.inl ⟨?hw140003, ?hx140003⟩
        case hw140003 => rfl
        case hx140003 => (intro wz hSw; (try dsimp only at hSw); obtain ⟨zz0, zz1, zz2, zz3, zz4, zz5, zz6, zz7, zz8, zz9, zz10, zz11⟩ := Lz.out wz hSw; (try dsimp only at zz0 zz1 zz2 zz3 zz4 zz5 zz6 zz7 zz8 zz9 zz10 zz11); go_simp; (try with_reducible rfl))
      (try simp only [Act.put, List.setIfInBounds_toArray, List.set_cons_zero, List.set_cons_succ])
      refine' tk_any 4 41 (v := _) ?hi140004 ?hd140004 (by kernel_rfl) (by kernel_rfl) (by kernel_rfl) (fun _ _ _ h => h) ?hy140004 hHeld ?hr140004
      case hi140004 => (simp only [List.getElem?_toArray, List.getElem?_cons_succ, List.getElem?_cons_zero]; rfl)
      case hd140004 => rfl
      case hy140004 =>
        refine' Or.inl ⟨?hw140004, ?hx140004⟩
        case hw140004 => rfl
        case hx140004 => (intro wz hSw; (try dsimp only at hSw); obtain ⟨xz0, xz1, xz2, xz3, xz4, xz5, xz6, xz7, xz8, xz9, xz10, xz11⟩ := Lx.out wz hSw; (try dsimp only at xz0 xz1 xz2 xz3 xz4 xz5 xz6 xz7 xz8 xz9 xz10 xz11); go_simp; (try with_reducible rfl))
      (try simp only [Act.put, List.setIfInBounds_toArray, List.set_cons_zero, List.set_cons_succ])
      refine' tk_call 3 ?hi140005 (by kernel_rfl) ?hr140005
      case hi140005 => (simp only [List.getElem?_toArray, List.getElem?_cons_succ, List.getElem?_cons_zero]; rfl)
      intro K hK
      go_simp
      go_at_call 16
      refine (height_p c _ r6_0 (by have := HSC.out; omega) (HDV.out.below HBT.out)).mono ?_
      rintro e r6_1 ⟨rfl, hb⟩
      replace HBT := Lib.hid (HBT.out.trans (hb.mono HBT.out.size))
      clear hb
      go_wp2_with fail
      clear hHeld
      refine hK.out _ _ (by (try dsimp only); exact HBT.out) (fun hHeld => ?_)
      clear hK K
      (try simp only [Act.put, List.setIfInBounds_toArray, List.set_cons_zero, List.set_cons_succ])
      refine' tk_call 5 ?hi140006 (by kernel_rfl) ?hr140006
      case hi140006 => (simp only [List.getElem?_toArray, List.getElem?_cons_succ, List.getElem?_cons_zero]; rfl)
      intro K hK
      go_simp
      go_at_call 16
      refine (height_p c _ r6_1 (by have := HSC.out; omega) (HCV3.out.below HBT.out)).mono ?_
      rintro e r6_2 ⟨rfl, hb⟩
      replace HBT := Lib.hid (HBT.out.trans (hb.mono HBT.out.size))
      clear hb
      go_wp2_with fail
      clear hHeld
      refine hK.out _ _ (by (try dsimp only); exact HBT.out) (fun hHeld => ?_)
      clear hK K
      (try simp only [Act.put, List.setIfInBounds_toArray, List.set_cons_zero, List.set_cons_succ])
      refine' tk_any 6 43 (v := _) ?hi140007 ?hd140007 (by kernel_rfl) (by kernel_rfl) (by kernel_rfl) (fun _ _ _ h => h) ?hy140007 hHeld ?hr140007
      case hi140007 => (simp only [List.getElem?_toArray, List.getElem?_cons_succ, List.getElem?_cons_zero]; rfl)
      case hd140007 => rfl
      case hy140007 =>
        refine' Or.inl ⟨?hw140007, ?hx140007⟩
        case hw140007 => rfl
        case hx140007 => (intro wz hSw; (try dsimp only at hSw); go_simp; (try with_reducible rfl))
      (try simp only [Act.put, List.setIfInBounds_toArray, List.set_cons_zero, List.set_cons_succ])
      refine' tk_any 7 44 (v := _) ?hi140008 ?hd140008 (by kernel_rfl) (by kernel_rfl) (by kernel_rfl) (fun _ _ _ h => h) ?hy140008 hHeld ?hr140008
      case hi140008 => (simp only [List.getElem?_toArray, List.getElem?_cons_succ, List.getElem?_cons_zero]; rfl)
      case hd140008 => rfl
      case hy140008 =>
        refine' Or.inl ⟨?hw140008, ?hx140008⟩
        case hw140008 => rfl
        case hx140008 => (intro wz hSw; (try dsimp only at hSw); go_simp; (try with_reducible rfl))
      (try simp only [Act.put, List.setIfInBounds_toArray, List.set_cons_zero, List.set_cons_succ])
      refine' tk_any 8 45 (v := _) ?hi140009 ?hd140009 (by kernel_rfl) (by kernel_rfl) (by kernel_rfl) (fun _ _ _ h => h) ?hy140009 hHeld ?hr140009
      case hi140009 => (simp only [List.getElem?_toArray, List.getElem?_cons_succ, List.getElem?_cons_zero]; rfl)
      case hd140009 => rfl
      case hy140009 =>
        refine' Or.inl ⟨?hw140009, ?hx140009⟩
        case hw140009 => rfl
        case hx140009 => (intro wz hSw; (try dsimp only at hSw); go_simp; (try with_reducible rfl))
      (try simp only [Act.put, List.setIfInBounds_toArray, List.set_cons_zero, List.set_cons_succ])
      refine' tk_any 9 46 (v := _) ?hi140010 ?hd140010 (by kernel_rfl) (by kernel_rfl) (by kernel_rfl) (fun _ _ _ h => h) ?hy140010 hHeld ?hr140010
      case hi140010 => (simp only [List.getElem?_toArray, List.getElem?_cons_succ, List.getElem?_cons_zero]; rfl)
      case hd140010 => rfl
      case hy140010 =>
        refine' Or.inl ⟨?hw140010, ?hx140010⟩
        case hw140010 => rfl
        case hx140010 => (intro wz hSw; (try dsimp only at hSw); obtain ⟨zz0, zz1, zz2, zz3, zz4, zz5, zz6, zz7, zz8, zz9, zz10, zz11⟩ := Lz.out wz hSw; (try dsimp only at zz0 zz1 zz2 zz3 zz4 zz5 zz6 zz7 zz8 zz9 zz10 zz11); go_simp; (try with_reducible rfl))
      (try simp only [Act.put, List.setIfInBounds_toArray, List.set_cons_zero, List.set_cons_succ])
      refine' tk_any 11 48 (v := _) ?hi140011 ?hd140011 (by kernel_rfl) (by kernel_rfl) (by kernel_rfl) (fun _ _ _ h => h) ?hy140011 hHeld ?hr140011
      case hi140011 => (simp only [List.getElem?_toArray, List.getElem?_cons_succ, List.getElem?_cons_zero]; rfl)
      case hd140011 => rfl
      case hy140011 =>
        refine' Or.inl ⟨?hw140011, ?hx140011⟩
        case hw140011 => rfl
        case hx140011 => (intro wz hSw; (try dsimp only at hSw); obtain ⟨xz0, xz1, xz2, xz3, xz4, xz5, xz6, xz7, xz8, xz9, xz10, xz11⟩ := Lx.out wz hSw; (try dsimp only at xz0 xz1 xz2 xz3 xz4 xz5 xz6 xz7 xz8 xz9 xz10 xz11); go_simp; (try with_reducible rfl))
      (try simp only [Act.put, List.setIfInBounds_toArray, List.set_cons_zero, List.set_cons_succ])
      refine' tk_call 10 ?hi140012 (by kernel_rfl) ?hr140012
      case hi140012 => (simp only [List.getElem?_toArray, List.getElem?_cons_succ, List.getElem?_cons_zero]; rfl)
      intro K hK
      go_simp
      go_at_call 18
      refine (size_p c _ r6_2 (by have := HSC.out; omega) (HDV.out.below HBT.out)).mono ?_
      rintro e r6_3 ⟨rfl, hb⟩
      replace HBT := Lib.hid (HBT.out.trans (hb.mono HBT.out.size))
      clear hb
      go_wp2_with fail
      clear hHeld
      refine hK.out _ _ (by (try dsimp only); exact HBT.out) (fun hHeld => ?_)
      clear hK K
      (try simp only [Act.put, List.setIfInBounds_toArray, List.set_cons_zero, List.set_cons_succ])
      refine' tk_call 12 ?hi140013 (by kernel_rfl) ?hr140013
      case hi140013 => (simp only [List.getElem?_toArray, List.getElem?_cons_succ, List.getElem?_cons_zero]; rfl)
      intro K hK
      go_simp
      go_at_call 18
      refine (size_p c _ r6_3 (by have := HSC.out; omega) (HCV3.out.below HBT.out)).mono ?_
      rintro e r6_4 ⟨rfl, hb⟩
      replace HBT := Lib.hid (HBT.out.trans (hb.mono HBT.out.size))
      clear hb
      go_wp2_with fail
      clear hHeld
      refine hK.out _ _ (by (try dsimp only); exact HBT.out) (fun hHeld => ?_)
      clear hK K
      (try simp only [Act.put, List.setIfInBounds_toArray, List.set_cons_zero, List.set_cons_succ])
      refine' tk_any 13 50 (v := _) ?hi140014 ?hd140014 (by kernel_rfl) (by kernel_rfl) (by kernel_rfl) (fun _ _ _ h => h) ?hy140014 hHeld ?hr140014
      case hi140014 => (simp only [List.getElem?_toArray, List.getElem?_cons_succ, List.getElem?_cons_zero]; rfl)
      case hd140014 => rfl
      case hy140014 =>
        refine' Or.inl ⟨?hw140014, ?hx140014⟩
        case hw140014 => rfl
        case hx140014 => (intro wz hSw; (try dsimp only at hSw); go_simp; (try with_reducible rfl))
      (try simp only [Act.put, List.setIfInBounds_toArray, List.set_cons_zero, List.set_cons_succ])
      refine' tk_any 14 51 (v := _) ?hi140015 ?hd140015 (by kernel_rfl) (by kernel_rfl) (by kernel_rfl) (fun _ _ _ h => h) ?hy140015 hHeld ?hr140015
      case hi140015 => (simp only [List.getElem?_toArray, List.getElem?_cons_succ, List.getElem?_cons_zero]; rfl)
      case hd140015 => rfl
      case hy140015 =>
        refine' Or.inl ⟨?hw140015, ?hx140015⟩
        case hw140015 => rfl
        case hx140015 => (intro wz hSw; (try dsimp only at hSw); go_simp; (try with_reducible rfl))
      (try simp only [Act.put, List.setIfInBounds_toArray, List.set_cons_zero, List.set_cons_succ])
      refine' tk_any 15 52 (v := _) ?hi140016 ?hd140016 (by kernel_rfl) (by kernel_rfl) (by kernel_rfl) (fun _ _ _ h => h) ?hy140016 hHeld ?hr140016
      case hi140016 => (simp only [List.getElem?_toArray, List.getElem?_cons_succ, List.getElem?_cons_zero]; rfl)
      case hd140016 => rfl
      case hy140016 =>
        refine' Or.inl ⟨?hw140016, ?hx140016⟩
        case hw140016 => rfl
        case hx140016 => (intro wz hSw; (try dsimp only at hSw); go_simp; (try with_reducible rfl))
      (try simp only [Act.put, List.setIfInBounds_toArray, List.set_cons_zero, List.set_cons_succ])
      refine' tk_any 16 53 (v := _) ?hi140017 ?hd140017 (by kernel_rfl) (by kernel_rfl) (by kernel_rfl) (fun _ _ _ h => h) ?hy140017 hHeld ?hr140017
      case hi140017 => (simp only [List.getElem?_toArray, List.getElem?_cons_succ, List.getElem?_cons_zero]; rfl)
      case hd140017 => rfl
      case hy140017 =>
        refine' Or.inl ⟨?hw140017, ?hx140017⟩
        case hw140017 => rfl
        case hx140017 => (intro wz hSw; (try dsimp only at hSw); obtain ⟨zz0, zz1, zz2, zz3, zz4, zz5, zz6, zz7, zz8, zz9, zz10, zz11⟩ := Lz.out wz hSw; (try dsimp only at zz0 zz1 zz2 zz3 zz4 zz5 zz6 zz7 zz8 zz9 zz10 zz11); go_simp; (try with_reducible rfl))
      (try simp only [Act.put, List.setIfInBounds_toArray, List.set_cons_zero, List.set_cons_succ])
      refine' tk_call 17 ?hi140018 (by kernel_rfl) ?hr140018
      case hi140018 => (simp only [List.getElem?_toArray, List.getElem?_cons_succ, List.getElem?_cons_zero]; rfl)
      intro K hK
      go_simp
      go_at_call 10
      refine (right_p c _ r6_4 (by have := HSC.out; omega) (HDV.out.below HBT.out)).mono ?_
      rintro e r6_5 ⟨rfl, hb⟩
      rw [HRT.out]
      replace HBT := Lib.hid (HBT.out.trans (hb.mono HBT.out.size))
      clear hb
      go_wp2_with fail
      clear hHeld
      refine hK.out _ _ (by (try dsimp only); exact HBT.out) (fun hHeld => ?_)
      clear hK K
      (try simp only [Act.put, List.setIfInBounds_toArray, List.set_cons_zero, List.set_cons_succ])
      refine' tk_any 18 55 (v := _) ?hi140019 ?hd140019 (by kernel_rfl) (by kernel_rfl) (by kernel_rfl) (fun _ _ _ h => h) ?hy140019 hHeld ?hr140019
      case hi140019 => (simp only [List.getElem?_toArray, List.getElem?_cons_succ, List.getElem?_cons_zero]; rfl)
      case hd140019 => rfl
      case hy140019 =>
        refine' Or.inl ⟨?hw140019, ?hx140019⟩
        case hw140019 => rfl
        case hx140019 => (intro wz hSw; (try dsimp only at hSw); go_simp; (try with_reducible rfl))
      (try simp only [Act.put, List.setIfInBounds_toArray, List.set_cons_zero, List.set_cons_succ])
      refine' tk_any 19 4 (v := _) ?hi140020 ?hd140020 (by kernel_rfl) (by kernel_rfl) (by kernel_rfl) (fun _ _ _ h => h) ?hy140020 hHeld ?hr140020
      case hi140020 => (simp only [List.getElem?_toArray, List.getElem?_cons_succ, List.getElem?_cons_zero]; rfl)
      case hd140020 => rfl
      case hy140020 =>
        refine' Or.inl ⟨?hw140020, ?hx140020⟩
        case hw140020 => rfl
        case hx140020 => (intro wz hSw; (try dsimp only at hSw); go_simp; (try with_reducible rfl))
      (try simp only [Act.put, List.setIfInBounds_toArray, List.set_cons_zero, List.set_cons_succ])
      refine wpAnyH_done (by kernel_rfl) ?_ _
      refine NoPanic.normal ?_
      clear Lz Lx
      replace HX2 := Lib.hid (HX2.out.keep HBT.out)
      replace HCV3 := Lib.hid (HCV3.out.below HBT.out)
      replace HDV := Lib.hid (HDV.out.below HBT.out)
      replace HG := Lib.hid (HG.out.keep HBT.out)
      replace HL2 := Lib.hid (HL2.out.trans (HBT.out.mono HL2.out.size))
      clear HBT
      go_wp2
      refine bodyPost_ret (v := .bool true) ?_ ?_ ?_
      · simp [results, Tryd.results5, go_sem]
      · rfl
      · exact ⟨rfl, HL2.out⟩
end Go.Proofs.YtlalnkabfigodaaDoor
