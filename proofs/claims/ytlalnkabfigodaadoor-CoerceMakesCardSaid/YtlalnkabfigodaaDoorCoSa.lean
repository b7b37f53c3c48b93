import Derived.Test.YtlalnkabfigodaaDoorCoHs
import Derived.Test.YtlalnkabfigodaaDoorCoEq
namespace Go.Proofs.YtlalnkabfigodaaDoor
open Go.Lib (hid)
open Go.RowKit


set_option maxRecDepth 100000 in
set_option maxHeartbeats 32000000 in
theorem rsame_go (n : Nat) : ∀ (x y : Co) (vx vy : Value) (w : World), szC x ≤ n → CoV w vx x → CoV w vy y → Calls Tryd.prog 13 #[vx, vy] w fun e w' => e = .returned (.bool (sameC x y)) ∧ Below w.heap.size w w' := by
 induction n with
 | zero => intro x y vx vy w h; have := szC_pos x; omega
 | succ n ih =>
  intro x y vx vy w hn hx hy
  have IH := hid ih
  have HN0 := hid hn
  clear ih hn
  obtain ⟨pa, pc, fa, fc, rfl, hp, hf⟩ := hx.form
  obtain ⟨qa, qc, ga, gc, rfl, hq, hg⟩ := hy.form
  obtain ⟨np, hnp⟩ : ∃ n, n = x.pairs.length := ⟨_, rfl⟩
  obtain ⟨nf, hnf⟩ : ∃ n, n = x.funs.length := ⟨_, rfl⟩
  obtain ⟨mp, hmp⟩ : ∃ n, n = y.pairs.length := ⟨_, rfl⟩
  obtain ⟨mf, hmf⟩ : ∃ n, n = y.funs.length := ⟨_, rfl⟩
  rw [← hnp] at hp ⊢
  rw [← hnf] at hf ⊢
  rw [← hmp] at hq ⊢
  rw [← hmf] at hg ⊢
  have bp : (np : Int) ≤ 9223372036854775807 := by have := hp.len; rw [← hnp] at this; unfold maxLen at this; omega
  have bf : (nf : Int) ≤ 9223372036854775807 := by have := hf.len; rw [← hnf] at this; unfold maxLen at this; omega
  obtain ⟨z, hz⟩ : ∃ z, z = sameC x y := ⟨_, rfl⟩
  rw [← hz]
  rw [sameC_eq] at hz
  have HZ := hid hz
  obtain ⟨W, hW⟩ : ∃ W, W = (w.alloc (.cells #[.int .i64 x.h.f0, .int .i64 x.h.f1, .int .i64 x.h.f2, .int .i64 x.h.f3, .int .i64 x.h.f4, .int .i64 x.h.f5, .int .i64 x.h.pair, .int .i64 x.h.pl, .slice pa np pc, .int .i64 x.h.fn, .int .i64 x.h.fl, .slice fa nf fc] 30)).alloc (.cells #[.int .i64 y.h.f0, .int .i64 y.h.f1, .int .i64 y.h.f2, .int .i64 y.h.f3, .int .i64 y.h.f4, .int .i64 y.h.f5, .int .i64 y.h.pair, .int .i64 y.h.pl, .slice qa mp qc, .int .i64 y.h.fn, .int .i64 y.h.fl, .slice ga mf gc] 30) := ⟨_, rfl⟩
  have HX := hid (show CBox W w.heap.size 30 ⟨x.h, .slice pa np pc, .slice fa nf fc⟩ by rw [hW]; exact (CBox.made _ _ ⟨x.h, .slice pa np pc, .slice fa nf fc⟩).keep ((Below.refl _ _).alloc (Nat.le_refl _) _))
  have HY := hid (show CBox W (w.heap.size + 1) 30 ⟨y.h, .slice qa mp qc, .slice ga mf gc⟩ by rw [hW]; have := CBox.made (w.alloc (.cells #[.int .i64 x.h.f0, .int .i64 x.h.f1, .int .i64 x.h.f2, .int .i64 x.h.f3, .int .i64 x.h.f4, .int .i64 x.h.f5, .int .i64 x.h.pair, .int .i64 x.h.pl, .slice pa np pc, .int .i64 x.h.fn, .int .i64 x.h.fl, .slice fa nf fc] 30)) 30 ⟨y.h, .slice qa mp qc, .slice ga mf gc⟩; simpa using this)
  have HL := hid (show Below w.heap.size w W by rw [hW]; exact ((Below.refl _ _).alloc (Nat.le_refl _) _).alloc (by simp) _)
  have HXP := hid (CoSN.below hp HL.out)
  have HXF := hid (CoSN.below hf HL.out)
  have HYP := hid (CoSN.below hq HL.out)
  have HYF := hid (CoSN.below hg HL.out)
  have HPN := hid hnp
  have HFN := hid hnf
  have HQN := hid hmp
  have HGN := hid hmf
  have HW := hid hW
  clear hp hf hq hg hnp hnf hmp hmf hW hx hy hz
  have x0 : W.cell? ⟨w.heap.size, 0, none⟩ = some (.int .i64 x.h.f0) := HX.out.c0
  have y0 : W.cell? ⟨w.heap.size + 1, 0, none⟩ = some (.int .i64 y.h.f0) := HY.out.c0
  have x1 : W.cell? ⟨w.heap.size, 1, none⟩ = some (.int .i64 x.h.f1) := HX.out.c1
  have y1 : W.cell? ⟨w.heap.size + 1, 1, none⟩ = some (.int .i64 y.h.f1) := HY.out.c1
  have x2 : W.cell? ⟨w.heap.size, 2, none⟩ = some (.int .i64 x.h.f2) := HX.out.c2
  have y2 : W.cell? ⟨w.heap.size + 1, 2, none⟩ = some (.int .i64 y.h.f2) := HY.out.c2
  have x3 : W.cell? ⟨w.heap.size, 3, none⟩ = some (.int .i64 x.h.f3) := HX.out.c3
  have y3 : W.cell? ⟨w.heap.size + 1, 3, none⟩ = some (.int .i64 y.h.f3) := HY.out.c3
  have x4 : W.cell? ⟨w.heap.size, 4, none⟩ = some (.int .i64 x.h.f4) := HX.out.c4
  have y4 : W.cell? ⟨w.heap.size + 1, 4, none⟩ = some (.int .i64 y.h.f4) := HY.out.c4
  have x5 : W.cell? ⟨w.heap.size, 5, none⟩ = some (.int .i64 x.h.f5) := HX.out.c5
  have y5 : W.cell? ⟨w.heap.size + 1, 5, none⟩ = some (.int .i64 y.h.f5) := HY.out.c5
  have x6 : W.cell? ⟨w.heap.size, 6, none⟩ = some (.int .i64 x.h.pair) := HX.out.c6
  have y6 : W.cell? ⟨w.heap.size + 1, 6, none⟩ = some (.int .i64 y.h.pair) := HY.out.c6
  have x7 : W.cell? ⟨w.heap.size, 7, none⟩ = some (.int .i64 x.h.pl) := HX.out.c7
  have y7 : W.cell? ⟨w.heap.size + 1, 7, none⟩ = some (.int .i64 y.h.pl) := HY.out.c7
  have x8 : W.cell? ⟨w.heap.size, 8, none⟩ = some (.slice pa np pc) := HX.out.c8
  have y8 : W.cell? ⟨w.heap.size + 1, 8, none⟩ = some (.slice qa mp qc) := HY.out.c8
  have x9 : W.cell? ⟨w.heap.size, 9, none⟩ = some (.int .i64 x.h.fn) := HX.out.c9
  have y9 : W.cell? ⟨w.heap.size + 1, 9, none⟩ = some (.int .i64 y.h.fn) := HY.out.c9
  have x10 : W.cell? ⟨w.heap.size, 10, none⟩ = some (.int .i64 x.h.fl) := HX.out.c10
  have y10 : W.cell? ⟨w.heap.size + 1, 10, none⟩ = some (.int .i64 y.h.fl) := HY.out.c10
  have x11 : W.cell? ⟨w.heap.size, 11, none⟩ = some (.slice fa nf fc) := HX.out.c11
  have y11 : W.cell? ⟨w.heap.size + 1, 11, none⟩ = some (.slice ga mf gc) := HY.out.c11
  go_enter Tryd.func13, Tryd.ntmps13
  go_upto_region 1 with fail
  rw [← HW.out]
  clear HW
  go_cut [57] from 7 to 57 (fun cc wx => cc = .bool (decide (¬ (x.h = y.h ∧ np = mp ∧ nf = mf))) ∧ W = wx)
  case first =>
   have hcmp : ∀ w, (Op.equalIn 10000 22 (.agg #[.int .i64 x.h.f0, .int .i64 x.h.f1, .int .i64 x.h.f2, .int .i64 x.h.f3, .int .i64 x.h.f4, .int .i64 x.h.f5]) (.agg #[.int .i64 y.h.f0, .int .i64 y.h.f1, .int .i64 y.h.f2, .int .i64 y.h.f3, .int .i64 y.h.f4, .int .i64 y.h.f5])).run Tryd.prog w = .ok (six6 x.h.f0 x.h.f1 x.h.f2 x.h.f3 x.h.f4 x.h.f5 y.h.f0 y.h.f1 y.h.f2 y.h.f3 y.h.f4 y.h.f5) w := fun w => arr6_in w _ _ _ _ _ _ _ _ _ _ _ _
   obtain ⟨fz, hfz⟩ : ∃ z, z = six6 x.h.f0 x.h.f1 x.h.f2 x.h.f3 x.h.f4 x.h.f5 y.h.f0 y.h.f1 y.h.f2 y.h.f3 y.h.f4 y.h.f5 := ⟨_, rfl⟩
   rw [← hfz] at hcmp
   have HFZ := hid hfz
   clear hfz
   cases fz with
   | false =>
    go_wp2
    go_meet
    case rel => exact ⟨congrArg Value.bool (decide_eq_true (p := ¬ (x.h = y.h ∧ np = mp ∧ nf = mf)) (fun h => by have := HFZ.out; rw [h.1] at this; simp [six6] at this)).symm, rfl⟩
   | true =>
    by_cases k0 : x.h.pair = y.h.pair
    case neg =>
     have b0 : (x.h.pair != y.h.pair) = true := bne_iff_ne.2 k0
     have K0 := hid k0
     clear k0
     go_wp2
     go_meet
     case rel => exact ⟨congrArg Value.bool (decide_eq_true (p := ¬ (x.h = y.h ∧ np = mp ∧ nf = mf)) (fun h => K0.out (by rw [h.1]))).symm, rfl⟩
    have b0 : (x.h.pair != y.h.pair) = false := by simp [k0]
    have K0 := hid k0
    clear k0
    by_cases k1 : x.h.pl = y.h.pl
    case neg =>
     have b1 : (x.h.pl != y.h.pl) = true := bne_iff_ne.2 k1
     have K1 := hid k1
     clear k1
     go_wp2
     go_meet
     case rel => exact ⟨congrArg Value.bool (decide_eq_true (p := ¬ (x.h = y.h ∧ np = mp ∧ nf = mf)) (fun h => K1.out (by rw [h.1]))).symm, rfl⟩
    have b1 : (x.h.pl != y.h.pl) = false := by simp [k1]
    have K1 := hid k1
    clear k1
    by_cases k2 : x.h.fn = y.h.fn
    case neg =>
     have b2 : (x.h.fn != y.h.fn) = true := bne_iff_ne.2 k2
     have K2 := hid k2
     clear k2
     go_wp2
     go_meet
     case rel => exact ⟨congrArg Value.bool (decide_eq_true (p := ¬ (x.h = y.h ∧ np = mp ∧ nf = mf)) (fun h => K2.out (by rw [h.1]))).symm, rfl⟩
    have b2 : (x.h.fn != y.h.fn) = false := by simp [k2]
    have K2 := hid k2
    clear k2
    by_cases k3 : x.h.fl = y.h.fl
    case neg =>
     have b3 : (x.h.fl != y.h.fl) = true := bne_iff_ne.2 k3
     have K3 := hid k3
     clear k3
     go_wp2
     go_meet
     case rel => exact ⟨congrArg Value.bool (decide_eq_true (p := ¬ (x.h = y.h ∧ np = mp ∧ nf = mf)) (fun h => K3.out (by rw [h.1]))).symm, rfl⟩
    have b3 : (x.h.fl != y.h.fl) = false := by simp [k3]
    have K3 := hid k3
    clear k3
    by_cases k4 : np = mp
    case neg =>
     have b4 : ((np : Int) != (mp : Int)) = true := by rw [bne_iff_ne]; omega
     have K4 := hid k4
     clear k4
     go_wp2
     go_meet
     case rel => exact ⟨congrArg Value.bool (decide_eq_true (p := ¬ (x.h = y.h ∧ np = mp ∧ nf = mf)) (fun h => K4.out h.2.1)).symm, rfl⟩
    have b4 : ((np : Int) != (mp : Int)) = false := by simp [k4]
    have K4 := hid k4
    clear k4
    by_cases k5 : nf = mf
    case neg =>
     have b5 : ((nf : Int) != (mf : Int)) = true := by rw [bne_iff_ne]; omega
     have K5 := hid k5
     clear k5
     go_wp2
     go_meet
     case rel => exact ⟨congrArg Value.bool (decide_eq_true (p := ¬ (x.h = y.h ∧ np = mp ∧ nf = mf)) (fun h => K5.out h.2.2)).symm, rfl⟩
    have b5 : ((nf : Int) != (mf : Int)) = false := by simp [k5]
    have K5 := hid k5
    clear k5
    go_wp2
    go_meet
    case rel => exact ⟨congrArg Value.bool (decide_eq_false (p := ¬ (x.h = y.h ∧ np = mp ∧ nf = mf)) (fun h => h ⟨Hd.ext' (by have h6 := six6_iff.1 HFZ.out.symm; exact ⟨h6.1, h6.2.1, h6.2.2.1, h6.2.2.2.1, h6.2.2.2.2.1, h6.2.2.2.2.2, K0.out, K1.out, K2.out, K3.out⟩), K4.out, K5.out⟩)).symm, rfl⟩
  case rest =>
   obtain ⟨rfl, rfl⟩ := hcut
   clear x0 y0 x1 y1 x2 y2 x3 y3 x4 y4 x5 y5 x6 y6 x7 y7 x8 y8 x9 y9 x10 y10 x11 y11
   by_cases hv : ¬ (x.h = y.h ∧ np = mp ∧ nf = mf)
   ·
    have bv : decide (¬ (x.h = y.h ∧ np = mp ∧ nf = mf)) = true := decide_eq_true hv
    have e : z = false := by
     cases h : z
     ·
      rfl
     ·
      have h1 := HZ.out.symm.trans h
      rw [Bool.and_eq_true, Bool.and_eq_true, decide_eq_true_eq, samesC_eq, samesC_eq] at h1
      exact absurd ⟨h1.1.1, by rw [HPN.out, HQN.out, h1.1.2], by rw [HFN.out, HGN.out, h1.2]⟩ hv
    subst e
    rw [bv]
    clear hv
    go_wp2
    refine bodyPost_ret (v := .bool false) ?_ ?_ ?_
    ·
     simp [results, Tryd.results13, go_sem]
    ·
     rfl
    ·
     exact ⟨rfl, HL.out⟩
   have bv : decide (¬ (x.h = y.h ∧ np = mp ∧ nf = mf)) = false := decide_eq_false hv
   rw [bv]
   obtain ⟨h1, rfl, rfl⟩ := Classical.not_not.1 hv
   have HHD := hid (show decide (x.h = y.h) = true from decide_eq_true h1)
   clear hv bv h1
   have x8 : W.cell? ⟨w.heap.size, 8, none⟩ = some (.slice pa np pc) := HX.out.c8
   have y8 : W.cell? ⟨w.heap.size + 1, 8, none⟩ = some (.slice qa np qc) := HY.out.c8
   have x11 : W.cell? ⟨w.heap.size, 11, none⟩ = some (.slice fa nf fc) := HX.out.c11
   have y11 : W.cell? ⟨w.heap.size + 1, 11, none⟩ = some (.slice ga nf gc) := HY.out.c11
   go_wp2
   go_loopw [5] (fun iv wr => ∃ i : Nat, i ≤ np ∧ iv = .int .i64 i ∧ Hid (Below W.heap.size W wr) ∧ Hid (∀ j, j < i → sameC (x.pairs.getD j co0) (y.pairs.getD j co0) = true)) (fun iv _ => np - (intOf iv).toNat)
   case atStart => exact ⟨0, Nat.zero_le _, rfl, hid (Below.refl _ _), hid fun j h => absurd h (Nat.not_lt_zero _)⟩
   case round =>
    clear x8 x11 y8 y11
    obtain ⟨i, hi1, rfl, HB, HQ⟩ := hrel
    have x8 : wr.cell? ⟨w.heap.size, 8, none⟩ = some (.slice pa np pc) := (HX.out.keep HB.out).c8
    have x11 : wr.cell? ⟨w.heap.size, 11, none⟩ = some (.slice fa nf fc) := (HX.out.keep HB.out).c11
    have y8 : wr.cell? ⟨w.heap.size + 1, 8, none⟩ = some (.slice qa np qc) := (HY.out.keep HB.out).c8
    have y11 : wr.cell? ⟨w.heap.size + 1, 11, none⟩ = some (.slice ga nf gc) := (HY.out.keep HB.out).c11
    by_cases hlt : i < np
    ·
     have hi0 : (0 : Int) ≤ (i : Int) := Int.natCast_nonneg _
     have hi2 : (i : Int) < (np : Int) := by omega
     have hil : i < x.pairs.length := by rw [← HPN.out]; exact hlt
     have hil2 : i < y.pairs.length := by rw [← HQN.out]; exact hlt
     obtain ⟨d, hd⟩ : ∃ d, x.pairs.getD i co0 = d := ⟨_, rfl⟩
     obtain ⟨d2, hd2⟩ : ∃ d, y.pairs.getD i co0 = d := ⟨_, rfl⟩
     obtain ⟨b, off, p1, c1, p2, c2, rfl, hb, ⟨e0, e1, e2, e3, e4, e5, e6, e7, e8, e9, e10, e11⟩, hv⟩ := CoSN.elem (CoSN.below HXP.out HB.out) hil hd
     obtain ⟨b', off', q1, d1, q2, d3, rfl, hb', ⟨g0, g1, g2, g3, g4, g5, g6, g7, g8, g9, g10, g11⟩, hu⟩ := CoSN.elem (CoSN.below HYP.out HB.out) hil2 hd2
     have hsz : szC d < szC x := by rw [← hd]; exact szC_pair x i hil
     have C := IH.out d d2 _ _ wr.drew (by have := HN0.out; omega) (hv.below (Below.refl _ _).drew) (hu.below (Below.refl _ _).drew)
     obtain ⟨z2, hz2⟩ : ∃ z, z = sameC d d2 := ⟨_, rfl⟩
     rw [← hz2] at C
     have HC := hid C
     have HZ2 := hid hz2
     have HDD := hid hd
     have HDD2 := hid hd2
     have HLT := hid hlt
     clear hd hd2 hv hu hb hb' hsz C hz2 hil hil2 hlt hi1
     go_wp2_with fail
     go_still_tail 10, (by kernel_rfl)
     change wpList _ _ _ _ _ wr.drew
     go_wp2_with fail
     refine HC.out.mono ?_
     rintro e w2 ⟨rfl, hb⟩
     have HB2 := hid (HB.out.trans ((Below.refl _ _).drew.trans (hb.mono HB.out.size)))
     clear hb e0 e1 e2 e3 e4 e5 e6 e7 e8 e9 e10 e11 g0 g1 g2 g3 g4 g5 g6 g7 g8 g9 g10 g11
     cases z2 with
     | false =>
      have e : z = false := by
       rw [HZ.out, HHD.out]
       have : samesC x.pairs y.pairs = false := by
        cases h : samesC x.pairs y.pairs
        ·
         rfl
        ·
         have := ((samesC_iff _ _).1 h).2 i (by rw [← HPN.out]; exact HLT.out)
         rw [HDD.out, HDD2.out, ← HZ2.out] at this; cases this
       rw [this]; simp
      subst e
      go_wp2
      refine bodyPost_ret (v := .bool false) ?_ ?_ ?_
      ·
       simp [results, Tryd.results13, go_sem]
      ·
       rfl
      ·
       exact ⟨rfl, HL.out.trans (HB2.out.mono HL.out.size)⟩
     | true =>
      go_wp2
      refine ⟨⟨i + 1, HLT.out, by go_num, HB2, hid fun j hj => ?_⟩, by have := HLT.out; simp [intOf]; omega⟩
      by_cases e : j = i
      ·
       rw [e, HDD.out, HDD2.out]; exact HZ2.out.symm
      ·
       exact HQ.out j (by omega)
    ·
     have hin : i = np := by omega
     have HALL := hid ((samesC_iff x.pairs y.pairs).2 ⟨by rw [← HPN.out, ← HQN.out], fun j hj => HQ.out j (by rw [hin, HPN.out]; exact hj)⟩)
     clear hin HQ
     obtain ⟨W1, rfl⟩ : ∃ x, x = wr := ⟨_, rfl⟩
     have HALL1 := HALL
     have hB := HB.out
     replace HX := hid (HX.out.keep hB)
     replace HY := hid (HY.out.keep hB)
     replace HXP := hid (CoSN.below HXP.out hB)
     replace HXF := hid (CoSN.below HXF.out hB)
     replace HYP := hid (CoSN.below HYP.out hB)
     replace HYF := hid (CoSN.below HYF.out hB)
     replace HL := hid (HL.out.trans (hB.mono HL.out.size))
     clear HB hB
     clear HALL
     go_wp2
     go_loopw [6] (fun iv wr => ∃ i : Nat, i ≤ nf ∧ iv = .int .i64 i ∧ Hid (Below W1.heap.size W1 wr) ∧ Hid (∀ j, j < i → sameC (x.funs.getD j co0) (y.funs.getD j co0) = true)) (fun iv _ => nf - (intOf iv).toNat)
     case atStart => exact ⟨0, Nat.zero_le _, rfl, hid (Below.refl _ _), hid fun j h => absurd h (Nat.not_lt_zero _)⟩
     case round =>
      clear x8 x11 y8 y11
      obtain ⟨i, hi1, rfl, HB, HQ⟩ := hrel
      have x8 : wr.cell? ⟨w.heap.size, 8, none⟩ = some (.slice pa np pc) := (HX.out.keep HB.out).c8
      have x11 : wr.cell? ⟨w.heap.size, 11, none⟩ = some (.slice fa nf fc) := (HX.out.keep HB.out).c11
      have y8 : wr.cell? ⟨w.heap.size + 1, 8, none⟩ = some (.slice qa np qc) := (HY.out.keep HB.out).c8
      have y11 : wr.cell? ⟨w.heap.size + 1, 11, none⟩ = some (.slice ga nf gc) := (HY.out.keep HB.out).c11
      by_cases hlt : i < nf
      ·
       have hi0 : (0 : Int) ≤ (i : Int) := Int.natCast_nonneg _
       have hi2 : (i : Int) < (nf : Int) := by omega
       have hil : i < x.funs.length := by rw [← HFN.out]; exact hlt
       have hil2 : i < y.funs.length := by rw [← HGN.out]; exact hlt
       obtain ⟨d, hd⟩ : ∃ d, x.funs.getD i co0 = d := ⟨_, rfl⟩
       obtain ⟨d2, hd2⟩ : ∃ d, y.funs.getD i co0 = d := ⟨_, rfl⟩
       obtain ⟨b, off, p1, c1, p2, c2, rfl, hb, ⟨e0, e1, e2, e3, e4, e5, e6, e7, e8, e9, e10, e11⟩, hv⟩ := CoSN.elem (CoSN.below HXF.out HB.out) hil hd
       obtain ⟨b', off', q1, d1, q2, d3, rfl, hb', ⟨g0, g1, g2, g3, g4, g5, g6, g7, g8, g9, g10, g11⟩, hu⟩ := CoSN.elem (CoSN.below HYF.out HB.out) hil2 hd2
       have hsz : szC d < szC x := by rw [← hd]; exact szC_fun x i hil
       have C := IH.out d d2 _ _ wr.drew (by have := HN0.out; omega) (hv.below (Below.refl _ _).drew) (hu.below (Below.refl _ _).drew)
       obtain ⟨z2, hz2⟩ : ∃ z, z = sameC d d2 := ⟨_, rfl⟩
       rw [← hz2] at C
       have HC := hid C
       have HZ2 := hid hz2
       have HDD := hid hd
       have HDD2 := hid hd2
       have HLT := hid hlt
       clear hd hd2 hv hu hb hb' hsz C hz2 hil hil2 hlt hi1
       go_wp2_with fail
       go_still_tail 10, (by kernel_rfl)
       change wpList _ _ _ _ _ wr.drew
       go_wp2_with fail
       refine HC.out.mono ?_
       rintro e w2 ⟨rfl, hb⟩
       have HB2 := hid (HB.out.trans ((Below.refl _ _).drew.trans (hb.mono HB.out.size)))
       clear hb e0 e1 e2 e3 e4 e5 e6 e7 e8 e9 e10 e11 g0 g1 g2 g3 g4 g5 g6 g7 g8 g9 g10 g11
       cases z2 with
       | false =>
        have e : z = false := by
         rw [HZ.out, HHD.out]
         have : samesC x.funs y.funs = false := by
          cases h : samesC x.funs y.funs
          ·
           rfl
          ·
           have := ((samesC_iff _ _).1 h).2 i (by rw [← HFN.out]; exact HLT.out)
           rw [HDD.out, HDD2.out, ← HZ2.out] at this; cases this
         rw [this]; simp
        subst e
        go_wp2
        refine bodyPost_ret (v := .bool false) ?_ ?_ ?_
        ·
         simp [results, Tryd.results13, go_sem]
        ·
         rfl
        ·
         exact ⟨rfl, HL.out.trans (HB2.out.mono HL.out.size)⟩
       | true =>
        go_wp2
        refine ⟨⟨i + 1, HLT.out, by go_num, HB2, hid fun j hj => ?_⟩, by have := HLT.out; simp [intOf]; omega⟩
        by_cases e : j = i
        ·
         rw [e, HDD.out, HDD2.out]; exact HZ2.out.symm
        ·
         exact HQ.out j (by omega)
      ·
       have hin : i = nf := by omega
       have HALL := hid ((samesC_iff x.funs y.funs).2 ⟨by rw [← HFN.out, ← HGN.out], fun j hj => HQ.out j (by rw [hin, HFN.out]; exact hj)⟩)
       clear hin HQ
       have e : z = true := by rw [HZ.out, HHD.out, HALL1.out, HALL.out]; rfl
       subst e
       go_wp2
       refine bodyPost_ret (v := .bool true) ?_ ?_ ?_
       ·
        simp [results, Tryd.results13, go_sem]
       ·
        rfl
       ·
        exact ⟨rfl, HL.out.trans (HB.out.mono HL.out.size)⟩
end Go.Proofs.YtlalnkabfigodaaDoor
