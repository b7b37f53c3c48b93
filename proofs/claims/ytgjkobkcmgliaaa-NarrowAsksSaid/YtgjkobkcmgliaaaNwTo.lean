import Derived.Test.YtgjkobkcmgliaaaNwTq
namespace Go.Proofs.Ytgjkobkcmgliaaa
open Go.RowKit

set_option maxRecDepth 100000 in
set_option maxHeartbeats 8000000 in
theorem owns_go (n : Nat) (hn : n ≤ 6) : ∀ (t : Tst) (v : Value) (w : World), litT n t = true → TeV w v t → Calls Try.prog 12 #[v] w (PrPost (prpT n t) w) := by
  induction n with
  | zero => intro t v w h; cases h
  | succ n ih =>
    intro t v w hlit hv
    obtain ⟨a, c, rfl, hs⟩ := hv.form
    have IH := Lib.hid (ih (by omega))
    have HLI := Lib.hid (show ∀ x ∈ t.of, litT n x = true from fun x hx => by
      have h : (decide (t.of.length ≤ 5) && t.of.all (litT n)) = true := hlit
      rw [Bool.and_eq_true, List.all_eq_true] at h
      exact h.2 x hx)
    clear ih hlit
    obtain ⟨m, hm⟩ : ∃ m, m = t.of.length := ⟨_, rfl⟩
    rw [← hm] at hs ⊢
    have hml := hs.len
    rw [← hm] at hml
    have bm : (m : Int) ≤ 9223372036854775807 := by unfold maxLen at hml; omega
    obtain ⟨P0, hP0⟩ : ∃ P0, P0 = prpT (n + 1) t := ⟨_, rfl⟩
    rw [← hP0]
    rw [prp_succ, ← hm] at hP0
    have HP0 := Lib.hid hP0
    obtain ⟨W, hW⟩ : ∃ W, W = (w.alloc (.cells #[.int .i64 t.op, .int .i64 t.vr, .int .i64 t.tags, .bool t.yes, .slice a m c] 24)).alloc (.cells #[.bool false, .slice none 0 0, .bool false, .slice none 0 0] 38) := ⟨_, rfl⟩
    have HX := Lib.hid (show Bx W w.heap.size 24 #[.int .i64 t.op, .int .i64 t.vr, .int .i64 t.tags, .bool t.yes, .slice a m c] by rw [hW]; exact alloc_past (alloc_at rfl) (by simp))
    have HR := Lib.hid (show Bx W (w.heap.size + 1) 38 #[.bool false, .slice none 0 0, .bool false, .slice none 0 0] by rw [hW]; exact alloc_at (by simp))
    have HL := Lib.hid (show Below w.heap.size w W by rw [hW]; exact ((Below.refl _ _).alloc (Nat.le_refl _) _).alloc (by simp) _)
    have HSZ := Lib.hid (show W.heap.size = w.heap.size + 1 + 1 by rw [hW]; simp)
    have HS0 := Lib.hid hs
    have HS := Lib.hid (hs.keep HL.out)
    have HM := Lib.hid hm
    have HW := Lib.hid hW
    have x0 : W.cell? ⟨w.heap.size, 0, none⟩ = some (.int .i64 t.op) := HX.out.c 0
    have x1 : W.cell? ⟨w.heap.size, 1, none⟩ = some (.int .i64 t.vr) := HX.out.c 1
    have x2 : W.cell? ⟨w.heap.size, 2, none⟩ = some (.int .i64 t.tags) := HX.out.c 2
    have x3 : W.cell? ⟨w.heap.size, 3, none⟩ = some (.bool t.yes) := HX.out.c 3
    have x4 : W.cell? ⟨w.heap.size, 4, none⟩ = some (.slice a m c) := HX.out.c 4
    clear hs hm hW hml hP0 hv
    go_enter Try.func12, Try.ntmps12
    go_upto_region 1 with fail
    rw [← HW.out]
    by_cases h0 : t.op = 0
    · have hP : P0 = isP t.vr t.tags := by rw [HP0.out, if_pos h0]
      have HPP := Lib.hid hP
      clear hP
      go_wp2_with fail
      refine (refis_go t.vr t.tags W).mono ?_
      rintro e w2 ⟨⟨v, rfl, pa1, pc1, pa2, pc2, rfl, hp1, hp2⟩, hb⟩
      rw [← HPP.out] at hp1 hp2 ⊢
      obtain ⟨n1, hn1⟩ : ∃ k, k = P0.th.l.length := ⟨_, rfl⟩
      obtain ⟨n2, hn2⟩ : ∃ k, k = P0.el.l.length := ⟨_, rfl⟩
      obtain ⟨b1, hb1⟩ : ∃ k, k = P0.th.never := ⟨_, rfl⟩
      obtain ⟨b2, hb2⟩ : ∃ k, k = P0.el.never := ⟨_, rfl⟩
      rw [← hn1] at hp1 ⊢
      rw [← hn2] at hp2 ⊢
      rw [← hb1, ← hb2]
      have hr := HR.out.keep hb
      have r0 := hr.d0
      have r1 := hr.d1
      have r2 := hr.d2
      have r3 := hr.d3
      have f0 := hr.fr 0
      have f1 := hr.fr 1
      have f2 := hr.fr 2
      have f3 := hr.fr 3
      have HD := Lib.hid (show (n1 = P0.th.l.length ∧ n2 = P0.el.l.length) ∧ b1 = P0.th.never ∧ b2 = P0.el.never from ⟨⟨hn1, hn2⟩, hb1, hb2⟩)
      have HF1 := Lib.hid hp1
      have HF2 := Lib.hid hp2
      have HBB := Lib.hid (HL.out.trans (hb.mono HL.out.size))
      clear hr hp1 hp2 hb hn1 hn2 hb1 hb2
      go_wp2
      refine bodyPost_ret (v := .agg #[.bool b1, .slice pa1 n1 pc1, .bool b2, .slice pa2 n2 pc2]) ?_ ?_ ?_
      · simp [results, Try.results12, go_sem, r0, r1, r2, r3]
      · rfl
      · exact pr_done (P := P0) (r := w.heap.size + 1) (by omega) (by have := HSZ.out; omega) HD.out.1.1 HD.out.1.2 HD.out.2.1 HD.out.2.2 HF1.out HF2.out HBB.out
    by_cases h1 : t.op = 1
    · have hP : P0 = truthP t.vr := by rw [HP0.out, if_neg h0, if_pos h1]
      have HPP := Lib.hid hP
      clear hP
      go_wp2_with fail
      refine (reftruth_go t.vr W).mono ?_
      rintro e w2 ⟨⟨v, rfl, pa1, pc1, pa2, pc2, rfl, hp1, hp2⟩, hb⟩
      rw [← HPP.out] at hp1 hp2 ⊢
      obtain ⟨n1, hn1⟩ : ∃ k, k = P0.th.l.length := ⟨_, rfl⟩
      obtain ⟨n2, hn2⟩ : ∃ k, k = P0.el.l.length := ⟨_, rfl⟩
      obtain ⟨b1, hb1⟩ : ∃ k, k = P0.th.never := ⟨_, rfl⟩
      obtain ⟨b2, hb2⟩ : ∃ k, k = P0.el.never := ⟨_, rfl⟩
      rw [← hn1] at hp1 ⊢
      rw [← hn2] at hp2 ⊢
      rw [← hb1, ← hb2]
      have hr := HR.out.keep hb
      have r0 := hr.d0
      have r1 := hr.d1
      have r2 := hr.d2
      have r3 := hr.d3
      have f0 := hr.fr 0
      have f1 := hr.fr 1
      have f2 := hr.fr 2
      have f3 := hr.fr 3
      have HD := Lib.hid (show (n1 = P0.th.l.length ∧ n2 = P0.el.l.length) ∧ b1 = P0.th.never ∧ b2 = P0.el.never from ⟨⟨hn1, hn2⟩, hb1, hb2⟩)
      have HF1 := Lib.hid hp1
      have HF2 := Lib.hid hp2
      have HBB := Lib.hid (HL.out.trans (hb.mono HL.out.size))
      clear hr hp1 hp2 hb hn1 hn2 hb1 hb2
      go_wp2
      refine bodyPost_ret (v := .agg #[.bool b1, .slice pa1 n1 pc1, .bool b2, .slice pa2 n2 pc2]) ?_ ?_ ?_
      · simp [results, Try.results12, go_sem, r0, r1, r2, r3]
      · rfl
      · exact pr_done (P := P0) (r := w.heap.size + 1) (by omega) (by have := HSZ.out; omega) HD.out.1.1 HD.out.1.2 HD.out.2.1 HD.out.2.2 HF1.out HF2.out HBB.out
    by_cases h2 : t.op = 2
    · have hP : P0 = constP t.yes := by rw [HP0.out, if_neg h0, if_neg h1, if_pos h2]
      have HPP := Lib.hid hP
      clear hP
      go_wp2_with fail
      refine (refconst_go t.yes W).mono ?_
      rintro e w2 ⟨⟨v, rfl, pa1, pc1, pa2, pc2, rfl, hp1, hp2⟩, hb⟩
      rw [← HPP.out] at hp1 hp2 ⊢
      obtain ⟨n1, hn1⟩ : ∃ k, k = P0.th.l.length := ⟨_, rfl⟩
      obtain ⟨n2, hn2⟩ : ∃ k, k = P0.el.l.length := ⟨_, rfl⟩
      obtain ⟨b1, hb1⟩ : ∃ k, k = P0.th.never := ⟨_, rfl⟩
      obtain ⟨b2, hb2⟩ : ∃ k, k = P0.el.never := ⟨_, rfl⟩
      rw [← hn1] at hp1 ⊢
      rw [← hn2] at hp2 ⊢
      rw [← hb1, ← hb2]
      have hr := HR.out.keep hb
      have r0 := hr.d0
      have r1 := hr.d1
      have r2 := hr.d2
      have r3 := hr.d3
      have f0 := hr.fr 0
      have f1 := hr.fr 1
      have f2 := hr.fr 2
      have f3 := hr.fr 3
      have HD := Lib.hid (show (n1 = P0.th.l.length ∧ n2 = P0.el.l.length) ∧ b1 = P0.th.never ∧ b2 = P0.el.never from ⟨⟨hn1, hn2⟩, hb1, hb2⟩)
      have HF1 := Lib.hid hp1
      have HF2 := Lib.hid hp2
      have HBB := Lib.hid (HL.out.trans (hb.mono HL.out.size))
      clear hr hp1 hp2 hb hn1 hn2 hb1 hb2
      go_wp2
      refine bodyPost_ret (v := .agg #[.bool b1, .slice pa1 n1 pc1, .bool b2, .slice pa2 n2 pc2]) ?_ ?_ ?_
      · simp [results, Try.results12, go_sem, r0, r1, r2, r3]
      · rfl
      · exact pr_done (P := P0) (r := w.heap.size + 1) (by omega) (by have := HSZ.out; omega) HD.out.1.1 HD.out.1.2 HD.out.2.1 HD.out.2.2 HF1.out HF2.out HBB.out
    by_cases h3 : t.op = 3
    · by_cases hm0 : 0 < m
      · have hmi : (0 : Int) < (m : Int) := by omega
        have hmj : 0 < t.of.length := by rw [← HM.out]; exact hm0
        have hP : P0 = notP (prpT n (t.of.getD 0 te0)) := by rw [HP0.out, if_neg h0, if_neg h1, if_neg h2, if_pos ⟨h3, hm0⟩]
        have HPP := Lib.hid hP
        obtain ⟨b, off, ea, ec, rfl, hb, e0, e1, e2, e3, e4, he⟩ := HS.out.elem hmj
        obtain ⟨d, hd⟩ : ∃ d, d = t.of.getD 0 te0 := ⟨_, rfl⟩
        rw [← hd] at HPP e0 e1 e2 e3 e4 he
        have HLD := Lib.hid (show litT n d = true by
          refine HLI.out d ?_
          rw [hd, List.getD_eq_getElem?_getD, List.getElem?_eq_getElem hmj]; exact List.getElem_mem hmj)
        have HE := Lib.hid he
        simp only [Nat.zero_mul, Nat.add_zero] at e0 e1 e2 e3 e4
        clear hP hd he
        go_wp2_with fail
        refine (IH.out d _ W HLD.out ⟨_, rfl, HE.out⟩).mono ?_
        rintro e w3 ⟨⟨v, rfl, qa1, qc1, qa2, qc2, rfl, hq1, hq2⟩, hb3⟩
        obtain ⟨D, hD⟩ : ∃ D, D = prpT n d := ⟨_, rfl⟩
        have HDL := Lib.hid (show D.th.l.length ≤ 20000 ∧ D.el.l.length ≤ 20000 by
          have h := prp_len n d
          have h64 : 2 ^ n ≤ 2 ^ 6 := Nat.pow_le_pow_right (by decide) (by omega)
          rw [← hD] at h; omega)
        rw [← hD] at hq1 hq2 HPP ⊢
        have HQ1 := Lib.hid hq1
        have HQ2 := Lib.hid hq2
        have HB3 := Lib.hid hb3
        clear hD hq1 hq2 hb3 e0 e1 e2 e3 e4
        go_wp2_with fail
        refine (refnot_go _ qa1 qa2 _ qc1 _ qc2 D w3 rfl rfl HQ1.out HQ2.out).mono ?_
        rintro e w2 ⟨⟨v, rfl, pa1, pc1, pa2, pc2, rfl, hp1, hp2⟩, hb⟩
        replace hb := HB3.out.trans (hb.mono HB3.out.size)
        rw [← HPP.out] at hp1 hp2 ⊢
        obtain ⟨n1, hn1⟩ : ∃ k, k = P0.th.l.length := ⟨_, rfl⟩
        obtain ⟨n2, hn2⟩ : ∃ k, k = P0.el.l.length := ⟨_, rfl⟩
        obtain ⟨b1, hb1⟩ : ∃ k, k = P0.th.never := ⟨_, rfl⟩
        obtain ⟨b2, hb2⟩ : ∃ k, k = P0.el.never := ⟨_, rfl⟩
        rw [← hn1] at hp1 ⊢
        rw [← hn2] at hp2 ⊢
        rw [← hb1, ← hb2]
        have hr := HR.out.keep hb
        have r0 := hr.d0
        have r1 := hr.d1
        have r2 := hr.d2
        have r3 := hr.d3
        have f0 := hr.fr 0
        have f1 := hr.fr 1
        have f2 := hr.fr 2
        have f3 := hr.fr 3
        have HD := Lib.hid (show (n1 = P0.th.l.length ∧ n2 = P0.el.l.length) ∧ b1 = P0.th.never ∧ b2 = P0.el.never from ⟨⟨hn1, hn2⟩, hb1, hb2⟩)
        have HF1 := Lib.hid hp1
        have HF2 := Lib.hid hp2
        have HBB := Lib.hid (HL.out.trans (hb.mono HL.out.size))
        clear hr hp1 hp2 hb hn1 hn2 hb1 hb2
        go_wp2
        refine bodyPost_ret (v := .agg #[.bool b1, .slice pa1 n1 pc1, .bool b2, .slice pa2 n2 pc2]) ?_ ?_ ?_
        · simp [results, Try.results12, go_sem, r0, r1, r2, r3]
        · rfl
        · exact pr_done (P := P0) (r := w.heap.size + 1) (by omega) (by have := HSZ.out; omega) HD.out.1.1 HD.out.1.2 HD.out.2.1 HD.out.2.2 HF1.out HF2.out HBB.out
      · have hmi : ¬ (0 : Int) < (m : Int) := by omega
        have hP : P0 = noneP := by rw [HP0.out, if_neg h0, if_neg h1, if_neg h2, if_neg (fun h => hm0 h.2), if_neg (fun h => by have := h.1; omega)]
        subst hP
        have r0 := HR.out.d0
        have r1 := HR.out.d1
        have r2 := HR.out.d2
        have r3 := HR.out.d3
        have f0 := HR.out.fr 0
        have f1 := HR.out.fr 1
        have f2 := HR.out.fr 2
        have f3 := HR.out.fr 3
        clear HP0
        go_wp2
        refine bodyPost_ret (v := .agg #[.bool false, .slice none 0 0, .bool false, .slice none 0 0]) ?_ ?_ ?_
        · simp [results, Try.results12, go_sem, r0, r1, r2, r3]
        · rfl
        · exact pr_done (P := noneP) (r := w.heap.size + 1) (B := W.heap.size) (by omega) (by have := HSZ.out; omega) rfl rfl rfl rfl (FaB.nil _ _ _ _) (FaB.nil _ _ _ _) HL.out
    by_cases h4 : t.op = 4
    · by_cases hm2 : 2 < m
      · skip
        have hmi : (2 : Int) < (m : Int) := by omega
        have hP : P0 = ifP (prpT n (t.of.getD 0 te0)) (prpT n (t.of.getD 1 te0)) (prpT n (t.of.getD 2 te0)) := by rw [HP0.out, if_neg h0, if_neg h1, if_neg h2, if_neg (fun h => h3 h.1), if_pos ⟨h4, hm2⟩]
        have HPP := Lib.hid hP
        clear hP
        have hj0 : 0 < t.of.length := by rw [← HM.out]; omega
        obtain ⟨b, off, ea0, ec0, rfl, hb, e00, e01, e02, e03, e04, he0⟩ := HS.out.elem hj0
        obtain ⟨d0, hd0⟩ : ∃ d, d = t.of.getD 0 te0 := ⟨_, rfl⟩
        rw [← hd0] at HPP e00 e01 e02 e03 e04 he0
        have HLD0 := Lib.hid (show litT n d0 = true by
          refine HLI.out d0 ?_
          rw [hd0, List.getD_eq_getElem?_getD, List.getElem?_eq_getElem hj0]; exact List.getElem_mem hj0)
        have HE0 := Lib.hid he0
        obtain ⟨D0, hD0⟩ : ∃ D, D = prpT n d0 := ⟨_, rfl⟩
        rw [← hD0] at HPP
        have HDL0 := Lib.hid (show D0.th.l.length ≤ 1000 ∧ D0.el.l.length ≤ 1000 by
          have h := prp_len n d0
          have h64 : 2 ^ n ≤ 2 ^ 6 := Nat.pow_le_pow_right (by decide) (by omega)
          rw [← hD0] at h; omega)
        have HDD0 := Lib.hid hD0
        simp only [Nat.zero_mul, Nat.add_zero] at e00 e01 e02 e03 e04
        clear hd0 he0 hD0
        have hj1 : 1 < t.of.length := by rw [← HM.out]; omega
        obtain ⟨b1, off1, ea1, ec1, hpa1, _, e10, e11, e12, e13, e14, he1⟩ := HS.out.elem hj1
        cases hpa1
        obtain ⟨d1, hd1⟩ : ∃ d, d = t.of.getD 1 te0 := ⟨_, rfl⟩
        rw [← hd1] at HPP e10 e11 e12 e13 e14 he1
        have HLD1 := Lib.hid (show litT n d1 = true by
          refine HLI.out d1 ?_
          rw [hd1, List.getD_eq_getElem?_getD, List.getElem?_eq_getElem hj1]; exact List.getElem_mem hj1)
        have HE1 := Lib.hid he1
        obtain ⟨D1, hD1⟩ : ∃ D, D = prpT n d1 := ⟨_, rfl⟩
        rw [← hD1] at HPP
        have HDL1 := Lib.hid (show D1.th.l.length ≤ 1000 ∧ D1.el.l.length ≤ 1000 by
          have h := prp_len n d1
          have h64 : 2 ^ n ≤ 2 ^ 6 := Nat.pow_le_pow_right (by decide) (by omega)
          rw [← hD1] at h; omega)
        have HDD1 := Lib.hid hD1
        simp only [Nat.one_mul, Nat.add_assoc, Nat.reduceAdd] at e10 e11 e12 e13 e14
        clear hd1 he1 hD1
        have hj2 : 2 < t.of.length := by rw [← HM.out]; omega
        obtain ⟨b2, off2, ea2, ec2, hpa2, _, e20, e21, e22, e23, e24, he2⟩ := HS.out.elem hj2
        cases hpa2
        obtain ⟨d2, hd2⟩ : ∃ d, d = t.of.getD 2 te0 := ⟨_, rfl⟩
        rw [← hd2] at HPP e20 e21 e22 e23 e24 he2
        have HLD2 := Lib.hid (show litT n d2 = true by
          refine HLI.out d2 ?_
          rw [hd2, List.getD_eq_getElem?_getD, List.getElem?_eq_getElem hj2]; exact List.getElem_mem hj2)
        have HE2 := Lib.hid he2
        obtain ⟨D2, hD2⟩ : ∃ D, D = prpT n d2 := ⟨_, rfl⟩
        rw [← hD2] at HPP
        have HDL2 := Lib.hid (show D2.th.l.length ≤ 1000 ∧ D2.el.l.length ≤ 1000 by
          have h := prp_len n d2
          have h64 : 2 ^ n ≤ 2 ^ 6 := Nat.pow_le_pow_right (by decide) (by omega)
          rw [← hD2] at h; omega)
        have HDD2 := Lib.hid hD2
        simp only [Nat.reduceMul, Nat.add_assoc, Nat.reduceAdd] at e20 e21 e22 e23 e24
        clear hd2 he2 hD2
        have HXL := Lib.hid (Nat.lt_succ_self w.heap.size)
        have HBL := Lib.hid (show b < w.heap.size + 1 by
          obtain ⟨b9, off9, _, _, hpa9, hb9, _⟩ := HS0.out.elem hj0
          cases hpa9; omega)
        have n0 : 0 < m := by omega
        have n1 : 1 < m := by omega
        have z1 : (0 : Int) < (m : Int) := by omega
        have z2 : (1 : Int) < (m : Int) := by omega
        clear hb
        go_upto_region 13 with fail
        (try dsimp only [List.append])
        refine wp_region_noPanic ?_
        refine wp_region_held_drew (S := (fun w' => Below (w.heap.size + 1) W w')) (by kernel_rfl) (by (try dsimp only); exact (Below.refl _ _).drew) (fun hHeld => ?_)
        have HB0 := Lib.hid (show Below W.heap.size W W.drew from (Below.refl _ _).drew)
        generalize W.drew = wd at hHeld HB0 ⊢
        refine' tk_any 0 40 (v := _) ?hi47001 ?hd47001 (by kernel_rfl) (by kernel_rfl) (by kernel_rfl) (fun _ _ _ h => h) ?hy47001 hHeld ?hr47001
        case hi47001 => (simp only [List.getElem?_toArray, List.getElem?_cons_zero]; rfl)
        case hd47001 => rfl
        case hy47001 =>
          refine' Or.inl ⟨?hw47001, ?hx47001⟩
          case hw47001 => rfl
          case hx47001 => (intro wz hSw; (try dsimp only at hSw); have y4 := (Below.cell hSw (p := ⟨w.heap.size, 4, none⟩) HXL.out).trans x4; have y00 := (Below.cell hSw (p := ⟨b, _, none⟩) HBL.out).trans e00; have y01 := (Below.cell hSw (p := ⟨b, _, none⟩) HBL.out).trans e01; have y02 := (Below.cell hSw (p := ⟨b, _, none⟩) HBL.out).trans e02; have y03 := (Below.cell hSw (p := ⟨b, _, none⟩) HBL.out).trans e03; have y04 := (Below.cell hSw (p := ⟨b, _, none⟩) HBL.out).trans e04; have y10 := (Below.cell hSw (p := ⟨b, _, none⟩) HBL.out).trans e10; have y11 := (Below.cell hSw (p := ⟨b, _, none⟩) HBL.out).trans e11; have y12 := (Below.cell hSw (p := ⟨b, _, none⟩) HBL.out).trans e12; have y13 := (Below.cell hSw (p := ⟨b, _, none⟩) HBL.out).trans e13; have y14 := (Below.cell hSw (p := ⟨b, _, none⟩) HBL.out).trans e14; have y20 := (Below.cell hSw (p := ⟨b, _, none⟩) HBL.out).trans e20; have y21 := (Below.cell hSw (p := ⟨b, _, none⟩) HBL.out).trans e21; have y22 := (Below.cell hSw (p := ⟨b, _, none⟩) HBL.out).trans e22; have y23 := (Below.cell hSw (p := ⟨b, _, none⟩) HBL.out).trans e23; have y24 := (Below.cell hSw (p := ⟨b, _, none⟩) HBL.out).trans e24; go_simp; (try with_reducible rfl))
        (try simp only [Act.put, List.setIfInBounds_toArray, List.set_cons_zero, List.set_cons_succ])
        refine' tk_any 1 41 (v := _) ?hi47002 ?hd47002 (by kernel_rfl) (by kernel_rfl) (by kernel_rfl) (fun _ _ _ h => h) ?hy47002 hHeld ?hr47002
        case hi47002 => (simp only [List.getElem?_toArray, List.getElem?_cons_succ, List.getElem?_cons_zero]; rfl)
        case hd47002 => rfl
        case hy47002 =>
          refine' Or.inl ⟨?hw47002, ?hx47002⟩
          case hw47002 => rfl
          case hx47002 => (intro wz hSw; (try dsimp only at hSw); have y4 := (Below.cell hSw (p := ⟨w.heap.size, 4, none⟩) HXL.out).trans x4; have y00 := (Below.cell hSw (p := ⟨b, _, none⟩) HBL.out).trans e00; have y01 := (Below.cell hSw (p := ⟨b, _, none⟩) HBL.out).trans e01; have y02 := (Below.cell hSw (p := ⟨b, _, none⟩) HBL.out).trans e02; have y03 := (Below.cell hSw (p := ⟨b, _, none⟩) HBL.out).trans e03; have y04 := (Below.cell hSw (p := ⟨b, _, none⟩) HBL.out).trans e04; have y10 := (Below.cell hSw (p := ⟨b, _, none⟩) HBL.out).trans e10; have y11 := (Below.cell hSw (p := ⟨b, _, none⟩) HBL.out).trans e11; have y12 := (Below.cell hSw (p := ⟨b, _, none⟩) HBL.out).trans e12; have y13 := (Below.cell hSw (p := ⟨b, _, none⟩) HBL.out).trans e13; have y14 := (Below.cell hSw (p := ⟨b, _, none⟩) HBL.out).trans e14; have y20 := (Below.cell hSw (p := ⟨b, _, none⟩) HBL.out).trans e20; have y21 := (Below.cell hSw (p := ⟨b, _, none⟩) HBL.out).trans e21; have y22 := (Below.cell hSw (p := ⟨b, _, none⟩) HBL.out).trans e22; have y23 := (Below.cell hSw (p := ⟨b, _, none⟩) HBL.out).trans e23; have y24 := (Below.cell hSw (p := ⟨b, _, none⟩) HBL.out).trans e24; go_simp; (try with_reducible rfl))
        (try simp only [Act.put, List.setIfInBounds_toArray, List.set_cons_zero, List.set_cons_succ])
        refine' tk_any 2 42 (v := _) ?hi47003 ?hd47003 (by kernel_rfl) (by kernel_rfl) (by kernel_rfl) (fun _ _ _ h => h) ?hy47003 hHeld ?hr47003
        case hi47003 => (simp only [List.getElem?_toArray, List.getElem?_cons_succ, List.getElem?_cons_zero]; rfl)
        case hd47003 => rfl
        case hy47003 =>
          refine' Or.inl ⟨?hw47003, ?hx47003⟩
          case hw47003 => rfl
          case hx47003 => (intro wz hSw; (try dsimp only at hSw); have y4 := (Below.cell hSw (p := ⟨w.heap.size, 4, none⟩) HXL.out).trans x4; have y00 := (Below.cell hSw (p := ⟨b, _, none⟩) HBL.out).trans e00; have y01 := (Below.cell hSw (p := ⟨b, _, none⟩) HBL.out).trans e01; have y02 := (Below.cell hSw (p := ⟨b, _, none⟩) HBL.out).trans e02; have y03 := (Below.cell hSw (p := ⟨b, _, none⟩) HBL.out).trans e03; have y04 := (Below.cell hSw (p := ⟨b, _, none⟩) HBL.out).trans e04; have y10 := (Below.cell hSw (p := ⟨b, _, none⟩) HBL.out).trans e10; have y11 := (Below.cell hSw (p := ⟨b, _, none⟩) HBL.out).trans e11; have y12 := (Below.cell hSw (p := ⟨b, _, none⟩) HBL.out).trans e12; have y13 := (Below.cell hSw (p := ⟨b, _, none⟩) HBL.out).trans e13; have y14 := (Below.cell hSw (p := ⟨b, _, none⟩) HBL.out).trans e14; have y20 := (Below.cell hSw (p := ⟨b, _, none⟩) HBL.out).trans e20; have y21 := (Below.cell hSw (p := ⟨b, _, none⟩) HBL.out).trans e21; have y22 := (Below.cell hSw (p := ⟨b, _, none⟩) HBL.out).trans e22; have y23 := (Below.cell hSw (p := ⟨b, _, none⟩) HBL.out).trans e23; have y24 := (Below.cell hSw (p := ⟨b, _, none⟩) HBL.out).trans e24; go_simp; (try with_reducible rfl))
        (try simp only [Act.put, List.setIfInBounds_toArray, List.set_cons_zero, List.set_cons_succ])
        refine' tk_any 3 43 (v := _) ?hi47004 ?hd47004 (by kernel_rfl) (by kernel_rfl) (by kernel_rfl) (fun _ _ _ h => h) ?hy47004 hHeld ?hr47004
        case hi47004 => (simp only [List.getElem?_toArray, List.getElem?_cons_succ, List.getElem?_cons_zero]; rfl)
        case hd47004 => rfl
        case hy47004 =>
          refine' Or.inl ⟨?hw47004, ?hx47004⟩
          case hw47004 => rfl
          case hx47004 => (intro wz hSw; (try dsimp only at hSw); have y4 := (Below.cell hSw (p := ⟨w.heap.size, 4, none⟩) HXL.out).trans x4; have y00 := (Below.cell hSw (p := ⟨b, _, none⟩) HBL.out).trans e00; have y01 := (Below.cell hSw (p := ⟨b, _, none⟩) HBL.out).trans e01; have y02 := (Below.cell hSw (p := ⟨b, _, none⟩) HBL.out).trans e02; have y03 := (Below.cell hSw (p := ⟨b, _, none⟩) HBL.out).trans e03; have y04 := (Below.cell hSw (p := ⟨b, _, none⟩) HBL.out).trans e04; have y10 := (Below.cell hSw (p := ⟨b, _, none⟩) HBL.out).trans e10; have y11 := (Below.cell hSw (p := ⟨b, _, none⟩) HBL.out).trans e11; have y12 := (Below.cell hSw (p := ⟨b, _, none⟩) HBL.out).trans e12; have y13 := (Below.cell hSw (p := ⟨b, _, none⟩) HBL.out).trans e13; have y14 := (Below.cell hSw (p := ⟨b, _, none⟩) HBL.out).trans e14; have y20 := (Below.cell hSw (p := ⟨b, _, none⟩) HBL.out).trans e20; have y21 := (Below.cell hSw (p := ⟨b, _, none⟩) HBL.out).trans e21; have y22 := (Below.cell hSw (p := ⟨b, _, none⟩) HBL.out).trans e22; have y23 := (Below.cell hSw (p := ⟨b, _, none⟩) HBL.out).trans e23; have y24 := (Below.cell hSw (p := ⟨b, _, none⟩) HBL.out).trans e24; go_simp; (try with_reducible rfl))
        (try simp only [Act.put, List.setIfInBounds_toArray, List.set_cons_zero, List.set_cons_succ])
        refine' tk_any 5 45 (v := _) ?hi47005 ?hd47005 (by kernel_rfl) (by kernel_rfl) (by kernel_rfl) (fun _ _ _ h => h) ?hy47005 hHeld ?hr47005
        case hi47005 => (simp only [List.getElem?_toArray, List.getElem?_cons_succ, List.getElem?_cons_zero]; rfl)
        case hd47005 => rfl
        case hy47005 =>
          refine' Or.inl ⟨?hw47005, ?hx47005⟩
          case hw47005 => rfl
          case hx47005 => (intro wz hSw; (try dsimp only at hSw); have y4 := (Below.cell hSw (p := ⟨w.heap.size, 4, none⟩) HXL.out).trans x4; have y00 := (Below.cell hSw (p := ⟨b, _, none⟩) HBL.out).trans e00; have y01 := (Below.cell hSw (p := ⟨b, _, none⟩) HBL.out).trans e01; have y02 := (Below.cell hSw (p := ⟨b, _, none⟩) HBL.out).trans e02; have y03 := (Below.cell hSw (p := ⟨b, _, none⟩) HBL.out).trans e03; have y04 := (Below.cell hSw (p := ⟨b, _, none⟩) HBL.out).trans e04; have y10 := (Below.cell hSw (p := ⟨b, _, none⟩) HBL.out).trans e10; have y11 := (Below.cell hSw (p := ⟨b, _, none⟩) HBL.out).trans e11; have y12 := (Below.cell hSw (p := ⟨b, _, none⟩) HBL.out).trans e12; have y13 := (Below.cell hSw (p := ⟨b, _, none⟩) HBL.out).trans e13; have y14 := (Below.cell hSw (p := ⟨b, _, none⟩) HBL.out).trans e14; have y20 := (Below.cell hSw (p := ⟨b, _, none⟩) HBL.out).trans e20; have y21 := (Below.cell hSw (p := ⟨b, _, none⟩) HBL.out).trans e21; have y22 := (Below.cell hSw (p := ⟨b, _, none⟩) HBL.out).trans e22; have y23 := (Below.cell hSw (p := ⟨b, _, none⟩) HBL.out).trans e23; have y24 := (Below.cell hSw (p := ⟨b, _, none⟩) HBL.out).trans e24; go_simp; (try with_reducible rfl))
        (try simp only [Act.put, List.setIfInBounds_toArray, List.set_cons_zero, List.set_cons_succ])
        refine' tk_any 6 46 (v := _) ?hi47006 ?hd47006 (by kernel_rfl) (by kernel_rfl) (by kernel_rfl) (fun _ _ _ h => h) ?hy47006 hHeld ?hr47006
        case hi47006 => (simp only [List.getElem?_toArray, List.getElem?_cons_succ, List.getElem?_cons_zero]; rfl)
        case hd47006 => rfl
        case hy47006 =>
          refine' Or.inl ⟨?hw47006, ?hx47006⟩
          case hw47006 => rfl
          case hx47006 => (intro wz hSw; (try dsimp only at hSw); have y4 := (Below.cell hSw (p := ⟨w.heap.size, 4, none⟩) HXL.out).trans x4; have y00 := (Below.cell hSw (p := ⟨b, _, none⟩) HBL.out).trans e00; have y01 := (Below.cell hSw (p := ⟨b, _, none⟩) HBL.out).trans e01; have y02 := (Below.cell hSw (p := ⟨b, _, none⟩) HBL.out).trans e02; have y03 := (Below.cell hSw (p := ⟨b, _, none⟩) HBL.out).trans e03; have y04 := (Below.cell hSw (p := ⟨b, _, none⟩) HBL.out).trans e04; have y10 := (Below.cell hSw (p := ⟨b, _, none⟩) HBL.out).trans e10; have y11 := (Below.cell hSw (p := ⟨b, _, none⟩) HBL.out).trans e11; have y12 := (Below.cell hSw (p := ⟨b, _, none⟩) HBL.out).trans e12; have y13 := (Below.cell hSw (p := ⟨b, _, none⟩) HBL.out).trans e13; have y14 := (Below.cell hSw (p := ⟨b, _, none⟩) HBL.out).trans e14; have y20 := (Below.cell hSw (p := ⟨b, _, none⟩) HBL.out).trans e20; have y21 := (Below.cell hSw (p := ⟨b, _, none⟩) HBL.out).trans e21; have y22 := (Below.cell hSw (p := ⟨b, _, none⟩) HBL.out).trans e22; have y23 := (Below.cell hSw (p := ⟨b, _, none⟩) HBL.out).trans e23; have y24 := (Below.cell hSw (p := ⟨b, _, none⟩) HBL.out).trans e24; go_simp; (try with_reducible rfl))
        (try simp only [Act.put, List.setIfInBounds_toArray, List.set_cons_zero, List.set_cons_succ])
        refine' tk_any 7 47 (v := _) ?hi47007 ?hd47007 (by kernel_rfl) (by kernel_rfl) (by kernel_rfl) (fun _ _ _ h => h) ?hy47007 hHeld ?hr47007
        case hi47007 => (simp only [List.getElem?_toArray, List.getElem?_cons_succ, List.getElem?_cons_zero]; rfl)
        case hd47007 => rfl
        case hy47007 =>
          refine' Or.inl ⟨?hw47007, ?hx47007⟩
          case hw47007 => rfl
          case hx47007 => (intro wz hSw; (try dsimp only at hSw); have y4 := (Below.cell hSw (p := ⟨w.heap.size, 4, none⟩) HXL.out).trans x4; have y00 := (Below.cell hSw (p := ⟨b, _, none⟩) HBL.out).trans e00; have y01 := (Below.cell hSw (p := ⟨b, _, none⟩) HBL.out).trans e01; have y02 := (Below.cell hSw (p := ⟨b, _, none⟩) HBL.out).trans e02; have y03 := (Below.cell hSw (p := ⟨b, _, none⟩) HBL.out).trans e03; have y04 := (Below.cell hSw (p := ⟨b, _, none⟩) HBL.out).trans e04; have y10 := (Below.cell hSw (p := ⟨b, _, none⟩) HBL.out).trans e10; have y11 := (Below.cell hSw (p := ⟨b, _, none⟩) HBL.out).trans e11; have y12 := (Below.cell hSw (p := ⟨b, _, none⟩) HBL.out).trans e12; have y13 := (Below.cell hSw (p := ⟨b, _, none⟩) HBL.out).trans e13; have y14 := (Below.cell hSw (p := ⟨b, _, none⟩) HBL.out).trans e14; have y20 := (Below.cell hSw (p := ⟨b, _, none⟩) HBL.out).trans e20; have y21 := (Below.cell hSw (p := ⟨b, _, none⟩) HBL.out).trans e21; have y22 := (Below.cell hSw (p := ⟨b, _, none⟩) HBL.out).trans e22; have y23 := (Below.cell hSw (p := ⟨b, _, none⟩) HBL.out).trans e23; have y24 := (Below.cell hSw (p := ⟨b, _, none⟩) HBL.out).trans e24; go_simp; (try with_reducible rfl))
        (try simp only [Act.put, List.setIfInBounds_toArray, List.set_cons_zero, List.set_cons_succ])
        refine' tk_any 8 48 (v := _) ?hi47008 ?hd47008 (by kernel_rfl) (by kernel_rfl) (by kernel_rfl) (fun _ _ _ h => h) ?hy47008 hHeld ?hr47008
        case hi47008 => (simp only [List.getElem?_toArray, List.getElem?_cons_succ, List.getElem?_cons_zero]; rfl)
        case hd47008 => rfl
        case hy47008 =>
          refine' Or.inl ⟨?hw47008, ?hx47008⟩
          case hw47008 => rfl
          case hx47008 => (intro wz hSw; (try dsimp only at hSw); have y4 := (Below.cell hSw (p := ⟨w.heap.size, 4, none⟩) HXL.out).trans x4; have y00 := (Below.cell hSw (p := ⟨b, _, none⟩) HBL.out).trans e00; have y01 := (Below.cell hSw (p := ⟨b, _, none⟩) HBL.out).trans e01; have y02 := (Below.cell hSw (p := ⟨b, _, none⟩) HBL.out).trans e02; have y03 := (Below.cell hSw (p := ⟨b, _, none⟩) HBL.out).trans e03; have y04 := (Below.cell hSw (p := ⟨b, _, none⟩) HBL.out).trans e04; have y10 := (Below.cell hSw (p := ⟨b, _, none⟩) HBL.out).trans e10; have y11 := (Below.cell hSw (p := ⟨b, _, none⟩) HBL.out).trans e11; have y12 := (Below.cell hSw (p := ⟨b, _, none⟩) HBL.out).trans e12; have y13 := (Below.cell hSw (p := ⟨b, _, none⟩) HBL.out).trans e13; have y14 := (Below.cell hSw (p := ⟨b, _, none⟩) HBL.out).trans e14; have y20 := (Below.cell hSw (p := ⟨b, _, none⟩) HBL.out).trans e20; have y21 := (Below.cell hSw (p := ⟨b, _, none⟩) HBL.out).trans e21; have y22 := (Below.cell hSw (p := ⟨b, _, none⟩) HBL.out).trans e22; have y23 := (Below.cell hSw (p := ⟨b, _, none⟩) HBL.out).trans e23; have y24 := (Below.cell hSw (p := ⟨b, _, none⟩) HBL.out).trans e24; go_simp; (try with_reducible rfl))
        (try simp only [Act.put, List.setIfInBounds_toArray, List.set_cons_zero, List.set_cons_succ])
        refine' tk_any 10 50 (v := _) ?hi47009 ?hd47009 (by kernel_rfl) (by kernel_rfl) (by kernel_rfl) (fun _ _ _ h => h) ?hy47009 hHeld ?hr47009
        case hi47009 => (simp only [List.getElem?_toArray, List.getElem?_cons_succ, List.getElem?_cons_zero]; rfl)
        case hd47009 => rfl
        case hy47009 =>
          refine' Or.inl ⟨?hw47009, ?hx47009⟩
          case hw47009 => rfl
          case hx47009 => (intro wz hSw; (try dsimp only at hSw); have y4 := (Below.cell hSw (p := ⟨w.heap.size, 4, none⟩) HXL.out).trans x4; have y00 := (Below.cell hSw (p := ⟨b, _, none⟩) HBL.out).trans e00; have y01 := (Below.cell hSw (p := ⟨b, _, none⟩) HBL.out).trans e01; have y02 := (Below.cell hSw (p := ⟨b, _, none⟩) HBL.out).trans e02; have y03 := (Below.cell hSw (p := ⟨b, _, none⟩) HBL.out).trans e03; have y04 := (Below.cell hSw (p := ⟨b, _, none⟩) HBL.out).trans e04; have y10 := (Below.cell hSw (p := ⟨b, _, none⟩) HBL.out).trans e10; have y11 := (Below.cell hSw (p := ⟨b, _, none⟩) HBL.out).trans e11; have y12 := (Below.cell hSw (p := ⟨b, _, none⟩) HBL.out).trans e12; have y13 := (Below.cell hSw (p := ⟨b, _, none⟩) HBL.out).trans e13; have y14 := (Below.cell hSw (p := ⟨b, _, none⟩) HBL.out).trans e14; have y20 := (Below.cell hSw (p := ⟨b, _, none⟩) HBL.out).trans e20; have y21 := (Below.cell hSw (p := ⟨b, _, none⟩) HBL.out).trans e21; have y22 := (Below.cell hSw (p := ⟨b, _, none⟩) HBL.out).trans e22; have y23 := (Below.cell hSw (p := ⟨b, _, none⟩) HBL.out).trans e23; have y24 := (Below.cell hSw (p := ⟨b, _, none⟩) HBL.out).trans e24; go_simp; (try with_reducible rfl))
        (try simp only [Act.put, List.setIfInBounds_toArray, List.set_cons_zero, List.set_cons_succ])
        refine' tk_any 11 51 (v := _) ?hi47010 ?hd47010 (by kernel_rfl) (by kernel_rfl) (by kernel_rfl) (fun _ _ _ h => h) ?hy47010 hHeld ?hr47010
        case hi47010 => (simp only [List.getElem?_toArray, List.getElem?_cons_succ, List.getElem?_cons_zero]; rfl)
        case hd47010 => rfl
        case hy47010 =>
          refine' Or.inl ⟨?hw47010, ?hx47010⟩
          case hw47010 => rfl
          case hx47010 => (intro wz hSw; (try dsimp only at hSw); have y4 := (Below.cell hSw (p := ⟨w.heap.size, 4, none⟩) HXL.out).trans x4; have y00 := (Below.cell hSw (p := ⟨b, _, none⟩) HBL.out).trans e00; have y01 := (Below.cell hSw (p := ⟨b, _, none⟩) HBL.out).trans e01; have y02 := (Below.cell hSw (p := ⟨b, _, none⟩) HBL.out).trans e02; have y03 := (Below.cell hSw (p := ⟨b, _, none⟩) HBL.out).trans e03; have y04 := (Below.cell hSw (p := ⟨b, _, none⟩) HBL.out).trans e04; have y10 := (Below.cell hSw (p := ⟨b, _, none⟩) HBL.out).trans e10; have y11 := (Below.cell hSw (p := ⟨b, _, none⟩) HBL.out).trans e11; have y12 := (Below.cell hSw (p := ⟨b, _, none⟩) HBL.out).trans e12; have y13 := (Below.cell hSw (p := ⟨b, _, none⟩) HBL.out).trans e13; have y14 := (Below.cell hSw (p := ⟨b, _, none⟩) HBL.out).trans e14; have y20 := (Below.cell hSw (p := ⟨b, _, none⟩) HBL.out).trans e20; have y21 := (Below.cell hSw (p := ⟨b, _, none⟩) HBL.out).trans e21; have y22 := (Below.cell hSw (p := ⟨b, _, none⟩) HBL.out).trans e22; have y23 := (Below.cell hSw (p := ⟨b, _, none⟩) HBL.out).trans e23; have y24 := (Below.cell hSw (p := ⟨b, _, none⟩) HBL.out).trans e24; go_simp; (try with_reducible rfl))
        (try simp only [Act.put, List.setIfInBounds_toArray, List.set_cons_zero, List.set_cons_succ])
        refine' tk_any 12 52 (v := _) ?hi47011 ?hd47011 (by kernel_rfl) (by kernel_rfl) (by kernel_rfl) (fun _ _ _ h => h) ?hy47011 hHeld ?hr47011
        case hi47011 => (simp only [List.getElem?_toArray, List.getElem?_cons_succ, List.getElem?_cons_zero]; rfl)
        case hd47011 => rfl
        case hy47011 =>
          refine' Or.inl ⟨?hw47011, ?hx47011⟩
          case hw47011 => rfl
          case hx47011 => (intro wz hSw; (try dsimp only at hSw); have y4 := (Below.cell hSw (p := ⟨w.heap.size, 4, none⟩) HXL.out).trans x4; have y00 := (Below.cell hSw (p := ⟨b, _, none⟩) HBL.out).trans e00; have y01 := (Below.cell hSw (p := ⟨b, _, none⟩) HBL.out).trans e01; have y02 := (Below.cell hSw (p := ⟨b, _, none⟩) HBL.out).trans e02; have y03 := (Below.cell hSw (p := ⟨b, _, none⟩) HBL.out).trans e03; have y04 := (Below.cell hSw (p := ⟨b, _, none⟩) HBL.out).trans e04; have y10 := (Below.cell hSw (p := ⟨b, _, none⟩) HBL.out).trans e10; have y11 := (Below.cell hSw (p := ⟨b, _, none⟩) HBL.out).trans e11; have y12 := (Below.cell hSw (p := ⟨b, _, none⟩) HBL.out).trans e12; have y13 := (Below.cell hSw (p := ⟨b, _, none⟩) HBL.out).trans e13; have y14 := (Below.cell hSw (p := ⟨b, _, none⟩) HBL.out).trans e14; have y20 := (Below.cell hSw (p := ⟨b, _, none⟩) HBL.out).trans e20; have y21 := (Below.cell hSw (p := ⟨b, _, none⟩) HBL.out).trans e21; have y22 := (Below.cell hSw (p := ⟨b, _, none⟩) HBL.out).trans e22; have y23 := (Below.cell hSw (p := ⟨b, _, none⟩) HBL.out).trans e23; have y24 := (Below.cell hSw (p := ⟨b, _, none⟩) HBL.out).trans e24; go_simp; (try with_reducible rfl))
        (try simp only [Act.put, List.setIfInBounds_toArray, List.set_cons_zero, List.set_cons_succ])
        refine' tk_any 13 53 (v := _) ?hi47012 ?hd47012 (by kernel_rfl) (by kernel_rfl) (by kernel_rfl) (fun _ _ _ h => h) ?hy47012 hHeld ?hr47012
        case hi47012 => (simp only [List.getElem?_toArray, List.getElem?_cons_succ, List.getElem?_cons_zero]; rfl)
        case hd47012 => rfl
        case hy47012 =>
          refine' Or.inl ⟨?hw47012, ?hx47012⟩
          case hw47012 => rfl
          case hx47012 => (intro wz hSw; (try dsimp only at hSw); have y4 := (Below.cell hSw (p := ⟨w.heap.size, 4, none⟩) HXL.out).trans x4; have y00 := (Below.cell hSw (p := ⟨b, _, none⟩) HBL.out).trans e00; have y01 := (Below.cell hSw (p := ⟨b, _, none⟩) HBL.out).trans e01; have y02 := (Below.cell hSw (p := ⟨b, _, none⟩) HBL.out).trans e02; have y03 := (Below.cell hSw (p := ⟨b, _, none⟩) HBL.out).trans e03; have y04 := (Below.cell hSw (p := ⟨b, _, none⟩) HBL.out).trans e04; have y10 := (Below.cell hSw (p := ⟨b, _, none⟩) HBL.out).trans e10; have y11 := (Below.cell hSw (p := ⟨b, _, none⟩) HBL.out).trans e11; have y12 := (Below.cell hSw (p := ⟨b, _, none⟩) HBL.out).trans e12; have y13 := (Below.cell hSw (p := ⟨b, _, none⟩) HBL.out).trans e13; have y14 := (Below.cell hSw (p := ⟨b, _, none⟩) HBL.out).trans e14; have y20 := (Below.cell hSw (p := ⟨b, _, none⟩) HBL.out).trans e20; have y21 := (Below.cell hSw (p := ⟨b, _, none⟩) HBL.out).trans e21; have y22 := (Below.cell hSw (p := ⟨b, _, none⟩) HBL.out).trans e22; have y23 := (Below.cell hSw (p := ⟨b, _, none⟩) HBL.out).trans e23; have y24 := (Below.cell hSw (p := ⟨b, _, none⟩) HBL.out).trans e24; go_simp; (try with_reducible rfl))
        (try simp only [Act.put, List.setIfInBounds_toArray, List.set_cons_zero, List.set_cons_succ])
        refine' tk_call 4 ?hi47013 (by kernel_rfl) ?hr47013
        case hi47013 => (simp only [List.getElem?_toArray, List.getElem?_cons_succ, List.getElem?_cons_zero]; rfl)
        intro K hK
        go_simp
        go_at_call 12
        refine (IH.out d0 _ wd HLD0.out ⟨_, rfl, HE0.out.keep HB0.out⟩).mono ?_
        rintro e g0 ⟨⟨v, rfl, qa0, qc0, ra0, rc0, rfl, hq1, hq2⟩, hb⟩
        rw [← HDD0.out] at hq1 hq2 ⊢
        replace HB0 := Lib.hid (HB0.out.trans (hb.mono HB0.out.size))
        have HQ0 := Lib.hid hq1
        have HR0 := Lib.hid hq2
        clear hq1 hq2 hb
        go_wp2_with fail
        clear hHeld
        refine hK.out _ _ (by (try dsimp only); exact HB0.out.mono (by have := HSZ.out; omega)) (fun hHeld => ?_)
        clear hK K
        (try simp only [Act.put, List.setIfInBounds_toArray, List.set_cons_zero, List.set_cons_succ])
        refine' tk_call 9 ?hi47014 (by kernel_rfl) ?hr47014
        case hi47014 => (simp only [List.getElem?_toArray, List.getElem?_cons_succ, List.getElem?_cons_zero]; rfl)
        intro K hK
        go_simp
        go_at_call 12
        refine (IH.out d1 _ g0 HLD1.out ⟨_, rfl, HE1.out.keep HB0.out⟩).mono ?_
        rintro e g1 ⟨⟨v, rfl, qa1, qc1, ra1, rc1, rfl, hq1, hq2⟩, hb⟩
        rw [← HDD1.out] at hq1 hq2 ⊢
        replace HB0 := Lib.hid (HB0.out.trans (hb.mono HB0.out.size))
        replace HQ0 := Lib.hid (HQ0.out.below hb)
        replace HR0 := Lib.hid (HR0.out.below hb)
        have HQ1 := Lib.hid hq1
        have HR1 := Lib.hid hq2
        clear hq1 hq2 hb
        go_wp2_with fail
        clear hHeld
        refine hK.out _ _ (by (try dsimp only); exact HB0.out.mono (by have := HSZ.out; omega)) (fun hHeld => ?_)
        clear hK K
        (try simp only [Act.put, List.setIfInBounds_toArray, List.set_cons_zero, List.set_cons_succ])
        refine' tk_call 14 ?hi47015 (by kernel_rfl) ?hr47015
        case hi47015 => (simp only [List.getElem?_toArray, List.getElem?_cons_succ, List.getElem?_cons_zero]; rfl)
        intro K hK
        go_simp
        go_at_call 12
        refine (IH.out d2 _ g1 HLD2.out ⟨_, rfl, HE2.out.keep HB0.out⟩).mono ?_
        rintro e g2 ⟨⟨v, rfl, qa2, qc2, ra2, rc2, rfl, hq1, hq2⟩, hb⟩
        rw [← HDD2.out] at hq1 hq2 ⊢
        replace HB0 := Lib.hid (HB0.out.trans (hb.mono HB0.out.size))
        replace HQ0 := Lib.hid (HQ0.out.below hb)
        replace HR0 := Lib.hid (HR0.out.below hb)
        replace HQ1 := Lib.hid (HQ1.out.below hb)
        replace HR1 := Lib.hid (HR1.out.below hb)
        have HQ2 := Lib.hid hq1
        have HR2 := Lib.hid hq2
        clear hq1 hq2 hb
        go_wp2_with fail
        clear hHeld
        refine hK.out _ _ (by (try dsimp only); exact HB0.out.mono (by have := HSZ.out; omega)) (fun hHeld => ?_)
        clear hK K
        (try simp only [Act.put, List.setIfInBounds_toArray, List.set_cons_zero, List.set_cons_succ])
        refine' tk_call 15 ?hi47016 (by kernel_rfl) ?hr47016
        case hi47016 => (simp only [List.getElem?_toArray, List.getElem?_cons_succ, List.getElem?_cons_zero]; rfl)
        intro K hK
        go_simp
        go_at_call 44
        refine (refif_go _ _ _ qa0 ra0 _ qc0 _ rc0 D0 qa1 ra1 _ qc1 _ rc1 D1 qa2 ra2 _ qc2 _ rc2 D2 g2 rfl rfl HDL0.out.1 HDL0.out.2 HQ0.out HR0.out rfl rfl HDL1.out.1 HDL1.out.2 HQ1.out HR1.out rfl rfl HDL2.out.1 HDL2.out.2 HQ2.out HR2.out).mono ?_
        rintro e w2 ⟨⟨v, rfl, pa1, pc1, pa2, pc2, rfl, hp1, hp2⟩, hb⟩
        have HB3 := HB0
        replace hb := HB0.out.trans (hb.mono HB0.out.size)
        have HB4 := Lib.hid hb
        rw [← HPP.out] at hp1 hp2 ⊢
        obtain ⟨n1, hn1⟩ : ∃ k, k = P0.th.l.length := ⟨_, rfl⟩
        obtain ⟨n2, hn2⟩ : ∃ k, k = P0.el.l.length := ⟨_, rfl⟩
        obtain ⟨b1, hb1⟩ : ∃ k, k = P0.th.never := ⟨_, rfl⟩
        obtain ⟨b2, hb2⟩ : ∃ k, k = P0.el.never := ⟨_, rfl⟩
        rw [← hn1] at hp1 ⊢
        rw [← hn2] at hp2 ⊢
        rw [← hb1, ← hb2]
        have hr := HR.out.keep hb
        have r0 := hr.d0
        have r1 := hr.d1
        have r2 := hr.d2
        have r3 := hr.d3
        have f0 := hr.fr 0
        have f1 := hr.fr 1
        have f2 := hr.fr 2
        have f3 := hr.fr 3
        have HD := Lib.hid (show (n1 = P0.th.l.length ∧ n2 = P0.el.l.length) ∧ b1 = P0.th.never ∧ b2 = P0.el.never from ⟨⟨hn1, hn2⟩, hb1, hb2⟩)
        have HF1 := Lib.hid hp1
        have HF2 := Lib.hid hp2
        have HBB := Lib.hid (HL.out.trans (hb.mono HL.out.size))
        clear hr hp1 hp2 hb hn1 hn2 hb1 hb2
        go_wp2_with fail
        clear hHeld
        refine hK.out _ _ (by (try dsimp only); exact HB4.out.mono (by have := HSZ.out; omega)) (fun hHeld => ?_)
        clear hK K
        (try simp only [Act.put, List.setIfInBounds_toArray, List.set_cons_zero, List.set_cons_succ])
        refine' tk_call 16 ?hi47017 (by kernel_rfl) ?hr47017
        case hi47017 => (simp only [List.getElem?_toArray, List.getElem?_cons_succ, List.getElem?_cons_zero]; rfl)
        intro K hK
        go_simp
        clear hHeld
        refine hK.out _ _ (by (try dsimp only); exact ((((HB4.out.mono (by have := HSZ.out; omega : w.heap.size + 1 ≤ W.heap.size)).setCell (p := ⟨w.heap.size + 1, 0, none⟩) (Nat.le_refl _) _).setCell (p := ⟨w.heap.size + 1, 1, none⟩) (Nat.le_refl _) _).setCell (p := ⟨w.heap.size + 1, 2, none⟩) (Nat.le_refl _) _).setCell (p := ⟨w.heap.size + 1, 3, none⟩) (Nat.le_refl _) _) (fun hHeld => ?_)
        clear hK K
        (try simp only [Act.put, List.setIfInBounds_toArray, List.set_cons_zero, List.set_cons_succ])
        refine wpAnyH_done (by kernel_rfl) ?_ _
        refine NoPanic.normal ?_
        go_wp2
        refine bodyPost_ret (v := .agg #[.bool b1, .slice pa1 n1 pc1, .bool b2, .slice pa2 n2 pc2]) ?_ ?_ ?_
        · simp [results, Try.results12, go_sem, r0, r1, r2, r3]
        · rfl
        · exact pr_done (P := P0) (r := w.heap.size + 1) (by omega) (by have h1 := HSZ.out; have h2 := HB3.out.size; omega) HD.out.1.1 HD.out.1.2 HD.out.2.1 HD.out.2.2 HF1.out HF2.out HBB.out
      · have hmi : ¬ (2 : Int) < (m : Int) := by omega
        have hP : P0 = noneP := by rw [HP0.out, if_neg h0, if_neg h1, if_neg h2, if_neg (fun h => h3 h.1), if_neg (fun h => hm2 h.2)]
        subst hP
        have r0 := HR.out.d0
        have r1 := HR.out.d1
        have r2 := HR.out.d2
        have r3 := HR.out.d3
        have f0 := HR.out.fr 0
        have f1 := HR.out.fr 1
        have f2 := HR.out.fr 2
        have f3 := HR.out.fr 3
        clear HP0
        go_wp2
        refine bodyPost_ret (v := .agg #[.bool false, .slice none 0 0, .bool false, .slice none 0 0]) ?_ ?_ ?_
        · simp [results, Try.results12, go_sem, r0, r1, r2, r3]
        · rfl
        · exact pr_done (P := noneP) (r := w.heap.size + 1) (B := W.heap.size) (by omega) (by have := HSZ.out; omega) rfl rfl rfl rfl (FaB.nil _ _ _ _) (FaB.nil _ _ _ _) HL.out
    have hP : P0 = noneP := by rw [HP0.out, if_neg h0, if_neg h1, if_neg h2, if_neg (fun h => h3 h.1), if_neg (fun h => h4 h.1)]
    subst hP
    have r0 := HR.out.d0
    have r1 := HR.out.d1
    have r2 := HR.out.d2
    have r3 := HR.out.d3
    have f0 := HR.out.fr 0
    have f1 := HR.out.fr 1
    have f2 := HR.out.fr 2
    have f3 := HR.out.fr 3
    clear HP0
    go_wp2
    refine bodyPost_ret (v := .agg #[.bool false, .slice none 0 0, .bool false, .slice none 0 0]) ?_ ?_ ?_
    · simp [results, Try.results12, go_sem, r0, r1, r2, r3]
    · rfl
    · exact pr_done (P := noneP) (r := w.heap.size + 1) (B := W.heap.size) (by omega) (by have := HSZ.out; omega) rfl rfl rfl rfl (FaB.nil _ _ _ _) (FaB.nil _ _ _ _) HL.out
end Go.Proofs.Ytgjkobkcmgliaaa
