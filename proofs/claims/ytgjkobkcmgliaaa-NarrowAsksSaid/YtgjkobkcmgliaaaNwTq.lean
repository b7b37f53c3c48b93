import Derived.Test.YtgjkobkcmgliaaaNwTp
import Derived.Test.YtgjkobkcmgliaaaNwN
namespace Go.Proofs.Ytgjkobkcmgliaaa
open Go.RowKit

theorem prp_succ (n : Nat) (t : Tst) : prpT (n + 1) t = if t.op = 0 then isP t.vr t.tags else if t.op = 1 then truthP t.vr else if t.op = 2 then constP t.yes else
    if t.op = 3 ∧ 0 < t.of.length then notP (prpT n (t.of.getD 0 te0)) else
    if t.op = 4 ∧ 2 < t.of.length then ifP (prpT n (t.of.getD 0 te0)) (prpT n (t.of.getD 1 te0)) (prpT n (t.of.getD 2 te0)) else noneP := rfl

set_option maxRecDepth 100000 in
set_option maxHeartbeats 8000000 in
theorem prop_go (n : Nat) (hn : n ≤ 6) : ∀ (t : Tst) (v : Value) (w : World), litT n t = true → TeV w v t → Calls Try.prog 11 #[v] w (PrPost (prpT n t) w) := by
  induction n with
  | zero => intro t v w h; cases h
  | succ n ih =>
    intro t v w hlit hv
    obtain ⟨a, c, rfl, hs⟩ := hv.form
    have IH := Lib.hid (ih (by omega))
    have HLI := Lib.hid (show ∀ x ∈ t.of, litT n x = true from fun x hx => by
      have h : (decide (t.of.length ≤ 5) && t.of.all (litT n)) = true := hlit
      rw [Bool.and_eq_true, List.all_eq_true] at h
      exact h.2 x hx)
    clear ih hlit
    obtain ⟨m, hm⟩ : ∃ m, m = t.of.length := ⟨_, rfl⟩
    rw [← hm] at hs ⊢
    have hml := hs.len
    rw [← hm] at hml
    have bm : (m : Int) ≤ 9223372036854775807 := by unfold maxLen at hml; omega
    obtain ⟨P0, hP0⟩ : ∃ P0, P0 = prpT (n + 1) t := ⟨_, rfl⟩
    rw [← hP0]
    rw [prp_succ, ← hm] at hP0
    have HP0 := Lib.hid hP0
    obtain ⟨W, hW⟩ : ∃ W, W = (w.alloc (.cells #[.int .i64 t.op, .int .i64 t.vr, .int .i64 t.tags, .bool t.yes, .slice a m c] 24)).alloc (.cells #[.bool false, .slice none 0 0, .bool false, .slice none 0 0] 32) := ⟨_, rfl⟩
    have HX := Lib.hid (show Bx W w.heap.size 24 #[.int .i64 t.op, .int .i64 t.vr, .int .i64 t.tags, .bool t.yes, .slice a m c] by rw [hW]; exact alloc_past (alloc_at rfl) (by simp))
    have HR := Lib.hid (show Bx W (w.heap.size + 1) 32 #[.bool false, .slice none 0 0, .bool false, .slice none 0 0] by rw [hW]; exact alloc_at (by simp))
    have HL := Lib.hid (show Below w.heap.size w W by rw [hW]; exact ((Below.refl _ _).alloc (Nat.le_refl _) _).alloc (by simp) _)
    have HSZ := Lib.hid (show W.heap.size = w.heap.size + 1 + 1 by rw [hW]; simp)
    have HS0 := Lib.hid hs
    have HS := Lib.hid (hs.keep HL.out)
    have HM := Lib.hid hm
    have HW := Lib.hid hW
    have x0 : W.cell? ⟨w.heap.size, 0, none⟩ = some (.int .i64 t.op) := HX.out.c 0
    have x1 : W.cell? ⟨w.heap.size, 1, none⟩ = some (.int .i64 t.vr) := HX.out.c 1
    have x2 : W.cell? ⟨w.heap.size, 2, none⟩ = some (.int .i64 t.tags) := HX.out.c 2
    have x3 : W.cell? ⟨w.heap.size, 3, none⟩ = some (.bool t.yes) := HX.out.c 3
    have x4 : W.cell? ⟨w.heap.size, 4, none⟩ = some (.slice a m c) := HX.out.c 4
    clear hs hm hW hml hP0 hv
    go_enter Try.func11, Try.ntmps11
    go_upto_region 1 with fail
    rw [← HW.out]
    by_cases h0 : t.op = 0
    · have hP : P0 = isP t.vr t.tags := by rw [HP0.out, if_pos h0]
      have HPP := Lib.hid hP
      clear hP
      go_wp2_with fail
      refine (pis_go t.vr t.tags W).mono ?_
      rintro e w2 ⟨⟨v, rfl, pa1, pc1, pa2, pc2, rfl, hp1, hp2⟩, hb⟩
      rw [← HPP.out] at hp1 hp2 ⊢
      obtain ⟨n1, hn1⟩ : ∃ k, k = P0.th.l.length := ⟨_, rfl⟩
      obtain ⟨n2, hn2⟩ : ∃ k, k = P0.el.l.length := ⟨_, rfl⟩
      obtain ⟨b1, hb1⟩ : ∃ k, k = P0.th.never := ⟨_, rfl⟩
      obtain ⟨b2, hb2⟩ : ∃ k, k = P0.el.never := ⟨_, rfl⟩
      rw [← hn1] at hp1 ⊢
      rw [← hn2] at hp2 ⊢
      rw [← hb1, ← hb2]
      have hr := HR.out.keep hb
      have r0 := hr.d0
      have r1 := hr.d1
      have r2 := hr.d2
      have r3 := hr.d3
      have f0 := hr.fr 0
      have f1 := hr.fr 1
      have f2 := hr.fr 2
      have f3 := hr.fr 3
      have HD := Lib.hid (show (n1 = P0.th.l.length ∧ n2 = P0.el.l.length) ∧ b1 = P0.th.never ∧ b2 = P0.el.never from ⟨⟨hn1, hn2⟩, hb1, hb2⟩)
      have HF1 := Lib.hid hp1
      have HF2 := Lib.hid hp2
      have HBB := Lib.hid (HL.out.trans (hb.mono HL.out.size))
      clear hr hp1 hp2 hb hn1 hn2 hb1 hb2
      go_wp2
      refine bodyPost_ret (v := .agg #[.bool b1, .slice pa1 n1 pc1, .bool b2, .slice pa2 n2 pc2]) ?_ ?_ ?_
      · simp [results, Try.results11, go_sem, r0, r1, r2, r3]
      · rfl
      · exact pr_done (P := P0) (r := w.heap.size + 1) (by omega) (by have := HSZ.out; omega) HD.out.1.1 HD.out.1.2 HD.out.2.1 HD.out.2.2 HF1.out HF2.out HBB.out
    by_cases h1 : t.op = 1
    · have hP : P0 = truthP t.vr := by rw [HP0.out, if_neg h0, if_pos h1]
      have HPP := Lib.hid hP
      clear hP
      go_wp2_with fail
      refine (ptruth_go t.vr W).mono ?_
      rintro e w2 ⟨⟨v, rfl, pa1, pc1, pa2, pc2, rfl, hp1, hp2⟩, hb⟩
      rw [← HPP.out] at hp1 hp2 ⊢
      obtain ⟨n1, hn1⟩ : ∃ k, k = P0.th.l.length := ⟨_, rfl⟩
      obtain ⟨n2, hn2⟩ : ∃ k, k = P0.el.l.length := ⟨_, rfl⟩
      obtain ⟨b1, hb1⟩ : ∃ k, k = P0.th.never := ⟨_, rfl⟩
      obtain ⟨b2, hb2⟩ : ∃ k, k = P0.el.never := ⟨_, rfl⟩
      rw [← hn1] at hp1 ⊢
      rw [← hn2] at hp2 ⊢
      rw [← hb1, ← hb2]
      have hr := HR.out.keep hb
      have r0 := hr.d0
      have r1 := hr.d1
      have r2 := hr.d2
      have r3 := hr.d3
      have f0 := hr.fr 0
      have f1 := hr.fr 1
      have f2 := hr.fr 2
      have f3 := hr.fr 3
      have HD := Lib.hid (show (n1 = P0.th.l.length ∧ n2 = P0.el.l.length) ∧ b1 = P0.th.never ∧ b2 = P0.el.never from ⟨⟨hn1, hn2⟩, hb1, hb2⟩)
      have HF1 := Lib.hid hp1
      have HF2 := Lib.hid hp2
      have HBB := Lib.hid (HL.out.trans (hb.mono HL.out.size))
      clear hr hp1 hp2 hb hn1 hn2 hb1 hb2
      go_wp2
      refine bodyPost_ret (v := .agg #[.bool b1, .slice pa1 n1 pc1, .bool b2, .slice pa2 n2 pc2]) ?_ ?_ ?_
      · simp [results, Try.results11, go_sem, r0, r1, r2, r3]
      · rfl
      · exact pr_done (P := P0) (r := w.heap.size + 1) (by omega) (by have := HSZ.out; omega) HD.out.1.1 HD.out.1.2 HD.out.2.1 HD.out.2.2 HF1.out HF2.out HBB.out
    by_cases h2 : t.op = 2
    · have hP : P0 = constP t.yes := by rw [HP0.out, if_neg h0, if_neg h1, if_pos h2]
      have HPP := Lib.hid hP
      clear hP
      go_wp2_with fail
      refine (pconst_go t.yes W).mono ?_
      rintro e w2 ⟨⟨v, rfl, pa1, pc1, pa2, pc2, rfl, hp1, hp2⟩, hb⟩
      rw [← HPP.out] at hp1 hp2 ⊢
      obtain ⟨n1, hn1⟩ : ∃ k, k = P0.th.l.length := ⟨_, rfl⟩
      obtain ⟨n2, hn2⟩ : ∃ k, k = P0.el.l.length := ⟨_, rfl⟩
      obtain ⟨b1, hb1⟩ : ∃ k, k = P0.th.never := ⟨_, rfl⟩
      obtain ⟨b2, hb2⟩ : ∃ k, k = P0.el.never := ⟨_, rfl⟩
      rw [← hn1] at hp1 ⊢
      rw [← hn2] at hp2 ⊢
      rw [← hb1, ← hb2]
      have hr := HR.out.keep hb
      have r0 := hr.d0
      have r1 := hr.d1
      have r2 := hr.d2
      have r3 := hr.d3
      have f0 := hr.fr 0
      have f1 := hr.fr 1
      have f2 := hr.fr 2
      have f3 := hr.fr 3
      have HD := Lib.hid (show (n1 = P0.th.l.length ∧ n2 = P0.el.l.length) ∧ b1 = P0.th.never ∧ b2 = P0.el.never from ⟨⟨hn1, hn2⟩, hb1, hb2⟩)
      have HF1 := Lib.hid hp1
      have HF2 := Lib.hid hp2
      have HBB := Lib.hid (HL.out.trans (hb.mono HL.out.size))
      clear hr hp1 hp2 hb hn1 hn2 hb1 hb2
      go_wp2
      refine bodyPost_ret (v := .agg #[.bool b1, .slice pa1 n1 pc1, .bool b2, .slice pa2 n2 pc2]) ?_ ?_ ?_
      · simp [results, Try.results11, go_sem, r0, r1, r2, r3]
      · rfl
      · exact pr_done (P := P0) (r := w.heap.size + 1) (by omega) (by have := HSZ.out; omega) HD.out.1.1 HD.out.1.2 HD.out.2.1 HD.out.2.2 HF1.out HF2.out HBB.out
    by_cases h3 : t.op = 3
    · by_cases hm0 : 0 < m
      · have hmi : (0 : Int) < (m : Int) := by omega
        have hmj : 0 < t.of.length := by rw [← HM.out]; exact hm0
        have hP : P0 = notP (prpT n (t.of.getD 0 te0)) := by rw [HP0.out, if_neg h0, if_neg h1, if_neg h2, if_pos ⟨h3, hm0⟩]
        have HPP := Lib.hid hP
        obtain ⟨b, off, ea, ec, rfl, hb, e0, e1, e2, e3, e4, he⟩ := HS.out.elem hmj
        obtain ⟨d, hd⟩ : ∃ d, d = t.of.getD 0 te0 := ⟨_, rfl⟩
        rw [← hd] at HPP e0 e1 e2 e3 e4 he
        have HLD := Lib.hid (show litT n d = true by
          refine HLI.out d ?_
          rw [hd, List.getD_eq_getElem?_getD, List.getElem?_eq_getElem hmj]; exact List.getElem_mem hmj)
        have HE := Lib.hid he
        simp only [Nat.zero_mul, Nat.add_zero] at e0 e1 e2 e3 e4
        clear hP hd he
        go_wp2_with fail
        refine (IH.out d _ W HLD.out ⟨_, rfl, HE.out⟩).mono ?_
        rintro e w3 ⟨⟨v, rfl, qa1, qc1, qa2, qc2, rfl, hq1, hq2⟩, hb3⟩
        obtain ⟨D, hD⟩ : ∃ D, D = prpT n d := ⟨_, rfl⟩
        have HDL := Lib.hid (show D.th.l.length ≤ 20000 ∧ D.el.l.length ≤ 20000 by
          have h := prp_len n d
          have h64 : 2 ^ n ≤ 2 ^ 6 := Nat.pow_le_pow_right (by decide) (by omega)
          rw [← hD] at h; omega)
        rw [← hD] at hq1 hq2 HPP ⊢
        have HQ1 := Lib.hid hq1
        have HQ2 := Lib.hid hq2
        have HB3 := Lib.hid hb3
        clear hD hq1 hq2 hb3 e0 e1 e2 e3 e4
        go_wp2_with fail
        refine (pnot_go _ qa1 qa2 _ qc1 _ qc2 D w3 rfl rfl HDL.out.1 HDL.out.2 HQ1.out HQ2.out).mono ?_
        rintro e w2 ⟨⟨v, rfl, pa1, pc1, pa2, pc2, rfl, hp1, hp2⟩, hb⟩
        replace hb := HB3.out.trans (hb.mono HB3.out.size)
        rw [← HPP.out] at hp1 hp2 ⊢
        obtain ⟨n1, hn1⟩ : ∃ k, k = P0.th.l.length := ⟨_, rfl⟩
        obtain ⟨n2, hn2⟩ : ∃ k, k = P0.el.l.length := ⟨_, rfl⟩
        obtain ⟨b1, hb1⟩ : ∃ k, k = P0.th.never := ⟨_, rfl⟩
        obtain ⟨b2, hb2⟩ : ∃ k, k = P0.el.never := ⟨_, rfl⟩
        rw [← hn1] at hp1 ⊢
        rw [← hn2] at hp2 ⊢
        rw [← hb1, ← hb2]
        have hr := HR.out.keep hb
        have r0 := hr.d0
        have r1 := hr.d1
        have r2 := hr.d2
        have r3 := hr.d3
        have f0 := hr.fr 0
        have f1 := hr.fr 1
        have f2 := hr.fr 2
        have f3 := hr.fr 3
        have HD := Lib.hid (show (n1 = P0.th.l.length ∧ n2 = P0.el.l.length) ∧ b1 = P0.th.never ∧ b2 = P0.el.never from ⟨⟨hn1, hn2⟩, hb1, hb2⟩)
        have HF1 := Lib.hid hp1
        have HF2 := Lib.hid hp2
        have HBB := Lib.hid (HL.out.trans (hb.mono HL.out.size))
        clear hr hp1 hp2 hb hn1 hn2 hb1 hb2
        go_wp2
        refine bodyPost_ret (v := .agg #[.bool b1, .slice pa1 n1 pc1, .bool b2, .slice pa2 n2 pc2]) ?_ ?_ ?_
        · simp [results, Try.results11, go_sem, r0, r1, r2, r3]
        · rfl
        · exact pr_done (P := P0) (r := w.heap.size + 1) (by omega) (by have := HSZ.out; have := HB3.out.size; omega) HD.out.1.1 HD.out.1.2 HD.out.2.1 HD.out.2.2 HF1.out HF2.out HBB.out
      · have hmi : ¬ (0 : Int) < (m : Int) := by omega
        have hP : P0 = noneP := by rw [HP0.out, if_neg h0, if_neg h1, if_neg h2, if_neg (fun h => hm0 h.2), if_neg (fun h => by have := h.1; omega)]
        have HPP := Lib.hid hP
        clear hP
        go_wp2_with fail
        refine (pnone_go W).mono ?_
        rintro e w2 ⟨⟨v, rfl, pa1, pc1, pa2, pc2, rfl, hp1, hp2⟩, hb⟩
        rw [← HPP.out] at hp1 hp2 ⊢
        obtain ⟨n1, hn1⟩ : ∃ k, k = P0.th.l.length := ⟨_, rfl⟩
        obtain ⟨n2, hn2⟩ : ∃ k, k = P0.el.l.length := ⟨_, rfl⟩
        obtain ⟨b1, hb1⟩ : ∃ k, k = P0.th.never := ⟨_, rfl⟩
        obtain ⟨b2, hb2⟩ : ∃ k, k = P0.el.never := ⟨_, rfl⟩
        rw [← hn1] at hp1 ⊢
        rw [← hn2] at hp2 ⊢
        rw [← hb1, ← hb2]
        have hr := HR.out.keep hb
        have r0 := hr.d0
        have r1 := hr.d1
        have r2 := hr.d2
        have r3 := hr.d3
        have f0 := hr.fr 0
        have f1 := hr.fr 1
        have f2 := hr.fr 2
        have f3 := hr.fr 3
        have HD := Lib.hid (show (n1 = P0.th.l.length ∧ n2 = P0.el.l.length) ∧ b1 = P0.th.never ∧ b2 = P0.el.never from ⟨⟨hn1, hn2⟩, hb1, hb2⟩)
        have HF1 := Lib.hid hp1
        have HF2 := Lib.hid hp2
        have HBB := Lib.hid (HL.out.trans (hb.mono HL.out.size))
        clear hr hp1 hp2 hb hn1 hn2 hb1 hb2
        go_wp2
        refine bodyPost_ret (v := .agg #[.bool b1, .slice pa1 n1 pc1, .bool b2, .slice pa2 n2 pc2]) ?_ ?_ ?_
        · simp [results, Try.results11, go_sem, r0, r1, r2, r3]
        · rfl
        · exact pr_done (P := P0) (r := w.heap.size + 1) (by omega) (by have := HSZ.out; omega) HD.out.1.1 HD.out.1.2 HD.out.2.1 HD.out.2.2 HF1.out HF2.out HBB.out
    by_cases h4 : t.op = 4
    · by_cases hm2 : 2 < m
      · skip
        have hmi : (2 : Int) < (m : Int) := by omega
        have hP : P0 = ifP (prpT n (t.of.getD 0 te0)) (prpT n (t.of.getD 1 te0)) (prpT n (t.of.getD 2 te0)) := by rw [HP0.out, if_neg h0, if_neg h1, if_neg h2, if_neg (fun h => h3 h.1), if_pos ⟨h4, hm2⟩]
        have HPP := Lib.hid hP
        clear hP
        have hj0 : 0 < t.of.length := by rw [← HM.out]; omega
        obtain ⟨b, off, ea0, ec0, rfl, hb, e00, e01, e02, e03, e04, he0⟩ := HS.out.elem hj0
        obtain ⟨d0, hd0⟩ : ∃ d, d = t.of.getD 0 te0 := ⟨_, rfl⟩
        rw [← hd0] at HPP e00 e01 e02 e03 e04 he0
        have HLD0 := Lib.hid (show litT n d0 = true by
          refine HLI.out d0 ?_
          rw [hd0, List.getD_eq_getElem?_getD, List.getElem?_eq_getElem hj0]; exact List.getElem_mem hj0)
        have HE0 := Lib.hid he0
        obtain ⟨D0, hD0⟩ : ∃ D, D = prpT n d0 := ⟨_, rfl⟩
        rw [← hD0] at HPP
        have HDL0 := Lib.hid (show D0.th.l.length ≤ 1000 ∧ D0.el.l.length ≤ 1000 by
          have h := prp_len n d0
          have h64 : 2 ^ n ≤ 2 ^ 6 := Nat.pow_le_pow_right (by decide) (by omega)
          rw [← hD0] at h; omega)
        have HDD0 := Lib.hid hD0
        simp only [Nat.zero_mul, Nat.add_zero] at e00 e01 e02 e03 e04
        clear hd0 he0 hD0
        have hj1 : 1 < t.of.length := by rw [← HM.out]; omega
        obtain ⟨b1, off1, ea1, ec1, hpa1, _, e10, e11, e12, e13, e14, he1⟩ := HS.out.elem hj1
        cases hpa1
        obtain ⟨d1, hd1⟩ : ∃ d, d = t.of.getD 1 te0 := ⟨_, rfl⟩
        rw [← hd1] at HPP e10 e11 e12 e13 e14 he1
        have HLD1 := Lib.hid (show litT n d1 = true by
          refine HLI.out d1 ?_
          rw [hd1, List.getD_eq_getElem?_getD, List.getElem?_eq_getElem hj1]; exact List.getElem_mem hj1)
        have HE1 := Lib.hid he1
        obtain ⟨D1, hD1⟩ : ∃ D, D = prpT n d1 := ⟨_, rfl⟩
        rw [← hD1] at HPP
        have HDL1 := Lib.hid (show D1.th.l.length ≤ 1000 ∧ D1.el.l.length ≤ 1000 by
          have h := prp_len n d1
          have h64 : 2 ^ n ≤ 2 ^ 6 := Nat.pow_le_pow_right (by decide) (by omega)
          rw [← hD1] at h; omega)
        have HDD1 := Lib.hid hD1
        simp only [Nat.one_mul, Nat.add_assoc, Nat.reduceAdd] at e10 e11 e12 e13 e14
        clear hd1 he1 hD1
        have hj2 : 2 < t.of.length := by rw [← HM.out]; omega
        obtain ⟨b2, off2, ea2, ec2, hpa2, _, e20, e21, e22, e23, e24, he2⟩ := HS.out.elem hj2
        cases hpa2
        obtain ⟨d2, hd2⟩ : ∃ d, d = t.of.getD 2 te0 := ⟨_, rfl⟩
        rw [← hd2] at HPP e20 e21 e22 e23 e24 he2
        have HLD2 := Lib.hid (show litT n d2 = true by
          refine HLI.out d2 ?_
          rw [hd2, List.getD_eq_getElem?_getD, List.getElem?_eq_getElem hj2]; exact List.getElem_mem hj2)
        have HE2 := Lib.hid he2
        obtain ⟨D2, hD2⟩ : ∃ D, D = prpT n d2 := ⟨_, rfl⟩
        rw [← hD2] at HPP
        have HDL2 := Lib.hid (show D2.th.l.length ≤ 1000 ∧ D2.el.l.length ≤ 1000 by
          have h := prp_len n d2
          have h64 : 2 ^ n ≤ 2 ^ 6 := Nat.pow_le_pow_right (by decide) (by omega)
          rw [← hD2] at h; omega)
        have HDD2 := Lib.hid hD2
        simp only [Nat.reduceMul, Nat.add_assoc, Nat.reduceAdd] at e20 e21 e22 e23 e24
        clear hd2 he2 hD2
        have HXL := Lib.hid (Nat.lt_succ_self w.heap.size)
        have HBL := Lib.hid (show b < w.heap.size + 1 by
          obtain ⟨b9, off9, _, _, hpa9, hb9, _⟩ := HS0.out.elem hj0
          cases hpa9; omega)
        have n0 : 0 < m := by omega
        have n1 : 1 < m := by omega
        have z1 : (0 : Int) < (m : Int) := by omega
        have z2 : (1 : Int) < (m : Int) := by omega
        clear hb
        go_upto_region 13 with fail
        (try dsimp only [List.append])
        refine wp_region_noPanic ?_
        refine wp_region_held_drew (S := (fun w' => Below (w.heap.size + 1) W w')) (by kernel_rfl) (by (try dsimp only); exact (Below.refl _ _).drew) (fun hHeld => ?_)
        have HB0 := Lib.hid (show Below W.heap.size W W.drew from (Below.refl _ _).drew)
        generalize W.drew = wd at hHeld HB0 ⊢
        refine' tk_any 0 40 (v := _) ?hi46001 ?hd46001 (by kernel_rfl) (by kernel_rfl) (by kernel_rfl) (fun _ _ _ h => h) ?hy46001 hHeld ?hr46001
        case hi46001 => (simp only [List.getElem?_toArray, List.getElem?_cons_zero]; rfl)
        case hd46001 => rfl
        case hy46001 =>
          refine' Or.inl ⟨?hw46001, ?hx46001⟩
          case hw46001 => rfl
          case hx46001 => (intro wz hSw; (try dsimp only at hSw); have y4 := (Below.cell hSw (p := ⟨w.heap.size, 4, none⟩) HXL.out).trans x4; have y00 := (Below.cell hSw (p := ⟨b, _, none⟩) HBL.out).trans e00; have y01 := (Below.cell hSw (p := ⟨b, _, none⟩) HBL.out).trans e01; have y02 := (Below.cell hSw (p := ⟨b, _, none⟩) HBL.out).trans e02; have y03 := (Below.cell hSw (p := ⟨b, _, none⟩) HBL.out).trans e03; have y04 := (Below.cell hSw (p := ⟨b, _, none⟩) HBL.out).trans e04; have y10 := (Below.cell hSw (p := ⟨b, _, none⟩) HBL.out).trans e10; have y11 := (Below.cell hSw (p := ⟨b, _, none⟩) HBL.out).trans e11; have y12 := (Below.cell hSw (p := ⟨b, _, none⟩) HBL.out).trans e12; have y13 := (Below.cell hSw (p := ⟨b, _, none⟩) HBL.out).trans e13; have y14 := (Below.cell hSw (p := ⟨b, _, none⟩) HBL.out).trans e14; have y20 := (Below.cell hSw (p := ⟨b, _, none⟩) HBL.out).trans e20; have y21 := (Below.cell hSw (p := ⟨b, _, none⟩) HBL.out).trans e21; have y22 := (Below.cell hSw (p := ⟨b, _, none⟩) HBL.out).trans e22; have y23 := (Below.cell hSw (p := ⟨b, _, none⟩) HBL.out).trans e23; have y24 := (Below.cell hSw (p := ⟨b, _, none⟩) HBL.out).trans e24; go_simp; (try with_reducible rfl))
        (try simp only [Act.put, List.setIfInBounds_toArray, List.set_cons_zero, List.set_cons_succ])
        refine' tk_any 1 41 (v := _) ?hi46002 ?hd46002 (by kernel_rfl) (by kernel_rfl) (by kernel_rfl) (fun _ _ _ h => h) ?hy46002 hHeld ?hr46002
        case hi46002 => (simp only [List.getElem?_toArray, List.getElem?_cons_succ, List.getElem?_cons_zero]; rfl)
        case hd46002 => rfl
        case hy46002 =>
          refine' Or.inl ⟨?hw46002, ?hx46002⟩
          case hw46002 => rfl
          case hx46002 => (intro wz hSw; (try dsimp only at hSw); have y4 := (Below.cell hSw (p := ⟨w.heap.size, 4, none⟩) HXL.out).trans x4; have y00 := (Below.cell hSw (p := ⟨b, _, none⟩) HBL.out).trans e00; have y01 := (Below.cell hSw (p := ⟨b, _, none⟩) HBL.out).trans e01; have y02 := (Below.cell hSw (p := ⟨b, _, none⟩) HBL.out).trans e02; have y03 := (Below.cell hSw (p := ⟨b, _, none⟩) HBL.out).trans e03; have y04 := (Below.cell hSw (p := ⟨b, _, none⟩) HBL.out).trans e04; have y10 := (Below.cell hSw (p := ⟨b, _, none⟩) HBL.out).trans e10; have y11 := (Below.cell hSw (p := ⟨b, _, none⟩) HBL.out).trans e11; have y12 := (Below.cell hSw (p := ⟨b, _, none⟩) HBL.out).trans e12; have y13 := (Below.cell hSw (p := ⟨b, _, none⟩) HBL.out).trans e13; have y14 := (Below.cell hSw (p := ⟨b, _, none⟩) HBL.out).trans e14; have y20 := (Below.cell hSw (p := ⟨b, _, none⟩) HBL.out).trans e20; have y21 := (Below.cell hSw (p := ⟨b, _, none⟩) HBL.out).trans e21; have y22 := (Below.cell hSw (p := ⟨b, _, none⟩) HBL.out).trans e22; have y23 := (Below.cell hSw (p := ⟨b, _, none⟩) HBL.out).trans e23; have y24 := (Below.cell hSw (p := ⟨b, _, none⟩) HBL.out).trans e24; go_simp; (try with_reducible rfl))
        (try simp only [Act.put, List.setIfInBounds_toArray, List.set_cons_zero, List.set_cons_succ])
        refine' tk_any 2 42 (v := _) ?hi46003 ?hd46003 (by kernel_rfl) (by kernel_rfl) (by kernel_rfl) (fun _ _ _ h => h) ?hy46003 hHeld ?hr46003
        case hi46003 => (simp only [List.getElem?_toArray, List.getElem?_cons_succ, List.getElem?_cons_zero]; rfl)
        case hd46003 => rfl
        case hy46003 =>
          refine' Or.inl ⟨?hw46003, ?hx46003⟩
          case hw46003 => rfl
          case hx46003 => (intro wz hSw; (try dsimp only at hSw); have y4 := (Below.cell hSw (p := ⟨w.heap.size, 4, none⟩) HXL.out).trans x4; have y00 := (Below.cell hSw (p := ⟨b, _, none⟩) HBL.out).trans e00; have y01 := (Below.cell hSw (p := ⟨b, _, none⟩) HBL.out).trans e01; have y02 := (Below.cell hSw (p := ⟨b, _, none⟩) HBL.out).trans e02; have y03 := (Below.cell hSw (p := ⟨b, _, none⟩) HBL.out).trans e03; have y04 := (Below.cell hSw (p := ⟨b, _, none⟩) HBL.out).trans e04; have y10 := (Below.cell hSw (p := ⟨b, _, none⟩) HBL.out).trans e10; have y11 := (Below.cell hSw (p := ⟨b, _, none⟩) HBL.out).trans e11; have y12 := (Below.cell hSw (p := ⟨b, _, none⟩) HBL.out).trans e12; have y13 := (Below.cell hSw (p := ⟨b, _, none⟩) HBL.out).trans e13; have y14 := (Below.cell hSw (p := ⟨b, _, none⟩) HBL.out).trans e14; have y20 := (Below.cell hSw (p := ⟨b, _, none⟩) HBL.out).trans e20; have y21 := (Below.cell hSw (p := ⟨b, _, none⟩) HBL.out).trans e21; have y22 := (Below.cell hSw (p := ⟨b, _, none⟩) HBL.out).trans e22; have y23 := (Below.cell hSw (p := ⟨b, _, none⟩) HBL.out).trans e23; have y24 := (Below.cell hSw (p := ⟨b, _, none⟩) HBL.out).trans e24; go_simp; (try with_reducible rfl))
        (try simp only [Act.put, List.setIfInBounds_toArray, List.set_cons_zero, List.set_cons_succ])
        refine' tk_any 3 43 (v := _) ?hi46004 ?hd46004 (by kernel_rfl) (by kernel_rfl) (by kernel_rfl) (fun _ _ _ h => h) ?hy46004 hHeld ?hr46004
        case hi46004 => (simp only [List.getElem?_toArray, List.getElem?_cons_succ, List.getElem?_cons_zero]; rfl)
        case hd46004 => rfl
        case hy46004 =>
          refine' Or.inl ⟨?hw46004, ?hx46004⟩
          case hw46004 => rfl
          case hx46004 => (intro wz hSw; (try dsimp only at hSw); have y4 := (Below.cell hSw (p := ⟨w.heap.size, 4, none⟩) HXL.out).trans x4; have y00 := (Below.cell hSw (p := ⟨b, _, none⟩) HBL.out).trans e00; have y01 := (Below.cell hSw (p := ⟨b, _, none⟩) HBL.out).trans e01; have y02 := (Below.cell hSw (p := ⟨b, _, none⟩) HBL.out).trans e02; have y03 := (Below.cell hSw (p := ⟨b, _, none⟩) HBL.out).trans e03; have y04 := (Below.cell hSw (p := ⟨b, _, none⟩) HBL.out).trans e04; have y10 := (Below.cell hSw (p := ⟨b, _, none⟩) HBL.out).trans e10; have y11 := (Below.cell hSw (p := ⟨b, _, none⟩) HBL.out).trans e11; have y12 := (Below.cell hSw (p := ⟨b, _, none⟩) HBL.out).trans e12; have y13 := (Below.cell hSw (p := ⟨b, _, none⟩) HBL.out).trans e13; have y14 := (Below.cell hSw (p := ⟨b, _, none⟩) HBL.out).trans e14; have y20 := (Below.cell hSw (p := ⟨b, _, none⟩) HBL.out).trans e20; have y21 := (Below.cell hSw (p := ⟨b, _, none⟩) HBL.out).trans e21; have y22 := (Below.cell hSw (p := ⟨b, _, none⟩) HBL.out).trans e22; have y23 := (Below.cell hSw (p := ⟨b, _, none⟩) HBL.out).trans e23; have y24 := (Below.cell hSw (p := ⟨b, _, none⟩) HBL.out).trans e24; go_simp; (try with_reducible rfl))
        (try simp only [Act.put, List.setIfInBounds_toArray, List.set_cons_zero, List.set_cons_succ])
        refine' tk_any 5 45 (v := _) ?hi46005 ?hd46005 (by kernel_rfl) (by kernel_rfl) (by kernel_rfl) (fun _ _ _ h => h) ?hy46005 hHeld ?hr46005
        case hi46005 => (simp only [List.getElem?_toArray, List.getElem?_cons_succ, List.getElem?_cons_zero]; rfl)
        case hd46005 => rfl
        case hy46005 =>
          refine' Or.inl ⟨?hw46005, ?hx46005⟩
          case hw46005 => rfl
          case hx46005 => (intro wz hSw; (try dsimp only at hSw); have y4 := (Below.cell hSw (p := ⟨w.heap.size, 4, none⟩) HXL.out).trans x4; have y00 := (Below.cell hSw (p := ⟨b, _, none⟩) HBL.out).trans e00; have y01 := (Below.cell hSw (p := ⟨b, _, none⟩) HBL.out).trans e01; have y02 := (Below.cell hSw (p := ⟨b, _, none⟩) HBL.out).trans e02; have y03 := (Below.cell hSw (p := ⟨b, _, none⟩) HBL.out).trans e03; have y04 := (Below.cell hSw (p := ⟨b, _, none⟩) HBL.out).trans e04; have y10 := (Below.cell hSw (p := ⟨b, _, none⟩) HBL.out).trans e10; have y11 := (Below.cell hSw (p := ⟨b, _, none⟩) HBL.out).trans e11; have y12 := (Below.cell hSw (p := ⟨b, _, none⟩) HBL.out).trans e12; have y13 := (Below.cell hSw (p := ⟨b, _, none⟩) HBL.out).trans e13; have y14 := (Below.cell hSw (p := ⟨b, _, none⟩) HBL.out).trans e14; have y20 := (Below.cell hSw (p := ⟨b, _, none⟩) HBL.out).trans e20; have y21 := (Below.cell hSw (p := ⟨b, _, none⟩) HBL.out).trans e21; have y22 := (Below.cell hSw (p := ⟨b, _, none⟩) HBL.out).trans e22; have y23 := (Below.cell hSw (p := ⟨b, _, none⟩) HBL.out).trans e23; have y24 := (Below.cell hSw (p := ⟨b, _, none⟩) HBL.out).trans e24; go_simp; (try with_reducible rfl))
        (try simp only [Act.put, List.setIfInBounds_toArray, List.set_cons_zero, List.set_cons_succ])
        refine' tk_any 6 46 (v := _) ?hi46006 ?hd46006 (by kernel_rfl) (by kernel_rfl) (by kernel_rfl) (fun _ _ _ h => h) ?hy46006 hHeld ?hr46006
        case hi46006 => (simp only [List.getElem?_toArray, List.getElem?_cons_succ, List.getElem?_cons_zero]; rfl)
        case hd46006 => rfl
        case hy46006 =>
          refine' Or.inl ⟨?hw46006, ?hx46006⟩
          case hw46006 => rfl
          case hx46006 => (intro wz hSw; (try dsimp only at hSw); have y4 := (Below.cell hSw (p := ⟨w.heap.size, 4, none⟩) HXL.out).trans x4; have y00 := (Below.cell hSw (p := ⟨b, _, none⟩) HBL.out).trans e00; have y01 := (Below.cell hSw (p := ⟨b, _, none⟩) HBL.out).trans e01; have y02 := (Below.cell hSw (p := ⟨b, _, none⟩) HBL.out).trans e02; have y03 := (Below.cell hSw (p := ⟨b, _, none⟩) HBL.out).trans e03; have y04 := (Below.cell hSw (p := ⟨b, _, none⟩) HBL.out).trans e04; have y10 := (Below.cell hSw (p := ⟨b, _, none⟩) HBL.out).trans e10; have y11 := (Below.cell hSw (p := ⟨b, _, none⟩) HBL.out).trans e11; have y12 := (Below.cell hSw (p := ⟨b, _, none⟩) HBL.out).trans e12; have y13 := (Below.cell hSw (p := ⟨b, _, none⟩) HBL.out).trans e13; have y14 := (Below.cell hSw (p := ⟨b, _, none⟩) HBL.out).trans e14; have y20 := (Below.cell hSw (p := ⟨b, _, none⟩) HBL.out).trans e20; have y21 := (Below.cell hSw (p := ⟨b, _, none⟩) HBL.out).trans e21; have y22 := (Below.cell hSw (p := ⟨b, _, none⟩) HBL.out).trans e22; have y23 := (Below.cell hSw (p := ⟨b, _, none⟩) HBL.out).trans e23; have y24 := (Below.cell hSw (p := ⟨b, _, none⟩) HBL.out).trans e24; go_simp; (try with_reducible rfl))
        (try simp only [Act.put, List.setIfInBounds_toArray, List.set_cons_zero, List.set_cons_succ])
        refine' tk_any 7 47 (v := _) ?hi46007 ?hd46007 (by kernel_rfl) (by kernel_rfl) (by kernel_rfl) (fun _ _ _ h => h) ?hy46007 hHeld ?hr46007
        case hi46007 => (simp only [List.getElem?_toArray, List.getElem?_cons_succ, List.getElem?_cons_zero]; rfl)
        case hd46007 => rfl
        case hy46007 =>
          refine' Or.inl ⟨?hw46007, ?hx46007⟩
          case hw46007 => rfl
          case hx46007 => (intro wz hSw; (try dsimp only at hSw); have y4 := (Below.cell hSw (p := ⟨w.heap.size, 4, none⟩) HXL.out).trans x4; have y00 := (Below.cell hSw (p := ⟨b, _, none⟩) HBL.out).trans e00; have y01 := (Below.cell hSw (p := ⟨b, _, none⟩) HBL.out).trans e01; have y02 := (Below.cell hSw (p := ⟨b, _, none⟩) HBL.out).trans e02; have y03 := (Below.cell hSw (p := ⟨b, _, none⟩) HBL.out).trans e03; have y04 := (Below.cell hSw (p := ⟨b, _, none⟩) HBL.out).trans e04; have y10 := (Below.cell hSw (p := ⟨b, _, none⟩) HBL.out).trans e10; have y11 := (Below.cell hSw (p := ⟨b, _, none⟩) HBL.out).trans e11; have y12 := (Below.cell hSw (p := ⟨b, _, none⟩) HBL.out).trans e12; have y13 := (Below.cell hSw (p := ⟨b, _, none⟩) HBL.out).trans e13; have y14 := (Below.cell hSw (p := ⟨b, _, none⟩) HBL.out).trans e14; have y20 := (Below.cell hSw (p := ⟨b, _, none⟩) HBL.out).trans e20; have y21 := (Below.cell hSw (p := ⟨b, _, none⟩) HBL.out).trans e21; have y22 := (Below.cell hSw (p := ⟨b, _, none⟩) HBL.out).trans e22; have y23 := (Below.cell hSw (p := ⟨b, _, none⟩) HBL.out).trans e23; have y24 := (Below.cell hSw (p := ⟨b, _, none⟩) HBL.out).trans e24; go_simp; (try with_reducible rfl))
        (try simp only [Act.put, List.setIfInBounds_toArray, List.set_cons_zero, List.set_cons_succ])
        refine' tk_any 8 48 (v := _) ?hi46008 ?hd46008 (by kernel_rfl) (by kernel_rfl) (by kernel_rfl) (fun _ _ _ h => h) ?hy46008 hHeld ?hr46008
        case hi46008 => (simp only [List.getElem?_toArray, List.getElem?_cons_succ, List.getElem?_cons_zero]; rfl)
        case hd46008 => rfl
        case hy46008 =>
          refine' Or.inl ⟨?hw46008, ?hx46008⟩
          case hw46008 => rfl
          case hx46008 => (intro wz hSw; (try dsimp only at hSw); have y4 := (Below.cell hSw (p := ⟨w.heap.size, 4, none⟩) HXL.out).trans x4; have y00 := (Below.cell hSw (p := ⟨b, _, none⟩) HBL.out).trans e00; have y01 := (Below.cell hSw (p := ⟨b, _, none⟩) HBL.out).trans e01; have y02 := (Below.cell hSw (p := ⟨b, _, none⟩) HBL.out).trans e02; have y03 := (Below.cell hSw (p := ⟨b, _, none⟩) HBL.out).trans e03; have y04 := (Below.cell hSw (p := ⟨b, _, none⟩) HBL.out).trans e04; have y10 := (Below.cell hSw (p := ⟨b, _, none⟩) HBL.out).trans e10; have y11 := (Below.cell hSw (p := ⟨b, _, none⟩) HBL.out).trans e11; have y12 := (Below.cell hSw (p := ⟨b, _, none⟩) HBL.out).trans e12; have y13 := (Below.cell hSw (p := ⟨b, _, none⟩) HBL.out).trans e13; have y14 := (Below.cell hSw (p := ⟨b, _, none⟩) HBL.out).trans e14; have y20 := (Below.cell hSw (p := ⟨b, _, none⟩) HBL.out).trans e20; have y21 := (Below.cell hSw (p := ⟨b, _, none⟩) HBL.out).trans e21; have y22 := (Below.cell hSw (p := ⟨b, _, none⟩) HBL.out).trans e22; have y23 := (Below.cell hSw (p := ⟨b, _, none⟩) HBL.out).trans e23; have y24 := (Below.cell hSw (p := ⟨b, _, none⟩) HBL.out).trans e24; go_simp; (try with_reducible rfl))
        (try simp only [Act.put, List.setIfInBounds_toArray, List.set_cons_zero, List.set_cons_succ])
        refine' tk_any 10 50 (v := _) ?hi46009 ?hd46009 (by kernel_rfl) (by kernel_rfl) (by kernel_rfl) (fun _ _ _ h => h) ?hy46009 hHeld ?hr46009
        case hi46009 => (simp only [List.getElem?_toArray, List.getElem?_cons_succ, List.getElem?_cons_zero]; rfl)
        case hd46009 => rfl
        case hy46009 =>
          refine' Or.inl ⟨?hw46009, ?hx46009⟩
          case hw46009 => rfl
          case hx46009 => (intro wz hSw; (try dsimp only at hSw); have y4 := (Below.cell hSw (p := ⟨w.heap.size, 4, none⟩) HXL.out).trans x4; have y00 := (Below.cell hSw (p := ⟨b, _, none⟩) HBL.out).trans e00; have y01 := (Below.cell hSw (p := ⟨b, _, none⟩) HBL.out).trans e01; have y02 := (Below.cell hSw (p := ⟨b, _, none⟩) HBL.out).trans e02; have y03 := (Below.cell hSw (p := ⟨b, _, none⟩) HBL.out).trans e03; have y04 := (Below.cell hSw (p := ⟨b, _, none⟩) HBL.out).trans e04; have y10 := (Below.cell hSw (p := ⟨b, _, none⟩) HBL.out).trans e10; have y11 := (Below.cell hSw (p := ⟨b, _, none⟩) HBL.out).trans e11; have y12 := (Below.cell hSw (p := ⟨b, _, none⟩) HBL.out).trans e12; have y13 := (Below.cell hSw (p := ⟨b, _, none⟩) HBL.out).trans e13; have y14 := (Below.cell hSw (p := ⟨b, _, none⟩) HBL.out).trans e14; have y20 := (Below.cell hSw (p := ⟨b, _, none⟩) HBL.out).trans e20; have y21 := (Below.cell hSw (p := ⟨b, _, none⟩) HBL.out).trans e21; have y22 := (Below.cell hSw (p := ⟨b, _, none⟩) HBL.out).trans e22; have y23 := (Below.cell hSw (p := ⟨b, _, none⟩) HBL.out).trans e23; have y24 := (Below.cell hSw (p := ⟨b, _, none⟩) HBL.out).trans e24; go_simp; (try with_reducible rfl))
        (try simp only [Act.put, List.setIfInBounds_toArray, List.set_cons_zero, List.set_cons_succ])
        refine' tk_any 11 51 (v := _) ?hi46010 ?hd46010 (by kernel_rfl) (by kernel_rfl) (by kernel_rfl) (fun _ _ _ h => h) ?hy46010 hHeld ?hr46010
        case hi46010 => (simp only [List.getElem?_toArray, List.getElem?_cons_succ, List.getElem?_cons_zero]; rfl)
        case hd46010 => rfl
        case hy46010 =>
          refine' Or.inl ⟨?hw46010, ?hx46010⟩
          case hw46010 => rfl
          case hx46010 => (intro wz hSw; (try dsimp only at hSw); have y4 := (Below.cell hSw (p := ⟨w.heap.size, 4, none⟩) HXL.out).trans x4; have y00 := (Below.cell hSw (p := ⟨b, _, none⟩) HBL.out).trans e00; have y01 := (Below.cell hSw (p := ⟨b, _, none⟩) HBL.out).trans e01; have y02 := (Below.cell hSw (p := ⟨b, _, none⟩) HBL.out).trans e02; have y03 := (Below.cell hSw (p := ⟨b, _, none⟩) HBL.out).trans e03; have y04 := (Below.cell hSw (p := ⟨b, _, none⟩) HBL.out).trans e04; have y10 := (Below.cell hSw (p := ⟨b, _, none⟩) HBL.out).trans e10; have y11 := (Below.cell hSw (p := ⟨b, _, none⟩) HBL.out).trans e11; have y12 := (Below.cell hSw (p := ⟨b, _, none⟩) HBL.out).trans e12; have y13 := (Below.cell hSw (p := ⟨b, _, none⟩) HBL.out).trans e13; have y14 := (Below.cell hSw (p := ⟨b, _, none⟩) HBL.out).trans e14; have y20 := (Below.cell hSw (p := ⟨b, _, none⟩) HBL.out).trans e20; have y21 := (Below.cell hSw (p := ⟨b, _, none⟩) HBL.out).trans e21; have y22 := (Below.cell hSw (p := ⟨b, _, none⟩) HBL.out).trans e22; have y23 := (Below.cell hSw (p := ⟨b, _, none⟩) HBL.out).trans e23; have y24 := (Below.cell hSw (p := ⟨b, _, none⟩) HBL.out).trans e24; go_simp; (try with_reducible rfl))
        (try simp only [Act.put, List.setIfInBounds_toArray, List.set_cons_zero, List.set_cons_succ])
        refine' tk_any 12 52 (v := _) ?hi46011 ?hd46011 (by kernel_rfl) (by kernel_rfl) (by kernel_rfl) (fun _ _ _ h => h) ?hy46011 hHeld ?hr46011
        case hi46011 => (simp only [List.getElem?_toArray, List.getElem?_cons_succ, List.getElem?_cons_zero]; rfl)
        case hd46011 => rfl
        case hy46011 =>
          refine' Or.inl ⟨?hw46011, ?hx46011⟩
          case hw46011 => rfl
          case hx46011 => (intro wz hSw; (try dsimp only at hSw); have y4 := (Below.cell hSw (p := ⟨w.heap.size, 4, none⟩) HXL.out).trans x4; have y00 := (Below.cell hSw (p := ⟨b, _, none⟩) HBL.out).trans e00; have y01 := (Below.cell hSw (p := ⟨b, _, none⟩) HBL.out).trans e01; have y02 := (Below.cell hSw (p := ⟨b, _, none⟩) HBL.out).trans e02; have y03 := (Below.cell hSw (p := ⟨b, _, none⟩) HBL.out).trans e03; have y04 := (Below.cell hSw (p := ⟨b, _, none⟩) HBL.out).trans e04; have y10 := (Below.cell hSw (p := ⟨b, _, none⟩) HBL.out).trans e10; have y11 := (Below.cell hSw (p := ⟨b, _, none⟩) HBL.out).trans e11; have y12 := (Below.cell hSw (p := ⟨b, _, none⟩) HBL.out).trans e12; have y13 := (Below.cell hSw (p := ⟨b, _, none⟩) HBL.out).trans e13; have y14 := (Below.cell hSw (p := ⟨b, _, none⟩) HBL.out).trans e14; have y20 := (Below.cell hSw (p := ⟨b, _, none⟩) HBL.out).trans e20; have y21 := (Below.cell hSw (p := ⟨b, _, none⟩) HBL.out).trans e21; have y22 := (Below.cell hSw (p := ⟨b, _, none⟩) HBL.out).trans e22; have y23 := (Below.cell hSw (p := ⟨b, _, none⟩) HBL.out).trans e23; have y24 := (Below.cell hSw (p := ⟨b, _, none⟩) HBL.out).trans e24; go_simp; (try with_reducible rfl))
        (try simp only [Act.put, List.setIfInBounds_toArray, List.set_cons_zero, List.set_cons_succ])
        refine' tk_any 13 53 (v := _) ?hi46012 ?hd46012 (by kernel_rfl) (by kernel_rfl) (by kernel_rfl) (fun _ _ _ h => h) ?hy46012 hHeld ?hr46012
        case hi46012 => (simp only [List.getElem?_toArray, List.getElem?_cons_succ, List.getElem?_cons_zero]; rfl)
        case hd46012 => rfl
        case hy46012 =>
          refine' Or.inl ⟨?hw46012, ?hx46012⟩
          case hw46012 => rfl
          case hx46012 => (intro wz hSw; (try dsimp only at hSw); have y4 := (Below.cell hSw (p := ⟨w.heap.size, 4, none⟩) HXL.out).trans x4; have y00 := (Below.cell hSw (p := ⟨b, _, none⟩) HBL.out).trans e00; have y01 := (Below.cell hSw (p := ⟨b, _, none⟩) HBL.out).trans e01; have y02 := (Below.cell hSw (p := ⟨b, _, none⟩) HBL.out).trans e02; have y03 := (Below.cell hSw (p := ⟨b, _, none⟩) HBL.out).trans e03; have y04 := (Below.cell hSw (p := ⟨b, _, none⟩) HBL.out).trans e04; have y10 := (Below.cell hSw (p := ⟨b, _, none⟩) HBL.out).trans e10; have y11 := (Below.cell hSw (p := ⟨b, _, none⟩) HBL.out).trans e11; have y12 := (Below.cell hSw (p := ⟨b, _, none⟩) HBL.out).trans e12; have y13 := (Below.cell hSw (p := ⟨b, _, none⟩) HBL.out).trans e13; have y14 := (Below.cell hSw (p := ⟨b, _, none⟩) HBL.out).trans e14; have y20 := (Below.cell hSw (p := ⟨b, _, none⟩) HBL.out).trans e20; have y21 := (Below.cell hSw (p := ⟨b, _, none⟩) HBL.out).trans e21; have y22 := (Below.cell hSw (p := ⟨b, _, none⟩) HBL.out).trans e22; have y23 := (Below.cell hSw (p := ⟨b, _, none⟩) HBL.out).trans e23; have y24 := (Below.cell hSw (p := ⟨b, _, none⟩) HBL.out).trans e24; go_simp; (try with_reducible rfl))
        (try simp only [Act.put, List.setIfInBounds_toArray, List.set_cons_zero, List.set_cons_succ])
        refine' tk_call 4 ?hi46013 (by kernel_rfl) ?hr46013
        case hi46013 => (simp only [List.getElem?_toArray, List.getElem?_cons_succ, List.getElem?_cons_zero]; rfl)
        intro K hK
        go_simp
        go_at_call 11
        refine (IH.out d0 _ wd HLD0.out ⟨_, rfl, HE0.out.keep HB0.out⟩).mono ?_
        rintro e g0 ⟨⟨v, rfl, qa0, qc0, ra0, rc0, rfl, hq1, hq2⟩, hb⟩
        rw [← HDD0.out] at hq1 hq2 ⊢
        replace HB0 := Lib.hid (HB0.out.trans (hb.mono HB0.out.size))
        have HQ0 := Lib.hid hq1
        have HR0 := Lib.hid hq2
        clear hq1 hq2 hb
        go_wp2_with fail
        clear hHeld
        refine hK.out _ _ (by (try dsimp only); exact HB0.out.mono (by have := HSZ.out; omega)) (fun hHeld => ?_)
        clear hK K
        (try simp only [Act.put, List.setIfInBounds_toArray, List.set_cons_zero, List.set_cons_succ])
        refine' tk_call 9 ?hi46014 (by kernel_rfl) ?hr46014
        case hi46014 => (simp only [List.getElem?_toArray, List.getElem?_cons_succ, List.getElem?_cons_zero]; rfl)
        intro K hK
        go_simp
        go_at_call 11
        refine (IH.out d1 _ g0 HLD1.out ⟨_, rfl, HE1.out.keep HB0.out⟩).mono ?_
        rintro e g1 ⟨⟨v, rfl, qa1, qc1, ra1, rc1, rfl, hq1, hq2⟩, hb⟩
        rw [← HDD1.out] at hq1 hq2 ⊢
        replace HB0 := Lib.hid (HB0.out.trans (hb.mono HB0.out.size))
        replace HQ0 := Lib.hid (HQ0.out.below hb)
        replace HR0 := Lib.hid (HR0.out.below hb)
        have HQ1 := Lib.hid hq1
        have HR1 := Lib.hid hq2
        clear hq1 hq2 hb
        go_wp2_with fail
        clear hHeld
        refine hK.out _ _ (by (try dsimp only); exact HB0.out.mono (by have := HSZ.out; omega)) (fun hHeld => ?_)
        clear hK K
        (try simp only [Act.put, List.setIfInBounds_toArray, List.set_cons_zero, List.set_cons_succ])
        refine' tk_call 14 ?hi46015 (by kernel_rfl) ?hr46015
        case hi46015 => (simp only [List.getElem?_toArray, List.getElem?_cons_succ, List.getElem?_cons_zero]; rfl)
        intro K hK
        go_simp
        go_at_call 11
        refine (IH.out d2 _ g1 HLD2.out ⟨_, rfl, HE2.out.keep HB0.out⟩).mono ?_
        rintro e g2 ⟨⟨v, rfl, qa2, qc2, ra2, rc2, rfl, hq1, hq2⟩, hb⟩
        rw [← HDD2.out] at hq1 hq2 ⊢
        replace HB0 := Lib.hid (HB0.out.trans (hb.mono HB0.out.size))
        replace HQ0 := Lib.hid (HQ0.out.below hb)
        replace HR0 := Lib.hid (HR0.out.below hb)
        replace HQ1 := Lib.hid (HQ1.out.below hb)
        replace HR1 := Lib.hid (HR1.out.below hb)
        have HQ2 := Lib.hid hq1
        have HR2 := Lib.hid hq2
        clear hq1 hq2 hb
        go_wp2_with fail
        clear hHeld
        refine hK.out _ _ (by (try dsimp only); exact HB0.out.mono (by have := HSZ.out; omega)) (fun hHeld => ?_)
        clear hK K
        (try simp only [Act.put, List.setIfInBounds_toArray, List.set_cons_zero, List.set_cons_succ])
        refine' tk_call 15 ?hi46016 (by kernel_rfl) ?hr46016
        case hi46016 => (simp only [List.getElem?_toArray, List.getElem?_cons_succ, List.getElem?_cons_zero]; rfl)
        intro K hK
        go_simp
        go_at_call 33
        refine (pif_go _ _ _ qa0 ra0 _ qc0 _ rc0 D0 qa1 ra1 _ qc1 _ rc1 D1 qa2 ra2 _ qc2 _ rc2 D2 g2 rfl rfl HDL0.out.1 HDL0.out.2 HQ0.out HR0.out rfl rfl HDL1.out.1 HDL1.out.2 HQ1.out HR1.out rfl rfl HDL2.out.1 HDL2.out.2 HQ2.out HR2.out).mono ?_
        rintro e w2 ⟨⟨v, rfl, pa1, pc1, pa2, pc2, rfl, hp1, hp2⟩, hb⟩
        have HB3 := HB0
        replace hb := HB0.out.trans (hb.mono HB0.out.size)
        have HB4 := Lib.hid hb
        rw [← HPP.out] at hp1 hp2 ⊢
        obtain ⟨n1, hn1⟩ : ∃ k, k = P0.th.l.length := ⟨_, rfl⟩
        obtain ⟨n2, hn2⟩ : ∃ k, k = P0.el.l.length := ⟨_, rfl⟩
        obtain ⟨b1, hb1⟩ : ∃ k, k = P0.th.never := ⟨_, rfl⟩
        obtain ⟨b2, hb2⟩ : ∃ k, k = P0.el.never := ⟨_, rfl⟩
        rw [← hn1] at hp1 ⊢
        rw [← hn2] at hp2 ⊢
        rw [← hb1, ← hb2]
        have hr := HR.out.keep hb
        have r0 := hr.d0
        have r1 := hr.d1
        have r2 := hr.d2
        have r3 := hr.d3
        have f0 := hr.fr 0
        have f1 := hr.fr 1
        have f2 := hr.fr 2
        have f3 := hr.fr 3
        have HD := Lib.hid (show (n1 = P0.th.l.length ∧ n2 = P0.el.l.length) ∧ b1 = P0.th.never ∧ b2 = P0.el.never from ⟨⟨hn1, hn2⟩, hb1, hb2⟩)
        have HF1 := Lib.hid hp1
        have HF2 := Lib.hid hp2
        have HBB := Lib.hid (HL.out.trans (hb.mono HL.out.size))
        clear hr hp1 hp2 hb hn1 hn2 hb1 hb2
        go_wp2_with fail
        clear hHeld
        refine hK.out _ _ (by (try dsimp only); exact HB4.out.mono (by have := HSZ.out; omega)) (fun hHeld => ?_)
        clear hK K
        (try simp only [Act.put, List.setIfInBounds_toArray, List.set_cons_zero, List.set_cons_succ])
        refine' tk_call 16 ?hi46017 (by kernel_rfl) ?hr46017
        case hi46017 => (simp only [List.getElem?_toArray, List.getElem?_cons_succ, List.getElem?_cons_zero]; rfl)
        intro K hK
        go_simp
        clear hHeld
        refine hK.out _ _ (by (try dsimp only); exact ((((HB4.out.mono (by have := HSZ.out; omega : w.heap.size + 1 ≤ W.heap.size)).setCell (p := ⟨w.heap.size + 1, 0, none⟩) (Nat.le_refl _) _).setCell (p := ⟨w.heap.size + 1, 1, none⟩) (Nat.le_refl _) _).setCell (p := ⟨w.heap.size + 1, 2, none⟩) (Nat.le_refl _) _).setCell (p := ⟨w.heap.size + 1, 3, none⟩) (Nat.le_refl _) _) (fun hHeld => ?_)
        clear hK K
        (try simp only [Act.put, List.setIfInBounds_toArray, List.set_cons_zero, List.set_cons_succ])
        refine wpAnyH_done (by kernel_rfl) ?_ _
        refine NoPanic.normal ?_
        go_wp2
        refine bodyPost_ret (v := .agg #[.bool b1, .slice pa1 n1 pc1, .bool b2, .slice pa2 n2 pc2]) ?_ ?_ ?_
        · simp [results, Try.results11, go_sem, r0, r1, r2, r3]
        · rfl
        · exact pr_done (P := P0) (r := w.heap.size + 1) (by omega) (by have h1 := HSZ.out; have h2 := HB3.out.size; omega) HD.out.1.1 HD.out.1.2 HD.out.2.1 HD.out.2.2 HF1.out HF2.out HBB.out
      · have hmi : ¬ (2 : Int) < (m : Int) := by omega
        have hP : P0 = noneP := by rw [HP0.out, if_neg h0, if_neg h1, if_neg h2, if_neg (fun h => h3 h.1), if_neg (fun h => hm2 h.2)]
        have HPP := Lib.hid hP
        clear hP
        go_wp2_with fail
        refine (pnone_go W).mono ?_
        rintro e w2 ⟨⟨v, rfl, pa1, pc1, pa2, pc2, rfl, hp1, hp2⟩, hb⟩
        rw [← HPP.out] at hp1 hp2 ⊢
        obtain ⟨n1, hn1⟩ : ∃ k, k = P0.th.l.length := ⟨_, rfl⟩
        obtain ⟨n2, hn2⟩ : ∃ k, k = P0.el.l.length := ⟨_, rfl⟩
        obtain ⟨b1, hb1⟩ : ∃ k, k = P0.th.never := ⟨_, rfl⟩
        obtain ⟨b2, hb2⟩ : ∃ k, k = P0.el.never := ⟨_, rfl⟩
        rw [← hn1] at hp1 ⊢
        rw [← hn2] at hp2 ⊢
        rw [← hb1, ← hb2]
        have hr := HR.out.keep hb
        have r0 := hr.d0
        have r1 := hr.d1
        have r2 := hr.d2
        have r3 := hr.d3
        have f0 := hr.fr 0
        have f1 := hr.fr 1
        have f2 := hr.fr 2
        have f3 := hr.fr 3
        have HD := Lib.hid (show (n1 = P0.th.l.length ∧ n2 = P0.el.l.length) ∧ b1 = P0.th.never ∧ b2 = P0.el.never from ⟨⟨hn1, hn2⟩, hb1, hb2⟩)
        have HF1 := Lib.hid hp1
        have HF2 := Lib.hid hp2
        have HBB := Lib.hid (HL.out.trans (hb.mono HL.out.size))
        clear hr hp1 hp2 hb hn1 hn2 hb1 hb2
        go_wp2
        refine bodyPost_ret (v := .agg #[.bool b1, .slice pa1 n1 pc1, .bool b2, .slice pa2 n2 pc2]) ?_ ?_ ?_
        · simp [results, Try.results11, go_sem, r0, r1, r2, r3]
        · rfl
        · exact pr_done (P := P0) (r := w.heap.size + 1) (by omega) (by have := HSZ.out; omega) HD.out.1.1 HD.out.1.2 HD.out.2.1 HD.out.2.2 HF1.out HF2.out HBB.out
    have hP : P0 = noneP := by rw [HP0.out, if_neg h0, if_neg h1, if_neg h2, if_neg (fun h => h3 h.1), if_neg (fun h => h4 h.1)]
    have HPP := Lib.hid hP
    clear hP
    go_wp2_with fail
    refine (pnone_go W).mono ?_
    rintro e w2 ⟨⟨v, rfl, pa1, pc1, pa2, pc2, rfl, hp1, hp2⟩, hb⟩
    rw [← HPP.out] at hp1 hp2 ⊢
    obtain ⟨n1, hn1⟩ : ∃ k, k = P0.th.l.length := ⟨_, rfl⟩
    obtain ⟨n2, hn2⟩ : ∃ k, k = P0.el.l.length := ⟨_, rfl⟩
    obtain ⟨b1, hb1⟩ : ∃ k, k = P0.th.never := ⟨_, rfl⟩
    obtain ⟨b2, hb2⟩ : ∃ k, k = P0.el.never := ⟨_, rfl⟩
    rw [← hn1] at hp1 ⊢
    rw [← hn2] at hp2 ⊢
    rw [← hb1, ← hb2]
    have hr := HR.out.keep hb
    have r0 := hr.d0
    have r1 := hr.d1
    have r2 := hr.d2
    have r3 := hr.d3
    have f0 := hr.fr 0
    have f1 := hr.fr 1
    have f2 := hr.fr 2
    have f3 := hr.fr 3
    have HD := Lib.hid (show (n1 = P0.th.l.length ∧ n2 = P0.el.l.length) ∧ b1 = P0.th.never ∧ b2 = P0.el.never from ⟨⟨hn1, hn2⟩, hb1, hb2⟩)
    have HF1 := Lib.hid hp1
    have HF2 := Lib.hid hp2
    have HBB := Lib.hid (HL.out.trans (hb.mono HL.out.size))
    clear hr hp1 hp2 hb hn1 hn2 hb1 hb2
    go_wp2
    refine bodyPost_ret (v := .agg #[.bool b1, .slice pa1 n1 pc1, .bool b2, .slice pa2 n2 pc2]) ?_ ?_ ?_
    · simp [results, Try.results11, go_sem, r0, r1, r2, r3]
    · rfl
    · exact pr_done (P := P0) (r := w.heap.size + 1) (by omega) (by have := HSZ.out; omega) HD.out.1.1 HD.out.1.2 HD.out.2.1 HD.out.2.2 HF1.out HF2.out HBB.out
end Go.Proofs.Ytgjkobkcmgliaaa
