import Derived.Test.YtgjkobkcmgliaaaNwVa
import Derived.Test.YtgjkobkcmgliaaaNwL
namespace Go.Proofs.Ytgjkobkcmgliaaa
open Go.RowKit

theorem yes_succ (l : List (Int × Bool)) (n : Nat) (t : Tst) : yesT l (n + 1) t =
    if t.op = 0 then decide (0 ≤ t.vr ∧ t.vr < l.length ∧ ¬ bits .and .i64 (l.getD t.vr.toNat vl0).1 t.tags = 0) else
    if t.op = 1 then decide (t.vr < 0 ∨ (l.length : Int) ≤ t.vr ∨ ¬ (l.getD t.vr.toNat vl0).1 = 2 ∨ (l.getD t.vr.toNat vl0).2 = true) else
    if t.op = 2 then t.yes else
    if t.op = 3 then decide (t.of.length = 0) || !yesT l n (t.of.getD 0 te0) else
    if t.op = 4 then (if 2 < t.of.length ∧ yesT l n (t.of.getD 0 te0) = true then yesT l n (t.of.getD 1 te0) else decide (t.of.length < 3) || yesT l n (t.of.getD 2 te0)) else true := rfl

theorem below_drawn {B : Nat} {a w : World} (h : Below B a w) (n : Nat) : Below B a (w.drewN n) := ⟨h.os, h.tape, h.output, h.size, h.block⟩
set_option maxRecDepth 100000 in
set_option maxHeartbeats 16000000 in
theorem yes_go (l : List (Int × Bool)) (va : Option Addr) (k vc : Nat) (hk : k = l.length) (n : Nat) : ∀ (t : Tst) (v : Value) (w : World), litT n t = true → TeV w v t → VaS w (.slice va k vc) l → Calls Try.prog 29 #[v, .slice va k vc] w fun e w' => e = .returned (.bool (yesT l n t)) ∧ Below w.heap.size w w' := by
  have HK := Lib.hid hk
  clear hk
  induction n with
  | zero => intro t v w h; cases h
  | succ n ih =>
    intro t v w hlit hv hva
    obtain ⟨a, c, rfl, hs⟩ := hv.form
    have IH := Lib.hid ih
    have HLI := Lib.hid (lit_of hlit)
    clear ih hlit
    obtain ⟨m, hm⟩ : ∃ m, m = t.of.length := ⟨_, rfl⟩
    rw [← hm] at hs ⊢
    have hml := hs.len
    rw [← hm] at hml
    obtain ⟨W, hW⟩ : ∃ W, W = w.alloc (.cells #[.int .i64 t.op, .int .i64 t.vr, .int .i64 t.tags, .bool t.yes, .slice a m c] 24) := ⟨_, rfl⟩
    have HX := Lib.hid (show Bx W w.heap.size 24 #[.int .i64 t.op, .int .i64 t.vr, .int .i64 t.tags, .bool t.yes, .slice a m c] by rw [hW]; exact Bx.made _ _ _)
    have HL := Lib.hid (show Below w.heap.size w W by rw [hW]; exact (Below.refl _ _).alloc (Nat.le_refl _) _)
    have HS := Lib.hid (hs.keep HL.out)
    have bk : (k : Int) ≤ 9223372036854775807 := by
      have := hva.len; rw [← HK.out] at this; unfold maxLen at this; omega
    have HVS := Lib.hid (hva.below HL.out)
    obtain ⟨z, hz⟩ : ∃ z, z = yesT l (n + 1) t := ⟨_, rfl⟩
    rw [← hz]
    rw [yes_succ] at hz
    have HZ := Lib.hid hz
    have HM := Lib.hid hm
    have HW := Lib.hid hW
    have x0 : W.cell? ⟨w.heap.size, 0, none⟩ = some (.int .i64 t.op) := HX.out.c 0
    have x1 : W.cell? ⟨w.heap.size, 1, none⟩ = some (.int .i64 t.vr) := HX.out.c 1
    have x2 : W.cell? ⟨w.heap.size, 2, none⟩ = some (.int .i64 t.tags) := HX.out.c 2
    have x3 : W.cell? ⟨w.heap.size, 3, none⟩ = some (.bool t.yes) := HX.out.c 3
    have x4 : W.cell? ⟨w.heap.size, 4, none⟩ = some (.slice a m c) := HX.out.c 4
    have bm : (m : Int) ≤ 9223372036854775807 := by unfold maxLen at hml; omega
    clear hs hz hm hW hml hv hva
    go_enter Try.func29, Try.ntmps29
    go_upto_region 1 with fail
    rw [← HW.out]
    clear HW
    by_cases h0 : t.op = 0
    · skip
      by_cases hin0 : 0 ≤ t.vr
      · by_cases hin1 : t.vr < (k : Int)
        · skip
          obtain ⟨j, hj⟩ : ∃ j : Nat, t.vr = (j : Int) := ⟨t.vr.toNat, by omega⟩
          have hjl : j < l.length := by rw [← HK.out]; omega
          obtain ⟨vb, voff, rfl, vlt, y0, y1⟩ := HVS.out.elem hjl
          obtain ⟨tg, htg⟩ : ∃ tg, (l.getD j vl0).1 = tg := ⟨_, rfl⟩
          obtain ⟨ty, hty⟩ : ∃ ty, (l.getD j vl0).2 = ty := ⟨_, rfl⟩
          rw [htg] at y0
          rw [hty] at y1
          rw [hj] at x1 hin0 hin1
          have htn : t.vr.toNat = j := by omega
          have HJ := Lib.hid (show t.vr = (j : Int) ∧ t.vr.toNat = j ∧ (l.getD j vl0).1 = tg ∧ (l.getD j vl0).2 = ty from ⟨hj, htn, htg, hty⟩)
          have jk : (j : Int) < (k : Int) := hin1
          have j0 : (0 : Int) ≤ (j : Int) := hin0
          clear hj htn htg hty hin0 hin1 hjl
          have g0 : decide ((0 : Int) ≤ (j : Int)) = true := decide_eq_true j0
          have g1 : decide ((j : Int) < (k : Int)) = true := decide_eq_true jk
          obtain ⟨q, hq⟩ : ∃ q, q = bits .and .i64 tg t.tags := ⟨_, rfl⟩
          have HQ := Lib.hid hq
          have gq : bits .and .i64 tg t.tags = q := hq.symm
          clear hq
          have e : z = (q != 0) := by
            rw [HZ.out]
            rw [if_pos h0, HJ.out.1, ← HK.out]
            have h1 : ((j : Int)).toNat = j := by omega
            rw [h1, HJ.out.2.2.1, gq]
            by_cases hq : q = 0
            · rw [show (q != 0) = false by simp [hq]]; exact decide_eq_false fun h => h.2.2 hq
            · rw [show (q != 0) = true by simp [hq]]; exact decide_eq_true ⟨j0, jk, hq⟩
          subst e
          go_upto_region 3 with fail
          go_quiet (fail)
          go_wp2
          refine bodyPost_ret (v := .bool (q != 0)) ?_ ?_ ?_
          · simp [results, Try.results29, go_sem]
          · rfl
          · exact ⟨rfl, below_drawn HL.out _⟩
        · have g0 : decide ((0 : Int) ≤ t.vr) = true := decide_eq_true hin0
          have g1 : decide (t.vr < (k : Int)) = false := decide_eq_false hin1
          have e : z = false := by
            rw [HZ.out]
            rw [if_pos h0, ← HK.out]
            exact decide_eq_false fun h => hin1 h.2.1
          subst e
          go_upto_region 3 with fail
          go_quiet (fail)
          go_wp2
          refine bodyPost_ret (v := .bool false) ?_ ?_ ?_
          · simp [results, Try.results29, go_sem]
          · rfl
          · exact ⟨rfl, below_drawn HL.out _⟩
      · have g0 : decide ((0 : Int) ≤ t.vr) = false := decide_eq_false hin0
        have e : z = false := by
          rw [HZ.out]
          rw [if_pos h0]
          exact decide_eq_false fun h => hin0 h.1
        subst e
        go_upto_region 3 with fail
        go_quiet (fail)
        go_wp2
        refine bodyPost_ret (v := .bool false) ?_ ?_ ?_
        · simp [results, Try.results29, go_sem]
        · rfl
        · exact ⟨rfl, below_drawn HL.out _⟩
    by_cases h1 : t.op = 1
    · skip
      have hz1 : z = decide (t.vr < 0 ∨ (l.length : Int) ≤ t.vr ∨ ¬ (l.getD t.vr.toNat vl0).1 = 2 ∨ (l.getD t.vr.toNat vl0).2 = true) := by rw [HZ.out]; rw [if_neg h0, if_pos h1]
      rw [← HK.out] at hz1
      replace HZ := Lib.hid hz1
      clear hz1
      by_cases hin0 : 0 ≤ t.vr
      · have g0 : decide (t.vr < 0) = false := decide_eq_false (by omega)
        by_cases hin1 : t.vr < (k : Int)
        · skip
          obtain ⟨j, hj⟩ : ∃ j : Nat, t.vr = (j : Int) := ⟨t.vr.toNat, by omega⟩
          have hjl : j < l.length := by rw [← HK.out]; omega
          obtain ⟨vb, voff, rfl, vlt, y0, y1⟩ := HVS.out.elem hjl
          obtain ⟨tg, htg⟩ : ∃ tg, (l.getD j vl0).1 = tg := ⟨_, rfl⟩
          obtain ⟨ty, hty⟩ : ∃ ty, (l.getD j vl0).2 = ty := ⟨_, rfl⟩
          rw [htg] at y0
          rw [hty] at y1
          rw [hj] at x1 hin0 hin1
          have htn : t.vr.toNat = j := by omega
          have HJ := Lib.hid (show t.vr = (j : Int) ∧ t.vr.toNat = j ∧ (l.getD j vl0).1 = tg ∧ (l.getD j vl0).2 = ty from ⟨hj, htn, htg, hty⟩)
          have jk : (j : Int) < (k : Int) := hin1
          have j0 : (0 : Int) ≤ (j : Int) := hin0
          clear hj htn htg hty hin0 hin1 hjl
          have g3 : decide ((j : Int) < 0) = false := decide_eq_false (by omega)
          have g1 : decide ((k : Int) ≤ (j : Int)) = false := decide_eq_false (by omega)
          have g5 : decide (k ≤ j) = false := decide_eq_false (by omega)
          by_cases h2 : tg = 2
          · subst h2
            have e : z = ty := by
              rw [HZ.out, HJ.out.2.1, HJ.out.2.2.1, HJ.out.2.2.2, HJ.out.1]
              cases ty
              · exact decide_eq_false fun h => by
                  rcases h with h | h | h | h
                  · omega
                  · omega
                  · exact h rfl
                  · cases h
              · exact decide_eq_true (.inr (.inr (.inr rfl)))
            subst e
            go_wp2
            refine bodyPost_ret (v := .bool z) ?_ ?_ ?_
            · simp [results, Try.results29, go_sem]
            · rfl
            · exact ⟨rfl, HL.out⟩
          · have h3 : decide (tg = 2) = false := decide_eq_false h2
            have e : z = true := by
              rw [HZ.out, HJ.out.2.1, HJ.out.2.2.1]
              exact decide_eq_true (.inr (.inr (.inl h2)))
            subst e
            go_wp2
            refine bodyPost_ret (v := .bool true) ?_ ?_ ?_
            · simp [results, Try.results29, go_sem]
            · rfl
            · exact ⟨rfl, HL.out⟩
        · have g1 : decide ((k : Int) ≤ t.vr) = true := decide_eq_true (by omega)
          have g2 : (k : Int) ≤ t.vr := by omega
          have e : z = true := by
            rw [HZ.out]
            exact decide_eq_true (.inr (.inl g2))
          subst e
          go_wp2
          refine bodyPost_ret (v := .bool true) ?_ ?_ ?_
          · simp [results, Try.results29, go_sem]
          · rfl
          · exact ⟨rfl, HL.out⟩
      · have g0 : decide (t.vr < 0) = true := decide_eq_true (by omega)
        have g2 : t.vr < 0 := by omega
        have e : z = true := by
          rw [HZ.out]
          exact decide_eq_true (.inl g2)
        subst e
        go_wp2
        refine bodyPost_ret (v := .bool true) ?_ ?_ ?_
        · simp [results, Try.results29, go_sem]
        · rfl
        · exact ⟨rfl, HL.out⟩
    by_cases h2 : t.op = 2
    · skip
      have e : z = t.yes := by
        rw [HZ.out]
        rw [if_neg h0, if_neg h1, if_pos h2]
      subst e
      go_wp2
      refine bodyPost_ret (v := .bool t.yes) ?_ ?_ ?_
      · simp [results, Try.results29, go_sem]
      · rfl
      · exact ⟨rfl, HL.out⟩
    by_cases h3 : t.op = 3
    · skip
      by_cases hm0 : m = 0
      · have hmi : (m : Int) = 0 := by omega
        have hm1 : decide ((m : Int) = 0) = true := decide_eq_true hmi
        subst hm0
        have e : z = true := by
          rw [HZ.out]
          rw [if_neg h0, if_neg h1, if_neg h2, if_pos h3, ← HM.out]; rfl
        subst e
        go_wp2
        refine bodyPost_ret (v := .bool true) ?_ ?_ ?_
        · simp [results, Try.results29, go_sem]
        · rfl
        · exact ⟨rfl, HL.out⟩
      · have hmi : ¬ (m : Int) = 0 := by omega
        have hmp : (0 : Int) < (m : Int) := by omega
        have hmd : decide ((m : Int) = 0) = false := decide_eq_false hmi
        have hj0 : 0 < t.of.length := by rw [← HM.out]; omega
        obtain ⟨b, off, ea, ec, rfl, hb, e0, e1, e2, e3, e4, he⟩ := HS.out.elem hj0
        obtain ⟨d, hd⟩ : ∃ d, t.of.getD 0 te0 = d := ⟨_, rfl⟩
        rw [hd] at e0 e1 e2 e3 e4 he
        have HDD := Lib.hid hd
        have HE := Lib.hid he
        have HLD := Lib.hid (show litT n d = true by rw [← hd]; exact HLI.out 0 hj0)
        simp only [Nat.zero_mul, Nat.add_zero] at e0 e1 e2 e3 e4
        clear hd he hb
        go_wp2_with fail
        refine (IH.out d _ W HLD.out ⟨_, rfl, HE.out⟩ HVS.out).mono ?_
        rintro e w2 ⟨rfl, hb⟩
        replace HL := Lib.hid (HL.out.trans (hb.mono HL.out.size))
        obtain ⟨y, hy⟩ : ∃ y, y = yesT l n d := ⟨_, rfl⟩
        rw [← hy]
        have HY := Lib.hid hy
        clear hb hy
        have e : z = !y := by
          rw [HZ.out]
          rw [if_neg h0, if_neg h1, if_neg h2, if_pos h3, ← HM.out, decide_eq_false hm0, HDD.out, ← HY.out]; rfl
        subst e
        go_wp2
        refine bodyPost_ret (v := .bool (!y)) ?_ ?_ ?_
        · simp [results, Try.results29, go_sem, hm0]
        · rfl
        · exact ⟨rfl, HL.out⟩
    by_cases h4 : t.op = 4
    · skip
      by_cases hm2 : 2 < m
      · have hmi : (2 : Int) < (m : Int) := by omega
        have m0 : (0 : Int) < (m : Int) := by omega
        have m1 : (1 : Int) < (m : Int) := by omega
        have hmd : decide ((2 : Int) < (m : Int)) = true := decide_eq_true hmi
        have m3 : decide ((m : Int) < 3) = false := decide_eq_false (by omega)
        have hj0 : 0 < t.of.length := by rw [← HM.out]; omega
        obtain ⟨b, off, ea, ec, rfl, hb, e0, e1, e2, e3, e4, he⟩ := HS.out.elem hj0
        obtain ⟨d, hd⟩ : ∃ d, t.of.getD 0 te0 = d := ⟨_, rfl⟩
        rw [hd] at e0 e1 e2 e3 e4 he
        have HDD := Lib.hid hd
        have HE := Lib.hid he
        have HLD := Lib.hid (show litT n d = true by rw [← hd]; exact HLI.out 0 hj0)
        simp only [Nat.zero_mul, Nat.add_zero] at e0 e1 e2 e3 e4
        clear hd he hb
        go_wp2_with fail
        refine (IH.out d _ W HLD.out ⟨_, rfl, HE.out⟩ HVS.out).mono ?_
        rintro e w2 ⟨rfl, hb⟩
        have HB1 := Lib.hid hb
        obtain ⟨y, hy⟩ : ∃ y, y = yesT l n d := ⟨_, rfl⟩
        rw [← hy]
        have HY := Lib.hid hy
        clear hb hy x0 x1 x2 x3 x4 e0 e1 e2 e3 e4
        cases y with
        | true =>
          have hj1 : 1 < t.of.length := by rw [← HM.out]; omega
          obtain ⟨b1, off1, ea1, ec1, hpa1, hb1, f0, f1, f2, f3, f4, he⟩ := (HS.out.keep HB1.out).elem hj1
          cases hpa1
          obtain ⟨d1, hd1⟩ : ∃ d, t.of.getD 1 te0 = d := ⟨_, rfl⟩
          rw [hd1] at f0 f1 f2 f3 f4 he
          have HD1 := Lib.hid hd1
          have HE1 := Lib.hid he
          have HL1 := Lib.hid (show litT n d1 = true by rw [← hd1]; exact HLI.out 1 hj1)
          simp only [Nat.one_mul, Nat.add_assoc, Nat.reduceAdd] at f0 f1 f2 f3 f4
          have q4 : w2.cell? ⟨w.heap.size, 4, none⟩ = some (.slice (some ⟨b, off, none⟩) m c) := (HX.out.keep HB1.out).c 4
          clear hd1 he hb1
          go_wp2_with fail
          refine (IH.out d1 _ w2 HL1.out ⟨_, rfl, HE1.out⟩ (HVS.out.below HB1.out)).mono ?_
          rintro e w3 ⟨rfl, hb⟩
          have HB2 := Lib.hid (HB1.out.trans (hb.mono HB1.out.size))
          obtain ⟨y2, hy2⟩ : ∃ y, y = yesT l n d1 := ⟨_, rfl⟩
          rw [← hy2]
          have HY2 := Lib.hid hy2
          clear hb hy2
          have e : z = y2 := by
            rw [HZ.out]
            rw [if_neg h0, if_neg h1, if_neg h2, if_neg h3, if_pos h4, if_pos (show 2 < t.of.length ∧ yesT l n (t.of.getD 0 te0) = true from ⟨by rw [← HM.out]; exact hm2, by rw [HDD.out]; exact HY.out.symm⟩), HD1.out, ← HY2.out]
          subst e
          go_wp2
          refine bodyPost_ret (v := .bool z) ?_ ?_ ?_
          · simp [results, Try.results29, go_sem]
          · rfl
          · exact ⟨rfl, HL.out.trans (HB2.out.mono HL.out.size)⟩
        | false =>
          have hj2 : 2 < t.of.length := by rw [← HM.out]; omega
          obtain ⟨b2, off2, ea2, ec2, hpa2, hb2, f0, f1, f2, f3, f4, he⟩ := (HS.out.keep HB1.out).elem hj2
          cases hpa2
          obtain ⟨d2, hd2⟩ : ∃ d, t.of.getD 2 te0 = d := ⟨_, rfl⟩
          rw [hd2] at f0 f1 f2 f3 f4 he
          have HD2 := Lib.hid hd2
          have HE2 := Lib.hid he
          have HL2 := Lib.hid (show litT n d2 = true by rw [← hd2]; exact HLI.out 2 hj2)
          simp only [Nat.reduceMul, Nat.add_assoc, Nat.reduceAdd] at f0 f1 f2 f3 f4
          have q4 : w2.cell? ⟨w.heap.size, 4, none⟩ = some (.slice (some ⟨b, off, none⟩) m c) := (HX.out.keep HB1.out).c 4
          clear hd2 he hb2
          go_wp2_with fail
          refine (IH.out d2 _ w2 HL2.out ⟨_, rfl, HE2.out⟩ (HVS.out.below HB1.out)).mono ?_
          rintro e w3 ⟨rfl, hb⟩
          have HB2 := Lib.hid (HB1.out.trans (hb.mono HB1.out.size))
          obtain ⟨y2, hy2⟩ : ∃ y, y = yesT l n d2 := ⟨_, rfl⟩
          rw [← hy2]
          have HY2 := Lib.hid hy2
          clear hb hy2
          have e : z = y2 := by
            rw [HZ.out]
            rw [if_neg h0, if_neg h1, if_neg h2, if_neg h3, if_pos h4, if_neg (show ¬ (2 < t.of.length ∧ yesT l n (t.of.getD 0 te0) = true) from fun h => by have h5 := h.2; rw [HDD.out, ← HY.out] at h5; cases h5), HD2.out, ← HY2.out, decide_eq_false (show ¬ t.of.length < 3 by rw [← HM.out]; omega)]; rfl
          subst e
          go_wp2
          refine bodyPost_ret (v := .bool z) ?_ ?_ ?_
          · simp [results, Try.results29, go_sem]
          · rfl
          · exact ⟨rfl, HL.out.trans (HB2.out.mono HL.out.size)⟩
      · have hmi : ¬ (2 : Int) < (m : Int) := by omega
        have hmd : decide ((2 : Int) < (m : Int)) = false := decide_eq_false hmi
        have m3 : decide ((m : Int) < 3) = true := decide_eq_true (by omega)
        have m4 : (m : Int) < 3 := by omega
        have e : z = true := by
          rw [HZ.out]
          rw [if_neg h0, if_neg h1, if_neg h2, if_neg h3, if_pos h4, if_neg (show ¬ (2 < t.of.length ∧ yesT l n (t.of.getD 0 te0) = true) from fun h => hm2 (by rw [HM.out]; exact h.1)), decide_eq_true (show t.of.length < 3 by rw [← HM.out]; omega)]; rfl
        subst e
        go_wp2
        refine bodyPost_ret (v := .bool true) ?_ ?_ ?_
        · simp [results, Try.results29, go_sem]
        · rfl
        · exact ⟨rfl, HL.out⟩
    have e : z = true := by
      rw [HZ.out]
      rw [if_neg h0, if_neg h1, if_neg h2, if_neg h3, if_neg h4]
    subst e
    go_wp2
    refine bodyPost_ret (v := .bool true) ?_ ?_ ?_
    · simp [results, Try.results29, go_sem]
    · rfl
    · exact ⟨rfl, HL.out⟩
end Go.Proofs.Ytgjkobkcmgliaaa
