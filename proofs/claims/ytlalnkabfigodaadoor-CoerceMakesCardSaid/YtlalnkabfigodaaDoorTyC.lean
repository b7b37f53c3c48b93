import Derived.Test.YtlalnkabfigodaaDoorTyTw
namespace Go.Proofs.YtlalnkabfigodaaDoor
open Go.Lib (hid)
open Go.RowKit

def DeepOK (n : Nat) : Prop := ∀ (t : Ty) (v : Value) (w : World), TyV w v t →
  Calls Tryd.prog 58 #[v, .int .i64 n] w fun e w' => e = .returned (.bool (deepF n t)) ∧ Below w.heap.size w w'

set_option maxRecDepth 100000 in
set_option maxHeartbeats 1000000 in
theorem deep_zero : DeepOK 0 := by
 intro t v w hv
 obtain ⟨pa, pc, fa, fc, rfl, _, _⟩ := hv.form
 go_enter Tryd.func58, Tryd.ntmps58
 go_wp2
 go_ret
 exact ⟨rfl, (Below.refl _ _).alloc (Nat.le_refl _) _⟩
def wantP (p : Int) : Int := if p = 1 then 2 else if p = 2 then 1 else 0
theorem tab_cell (W : World) (m : Nat) (hm : m ≤ 2) : (W.alloc (.cells #[.int .i64 0, .int .i64 2, .int .i64 1] 3)).cell? ⟨W.heap.size, m, none⟩ = some (.int .i64 (wantP m)) := by
 rw [Lib.cell_of_heap (heap_alloc_new _ _) m]
 obtain rfl | rfl | rfl : m = 0 ∨ m = 1 ∨ m = 2 := by omega
 ·
  rfl
 ·
  rfl
 ·
  rfl
theorem all_get {l : List Ty} {p : Ty → Bool} (k : Nat) (h : k < l.length) : (l.take (k + 1)).all p = ((l.take k).all p && p (l.getD k ty0)) := by
 rw [List.take_succ_eq_append_getElem h, List.all_append]
 simp [List.getD_eq_getElem?_getD, h]
theorem all_not {l : List Ty} {p : Ty → Bool} (k : Nat) (h : k < l.length) (hp : p (l.getD k ty0) = false) : l.all p = false := by
 rw [List.all_eq_false]
 exact ⟨l[k], List.getElem_mem h, by simpa [List.getD_eq_getElem?_getD, h] using hp⟩

set_option maxRecDepth 100000 in
set_option maxHeartbeats 8000000 in
theorem deep_succ (n : Nat) (hn : n ≤ 100) (ih : DeepOK n) : DeepOK (n + 1) := by
 intro t v w hv
 obtain ⟨pa, pc, fa, fc, rfl, hp, hf⟩ := hv.form
 have hrec := deepF_succ n t
 have hhd : headOK t = decide (0 ≤ t.flat ∧ t.flat ≤ 63 ∧ 0 ≤ t.pair ∧ t.pair ≤ 2 ∧ 0 ≤ t.fn ∧ t.fn ≤ 2 ∧ (t.all = true → t.flat = 0 ∧ t.pair = 0 ∧ t.fn = 0) ∧ (t.pairs.length : Int) = wantP t.pair ∧ (t.fn ≠ 1 → t.funs.length = 0) ∧ (t.fn = 1 → 1 ≤ t.funs.length ∧ t.funs.length ≤ 9)) := rfl
 obtain ⟨np, hnp⟩ : ∃ n, n = t.pairs.length := ⟨_, rfl⟩
 obtain ⟨nf, hnf⟩ : ∃ n, n = t.funs.length := ⟨_, rfl⟩
 rw [← hnp] at hp hhd ⊢
 rw [← hnf] at hf hhd ⊢
 obtain ⟨ta, hta⟩ : ∃ a, a = t.all := ⟨_, rfl⟩
 obtain ⟨tf, htf⟩ : ∃ a, a = t.flat := ⟨_, rfl⟩
 obtain ⟨tp, htp⟩ : ∃ a, a = t.pair := ⟨_, rfl⟩
 obtain ⟨tn, htn⟩ : ∃ a, a = t.fn := ⟨_, rfl⟩
 rw [← hta, ← htf, ← htp, ← htn] at hhd ⊢
 have hpl := hp.len
 have hfl := hf.len
 rw [← hnp] at hpl
 rw [← hnf] at hfl
 unfold maxLen at hpl hfl
 obtain ⟨W, hW⟩ : ∃ W, W = w.alloc (.cells #[.bool ta, .int .i64 tf, .int .i64 tp, .slice pa np pc, .int .i64 tn, .slice fa nf fc] 47) := ⟨_, rfl⟩
 obtain ⟨g, hg⟩ : ∃ g, g = w.heap.size := ⟨_, rfl⟩
 have HBX := hid (show BoxAt W g ta tf tp (.slice pa np pc) tn (.slice fa nf fc) by rw [hW, hg]; exact BoxAt.made _ _ _ _ _ _ _)
 have HBW := hid (show Below w.heap.size w W by rw [hW]; exact (Below.refl _ _).alloc (Nat.le_refl _) _)
 have HP := hid (hp.under HBW.out)
 have HF := hid (hf.under HBW.out)
 have HGS := hid (show W.heap.size = g + 1 by rw [hW, hg]; simp)
 have HW := hid hW
 have HG := hid hg
 have HPN := hid hnp
 have HFN := hid hnf
 have HI := hid ih
 have HR := hid hrec
 have HH := hid hhd
 have hn0 : ((n : Int) + 1 == 0) = false := by simp; omega
 rw [show ((n + 1 : Nat) : Int) = (n : Int) + 1 by omega]
 clear hp hf hnp hnf hta htf htp htn hW hg ih hv hrec hhd
 by_cases c0 : tf < 0
 ·
  have d0 : decide (tf < 0) = true := decide_eq_true c0
  have hbad : deepF (n + 1) t = false := by rw [HR.out, HH.out, decide_eq_false (by omega), Bool.false_and, Bool.false_and]
  have HBAD := hid hbad
  clear hbad c0
  go_enter Tryd.func58, Tryd.ntmps58
  go_wp2
  go_ret
  exact ⟨ret_bool (by rw [HBAD.out]), (Below.refl _ _).alloc (Nat.le_refl _) _⟩
 have d0 : decide (tf < 0) = false := decide_eq_false c0
 by_cases c1 : tf > 63
 ·
  have d1 : decide (tf > 63) = true := decide_eq_true c1
  have hbad : deepF (n + 1) t = false := by rw [HR.out, HH.out, decide_eq_false (by omega), Bool.false_and, Bool.false_and]
  have HBAD := hid hbad
  clear hbad c1 c0
  go_enter Tryd.func58, Tryd.ntmps58
  go_wp2
  go_ret
  exact ⟨ret_bool (by rw [HBAD.out]), (Below.refl _ _).alloc (Nat.le_refl _) _⟩
 have d1 : decide (tf > 63) = false := decide_eq_false c1
 by_cases c2 : tp < 0
 ·
  have d2 : decide (tp < 0) = true := decide_eq_true c2
  have hbad : deepF (n + 1) t = false := by rw [HR.out, HH.out, decide_eq_false (by omega), Bool.false_and, Bool.false_and]
  have HBAD := hid hbad
  clear hbad c2 c0 c1
  go_enter Tryd.func58, Tryd.ntmps58
  go_wp2
  go_ret
  exact ⟨ret_bool (by rw [HBAD.out]), (Below.refl _ _).alloc (Nat.le_refl _) _⟩
 have d2 : decide (tp < 0) = false := decide_eq_false c2
 by_cases c3 : tp > 2
 ·
  have d3 : decide (tp > 2) = true := decide_eq_true c3
  have hbad : deepF (n + 1) t = false := by rw [HR.out, HH.out, decide_eq_false (by omega), Bool.false_and, Bool.false_and]
  have HBAD := hid hbad
  clear hbad c3 c0 c1 c2
  go_enter Tryd.func58, Tryd.ntmps58
  go_wp2
  go_ret
  exact ⟨ret_bool (by rw [HBAD.out]), (Below.refl _ _).alloc (Nat.le_refl _) _⟩
 have d3 : decide (tp > 2) = false := decide_eq_false c3
 by_cases c4 : tn < 0
 ·
  have d4 : decide (tn < 0) = true := decide_eq_true c4
  have hbad : deepF (n + 1) t = false := by rw [HR.out, HH.out, decide_eq_false (by omega), Bool.false_and, Bool.false_and]
  have HBAD := hid hbad
  clear hbad c4 c0 c1 c2 c3
  go_enter Tryd.func58, Tryd.ntmps58
  go_wp2
  go_ret
  exact ⟨ret_bool (by rw [HBAD.out]), (Below.refl _ _).alloc (Nat.le_refl _) _⟩
 have d4 : decide (tn < 0) = false := decide_eq_false c4
 by_cases c5 : tn > 2
 ·
  have d5 : decide (tn > 2) = true := decide_eq_true c5
  have hbad : deepF (n + 1) t = false := by rw [HR.out, HH.out, decide_eq_false (by omega), Bool.false_and, Bool.false_and]
  have HBAD := hid hbad
  clear hbad c5 c0 c1 c2 c3 c4
  go_enter Tryd.func58, Tryd.ntmps58
  go_wp2
  go_ret
  exact ⟨ret_bool (by rw [HBAD.out]), (Below.refl _ _).alloc (Nat.le_refl _) _⟩
 have d5 : decide (tn > 2) = false := decide_eq_false c5
 obtain ⟨m, rfl⟩ : ∃ m : Nat, tp = m := ⟨tp.toNat, by omega⟩
 have HM2 := hid (show m ≤ 2 by omega)
 obtain ⟨want, hwant⟩ : ∃ z, z = wantP m := ⟨_, rfl⟩
 have HWT := hid hwant
 have HC := hid (show 0 ≤ tf ∧ tf ≤ 63 ∧ 0 ≤ tn ∧ tn ≤ 2 by omega)
 have hm0 : (0 : Int) ≤ m := Int.natCast_nonneg _
 have hm3 : (m : Int) < 3 := by omega
 rw [← hwant] at HH
 clear c0 c1 c2 c3 c4 c5 hwant
 cases ta with
 | false =>
  by_cases cp : (np : Int) = want
  ·
   have e1 : ((np : Int) != want) = false := by rw [cp]; simp
   by_cases cn : tn = 1
   ·
    have e2 : (tn != 1) = false := by rw [cn]; rfl
    have e3 : (tn == 1) = true := by rw [cn]; rfl
    by_cases cl : nf < 1
    ·
     have e4 : decide ((nf : Int) < 1) = true := decide_eq_true (by omega)
     have hbad : deepF (n + 1) t = false := by rw [HR.out, HH.out, decide_eq_false (by have := HC.out; omega), Bool.false_and, Bool.false_and]
     have HBAD := hid hbad
     clear hbad cp cn cl
     go_enter Tryd.func58, Tryd.ntmps58
     go_wp2_with fail
     rw [← HG.out, ← HW.out]
     obtain ⟨W2, hW2⟩ : ∃ W2, W2 = W.alloc (.cells #[.int .i64 0, .int .i64 2, .int .i64 1] 3) := ⟨_, rfl⟩
     rw [← hW2]
     have HBX2 := hid (HBX.out.keep (show Below W.heap.size W W2 by rw [hW2]; exact (Below.refl _ _).alloc (Nat.le_refl _) _))
     have HBW2 := hid (show Below w.heap.size w W2 by rw [hW2]; exact HBW.out.alloc HBW.out.size _)
     have HWW := hid (show Below W.heap.size W W2 by rw [hW2]; exact (Below.refl _ _).alloc (Nat.le_refl _) _)
     have hcw : W2.cell? ⟨g + 1, m, none⟩ = some (.int .i64 want) := by rw [hW2, HWT.out, ← HGS.out]; exact tab_cell W m HM2.out
     have hlw : g + 1 < W2.heap.size := by rw [hW2, ← HGS.out]; simp
     have x2 := HBX2.out.c2
     have x3 := HBX2.out.c3
     have x4 := HBX2.out.c4
     have x5 := HBX2.out.c5
     clear hW2
     go_quiet (fail)
     clear x2 x3 x4 x5 hcw hlw
     go_wp2
     go_ret
     exact ⟨ret_bool (by rw [HBAD.out]), below_drewN HBW2.out _⟩
    have e4 : decide ((nf : Int) < 1) = false := decide_eq_false (by omega)
    by_cases cu : nf > 9
    ·
     have e5 : decide ((nf : Int) > 9) = true := decide_eq_true (by omega)
     have hbad : deepF (n + 1) t = false := by rw [HR.out, HH.out, decide_eq_false (by have := HC.out; omega), Bool.false_and, Bool.false_and]
     have HBAD := hid hbad
     clear hbad cp cn cl cu
     go_enter Tryd.func58, Tryd.ntmps58
     go_wp2_with fail
     rw [← HG.out, ← HW.out]
     obtain ⟨W2, hW2⟩ : ∃ W2, W2 = W.alloc (.cells #[.int .i64 0, .int .i64 2, .int .i64 1] 3) := ⟨_, rfl⟩
     rw [← hW2]
     have HBX2 := hid (HBX.out.keep (show Below W.heap.size W W2 by rw [hW2]; exact (Below.refl _ _).alloc (Nat.le_refl _) _))
     have HBW2 := hid (show Below w.heap.size w W2 by rw [hW2]; exact HBW.out.alloc HBW.out.size _)
     have HWW := hid (show Below W.heap.size W W2 by rw [hW2]; exact (Below.refl _ _).alloc (Nat.le_refl _) _)
     have hcw : W2.cell? ⟨g + 1, m, none⟩ = some (.int .i64 want) := by rw [hW2, HWT.out, ← HGS.out]; exact tab_cell W m HM2.out
     have hlw : g + 1 < W2.heap.size := by rw [hW2, ← HGS.out]; simp
     have x2 := HBX2.out.c2
     have x3 := HBX2.out.c3
     have x4 := HBX2.out.c4
     have x5 := HBX2.out.c5
     clear hW2
     go_quiet (fail)
     clear x2 x3 x4 x5 hcw hlw
     go_wp2
     go_ret
     exact ⟨ret_bool (by rw [HBAD.out]), below_drewN HBW2.out _⟩
    have e5 : decide ((nf : Int) > 9) = false := decide_eq_false (by omega)
    have hgood : headOK t = true := by rw [HH.out]; exact decide_eq_true (by have := HC.out; have := HM2.out; refine ⟨by omega, by omega, by omega, by omega, by omega, by omega, (fun h => by cases h), cp, by omega, by omega⟩)
    clear cp cn cl cu
    as_aux_lemma =>
     have HHD := hid hgood
     clear hgood
     go_enter Tryd.func58, Tryd.ntmps58
     go_wp2_with fail
     rw [← HG.out, ← HW.out]
     obtain ⟨W2, hW2⟩ : ∃ W2, W2 = W.alloc (.cells #[.int .i64 0, .int .i64 2, .int .i64 1] 3) := ⟨_, rfl⟩
     rw [← hW2]
     have HBX2 := hid (HBX.out.keep (show Below W.heap.size W W2 by rw [hW2]; exact (Below.refl _ _).alloc (Nat.le_refl _) _))
     have HBW2 := hid (show Below w.heap.size w W2 by rw [hW2]; exact HBW.out.alloc HBW.out.size _)
     have HWW := hid (show Below W.heap.size W W2 by rw [hW2]; exact (Below.refl _ _).alloc (Nat.le_refl _) _)
     have hcw : W2.cell? ⟨g + 1, m, none⟩ = some (.int .i64 want) := by rw [hW2, HWT.out, ← HGS.out]; exact tab_cell W m HM2.out
     have hlw : g + 1 < W2.heap.size := by rw [hW2, ← HGS.out]; simp
     have x2 := HBX2.out.c2
     have x3 := HBX2.out.c3
     have x4 := HBX2.out.c4
     have x5 := HBX2.out.c5
     clear hW2
     go_quiet (fail)
     clear x2 x3 x4 x5 hcw hlw
     obtain ⟨WL, hWL⟩ : ∃ WL, WL = W2.drewN nq := ⟨_, rfl⟩
     have HBXL := hid (show BoxAt WL _ _ _ _ _ _ _ by rw [hWL]; exact HBX2.out)
     have HBWL := hid (show Below w.heap.size w WL by rw [hWL]; exact below_drewN HBW2.out _)
     have HPL := hid (HP.out.under (show Below W.heap.size W WL by rw [hWL]; exact below_drewN HWW.out _))
     have HFL := hid (HF.out.under (show Below W.heap.size W WL by rw [hWL]; exact below_drewN HWW.out _))
     rw [← hWL]
     clear hWL HBX2 HBW2 HWW
     go_wp2
     go_loopw [6] (fun i wr => ∃ k : Nat, k ≤ np ∧ i = .int .i64 k ∧ Hid ((t.pairs.take k).all (deepF n) = true) ∧ Hid (Below WL.heap.size WL wr)) (fun i _ => np - (intOf i).toNat)
     case atStart => exact ⟨0, Nat.zero_le _, rfl, hid (by rw [List.take_zero]; rfl), hid (Below.refl _ _)⟩
     case round =>
      obtain ⟨k, hk, rfl, HA, HB⟩ := hrel
      have hcell := (HBXL.out.keep HB.out).c3
      by_cases hgo : k < np
      ·
       have hkl : k < t.pairs.length := by rw [← HPN.out]; exact hgo
       obtain ⟨d, hd⟩ : ∃ d, t.pairs.getD k ty0 = d := ⟨_, rfl⟩
       obtain ⟨b, off, p1, c1, p2, c2, rfl, hb, e0, e1, e2, e3, e4, e5, hv⟩ := (HPL.out.under HB.out).elem hkl hd
       have hsn := all_get (p := deepF n) k hkl
       rw [HA.out, Bool.true_and, hd] at hsn
       have hno : deepF n d = false → t.pairs.all (deepF n) = false := fun h => all_not k hkl (by rw [hd]; exact h)
       obtain ⟨q1, hq1⟩ : ∃ q, q = d.pairs.length := ⟨_, rfl⟩
       obtain ⟨q2, hq2⟩ : ∃ q, q = d.funs.length := ⟨_, rfl⟩
       rw [← hq1] at e3 hv
       rw [← hq2] at e5 hv
       have C := HI.out d _ wr hv
       obtain ⟨z, hz⟩ : ∃ z, z = deepF n d := ⟨_, rfl⟩
       rw [← hz] at C hsn hno
       have HC2 := hid C
       have HSN := hid hsn
       have HNO := hid hno
       have hlt : (k : Int) < np := by omega
       have HKL := hid hgo
       clear hd hv hsn C hz hq1 hq2 hgo hk hkl hno HA
       go_wp2_with fail
       refine HC2.out.mono ?_
       rintro e w2 ⟨rfl, hbw⟩
       have HB2 := hid (HB.out.trans (hbw.mono HB.out.size))
       clear hbw
       cases z with
       | false =>
        have hbad : deepF (n + 1) t = false := by rw [HR.out, HNO.out rfl]; simp
        have HBAD := hid hbad
        clear hbad
        go_wp2
        go_ret
        exact ⟨ret_bool (by rw [HBAD.out]), HBWL.out.trans (HB2.out.mono HBWL.out.size)⟩
       | true =>
        go_wp2
        exact ⟨⟨k + 1, by have := HKL.out; omega, by go_num, HSN, HB2⟩, by have := HKL.out; simp [intOf]; omega⟩
      ·
       have hend : t.pairs.all (deepF n) = true := by
        have := HA.out
        rwa [List.take_of_length_le (by rw [← HPN.out]; omega)] at this
       have HE1 := hid hend
       have hlt : ¬ (k : Int) < np := by omega
       clear hend HA hgo hk
       have HB1 := HB
       clear HB
       go_wp2
       go_loopw [7] (fun i wr => ∃ k : Nat, k ≤ nf ∧ i = .int .i64 k ∧ Hid ((t.funs.take k).all (deepF n) = true) ∧ Hid (Below WL.heap.size WL wr)) (fun i _ => nf - (intOf i).toNat)
       case atStart => exact ⟨0, Nat.zero_le _, rfl, hid (by rw [List.take_zero]; rfl), HB1⟩
       case round =>
        obtain ⟨k, hk, rfl, HA, HB⟩ := hrel
        have hcell := (HBXL.out.keep HB.out).c5
        by_cases hgo : k < nf
        ·
         have hkl : k < t.funs.length := by rw [← HFN.out]; exact hgo
         obtain ⟨d, hd⟩ : ∃ d, t.funs.getD k ty0 = d := ⟨_, rfl⟩
         obtain ⟨b, off, p1, c1, p2, c2, rfl, hb, e0, e1, e2, e3, e4, e5, hv⟩ := (HFL.out.under HB.out).elem hkl hd
         have hsn := all_get (p := deepF n) k hkl
         rw [HA.out, Bool.true_and, hd] at hsn
         have hno : deepF n d = false → t.funs.all (deepF n) = false := fun h => all_not k hkl (by rw [hd]; exact h)
         obtain ⟨q1, hq1⟩ : ∃ q, q = d.pairs.length := ⟨_, rfl⟩
         obtain ⟨q2, hq2⟩ : ∃ q, q = d.funs.length := ⟨_, rfl⟩
         rw [← hq1] at e3 hv
         rw [← hq2] at e5 hv
         have C := HI.out d _ wr hv
         obtain ⟨z, hz⟩ : ∃ z, z = deepF n d := ⟨_, rfl⟩
         rw [← hz] at C hsn hno
         have HC2 := hid C
         have HSN := hid hsn
         have HNO := hid hno
         have hlt : (k : Int) < nf := by omega
         have HKL := hid hgo
         clear hd hv hsn C hz hq1 hq2 hgo hk hkl hno HA
         go_wp2_with fail
         refine HC2.out.mono ?_
         rintro e w2 ⟨rfl, hbw⟩
         have HB2 := hid (HB.out.trans (hbw.mono HB.out.size))
         clear hbw
         cases z with
         | false =>
          have hbad : deepF (n + 1) t = false := by rw [HR.out, HNO.out rfl]; simp
          have HBAD := hid hbad
          clear hbad
          go_wp2
          go_ret
          exact ⟨ret_bool (by rw [HBAD.out]), HBWL.out.trans (HB2.out.mono HBWL.out.size)⟩
         | true =>
          go_wp2
          exact ⟨⟨k + 1, by have := HKL.out; omega, by go_num, HSN, HB2⟩, by have := HKL.out; simp [intOf]; omega⟩
        ·
         have hend : t.funs.all (deepF n) = true := by
          have := HA.out
          rwa [List.take_of_length_le (by rw [← HFN.out]; omega)] at this
         have HE2 := hid hend
         have hlt : ¬ (k : Int) < nf := by omega
         clear hend HA hgo hk
         go_wp2
         go_ret
         exact ⟨ret_bool (by rw [HR.out, HHD.out, HE1.out, HE2.out]; rfl), HBWL.out.trans (HB.out.mono HBWL.out.size)⟩
   ·
    have e2 : (tn != 1) = true := bne_iff_ne.2 cn
    have e3 : (tn == 1) = false := beq_false_of_ne cn
    by_cases cl : nf = 0
    ·
     have e4 : ((nf : Int) != 0) = false := by rw [cl]; rfl
     have hgood : headOK t = true := by rw [HH.out]; exact decide_eq_true (by have := HC.out; have := HM2.out; refine ⟨by omega, by omega, by omega, by omega, by omega, by omega, (fun h => by cases h), cp, by omega, by omega⟩)
     clear cp cn cl
     as_aux_lemma =>
      have HHD := hid hgood
      clear hgood
      go_enter Tryd.func58, Tryd.ntmps58
      go_wp2_with fail
      rw [← HG.out, ← HW.out]
      obtain ⟨W2, hW2⟩ : ∃ W2, W2 = W.alloc (.cells #[.int .i64 0, .int .i64 2, .int .i64 1] 3) := ⟨_, rfl⟩
      rw [← hW2]
      have HBX2 := hid (HBX.out.keep (show Below W.heap.size W W2 by rw [hW2]; exact (Below.refl _ _).alloc (Nat.le_refl _) _))
      have HBW2 := hid (show Below w.heap.size w W2 by rw [hW2]; exact HBW.out.alloc HBW.out.size _)
      have HWW := hid (show Below W.heap.size W W2 by rw [hW2]; exact (Below.refl _ _).alloc (Nat.le_refl _) _)
      have hcw : W2.cell? ⟨g + 1, m, none⟩ = some (.int .i64 want) := by rw [hW2, HWT.out, ← HGS.out]; exact tab_cell W m HM2.out
      have hlw : g + 1 < W2.heap.size := by rw [hW2, ← HGS.out]; simp
      have x2 := HBX2.out.c2
      have x3 := HBX2.out.c3
      have x4 := HBX2.out.c4
      have x5 := HBX2.out.c5
      clear hW2
      go_quiet (fail)
      clear x2 x3 x4 x5 hcw hlw
      obtain ⟨WL, hWL⟩ : ∃ WL, WL = W2.drewN nq := ⟨_, rfl⟩
      have HBXL := hid (show BoxAt WL _ _ _ _ _ _ _ by rw [hWL]; exact HBX2.out)
      have HBWL := hid (show Below w.heap.size w WL by rw [hWL]; exact below_drewN HBW2.out _)
      have HPL := hid (HP.out.under (show Below W.heap.size W WL by rw [hWL]; exact below_drewN HWW.out _))
      have HFL := hid (HF.out.under (show Below W.heap.size W WL by rw [hWL]; exact below_drewN HWW.out _))
      rw [← hWL]
      clear hWL HBX2 HBW2 HWW
      go_wp2
      go_loopw [6] (fun i wr => ∃ k : Nat, k ≤ np ∧ i = .int .i64 k ∧ Hid ((t.pairs.take k).all (deepF n) = true) ∧ Hid (Below WL.heap.size WL wr)) (fun i _ => np - (intOf i).toNat)
      case atStart => exact ⟨0, Nat.zero_le _, rfl, hid (by rw [List.take_zero]; rfl), hid (Below.refl _ _)⟩
      case round =>
       obtain ⟨k, hk, rfl, HA, HB⟩ := hrel
       have hcell := (HBXL.out.keep HB.out).c3
       by_cases hgo : k < np
       ·
        have hkl : k < t.pairs.length := by rw [← HPN.out]; exact hgo
        obtain ⟨d, hd⟩ : ∃ d, t.pairs.getD k ty0 = d := ⟨_, rfl⟩
        obtain ⟨b, off, p1, c1, p2, c2, rfl, hb, e0, e1, e2, e3, e4, e5, hv⟩ := (HPL.out.under HB.out).elem hkl hd
        have hsn := all_get (p := deepF n) k hkl
        rw [HA.out, Bool.true_and, hd] at hsn
        have hno : deepF n d = false → t.pairs.all (deepF n) = false := fun h => all_not k hkl (by rw [hd]; exact h)
        obtain ⟨q1, hq1⟩ : ∃ q, q = d.pairs.length := ⟨_, rfl⟩
        obtain ⟨q2, hq2⟩ : ∃ q, q = d.funs.length := ⟨_, rfl⟩
        rw [← hq1] at e3 hv
        rw [← hq2] at e5 hv
        have C := HI.out d _ wr hv
        obtain ⟨z, hz⟩ : ∃ z, z = deepF n d := ⟨_, rfl⟩
        rw [← hz] at C hsn hno
        have HC2 := hid C
        have HSN := hid hsn
        have HNO := hid hno
        have hlt : (k : Int) < np := by omega
        have HKL := hid hgo
        clear hd hv hsn C hz hq1 hq2 hgo hk hkl hno HA
        go_wp2_with fail
        refine HC2.out.mono ?_
        rintro e w2 ⟨rfl, hbw⟩
        have HB2 := hid (HB.out.trans (hbw.mono HB.out.size))
        clear hbw
        cases z with
        | false =>
         have hbad : deepF (n + 1) t = false := by rw [HR.out, HNO.out rfl]; simp
         have HBAD := hid hbad
         clear hbad
         go_wp2
         go_ret
         exact ⟨ret_bool (by rw [HBAD.out]), HBWL.out.trans (HB2.out.mono HBWL.out.size)⟩
        | true =>
         go_wp2
         exact ⟨⟨k + 1, by have := HKL.out; omega, by go_num, HSN, HB2⟩, by have := HKL.out; simp [intOf]; omega⟩
       ·
        have hend : t.pairs.all (deepF n) = true := by
         have := HA.out
         rwa [List.take_of_length_le (by rw [← HPN.out]; omega)] at this
        have HE1 := hid hend
        have hlt : ¬ (k : Int) < np := by omega
        clear hend HA hgo hk
        have HB1 := HB
        clear HB
        go_wp2
        go_loopw [7] (fun i wr => ∃ k : Nat, k ≤ nf ∧ i = .int .i64 k ∧ Hid ((t.funs.take k).all (deepF n) = true) ∧ Hid (Below WL.heap.size WL wr)) (fun i _ => nf - (intOf i).toNat)
        case atStart => exact ⟨0, Nat.zero_le _, rfl, hid (by rw [List.take_zero]; rfl), HB1⟩
        case round =>
         obtain ⟨k, hk, rfl, HA, HB⟩ := hrel
         have hcell := (HBXL.out.keep HB.out).c5
         by_cases hgo : k < nf
         ·
          have hkl : k < t.funs.length := by rw [← HFN.out]; exact hgo
          obtain ⟨d, hd⟩ : ∃ d, t.funs.getD k ty0 = d := ⟨_, rfl⟩
          obtain ⟨b, off, p1, c1, p2, c2, rfl, hb, e0, e1, e2, e3, e4, e5, hv⟩ := (HFL.out.under HB.out).elem hkl hd
          have hsn := all_get (p := deepF n) k hkl
          rw [HA.out, Bool.true_and, hd] at hsn
          have hno : deepF n d = false → t.funs.all (deepF n) = false := fun h => all_not k hkl (by rw [hd]; exact h)
          obtain ⟨q1, hq1⟩ : ∃ q, q = d.pairs.length := ⟨_, rfl⟩
          obtain ⟨q2, hq2⟩ : ∃ q, q = d.funs.length := ⟨_, rfl⟩
          rw [← hq1] at e3 hv
          rw [← hq2] at e5 hv
          have C := HI.out d _ wr hv
          obtain ⟨z, hz⟩ : ∃ z, z = deepF n d := ⟨_, rfl⟩
          rw [← hz] at C hsn hno
          have HC2 := hid C
          have HSN := hid hsn
          have HNO := hid hno
          have hlt : (k : Int) < nf := by omega
          have HKL := hid hgo
          clear hd hv hsn C hz hq1 hq2 hgo hk hkl hno HA
          go_wp2_with fail
          refine HC2.out.mono ?_
          rintro e w2 ⟨rfl, hbw⟩
          have HB2 := hid (HB.out.trans (hbw.mono HB.out.size))
          clear hbw
          cases z with
          | false =>
           have hbad : deepF (n + 1) t = false := by rw [HR.out, HNO.out rfl]; simp
           have HBAD := hid hbad
           clear hbad
           go_wp2
           go_ret
           exact ⟨ret_bool (by rw [HBAD.out]), HBWL.out.trans (HB2.out.mono HBWL.out.size)⟩
          | true =>
           go_wp2
           exact ⟨⟨k + 1, by have := HKL.out; omega, by go_num, HSN, HB2⟩, by have := HKL.out; simp [intOf]; omega⟩
         ·
          have hend : t.funs.all (deepF n) = true := by
           have := HA.out
           rwa [List.take_of_length_le (by rw [← HFN.out]; omega)] at this
          have HE2 := hid hend
          have hlt : ¬ (k : Int) < nf := by omega
          clear hend HA hgo hk
          go_wp2
          go_ret
          exact ⟨ret_bool (by rw [HR.out, HHD.out, HE1.out, HE2.out]; rfl), HBWL.out.trans (HB.out.mono HBWL.out.size)⟩
    ·
     have e4 : ((nf : Int) != 0) = true := by rw [bne_iff_ne]; omega
     have hbad : deepF (n + 1) t = false := by rw [HR.out, HH.out, decide_eq_false (by have := HC.out; omega), Bool.false_and, Bool.false_and]
     have HBAD := hid hbad
     clear hbad cp cn cl
     go_enter Tryd.func58, Tryd.ntmps58
     go_wp2_with fail
     rw [← HG.out, ← HW.out]
     obtain ⟨W2, hW2⟩ : ∃ W2, W2 = W.alloc (.cells #[.int .i64 0, .int .i64 2, .int .i64 1] 3) := ⟨_, rfl⟩
     rw [← hW2]
     have HBX2 := hid (HBX.out.keep (show Below W.heap.size W W2 by rw [hW2]; exact (Below.refl _ _).alloc (Nat.le_refl _) _))
     have HBW2 := hid (show Below w.heap.size w W2 by rw [hW2]; exact HBW.out.alloc HBW.out.size _)
     have HWW := hid (show Below W.heap.size W W2 by rw [hW2]; exact (Below.refl _ _).alloc (Nat.le_refl _) _)
     have hcw : W2.cell? ⟨g + 1, m, none⟩ = some (.int .i64 want) := by rw [hW2, HWT.out, ← HGS.out]; exact tab_cell W m HM2.out
     have hlw : g + 1 < W2.heap.size := by rw [hW2, ← HGS.out]; simp
     have x2 := HBX2.out.c2
     have x3 := HBX2.out.c3
     have x4 := HBX2.out.c4
     have x5 := HBX2.out.c5
     clear hW2
     go_quiet (fail)
     clear x2 x3 x4 x5 hcw hlw
     go_wp2
     go_ret
     exact ⟨ret_bool (by rw [HBAD.out]), below_drewN HBW2.out _⟩
  ·
   have e1 : ((np : Int) != want) = true := bne_iff_ne.2 cp
   have hbad : deepF (n + 1) t = false := by rw [HR.out, HH.out, decide_eq_false (by have := HC.out; omega), Bool.false_and, Bool.false_and]
   have HBAD := hid hbad
   clear hbad cp
   go_enter Tryd.func58, Tryd.ntmps58
   go_wp2_with fail
   rw [← HG.out, ← HW.out]
   obtain ⟨W2, hW2⟩ : ∃ W2, W2 = W.alloc (.cells #[.int .i64 0, .int .i64 2, .int .i64 1] 3) := ⟨_, rfl⟩
   rw [← hW2]
   have HBX2 := hid (HBX.out.keep (show Below W.heap.size W W2 by rw [hW2]; exact (Below.refl _ _).alloc (Nat.le_refl _) _))
   have HBW2 := hid (show Below w.heap.size w W2 by rw [hW2]; exact HBW.out.alloc HBW.out.size _)
   have HWW := hid (show Below W.heap.size W W2 by rw [hW2]; exact (Below.refl _ _).alloc (Nat.le_refl _) _)
   have hcw : W2.cell? ⟨g + 1, m, none⟩ = some (.int .i64 want) := by rw [hW2, HWT.out, ← HGS.out]; exact tab_cell W m HM2.out
   have hlw : g + 1 < W2.heap.size := by rw [hW2, ← HGS.out]; simp
   have x2 := HBX2.out.c2
   have x3 := HBX2.out.c3
   have x4 := HBX2.out.c4
   have x5 := HBX2.out.c5
   clear hW2
   go_quiet (fail)
   clear x2 x3 x4 x5 hcw hlw
   go_wp2
   go_ret
   exact ⟨ret_bool (by rw [HBAD.out]), below_drewN HBW2.out _⟩
 | true =>
  by_cases b0 : tf = 0
  case neg =>
   have e0 : (tf != 0) = true := bne_iff_ne.2 b0
   have hbad : deepF (n + 1) t = false := by rw [HR.out, HH.out, decide_eq_false (by intro h; have := h.2.2.2.2.2.2.1 rfl; omega), Bool.false_and, Bool.false_and]
   have HBAD := hid hbad
   clear hbad b0
   go_enter Tryd.func58, Tryd.ntmps58
   go_wp2
   go_ret
   exact ⟨ret_bool (by rw [HBAD.out]), (Below.refl _ _).alloc (Nat.le_refl _) _⟩
  have g0 : (tf != 0) = false := by rw [b0]; rfl
  have B0 := hid b0
  clear b0
  by_cases b1 : (m : Int) = 0
  case neg =>
   have e0 : ((m : Int) != 0) = true := bne_iff_ne.2 b1
   have hbad : deepF (n + 1) t = false := by rw [HR.out, HH.out, decide_eq_false (by intro h; have := h.2.2.2.2.2.2.1 rfl; omega), Bool.false_and, Bool.false_and]
   have HBAD := hid hbad
   clear hbad b1
   go_enter Tryd.func58, Tryd.ntmps58
   go_wp2
   go_ret
   exact ⟨ret_bool (by rw [HBAD.out]), (Below.refl _ _).alloc (Nat.le_refl _) _⟩
  have g1 : ((m : Int) != 0) = false := by rw [b1]; rfl
  have B1 := hid b1
  clear b1
  by_cases b2 : tn = 0
  case neg =>
   have e0 : (tn != 0) = true := bne_iff_ne.2 b2
   have hbad : deepF (n + 1) t = false := by rw [HR.out, HH.out, decide_eq_false (by intro h; have := h.2.2.2.2.2.2.1 rfl; omega), Bool.false_and, Bool.false_and]
   have HBAD := hid hbad
   clear hbad b2
   go_enter Tryd.func58, Tryd.ntmps58
   go_wp2
   go_ret
   exact ⟨ret_bool (by rw [HBAD.out]), (Below.refl _ _).alloc (Nat.le_refl _) _⟩
  have g2 : (tn != 0) = false := by rw [b2]; rfl
  have B2 := hid b2
  clear b2
  by_cases cp : (np : Int) = want
  ·
   have e1 : ((np : Int) != want) = false := by rw [cp]; simp
   by_cases cn : tn = 1
   ·
    have e2 : (tn != 1) = false := by rw [cn]; rfl
    have e3 : (tn == 1) = true := by rw [cn]; rfl
    by_cases cl : nf < 1
    ·
     have e4 : decide ((nf : Int) < 1) = true := decide_eq_true (by omega)
     have hbad : deepF (n + 1) t = false := by rw [HR.out, HH.out, decide_eq_false (by have := HC.out; omega), Bool.false_and, Bool.false_and]
     have HBAD := hid hbad
     clear hbad cp cn cl
     go_enter Tryd.func58, Tryd.ntmps58
     go_wp2_with fail
     rw [← HG.out, ← HW.out]
     obtain ⟨W2, hW2⟩ : ∃ W2, W2 = W.alloc (.cells #[.int .i64 0, .int .i64 2, .int .i64 1] 3) := ⟨_, rfl⟩
     rw [← hW2]
     have HBX2 := hid (HBX.out.keep (show Below W.heap.size W W2 by rw [hW2]; exact (Below.refl _ _).alloc (Nat.le_refl _) _))
     have HBW2 := hid (show Below w.heap.size w W2 by rw [hW2]; exact HBW.out.alloc HBW.out.size _)
     have HWW := hid (show Below W.heap.size W W2 by rw [hW2]; exact (Below.refl _ _).alloc (Nat.le_refl _) _)
     have hcw : W2.cell? ⟨g + 1, m, none⟩ = some (.int .i64 want) := by rw [hW2, HWT.out, ← HGS.out]; exact tab_cell W m HM2.out
     have hlw : g + 1 < W2.heap.size := by rw [hW2, ← HGS.out]; simp
     have x2 := HBX2.out.c2
     have x3 := HBX2.out.c3
     have x4 := HBX2.out.c4
     have x5 := HBX2.out.c5
     clear hW2
     go_quiet (fail)
     clear x2 x3 x4 x5 hcw hlw
     go_wp2
     go_ret
     exact ⟨ret_bool (by rw [HBAD.out]), below_drewN HBW2.out _⟩
    have e4 : decide ((nf : Int) < 1) = false := decide_eq_false (by omega)
    by_cases cu : nf > 9
    ·
     have e5 : decide ((nf : Int) > 9) = true := decide_eq_true (by omega)
     have hbad : deepF (n + 1) t = false := by rw [HR.out, HH.out, decide_eq_false (by have := HC.out; omega), Bool.false_and, Bool.false_and]
     have HBAD := hid hbad
     clear hbad cp cn cl cu
     go_enter Tryd.func58, Tryd.ntmps58
     go_wp2_with fail
     rw [← HG.out, ← HW.out]
     obtain ⟨W2, hW2⟩ : ∃ W2, W2 = W.alloc (.cells #[.int .i64 0, .int .i64 2, .int .i64 1] 3) := ⟨_, rfl⟩
     rw [← hW2]
     have HBX2 := hid (HBX.out.keep (show Below W.heap.size W W2 by rw [hW2]; exact (Below.refl _ _).alloc (Nat.le_refl _) _))
     have HBW2 := hid (show Below w.heap.size w W2 by rw [hW2]; exact HBW.out.alloc HBW.out.size _)
     have HWW := hid (show Below W.heap.size W W2 by rw [hW2]; exact (Below.refl _ _).alloc (Nat.le_refl _) _)
     have hcw : W2.cell? ⟨g + 1, m, none⟩ = some (.int .i64 want) := by rw [hW2, HWT.out, ← HGS.out]; exact tab_cell W m HM2.out
     have hlw : g + 1 < W2.heap.size := by rw [hW2, ← HGS.out]; simp
     have x2 := HBX2.out.c2
     have x3 := HBX2.out.c3
     have x4 := HBX2.out.c4
     have x5 := HBX2.out.c5
     clear hW2
     go_quiet (fail)
     clear x2 x3 x4 x5 hcw hlw
     go_wp2
     go_ret
     exact ⟨ret_bool (by rw [HBAD.out]), below_drewN HBW2.out _⟩
    have e5 : decide ((nf : Int) > 9) = false := decide_eq_false (by omega)
    have hgood : headOK t = true := by rw [HH.out]; exact decide_eq_true (by have := HC.out; have := HM2.out; refine ⟨by omega, by omega, by omega, by omega, by omega, by omega, (fun _ => ⟨B0.out, B1.out, B2.out⟩), cp, by omega, by omega⟩)
    clear cp cn cl cu
    as_aux_lemma =>
     have HHD := hid hgood
     clear hgood
     go_enter Tryd.func58, Tryd.ntmps58
     go_wp2_with fail
     rw [← HG.out, ← HW.out]
     obtain ⟨W2, hW2⟩ : ∃ W2, W2 = W.alloc (.cells #[.int .i64 0, .int .i64 2, .int .i64 1] 3) := ⟨_, rfl⟩
     rw [← hW2]
     have HBX2 := hid (HBX.out.keep (show Below W.heap.size W W2 by rw [hW2]; exact (Below.refl _ _).alloc (Nat.le_refl _) _))
     have HBW2 := hid (show Below w.heap.size w W2 by rw [hW2]; exact HBW.out.alloc HBW.out.size _)
     have HWW := hid (show Below W.heap.size W W2 by rw [hW2]; exact (Below.refl _ _).alloc (Nat.le_refl _) _)
     have hcw : W2.cell? ⟨g + 1, m, none⟩ = some (.int .i64 want) := by rw [hW2, HWT.out, ← HGS.out]; exact tab_cell W m HM2.out
     have hlw : g + 1 < W2.heap.size := by rw [hW2, ← HGS.out]; simp
     have x2 := HBX2.out.c2
     have x3 := HBX2.out.c3
     have x4 := HBX2.out.c4
     have x5 := HBX2.out.c5
     clear hW2
     go_quiet (fail)
     clear x2 x3 x4 x5 hcw hlw
     obtain ⟨WL, hWL⟩ : ∃ WL, WL = W2.drewN nq := ⟨_, rfl⟩
     have HBXL := hid (show BoxAt WL _ _ _ _ _ _ _ by rw [hWL]; exact HBX2.out)
     have HBWL := hid (show Below w.heap.size w WL by rw [hWL]; exact below_drewN HBW2.out _)
     have HPL := hid (HP.out.under (show Below W.heap.size W WL by rw [hWL]; exact below_drewN HWW.out _))
     have HFL := hid (HF.out.under (show Below W.heap.size W WL by rw [hWL]; exact below_drewN HWW.out _))
     rw [← hWL]
     clear hWL HBX2 HBW2 HWW
     go_wp2
     go_loopw [6] (fun i wr => ∃ k : Nat, k ≤ np ∧ i = .int .i64 k ∧ Hid ((t.pairs.take k).all (deepF n) = true) ∧ Hid (Below WL.heap.size WL wr)) (fun i _ => np - (intOf i).toNat)
     case atStart => exact ⟨0, Nat.zero_le _, rfl, hid (by rw [List.take_zero]; rfl), hid (Below.refl _ _)⟩
     case round =>
      obtain ⟨k, hk, rfl, HA, HB⟩ := hrel
      have hcell := (HBXL.out.keep HB.out).c3
      by_cases hgo : k < np
      ·
       have hkl : k < t.pairs.length := by rw [← HPN.out]; exact hgo
       obtain ⟨d, hd⟩ : ∃ d, t.pairs.getD k ty0 = d := ⟨_, rfl⟩
       obtain ⟨b, off, p1, c1, p2, c2, rfl, hb, e0, e1, e2, e3, e4, e5, hv⟩ := (HPL.out.under HB.out).elem hkl hd
       have hsn := all_get (p := deepF n) k hkl
       rw [HA.out, Bool.true_and, hd] at hsn
       have hno : deepF n d = false → t.pairs.all (deepF n) = false := fun h => all_not k hkl (by rw [hd]; exact h)
       obtain ⟨q1, hq1⟩ : ∃ q, q = d.pairs.length := ⟨_, rfl⟩
       obtain ⟨q2, hq2⟩ : ∃ q, q = d.funs.length := ⟨_, rfl⟩
       rw [← hq1] at e3 hv
       rw [← hq2] at e5 hv
       have C := HI.out d _ wr hv
       obtain ⟨z, hz⟩ : ∃ z, z = deepF n d := ⟨_, rfl⟩
       rw [← hz] at C hsn hno
       have HC2 := hid C
       have HSN := hid hsn
       have HNO := hid hno
       have hlt : (k : Int) < np := by omega
       have HKL := hid hgo
       clear hd hv hsn C hz hq1 hq2 hgo hk hkl hno HA
       go_wp2_with fail
       refine HC2.out.mono ?_
       rintro e w2 ⟨rfl, hbw⟩
       have HB2 := hid (HB.out.trans (hbw.mono HB.out.size))
       clear hbw
       cases z with
       | false =>
        have hbad : deepF (n + 1) t = false := by rw [HR.out, HNO.out rfl]; simp
        have HBAD := hid hbad
        clear hbad
        go_wp2
        go_ret
        exact ⟨ret_bool (by rw [HBAD.out]), HBWL.out.trans (HB2.out.mono HBWL.out.size)⟩
       | true =>
        go_wp2
        exact ⟨⟨k + 1, by have := HKL.out; omega, by go_num, HSN, HB2⟩, by have := HKL.out; simp [intOf]; omega⟩
      ·
       have hend : t.pairs.all (deepF n) = true := by
        have := HA.out
        rwa [List.take_of_length_le (by rw [← HPN.out]; omega)] at this
       have HE1 := hid hend
       have hlt : ¬ (k : Int) < np := by omega
       clear hend HA hgo hk
       have HB1 := HB
       clear HB
       go_wp2
       go_loopw [7] (fun i wr => ∃ k : Nat, k ≤ nf ∧ i = .int .i64 k ∧ Hid ((t.funs.take k).all (deepF n) = true) ∧ Hid (Below WL.heap.size WL wr)) (fun i _ => nf - (intOf i).toNat)
       case atStart => exact ⟨0, Nat.zero_le _, rfl, hid (by rw [List.take_zero]; rfl), HB1⟩
       case round =>
        obtain ⟨k, hk, rfl, HA, HB⟩ := hrel
        have hcell := (HBXL.out.keep HB.out).c5
        by_cases hgo : k < nf
        ·
         have hkl : k < t.funs.length := by rw [← HFN.out]; exact hgo
         obtain ⟨d, hd⟩ : ∃ d, t.funs.getD k ty0 = d := ⟨_, rfl⟩
         obtain ⟨b, off, p1, c1, p2, c2, rfl, hb, e0, e1, e2, e3, e4, e5, hv⟩ := (HFL.out.under HB.out).elem hkl hd
         have hsn := all_get (p := deepF n) k hkl
         rw [HA.out, Bool.true_and, hd] at hsn
         have hno : deepF n d = false → t.funs.all (deepF n) = false := fun h => all_not k hkl (by rw [hd]; exact h)
         obtain ⟨q1, hq1⟩ : ∃ q, q = d.pairs.length := ⟨_, rfl⟩
         obtain ⟨q2, hq2⟩ : ∃ q, q = d.funs.length := ⟨_, rfl⟩
         rw [← hq1] at e3 hv
         rw [← hq2] at e5 hv
         have C := HI.out d _ wr hv
         obtain ⟨z, hz⟩ : ∃ z, z = deepF n d := ⟨_, rfl⟩
         rw [← hz] at C hsn hno
         have HC2 := hid C
         have HSN := hid hsn
         have HNO := hid hno
         have hlt : (k : Int) < nf := by omega
         have HKL := hid hgo
         clear hd hv hsn C hz hq1 hq2 hgo hk hkl hno HA
         go_wp2_with fail
         refine HC2.out.mono ?_
         rintro e w2 ⟨rfl, hbw⟩
         have HB2 := hid (HB.out.trans (hbw.mono HB.out.size))
         clear hbw
         cases z with
         | false =>
          have hbad : deepF (n + 1) t = false := by rw [HR.out, HNO.out rfl]; simp
          have HBAD := hid hbad
          clear hbad
          go_wp2
          go_ret
          exact ⟨ret_bool (by rw [HBAD.out]), HBWL.out.trans (HB2.out.mono HBWL.out.size)⟩
         | true =>
          go_wp2
          exact ⟨⟨k + 1, by have := HKL.out; omega, by go_num, HSN, HB2⟩, by have := HKL.out; simp [intOf]; omega⟩
        ·
         have hend : t.funs.all (deepF n) = true := by
          have := HA.out
          rwa [List.take_of_length_le (by rw [← HFN.out]; omega)] at this
         have HE2 := hid hend
         have hlt : ¬ (k : Int) < nf := by omega
         clear hend HA hgo hk
         go_wp2
         go_ret
         exact ⟨ret_bool (by rw [HR.out, HHD.out, HE1.out, HE2.out]; rfl), HBWL.out.trans (HB.out.mono HBWL.out.size)⟩
   ·
    have e2 : (tn != 1) = true := bne_iff_ne.2 cn
    have e3 : (tn == 1) = false := beq_false_of_ne cn
    by_cases cl : nf = 0
    ·
     have e4 : ((nf : Int) != 0) = false := by rw [cl]; rfl
     have hgood : headOK t = true := by rw [HH.out]; exact decide_eq_true (by have := HC.out; have := HM2.out; refine ⟨by omega, by omega, by omega, by omega, by omega, by omega, (fun _ => ⟨B0.out, B1.out, B2.out⟩), cp, by omega, by omega⟩)
     clear cp cn cl
     as_aux_lemma =>
      have HHD := hid hgood
      clear hgood
      go_enter Tryd.func58, Tryd.ntmps58
      go_wp2_with fail
      rw [← HG.out, ← HW.out]
      obtain ⟨W2, hW2⟩ : ∃ W2, W2 = W.alloc (.cells #[.int .i64 0, .int .i64 2, .int .i64 1] 3) := ⟨_, rfl⟩
      rw [← hW2]
      have HBX2 := hid (HBX.out.keep (show Below W.heap.size W W2 by rw [hW2]; exact (Below.refl _ _).alloc (Nat.le_refl _) _))
      have HBW2 := hid (show Below w.heap.size w W2 by rw [hW2]; exact HBW.out.alloc HBW.out.size _)
      have HWW := hid (show Below W.heap.size W W2 by rw [hW2]; exact (Below.refl _ _).alloc (Nat.le_refl _) _)
      have hcw : W2.cell? ⟨g + 1, m, none⟩ = some (.int .i64 want) := by rw [hW2, HWT.out, ← HGS.out]; exact tab_cell W m HM2.out
      have hlw : g + 1 < W2.heap.size := by rw [hW2, ← HGS.out]; simp
      have x2 := HBX2.out.c2
      have x3 := HBX2.out.c3
      have x4 := HBX2.out.c4
      have x5 := HBX2.out.c5
      clear hW2
      go_quiet (fail)
      clear x2 x3 x4 x5 hcw hlw
      obtain ⟨WL, hWL⟩ : ∃ WL, WL = W2.drewN nq := ⟨_, rfl⟩
      have HBXL := hid (show BoxAt WL _ _ _ _ _ _ _ by rw [hWL]; exact HBX2.out)
      have HBWL := hid (show Below w.heap.size w WL by rw [hWL]; exact below_drewN HBW2.out _)
      have HPL := hid (HP.out.under (show Below W.heap.size W WL by rw [hWL]; exact below_drewN HWW.out _))
      have HFL := hid (HF.out.under (show Below W.heap.size W WL by rw [hWL]; exact below_drewN HWW.out _))
      rw [← hWL]
      clear hWL HBX2 HBW2 HWW
      go_wp2
      go_loopw [6] (fun i wr => ∃ k : Nat, k ≤ np ∧ i = .int .i64 k ∧ Hid ((t.pairs.take k).all (deepF n) = true) ∧ Hid (Below WL.heap.size WL wr)) (fun i _ => np - (intOf i).toNat)
      case atStart => exact ⟨0, Nat.zero_le _, rfl, hid (by rw [List.take_zero]; rfl), hid (Below.refl _ _)⟩
      case round =>
       obtain ⟨k, hk, rfl, HA, HB⟩ := hrel
       have hcell := (HBXL.out.keep HB.out).c3
       by_cases hgo : k < np
       ·
        have hkl : k < t.pairs.length := by rw [← HPN.out]; exact hgo
        obtain ⟨d, hd⟩ : ∃ d, t.pairs.getD k ty0 = d := ⟨_, rfl⟩
        obtain ⟨b, off, p1, c1, p2, c2, rfl, hb, e0, e1, e2, e3, e4, e5, hv⟩ := (HPL.out.under HB.out).elem hkl hd
        have hsn := all_get (p := deepF n) k hkl
        rw [HA.out, Bool.true_and, hd] at hsn
        have hno : deepF n d = false → t.pairs.all (deepF n) = false := fun h => all_not k hkl (by rw [hd]; exact h)
        obtain ⟨q1, hq1⟩ : ∃ q, q = d.pairs.length := ⟨_, rfl⟩
        obtain ⟨q2, hq2⟩ : ∃ q, q = d.funs.length := ⟨_, rfl⟩
        rw [← hq1] at e3 hv
        rw [← hq2] at e5 hv
        have C := HI.out d _ wr hv
        obtain ⟨z, hz⟩ : ∃ z, z = deepF n d := ⟨_, rfl⟩
        rw [← hz] at C hsn hno
        have HC2 := hid C
        have HSN := hid hsn
        have HNO := hid hno
        have hlt : (k : Int) < np := by omega
        have HKL := hid hgo
        clear hd hv hsn C hz hq1 hq2 hgo hk hkl hno HA
        go_wp2_with fail
        refine HC2.out.mono ?_
        rintro e w2 ⟨rfl, hbw⟩
        have HB2 := hid (HB.out.trans (hbw.mono HB.out.size))
        clear hbw
        cases z with
        | false =>
         have hbad : deepF (n + 1) t = false := by rw [HR.out, HNO.out rfl]; simp
         have HBAD := hid hbad
         clear hbad
         go_wp2
         go_ret
         exact ⟨ret_bool (by rw [HBAD.out]), HBWL.out.trans (HB2.out.mono HBWL.out.size)⟩
        | true =>
         go_wp2
         exact ⟨⟨k + 1, by have := HKL.out; omega, by go_num, HSN, HB2⟩, by have := HKL.out; simp [intOf]; omega⟩
       ·
        have hend : t.pairs.all (deepF n) = true := by
         have := HA.out
         rwa [List.take_of_length_le (by rw [← HPN.out]; omega)] at this
        have HE1 := hid hend
        have hlt : ¬ (k : Int) < np := by omega
        clear hend HA hgo hk
        have HB1 := HB
        clear HB
        go_wp2
        go_loopw [7] (fun i wr => ∃ k : Nat, k ≤ nf ∧ i = .int .i64 k ∧ Hid ((t.funs.take k).all (deepF n) = true) ∧ Hid (Below WL.heap.size WL wr)) (fun i _ => nf - (intOf i).toNat)
        case atStart => exact ⟨0, Nat.zero_le _, rfl, hid (by rw [List.take_zero]; rfl), HB1⟩
        case round =>
         obtain ⟨k, hk, rfl, HA, HB⟩ := hrel
         have hcell := (HBXL.out.keep HB.out).c5
         by_cases hgo : k < nf
         ·
          have hkl : k < t.funs.length := by rw [← HFN.out]; exact hgo
          obtain ⟨d, hd⟩ : ∃ d, t.funs.getD k ty0 = d := ⟨_, rfl⟩
          obtain ⟨b, off, p1, c1, p2, c2, rfl, hb, e0, e1, e2, e3, e4, e5, hv⟩ := (HFL.out.under HB.out).elem hkl hd
          have hsn := all_get (p := deepF n) k hkl
          rw [HA.out, Bool.true_and, hd] at hsn
          have hno : deepF n d = false → t.funs.all (deepF n) = false := fun h => all_not k hkl (by rw [hd]; exact h)
          obtain ⟨q1, hq1⟩ : ∃ q, q = d.pairs.length := ⟨_, rfl⟩
          obtain ⟨q2, hq2⟩ : ∃ q, q = d.funs.length := ⟨_, rfl⟩
          rw [← hq1] at e3 hv
          rw [← hq2] at e5 hv
          have C := HI.out d _ wr hv
          obtain ⟨z, hz⟩ : ∃ z, z = deepF n d := ⟨_, rfl⟩
          rw [← hz] at C hsn hno
          have HC2 := hid C
          have HSN := hid hsn
          have HNO := hid hno
          have hlt : (k : Int) < nf := by omega
          have HKL := hid hgo
          clear hd hv hsn C hz hq1 hq2 hgo hk hkl hno HA
          go_wp2_with fail
          refine HC2.out.mono ?_
          rintro e w2 ⟨rfl, hbw⟩
          have HB2 := hid (HB.out.trans (hbw.mono HB.out.size))
          clear hbw
          cases z with
          | false =>
           have hbad : deepF (n + 1) t = false := by rw [HR.out, HNO.out rfl]; simp
           have HBAD := hid hbad
           clear hbad
           go_wp2
           go_ret
           exact ⟨ret_bool (by rw [HBAD.out]), HBWL.out.trans (HB2.out.mono HBWL.out.size)⟩
          | true =>
           go_wp2
           exact ⟨⟨k + 1, by have := HKL.out; omega, by go_num, HSN, HB2⟩, by have := HKL.out; simp [intOf]; omega⟩
         ·
          have hend : t.funs.all (deepF n) = true := by
           have := HA.out
           rwa [List.take_of_length_le (by rw [← HFN.out]; omega)] at this
          have HE2 := hid hend
          have hlt : ¬ (k : Int) < nf := by omega
          clear hend HA hgo hk
          go_wp2
          go_ret
          exact ⟨ret_bool (by rw [HR.out, HHD.out, HE1.out, HE2.out]; rfl), HBWL.out.trans (HB.out.mono HBWL.out.size)⟩
    ·
     have e4 : ((nf : Int) != 0) = true := by rw [bne_iff_ne]; omega
     have hbad : deepF (n + 1) t = false := by rw [HR.out, HH.out, decide_eq_false (by have := HC.out; omega), Bool.false_and, Bool.false_and]
     have HBAD := hid hbad
     clear hbad cp cn cl
     go_enter Tryd.func58, Tryd.ntmps58
     go_wp2_with fail
     rw [← HG.out, ← HW.out]
     obtain ⟨W2, hW2⟩ : ∃ W2, W2 = W.alloc (.cells #[.int .i64 0, .int .i64 2, .int .i64 1] 3) := ⟨_, rfl⟩
     rw [← hW2]
     have HBX2 := hid (HBX.out.keep (show Below W.heap.size W W2 by rw [hW2]; exact (Below.refl _ _).alloc (Nat.le_refl _) _))
     have HBW2 := hid (show Below w.heap.size w W2 by rw [hW2]; exact HBW.out.alloc HBW.out.size _)
     have HWW := hid (show Below W.heap.size W W2 by rw [hW2]; exact (Below.refl _ _).alloc (Nat.le_refl _) _)
     have hcw : W2.cell? ⟨g + 1, m, none⟩ = some (.int .i64 want) := by rw [hW2, HWT.out, ← HGS.out]; exact tab_cell W m HM2.out
     have hlw : g + 1 < W2.heap.size := by rw [hW2, ← HGS.out]; simp
     have x2 := HBX2.out.c2
     have x3 := HBX2.out.c3
     have x4 := HBX2.out.c4
     have x5 := HBX2.out.c5
     clear hW2
     go_quiet (fail)
     clear x2 x3 x4 x5 hcw hlw
     go_wp2
     go_ret
     exact ⟨ret_bool (by rw [HBAD.out]), below_drewN HBW2.out _⟩
  ·
   have e1 : ((np : Int) != want) = true := bne_iff_ne.2 cp
   have hbad : deepF (n + 1) t = false := by rw [HR.out, HH.out, decide_eq_false (by have := HC.out; omega), Bool.false_and, Bool.false_and]
   have HBAD := hid hbad
   clear hbad cp
   go_enter Tryd.func58, Tryd.ntmps58
   go_wp2_with fail
   rw [← HG.out, ← HW.out]
   obtain ⟨W2, hW2⟩ : ∃ W2, W2 = W.alloc (.cells #[.int .i64 0, .int .i64 2, .int .i64 1] 3) := ⟨_, rfl⟩
   rw [← hW2]
   have HBX2 := hid (HBX.out.keep (show Below W.heap.size W W2 by rw [hW2]; exact (Below.refl _ _).alloc (Nat.le_refl _) _))
   have HBW2 := hid (show Below w.heap.size w W2 by rw [hW2]; exact HBW.out.alloc HBW.out.size _)
   have HWW := hid (show Below W.heap.size W W2 by rw [hW2]; exact (Below.refl _ _).alloc (Nat.le_refl _) _)
   have hcw : W2.cell? ⟨g + 1, m, none⟩ = some (.int .i64 want) := by rw [hW2, HWT.out, ← HGS.out]; exact tab_cell W m HM2.out
   have hlw : g + 1 < W2.heap.size := by rw [hW2, ← HGS.out]; simp
   have x2 := HBX2.out.c2
   have x3 := HBX2.out.c3
   have x4 := HBX2.out.c4
   have x5 := HBX2.out.c5
   clear hW2
   go_quiet (fail)
   clear x2 x3 x4 x5 hcw hlw
   go_wp2
   go_ret
   exact ⟨ret_bool (by rw [HBAD.out]), below_drewN HBW2.out _⟩

theorem deep_any : ∀ n : Nat, n ≤ 100 → DeepOK n := by
 intro n
 induction n with
 | zero => intro _; exact deep_zero
 | succ n ih => intro hn; exact deep_succ n (by omega) (ih (by omega))

set_option maxRecDepth 100000 in
set_option maxHeartbeats 1000000 in
theorem right_any (t : Ty) (v : Value) (w : World) (hv : TyV w v t) :
  Calls Tryd.prog 30 #[v] w fun e w' => e = .returned (.bool (rightT t)) ∧ Below w.heap.size w w' := by
 have HC := hid (fun w' h => size_any 60 (by omega) t v w' h)
 have HD := hid (fun w' h => deep_any 20 (by omega) t v w' h)
 have HV := hid hv
 obtain ⟨pa, pc, fa, fc, rfl, _, _⟩ := hv.form
 have HL : Hid (rightT t = (decide (sizeS 60 t ≤ 300) && deepF 20 t)) := rfl
 have hle := sizeS_le 60 t
 obtain ⟨z, hz⟩ : ∃ z, z = sizeS 60 t := ⟨_, rfl⟩
 obtain ⟨r, hr⟩ : ∃ r, r = deepF 20 t := ⟨_, rfl⟩
 rw [← hz] at HC hle HL
 rw [← hr] at HD HL
 obtain ⟨ta, hta⟩ : ∃ a, a = t.all := ⟨_, rfl⟩
 obtain ⟨tf, htf⟩ : ∃ a, a = t.flat := ⟨_, rfl⟩
 obtain ⟨tp, htp⟩ : ∃ a, a = t.pair := ⟨_, rfl⟩
 obtain ⟨tn, htn⟩ : ∃ a, a = t.fn := ⟨_, rfl⟩
 obtain ⟨np, hnp⟩ : ∃ n, n = t.pairs.length := ⟨_, rfl⟩
 obtain ⟨nf, hnf⟩ : ∃ n, n = t.funs.length := ⟨_, rfl⟩
 rw [← hnp, ← hnf, ← hta, ← htf, ← htp, ← htn] at HV HC HD ⊢
 obtain ⟨W, hW⟩ : ∃ W, W = w.alloc (.cells #[.bool ta, .int .i64 tf, .int .i64 tp, .slice pa np pc, .int .i64 tn, .slice fa nf fc] 47) := ⟨_, rfl⟩
 obtain ⟨g, hg⟩ : ∃ g, g = w.heap.size := ⟨_, rfl⟩
 have HBX := hid (show BoxAt W g ta tf tp (.slice pa np pc) tn (.slice fa nf fc) by rw [hW, hg]; exact BoxAt.made _ _ _ _ _ _ _)
 have HBW := hid (show Below w.heap.size w W by rw [hW]; exact (Below.refl _ _).alloc (Nat.le_refl _) _)
 have HVW := hid (HV.out.below HBW.out)
 have HW := hid hW
 have HG := hid hg
 clear hz hr hv hta htf htp htn hnp hnf hW hg
 go_enter Tryd.func30, Tryd.ntmps30
 go_wp2_with fail
 rw [← HW.out]
 refine (HC.out _ HVW.out).mono ?_
 rintro e w1 ⟨rfl, hb⟩
 have HB := hid hb
 clear hb
 by_cases h3 : z ≤ 300
 ·
  have d1 : decide ((z : Int) ≤ 300) = true := decide_eq_true (by omega)
  have HZ := hid h3
  have hx := HBX.out.keep HB.out
  have x0 := hx.c0
  have x1 := hx.c1
  have x2 := hx.c2
  have x3 := hx.c3
  have x4 := hx.c4
  have x5 := hx.c5
  rw [HG.out] at x0 x1 x2 x3 x4 x5
  clear h3 hx
  go_wp2_with fail
  refine (HD.out _ (HVW.out.below HB.out)).mono ?_
  rintro e w2 ⟨rfl, hb⟩
  have HB2 := hid hb
  clear hb x0 x1 x2 x3 x4 x5
  go_wp2
  go_ret
  exact ⟨ret_bool (by rw [HL.out, decide_eq_true HZ.out, Bool.true_and]), HBW.out.trans ((HB.out.trans (HB2.out.mono HB.out.size)).mono HBW.out.size)⟩
 ·
  have d1 : decide ((z : Int) ≤ 300) = false := decide_eq_false (by omega)
  have HZ := hid h3
  clear h3
  go_wp2
  go_ret
  exact ⟨ret_bool (by rw [HL.out, decide_eq_false HZ.out, Bool.false_and]), HBW.out.trans (HB.out.mono HBW.out.size)⟩
end Go.Proofs.YtlalnkabfigodaaDoor
