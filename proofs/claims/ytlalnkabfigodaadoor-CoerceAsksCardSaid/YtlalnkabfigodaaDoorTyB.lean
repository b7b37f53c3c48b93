import Derived.Test.YtlalnkabfigodaaDoorTyA
namespace Go.Proofs.YtlalnkabfigodaaDoor
open Go.Lib (hid)
open Go.RowKit

def SizeOK (n : Nat) : Prop := ∀ (t : Ty) (v : Value) (w : World), TyV w v t →
  Calls Tryd.prog 57 #[v, .int .i64 n] w fun e w' => e = .returned (.int .i64 (sizeS n t : Nat)) ∧ Below w.heap.size w w'

set_option maxRecDepth 100000 in
set_option maxHeartbeats 1000000 in
theorem size_zero : SizeOK 0 := by
 intro t v w hv
 obtain ⟨pa, pc, fa, fc, rfl, _, _⟩ := hv.form
 go_enter Tryd.func57, Tryd.ntmps57
 go_wp2
 go_ret
 exact ⟨rfl, (Below.refl _ _).alloc (Nat.le_refl _) _⟩

set_option maxRecDepth 100000 in
set_option maxHeartbeats 4000000 in
theorem size_succ (n : Nat) (hn : n ≤ 100) (ih : SizeOK n) : SizeOK (n + 1) := by
 intro t v w hv
 obtain ⟨pa, pc, fa, fc, rfl, hp, hf⟩ := hv.form
 obtain ⟨np, hnp⟩ : ∃ n, n = t.pairs.length := ⟨_, rfl⟩
 obtain ⟨nf, hnf⟩ : ∃ n, n = t.funs.length := ⟨_, rfl⟩
 rw [← hnp] at hp ⊢
 rw [← hnf] at hf ⊢
 obtain ⟨ta, hta⟩ : ∃ a, a = t.all := ⟨_, rfl⟩
 obtain ⟨tf, htf⟩ : ∃ a, a = t.flat := ⟨_, rfl⟩
 obtain ⟨tp, htp⟩ : ∃ a, a = t.pair := ⟨_, rfl⟩
 obtain ⟨tn, htn⟩ : ∃ a, a = t.fn := ⟨_, rfl⟩
 rw [← hta, ← htf, ← htp, ← htn]
 have hpl := hp.len
 have hfl := hf.len
 rw [← hnp] at hpl
 rw [← hnf] at hfl
 unfold maxLen at hpl hfl
 obtain ⟨W, hW⟩ : ∃ W, W = w.alloc (.cells #[.bool ta, .int .i64 tf, .int .i64 tp, .slice pa np pc, .int .i64 tn, .slice fa nf fc] 47) := ⟨_, rfl⟩
 obtain ⟨g, hg⟩ : ∃ g, g = w.heap.size := ⟨_, rfl⟩
 have HBX := hid (show BoxAt W g ta tf tp (.slice pa np pc) tn (.slice fa nf fc) by rw [hW, hg]; exact BoxAt.made _ _ _ _ _ _ _)
 have HBW := hid (show Below w.heap.size w W by rw [hW]; exact (Below.refl _ _).alloc (Nat.le_refl _) _)
 have HP := hid (hp.under HBW.out)
 have HF := hid (hf.under HBW.out)
 have HW := hid hW
 have HG := hid hg
 have HPN := hid hnp
 have HFN := hid hnf
 have HI := hid ih
 have hn0 : ((n : Int) + 1 == 0) = false := by simp; omega
 rw [show ((n + 1 : Nat) : Int) = (n : Int) + 1 by omega]
 clear hp hf hnp hnf hta htf htp htn hW hg ih hv
 go_enter Tryd.func57, Tryd.ntmps57
 go_wp2
 rw [← HG.out, ← HW.out]
 go_loopw [5, 6] (fun s i wr => ∃ k a : Nat, k ≤ np ∧ i = .int .i64 k ∧ a < 2000 ∧ s = .int .i64 a ∧ Hid (sumS n 1 (t.pairs.take k) = a) ∧ Hid (Below W.heap.size W wr)) (fun _ i _ => np - (intOf i).toNat)
 case atStart => exact ⟨0, 1, Nat.zero_le _, rfl, by omega, rfl, hid rfl, hid (Below.refl _ _)⟩
 case round =>
  obtain ⟨k, a, hk, rfl, ha, rfl, HA, HB⟩ := hrel
  have hcell := (HBX.out.keep HB.out).c3
  have a0 : (0 : Int) ≤ a := Int.natCast_nonneg _
  by_cases hgo : k < np ∧ a < 1000
  ·
   have hkl : k < t.pairs.length := by rw [← HPN.out]; exact hgo.1
   obtain ⟨d, hd⟩ : ∃ d, t.pairs.getD k ty0 = d := ⟨_, rfl⟩
   obtain ⟨b, off, p1, c1, p2, c2, rfl, hb, e0, e1, e2, e3, e4, e5, hv⟩ := (HP.out.under HB.out).elem hkl hd
   have hsn := sumS_snoc n 1 t.pairs k hkl
   rw [HA.out, if_pos hgo.2, hd] at hsn
   have hle := sizeS_le n d
   obtain ⟨q1, hq1⟩ : ∃ q, q = d.pairs.length := ⟨_, rfl⟩
   obtain ⟨q2, hq2⟩ : ∃ q, q = d.funs.length := ⟨_, rfl⟩
   rw [← hq1] at e3 hv
   rw [← hq2] at e5 hv
   have C := HI.out d _ wr hv
   obtain ⟨z, hz⟩ : ∃ z, z = sizeS n d := ⟨_, rfl⟩
   rw [← hz] at C hsn hle
   have HC := hid C
   have HSN := hid hsn
   have hal : (a : Int) < 1000 := by omega
   have hle2 : (z : Int) ≤ 1000 := by omega
   have hlt : (k : Int) < np := by omega
   have HKL := hid hgo
   have HLE := hid hle
   clear hd hv hsn C hz hq1 hq2 hgo ha hk hkl hle HA
   go_wp2_with fail
   refine HC.out.mono ?_
   rintro e w2 ⟨rfl, hbw⟩
   have HB2 := hid (HB.out.trans (hbw.mono HB.out.size))
   clear hbw
   go_wp2
   exact ⟨⟨k + 1, a + z, by have := HKL.out; omega, by go_num, by have := HLE.out; have := HKL.out; omega, by go_num, HSN, HB2⟩, by have := HKL.out; simp [intOf]; omega⟩
  ·
   have hend : sumS n 1 t.pairs = a := by
    by_cases h1 : k < np
    ·
     rw [sumS_take n 1 k t.pairs (by rw [HA.out]; omega), HA.out]
    ·
     have := HA.out
     rwa [List.take_of_length_le (by rw [← HPN.out]; omega)] at this
   have HE := hid hend
   clear hend HA
   have HE1 := HE
   clear HE
   by_cases hlt : k < np
   ·
    have hlt1 : (k : Int) < np := by omega
    have hal : decide ((a : Int) < 1000) = false := decide_eq_false (by omega)
    clear hgo hlt
    obtain ⟨a1, rfl⟩ : ∃ a1, a1 = a := ⟨_, rfl⟩
    have hA1 := ha
    have HB1 := HB
    clear HB
    clear ha hk
    go_wp2
    go_loopw [5, 7] (fun s i wr => ∃ k a : Nat, k ≤ nf ∧ i = .int .i64 k ∧ a < 2000 ∧ s = .int .i64 a ∧ Hid (sumS n a1 (t.funs.take k) = a) ∧ Hid (Below W.heap.size W wr)) (fun _ i _ => nf - (intOf i).toNat)
    case atStart => exact ⟨0, a1, Nat.zero_le _, rfl, hA1, rfl, hid rfl, HB1⟩
    case round =>
     obtain ⟨k, a, hk, rfl, ha, rfl, HA, HB⟩ := hrel
     have hcell := (HBX.out.keep HB.out).c5
     have a0 : (0 : Int) ≤ a := Int.natCast_nonneg _
     by_cases hgo : k < nf ∧ a < 1000
     ·
      have hkl : k < t.funs.length := by rw [← HFN.out]; exact hgo.1
      obtain ⟨d, hd⟩ : ∃ d, t.funs.getD k ty0 = d := ⟨_, rfl⟩
      obtain ⟨b, off, p1, c1, p2, c2, rfl, hb, e0, e1, e2, e3, e4, e5, hv⟩ := (HF.out.under HB.out).elem hkl hd
      have hsn := sumS_snoc n a1 t.funs k hkl
      rw [HA.out, if_pos hgo.2, hd] at hsn
      have hle := sizeS_le n d
      obtain ⟨q1, hq1⟩ : ∃ q, q = d.pairs.length := ⟨_, rfl⟩
      obtain ⟨q2, hq2⟩ : ∃ q, q = d.funs.length := ⟨_, rfl⟩
      rw [← hq1] at e3 hv
      rw [← hq2] at e5 hv
      have C := HI.out d _ wr hv
      obtain ⟨z, hz⟩ : ∃ z, z = sizeS n d := ⟨_, rfl⟩
      rw [← hz] at C hsn hle
      have HC := hid C
      have HSN := hid hsn
      have hal : (a : Int) < 1000 := by omega
      have hle2 : (z : Int) ≤ 1000 := by omega
      have hlt : (k : Int) < nf := by omega
      have HKL := hid hgo
      have HLE := hid hle
      clear hd hv hsn C hz hq1 hq2 hgo ha hk hkl hle HA
      go_wp2_with fail
      refine HC.out.mono ?_
      rintro e w2 ⟨rfl, hbw⟩
      have HB2 := hid (HB.out.trans (hbw.mono HB.out.size))
      clear hbw
      go_wp2
      exact ⟨⟨k + 1, a + z, by have := HKL.out; omega, by go_num, by have := HLE.out; have := HKL.out; omega, by go_num, HSN, HB2⟩, by have := HKL.out; simp [intOf]; omega⟩
     ·
      have hend : sumS n a1 t.funs = a := by
       by_cases h1 : k < nf
       ·
        rw [sumS_take n a1 k t.funs (by rw [HA.out]; omega), HA.out]
       ·
        have := HA.out
        rwa [List.take_of_length_le (by rw [← HFN.out]; omega)] at this
      have HE := hid hend
      clear hend HA
      by_cases hlt : k < nf
      ·
       have hlt1 : (k : Int) < nf := by omega
       have hal : decide ((a : Int) < 1000) = false := decide_eq_false (by omega)
       clear hgo hlt
       clear ha hk
       go_wp2
       all_goals
        go_ret
        exact ⟨ret_int (by rw [sizeS_succ, HE1.out, HE.out]; omega), HBW.out.trans (HB.out.mono HBW.out.size)⟩
      ·
       have hlt1 : ¬ (k : Int) < nf := by omega
       clear hgo hlt
       clear ha hk
       go_wp2
       all_goals
        go_ret
        exact ⟨ret_int (by rw [sizeS_succ, HE1.out, HE.out]; omega), HBW.out.trans (HB.out.mono HBW.out.size)⟩
   ·
    have hlt1 : ¬ (k : Int) < np := by omega
    clear hgo hlt
    obtain ⟨a1, rfl⟩ : ∃ a1, a1 = a := ⟨_, rfl⟩
    have hA1 := ha
    have HB1 := HB
    clear HB
    clear ha hk
    go_wp2
    go_loopw [5, 7] (fun s i wr => ∃ k a : Nat, k ≤ nf ∧ i = .int .i64 k ∧ a < 2000 ∧ s = .int .i64 a ∧ Hid (sumS n a1 (t.funs.take k) = a) ∧ Hid (Below W.heap.size W wr)) (fun _ i _ => nf - (intOf i).toNat)
    case atStart => exact ⟨0, a1, Nat.zero_le _, rfl, hA1, rfl, hid rfl, HB1⟩
    case round =>
     obtain ⟨k, a, hk, rfl, ha, rfl, HA, HB⟩ := hrel
     have hcell := (HBX.out.keep HB.out).c5
     have a0 : (0 : Int) ≤ a := Int.natCast_nonneg _
     by_cases hgo : k < nf ∧ a < 1000
     ·
      have hkl : k < t.funs.length := by rw [← HFN.out]; exact hgo.1
      obtain ⟨d, hd⟩ : ∃ d, t.funs.getD k ty0 = d := ⟨_, rfl⟩
      obtain ⟨b, off, p1, c1, p2, c2, rfl, hb, e0, e1, e2, e3, e4, e5, hv⟩ := (HF.out.under HB.out).elem hkl hd
      have hsn := sumS_snoc n a1 t.funs k hkl
      rw [HA.out, if_pos hgo.2, hd] at hsn
      have hle := sizeS_le n d
      obtain ⟨q1, hq1⟩ : ∃ q, q = d.pairs.length := ⟨_, rfl⟩
      obtain ⟨q2, hq2⟩ : ∃ q, q = d.funs.length := ⟨_, rfl⟩
      rw [← hq1] at e3 hv
      rw [← hq2] at e5 hv
      have C := HI.out d _ wr hv
      obtain ⟨z, hz⟩ : ∃ z, z = sizeS n d := ⟨_, rfl⟩
      rw [← hz] at C hsn hle
      have HC := hid C
      have HSN := hid hsn
      have hal : (a : Int) < 1000 := by omega
      have hle2 : (z : Int) ≤ 1000 := by omega
      have hlt : (k : Int) < nf := by omega
      have HKL := hid hgo
      have HLE := hid hle
      clear hd hv hsn C hz hq1 hq2 hgo ha hk hkl hle HA
      go_wp2_with fail
      refine HC.out.mono ?_
      rintro e w2 ⟨rfl, hbw⟩
      have HB2 := hid (HB.out.trans (hbw.mono HB.out.size))
      clear hbw
      go_wp2
      exact ⟨⟨k + 1, a + z, by have := HKL.out; omega, by go_num, by have := HLE.out; have := HKL.out; omega, by go_num, HSN, HB2⟩, by have := HKL.out; simp [intOf]; omega⟩
     ·
      have hend : sumS n a1 t.funs = a := by
       by_cases h1 : k < nf
       ·
        rw [sumS_take n a1 k t.funs (by rw [HA.out]; omega), HA.out]
       ·
        have := HA.out
        rwa [List.take_of_length_le (by rw [← HFN.out]; omega)] at this
      have HE := hid hend
      clear hend HA
      by_cases hlt : k < nf
      ·
       have hlt1 : (k : Int) < nf := by omega
       have hal : decide ((a : Int) < 1000) = false := decide_eq_false (by omega)
       clear hgo hlt
       clear ha hk
       go_wp2
       all_goals
        go_ret
        exact ⟨ret_int (by rw [sizeS_succ, HE1.out, HE.out]; omega), HBW.out.trans (HB.out.mono HBW.out.size)⟩
      ·
       have hlt1 : ¬ (k : Int) < nf := by omega
       clear hgo hlt
       clear ha hk
       go_wp2
       all_goals
        go_ret
        exact ⟨ret_int (by rw [sizeS_succ, HE1.out, HE.out]; omega), HBW.out.trans (HB.out.mono HBW.out.size)⟩

theorem size_any : ∀ n : Nat, n ≤ 100 → SizeOK n := by
 intro n
 induction n with
 | zero => intro _; exact size_zero
 | succ n ih => intro hn; exact size_succ n (by omega) (ih (by omega))

set_option maxRecDepth 100000 in
set_option maxHeartbeats 1000000 in
theorem light_any (t : Ty) (v : Value) (w : World) (hv : TyV w v t) :
  Calls Tryd.prog 29 #[v] w fun e w' => e = .returned (.bool (lightT t)) ∧ Below w.heap.size w w' := by
 have HC := hid (fun w' h => size_any 60 (by omega) t v w' h)
 have HV := hid hv
 obtain ⟨pa, pc, fa, fc, rfl, _, _⟩ := hv.form
 have HL : Hid (lightT t = decide (sizeS 60 t < 120)) := rfl
 have hle := sizeS_le 60 t
 obtain ⟨z, hz⟩ : ∃ z, z = sizeS 60 t := ⟨_, rfl⟩
 rw [← hz] at HC hle HL
 clear hz hv
 go_enter Tryd.func29, Tryd.ntmps29
 go_wp2_with fail
 refine (HC.out _ (HV.out.below ((Below.refl _ _).alloc (Nat.le_refl _) _))).mono ?_
 rintro e w' ⟨rfl, hb⟩
 go_wp2
 go_ret
 exact ⟨ret_bool (by rw [HL.out]; simp; omega), ((Below.refl _ _).alloc (Nat.le_refl _) _).trans (hb.mono (by simp))⟩
end Go.Proofs.YtlalnkabfigodaaDoor
