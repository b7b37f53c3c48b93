import Derived.Test.YtlalnkabfigodaaDoorCoSh
-- joined
namespace Go.Proofs.YtlalnkabfigodaaDoor
open Go.Lib (hid)
open Go.RowKit

theorem reti7 {k : IntKind} {a b : Int} (h : a = b) : Ending.returned (.int k a) = .returned (.int k b) := by rw [h]
theorem retb7 {a b : Bool} (h : a = b) : Ending.returned (.bool a) = .returned (.bool b) := by rw [h]
def SizeKOK (n : Nat) : Prop := ∀ (c : Co) (v : Value) (w : World), CoV w v c →
  Calls Tryd.prog 65 #[v, .int .i64 n] w fun e w' => e = .returned (.int .i64 (sizeK n c : Nat)) ∧ Below w.heap.size w w'

set_option maxRecDepth 100000 in
set_option maxHeartbeats 16000000 in
theorem sizek_any (n : Nat) (hn : n ≤ 100) : SizeKOK n := by
 induction n with
 | zero =>
  intro c v w hv
  obtain ⟨pa, pc, fa, fc, rfl, hp, hf⟩ := hv.form
  clear hp hf hv
  go_enter Tryd.func65, Tryd.ntmps65
  go_wp2
  go_ret
  exact ⟨rfl, (Below.refl _ _).alloc (Nat.le_refl _) _⟩
 | succ n ih =>
  intro c v w hv
  have HI := hid (ih (by omega))
  clear ih
  obtain ⟨pa, pc, fa, fc, rfl, hp, hf⟩ := hv.form
  obtain ⟨np, hnp⟩ : ∃ n, n = c.pairs.length := ⟨_, rfl⟩
  obtain ⟨nf, hnf⟩ : ∃ n, n = c.funs.length := ⟨_, rfl⟩
  rw [← hnp] at hp ⊢
  rw [← hnf] at hf ⊢
  have bp : (np : Int) ≤ 9223372036854775807 := by have := hp.len; rw [← hnp] at this; unfold maxLen at this; omega
  have bf : (nf : Int) ≤ 9223372036854775807 := by have := hf.len; rw [← hnf] at this; unfold maxLen at this; omega
  obtain ⟨W, hW⟩ : ∃ W, W = w.alloc (.cells #[.int .i64 c.h.f0, .int .i64 c.h.f1, .int .i64 c.h.f2, .int .i64 c.h.f3, .int .i64 c.h.f4, .int .i64 c.h.f5, .int .i64 c.h.pair, .int .i64 c.h.pl, .slice pa np pc, .int .i64 c.h.fn, .int .i64 c.h.fl, .slice fa nf fc] 30) := ⟨_, rfl⟩
  have HX := hid (show CBox W w.heap.size 30 ⟨c.h, .slice pa np pc, .slice fa nf fc⟩ by rw [hW]; exact CBox.made _ _ ⟨c.h, .slice pa np pc, .slice fa nf fc⟩)
  have HL := hid (show Below w.heap.size w W by rw [hW]; exact (Below.refl _ _).alloc (Nat.le_refl _) _)
  have HP := hid (CoSN.below hp HL.out)
  have HF := hid (CoSN.below hf HL.out)
  have HPN := hid hnp
  have HFN := hid hnf
  have HW := hid hW
  clear hp hf hnp hnf hW hv
  have x8 : W.cell? ⟨w.heap.size, 8, none⟩ = some (.slice pa np pc) := HX.out.c8
  have x11 : W.cell? ⟨w.heap.size, 11, none⟩ = some (.slice fa nf fc) := HX.out.c11
  have hn0 : ((n : Int) + 1 == 0) = false := by simp; omega
  rw [show ((n + 1 : Nat) : Int) = (n : Int) + 1 by omega]
  go_enter Tryd.func65, Tryd.ntmps65
  go_wp2
  rw [← HW.out]
  clear HW
  go_loopw [5, 6] (fun s i wr => ∃ k a : Nat, k ≤ np ∧ i = .int .i64 k ∧ a < 2000 ∧ s = .int .i64 a ∧ Hid (sumK n 1 (c.pairs.take k) = a) ∧ Hid (Below W.heap.size W wr)) (fun _ i _ => np - (intOf i).toNat)
  case atStart => exact ⟨0, 1, Nat.zero_le _, rfl, by omega, rfl, hid rfl, hid (Below.refl _ _)⟩
  case round =>
   clear x8 x11
   obtain ⟨k, a, hk, rfl, ha, rfl, HA, HB⟩ := hrel
   have x8 : wr.cell? ⟨w.heap.size, 8, none⟩ = some (.slice pa np pc) := (HX.out.keep HB.out).c8
   have x11 : wr.cell? ⟨w.heap.size, 11, none⟩ = some (.slice fa nf fc) := (HX.out.keep HB.out).c11
   have a0 : (0 : Int) ≤ a := Int.natCast_nonneg _
   by_cases hgo : k < np ∧ a < 1000
   ·
    have hkl : k < c.pairs.length := by rw [← HPN.out]; exact hgo.1
    obtain ⟨d, hd⟩ : ∃ d, c.pairs.getD k co0 = d := ⟨_, rfl⟩
    obtain ⟨b, off, p1, c1, p2, c2, rfl, hb, ⟨e0, e1, e2, e3, e4, e5, e6, e7, e8, e9, e10, e11⟩, hv⟩ := CoSN.elem (CoSN.below HP.out HB.out) hkl hd
    have hsn := sumK_snoc n 1 c.pairs k hkl
    rw [HA.out, if_pos hgo.2, hd] at hsn
    have hle := sizeK_le n d
    have C := HI.out d _ wr hv
    obtain ⟨z, hz⟩ : ∃ z, z = sizeK n d := ⟨_, rfl⟩
    rw [← hz] at C hsn hle
    have HC := hid C
    have HSN := hid hsn
    have hal : (a : Int) < 1000 := by omega
    have hle2 : (z : Int) ≤ 1000 := by omega
    have hlt : (k : Int) < np := by omega
    have HKL := hid hgo
    have HLE := hid hle
    clear hd hv hsn C hz hgo ha hk hkl hle HA hb
    go_wp2_with fail
    refine HC.out.mono ?_
    rintro e w2 ⟨rfl, hbw⟩
    have HB2 := hid (HB.out.trans (hbw.mono HB.out.size))
    clear hbw
    go_wp2
    exact ⟨⟨k + 1, a + z, by have := HKL.out; omega, by go_num, by have := HLE.out; have := HKL.out; omega, by go_num, HSN, HB2⟩, by have := HKL.out; simp [intOf]; omega⟩
   ·
    have hend : sumK n 1 c.pairs = a := by
     by_cases h1 : k < np
     ·
      rw [sumK_take n 1 k c.pairs (by rw [HA.out]; omega), HA.out]
     ·
      have := HA.out
      rwa [List.take_of_length_le (by rw [← HPN.out]; omega)] at this
    have HE := hid hend
    have HAA := hid ha
    clear hend HA
    by_cases hlt : k < np
    ·
     have hlt1 : (k : Int) < np := by omega
     have hal : decide ((a : Int) < 1000) = false := decide_eq_false (by omega)
     clear hgo hlt ha hk
     obtain ⟨W1, rfl⟩ : ∃ x, x = wr := ⟨_, rfl⟩
     obtain ⟨a1, rfl⟩ : ∃ x, x = a := ⟨_, rfl⟩
     have HE1 := HE
     have HA1 := HAA
     have hB := HB.out
     replace HX := hid (HX.out.keep hB)
     replace HP := hid (CoSN.below HP.out hB)
     replace HF := hid (CoSN.below HF.out hB)
     replace HL := hid (HL.out.trans (hB.mono HL.out.size))
     clear HB HE hB HAA
     go_wp2
     go_loopw [5, 7] (fun s i wr => ∃ k a : Nat, k ≤ nf ∧ i = .int .i64 k ∧ a < 2000 ∧ s = .int .i64 a ∧ Hid (sumK n a1 (c.funs.take k) = a) ∧ Hid (Below W1.heap.size W1 wr)) (fun _ i _ => nf - (intOf i).toNat)
     case atStart => exact ⟨0, a1, Nat.zero_le _, rfl, HA1.out, rfl, hid rfl, hid (Below.refl _ _)⟩
     case round =>
      clear x8 x11
      obtain ⟨k, a, hk, rfl, ha, rfl, HA, HB⟩ := hrel
      have x8 : wr.cell? ⟨w.heap.size, 8, none⟩ = some (.slice pa np pc) := (HX.out.keep HB.out).c8
      have x11 : wr.cell? ⟨w.heap.size, 11, none⟩ = some (.slice fa nf fc) := (HX.out.keep HB.out).c11
      have a0 : (0 : Int) ≤ a := Int.natCast_nonneg _
      by_cases hgo : k < nf ∧ a < 1000
      ·
       have hkl : k < c.funs.length := by rw [← HFN.out]; exact hgo.1
       obtain ⟨d, hd⟩ : ∃ d, c.funs.getD k co0 = d := ⟨_, rfl⟩
       obtain ⟨b, off, p1, c1, p2, c2, rfl, hb, ⟨e0, e1, e2, e3, e4, e5, e6, e7, e8, e9, e10, e11⟩, hv⟩ := CoSN.elem (CoSN.below HF.out HB.out) hkl hd
       have hsn := sumK_snoc n a1 c.funs k hkl
       rw [HA.out, if_pos hgo.2, hd] at hsn
       have hle := sizeK_le n d
       have C := HI.out d _ wr hv
       obtain ⟨z, hz⟩ : ∃ z, z = sizeK n d := ⟨_, rfl⟩
       rw [← hz] at C hsn hle
       have HC := hid C
       have HSN := hid hsn
       have hal : (a : Int) < 1000 := by omega
       have hle2 : (z : Int) ≤ 1000 := by omega
       have hlt : (k : Int) < nf := by omega
       have HKL := hid hgo
       have HLE := hid hle
       clear hd hv hsn C hz hgo ha hk hkl hle HA hb
       go_wp2_with fail
       refine HC.out.mono ?_
       rintro e w2 ⟨rfl, hbw⟩
       have HB2 := hid (HB.out.trans (hbw.mono HB.out.size))
       clear hbw
       go_wp2
       exact ⟨⟨k + 1, a + z, by have := HKL.out; omega, by go_num, by have := HLE.out; have := HKL.out; omega, by go_num, HSN, HB2⟩, by have := HKL.out; simp [intOf]; omega⟩
      ·
       have hend : sumK n a1 c.funs = a := by
        by_cases h1 : k < nf
        ·
         rw [sumK_take n a1 k c.funs (by rw [HA.out]; omega), HA.out]
        ·
         have := HA.out
         rwa [List.take_of_length_le (by rw [← HFN.out]; omega)] at this
       have HE := hid hend
       have HAA := hid ha
       clear hend HA
       by_cases hlt : k < nf
       ·
        have hlt1 : (k : Int) < nf := by omega
        have hal : decide ((a : Int) < 1000) = false := decide_eq_false (by omega)
        clear hgo hlt ha hk
        go_wp2
        all_goals
         go_ret
         exact ⟨reti7 (by rw [sizeK_succ, HE1.out, HE.out]; omega), HL.out.trans (HB.out.mono HL.out.size)⟩
       ·
        have hlt1 : ¬ (k : Int) < nf := by omega
        clear hgo hlt ha hk
        go_wp2
        all_goals
         go_ret
         exact ⟨reti7 (by rw [sizeK_succ, HE1.out, HE.out]; omega), HL.out.trans (HB.out.mono HL.out.size)⟩
    ·
     have hlt1 : ¬ (k : Int) < np := by omega
     clear hgo hlt ha hk
     obtain ⟨W1, rfl⟩ : ∃ x, x = wr := ⟨_, rfl⟩
     obtain ⟨a1, rfl⟩ : ∃ x, x = a := ⟨_, rfl⟩
     have HE1 := HE
     have HA1 := HAA
     have hB := HB.out
     replace HX := hid (HX.out.keep hB)
     replace HP := hid (CoSN.below HP.out hB)
     replace HF := hid (CoSN.below HF.out hB)
     replace HL := hid (HL.out.trans (hB.mono HL.out.size))
     clear HB HE hB HAA
     go_wp2
     go_loopw [5, 7] (fun s i wr => ∃ k a : Nat, k ≤ nf ∧ i = .int .i64 k ∧ a < 2000 ∧ s = .int .i64 a ∧ Hid (sumK n a1 (c.funs.take k) = a) ∧ Hid (Below W1.heap.size W1 wr)) (fun _ i _ => nf - (intOf i).toNat)
     case atStart => exact ⟨0, a1, Nat.zero_le _, rfl, HA1.out, rfl, hid rfl, hid (Below.refl _ _)⟩
     case round =>
      clear x8 x11
      obtain ⟨k, a, hk, rfl, ha, rfl, HA, HB⟩ := hrel
      have x8 : wr.cell? ⟨w.heap.size, 8, none⟩ = some (.slice pa np pc) := (HX.out.keep HB.out).c8
      have x11 : wr.cell? ⟨w.heap.size, 11, none⟩ = some (.slice fa nf fc) := (HX.out.keep HB.out).c11
      have a0 : (0 : Int) ≤ a := Int.natCast_nonneg _
      by_cases hgo : k < nf ∧ a < 1000
      ·
       have hkl : k < c.funs.length := by rw [← HFN.out]; exact hgo.1
       obtain ⟨d, hd⟩ : ∃ d, c.funs.getD k co0 = d := ⟨_, rfl⟩
       obtain ⟨b, off, p1, c1, p2, c2, rfl, hb, ⟨e0, e1, e2, e3, e4, e5, e6, e7, e8, e9, e10, e11⟩, hv⟩ := CoSN.elem (CoSN.below HF.out HB.out) hkl hd
       have hsn := sumK_snoc n a1 c.funs k hkl
       rw [HA.out, if_pos hgo.2, hd] at hsn
       have hle := sizeK_le n d
       have C := HI.out d _ wr hv
       obtain ⟨z, hz⟩ : ∃ z, z = sizeK n d := ⟨_, rfl⟩
       rw [← hz] at C hsn hle
       have HC := hid C
       have HSN := hid hsn
       have hal : (a : Int) < 1000 := by omega
       have hle2 : (z : Int) ≤ 1000 := by omega
       have hlt : (k : Int) < nf := by omega
       have HKL := hid hgo
       have HLE := hid hle
       clear hd hv hsn C hz hgo ha hk hkl hle HA hb
       go_wp2_with fail
       refine HC.out.mono ?_
       rintro e w2 ⟨rfl, hbw⟩
       have HB2 := hid (HB.out.trans (hbw.mono HB.out.size))
       clear hbw
       go_wp2
       exact ⟨⟨k + 1, a + z, by have := HKL.out; omega, by go_num, by have := HLE.out; have := HKL.out; omega, by go_num, HSN, HB2⟩, by have := HKL.out; simp [intOf]; omega⟩
      ·
       have hend : sumK n a1 c.funs = a := by
        by_cases h1 : k < nf
        ·
         rw [sumK_take n a1 k c.funs (by rw [HA.out]; omega), HA.out]
        ·
         have := HA.out
         rwa [List.take_of_length_le (by rw [← HFN.out]; omega)] at this
       have HE := hid hend
       have HAA := hid ha
       clear hend HA
       by_cases hlt : k < nf
       ·
        have hlt1 : (k : Int) < nf := by omega
        have hal : decide ((a : Int) < 1000) = false := decide_eq_false (by omega)
        clear hgo hlt ha hk
        go_wp2
        all_goals
         go_ret
         exact ⟨reti7 (by rw [sizeK_succ, HE1.out, HE.out]; omega), HL.out.trans (HB.out.mono HL.out.size)⟩
       ·
        have hlt1 : ¬ (k : Int) < nf := by omega
        clear hgo hlt ha hk
        go_wp2
        all_goals
         go_ret
         exact ⟨reti7 (by rw [sizeK_succ, HE1.out, HE.out]; omega), HL.out.trans (HB.out.mono HL.out.size)⟩

set_option maxRecDepth 100000 in
set_option maxHeartbeats 1000000 in
theorem lightk_any (c : Co) (v : Value) (w : World) (hv : CoV w v c) :
  Calls Tryd.prog 39 #[v] w fun e w' => e = .returned (.bool (lightC c)) ∧ Below w.heap.size w w' := by
 have HC := hid (fun w' h => sizek_any 60 (by omega) c v w' h)
 have HV := hid hv
 obtain ⟨pa, pc, fa, fc, rfl, _, _⟩ := hv.form
 have HL : Hid (lightC c = decide (sizeK 60 c < 150)) := rfl
 have hle := sizeK_le 60 c
 obtain ⟨z, hz⟩ : ∃ z, z = sizeK 60 c := ⟨_, rfl⟩
 rw [← hz] at HC hle HL
 clear hz hv
 go_enter Tryd.func39, Tryd.ntmps39
 go_wp2_with fail
 refine (HC.out _ (HV.out.below ((Below.refl _ _).alloc (Nat.le_refl _) _))).mono ?_
 rintro e w' ⟨rfl, hb⟩
 go_wp2
 go_ret
 exact ⟨retb7 (by rw [HL.out]; simp; omega), ((Below.refl _ _).alloc (Nat.le_refl _) _).trans (hb.mono (by simp))⟩
end Go.Proofs.YtlalnkabfigodaaDoor
namespace Go.Proofs.YtlalnkabfigodaaDoor
open Go.Lib (hid)
open Go.RowKit

theorem CBox.flat {w : World} {g : Nat} {T : TypeId} {r : RawC} (h : CBox w g T r) {i : Nat} (hi : i < 6) : w.cell? ⟨g, i, none⟩ = some (.int .i64 (r.h.flat.getD i 0)) := by
 obtain rfl | rfl | rfl | rfl | rfl | rfl : i = 0 ∨ i = 1 ∨ i = 2 ∨ i = 3 ∨ i = 4 ∨ i = 5 := by omega
 ·
  exact h.c0
 ·
  exact h.c1
 ·
  exact h.c2
 ·
  exact h.c3
 ·
  exact h.c4
 ·
  exact h.c5
theorem pass_eq (c : Co) : passC c = ((c.h.flat.all fun x => decide (x = 0)) && decide (c.h.pair = 0 ∧ c.h.pl = 0 ∧ c.pairs.length = 0 ∧ c.h.fn = 0 ∧ c.h.fl = 0 ∧ c.funs.length = 0)) := by
 have e : passC c = true ↔ ((c.h.flat.all fun x => decide (x = 0)) && decide (c.h.pair = 0 ∧ c.h.pl = 0 ∧ c.pairs.length = 0 ∧ c.h.fn = 0 ∧ c.h.fl = 0 ∧ c.funs.length = 0)) = true := by
  unfold passC Hd.flat
  simp only [List.all_cons, List.all_nil, Bool.and_eq_true, decide_eq_true_eq, Bool.and_true]
  constructor
  ·
   rintro ⟨h1, h2, h3⟩
   rw [h1]
   exact ⟨⟨rfl, rfl, rfl, rfl, rfl, rfl⟩, rfl, rfl, h2, rfl, rfl, h3⟩
  ·
   rintro ⟨⟨a0, a1, a2, a3, a4, a5⟩, a6, a7, a8, a9, a10, a11⟩
   exact ⟨Hd.ext' ⟨a0, a1, a2, a3, a4, a5, a6, a7, a9, a10⟩, a8, a11⟩
 cases h : passC c <;> cases h2 : ((c.h.flat.all fun x => decide (x = 0)) && decide (c.h.pair = 0 ∧ c.h.pl = 0 ∧ c.pairs.length = 0 ∧ c.h.fn = 0 ∧ c.h.fl = 0 ∧ c.funs.length = 0))
 ·
  rfl
 ·
  rw [e.2 h2] at h; cases h
 ·
  rw [h2] at e; exact absurd (e.1 h) (by simp)
 ·
  rfl

set_option maxRecDepth 100000 in
set_option maxHeartbeats 4000000 in
theorem rflats_go (c : Co) (v : Value) (w : World) (hv : CoV w v c) : Calls Tryd.prog 48 #[v] w fun e w' => e = .returned (.bool (c.h.flat.all fun x => decide (x = 0))) ∧ Below w.heap.size w w' := by
 obtain ⟨pa, pc, fa, fc, rfl, hp, hf⟩ := hv.form
 obtain ⟨np, hnp⟩ : ∃ n, n = c.pairs.length := ⟨_, rfl⟩
 obtain ⟨nf, hnf⟩ : ∃ n, n = c.funs.length := ⟨_, rfl⟩
 rw [← hnp] at hp ⊢
 rw [← hnf] at hf ⊢
 have bp : (np : Int) ≤ 9223372036854775807 := by have := hp.len; rw [← hnp] at this; unfold maxLen at this; omega
 have bf : (nf : Int) ≤ 9223372036854775807 := by have := hf.len; rw [← hnf] at this; unfold maxLen at this; omega
 obtain ⟨W, hW⟩ : ∃ W, W = w.alloc (.cells #[.int .i64 c.h.f0, .int .i64 c.h.f1, .int .i64 c.h.f2, .int .i64 c.h.f3, .int .i64 c.h.f4, .int .i64 c.h.f5, .int .i64 c.h.pair, .int .i64 c.h.pl, .slice pa np pc, .int .i64 c.h.fn, .int .i64 c.h.fl, .slice fa nf fc] 30) := ⟨_, rfl⟩
 have HX := hid (show CBox W w.heap.size 30 ⟨c.h, .slice pa np pc, .slice fa nf fc⟩ by rw [hW]; exact CBox.made _ _ ⟨c.h, .slice pa np pc, .slice fa nf fc⟩)
 have HL := hid (show Below w.heap.size w W by rw [hW]; exact (Below.refl _ _).alloc (Nat.le_refl _) _)
 have HP := hid (CoSN.below hp HL.out)
 have HF := hid (CoSN.below hf HL.out)
 have HPN := hid hnp
 have HFN := hid hnf
 have HW := hid hW
 clear hp hf hnp hnf hW hv
 obtain ⟨z, hz⟩ : ∃ z, z = (c.h.flat.all fun x => decide (x = 0)) := ⟨_, rfl⟩
 rw [← hz]
 have HZ := hid hz
 clear hz
 go_enter Tryd.func48, Tryd.ntmps48
 go_wp2
 rw [← HW.out]
 clear HW
 go_loopw [3] (fun iv wr => ∃ i : Nat, i ≤ 6 ∧ iv = .int .i64 i ∧ wr = W ∧ Hid (∀ j, j < i → c.h.flat.getD j 0 = 0)) (fun iv _ => 6 - (intOf iv).toNat)
 case atStart => exact ⟨0, Nat.zero_le _, rfl, rfl, hid fun j h => absurd h (Nat.not_lt_zero _)⟩
 case round =>
  obtain ⟨i, hi1, rfl, rfl, HQ⟩ := hrel
  by_cases hlt : i < 6
  ·
   have hi0 : (0 : Int) ≤ (i : Int) := Int.natCast_nonneg _
   have hi2 : (i : Int) < 6 := by omega
   have xi := HX.out.flat hlt
   obtain ⟨x, hx⟩ : ∃ x, c.h.flat.getD i 0 = x := ⟨_, rfl⟩
   rw [hx] at xi
   have HXX := hid hx
   clear hx
   by_cases h0 : x = 0
   ·
    subst h0
    go_wp2
    refine ⟨⟨i + 1, hlt, by go_num, by trivial, hid fun j hj => ?_⟩, by simp [intOf]; omega⟩
    by_cases e : j = i
    ·
     rw [e]; exact HXX.out
    ·
     exact HQ.out j (by omega)
   ·
    have e : z = false := by
     rw [HZ.out, List.all_eq_false]
     refine ⟨x, ?_, by simp [h0]⟩
     rw [← HXX.out, List.getD_eq_getElem?_getD, List.getElem?_eq_getElem (show i < c.h.flat.length from hlt)]
     exact List.getElem_mem _
    subst e
    go_wp2
    refine bodyPost_ret (v := .bool false) ?_ ?_ ?_
    ·
     simp [results, Tryd.results48, go_sem]
    ·
     rfl
    ·
     exact ⟨rfl, HL.out⟩
  ·
   have e : z = true := by
    rw [HZ.out, List.all_eq_true]
    intro x hx
    obtain ⟨j, hj, rfl⟩ := List.getElem_of_mem hx
    have := HQ.out j (by have : j < 6 := hj; omega)
    rw [List.getD_eq_getElem?_getD, List.getElem?_eq_getElem hj] at this
    exact decide_eq_true this
   subst e
   go_wp2
   refine bodyPost_ret (v := .bool true) ?_ ?_ ?_
   ·
    simp [results, Tryd.results48, go_sem]
   ·
    rfl
   ·
    exact ⟨rfl, HL.out⟩

set_option maxRecDepth 100000 in
set_option maxHeartbeats 8000000 in
theorem rpass_go (c : Co) (v : Value) (w : World) (hv : CoV w v c) : Calls Tryd.prog 15 #[v] w fun e w' => e = .returned (.bool (passC c)) ∧ Below w.heap.size w w' := by
 have HV := hid hv
 obtain ⟨pa, pc, fa, fc, rfl, hp, hf⟩ := hv.form
 obtain ⟨np, hnp⟩ : ∃ n, n = c.pairs.length := ⟨_, rfl⟩
 obtain ⟨nf, hnf⟩ : ∃ n, n = c.funs.length := ⟨_, rfl⟩
 rw [← hnp] at hp ⊢
 rw [← hnf] at hf ⊢
 have bp : (np : Int) ≤ 9223372036854775807 := by have := hp.len; rw [← hnp] at this; unfold maxLen at this; omega
 have bf : (nf : Int) ≤ 9223372036854775807 := by have := hf.len; rw [← hnf] at this; unfold maxLen at this; omega
 obtain ⟨W, hW⟩ : ∃ W, W = w.alloc (.cells #[.int .i64 c.h.f0, .int .i64 c.h.f1, .int .i64 c.h.f2, .int .i64 c.h.f3, .int .i64 c.h.f4, .int .i64 c.h.f5, .int .i64 c.h.pair, .int .i64 c.h.pl, .slice pa np pc, .int .i64 c.h.fn, .int .i64 c.h.fl, .slice fa nf fc] 30) := ⟨_, rfl⟩
 have HX := hid (show CBox W w.heap.size 30 ⟨c.h, .slice pa np pc, .slice fa nf fc⟩ by rw [hW]; exact CBox.made _ _ ⟨c.h, .slice pa np pc, .slice fa nf fc⟩)
 have HL := hid (show Below w.heap.size w W by rw [hW]; exact (Below.refl _ _).alloc (Nat.le_refl _) _)
 have HP := hid (CoSN.below hp HL.out)
 have HF := hid (CoSN.below hf HL.out)
 have HPN := hid hnp
 have HFN := hid hnf
 have HW := hid hW
 clear hp hf hnp hnf hW hv
 replace HV := hid (HV.out.below HL.out)
 obtain ⟨z, hz⟩ : ∃ z, z = passC c := ⟨_, rfl⟩
 rw [← hz]
 rw [pass_eq, ← HPN.out, ← HFN.out] at hz
 have HZ := hid hz
 clear hz
 rw [← HPN.out, ← HFN.out] at HV
 obtain ⟨x0, x1, x2, x3, x4, x5, x6, x7, x8, x9, x10, x11⟩ := HX.out.cs
 (try dsimp only at x0 x1 x2 x3 x4 x5 x6 x7 x8 x9 x10 x11)
 go_enter Tryd.func15, Tryd.ntmps15
 go_wp2_with fail
 rw [← HW.out]
 clear HW
 refine (rflats_go c _ W HV.out).mono ?_
 rintro e w2 ⟨rfl, hb⟩
 obtain ⟨y, hy⟩ : ∃ y, y = (c.h.flat.all fun x => decide (x = 0)) := ⟨_, rfl⟩
 rw [← hy] at HZ ⊢
 replace HX := hid (HX.out.keep hb)
 replace HL := hid (HL.out.trans (hb.mono HL.out.size))
 clear hy hb x0 x1 x2 x3 x4 x5 x6 x7 x8 x9 x10 x11
 have x6 : w2.cell? ⟨w.heap.size, 6, none⟩ = some (.int .i64 c.h.pair) := HX.out.c6
 have x7 : w2.cell? ⟨w.heap.size, 7, none⟩ = some (.int .i64 c.h.pl) := HX.out.c7
 have x8 : w2.cell? ⟨w.heap.size, 8, none⟩ = some (.slice pa np pc) := HX.out.c8
 have x9 : w2.cell? ⟨w.heap.size, 9, none⟩ = some (.int .i64 c.h.fn) := HX.out.c9
 have x10 : w2.cell? ⟨w.heap.size, 10, none⟩ = some (.int .i64 c.h.fl) := HX.out.c10
 have x11 : w2.cell? ⟨w.heap.size, 11, none⟩ = some (.slice fa nf fc) := HX.out.c11
 obtain ⟨z2, hz2⟩ : ∃ z, z = decide (c.h.pair = 0 ∧ c.h.pl = 0 ∧ np = 0 ∧ c.h.fn = 0 ∧ c.h.fl = 0 ∧ nf = 0) := ⟨_, rfl⟩
 rw [← hz2] at HZ
 have HZ2 := hid hz2
 clear hz2
 cases y with
 | false =>
  have e : z = false := HZ.out
  subst e
  go_wp2
  refine bodyPost_ret (v := .bool false) ?_ ?_ ?_
  ·
   simp [results, Tryd.results15, go_sem]
  ·
   rfl
  ·
   exact ⟨rfl, HL.out⟩
 | true =>
  have e : z = z2 := HZ.out
  subst e
  by_cases h1 : c.h.pair = 0
  case neg =>
   have e : z = false := by rw [HZ2.out]; exact decide_eq_false fun h => h1 h.1
   subst e
   go_wp2
   refine bodyPost_ret (v := .bool false) ?_ ?_ ?_
   ·
    simp [results, Tryd.results15, go_sem]
   ·
    rfl
   ·
    exact ⟨rfl, HL.out⟩
  by_cases h2 : c.h.pl = 0
  case neg =>
   have e : z = false := by rw [HZ2.out]; exact decide_eq_false fun h => h2 h.2.1
   subst e
   go_wp2
   refine bodyPost_ret (v := .bool false) ?_ ?_ ?_
   ·
    simp [results, Tryd.results15, go_sem]
   ·
    rfl
   ·
    exact ⟨rfl, HL.out⟩
  by_cases h3 : np = 0
  case neg =>
   have h3i : ¬ (np : Int) = 0 := by omega
   have e : z = false := by rw [HZ2.out]; exact decide_eq_false fun h => h3 h.2.2.1
   subst e
   go_wp2
   refine bodyPost_ret (v := .bool false) ?_ ?_ ?_
   ·
    simp [results, Tryd.results15, go_sem]
   ·
    rfl
   ·
    exact ⟨rfl, HL.out⟩
  by_cases h4 : c.h.fn = 0
  case neg =>
   have e : z = false := by rw [HZ2.out]; exact decide_eq_false fun h => h4 h.2.2.2.1
   subst e
   go_wp2
   refine bodyPost_ret (v := .bool false) ?_ ?_ ?_
   ·
    simp [results, Tryd.results15, go_sem]
   ·
    rfl
   ·
    exact ⟨rfl, HL.out⟩
  by_cases h5 : c.h.fl = 0
  case neg =>
   have e : z = false := by rw [HZ2.out]; exact decide_eq_false fun h => h5 h.2.2.2.2.1
   subst e
   go_wp2
   refine bodyPost_ret (v := .bool false) ?_ ?_ ?_
   ·
    simp [results, Tryd.results15, go_sem]
   ·
    rfl
   ·
    exact ⟨rfl, HL.out⟩
  by_cases h6 : nf = 0
  case neg =>
   have h6i : ¬ (nf : Int) = 0 := by omega
   have e : z = false := by rw [HZ2.out]; exact decide_eq_false fun h => h6 h.2.2.2.2.2
   subst e
   go_wp2
   refine bodyPost_ret (v := .bool false) ?_ ?_ ?_
   ·
    simp [results, Tryd.results15, go_sem]; exact h6
   ·
    rfl
   ·
    exact ⟨rfl, HL.out⟩
  have e : z = true := by rw [HZ2.out]; exact decide_eq_true ⟨h1, h2, h3, h4, h5, h6⟩
  subst e
  subst h3 h6
  go_wp2
  refine bodyPost_ret (v := .bool true) ?_ ?_ ?_
  ·
   simp [results, Tryd.results15, go_sem]
  ·
   rfl
  ·
   exact ⟨rfl, HL.out⟩

set_option maxRecDepth 100000 in
set_option maxHeartbeats 4000000 in
theorem rall_go (l : List Co) (pa : Option Addr) (n pc : Nat) (w : World) (hn : n = l.length) (hl : CoS w (Lc NC w) (.slice pa n pc) l) : Calls Tryd.prog 61 #[.slice pa n pc] w fun e w' => e = .returned (.bool (allC l)) ∧ Below w.heap.size w w' := by
 have bp : (n : Int) ≤ 9223372036854775807 := by have := hl.len; rw [← hn] at this; unfold maxLen at this; omega
 have HN := hid hn
 have HP := hid hl
 obtain ⟨z, hz⟩ : ∃ z, z = allC l := ⟨_, rfl⟩
 rw [← hz]
 have HZ := hid hz
 clear hn hl hz
 go_enter Tryd.func61, Tryd.ntmps61
 go_wp2
 go_loopw [3] (fun iv wr => AlRel passC n w l iv wr) (fun iv _ => n - (intOf iv).toNat)
 case atStart => exact ⟨0, Nat.zero_le _, rfl, hid (Below.refl _ _), hid fun j h => absurd h (Nat.not_lt_zero _)⟩
 case round =>
  obtain ⟨i, hi1, rfl, HB, HQ⟩ := hrel
  by_cases hlt : i < n
  ·
   have hi0 : (0 : Int) ≤ (i : Int) := Int.natCast_nonneg _
   have hi2 : (i : Int) < (n : Int) := by omega
   have hil : i < l.length := by rw [← HN.out]; exact hlt
   obtain ⟨d, hd⟩ : ∃ d, l.getD i co0 = d := ⟨_, rfl⟩
   obtain ⟨b, off, p1, c1, p2, c2, rfl, hb, ⟨e0, e1, e2, e3, e4, e5, e6, e7, e8, e9, e10, e11⟩, hv⟩ := CoSN.elem (CoSN.below HP.out HB.out) hil hd
   have HDD := hid hd
   have HV := hid hv
   clear hd hv hb
   go_wp2_with fail
   refine (rpass_go d _ wr HV.out).mono ?_
   rintro e w2 ⟨rfl, hb⟩
   have HB2 := hid (HB.out.trans (hb.mono HB.out.size))
   obtain ⟨y, hy⟩ : ∃ y, y = passC d := ⟨_, rfl⟩
   rw [← hy]
   have HY := hid hy
   clear hb hy e0 e1 e2 e3 e4 e5 e6 e7 e8 e9 e10 e11
   cases y with
   | false =>
    have e : z = false := by rw [HZ.out]; exact all_noC (p := passC) hil (by rw [HDD.out]; exact HY.out.symm)
    subst e
    go_wp2
    refine bodyPost_ret (v := .bool false) ?_ ?_ ?_
    ·
     simp [results, Tryd.results61, go_sem]
    ·
     rfl
    ·
     exact ⟨rfl, HB2.out⟩
   | true =>
    go_wp2
    refine ⟨⟨i + 1, hlt, by go_num, HB2, hid fun j hj => ?_⟩, by simp [intOf]; omega⟩
    by_cases e : j = i
    ·
     rw [e, HDD.out]; exact HY.out.symm
    ·
     exact HQ.out j (by omega)
  ·
   have hin : i = n := by omega
   have e : z = true := by rw [HZ.out]; exact all_getC (p := passC) (l := l) fun j hj => HQ.out j (by rw [hin, HN.out]; exact hj)
   subst e
   go_wp2
   refine bodyPost_ret (v := .bool true) ?_ ?_ ?_
   ·
    simp [results, Tryd.results61, go_sem]
   ·
    rfl
   ·
    exact ⟨rfl, HB.out⟩
end Go.Proofs.YtlalnkabfigodaaDoor
