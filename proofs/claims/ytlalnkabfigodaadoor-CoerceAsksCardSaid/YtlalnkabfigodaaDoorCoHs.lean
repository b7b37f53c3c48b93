import Derived.Test.YtlalnkabfigodaaDoorCoPa
namespace Go.Proofs.YtlalnkabfigodaaDoor
open Go.Lib (hid)
open Go.RowKit

def sumC (a : Nat) (l : List Co) : Nat := l.foldl (fun m x => m + szC x) a
def maxC (a : Nat) (l : List Co) : Nat := l.foldl (fun m x => max m (htC x)) a
theorem sumC_snoc (a : Nat) (l : List Co) (k : Nat) (h : k < l.length) : sumC a (l.take (k + 1)) = sumC a (l.take k) + szC (l.getD k co0) := by
 unfold sumC
 rw [List.take_succ_eq_append_getElem h, List.foldl_append]
 simp [List.getD_eq_getElem?_getD, h]
theorem maxC_snoc (a : Nat) (l : List Co) (k : Nat) (h : k < l.length) : maxC a (l.take (k + 1)) = max (maxC a (l.take k)) (htC (l.getD k co0)) := by
 unfold maxC
 rw [List.take_succ_eq_append_getElem h, List.foldl_append]
 simp [List.getD_eq_getElem?_getD, h]
theorem sumC_eq : ∀ (l : List Co) (a : Nat), sumC a l = a + szCs l
 | [], a => rfl
 | d :: r, a => by show sumC (a + szC d) r = _; rw [sumC_eq r, szCs]; omega
theorem maxC_eq : ∀ (l : List Co) (a : Nat), maxC a l = max a (htCs l)
 | [], a => by show a = max a 0; exact (Nat.max_eq_left (Nat.zero_le a)).symm
 | d :: r, a => by show maxC (max a (htC d)) r = _; rw [maxC_eq r, htCs]; omega
theorem szC_split (p f : List Co) : 1 + szCs p + szCs f = sumC (sumC 1 p) f := by rw [sumC_eq, sumC_eq]
theorem htC_split (p f : List Co) : max (htCs p) (htCs f) + 1 = maxC (maxC 0 p) f + 1 := by rw [maxC_eq, maxC_eq]; omega
theorem szCs_take : ∀ (l : List Co) (k : Nat), szCs (l.take k) ≤ szCs l
 | [], k => by simp
 | d :: r, 0 => by simp [szCs]
 | d :: r, k + 1 => by have := szCs_take r k; simp only [List.take_succ_cons, szCs]; omega
theorem htCs_take (l : List Co) (k : Nat) : htCs (l.take k) ≤ htCs l := htCs_le fun _ hx => htCs_mem (List.mem_of_mem_take hx)
theorem sum_bound1 {c : Co} {s k : Nat} (hs : s ≤ 1) (h : szC c ≤ 50000) : sumC s (c.pairs.take k) ≤ 100000 := by
 rw [sumC_eq]; have := szCs_take c.pairs k; rw [szC_eq] at h; omega
theorem sum_bound2 {c : Co} {a k : Nat} (ha : sumC 1 c.pairs = a) (h : szC c ≤ 50000) : sumC a (c.funs.take k) ≤ 100000 := by
 rw [sumC_eq]; have := szCs_take c.funs k; rw [sumC_eq] at ha; rw [szC_eq] at h; omega
theorem max_bound1 {c : Co} {s k : Nat} (hs : s ≤ 1) (h : szC c ≤ 50000) : maxC s (c.pairs.take k) ≤ 100000 := by
 rw [maxC_eq]; have := htCs_take c.pairs k; have h2 := htC_size c; rw [htC_eq] at h2; omega
theorem max_bound2 {c : Co} {a k : Nat} (ha : maxC 0 c.pairs = a) (h : szC c ≤ 50000) : maxC a (c.funs.take k) ≤ 100000 := by
 rw [maxC_eq]; have := htCs_take c.funs k; have h2 := htC_size c; rw [maxC_eq] at ha; rw [htC_eq] at h2; omega
theorem first_at (c : Co) {tag : Int} {i : Nat} (hi : i < 6) (h : tag = ((2 ^ i : Nat) : Int)) : firstC c tag = c.h.flat.getD i 0 := by
 subst h
 obtain rfl | rfl | rfl | rfl | rfl | rfl : i = 0 ∨ i = 1 ∨ i = 2 ∨ i = 3 ∨ i = 4 ∨ i = 5 := by omega
 all_goals rfl
theorem first_no (c : Co) {tag : Int} (h : ∀ j, j < 6 → tag ≠ ((2 ^ j : Nat) : Int)) : firstC c tag = if tag = 64 ∧ c.h.pair = 1 then c.h.pl else if tag = 128 ∧ c.h.fn = 1 then c.h.fl else 0 := by
 have h0 : tag ≠ 1 := h 0 (by omega)
 have h1 : tag ≠ 2 := h 1 (by omega)
 have h2 : tag ≠ 4 := h 2 (by omega)
 have h3 : tag ≠ 8 := h 3 (by omega)
 have h4 : tag ≠ 16 := h 4 (by omega)
 have h5 : tag ≠ 32 := h 5 (by omega)
 unfold firstC
 rw [if_neg h0, if_neg h1, if_neg h2, if_neg h3, if_neg h4, if_neg h5]

set_option maxRecDepth 100000 in
set_option maxHeartbeats 16000000 in
theorem rsize_go (n : Nat) : ∀ (c : Co) (v : Value) (w : World), szC c ≤ n ∧ n ≤ 50000 → CoV w v c → Calls Tryd.prog 19 #[v] w fun e w' => e = .returned (.int .i64 (szC c : Nat)) ∧ Below w.heap.size w w' := by
 induction n with
 | zero => intro c v w h; have := szC_pos c; omega
 | succ n ih =>
  intro c v w hn hv
  have IH := hid ih
  have HN := hid hn
  have HS := hid (show szC c ≤ 50000 by omega)
  clear ih hn
  obtain ⟨pa, pc, fa, fc, rfl, hp, hf⟩ := hv.form
  obtain ⟨np, hnp⟩ : ∃ n, n = c.pairs.length := ⟨_, rfl⟩
  obtain ⟨nf, hnf⟩ : ∃ n, n = c.funs.length := ⟨_, rfl⟩
  rw [← hnp] at hp ⊢
  rw [← hnf] at hf ⊢
  have bp : (np : Int) ≤ 9223372036854775807 := by have := hp.len; rw [← hnp] at this; unfold maxLen at this; omega
  have bf : (nf : Int) ≤ 9223372036854775807 := by have := hf.len; rw [← hnf] at this; unfold maxLen at this; omega
  obtain ⟨W, hW⟩ : ∃ W, W = w.alloc (.cells #[.int .i64 c.h.f0, .int .i64 c.h.f1, .int .i64 c.h.f2, .int .i64 c.h.f3, .int .i64 c.h.f4, .int .i64 c.h.f5, .int .i64 c.h.pair, .int .i64 c.h.pl, .slice pa np pc, .int .i64 c.h.fn, .int .i64 c.h.fl, .slice fa nf fc] 30) := ⟨_, rfl⟩
  have HX := hid (show CBox W w.heap.size 30 ⟨c.h, .slice pa np pc, .slice fa nf fc⟩ by rw [hW]; exact CBox.made _ _ ⟨c.h, .slice pa np pc, .slice fa nf fc⟩)
  have HL := hid (show Below w.heap.size w W by rw [hW]; exact (Below.refl _ _).alloc (Nat.le_refl _) _)
  have HP := hid (CoSN.below hp HL.out)
  have HF := hid (CoSN.below hf HL.out)
  have HPN := hid hnp
  have HFN := hid hnf
  have HW := hid hW
  clear hp hf hnp hnf hW hv
  have x8 : W.cell? ⟨w.heap.size, 8, none⟩ = some (.slice pa np pc) := HX.out.c8
  have x11 : W.cell? ⟨w.heap.size, 11, none⟩ = some (.slice fa nf fc) := HX.out.c11
  go_enter Tryd.func19, Tryd.ntmps19
  go_wp2
  rw [← HW.out]
  clear HW
  go_loopw [3, 4] (fun s i wr => ∃ k a : Nat, k ≤ np ∧ i = .int .i64 k ∧ a ≤ 100000 ∧ s = .int .i64 a ∧ Hid (sumC 1 (c.pairs.take k) = a) ∧ Hid (Below W.heap.size W wr)) (fun _ i _ => np - (intOf i).toNat)
  case atStart => exact ⟨0, 1, Nat.zero_le _, rfl, by omega, rfl, hid rfl, hid (Below.refl _ _)⟩
  case round =>
   clear x8 x11
   obtain ⟨k, a, hk, rfl, ha, rfl, HA, HB⟩ := hrel
   have x8 : wr.cell? ⟨w.heap.size, 8, none⟩ = some (.slice pa np pc) := (HX.out.keep HB.out).c8
   have x11 : wr.cell? ⟨w.heap.size, 11, none⟩ = some (.slice fa nf fc) := (HX.out.keep HB.out).c11
   have a0 : (0 : Int) ≤ a := Int.natCast_nonneg _
   have a9 : (a : Int) ≤ 100000 := by omega
   by_cases hgo : k < np
   ·
    have hkl : k < c.pairs.length := by rw [← HPN.out]; exact hgo
    obtain ⟨d, hd⟩ : ∃ d, c.pairs.getD k co0 = d := ⟨_, rfl⟩
    obtain ⟨b, off, p1, c1, p2, c2, rfl, hb, ⟨e0, e1, e2, e3, e4, e5, e6, e7, e8, e9, e10, e11⟩, hv⟩ := CoSN.elem (CoSN.below HP.out HB.out) hkl hd
    have hsn := sumC_snoc 1 c.pairs k hkl
    rw [HA.out, hd] at hsn
    have hsd : szC d < szC c := by rw [← hd]; exact szC_pair c k hkl
    have hle : szC d ≤ 50000 := by have := HS.out; omega
    have hbd : a + szC d ≤ 100000 := by rw [← hsn]; exact sum_bound1 (by omega) HS.out 
    have C := IH.out d _ wr (by have := HN.out; omega) hv
    obtain ⟨z, hz⟩ : ∃ z, z = szC d := ⟨_, rfl⟩
    rw [← hz] at C hsn hle hbd
    have HC := hid C
    have HSN := hid hsn
    have hle2 : (z : Int) ≤ 50000 := by omega
    have z0 : (0 : Int) ≤ z := Int.natCast_nonneg _
    have hlt : (k : Int) < np := by omega
    have HKL := hid hgo
    have HBD := hid hbd
    clear hd hv hsn C hz hgo ha hk hkl hle HA hb hsd hbd
    go_wp2_with fail
    refine HC.out.mono ?_
    rintro e w2 ⟨rfl, hbw⟩
    have HB2 := hid (HB.out.trans (hbw.mono HB.out.size))
    clear hbw
    go_wp2
    exact ⟨⟨k + 1, a + z, by have := HKL.out; omega, by go_num, HBD.out, by go_num, HSN, HB2⟩, by have := HKL.out; simp [intOf]; omega⟩
   ·
    have hend : sumC 1 c.pairs = a := by
     have := HA.out
     rwa [List.take_of_length_le (by rw [← HPN.out]; omega)] at this
    have HE := hid hend
    have HAA := hid ha
    have hlt1 : ¬ (k : Int) < np := by omega
    clear hend HA hgo ha hk
    obtain ⟨W1, rfl⟩ : ∃ x, x = wr := ⟨_, rfl⟩
    obtain ⟨a1, rfl⟩ : ∃ x, x = a := ⟨_, rfl⟩
    have HE1 := HE
    have HA1 := HAA
    have hB := HB.out
    replace HX := hid (HX.out.keep hB)
    replace HP := hid (CoSN.below HP.out hB)
    replace HF := hid (CoSN.below HF.out hB)
    replace HL := hid (HL.out.trans (hB.mono HL.out.size))
    clear HB HE hB HAA
    go_wp2
    go_loopw [3, 5] (fun s i wr => ∃ k a : Nat, k ≤ nf ∧ i = .int .i64 k ∧ a ≤ 100000 ∧ s = .int .i64 a ∧ Hid (sumC a1 (c.funs.take k) = a) ∧ Hid (Below W1.heap.size W1 wr)) (fun _ i _ => nf - (intOf i).toNat)
    case atStart => exact ⟨0, a1, Nat.zero_le _, rfl, HA1.out, rfl, hid rfl, hid (Below.refl _ _)⟩
    case round =>
     clear x8 x11
     obtain ⟨k, a, hk, rfl, ha, rfl, HA, HB⟩ := hrel
     have x8 : wr.cell? ⟨w.heap.size, 8, none⟩ = some (.slice pa np pc) := (HX.out.keep HB.out).c8
     have x11 : wr.cell? ⟨w.heap.size, 11, none⟩ = some (.slice fa nf fc) := (HX.out.keep HB.out).c11
     have a0 : (0 : Int) ≤ a := Int.natCast_nonneg _
     have a9 : (a : Int) ≤ 100000 := by omega
     by_cases hgo : k < nf
     ·
      have hkl : k < c.funs.length := by rw [← HFN.out]; exact hgo
      obtain ⟨d, hd⟩ : ∃ d, c.funs.getD k co0 = d := ⟨_, rfl⟩
      obtain ⟨b, off, p1, c1, p2, c2, rfl, hb, ⟨e0, e1, e2, e3, e4, e5, e6, e7, e8, e9, e10, e11⟩, hv⟩ := CoSN.elem (CoSN.below HF.out HB.out) hkl hd
      have hsn := sumC_snoc a1 c.funs k hkl
      rw [HA.out, hd] at hsn
      have hsd : szC d < szC c := by rw [← hd]; exact szC_fun c k hkl
      have hle : szC d ≤ 50000 := by have := HS.out; omega
      have hbd : a + szC d ≤ 100000 := by rw [← hsn]; exact sum_bound2 HE1.out HS.out 
      have C := IH.out d _ wr (by have := HN.out; omega) hv
      obtain ⟨z, hz⟩ : ∃ z, z = szC d := ⟨_, rfl⟩
      rw [← hz] at C hsn hle hbd
      have HC := hid C
      have HSN := hid hsn
      have hle2 : (z : Int) ≤ 50000 := by omega
      have z0 : (0 : Int) ≤ z := Int.natCast_nonneg _
      have hlt : (k : Int) < nf := by omega
      have HKL := hid hgo
      have HBD := hid hbd
      clear hd hv hsn C hz hgo ha hk hkl hle HA hb hsd hbd
      go_wp2_with fail
      refine HC.out.mono ?_
      rintro e w2 ⟨rfl, hbw⟩
      have HB2 := hid (HB.out.trans (hbw.mono HB.out.size))
      clear hbw
      go_wp2
      exact ⟨⟨k + 1, a + z, by have := HKL.out; omega, by go_num, HBD.out, by go_num, HSN, HB2⟩, by have := HKL.out; simp [intOf]; omega⟩
     ·
      have hend : sumC a1 c.funs = a := by
       have := HA.out
       rwa [List.take_of_length_le (by rw [← HFN.out]; omega)] at this
      have HE := hid hend
      have HAA := hid ha
      have hlt1 : ¬ (k : Int) < nf := by omega
      clear hend HA hgo ha hk
      go_wp2
      refine bodyPost_ret (v := .int .i64 ((a : Int))) ?_ ?_ ?_
      ·
       simp [results, Tryd.results19, go_sem]
      ·
       rfl
      ·
       exact ⟨reti7 (by rw [szC_eq, szC_split, HE1.out, HE.out]), HL.out.trans (HB.out.mono HL.out.size)⟩

set_option maxRecDepth 100000 in
set_option maxHeartbeats 16000000 in
theorem rheight_go (n : Nat) : ∀ (c : Co) (v : Value) (w : World), szC c ≤ n ∧ n ≤ 50000 → CoV w v c → Calls Tryd.prog 17 #[v] w fun e w' => e = .returned (.int .i64 (htC c : Nat)) ∧ Below w.heap.size w w' := by
 induction n with
 | zero => intro c v w h; have := szC_pos c; omega
 | succ n ih =>
  intro c v w hn hv
  have IH := hid ih
  have HN := hid hn
  have HS := hid (show szC c ≤ 50000 by omega)
  clear ih hn
  obtain ⟨pa, pc, fa, fc, rfl, hp, hf⟩ := hv.form
  obtain ⟨np, hnp⟩ : ∃ n, n = c.pairs.length := ⟨_, rfl⟩
  obtain ⟨nf, hnf⟩ : ∃ n, n = c.funs.length := ⟨_, rfl⟩
  rw [← hnp] at hp ⊢
  rw [← hnf] at hf ⊢
  have bp : (np : Int) ≤ 9223372036854775807 := by have := hp.len; rw [← hnp] at this; unfold maxLen at this; omega
  have bf : (nf : Int) ≤ 9223372036854775807 := by have := hf.len; rw [← hnf] at this; unfold maxLen at this; omega
  obtain ⟨W, hW⟩ : ∃ W, W = w.alloc (.cells #[.int .i64 c.h.f0, .int .i64 c.h.f1, .int .i64 c.h.f2, .int .i64 c.h.f3, .int .i64 c.h.f4, .int .i64 c.h.f5, .int .i64 c.h.pair, .int .i64 c.h.pl, .slice pa np pc, .int .i64 c.h.fn, .int .i64 c.h.fl, .slice fa nf fc] 30) := ⟨_, rfl⟩
  have HX := hid (show CBox W w.heap.size 30 ⟨c.h, .slice pa np pc, .slice fa nf fc⟩ by rw [hW]; exact CBox.made _ _ ⟨c.h, .slice pa np pc, .slice fa nf fc⟩)
  have HL := hid (show Below w.heap.size w W by rw [hW]; exact (Below.refl _ _).alloc (Nat.le_refl _) _)
  have HP := hid (CoSN.below hp HL.out)
  have HF := hid (CoSN.below hf HL.out)
  have HPN := hid hnp
  have HFN := hid hnf
  have HW := hid hW
  clear hp hf hnp hnf hW hv
  have x8 : W.cell? ⟨w.heap.size, 8, none⟩ = some (.slice pa np pc) := HX.out.c8
  have x11 : W.cell? ⟨w.heap.size, 11, none⟩ = some (.slice fa nf fc) := HX.out.c11
  go_enter Tryd.func17, Tryd.ntmps17
  go_wp2
  rw [← HW.out]
  clear HW
  go_loopw [3, 4] (fun s i wr => ∃ k a : Nat, k ≤ np ∧ i = .int .i64 k ∧ a ≤ 100000 ∧ s = .int .i64 a ∧ Hid (maxC 0 (c.pairs.take k) = a) ∧ Hid (Below W.heap.size W wr)) (fun _ i _ => np - (intOf i).toNat)
  case atStart => exact ⟨0, 0, Nat.zero_le _, rfl, by omega, rfl, hid rfl, hid (Below.refl _ _)⟩
  case round =>
   clear x8 x11
   obtain ⟨k, a, hk, rfl, ha, rfl, HA, HB⟩ := hrel
   have x8 : wr.cell? ⟨w.heap.size, 8, none⟩ = some (.slice pa np pc) := (HX.out.keep HB.out).c8
   have x11 : wr.cell? ⟨w.heap.size, 11, none⟩ = some (.slice fa nf fc) := (HX.out.keep HB.out).c11
   have a0 : (0 : Int) ≤ a := Int.natCast_nonneg _
   have a9 : (a : Int) ≤ 100000 := by omega
   by_cases hgo : k < np
   ·
    have hkl : k < c.pairs.length := by rw [← HPN.out]; exact hgo
    obtain ⟨d, hd⟩ : ∃ d, c.pairs.getD k co0 = d := ⟨_, rfl⟩
    obtain ⟨b, off, p1, c1, p2, c2, rfl, hb, ⟨e0, e1, e2, e3, e4, e5, e6, e7, e8, e9, e10, e11⟩, hv⟩ := CoSN.elem (CoSN.below HP.out HB.out) hkl hd
    have hsn := maxC_snoc 0 c.pairs k hkl
    rw [HA.out, hd] at hsn
    have hsd : szC d < szC c := by rw [← hd]; exact szC_pair c k hkl
    have hle : htC d ≤ 50000 := Nat.le_trans (htC_size d) (by have := HS.out; omega)
    have hbd : max a (htC d) ≤ 100000 := by rw [← hsn]; exact max_bound1 (by omega) HS.out 
    have C := IH.out d _ wr (by have := HN.out; omega) hv
    obtain ⟨z, hz⟩ : ∃ z, z = htC d := ⟨_, rfl⟩
    rw [← hz] at C hsn hle hbd
    have HC := hid C
    have HSN := hid hsn
    have hle2 : (z : Int) ≤ 50000 := by omega
    have z0 : (0 : Int) ≤ z := Int.natCast_nonneg _
    have hlt : (k : Int) < np := by omega
    have HKL := hid hgo
    have HBD := hid hbd
    clear hd hv hsn C hz hgo ha hk hkl hle HA hb hsd hbd
    go_wp2_with fail
    refine HC.out.mono ?_
    rintro e w2 ⟨rfl, hbw⟩
    have HB2 := hid (HB.out.trans (hbw.mono HB.out.size))
    clear hbw
    go_wp2
    all_goals (refine ⟨⟨k + 1, max a z, by have := HKL.out; omega, by go_num, HBD.out, ?_, HSN, HB2⟩, by have := HKL.out; simp [intOf]; omega⟩ <;> first | rfl | (congr 1; omega) | (simp; omega))
   ·
    have hend : maxC 0 c.pairs = a := by
     have := HA.out
     rwa [List.take_of_length_le (by rw [← HPN.out]; omega)] at this
    have HE := hid hend
    have HAA := hid ha
    have hlt1 : ¬ (k : Int) < np := by omega
    clear hend HA hgo ha hk
    obtain ⟨W1, rfl⟩ : ∃ x, x = wr := ⟨_, rfl⟩
    obtain ⟨a1, rfl⟩ : ∃ x, x = a := ⟨_, rfl⟩
    have HE1 := HE
    have HA1 := HAA
    have hB := HB.out
    replace HX := hid (HX.out.keep hB)
    replace HP := hid (CoSN.below HP.out hB)
    replace HF := hid (CoSN.below HF.out hB)
    replace HL := hid (HL.out.trans (hB.mono HL.out.size))
    clear HB HE hB HAA
    go_wp2
    go_loopw [3, 5] (fun s i wr => ∃ k a : Nat, k ≤ nf ∧ i = .int .i64 k ∧ a ≤ 100000 ∧ s = .int .i64 a ∧ Hid (maxC a1 (c.funs.take k) = a) ∧ Hid (Below W1.heap.size W1 wr)) (fun _ i _ => nf - (intOf i).toNat)
    case atStart => exact ⟨0, a1, Nat.zero_le _, rfl, HA1.out, rfl, hid rfl, hid (Below.refl _ _)⟩
    case round =>
     clear x8 x11
     obtain ⟨k, a, hk, rfl, ha, rfl, HA, HB⟩ := hrel
     have x8 : wr.cell? ⟨w.heap.size, 8, none⟩ = some (.slice pa np pc) := (HX.out.keep HB.out).c8
     have x11 : wr.cell? ⟨w.heap.size, 11, none⟩ = some (.slice fa nf fc) := (HX.out.keep HB.out).c11
     have a0 : (0 : Int) ≤ a := Int.natCast_nonneg _
     have a9 : (a : Int) ≤ 100000 := by omega
     by_cases hgo : k < nf
     ·
      have hkl : k < c.funs.length := by rw [← HFN.out]; exact hgo
      obtain ⟨d, hd⟩ : ∃ d, c.funs.getD k co0 = d := ⟨_, rfl⟩
      obtain ⟨b, off, p1, c1, p2, c2, rfl, hb, ⟨e0, e1, e2, e3, e4, e5, e6, e7, e8, e9, e10, e11⟩, hv⟩ := CoSN.elem (CoSN.below HF.out HB.out) hkl hd
      have hsn := maxC_snoc a1 c.funs k hkl
      rw [HA.out, hd] at hsn
      have hsd : szC d < szC c := by rw [← hd]; exact szC_fun c k hkl
      have hle : htC d ≤ 50000 := Nat.le_trans (htC_size d) (by have := HS.out; omega)
      have hbd : max a (htC d) ≤ 100000 := by rw [← hsn]; exact max_bound2 HE1.out HS.out 
      have C := IH.out d _ wr (by have := HN.out; omega) hv
      obtain ⟨z, hz⟩ : ∃ z, z = htC d := ⟨_, rfl⟩
      rw [← hz] at C hsn hle hbd
      have HC := hid C
      have HSN := hid hsn
      have hle2 : (z : Int) ≤ 50000 := by omega
      have z0 : (0 : Int) ≤ z := Int.natCast_nonneg _
      have hlt : (k : Int) < nf := by omega
      have HKL := hid hgo
      have HBD := hid hbd
      clear hd hv hsn C hz hgo ha hk hkl hle HA hb hsd hbd
      go_wp2_with fail
      refine HC.out.mono ?_
      rintro e w2 ⟨rfl, hbw⟩
      have HB2 := hid (HB.out.trans (hbw.mono HB.out.size))
      clear hbw
      go_wp2
      all_goals (refine ⟨⟨k + 1, max a z, by have := HKL.out; omega, by go_num, HBD.out, ?_, HSN, HB2⟩, by have := HKL.out; simp [intOf]; omega⟩ <;> first | rfl | (congr 1; omega) | (simp; omega))
     ·
      have hend : maxC a1 c.funs = a := by
       have := HA.out
       rwa [List.take_of_length_le (by rw [← HFN.out]; omega)] at this
      have HE := hid hend
      have HAA := hid ha
      have hlt1 : ¬ (k : Int) < nf := by omega
      clear hend HA hgo ha hk
      go_wp2
      refine bodyPost_ret (v := .int .i64 ((a : Int) + 1)) ?_ ?_ ?_
      ·
       simp [results, Tryd.results17, go_sem]
      ·
       rfl
      ·
       exact ⟨reti7 (by rw [htC_eq, htC_split, HE1.out, HE.out]; omega), HL.out.trans (HB.out.mono HL.out.size)⟩

set_option maxRecDepth 100000 in
set_option maxHeartbeats 4000000 in
theorem rwraps_go (c : Co) (tag : Int) (v : Value) (w : World) (hv : CoV w v c) : Calls Tryd.prog 28 #[v, .int .i64 tag] w fun e w' => e = .returned (.bool (wrapsC c tag)) ∧ Below w.heap.size w w' := by
 obtain ⟨pa, pc, fa, fc, rfl, hp, hf⟩ := hv.form
 obtain ⟨np, hnp⟩ : ∃ n, n = c.pairs.length := ⟨_, rfl⟩
 obtain ⟨nf, hnf⟩ : ∃ n, n = c.funs.length := ⟨_, rfl⟩
 rw [← hnp] at hp ⊢
 rw [← hnf] at hf ⊢
 have bp : (np : Int) ≤ 9223372036854775807 := by have := hp.len; rw [← hnp] at this; unfold maxLen at this; omega
 have bf : (nf : Int) ≤ 9223372036854775807 := by have := hf.len; rw [← hnf] at this; unfold maxLen at this; omega
 obtain ⟨W, hW⟩ : ∃ W, W = w.alloc (.cells #[.int .i64 c.h.f0, .int .i64 c.h.f1, .int .i64 c.h.f2, .int .i64 c.h.f3, .int .i64 c.h.f4, .int .i64 c.h.f5, .int .i64 c.h.pair, .int .i64 c.h.pl, .slice pa np pc, .int .i64 c.h.fn, .int .i64 c.h.fl, .slice fa nf fc] 30) := ⟨_, rfl⟩
 have HX := hid (show CBox W w.heap.size 30 ⟨c.h, .slice pa np pc, .slice fa nf fc⟩ by rw [hW]; exact CBox.made _ _ ⟨c.h, .slice pa np pc, .slice fa nf fc⟩)
 have HL := hid (show Below w.heap.size w W by rw [hW]; exact (Below.refl _ _).alloc (Nat.le_refl _) _)
 have HP := hid (CoSN.below hp HL.out)
 have HF := hid (CoSN.below hf HL.out)
 have HPN := hid hnp
 have HFN := hid hnf
 have HW := hid hW
 clear hp hf hnp hnf hW hv
 have x6 : W.cell? ⟨w.heap.size, 6, none⟩ = some (.int .i64 c.h.pair) := HX.out.c6
 have x9 : W.cell? ⟨w.heap.size, 9, none⟩ = some (.int .i64 c.h.fn) := HX.out.c9
 obtain ⟨z, hz⟩ : ∃ z, z = wrapsC c tag := ⟨_, rfl⟩
 rw [← hz]
 have HR : Hid (z = (decide (tag = 64 ∧ 2 ≤ c.h.pair) || decide (tag = 128 ∧ 2 ≤ c.h.fn))) := hid hz
 clear hz
 go_enter Tryd.func28, Tryd.ntmps28
 go_upto_region 1 with fail
 rw [← HW.out]
 clear HW
 by_cases h1 : tag = 64
 ·
  subst h1
  by_cases h2 : 2 ≤ c.h.pair
  ·
   have b2 : decide (2 ≤ c.h.pair) = true := decide_eq_true h2
   have e : z = true := by rw [HR.out, decide_eq_true (p := (64 : Int) = 64 ∧ 2 ≤ c.h.pair) ⟨rfl, h2⟩]; rfl
   subst e
   go_wp2
   refine bodyPost_ret (v := .bool true) ?_ ?_ ?_
   ·
    simp [results, Tryd.results28, go_sem]
   ·
    rfl
   ·
    exact ⟨rfl, HL.out⟩
  ·
   have b2 : decide (2 ≤ c.h.pair) = false := decide_eq_false h2
   have e : z = false := by rw [HR.out, decide_eq_false (p := (64 : Int) = 64 ∧ 2 ≤ c.h.pair) (fun h => h2 h.2), decide_eq_false (p := (64 : Int) = 128 ∧ 2 ≤ c.h.fn) (fun h => by omega)]; rfl
   subst e
   go_wp2
   refine bodyPost_ret (v := .bool false) ?_ ?_ ?_
   ·
    simp [results, Tryd.results28, go_sem]
   ·
    rfl
   ·
    exact ⟨rfl, HL.out⟩
 ·
  by_cases h3 : tag = 128
  ·
   subst h3
   by_cases h2 : 2 ≤ c.h.fn
   ·
    have b2 : decide (2 ≤ c.h.fn) = true := decide_eq_true h2
    have e : z = true := by rw [HR.out, decide_eq_true (p := (128 : Int) = 128 ∧ 2 ≤ c.h.fn) ⟨rfl, h2⟩, Bool.or_true]
    subst e
    go_wp2
    refine bodyPost_ret (v := .bool true) ?_ ?_ ?_
    ·
     simp [results, Tryd.results28, go_sem]
    ·
     rfl
    ·
     exact ⟨rfl, HL.out⟩
   ·
    have b2 : decide (2 ≤ c.h.fn) = false := decide_eq_false h2
    have e : z = false := by rw [HR.out, decide_eq_false (p := (128 : Int) = 64 ∧ 2 ≤ c.h.pair) (fun h => by omega), decide_eq_false (p := (128 : Int) = 128 ∧ 2 ≤ c.h.fn) (fun h => h2 h.2)]; rfl
    subst e
    go_wp2
    refine bodyPost_ret (v := .bool false) ?_ ?_ ?_
    ·
     simp [results, Tryd.results28, go_sem]
    ·
     rfl
    ·
     exact ⟨rfl, HL.out⟩
  ·
   have e : z = false := by rw [HR.out, decide_eq_false (p := tag = 64 ∧ 2 ≤ c.h.pair) (fun h => h1 h.1), decide_eq_false (p := tag = 128 ∧ 2 ≤ c.h.fn) (fun h => h3 h.1)]; rfl
   subst e
   go_wp2
   refine bodyPost_ret (v := .bool false) ?_ ?_ ?_
   ·
    simp [results, Tryd.results28, go_sem]
   ·
    rfl
   ·
    exact ⟨rfl, HL.out⟩

set_option maxRecDepth 100000 in
theorem reither_go (a b : Int) (w : World) : Calls Tryd.prog 64 #[.int .i64 a, .int .i64 b] w fun e w' => e = .returned (.int .i64 (eithC a b)) ∧ w' = w := by
 have HR : Hid (eithC a b = if a ≠ 0 then a else b) := hid rfl
 go_enter Tryd.func64, Tryd.ntmps64
 by_cases h : a = 0
 ·
  have b1 : (a != 0) = false := by simp [h]
  subst h
  go_wp2
  refine bodyPost_ret (v := .int .i64 b) ?_ ?_ ?_
  ·
   simp [results, Tryd.results64, go_sem]
  ·
   rfl
  ·
   exact ⟨reti7 (by rw [HR.out, if_neg (by simp)]), rfl⟩
 ·
  have b1 : (a != 0) = true := bne_iff_ne.2 h
  go_wp2
  refine bodyPost_ret (v := .int .i64 a) ?_ ?_ ?_
  ·
   simp [results, Tryd.results64, go_sem]
  ·
   rfl
  ·
   exact ⟨reti7 (by rw [HR.out, if_pos h]), rfl⟩

set_option maxRecDepth 100000 in
set_option maxHeartbeats 8000000 in
theorem rfirst_go (c : Co) (tag : Int) (v : Value) (w : World) (hv : CoV w v c) : Calls Tryd.prog 26 #[v, .int .i64 tag] w fun e w' => e = .returned (.int .i64 (firstC c tag)) ∧ Below w.heap.size w w' := by
 obtain ⟨pa, pc, fa, fc, rfl, hp, hf⟩ := hv.form
 obtain ⟨np, hnp⟩ : ∃ n, n = c.pairs.length := ⟨_, rfl⟩
 obtain ⟨nf, hnf⟩ : ∃ n, n = c.funs.length := ⟨_, rfl⟩
 rw [← hnp] at hp ⊢
 rw [← hnf] at hf ⊢
 have bp : (np : Int) ≤ 9223372036854775807 := by have := hp.len; rw [← hnp] at this; unfold maxLen at this; omega
 have bf : (nf : Int) ≤ 9223372036854775807 := by have := hf.len; rw [← hnf] at this; unfold maxLen at this; omega
 obtain ⟨W, hW⟩ : ∃ W, W = w.alloc (.cells #[.int .i64 c.h.f0, .int .i64 c.h.f1, .int .i64 c.h.f2, .int .i64 c.h.f3, .int .i64 c.h.f4, .int .i64 c.h.f5, .int .i64 c.h.pair, .int .i64 c.h.pl, .slice pa np pc, .int .i64 c.h.fn, .int .i64 c.h.fl, .slice fa nf fc] 30) := ⟨_, rfl⟩
 have HX := hid (show CBox W w.heap.size 30 ⟨c.h, .slice pa np pc, .slice fa nf fc⟩ by rw [hW]; exact CBox.made _ _ ⟨c.h, .slice pa np pc, .slice fa nf fc⟩)
 have HL := hid (show Below w.heap.size w W by rw [hW]; exact (Below.refl _ _).alloc (Nat.le_refl _) _)
 have HP := hid (CoSN.below hp HL.out)
 have HF := hid (CoSN.below hf HL.out)
 have HPN := hid hnp
 have HFN := hid hnf
 have HW := hid hW
 clear hp hf hnp hnf hW hv
 obtain ⟨z, hz⟩ : ∃ z, z = firstC c tag := ⟨_, rfl⟩
 rw [← hz]
 have HZ := hid hz
 clear hz
 have x6 : W.cell? ⟨w.heap.size, 6, none⟩ = some (.int .i64 c.h.pair) := HX.out.c6
 have x7 : W.cell? ⟨w.heap.size, 7, none⟩ = some (.int .i64 c.h.pl) := HX.out.c7
 have x9 : W.cell? ⟨w.heap.size, 9, none⟩ = some (.int .i64 c.h.fn) := HX.out.c9
 have x10 : W.cell? ⟨w.heap.size, 10, none⟩ = some (.int .i64 c.h.fl) := HX.out.c10
 go_enter Tryd.func26, Tryd.ntmps26
 go_wp2
 rw [← HW.out]
 clear HW
 go_loopw [5, 6] (fun bv iv wr => ∃ i : Nat, i ≤ 6 ∧ iv = .int .i64 i ∧ bv = .int .i64 ((2 ^ i : Nat) : Int) ∧ W = wr ∧ Hid (∀ j, j < i → tag ≠ ((2 ^ j : Nat) : Int))) (fun _ iv _ => 6 - (intOf iv).toNat)
 case atStart => exact ⟨0, Nat.zero_le _, rfl, rfl, rfl, hid fun j h => absurd h (Nat.not_lt_zero _)⟩
 case round =>
  obtain ⟨i, hi1, rfl, rfl, rfl, HQ⟩ := hrel
  by_cases hlt : i < 6
  ·
   have hi0 : (0 : Int) ≤ (i : Int) := Int.natCast_nonneg _
   have hi2 : (i : Int) < 6 := by omega
   have xi := HX.out.flat hlt
   obtain ⟨pw, hpw⟩ : ∃ pw, pw = 2 ^ i := ⟨_, rfl⟩
   have hp6 : pw ≤ 32 := by rw [hpw]; exact Nat.pow_le_pow_right (by decide : 0 < 2) (show i ≤ 5 by omega)
   rw [← hpw]
   have HPW := hid hpw
   clear hpw
   have p0 : (0 : Int) ≤ (pw : Int) := Int.natCast_nonneg _
   have p6 : (pw : Int) ≤ 32 := by omega
   by_cases h0 : tag = (pw : Int)
   ·
    have e : z = c.h.flat.getD i 0 := by rw [HZ.out]; exact first_at c hlt (by rw [h0, HPW.out])
    have b0 : (tag == (pw : Int)) = true := by simp [h0]
    subst e
    clear h0
    go_wp2
    refine bodyPost_ret (v := .int .i64 (c.h.flat.getD i 0)) ?_ ?_ ?_
    ·
     simp [results, Tryd.results26, go_sem]
    ·
     rfl
    ·
     exact ⟨rfl, HL.out⟩
   ·
    have b0 : (tag == (pw : Int)) = false := beq_false_of_ne h0
    go_wp2
    refine ⟨⟨i + 1, hlt, by go_num, ?_, by trivial, hid fun j hj => ?_⟩, by simp [intOf]; omega⟩
    ·
     have e : 2 ^ (i + 1) = 2 * pw := by rw [HPW.out, Nat.pow_succ, Nat.mul_comm]
     rw [e]
     first | rfl | (congr 1; omega) | (simp; omega)
    ·
     by_cases e : j = i
     ·
      rw [e, ← HPW.out]; exact h0
     ·
      exact HQ.out j (by omega)
  ·
   have hall : ∀ j, j < 6 → tag ≠ ((2 ^ j : Nat) : Int) := fun j hj => HQ.out j (by omega)
   have h9 := first_no c hall
   rw [← HZ.out] at h9
   have H9 := hid h9
   clear hall h9 HQ hi1
   by_cases h1 : tag = 64
   ·
    subst h1
    by_cases h2 : c.h.pair = 1
    ·
     have e : z = c.h.pl := by rw [H9.out, if_pos ⟨rfl, h2⟩]
     subst e
     go_wp2
     refine bodyPost_ret (v := .int .i64 c.h.pl) ?_ ?_ ?_
     ·
      simp [results, Tryd.results26, go_sem]
     ·
      rfl
     ·
      exact ⟨rfl, HL.out⟩
    ·
     have e : z = 0 := by rw [H9.out, if_neg (fun h => h2 h.2), if_neg (fun h => by omega)]
     subst e
     go_wp2
     refine bodyPost_ret (v := .int .i64 0) ?_ ?_ ?_
     ·
      simp [results, Tryd.results26, go_sem]
     ·
      rfl
     ·
      exact ⟨rfl, HL.out⟩
   by_cases h3 : tag = 128
   ·
    subst h3
    by_cases h2 : c.h.fn = 1
    ·
     have e : z = c.h.fl := by rw [H9.out, if_neg (fun h => by omega), if_pos ⟨rfl, h2⟩]
     subst e
     go_wp2
     refine bodyPost_ret (v := .int .i64 c.h.fl) ?_ ?_ ?_
     ·
      simp [results, Tryd.results26, go_sem]
     ·
      rfl
     ·
      exact ⟨rfl, HL.out⟩
    ·
     have e : z = 0 := by rw [H9.out, if_neg (fun h => by omega), if_neg (fun h => h2 h.2)]
     subst e
     go_wp2
     refine bodyPost_ret (v := .int .i64 0) ?_ ?_ ?_
     ·
      simp [results, Tryd.results26, go_sem]
     ·
      rfl
     ·
      exact ⟨rfl, HL.out⟩
   have e : z = 0 := by rw [H9.out, if_neg (fun h => h1 h.1), if_neg (fun h => h3 h.1)]
   subst e
   go_wp2
   refine bodyPost_ret (v := .int .i64 0) ?_ ?_ ?_
   ·
    simp [results, Tryd.results26, go_sem]
   ·
    rfl
   ·
    exact ⟨rfl, HL.out⟩
end Go.Proofs.YtlalnkabfigodaaDoor
