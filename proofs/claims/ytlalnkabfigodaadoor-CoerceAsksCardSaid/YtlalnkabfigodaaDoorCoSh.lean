import Derived.Test.YtlalnkabfigodaaDoorCoA
namespace Go.Proofs.YtlalnkabfigodaaDoor
open Go.Lib (hid)
open Go.RowKit

def AlRel (p : Co → Bool) (m : Nat) (W : World) (l : List Co) (iv : Value) (wr : World) : Prop :=
 ∃ i : Nat, i ≤ m ∧ iv = .int .i64 i ∧ Hid (Below W.heap.size W wr) ∧ Hid (∀ j, j < i → p (l.getD j co0) = true)
theorem all_getC {p : Co → Bool} {l : List Co} (h : ∀ j, j < l.length → p (l.getD j co0) = true) : l.all p = true := by
 rw [List.all_eq_true]
 intro x hx
 obtain ⟨j, hj, rfl⟩ := mem_getC hx
 exact h j hj
theorem all_noC {p : Co → Bool} {l : List Co} {j : Nat} (hj : j < l.length) (h : p (l.getD j co0) = false) : l.all p = false := by
 rw [List.all_eq_false]
 exact ⟨_, getC_mem hj, by rw [h]; decide⟩

set_option maxRecDepth 100000 in
set_option maxHeartbeats 16000000 in
theorem shallow_go (n : Nat) (hn : n ≤ 60) : ∀ (lv : Int) (c : Co) (v : Value) (w : World), lv = n → CoV w v c → Calls Tryd.prog 38 #[v, .int .i64 lv] w fun e w' => e = .returned (.bool (thinC n c)) ∧ Below w.heap.size w w' := by
 induction n with
 | zero =>
  intro lv c v w hlv hv
  subst hlv
  obtain ⟨pa, pc, fa, fc, rfl, hp, hf⟩ := hv.form
  generalize c.pairs.length = np
  generalize c.funs.length = nf
  clear hp hf hv
  have HL := hid (show Below w.heap.size w (w.alloc (.cells #[.int .i64 c.h.f0, .int .i64 c.h.f1, .int .i64 c.h.f2, .int .i64 c.h.f3, .int .i64 c.h.f4, .int .i64 c.h.f5, .int .i64 c.h.pair, .int .i64 c.h.pl, .slice pa np pc, .int .i64 c.h.fn, .int .i64 c.h.fl, .slice fa nf fc] 25)) from (Below.refl _ _).alloc (Nat.le_refl _) _)
  go_enter Tryd.func38, Tryd.ntmps38
  go_wp2
  refine bodyPost_ret (v := .bool false) ?_ ?_ ?_
  ·
   simp [results, Tryd.results38, go_sem]
  ·
   rfl
  ·
   exact ⟨rfl, HL.out⟩
 | succ n ih =>
  intro lv c v w hlv hv
  have IH := hid (ih (by omega))
  clear ih
  obtain ⟨pa, pc, fa, fc, rfl, hp, hf⟩ := hv.form
  obtain ⟨np, hnp⟩ : ∃ n, n = c.pairs.length := ⟨_, rfl⟩
  obtain ⟨nf, hnf⟩ : ∃ n, n = c.funs.length := ⟨_, rfl⟩
  rw [← hnp] at hp ⊢
  rw [← hnf] at hf ⊢
  have bp : (np : Int) ≤ 9223372036854775807 := by have := hp.len; rw [← hnp] at this; unfold maxLen at this; omega
  have bf : (nf : Int) ≤ 9223372036854775807 := by have := hf.len; rw [← hnf] at this; unfold maxLen at this; omega
  obtain ⟨W, hW⟩ : ∃ W, W = w.alloc (.cells #[.int .i64 c.h.f0, .int .i64 c.h.f1, .int .i64 c.h.f2, .int .i64 c.h.f3, .int .i64 c.h.f4, .int .i64 c.h.f5, .int .i64 c.h.pair, .int .i64 c.h.pl, .slice pa np pc, .int .i64 c.h.fn, .int .i64 c.h.fl, .slice fa nf fc] 25) := ⟨_, rfl⟩
  have HX := hid (show CBox W w.heap.size 25 ⟨c.h, .slice pa np pc, .slice fa nf fc⟩ by rw [hW]; exact CBox.made _ _ ⟨c.h, .slice pa np pc, .slice fa nf fc⟩)
  have HL := hid (show Below w.heap.size w W by rw [hW]; exact (Below.refl _ _).alloc (Nat.le_refl _) _)
  have HP := hid (CoSN.below hp HL.out)
  have HF := hid (CoSN.below hf HL.out)
  have HPN := hid hnp
  have HFN := hid hnf
  have HW := hid hW
  clear hp hf hnp hnf hW hv
  obtain ⟨z, hz⟩ : ∃ z, z = thinC (n + 1) c := ⟨_, rfl⟩
  rw [← hz]
  rw [thinC_succ, ← HPN.out, ← HFN.out] at hz
  have HZ := hid hz
  clear hz
  have x8 : W.cell? ⟨w.heap.size, 8, none⟩ = some (.slice pa np pc) := HX.out.c8
  have x11 : W.cell? ⟨w.heap.size, 11, none⟩ = some (.slice fa nf fc) := HX.out.c11
  have bl : lv = (n : Int) + 1 := by omega
  have b0 : (0 : Int) ≤ (n : Int) := Int.natCast_nonneg _
  have b6 : (n : Int) ≤ 60 := by omega
  subst bl
  have bne : ¬ ((n : Int) + 1 = 0) := by omega
  clear hlv
  go_enter Tryd.func38, Tryd.ntmps38
  go_upto_region 1 with fail
  rw [← HW.out]
  clear HW
  by_cases h12 : np ≤ 12
  ·
   have g12 : ¬ (12 : Int) < (np : Int) := by omega
   by_cases h13 : nf ≤ 12
   ·
    have g13 : ¬ (12 : Int) < (nf : Int) := by omega
    go_wp2
    go_loopw [5] (fun iv wr => AlRel (thinC n) np W c.pairs iv wr) (fun iv _ => np - (intOf iv).toNat)
    case atStart => exact ⟨0, Nat.zero_le _, rfl, hid (Below.refl _ _), hid fun j h => absurd h (Nat.not_lt_zero _)⟩
    case round =>
     clear x8 x11
     obtain ⟨i, hi1, rfl, HB, HQ⟩ := hrel
     have x8 : wr.cell? ⟨w.heap.size, 8, none⟩ = some (.slice pa np pc) := (HX.out.keep HB.out).c8
     have x11 : wr.cell? ⟨w.heap.size, 11, none⟩ = some (.slice fa nf fc) := (HX.out.keep HB.out).c11
     by_cases hlt : i < np
     ·
      have hi0 : (0 : Int) ≤ (i : Int) := Int.natCast_nonneg _
      have hi2 : (i : Int) < (np : Int) := by omega
      have hil : i < c.pairs.length := by rw [← HPN.out]; exact hlt
      obtain ⟨d, hd⟩ : ∃ d, c.pairs.getD i co0 = d := ⟨_, rfl⟩
      obtain ⟨b, off, p1, c1, p2, c2, rfl, hb, ⟨e0, e1, e2, e3, e4, e5, e6, e7, e8, e9, e10, e11⟩, hv⟩ := CoSN.elem (CoSN.below HP.out HB.out) hil hd
      have HDD := hid hd
      have HV := hid hv
      clear hd hv hb
      go_wp2_with fail
      refine (IH.out _ d _ wr (by omega) HV.out).mono ?_
      rintro e w2 ⟨rfl, hb⟩
      have HB2 := hid (HB.out.trans (hb.mono HB.out.size))
      obtain ⟨y, hy⟩ : ∃ y, y = thinC n d := ⟨_, rfl⟩
      rw [← hy]
      have HY := hid hy
      clear hb hy e0 e1 e2 e3 e4 e5 e6 e7 e8 e9 e10 e11
      cases y with
      | false =>
       have HBAD := hid (all_noC (p := thinC n) hil (by rw [HDD.out]; exact HY.out.symm))
       have e : z = false := by rw [HZ.out, HBAD.out]; simp
       subst e
       go_wp2
       refine bodyPost_ret (v := .bool false) ?_ ?_ ?_
       ·
        simp [results, Tryd.results38, go_sem]
       ·
        rfl
       ·
        exact ⟨rfl, HL.out.trans (HB2.out.mono HL.out.size)⟩
      | true =>
       go_wp2
       refine ⟨⟨i + 1, hlt, by go_num, HB2, hid fun j hj => ?_⟩, by simp [intOf]; omega⟩
       by_cases e : j = i
       ·
        rw [e, HDD.out]; exact HY.out.symm
       ·
        exact HQ.out j (by omega)
     ·
      have hin : i = np := by omega
      have HALL := hid (all_getC (p := thinC n) (l := c.pairs) fun j hj => HQ.out j (by rw [hin, HPN.out]; exact hj))
      clear hin
      obtain ⟨W1, rfl⟩ : ∃ x, x = wr := ⟨_, rfl⟩
      have HALL1 := HALL
      have hB := HB.out
      replace HX := hid (HX.out.keep hB)
      replace HP := hid (CoSN.below HP.out hB)
      replace HF := hid (CoSN.below HF.out hB)
      replace HL := hid (HL.out.trans (hB.mono HL.out.size))
      clear HB HQ HALL hB
      go_wp2
      go_loopw [6] (fun iv wr => AlRel (thinC n) nf W1 c.funs iv wr) (fun iv _ => nf - (intOf iv).toNat)
      case atStart => exact ⟨0, Nat.zero_le _, rfl, hid (Below.refl _ _), hid fun j h => absurd h (Nat.not_lt_zero _)⟩
      case round =>
       clear x8 x11
       obtain ⟨i, hi1, rfl, HB, HQ⟩ := hrel
       have x8 : wr.cell? ⟨w.heap.size, 8, none⟩ = some (.slice pa np pc) := (HX.out.keep HB.out).c8
       have x11 : wr.cell? ⟨w.heap.size, 11, none⟩ = some (.slice fa nf fc) := (HX.out.keep HB.out).c11
       by_cases hlt : i < nf
       ·
        have hi0 : (0 : Int) ≤ (i : Int) := Int.natCast_nonneg _
        have hi2 : (i : Int) < (nf : Int) := by omega
        have hil : i < c.funs.length := by rw [← HFN.out]; exact hlt
        obtain ⟨d, hd⟩ : ∃ d, c.funs.getD i co0 = d := ⟨_, rfl⟩
        obtain ⟨b, off, p1, c1, p2, c2, rfl, hb, ⟨e0, e1, e2, e3, e4, e5, e6, e7, e8, e9, e10, e11⟩, hv⟩ := CoSN.elem (CoSN.below HF.out HB.out) hil hd
        have HDD := hid hd
        have HV := hid hv
        clear hd hv hb
        go_wp2_with fail
        refine (IH.out _ d _ wr (by omega) HV.out).mono ?_
        rintro e w2 ⟨rfl, hb⟩
        have HB2 := hid (HB.out.trans (hb.mono HB.out.size))
        obtain ⟨y, hy⟩ : ∃ y, y = thinC n d := ⟨_, rfl⟩
        rw [← hy]
        have HY := hid hy
        clear hb hy e0 e1 e2 e3 e4 e5 e6 e7 e8 e9 e10 e11
        cases y with
        | false =>
         have HBAD := hid (all_noC (p := thinC n) hil (by rw [HDD.out]; exact HY.out.symm))
         have e : z = false := by rw [HZ.out, HBAD.out]; simp
         subst e
         go_wp2
         refine bodyPost_ret (v := .bool false) ?_ ?_ ?_
         ·
          simp [results, Tryd.results38, go_sem]
         ·
          rfl
         ·
          exact ⟨rfl, HL.out.trans (HB2.out.mono HL.out.size)⟩
        | true =>
         go_wp2
         refine ⟨⟨i + 1, hlt, by go_num, HB2, hid fun j hj => ?_⟩, by simp [intOf]; omega⟩
         by_cases e : j = i
         ·
          rw [e, HDD.out]; exact HY.out.symm
         ·
          exact HQ.out j (by omega)
       ·
        have hin : i = nf := by omega
        have HALL := hid (all_getC (p := thinC n) (l := c.funs) fun j hj => HQ.out j (by rw [hin, HFN.out]; exact hj))
        clear hin
        have e : z = true := by rw [HZ.out, HALL1.out, HALL.out, decide_eq_true ⟨h12, h13⟩]; rfl
        subst e
        go_wp2
        refine bodyPost_ret (v := .bool true) ?_ ?_ ?_
        ·
         simp [results, Tryd.results38, go_sem]
        ·
         rfl
        ·
         exact ⟨rfl, HL.out.trans (HB.out.mono HL.out.size)⟩
   ·
    have g13 : (12 : Int) < (nf : Int) := by omega
    have e : z = false := by rw [HZ.out, decide_eq_false (fun h => h13 h.2)]; rfl
    subst e
    go_wp2
    refine bodyPost_ret (v := .bool false) ?_ ?_ ?_
    ·
     simp [results, Tryd.results38, go_sem]
    ·
     rfl
    ·
     exact ⟨rfl, HL.out⟩
  ·
   have g12 : (12 : Int) < (np : Int) := by omega
   have e : z = false := by rw [HZ.out, decide_eq_false (fun h => h12 h.1)]; rfl
   subst e
   go_wp2
   refine bodyPost_ret (v := .bool false) ?_ ?_ ?_
   ·
    simp [results, Tryd.results38, go_sem]
   ·
    rfl
   ·
    exact ⟨rfl, HL.out⟩
end Go.Proofs.YtlalnkabfigodaaDoor
