import Derived.Test.YtlalnkabfigodaaDoorCoFr
import Derived.Deep.CutBlock
namespace Go.Proofs.YtlalnkabfigodaaDoor
open Go.Lib (hid)
open Go.RowKit

def hdUp (t : Ty) (l : Int) (i : Nat) : Hd := ⟨if 0 < i then bitF t.flat 1 l else 0, if 1 < i then bitF t.flat 2 l else 0, if 2 < i then bitF t.flat 4 l else 0, if 3 < i then bitF t.flat 8 l else 0, if 4 < i then bitF t.flat 16 l else 0, if 5 < i then bitF t.flat 32 l else 0, 0, 0, 0, 0⟩
theorem up_store {t : Ty} {l p : Int} {i g : Nat} {w : World} {T : TypeId} {a b : Value} (hi : i < 6) (hp : p = ((2 ^ i : Nat) : Int)) (hb : (t.flat.tdiv p).tmod 2 = 0) (h : CBox w g T ⟨hdUp t l i, a, b⟩) : CBox (w.setCell ⟨g, i, none⟩ (.int .i64 l)) g T ⟨hdUp t l (i + 1), a, b⟩ := by
 subst hp
 obtain rfl | rfl | rfl | rfl | rfl | rfl : i = 0 ∨ i = 1 ∨ i = 2 ∨ i = 3 ∨ i = 4 ∨ i = 5 := by omega
 ·
  have e : bitF t.flat 1 l = l := by unfold bitF; exact if_pos hb
  have h2 := h.s0 (x := l)
  rw [show (⟨hdUp t l (0 + 1), a, b⟩ : RawC) = ⟨{ hdUp t l 0 with f0 := l }, a, b⟩ by unfold hdUp; simp [e]]
  exact h2
 ·
  have e : bitF t.flat 2 l = l := by unfold bitF; exact if_pos hb
  have h2 := h.s1 (x := l)
  rw [show (⟨hdUp t l (1 + 1), a, b⟩ : RawC) = ⟨{ hdUp t l 1 with f1 := l }, a, b⟩ by unfold hdUp; simp [e]]
  exact h2
 ·
  have e : bitF t.flat 4 l = l := by unfold bitF; exact if_pos hb
  have h2 := h.s2 (x := l)
  rw [show (⟨hdUp t l (2 + 1), a, b⟩ : RawC) = ⟨{ hdUp t l 2 with f2 := l }, a, b⟩ by unfold hdUp; simp [e]]
  exact h2
 ·
  have e : bitF t.flat 8 l = l := by unfold bitF; exact if_pos hb
  have h2 := h.s3 (x := l)
  rw [show (⟨hdUp t l (3 + 1), a, b⟩ : RawC) = ⟨{ hdUp t l 3 with f3 := l }, a, b⟩ by unfold hdUp; simp [e]]
  exact h2
 ·
  have e : bitF t.flat 16 l = l := by unfold bitF; exact if_pos hb
  have h2 := h.s4 (x := l)
  rw [show (⟨hdUp t l (4 + 1), a, b⟩ : RawC) = ⟨{ hdUp t l 4 with f4 := l }, a, b⟩ by unfold hdUp; simp [e]]
  exact h2
 ·
  have e : bitF t.flat 32 l = l := by unfold bitF; exact if_pos hb
  have h2 := h.s5 (x := l)
  rw [show (⟨hdUp t l (5 + 1), a, b⟩ : RawC) = ⟨{ hdUp t l 5 with f5 := l }, a, b⟩ by unfold hdUp; simp [e]]
  exact h2
theorem up_skip {t : Ty} {l p : Int} {i g : Nat} {w : World} {T : TypeId} {a b : Value} (hi : i < 6) (hp : p = ((2 ^ i : Nat) : Int)) (hb : ¬ (t.flat.tdiv p).tmod 2 = 0) (h : CBox w g T ⟨hdUp t l i, a, b⟩) : CBox w g T ⟨hdUp t l (i + 1), a, b⟩ := by
 subst hp
 obtain rfl | rfl | rfl | rfl | rfl | rfl : i = 0 ∨ i = 1 ∨ i = 2 ∨ i = 3 ∨ i = 4 ∨ i = 5 := by omega
 ·
  have e : bitF t.flat 1 l = 0 := by unfold bitF; exact if_neg hb
  rw [show hdUp t l (0 + 1) = hdUp t l 0 by unfold hdUp; simp [e]]
  exact h
 ·
  have e : bitF t.flat 2 l = 0 := by unfold bitF; exact if_neg hb
  rw [show hdUp t l (1 + 1) = hdUp t l 1 by unfold hdUp; simp [e]]
  exact h
 ·
  have e : bitF t.flat 4 l = 0 := by unfold bitF; exact if_neg hb
  rw [show hdUp t l (2 + 1) = hdUp t l 2 by unfold hdUp; simp [e]]
  exact h
 ·
  have e : bitF t.flat 8 l = 0 := by unfold bitF; exact if_neg hb
  rw [show hdUp t l (3 + 1) = hdUp t l 3 by unfold hdUp; simp [e]]
  exact h
 ·
  have e : bitF t.flat 16 l = 0 := by unfold bitF; exact if_neg hb
  rw [show hdUp t l (4 + 1) = hdUp t l 4 by unfold hdUp; simp [e]]
  exact h
 ·
  have e : bitF t.flat 32 l = 0 := by unfold bitF; exact if_neg hb
  rw [show hdUp t l (5 + 1) = hdUp t l 5 by unfold hdUp; simp [e]]
  exact h
set_option maxRecDepth 100000 in
set_option maxHeartbeats 64000000 in
theorem to_succ (n : Nat) (hto : ToOK n) (hfrom : FromOK n) : ToOK (n + 1) := by
 intro t l v w N hd hN hv
 obtain ⟨i0, hi, hz0, hz1, hz2⟩ := info_parts Tryd.infoCR
 have HTO := hid hto
 have HFR := hid hfrom
 rw [deepF_succ, Bool.and_eq_true, Bool.and_eq_true, List.all_eq_true, List.all_eq_true] at hd
 obtain ⟨⟨hh, hdp⟩, hdf⟩ := hd
 unfold headOK at hh
 rw [decide_eq_true_eq] at hh
 obtain ⟨kfl0, kfl1, kp0, kp1, kn0, kn1, _, kp, kf0, kf1⟩ := hh
 obtain ⟨pa, pc, fa, fc, rfl, hp, hf⟩ := hv.form
 obtain ⟨np, hnp⟩ : ∃ n, n = t.pairs.length := ⟨_, rfl⟩
 obtain ⟨nf, hnf⟩ : ∃ n, n = t.funs.length := ⟨_, rfl⟩
 rw [← hnp] at hp kp ⊢
 rw [← hnf] at hf kf1 ⊢
 by_cases hall : t.all = true
 ·
  obtain ⟨W, hW⟩ : ∃ W, W = ((w.alloc (.cells #[.bool t.all, .int .i64 t.flat, .int .i64 t.pair, .slice pa np pc, .int .i64 t.fn, .slice fa nf fc] 47)).alloc (.cells #[.int .i64 0, .int .i64 0, .int .i64 0, .int .i64 0, .int .i64 0, .int .i64 0, .int .i64 0, .int .i64 0, .slice none 0 0, .int .i64 0, .int .i64 0, .slice none 0 0] 30)) := ⟨_, rfl⟩
  have HX := hid (show BoxAt W w.heap.size t.all t.flat t.pair (.slice pa np pc) t.fn (.slice fa nf fc) by rw [hW]; exact ((BoxAt.made _ _ _ _ _ _ _).keep (bAl _ _)))
  have HR := hid (show CBox W (w.heap.size + 1) 30 ⟨⟨0, 0, 0, 0, 0, 0, 0, 0, 0, 0⟩, .slice none 0 0, .slice none 0 0⟩ by rw [hW]; have h := CBox.made (w.alloc (.cells #[.bool t.all, .int .i64 t.flat, .int .i64 t.pair, .slice pa np pc, .int .i64 t.fn, .slice fa nf fc] 47)) 30 ⟨⟨0, 0, 0, 0, 0, 0, 0, 0, 0, 0⟩, .slice none 0 0, .slice none 0 0⟩; simpa using h)
  have HL := hid (show Below w.heap.size w W by rw [hW]; exact (bAl _ _).alloc (by simp) _)
  have HRES := hid (show goC (n + 1) true t l = co0 by rw [goC, if_pos hall])
  have x0 : W.cell? ⟨w.heap.size, 0, none⟩ = some (.bool true) := by rw [← hall]; exact HX.out.c0
  have HW := hid hW
  have HAL := hid hall
  clear hp hf hnp hnf hW hN hv hdp hdf kp kf0 kf1 hto hfrom hall
  go_enter Tryd.func32, Tryd.ntmps32
  go_upto_region 1 with fail
  rw [← HW.out]
  clear HW
  obtain ⟨r0, r1, r2, r3, r4, r5, r6, r7, r8, r9, r10, r11⟩ := HR.out.cs
  (try dsimp only at r0 r1 r2 r3 r4 r5 r6 r7 r8 r9 r10 r11)
  obtain ⟨fr0, fr1, fr2, fr3, fr4, fr5, fr6, fr7, fr8, fr9, fr10, fr11⟩ := HR.out.frs
  go_wp2
  have HPOST := hid (show CoPost N (goC (n + 1) true t l) w (.returned (coV ⟨⟨0, 0, 0, 0, 0, 0, 0, 0, 0, 0⟩, .slice none 0 0, .slice none 0 0⟩)) (set12 (W) (w.heap.size + 1) ⟨⟨0, 0, 0, 0, 0, 0, 0, 0, 0, 0⟩, .slice none 0 0, .slice none 0 0⟩) from by rw [HRES.out]; exact ⟨⟨_, rfl, co0_v _ _⟩, Below.set12 (g := w.heap.size + 1) HL.out (by omega)⟩)
  refine ret12 (W) (w.heap.size + 1) ⟨⟨0, 0, 0, 0, 0, 0, 0, 0, 0, 0⟩, .slice none 0 0, .slice none 0 0⟩ (HR.out) HPOST.out (fun wf hb => ?_) rfl
  obtain ⟨z0, z1, z2, z3, z4, z5, z6, z7, z8, z9, z10, z11⟩ := hb.cs
  simp [results, Tryd.results32, go_sem, coV, z0, z1, z2, z3, z4, z5, z6, z7, z8, z9, z10, z11]
 obtain ⟨W0, hW⟩ : ∃ W, W = ((w.alloc (.cells #[.bool t.all, .int .i64 t.flat, .int .i64 t.pair, .slice pa np pc, .int .i64 t.fn, .slice fa nf fc] 47)).alloc (.cells #[.int .i64 0, .int .i64 0, .int .i64 0, .int .i64 0, .int .i64 0, .int .i64 0, .int .i64 0, .int .i64 0, .slice none 0 0, .int .i64 0, .int .i64 0, .slice none 0 0] 30)).alloc (.cells #[.int .i64 0, .int .i64 0, .int .i64 0, .int .i64 0, .int .i64 0, .int .i64 0, .int .i64 0, .int .i64 0, .slice none 0 0, .int .i64 0, .int .i64 0, .slice none 0 0] 30) := ⟨_, rfl⟩
 have HX := hid (show BoxAt W0 w.heap.size t.all t.flat t.pair (.slice pa np pc) t.fn (.slice fa nf fc) by rw [hW]; exact ((BoxAt.made _ _ _ _ _ _ _).keep (bAl _ _)).keep (bAl _ _))
 have HR := hid (show CBox W0 (w.heap.size + 1) 30 ⟨⟨0, 0, 0, 0, 0, 0, 0, 0, 0, 0⟩, .slice none 0 0, .slice none 0 0⟩ by rw [hW]; have h := (CBox.made (w.alloc (.cells #[.bool t.all, .int .i64 t.flat, .int .i64 t.pair, .slice pa np pc, .int .i64 t.fn, .slice fa nf fc] 47)) 30 ⟨⟨0, 0, 0, 0, 0, 0, 0, 0, 0, 0⟩, .slice none 0 0, .slice none 0 0⟩).keep ((Below.refl _ _).alloc (Nat.le_refl _) (.cells #[.int .i64 0, .int .i64 0, .int .i64 0, .int .i64 0, .int .i64 0, .int .i64 0, .int .i64 0, .int .i64 0, .slice none 0 0, .int .i64 0, .int .i64 0, .slice none 0 0] 30)); simpa using h)
 have HO := hid (show CBox W0 (w.heap.size + 1 + 1) 30 ⟨⟨0, 0, 0, 0, 0, 0, 0, 0, 0, 0⟩, .slice none 0 0, .slice none 0 0⟩ by rw [hW]; have h := CBox.made ((w.alloc (.cells #[.bool t.all, .int .i64 t.flat, .int .i64 t.pair, .slice pa np pc, .int .i64 t.fn, .slice fa nf fc] 47)).alloc (.cells #[.int .i64 0, .int .i64 0, .int .i64 0, .int .i64 0, .int .i64 0, .int .i64 0, .int .i64 0, .int .i64 0, .slice none 0 0, .int .i64 0, .int .i64 0, .slice none 0 0] 30)) 30 ⟨⟨0, 0, 0, 0, 0, 0, 0, 0, 0, 0⟩, .slice none 0 0, .slice none 0 0⟩; simpa using h)
 have HL := hid (show Below w.heap.size w W0 by rw [hW]; exact ((bAl _ _).alloc (by simp) _).alloc (by simp <;> omega) _)
 have hsz : W0.heap.size = w.heap.size + 1 + 1 + 1 := by rw [hW]; simp
 have HNB1 := hid (show ∀ b, (fun x => (N x ∨ x = w.heap.size + 1) ∨ x = w.heap.size + 1 + 1) b → b < W0.heap.size from fun b h => by
  rcases h with (h | h) | h
  ·
   have := hN b h; omega
  ·
   omega
  ·
   omega)
 have HP0 := hid hp
 have HF0 := hid hf
 have HP := hid (hp.under HL.out)
 have HF := hid (hf.under HL.out)
 have HPN := hid hnp
 have HFN := hid hnf
 have HDP := hid hdp
 have HDF := hid hdf
 have HKP := hid kp
 have HKF := hid kf1
 have HALL := hid hall
 have hallf : t.all = false := by cases h : t.all <;> simp_all
 have x0 : W0.cell? ⟨w.heap.size, 0, none⟩ = some (.bool false) := by rw [← hallf]; exact HX.out.c0
 have A0 : W0 = W0 := rfl
 have HW := hid hW
 clear hp hf hnp hnf hN hv hdp hdf kp kf0 kf1 hto hfrom A0 hall
 have x0' : ((w.alloc (.cells #[.bool t.all, .int .i64 t.flat, .int .i64 t.pair, .slice pa np pc, .int .i64 t.fn, .slice fa nf fc] 47)).alloc (.cells #[.int .i64 0, .int .i64 0, .int .i64 0, .int .i64 0, .int .i64 0, .int .i64 0, .int .i64 0, .int .i64 0, .slice none 0 0, .int .i64 0, .int .i64 0, .slice none 0 0] 30)).cell? ⟨w.heap.size, 0, none⟩ = some (.bool false) := by rw [← hallf]; exact ((BoxAt.made _ _ _ _ _ _ _).keep (bAl _ _)).c0
 clear hW hsz hallf
 go_enter Tryd.func32, Tryd.ntmps32
 go_wp2
 rw [← HW.out]
 clear HW x0 x0'
 go_loopw [6, 7] (fun bv iv wr => ∃ (i : Nat) (p : Int), i ≤ 6 ∧ iv = .int .i64 i ∧ bv = .int .i64 p ∧ Hid (p = ((2 ^ i : Nat) : Int)) ∧ Hid (CBox wr (w.heap.size + 1 + 1) 30 ⟨hdUp t l i, .slice none 0 0, .slice none 0 0⟩) ∧ Hid (But (w.heap.size + 1 + 1) W0 wr)) (fun _ iv _ => 6 - (intOf iv).toNat)
 case atStart => exact ⟨0, 1, Nat.zero_le _, rfl, rfl, hid rfl, hid HO.out, hid (But.refl _ _)⟩
 case round =>
  obtain ⟨i, p, hi1, rfl, rfl, HPW, HOB, HRL⟩ := hrel
  have x1 : wr.cell? ⟨w.heap.size, 1, none⟩ = some (.int .i64 t.flat) := (show BoxAt wr w.heap.size t.all t.flat t.pair (.slice pa np pc) t.fn (.slice fa nf fc) from (HRL.out.block _ HX.out.lt (by omega)).trans HX.out).c1
  by_cases hlt : i < 6
  ·
   have hp := HPW.out
   have hp1 : 1 ≤ p ∧ p ≤ 32 := by
    rw [hp]
    obtain rfl | rfl | rfl | rfl | rfl | rfl : i = 0 ∨ i = 1 ∨ i = 2 ∨ i = 3 ∨ i = 4 ∨ i = 5 := by omega
    all_goals decide
   have hi0 : (0 : Int) ≤ (i : Int) := Int.natCast_nonneg _
   have hi2 : (i : Int) < 6 := by omega
   have hp0 : (p == 0) = false := beq_false_of_ne (by omega)
   have hp9 : ¬ p = 0 := by omega
   have hpa : 1 ≤ p := hp1.1
   have hpb : p ≤ 32 := hp1.2
   have oc := HOB.out.flat hlt
   have ofr := HOB.out.fr i
   obtain ⟨q, hq⟩ : ∃ q, q = (t.flat.tdiv p).tmod 2 := ⟨_, rfl⟩
   have gq : (t.flat.tdiv p).tmod 2 = q := hq.symm
   have gq2 : (t.flat / p).tmod 2 = q := by rw [← Int.tdiv_eq_ediv_of_nonneg kfl0]; exact hq.symm
   have HQ := hid hq
   have HLT := hid hlt
   clear hp hp1 hi1 hlt hq
   by_cases hb : q = 0
   ·
    have bb : (q == 0) = true := beq_iff_eq.2 hb
    have HBB := hid hb
    clear hb
    go_wp2
    refine ⟨⟨i + 1, 2 * p, HLT.out, by go_num, by go_num, hid (by rw [HPW.out, Nat.pow_succ, Nat.mul_comm]; push_cast; rfl), hid (up_store HLT.out HPW.out (HQ.out.symm.trans HBB.out) HOB.out), hid (HRL.out.set _ _)⟩, by have := HLT.out; simp [intOf]; omega⟩
   ·
    have bb : (q == 0) = false := beq_false_of_ne hb
    have HBB := hid hb
    clear hb
    go_wp2
    refine ⟨⟨i + 1, 2 * p, HLT.out, by go_num, by go_num, hid (by rw [HPW.out, Nat.pow_succ, Nat.mul_comm]; push_cast; rfl), hid (up_skip HLT.out HPW.out (fun h => HBB.out (HQ.out.trans h)) HOB.out), HRL⟩, by have := HLT.out; simp [intOf]; omega⟩
  ·
   have h6 : i = 6 := by omega
   rw [h6] at HOB
   clear h6
   obtain ⟨W, rfl⟩ : ∃ x, x = wr := ⟨_, rfl⟩
   replace HX := hid (show BoxAt W w.heap.size t.all t.flat t.pair (.slice pa np pc) t.fn (.slice fa nf fc) from (HRL.out.block _ HX.out.lt (by omega)).trans HX.out)
   replace HR := hid (HR.out.but HRL.out (by omega))
   replace HL := hid (HL.out.trans (HRL.out.below (B := w.heap.size) (by omega) (by have := HL.out.size; omega)))
   replace HF := hid (HF0.out.under HL.out)
   replace HP := hid (HP0.out.under HL.out)
   replace HNB1 := hid (fun y hy => Nat.lt_of_lt_of_le (HNB1.out y hy) HRL.out.size)
   have HSW := hid (Nat.le_refl W.heap.size)
   replace HO := hid (show CBox W (w.heap.size + 1 + 1) 30 ⟨⟨bitF t.flat 1 l, bitF t.flat 2 l, bitF t.flat 4 l, bitF t.flat 8 l, bitF t.flat 16 l, bitF t.flat 32 l, 0, 0, 0, 0⟩, .slice none 0 0, .slice none 0 0⟩ from HOB.out)
   clear HOB HPW hi1 HRL
   have x2q : W.cell? ⟨w.heap.size, 2, none⟩ = some (.int .i64 t.pair) := HX.out.c2
   go_upto_block 2 with fail
   clear x2q
   go_cut [] from 34 to 72 (fun wx => ∃ (hd : Hd) (PS : List Co) (pb : Option Addr) (pn pk : Nat), Hid ((⟨hd.f0, hd.f1, hd.f2, hd.f3, hd.f4, hd.f5, hd.pair, hd.pl, 0, 0⟩ : Hd) = hd ∧ (⟨hd.f0, hd.f1, hd.f2, hd.f3, hd.f4, hd.f5, hd.pair, hd.pl, 2, 0⟩ : Hd) = ⟨hd.f0, hd.f1, hd.f2, hd.f3, hd.f4, hd.f5, hd.pair, hd.pl, 2, hd.fl⟩ ∧ hd.fn = 0 ∧ hd.fl = 0) ∧ Hid (goC (n + 1) true t l = .mk ⟨hd.f0, hd.f1, hd.f2, hd.f3, hd.f4, hd.f5, hd.pair, hd.pl, if t.fn = 0 then 1 else if t.fn = 1 then (if allC (((List.range (t.funs.length - 1)).map fun i => goC n false (t.funs.getD i ty0) l) ++ [goC n true (t.funs.getD (t.funs.length - 1) ty0) l]) = true then 0 else 2) else 0, if t.fn = 0 then l else 0⟩ PS (if t.fn = 1 then (if allC (((List.range (t.funs.length - 1)).map fun i => goC n false (t.funs.getD i ty0) l) ++ [goC n true (t.funs.getD (t.funs.length - 1) ty0) l]) = true then [] else ((List.range (t.funs.length - 1)).map fun i => goC n false (t.funs.getD i ty0) l) ++ [goC n true (t.funs.getD (t.funs.length - 1) ty0) l]) else [])) ∧ Hid (CBox wx (w.heap.size + 1 + 1) 30 ⟨hd, .slice pb pn pk, .slice none 0 0⟩) ∧ Hid (CoS wx (Lc (fun x => (N x ∨ x = w.heap.size + 1) ∨ x = w.heap.size + 1 + 1) wx) (.slice pb pn pk) PS) ∧ Hid (BoxAt wx w.heap.size t.all t.flat t.pair (.slice pa np pc) t.fn (.slice fa nf fc)) ∧ Hid (CBox wx (w.heap.size + 1) 30 ⟨⟨0, 0, 0, 0, 0, 0, 0, 0, 0, 0⟩, .slice none 0 0, .slice none 0 0⟩) ∧ Hid (Below w.heap.size w wx) ∧ Hid (W.heap.size ≤ wx.heap.size))
   case first =>
    by_cases hp0 : t.pair = 0
    ·
     have bp0 : (t.pair == 0) = true := by simp [hp0]
     have HPP := hid hp0
     have x2 : W.cell? ⟨w.heap.size, 2, none⟩ = some (.int .i64 t.pair) := HX.out.c2
     have oc6 : W.cell? ⟨(w.heap.size + 1 + 1), 6, none⟩ = some (.int .i64 0) := HO.out.c6
     have oc7 : W.cell? ⟨(w.heap.size + 1 + 1), 7, none⟩ = some (.int .i64 0) := HO.out.c7
     have ofr6 := HO.out.fr 6
     have ofr7 := HO.out.fr 7
     clear hp0
     go_wp2
     go_meet
     case rel =>
      clear x2 oc6 oc7 ofr6 ofr7
      obtain ⟨u1, hw⟩ : ∃ x, x = ((((W).setCell ⟨(w.heap.size + 1 + 1), 6, none⟩ (.int .i64 1))).setCell ⟨(w.heap.size + 1 + 1), 7, none⟩ (.int .i64 l)) := ⟨_, rfl⟩
      rw [← hw]
      replace HO := hid (show CBox u1 (w.heap.size + 1 + 1) 30 ⟨⟨bitF t.flat 1 l, bitF t.flat 2 l, bitF t.flat 4 l, bitF t.flat 8 l, bitF t.flat 16 l, bitF t.flat 32 l, 1, l, 0, 0⟩, .slice none 0 0, .slice none 0 0⟩ by rw [hw]; exact HO.out.s6.s7)
      replace HR := hid (show CBox u1 (w.heap.size + 1) 30 ⟨⟨0, 0, 0, 0, 0, 0, 0, 0, 0, 0⟩, .slice none 0 0, .slice none 0 0⟩ by rw [hw]; exact ((((HR.out).other (by omega))).other (by omega)))
      replace HX := hid (HX.out.under (w' := u1) (B := w.heap.size + 1) (by rw [hw]; exact (((Below.refl (w.heap.size + 1) W).setCell (p := ⟨(w.heap.size + 1 + 1), 6, none⟩) (by show w.heap.size + 1 ≤ w.heap.size + 1 + 1; omega) _).setCell (p := ⟨(w.heap.size + 1 + 1), 7, none⟩) (by show w.heap.size + 1 ≤ w.heap.size + 1 + 1; omega) _)) (by omega))
      replace HL := hid (show Below w.heap.size w u1 by rw [hw]; exact ((HL.out.setCell (p := ⟨(w.heap.size + 1 + 1), 6, none⟩) (by show w.heap.size ≤ w.heap.size + 1 + 1; omega) _).setCell (p := ⟨(w.heap.size + 1 + 1), 7, none⟩) (by show w.heap.size ≤ w.heap.size + 1 + 1; omega) _))
      replace HF := hid (HF0.out.under HL.out)
      have hsw : u1.heap.size = W.heap.size := by rw [hw]; simp [World.setCell]
      replace HSW := hid (show W.heap.size ≤ u1.heap.size by rw [hsw]; exact HSW.out)
      clear hw hsw
      obtain ⟨hd, hhd⟩ : ∃ hd : Hd, hd = ⟨bitF t.flat 1 l, bitF t.flat 2 l, bitF t.flat 4 l, bitF t.flat 8 l, bitF t.flat 16 l, bitF t.flat 32 l, 1, l, 0, 0⟩ := ⟨_, rfl⟩
      obtain ⟨PS, hPS⟩ : ∃ PS : List Co, PS = [] := ⟨_, rfl⟩
      have HHD := hid (show (⟨hd.f0, hd.f1, hd.f2, hd.f3, hd.f4, hd.f5, hd.pair, hd.pl, 0, 0⟩ : Hd) = hd ∧ (⟨hd.f0, hd.f1, hd.f2, hd.f3, hd.f4, hd.f5, hd.pair, hd.pl, 2, 0⟩ : Hd) = ⟨hd.f0, hd.f1, hd.f2, hd.f3, hd.f4, hd.f5, hd.pair, hd.pl, 2, hd.fl⟩ ∧ hd.fn = 0 ∧ hd.fl = 0 by rw [hhd]; exact ⟨rfl, rfl, rfl, rfl⟩)
      have HRES1 := hid (show goC (n + 1) true t l = .mk ⟨hd.f0, hd.f1, hd.f2, hd.f3, hd.f4, hd.f5, hd.pair, hd.pl, if t.fn = 0 then 1 else if t.fn = 1 then (if allC (((List.range (t.funs.length - 1)).map fun i => goC n false (t.funs.getD i ty0) l) ++ [goC n true (t.funs.getD (t.funs.length - 1) ty0) l]) = true then 0 else 2) else 0, if t.fn = 0 then l else 0⟩ PS (if t.fn = 1 then (if allC (((List.range (t.funs.length - 1)).map fun i => goC n false (t.funs.getD i ty0) l) ++ [goC n true (t.funs.getD (t.funs.length - 1) ty0) l]) = true then [] else ((List.range (t.funs.length - 1)).map fun i => goC n false (t.funs.getD i ty0) l) ++ [goC n true (t.funs.getD (t.funs.length - 1) ty0) l]) else []) by
       rw [hhd, hPS]; rw [goC, if_neg HALL.out, HPP.out]; rfl)
      obtain ⟨pb, pn, pk, HO2, HPS⟩ : ∃ pb pn pk, Hid (CBox u1 (w.heap.size + 1 + 1) 30 ⟨hd, .slice pb pn pk, .slice none 0 0⟩) ∧ Hid (CoS u1 (Lc (fun x => (N x ∨ x = w.heap.size + 1) ∨ x = w.heap.size + 1 + 1) u1) (.slice pb pn pk) PS) := ⟨none, 0, 0, hid (by rw [hhd]; exact HO.out), hid (by rw [hPS]; exact .mkNil _ _)⟩
      clear hhd hPS HO
      have HO := HO2
      clear HO2
      exact ⟨hd, PS, pb, pn, pk, HHD, HRES1, HO, HPS, HX, HR, HL, HSW⟩
    by_cases hp1 : t.pair = 1
    ·
     have bp0 : (t.pair == 0) = false := by simp [hp1]
     have bp1 : (t.pair == 1) = true := by simp [hp1]
     have x2 : W.cell? ⟨w.heap.size, 2, none⟩ = some (.int .i64 t.pair) := HX.out.c2
     have x3 : W.cell? ⟨w.heap.size, 3, none⟩ = some (.slice pa np pc) := HX.out.c3
     have hnp2 := HKP.out
     rw [if_pos hp1] at hnp2
     have hj0 : 0 < t.pairs.length := by rw [← HPN.out]; omega
     have hj1 : 1 < t.pairs.length := by rw [← HPN.out]; omega
     have hn0i : (0 : Int) < (np : Int) := by omega
     have hn1i : (1 : Int) < (np : Int) := by omega
     have hn0n : 0 < np := by omega
     have hn1n : 1 < np := by omega
     obtain ⟨x0, hx0⟩ : ∃ x, t.pairs.getD 0 ty0 = x := ⟨_, rfl⟩
     obtain ⟨x1, hx1⟩ : ∃ x, t.pairs.getD 1 ty0 = x := ⟨_, rfl⟩
     obtain ⟨b, off, p1, c1, p2, c2, rfl, hb, e0, e1, e2, e3, e4, e5, hv0⟩ := TyS.elem HP.out hj0 hx0
     obtain ⟨b', off', p1', c1', p2', c2', hpa, hb', g0, g1, g2, g3, g4, g5, hv1⟩ := TyS.elem HP.out hj1 hx1
     cases hpa
     simp only [Nat.zero_mul, Nat.add_zero] at e0 e1 e2 e3 e4 e5
     simp only [Nat.one_mul, Nat.add_assoc, Nat.reduceAdd] at g0 g1 g2 g3 g4 g5
     have HDX0 := hid (show deepF n x0 = true by rw [← hx0]; exact HDP.out _ (getT_mem hj0))
     have HDX1 := hid (show deepF n x1 = true by rw [← hx1]; exact HDP.out _ (getT_mem hj1))
     have HV0 := hid hv0
     have HV1 := hid hv1
     obtain ⟨d0, hd0'⟩ : ∃ d, d = goC n true x0 l := ⟨_, rfl⟩
     obtain ⟨d1, hd1'⟩ : ∃ d, d = goC n true x1 l := ⟨_, rfl⟩
     have HD0 := hid hd0'
     have HD1 := hid hd1'
     have HTP := hid (show t.pairs.map (fun x => goC n true x l) = [d0, d1] by
      have hl : t.pairs.length = 2 := by rw [← HPN.out]; omega
      rw [hd0', hd1', ← hx0, ← hx1]
      match h : t.pairs, hl with
      | [y0, y1], _ => rfl)
     have HXL := hid HX.out.lt
     have HBL := hid hb
     have X3 : W.cell? ⟨w.heap.size, 3, none⟩ = some (.slice (some ⟨b, off, none⟩) np pc) := HX.out.c3
     have HPP := hid hp1
     clear hnp2 hj0 hj1 hx0 hx1 hv0 hv1 hb hb' hd0' hd1' hp1
     go_upto_region 16 with fail
     go_cut [8] from 41 to 53 (fun lv wx => ∃ bb : Nat, lv = .slice (some ⟨bb, 0, none⟩) 2 2 ∧ Hid (CoS wx (Lc (fun x => (N x ∨ x = w.heap.size + 1) ∨ x = w.heap.size + 1 + 1) wx) (.slice (some ⟨bb, 0, none⟩) 2 2) [d0, d1]) ∧ Hid (Below W.heap.size W wx))
     case first =>
      (try dsimp only [List.append])
      refine wp_region_noPanic ?_
      refine wp_region_held_drew (S := (fun w' => Below W.heap.size W w')) (by kernel_rfl) (by (try dsimp only); exact (Below.refl _ _).drew) (fun hHeld => ?_)
      have HB := hid (show Below W.heap.size W W.drew from (Below.refl _ _).drew)
      generalize W.drew = wd at hHeld HB ⊢
      refine' tk_q 0 41 hHeld ?hi0 ?hr0
      case hi0 => (refine ⟨_, rfl, rfl, rfl, fun wz hSw => ?_⟩; (try dsimp only at hSw); go_simp; (try with_reducible rfl))
      (try simp only [pq1, ls0, ls1])
      refine' tk_q 1 42 hHeld ?hi1 ?hr1
      case hi1 => (refine ⟨_, rfl, rfl, rfl, fun wz hSw => ?_⟩; (try dsimp only at hSw); have y3 := (Below.cell hSw (p := ⟨w.heap.size, 3, none⟩) HXL.out).trans X3; go_simp; (try with_reducible rfl))
      (try simp only [pq1, ls0, ls1])
      refine' tk_q 2 43 hHeld ?hi2 ?hr2
      case hi2 => (refine ⟨_, rfl, rfl, rfl, fun wz hSw => ?_⟩; (try dsimp only at hSw); go_simp; (try with_reducible rfl))
      (try simp only [pq1, ls0, ls1])
      refine' tk_q 3 44 hHeld ?hi3 ?hr3
      case hi3 => (refine ⟨_, rfl, rfl, rfl, fun wz hSw => ?_⟩; (try dsimp only at hSw); have a0 := (Below.cell hSw (p := ⟨b, _, none⟩) HBL.out).trans e0; have a1 := (Below.cell hSw (p := ⟨b, _, none⟩) HBL.out).trans e1; have a2 := (Below.cell hSw (p := ⟨b, _, none⟩) HBL.out).trans e2; have a3 := (Below.cell hSw (p := ⟨b, _, none⟩) HBL.out).trans e3; have a4 := (Below.cell hSw (p := ⟨b, _, none⟩) HBL.out).trans e4; have a5 := (Below.cell hSw (p := ⟨b, _, none⟩) HBL.out).trans e5; go_simp; (try with_reducible rfl))
      (try simp only [pq1, ls0, ls1])
      refine' tk_q 4 45 hHeld ?hi4 ?hr4
      case hi4 => (refine ⟨_, rfl, rfl, rfl, fun wz hSw => ?_⟩; (try dsimp only at hSw); go_simp; (try with_reducible rfl))
      (try simp only [pq1, ls0, ls1])
      refine' tk_q 6 47 hHeld ?hi5 ?hr5
      case hi5 => (refine ⟨_, rfl, rfl, rfl, fun wz hSw => ?_⟩; (try dsimp only at hSw); go_simp; (try with_reducible rfl))
      (try simp only [pq1, ls0, ls1])
      refine' tk_q 7 48 hHeld ?hi6 ?hr6
      case hi6 => (refine ⟨_, rfl, rfl, rfl, fun wz hSw => ?_⟩; (try dsimp only at hSw); have y3 := (Below.cell hSw (p := ⟨w.heap.size, 3, none⟩) HXL.out).trans X3; go_simp; (try with_reducible rfl))
      (try simp only [pq1, ls0, ls1])
      refine' tk_q 8 49 hHeld ?hi7 ?hr7
      case hi7 => (refine ⟨_, rfl, rfl, rfl, fun wz hSw => ?_⟩; (try dsimp only at hSw); go_simp; (try with_reducible rfl))
      (try simp only [pq1, ls0, ls1])
      refine' tk_q 9 50 hHeld ?hi8 ?hr8
      case hi8 => (refine ⟨_, rfl, rfl, rfl, fun wz hSw => ?_⟩; (try dsimp only at hSw); have b0 := (Below.cell hSw (p := ⟨b, _, none⟩) HBL.out).trans g0; have b1 := (Below.cell hSw (p := ⟨b, _, none⟩) HBL.out).trans g1; have b2 := (Below.cell hSw (p := ⟨b, _, none⟩) HBL.out).trans g2; have b3 := (Below.cell hSw (p := ⟨b, _, none⟩) HBL.out).trans g3; have b4 := (Below.cell hSw (p := ⟨b, _, none⟩) HBL.out).trans g4; have b5 := (Below.cell hSw (p := ⟨b, _, none⟩) HBL.out).trans g5; go_simp; (try with_reducible rfl))
      (try simp only [pq1, ls0, ls1])
      refine' tk_q 10 51 hHeld ?hi9 ?hr9
      case hi9 => (refine ⟨_, rfl, rfl, rfl, fun wz hSw => ?_⟩; (try dsimp only at hSw); go_simp; (try with_reducible rfl))
      (try simp only [pq1, ls0, ls1])
      refine' tk_call 5 ?hia (by kernel_rfl) ?hra
      case hia => rfl
      intro K hK
      go_simp
      go_at_call 32
      refine (HTO.out x0 l _ wd (fun x => (N x ∨ x = w.heap.size + 1) ∨ x = w.heap.size + 1 + 1) HDX0.out (fun y hy => Nat.lt_of_lt_of_le (HNB1.out y hy) HB.out.size) (HV0.out.below HB.out)).mono ?_
      rintro e wA ⟨⟨u, rfl, hu⟩, hb⟩
      rw [← HD0.out] at hu
      obtain ⟨q01, q02, q03, q04, rfl, _, _⟩ := hu.form
      have HU0 := hid hu
      replace HB := hid (HB.out.trans (hb.mono HB.out.size))
      clear hu hb
      go_wp2_with fail
      clear hHeld
      refine hK.out _ _ (by (try dsimp only); exact HB.out) (fun hHeld => ?_)
      clear hK K
      (try simp only [pq1, ls0, ls1])
      refine' tk_call 11 ?hib (by kernel_rfl) ?hrb
      case hib => rfl
      intro K hK
      go_simp
      go_at_call 32
      refine (HTO.out x1 l _ wA (fun x => (N x ∨ x = w.heap.size + 1) ∨ x = w.heap.size + 1 + 1) HDX1.out (fun y hy => Nat.lt_of_lt_of_le (HNB1.out y hy) HB.out.size) (HV1.out.below HB.out)).mono ?_
      rintro e wB ⟨⟨u, rfl, hu⟩, hb⟩
      rw [← HD1.out] at hu
      obtain ⟨q11, q12, q13, q14, rfl, _, _⟩ := hu.form
      have HU1 := hid hu
      replace HB := hid (HB.out.trans (hb.mono HB.out.size))
      replace HU0 := hid (HU0.out.below hb)
      clear hu hb
      go_wp2_with fail
      clear hHeld
      refine hK.out _ _ (by (try dsimp only); exact HB.out) (fun hHeld => ?_)
      clear hK K
      (try simp only [pq1, ls0, ls1])
      refine' tk_call 12 ?hic (by kernel_rfl) ?hrc
      case hic => rfl
      intro K hK
      go_simp
      obtain ⟨w3, hw3⟩ : ∃ x, x = wB.alloc (.cells #[.int .i64 d0.h.f0, .int .i64 d0.h.f1, .int .i64 d0.h.f2, .int .i64 d0.h.f3, .int .i64 d0.h.f4, .int .i64 d0.h.f5, .int .i64 d0.h.pair, .int .i64 d0.h.pl, .slice q01 d0.pairs.length q02, .int .i64 d0.h.fn, .int .i64 d0.h.fl, .slice q03 d0.funs.length q04, .int .i64 d1.h.f0, .int .i64 d1.h.f1, .int .i64 d1.h.f2, .int .i64 d1.h.f3, .int .i64 d1.h.f4, .int .i64 d1.h.f5, .int .i64 d1.h.pair, .int .i64 d1.h.pl, .slice q11 d1.pairs.length q12, .int .i64 d1.h.fn, .int .i64 d1.h.fl, .slice q13 d1.funs.length q14] 30) := ⟨_, rfl⟩
      rw [← hw3]
      have hb3 : Below wB.heap.size wB w3 := by rw [hw3]; exact bAl _ _
      have hnew : w3.heap[wB.heap.size]? = some (.cells #[.int .i64 d0.h.f0, .int .i64 d0.h.f1, .int .i64 d0.h.f2, .int .i64 d0.h.f3, .int .i64 d0.h.f4, .int .i64 d0.h.f5, .int .i64 d0.h.pair, .int .i64 d0.h.pl, .slice q01 d0.pairs.length q02, .int .i64 d0.h.fn, .int .i64 d0.h.fl, .slice q03 d0.funs.length q04, .int .i64 d1.h.f0, .int .i64 d1.h.f1, .int .i64 d1.h.f2, .int .i64 d1.h.f3, .int .i64 d1.h.f4, .int .i64 d1.h.f5, .int .i64 d1.h.pair, .int .i64 d1.h.pl, .slice q11 d1.pairs.length q12, .int .i64 d1.h.fn, .int .i64 d1.h.fl, .slice q13 d1.funs.length q14] 30 (0, 0)) := by rw [hw3]; exact heap_alloc_new _ _
      have hcos : CoS w3 (Lc (fun x => (N x ∨ x = w.heap.size + 1) ∨ x = w.heap.size + 1 + 1) w3) (.slice (some ⟨wB.heap.size, 0, none⟩) 2 2) [d0, d1] := CoS.two (r := ⟨d0.h, .slice q01 d0.pairs.length q02, .slice q03 d0.funs.length q04⟩) (s := ⟨d1.h, .slice q11 d1.pairs.length q12, .slice q13 d1.funs.length q14⟩) hnew (fun hh => by have h1 := HNB1.out _ hh; have h2 := HB.out.size; omega) (HU0.out.below hb3).raw (HU1.out.below hb3).raw
      have HCS := hid hcos
      have HBN := HB
      replace HB := hid (HB.out.trans (hb3.mono HB.out.size))
      clear hb3 hnew hcos hw3
      clear hHeld
      refine hK.out _ _ (by (try dsimp only); exact HB.out) (fun hHeld => ?_)
      clear hK K
      (try simp only [pq1, ls0, ls1])
      refine' tk_q 13 8 hHeld ?hid ?hrd
      case hid => (refine ⟨_, rfl, rfl, rfl, fun w hSw => ?_⟩; (try dsimp only at hSw); go_simp; (try with_reducible rfl))
      (try simp only [pq1, ls0, ls1])
      refine wpAnyH_done (by kernel_rfl) ?_ _
      refine NoPanic.normal ?_
      go_wp2
      go_meet
      case rel => exact ⟨wB.heap.size, rfl, HCS, HB⟩
     case rest =>
      obtain ⟨bb, rfl, HCS, HB⟩ := hcut
      obtain ⟨W1, rfl⟩ : ∃ x, x = wc := ⟨_, rfl⟩
      have hB := HB.out
      replace HX := hid (HX.out.keep hB)
      replace HO := hid (HO.out.keep hB)
      replace HR := hid (HR.out.keep hB)
      replace HF := hid (HF.out.under hB)
      replace HL := hid (HL.out.trans (hB.mono HL.out.size))
      replace HSW := hid (Nat.le_trans HSW.out hB.size)
      clear hB HB x2 x3 X3 e0 g0 e1 g1 e2 g2 e3 g3 e4 g4 e5 g5
      have HAL := hid (rall_go [d0, d1] (some ⟨bb, 0, none⟩) 2 2 W1 rfl (CoSN.mono HCS.out fun _ _ h => h.elim))
      go_wp2_with fail
      refine HAL.out.mono ?_
      rintro e W2 ⟨rfl, hB⟩
      replace HX := hid (HX.out.keep hB)
      replace HO := hid (HO.out.keep hB)
      replace HR := hid (HR.out.keep hB)
      replace HF := hid (HF.out.under hB)
      replace HL := hid (HL.out.trans (hB.mono HL.out.size))
      replace HSW := hid (Nat.le_trans HSW.out hB.size)
      replace HCS := hid (CoSN.below HCS.out hB)
      obtain ⟨A, hA⟩ : ∃ A, A = allC [d0, d1] := ⟨_, rfl⟩
      rw [← hA]
      have HA := hid hA
      clear hA hB HAL
      cases A with
      | true =>
       obtain ⟨hd, hhd⟩ : ∃ hd : Hd, hd = ⟨bitF t.flat 1 l, bitF t.flat 2 l, bitF t.flat 4 l, bitF t.flat 8 l, bitF t.flat 16 l, bitF t.flat 32 l, 0, 0, 0, 0⟩ := ⟨_, rfl⟩
       obtain ⟨PS, hPS⟩ : ∃ PS : List Co, PS = [] := ⟨_, rfl⟩
       have HHD := hid (show (⟨hd.f0, hd.f1, hd.f2, hd.f3, hd.f4, hd.f5, hd.pair, hd.pl, 0, 0⟩ : Hd) = hd ∧ (⟨hd.f0, hd.f1, hd.f2, hd.f3, hd.f4, hd.f5, hd.pair, hd.pl, 2, 0⟩ : Hd) = ⟨hd.f0, hd.f1, hd.f2, hd.f3, hd.f4, hd.f5, hd.pair, hd.pl, 2, hd.fl⟩ ∧ hd.fn = 0 ∧ hd.fl = 0 by rw [hhd]; exact ⟨rfl, rfl, rfl, rfl⟩)
       have HRES1 := hid (show goC (n + 1) true t l = .mk ⟨hd.f0, hd.f1, hd.f2, hd.f3, hd.f4, hd.f5, hd.pair, hd.pl, if t.fn = 0 then 1 else if t.fn = 1 then (if allC (((List.range (t.funs.length - 1)).map fun i => goC n false (t.funs.getD i ty0) l) ++ [goC n true (t.funs.getD (t.funs.length - 1) ty0) l]) = true then 0 else 2) else 0, if t.fn = 0 then l else 0⟩ PS (if t.fn = 1 then (if allC (((List.range (t.funs.length - 1)).map fun i => goC n false (t.funs.getD i ty0) l) ++ [goC n true (t.funs.getD (t.funs.length - 1) ty0) l]) = true then [] else ((List.range (t.funs.length - 1)).map fun i => goC n false (t.funs.getD i ty0) l) ++ [goC n true (t.funs.getD (t.funs.length - 1) ty0) l]) else []) by
        rw [hhd, hPS]; rw [goC, if_neg HALL.out]; dsimp only; rw [HTP.out, ← HA.out, HPP.out]; rfl)
       obtain ⟨pb, pn, pk, HO2, HPS⟩ : ∃ pb pn pk, Hid (CBox W2 (w.heap.size + 1 + 1) 30 ⟨hd, .slice pb pn pk, .slice none 0 0⟩) ∧ Hid (CoS W2 (Lc (fun x => (N x ∨ x = w.heap.size + 1) ∨ x = w.heap.size + 1 + 1) W2) (.slice pb pn pk) PS) := ⟨none, 0, 0, hid (by rw [hhd]; exact HO.out), hid (by rw [hPS]; exact .mkNil _ _)⟩
       clear hhd hPS HO
       have HO := HO2
       clear HO2
       have HA1 := HA
       clear HA
       go_wp2
       go_meet
       case rel => exact ⟨hd, PS, pb, pn, pk, HHD, HRES1, HO, HPS, HX, HR, HL, HSW⟩
      | false =>
       have oc6 : W2.cell? ⟨(w.heap.size + 1 + 1), 6, none⟩ = some (.int .i64 0) := HO.out.c6
       have oc8 : W2.cell? ⟨(w.heap.size + 1 + 1), 8, none⟩ = some (.slice none 0 0) := HO.out.c8
       have ofr6 := HO.out.fr 6
       have ofr8 := HO.out.fr 8
       go_wp2
       go_meet
       case rel =>
        clear oc6 oc8 ofr6 ofr8
        obtain ⟨W3, hw⟩ : ∃ x, x = ((((W2).setCell ⟨(w.heap.size + 1 + 1), 6, none⟩ (.int .i64 2))).setCell ⟨(w.heap.size + 1 + 1), 8, none⟩ (.slice (some ⟨bb, 0, none⟩) 2 2)) := ⟨_, rfl⟩
        rw [← hw]
        replace HO := hid (show CBox W3 (w.heap.size + 1 + 1) 30 ⟨⟨bitF t.flat 1 l, bitF t.flat 2 l, bitF t.flat 4 l, bitF t.flat 8 l, bitF t.flat 16 l, bitF t.flat 32 l, 2, 0, 0, 0⟩, .slice (some ⟨bb, 0, none⟩) 2 2, .slice none 0 0⟩ by rw [hw]; exact HO.out.s6.s8)
        replace HR := hid (show CBox W3 (w.heap.size + 1) 30 ⟨⟨0, 0, 0, 0, 0, 0, 0, 0, 0, 0⟩, .slice none 0 0, .slice none 0 0⟩ by rw [hw]; exact ((((HR.out).other (by omega))).other (by omega)))
        replace HX := hid (HX.out.under (w' := W3) (B := w.heap.size + 1) (by rw [hw]; exact (((Below.refl (w.heap.size + 1) W2).setCell (p := ⟨(w.heap.size + 1 + 1), 6, none⟩) (by show w.heap.size + 1 ≤ w.heap.size + 1 + 1; omega) _).setCell (p := ⟨(w.heap.size + 1 + 1), 8, none⟩) (by show w.heap.size + 1 ≤ w.heap.size + 1 + 1; omega) _)) (by omega))
        replace HL := hid (show Below w.heap.size w W3 by rw [hw]; exact ((HL.out.setCell (p := ⟨(w.heap.size + 1 + 1), 6, none⟩) (by show w.heap.size ≤ w.heap.size + 1 + 1; omega) _).setCell (p := ⟨(w.heap.size + 1 + 1), 8, none⟩) (by show w.heap.size ≤ w.heap.size + 1 + 1; omega) _))
        replace HF := hid (HF0.out.under HL.out)
        have hsw : W3.heap.size = W2.heap.size := by rw [hw]; simp [World.setCell]
        replace HSW := hid (show W.heap.size ≤ W3.heap.size by rw [hsw]; exact HSW.out)
        replace HCS := hid (show CoS W3 (Lc (fun x => (N x ∨ x = w.heap.size + 1) ∨ x = w.heap.size + 1 + 1) W3) _ _ by rw [hw]; exact (CoSN.set (CoSN.set HCS.out ⟨(w.heap.size + 1 + 1), 6, none⟩ (.inr rfl) _) ⟨(w.heap.size + 1 + 1), 8, none⟩ (.inr rfl) _))
        clear hw hsw
        obtain ⟨hd, hhd⟩ : ∃ hd : Hd, hd = ⟨bitF t.flat 1 l, bitF t.flat 2 l, bitF t.flat 4 l, bitF t.flat 8 l, bitF t.flat 16 l, bitF t.flat 32 l, 2, 0, 0, 0⟩ := ⟨_, rfl⟩
        obtain ⟨PS, hPS⟩ : ∃ PS : List Co, PS = [d0, d1] := ⟨_, rfl⟩
        have HHD := hid (show (⟨hd.f0, hd.f1, hd.f2, hd.f3, hd.f4, hd.f5, hd.pair, hd.pl, 0, 0⟩ : Hd) = hd ∧ (⟨hd.f0, hd.f1, hd.f2, hd.f3, hd.f4, hd.f5, hd.pair, hd.pl, 2, 0⟩ : Hd) = ⟨hd.f0, hd.f1, hd.f2, hd.f3, hd.f4, hd.f5, hd.pair, hd.pl, 2, hd.fl⟩ ∧ hd.fn = 0 ∧ hd.fl = 0 by rw [hhd]; exact ⟨rfl, rfl, rfl, rfl⟩)
        have HRES1 := hid (show goC (n + 1) true t l = .mk ⟨hd.f0, hd.f1, hd.f2, hd.f3, hd.f4, hd.f5, hd.pair, hd.pl, if t.fn = 0 then 1 else if t.fn = 1 then (if allC (((List.range (t.funs.length - 1)).map fun i => goC n false (t.funs.getD i ty0) l) ++ [goC n true (t.funs.getD (t.funs.length - 1) ty0) l]) = true then 0 else 2) else 0, if t.fn = 0 then l else 0⟩ PS (if t.fn = 1 then (if allC (((List.range (t.funs.length - 1)).map fun i => goC n false (t.funs.getD i ty0) l) ++ [goC n true (t.funs.getD (t.funs.length - 1) ty0) l]) = true then [] else ((List.range (t.funs.length - 1)).map fun i => goC n false (t.funs.getD i ty0) l) ++ [goC n true (t.funs.getD (t.funs.length - 1) ty0) l]) else []) by
         rw [hhd, hPS]; rw [goC, if_neg HALL.out]; dsimp only; rw [HTP.out, ← HA.out, HPP.out]; rfl)
        obtain ⟨pb, pn, pk, HO2, HPS⟩ : ∃ pb pn pk, Hid (CBox W3 (w.heap.size + 1 + 1) 30 ⟨hd, .slice pb pn pk, .slice none 0 0⟩) ∧ Hid (CoS W3 (Lc (fun x => (N x ∨ x = w.heap.size + 1) ∨ x = w.heap.size + 1 + 1) W3) (.slice pb pn pk) PS) := ⟨some ⟨bb, 0, none⟩, 2, 2, hid (by rw [hhd]; exact HO.out), hid (by rw [hPS]; exact HCS.out)⟩
        clear hhd hPS HO
        have HO := HO2
        clear HO2
        have HA1 := HA
        clear HA
        exact ⟨hd, PS, pb, pn, pk, HHD, HRES1, HO, HPS, HX, HR, HL, HSW⟩
    ·
     have hp2 : t.pair = 2 := by omega
     have bp0 : (t.pair == 0) = false := by simp [hp2]
     have bp1 : (t.pair == 1) = false := by simp [hp2]
     have bp2 : (t.pair == 2) = true := by simp [hp2]
     have hnp2 := HKP.out
     rw [if_neg (by omega), if_pos hp2] at hnp2
     have hj0 : 0 < t.pairs.length := by rw [← HPN.out]; omega
     have hn0i : (0 : Int) < (np : Int) := by omega
     have hn0n : 0 < np := by omega
     have HJ0 := hid hj0
     have x2 : W.cell? ⟨w.heap.size, 2, none⟩ = some (.int .i64 t.pair) := HX.out.c2
     have oc6 : W.cell? ⟨(w.heap.size + 1 + 1), 6, none⟩ = some (.int .i64 0) := HO.out.c6
     have oc7 : W.cell? ⟨(w.heap.size + 1 + 1), 7, none⟩ = some (.int .i64 0) := HO.out.c7
     have ofr6 := HO.out.fr 6
     have ofr7 := HO.out.fr 7
     have HPP := hid hp2
     clear hnp2 hj0 hp0 hp1 hp2
     go_upto_region 23 with fail
     clear x2 oc6 oc7 ofr6 ofr7
     obtain ⟨v1, hw⟩ : ∃ x, x = ((((W).setCell ⟨(w.heap.size + 1 + 1), 6, none⟩ (.int .i64 3))).setCell ⟨(w.heap.size + 1 + 1), 7, none⟩ (.int .i64 l)) := ⟨_, rfl⟩
     rw [← hw]
     replace HO := hid (show CBox v1 (w.heap.size + 1 + 1) 30 ⟨⟨bitF t.flat 1 l, bitF t.flat 2 l, bitF t.flat 4 l, bitF t.flat 8 l, bitF t.flat 16 l, bitF t.flat 32 l, 3, l, 0, 0⟩, .slice none 0 0, .slice none 0 0⟩ by rw [hw]; exact HO.out.s6.s7)
     replace HR := hid (show CBox v1 (w.heap.size + 1) 30 ⟨⟨0, 0, 0, 0, 0, 0, 0, 0, 0, 0⟩, .slice none 0 0, .slice none 0 0⟩ by rw [hw]; exact ((((HR.out).other (by omega))).other (by omega)))
     replace HX := hid (HX.out.under (w' := v1) (B := w.heap.size + 1) (by rw [hw]; exact (((Below.refl (w.heap.size + 1) W).setCell (p := ⟨(w.heap.size + 1 + 1), 6, none⟩) (by show w.heap.size + 1 ≤ w.heap.size + 1 + 1; omega) _).setCell (p := ⟨(w.heap.size + 1 + 1), 7, none⟩) (by show w.heap.size + 1 ≤ w.heap.size + 1 + 1; omega) _)) (by omega))
     replace HL := hid (show Below w.heap.size w v1 by rw [hw]; exact ((HL.out.setCell (p := ⟨(w.heap.size + 1 + 1), 6, none⟩) (by show w.heap.size ≤ w.heap.size + 1 + 1; omega) _).setCell (p := ⟨(w.heap.size + 1 + 1), 7, none⟩) (by show w.heap.size ≤ w.heap.size + 1 + 1; omega) _))
     replace HF := hid (HF0.out.under HL.out)
     have hsw : v1.heap.size = W.heap.size := by rw [hw]; simp [World.setCell]
     replace HSW := hid (show W.heap.size ≤ v1.heap.size by rw [hsw]; exact HSW.out)
     clear hw hsw
     obtain ⟨x0, hx0⟩ : ∃ x, t.pairs.getD 0 ty0 = x := ⟨_, rfl⟩
     obtain ⟨b, off, p1, c1, p2, c2, rfl, hb, e0, e1, e2, e3, e4, e5, hv0⟩ := TyS.elem (HP0.out.under HL.out) HJ0.out hx0
     simp only [Nat.zero_mul, Nat.add_zero] at e0 e1 e2 e3 e4 e5
     have HDX0 := hid (show deepF n x0 = true by rw [← hx0]; exact HDP.out _ (getT_mem HJ0.out))
     obtain ⟨d0, hd0'⟩ : ∃ d, d = goC n true x0 l := ⟨_, rfl⟩
     have HTP := hid (show t.pairs.map (fun x => goC n true x l) = [d0] by
      have hl : t.pairs.length = 1 := by rw [← HPN.out]; have h1 := HKP.out; rw [HPP.out, if_neg (by omega), if_pos rfl] at h1; omega
      rw [hd0', ← hx0]
      match h : t.pairs, hl with
      | [y0], _ => rfl)
     have C := HTO.out x0 l _ v1 (fun x => (N x ∨ x = w.heap.size + 1) ∨ x = w.heap.size + 1 + 1) HDX0.out (fun y hy => Nat.lt_of_lt_of_le (HNB1.out y hy) HSW.out) hv0
     rw [← hd0'] at C
     have HC := hid C
     have x3 : v1.cell? ⟨w.heap.size, 3, none⟩ = some (.slice (some ⟨b, off, none⟩) np pc) := HX.out.c3
     clear hx0 hv0 hb hd0' C
     go_wp2_with fail
     refine HC.out.mono ?_
     rintro e v5 ⟨⟨u, rfl, hu⟩, hB⟩
     obtain ⟨q01, q02, q03, q04, rfl, _, _⟩ := hu.form
     have HU0 := hid hu
     replace HX := hid (HX.out.keep hB)
     replace HO := hid (HO.out.keep hB)
     replace HR := hid (HR.out.keep hB)
     replace HF := hid (HF.out.under hB)
     replace HL := hid (HL.out.trans (hB.mono HL.out.size))
     replace HSW := hid (Nat.le_trans HSW.out hB.size)
     clear hu hB x3 e0 e1 e2 e3 e4 e5
     have oc8 : v5.cell? ⟨(w.heap.size + 1 + 1), 8, none⟩ = some (.slice none 0 0) := HO.out.c8
     have ofr8 := HO.out.fr 8
     have hlo : (w.heap.size + 1 + 1) < v5.heap.size := HO.out.lt
     go_wp2
     go_meet
     case rel =>
      have HN6 := hid (show ∀ y, (fun x => (N x ∨ x = w.heap.size + 1) ∨ x = w.heap.size + 1 + 1) y → y < v5.heap.size from fun y hy => Nat.lt_of_lt_of_le (HNB1.out y hy) HSW.out)
      clear oc8 ofr8
      obtain ⟨v6, hw⟩ : ∃ x, x = ((v5).setCell ⟨(w.heap.size + 1 + 1), 8, none⟩ (.slice (some ⟨v5.heap.size, 0, none⟩) 1 1)) := ⟨_, rfl⟩
      rw [← hw]
      replace HO := hid (show CBox v6 (w.heap.size + 1 + 1) 30 ⟨⟨bitF t.flat 1 l, bitF t.flat 2 l, bitF t.flat 4 l, bitF t.flat 8 l, bitF t.flat 16 l, bitF t.flat 32 l, 3, l, 0, 0⟩, .slice (some ⟨v5.heap.size, 0, none⟩) 1 1, .slice none 0 0⟩ by rw [hw]; exact HO.out.s8)
      replace HR := hid (show CBox v6 (w.heap.size + 1) 30 ⟨⟨0, 0, 0, 0, 0, 0, 0, 0, 0, 0⟩, .slice none 0 0, .slice none 0 0⟩ by rw [hw]; exact ((HR.out).other (by omega)))
      replace HX := hid (HX.out.under (w' := v6) (B := w.heap.size + 1) (by rw [hw]; exact ((Below.refl (w.heap.size + 1) v5).setCell (p := ⟨(w.heap.size + 1 + 1), 8, none⟩) (by show w.heap.size + 1 ≤ w.heap.size + 1 + 1; omega) _)) (by omega))
      replace HL := hid (show Below w.heap.size w v6 by rw [hw]; exact (HL.out.setCell (p := ⟨(w.heap.size + 1 + 1), 8, none⟩) (by show w.heap.size ≤ w.heap.size + 1 + 1; omega) _))
      replace HF := hid (HF0.out.under HL.out)
      have hsw : v6.heap.size = v5.heap.size := by rw [hw]; simp [World.setCell]
      replace HSW := hid (show W.heap.size ≤ v6.heap.size by rw [hsw]; exact HSW.out)
      replace HU0 := hid (show CoVN (fun x => (N x ∨ x = w.heap.size + 1) ∨ x = w.heap.size + 1 + 1) v6 _ d0 by rw [hw]; exact CoVN.set HU0.out ⟨(w.heap.size + 1 + 1), 8, none⟩ (.inr rfl) _)
      have HS6 := hid hsw
      clear hw hsw hlo
      obtain ⟨v7, hv7⟩ : ∃ x, x = v6.alloc (.cells #[.int .i64 d0.h.f0, .int .i64 d0.h.f1, .int .i64 d0.h.f2, .int .i64 d0.h.f3, .int .i64 d0.h.f4, .int .i64 d0.h.f5, .int .i64 d0.h.pair, .int .i64 d0.h.pl, .slice q01 d0.pairs.length q02, .int .i64 d0.h.fn, .int .i64 d0.h.fl, .slice q03 d0.funs.length q04] 30) := ⟨_, rfl⟩
      rw [← hv7]
      have hB : Below v6.heap.size v6 v7 := by rw [hv7]; exact bAl _ _
      have h1 := CoS.one (T := 30) (N := (fun x => (N x ∨ x = w.heap.size + 1) ∨ x = w.heap.size + 1 + 1)) (fun y hy => by rw [HS6.out]; exact HN6.out y hy) HU0.out.raw
      rw [HS6.out] at h1
      have HCS := hid (show CoS v7 (Lc (fun x => (N x ∨ x = w.heap.size + 1) ∨ x = w.heap.size + 1 + 1) v7) (.slice (some ⟨v5.heap.size, 0, none⟩) 1 1) [d0] by rw [hv7]; exact h1)
      replace HX := hid (HX.out.keep hB)
      replace HO := hid (HO.out.keep hB)
      replace HR := hid (HR.out.keep hB)
      replace HF := hid (HF.out.under hB)
      replace HL := hid (HL.out.trans (hB.mono HL.out.size))
      replace HSW := hid (Nat.le_trans HSW.out hB.size)
      clear h1 hB hv7 HU0
      obtain ⟨hd, hhd⟩ : ∃ hd : Hd, hd = ⟨bitF t.flat 1 l, bitF t.flat 2 l, bitF t.flat 4 l, bitF t.flat 8 l, bitF t.flat 16 l, bitF t.flat 32 l, 3, l, 0, 0⟩ := ⟨_, rfl⟩
      obtain ⟨PS, hPS⟩ : ∃ PS : List Co, PS = [d0] := ⟨_, rfl⟩
      have HHD := hid (show (⟨hd.f0, hd.f1, hd.f2, hd.f3, hd.f4, hd.f5, hd.pair, hd.pl, 0, 0⟩ : Hd) = hd ∧ (⟨hd.f0, hd.f1, hd.f2, hd.f3, hd.f4, hd.f5, hd.pair, hd.pl, 2, 0⟩ : Hd) = ⟨hd.f0, hd.f1, hd.f2, hd.f3, hd.f4, hd.f5, hd.pair, hd.pl, 2, hd.fl⟩ ∧ hd.fn = 0 ∧ hd.fl = 0 by rw [hhd]; exact ⟨rfl, rfl, rfl, rfl⟩)
      have HRES1 := hid (show goC (n + 1) true t l = .mk ⟨hd.f0, hd.f1, hd.f2, hd.f3, hd.f4, hd.f5, hd.pair, hd.pl, if t.fn = 0 then 1 else if t.fn = 1 then (if allC (((List.range (t.funs.length - 1)).map fun i => goC n false (t.funs.getD i ty0) l) ++ [goC n true (t.funs.getD (t.funs.length - 1) ty0) l]) = true then 0 else 2) else 0, if t.fn = 0 then l else 0⟩ PS (if t.fn = 1 then (if allC (((List.range (t.funs.length - 1)).map fun i => goC n false (t.funs.getD i ty0) l) ++ [goC n true (t.funs.getD (t.funs.length - 1) ty0) l]) = true then [] else ((List.range (t.funs.length - 1)).map fun i => goC n false (t.funs.getD i ty0) l) ++ [goC n true (t.funs.getD (t.funs.length - 1) ty0) l]) else []) by
       rw [hhd, hPS]; rw [goC, if_neg HALL.out]; dsimp only; rw [HTP.out, HPP.out]; rfl)
      obtain ⟨pb, pn, pk, HO2, HPS⟩ : ∃ pb pn pk, Hid (CBox v7 (w.heap.size + 1 + 1) 30 ⟨hd, .slice pb pn pk, .slice none 0 0⟩) ∧ Hid (CoS v7 (Lc (fun x => (N x ∨ x = w.heap.size + 1) ∨ x = w.heap.size + 1 + 1) v7) (.slice pb pn pk) PS) := ⟨some ⟨v5.heap.size, 0, none⟩, 1, 1, hid (by rw [hhd]; exact HO.out), hid (by rw [hPS]; exact HCS.out)⟩
      clear hhd hPS HO
      have HO := HO2
      clear HO2
      exact ⟨hd, PS, pb, pn, pk, HHD, HRES1, HO, HPS, HX, HR, HL, HSW⟩
   case rest =>
    obtain ⟨hd, PS, pb, pn, pk, HHD, HRES1, HO2, HPS, HX2, HR2, HL2, HSW2⟩ := hcut
    clear HO HX HR HL HSW HF
    obtain ⟨wq, rfl⟩ : ∃ x, x = wc := ⟨_, rfl⟩
    have HO := HO2
    have HX := HX2
    have HR := HR2
    have HL := HL2
    have HSW := HSW2
    have HF := hid (HF0.out.under HL.out)
    clear HO2 HX2 HR2 HL2 HSW2
    by_cases hfn0 : t.fn = 0
    case pos =>
     have bfn0 : (t.fn == 0) = true := by simp [hfn0]
     have bfn1 : (t.fn == 1) = false := by simp [hfn0]
     have HF1 := hid hfn0
     have HF2 := hid (show ¬ t.fn = 1 by omega)
     have x4 : wq.cell? ⟨w.heap.size, 4, none⟩ = some (.int .i64 t.fn) := HX.out.c4
     have oc9 : wq.cell? ⟨(w.heap.size + 1 + 1), 9, none⟩ = some (.int .i64 hd.fn) := HO.out.c9
     have oc10 : wq.cell? ⟨(w.heap.size + 1 + 1), 10, none⟩ = some (.int .i64 hd.fl) := HO.out.c10
     have ofr9 := HO.out.fr 9
     have ofr10 := HO.out.fr 10
     clear hfn0
     go_upto_region 38 with fail
     clear x4 oc9 oc10 ofr9 ofr10
     obtain ⟨u9, hw⟩ : ∃ x, x = ((((wq).setCell ⟨(w.heap.size + 1 + 1), 9, none⟩ (.int .i64 1))).setCell ⟨(w.heap.size + 1 + 1), 10, none⟩ (.int .i64 l)) := ⟨_, rfl⟩
     rw [← hw]
     replace HO := hid (show CBox u9 (w.heap.size + 1 + 1) 30 ⟨⟨hd.f0, hd.f1, hd.f2, hd.f3, hd.f4, hd.f5, hd.pair, hd.pl, 1, l⟩, .slice pb pn pk, .slice none 0 0⟩ by rw [hw]; exact HO.out.s9.s10)
     replace HR := hid (show CBox u9 (w.heap.size + 1) 30 ⟨⟨0, 0, 0, 0, 0, 0, 0, 0, 0, 0⟩, .slice none 0 0, .slice none 0 0⟩ by rw [hw]; exact ((((HR.out).other (by omega))).other (by omega)))
     replace HX := hid (HX.out.under (w' := u9) (B := w.heap.size + 1) (by rw [hw]; exact (((Below.refl (w.heap.size + 1) wq).setCell (p := ⟨(w.heap.size + 1 + 1), 9, none⟩) (by show w.heap.size + 1 ≤ w.heap.size + 1 + 1; omega) _).setCell (p := ⟨(w.heap.size + 1 + 1), 10, none⟩) (by show w.heap.size + 1 ≤ w.heap.size + 1 + 1; omega) _)) (by omega))
     replace HL := hid (show Below w.heap.size w u9 by rw [hw]; exact ((HL.out.setCell (p := ⟨(w.heap.size + 1 + 1), 9, none⟩) (by show w.heap.size ≤ w.heap.size + 1 + 1; omega) _).setCell (p := ⟨(w.heap.size + 1 + 1), 10, none⟩) (by show w.heap.size ≤ w.heap.size + 1 + 1; omega) _))
     replace HF := hid (HF0.out.under HL.out)
     have hsw : u9.heap.size = wq.heap.size := by rw [hw]; simp [World.setCell]
     replace HSW := hid (show W.heap.size ≤ u9.heap.size by rw [hsw]; exact HSW.out)
     replace HPS := hid (show CoS u9 (Lc (fun x => (N x ∨ x = w.heap.size + 1) ∨ x = w.heap.size + 1 + 1) u9) _ _ by rw [hw]; exact (CoSN.set (CoSN.set HPS.out ⟨(w.heap.size + 1 + 1), 9, none⟩ (.inr rfl) _) ⟨(w.heap.size + 1 + 1), 10, none⟩ (.inr rfl) _))
     clear hw hsw
     obtain ⟨o0, o1, o2, o3, o4, o5, o6, o7, o8, o9, o10, o11⟩ := HO.out.cs
     (try dsimp only at o0 o1 o2 o3 o4 o5 o6 o7 o8 o9 o10 o11)
     obtain ⟨r0, r1, r2, r3, r4, r5, r6, r7, r8, r9, r10, r11⟩ := HR.out.cs
     (try dsimp only at r0 r1 r2 r3 r4 r5 r6 r7 r8 r9 r10 r11)
     obtain ⟨fr0, fr1, fr2, fr3, fr4, fr5, fr6, fr7, fr8, fr9, fr10, fr11⟩ := HR.out.frs
     go_wp2
     have HPOST := hid (show CoPost N (goC (n + 1) true t l) w (.returned (coV ⟨⟨hd.f0, hd.f1, hd.f2, hd.f3, hd.f4, hd.f5, hd.pair, hd.pl, 1, l⟩, .slice pb pn pk, .slice none 0 0⟩)) (set12 (u9) (w.heap.size + 1) ⟨⟨hd.f0, hd.f1, hd.f2, hd.f3, hd.f4, hd.f5, hd.pair, hd.pl, 1, l⟩, .slice pb pn pk, .slice none 0 0⟩) from by rw [HRES1.out, if_pos HF1.out, if_pos HF1.out, if_neg HF2.out]; exact ⟨⟨_, rfl, (CoVN.set12 (g := w.heap.size + 1) (CoVN.mk (h := ⟨hd.f0, hd.f1, hd.f2, hd.f3, hd.f4, hd.f5, hd.pair, hd.pl, 1, l⟩) HPS.out (.mkNil _ _)) (.inl (.inr rfl))).mono fun _ _ h => .inl (.inl h)⟩, Below.set12 (g := w.heap.size + 1) HL.out (by omega)⟩)
     refine ret12 (u9) (w.heap.size + 1) ⟨⟨hd.f0, hd.f1, hd.f2, hd.f3, hd.f4, hd.f5, hd.pair, hd.pl, 1, l⟩, .slice pb pn pk, .slice none 0 0⟩ (HR.out) HPOST.out (fun wf hb => ?_) rfl
     obtain ⟨z0, z1, z2, z3, z4, z5, z6, z7, z8, z9, z10, z11⟩ := hb.cs
     simp [results, Tryd.results32, go_sem, coV, z0, z1, z2, z3, z4, z5, z6, z7, z8, z9, z10, z11]
    have bfn0 : (t.fn == 0) = false := beq_false_of_ne hfn0
    have HRES := hid (show goC (n + 1) true t l = .mk ⟨hd.f0, hd.f1, hd.f2, hd.f3, hd.f4, hd.f5, hd.pair, hd.pl, if t.fn = 1 then (if allC (((List.range (t.funs.length - 1)).map fun i => goC n false (t.funs.getD i ty0) l) ++ [goC n true (t.funs.getD (t.funs.length - 1) ty0) l]) = true then 0 else 2) else 0, 0⟩ PS (if t.fn = 1 then (if allC (((List.range (t.funs.length - 1)).map fun i => goC n false (t.funs.getD i ty0) l) ++ [goC n true (t.funs.getD (t.funs.length - 1) ty0) l]) = true then [] else ((List.range (t.funs.length - 1)).map fun i => goC n false (t.funs.getD i ty0) l) ++ [goC n true (t.funs.getD (t.funs.length - 1) ty0) l]) else []) by
     rw [HRES1.out, if_neg hfn0, if_neg hfn0])
    replace HHD := hid (show (⟨hd.f0, hd.f1, hd.f2, hd.f3, hd.f4, hd.f5, hd.pair, hd.pl, 0, 0⟩ : Hd) = hd ∧ (⟨hd.f0, hd.f1, hd.f2, hd.f3, hd.f4, hd.f5, hd.pair, hd.pl, 2, 0⟩ : Hd) = ⟨hd.f0, hd.f1, hd.f2, hd.f3, hd.f4, hd.f5, hd.pair, hd.pl, 2, hd.fl⟩ from ⟨HHD.out.1, HHD.out.2.1⟩)
    clear hfn0 HRES1
    by_cases hf1 : t.fn = 1
    case neg =>
     have bf1 : (t.fn == 1) = false := beq_false_of_ne hf1
     have HF1 := hid hf1
     have x4 : wq.cell? ⟨w.heap.size, 4, none⟩ = some (.int .i64 t.fn) := HX.out.c4
     clear hf1
     obtain ⟨o0, o1, o2, o3, o4, o5, o6, o7, o8, o9, o10, o11⟩ := HO.out.cs
     (try dsimp only at o0 o1 o2 o3 o4 o5 o6 o7 o8 o9 o10 o11)
     obtain ⟨r0, r1, r2, r3, r4, r5, r6, r7, r8, r9, r10, r11⟩ := HR.out.cs
     (try dsimp only at r0 r1 r2 r3 r4 r5 r6 r7 r8 r9 r10 r11)
     obtain ⟨fr0, fr1, fr2, fr3, fr4, fr5, fr6, fr7, fr8, fr9, fr10, fr11⟩ := HR.out.frs
     go_wp2
     have HPOST := hid (show CoPost N (goC (n + 1) true t l) w (.returned (coV ⟨hd, .slice pb pn pk, .slice none 0 0⟩)) (set12 (wq) (w.heap.size + 1) ⟨hd, .slice pb pn pk, .slice none 0 0⟩) from by rw [HRES.out, if_neg HF1.out, if_neg HF1.out, HHD.out.1]; exact ⟨⟨_, rfl, (CoVN.set12 (g := w.heap.size + 1) (CoVN.mk (h := hd) HPS.out (.mkNil _ _)) (.inl (.inr rfl))).mono fun _ _ h => .inl (.inl h)⟩, Below.set12 (g := w.heap.size + 1) HL.out (by omega)⟩)
     refine ret12 (wq) (w.heap.size + 1) ⟨hd, .slice pb pn pk, .slice none 0 0⟩ (HR.out) HPOST.out (fun wf hb => ?_) rfl
     obtain ⟨z0, z1, z2, z3, z4, z5, z6, z7, z8, z9, z10, z11⟩ := hb.cs
     simp [results, Tryd.results32, go_sem, coV, z0, z1, z2, z3, z4, z5, z6, z7, z8, z9, z10, z11]

    have bf1 : (t.fn == 1) = true := by simp [hf1]
    have hk1 := HKF.out hf1
    obtain ⟨k, hk⟩ : ∃ k, nf = k + 1 := ⟨nf - 1, by omega⟩
    subst hk
    have bk8 : k ≤ 8 := by omega
    have HF1 := hid hf1
    have x4 : wq.cell? ⟨w.heap.size, 4, none⟩ = some (.int .i64 t.fn) := HX.out.c4
    have x5 : wq.cell? ⟨w.heap.size, 5, none⟩ = some (.slice fa (k + 1) fc) := HX.out.c5
    clear hf1 hk1
    go_wp2
    go_loopw [9, 11] (fun lv iv wr => GoR (fun x => (N x ∨ x = w.heap.size + 1) ∨ x = w.heap.size + 1 + 1) 30 n false l k wq t.funs lv iv wr) (fun _ iv _ => k - (intOf iv).toNat)
    case atStart => exact ⟨0, none, 0, Nat.zero_le _, rfl, rfl, hid RowC.nil, hid (Below.refl _ _)⟩
    case round =>
     clear x4 x5
     obtain ⟨i, ra, rc, hi1, rfl, rfl, HROW, HB⟩ := hrel
     have x5 : wr.cell? ⟨w.heap.size, 5, none⟩ = some (.slice fa (k + 1) fc) := (HX.out.keep HB.out).c5
     have hi0 : (0 : Int) ≤ (i : Int) := Int.natCast_nonneg _
     have hik : (i : Int) ≤ 8 := by omega
     by_cases hlt : i < k
     ·
      have hi2 : (i : Int) < (k : Int) := by omega
      have hi3 : (i : Int) < (k : Int) + 1 := by omega
      have hj : i < t.funs.length := by rw [← HFN.out]; omega
      obtain ⟨x, hx⟩ : ∃ x, t.funs.getD i ty0 = x := ⟨_, rfl⟩
      obtain ⟨b, off, p1, c1, p2, c2, rfl, hb, e0, e1, e2, e3, e4, e5, hv⟩ := TyS.elem (HF.out.under HB.out) hj hx

      have hdx : deepF n x = true := by rw [← hx]; exact HDF.out _ (getT_mem hj)
      have HLE := hid (show ((List.range i).map fun j => goC n false (t.funs.getD j ty0) l).length = i by simp)
      have hrl := HROW.out.lt
      have C := HFR.out x l _ wr (fun y => (fun x => (N x ∨ x = w.heap.size + 1) ∨ x = w.heap.size + 1 + 1) y ∨ (Value.slice ra i rc).ownBlock = some y) hdx (fun y hy => hy.elim (fun h => Nat.lt_of_lt_of_le (HNB1.out y h) (by have h1 := HSW.out; have h2 := HB.out.size; omega)) fun h => (hrl y h).2) hv
      obtain ⟨d, hd⟩ : ∃ d, d = goC n false x l := ⟨_, rfl⟩
      rw [← hd] at C
      have HC := hid C
      have HLT := hid hlt
      have HSN := hid (show ((List.range (i + 1)).map fun j => goC n false (t.funs.getD j ty0) l) = ((List.range i).map fun j => goC n false (t.funs.getD j ty0) l) ++ [d] by rw [List.range_succ, List.map_append, hd, ← hx]; rfl)
      clear hx hv hb hdx hj C hd hrl hlt hi1
      go_wp2_with fail
      refine HC.out.mono ?_
      rintro e w4 ⟨⟨u, rfl, hu⟩, hb4⟩
      have HROW4 := hid (HROW.out.below hb4)
      have HBW4 := hid (HB.out.trans (hb4.mono HB.out.size))
      clear hb4 e0 e1 e2 e3 e4 e5 x5
      obtain ⟨q1, k1, q2, k2, rfl, _, _⟩ := hu.form
      have HU := hid hu.raw
      obtain ⟨rs, hown, hraw⟩ := HROW4.out
      rw [HLE.out] at hown
      have HOWN := hid (hown.alloc (.cells #[.int .i64 d.h.f0, .int .i64 d.h.f1, .int .i64 d.h.f2, .int .i64 d.h.f3, .int .i64 d.h.f4, .int .i64 d.h.f5, .int .i64 d.h.pair, .int .i64 d.h.pl, .slice q1 d.pairs.length k1, .int .i64 d.h.fn, .int .i64 d.h.fl, .slice q2 d.funs.length k2] 30))
      have HRAW := hid hraw
      have HONE := hid (show ∀ y ∈ ([.int .i64 d.h.f0, .int .i64 d.h.f1, .int .i64 d.h.f2, .int .i64 d.h.f3, .int .i64 d.h.f4, .int .i64 d.h.f5, .int .i64 d.h.pair, .int .i64 d.h.pl, .slice q1 d.pairs.length k1, .int .i64 d.h.fn, .int .i64 d.h.fl, .slice q2 d.funs.length k2] : List Value), y.oneCell' = true by intro y hy; simp only [List.mem_cons, List.not_mem_nil, or_false] at hy; rcases hy with rfl | rfl | rfl | rfl | rfl | rfl | rfl | rfl | rfl | rfl | rfl | rfl <;> rfl)
      have HMX := hid (show i + 1 ≤ maxLen by unfold maxLen; omega)
      have HBY := hid (show (i + 1) * 128 ≤ 140737488355328 by omega)
      have HBS := hid (show wq.heap.size ≤ (w4.alloc (.cells #[.int .i64 d.h.f0, .int .i64 d.h.f1, .int .i64 d.h.f2, .int .i64 d.h.f3, .int .i64 d.h.f4, .int .i64 d.h.f5, .int .i64 d.h.pair, .int .i64 d.h.pl, .slice q1 d.pairs.length k1, .int .i64 d.h.fn, .int .i64 d.h.fl, .slice q2 d.funs.length k2] 30)).heap.size by have h1 := HBW4.out.size; simp; omega)
      have HSZ4 := hid (show (w4.alloc (.cells #[.int .i64 d.h.f0, .int .i64 d.h.f1, .int .i64 d.h.f2, .int .i64 d.h.f3, .int .i64 d.h.f4, .int .i64 d.h.f5, .int .i64 d.h.pair, .int .i64 d.h.pl, .slice q1 d.pairs.length k1, .int .i64 d.h.fn, .int .i64 d.h.fl, .slice q2 d.funs.length k2] 30)).heap.size = w4.heap.size + 1 by simp)
      clear hu hown hraw
      go_wp2_with (at_builtin; refine wpList_append_lies _ rfl _ _ 28 rfl wq.heap.size 30 i0 (.agg #[.int .i64 0, .int .i64 0, .int .i64 0, .int .i64 0, .int .i64 0, .int .i64 0, .int .i64 0, .int .i64 0, .slice none 0 0, .int .i64 0, .int .i64 0, .slice none 0 0]) 12 128 Tryd.underlying28 hi hz0 hz1 hz2 rfl (by decide) _ i (cosCells rs) rfl HOWN.out ⟨w4.heap.size, 0, none⟩ 1 1 [.int .i64 d.h.f0, .int .i64 d.h.f1, .int .i64 d.h.f2, .int .i64 d.h.f3, .int .i64 d.h.f4, .int .i64 d.h.f5, .int .i64 d.h.pair, .int .i64 d.h.pl, .slice q1 d.pairs.length k1, .int .i64 d.h.fn, .int .i64 d.h.fl, .slice q2 d.funs.length k2] rfl rfl (World.news_of_block (heap_alloc_new w4 _)) HONE.out (by decide) HMX.out HBY.out HBS.out (w4.heap.size + 1) HSZ4.out ?_)
      intro gg cap w5 hown5 hgrow5 hlies5 hlt5
      have hlow := HROW4.out.lt
      have hrow5 : RowC 30 (fun x => (N x ∨ x = w.heap.size + 1) ∨ x = w.heap.size + 1 + 1) wq.heap.size w5 (.slice (some ⟨gg, 0, none⟩) (i + 1) cap) (((List.range i).map fun j => goC n false (t.funs.getD j ty0) l) ++ [d]) := by
       have h2 : RawCo w4 (fun b => Lc (fun x => (N x ∨ x = w.heap.size + 1) ∨ x = w.heap.size + 1 + 1) w4 b ∧ (Value.slice ra i rc).ownBlock ≠ some b) ⟨d.h, .slice q1 d.pairs.length k1, .slice q2 d.funs.length k2⟩ d := HU.out.mono (fun b h => ⟨⟨h.1, fun e => h.2 (.inl e)⟩, fun e => h.2 (.inr e)⟩) fun _ _ _ => rfl
       have hlen := HLE.out
       have h3 := rowc_push (l := ((List.range i).map fun j => goC n false (t.funs.getD j ty0) l)) (cap := cap) HRAW.out h2 hgrow5 (hlies5.imp id id) (by rw [hlen]; exact hown5)
       rw [hlen] at h3; exact h3
      have hb5 : Below wq.heap.size wq w5 := (HBW4.out.alloc HBW4.out.size _).grown hgrow5 (by rw [HSZ4.out]; have := HBW4.out.size; omega) fun x hx => (hlow x hx).1
      have HROW5 := hid hrow5
      have HB5 := hid hb5
      clear hrow5 hb5 hown5 hgrow5 hlies5 hlt5 hlow
      rw [← HSN.out] at HROW5
      go_wp2
      refine ⟨⟨i + 1, some ⟨gg, 0, none⟩, cap, HLT.out, by go_num, by go_num, HROW5, HB5⟩, by have := HLT.out; simp [intOf]; omega⟩
     ·
      have hin : i = k := by omega
      rw [hin] at HROW
      obtain ⟨W1, rfl⟩ : ∃ x, x = wr := ⟨_, rfl⟩
      have hj : k < t.funs.length := by rw [← HFN.out]; omega
      obtain ⟨x, hx⟩ : ∃ x, t.funs.getD k ty0 = x := ⟨_, rfl⟩
      obtain ⟨b, off, p1, c1, p2, c2, rfl, hb, e0, e1, e2, e3, e4, e5, hv⟩ := TyS.elem (HF.out.under HB.out) hj hx

      have hdx : deepF n x = true := by rw [← hx]; exact HDF.out _ (getT_mem hj)
      have HLE := hid (show ((List.range k).map fun j => goC n false (t.funs.getD j ty0) l).length = k by simp)
      have hrl := HROW.out.lt
      have C := HTO.out x l _ W1 (fun y => (fun x => (N x ∨ x = w.heap.size + 1) ∨ x = w.heap.size + 1 + 1) y ∨ (Value.slice ra k rc).ownBlock = some y) hdx (fun y hy => hy.elim (fun h => Nat.lt_of_lt_of_le (HNB1.out y h) (by have h1 := HSW.out; have h2 := HB.out.size; omega)) fun h => (hrl y h).2) hv
      obtain ⟨d, hd⟩ : ∃ d, d = goC n true x l := ⟨_, rfl⟩
      rw [← hd] at C
      have HC := hid C
      obtain ⟨FS, hFS⟩ : ∃ FS, FS = ((List.range k).map fun j => goC n false (t.funs.getD j ty0) l) ++ [d] := ⟨_, rfl⟩
      have HFS := hid hFS
      have HLF := hid (show k + 1 = FS.length by rw [hFS]; simp)
      have HRS := hid (show ((List.range (t.funs.length - 1)).map fun j => goC n false (t.funs.getD j ty0) l) ++ [goC n true (t.funs.getD (t.funs.length - 1) ty0) l] = FS by rw [← HFN.out, Nat.add_sub_cancel, hFS, hd, ← hx])
      have hk0 : (0 : Int) ≤ (k : Int) := Int.natCast_nonneg _
      have hk1 : (k : Int) < (k : Int) + 1 := by omega
      rw [hin] at *
      clear hx hv hb hdx hj C hd hrl hlt hi1 hin hFS
      go_wp2_with fail
      refine HC.out.mono ?_
      rintro e w4 ⟨⟨u, rfl, hu⟩, hb4⟩
      have HROW4 := hid (HROW.out.below hb4)
      have HBW4 := hid (HB.out.trans (hb4.mono HB.out.size))
      clear hb4 e0 e1 e2 e3 e4 e5 x5
      obtain ⟨q1, k1, q2, k2, rfl, _, _⟩ := hu.form
      have HU := hid hu.raw
      obtain ⟨rs, hown, hraw⟩ := HROW4.out
      rw [HLE.out] at hown
      have HOWN := hid (hown.alloc (.cells #[.int .i64 d.h.f0, .int .i64 d.h.f1, .int .i64 d.h.f2, .int .i64 d.h.f3, .int .i64 d.h.f4, .int .i64 d.h.f5, .int .i64 d.h.pair, .int .i64 d.h.pl, .slice q1 d.pairs.length k1, .int .i64 d.h.fn, .int .i64 d.h.fl, .slice q2 d.funs.length k2] 30))
      have HRAW := hid hraw
      have HONE := hid (show ∀ y ∈ ([.int .i64 d.h.f0, .int .i64 d.h.f1, .int .i64 d.h.f2, .int .i64 d.h.f3, .int .i64 d.h.f4, .int .i64 d.h.f5, .int .i64 d.h.pair, .int .i64 d.h.pl, .slice q1 d.pairs.length k1, .int .i64 d.h.fn, .int .i64 d.h.fl, .slice q2 d.funs.length k2] : List Value), y.oneCell' = true by intro y hy; simp only [List.mem_cons, List.not_mem_nil, or_false] at hy; rcases hy with rfl | rfl | rfl | rfl | rfl | rfl | rfl | rfl | rfl | rfl | rfl | rfl <;> rfl)
      have HMX := hid (show k + 1 ≤ maxLen by unfold maxLen; omega)
      have HBY := hid (show (k + 1) * 128 ≤ 140737488355328 by omega)
      have HBS := hid (show wq.heap.size ≤ (w4.alloc (.cells #[.int .i64 d.h.f0, .int .i64 d.h.f1, .int .i64 d.h.f2, .int .i64 d.h.f3, .int .i64 d.h.f4, .int .i64 d.h.f5, .int .i64 d.h.pair, .int .i64 d.h.pl, .slice q1 d.pairs.length k1, .int .i64 d.h.fn, .int .i64 d.h.fl, .slice q2 d.funs.length k2] 30)).heap.size by have h1 := HBW4.out.size; simp; omega)
      have HSZ4 := hid (show (w4.alloc (.cells #[.int .i64 d.h.f0, .int .i64 d.h.f1, .int .i64 d.h.f2, .int .i64 d.h.f3, .int .i64 d.h.f4, .int .i64 d.h.f5, .int .i64 d.h.pair, .int .i64 d.h.pl, .slice q1 d.pairs.length k1, .int .i64 d.h.fn, .int .i64 d.h.fl, .slice q2 d.funs.length k2] 30)).heap.size = w4.heap.size + 1 by simp)
      clear hu hown hraw
      go_wp2_with (at_builtin; refine wpList_append_lies _ rfl _ _ 28 rfl wq.heap.size 30 i0 (.agg #[.int .i64 0, .int .i64 0, .int .i64 0, .int .i64 0, .int .i64 0, .int .i64 0, .int .i64 0, .int .i64 0, .slice none 0 0, .int .i64 0, .int .i64 0, .slice none 0 0]) 12 128 Tryd.underlying28 hi hz0 hz1 hz2 rfl (by decide) _ k (cosCells rs) rfl HOWN.out ⟨w4.heap.size, 0, none⟩ 1 1 [.int .i64 d.h.f0, .int .i64 d.h.f1, .int .i64 d.h.f2, .int .i64 d.h.f3, .int .i64 d.h.f4, .int .i64 d.h.f5, .int .i64 d.h.pair, .int .i64 d.h.pl, .slice q1 d.pairs.length k1, .int .i64 d.h.fn, .int .i64 d.h.fl, .slice q2 d.funs.length k2] rfl rfl (World.news_of_block (heap_alloc_new w4 _)) HONE.out (by decide) HMX.out HBY.out HBS.out (w4.heap.size + 1) HSZ4.out ?_)
      intro gg cap w5 hown5 hgrow5 hlies5 hlt5
      have hlow := HROW4.out.lt
      have hrow5 : RowC 30 (fun x => (N x ∨ x = w.heap.size + 1) ∨ x = w.heap.size + 1 + 1) wq.heap.size w5 (.slice (some ⟨gg, 0, none⟩) (k + 1) cap) (((List.range k).map fun j => goC n false (t.funs.getD j ty0) l) ++ [d]) := by
       have h2 : RawCo w4 (fun b => Lc (fun x => (N x ∨ x = w.heap.size + 1) ∨ x = w.heap.size + 1 + 1) w4 b ∧ (Value.slice ra k rc).ownBlock ≠ some b) ⟨d.h, .slice q1 d.pairs.length k1, .slice q2 d.funs.length k2⟩ d := HU.out.mono (fun b h => ⟨⟨h.1, fun e => h.2 (.inl e)⟩, fun e => h.2 (.inr e)⟩) fun _ _ _ => rfl
       have hlen := HLE.out
       have h3 := rowc_push (l := ((List.range k).map fun j => goC n false (t.funs.getD j ty0) l)) (cap := cap) HRAW.out h2 hgrow5 (hlies5.imp id id) (by rw [hlen]; exact hown5)
       rw [hlen] at h3; exact h3
      have hb5 : Below wq.heap.size wq w5 := (HBW4.out.alloc HBW4.out.size _).grown hgrow5 (by rw [HSZ4.out]; have := HBW4.out.size; omega) fun x hx => (hlow x hx).1
      have HROW5 := hid hrow5
      have HB5 := hid hb5
      clear hrow5 hb5 hown5 hgrow5 hlies5 hlt5 hlow
      rw [← HFS.out] at HROW5
      have hdone := HROW5.out.done (fun y hy => Nat.lt_of_lt_of_le (HNB1.out y hy) HSW.out) (by rw [← HLF.out]; unfold maxLen; omega)
      have HDN := hid hdone
      have hB := HB5.out
      replace HX := hid (HX.out.keep hB)
      replace HO := hid (HO.out.keep hB)
      replace HR := hid (HR.out.keep hB)
      replace HPS := hid (CoSN.below HPS.out hB)
      replace HF := hid (HF.out.under hB)
      replace HL := hid (HL.out.trans (hB.mono HL.out.size))
      have HAL := hid (rall_go FS (some ⟨gg, 0, none⟩) (k + 1) cap w5 HLF.out (CoSN.mono HDN.out fun _ _ h => h.elim))
      clear hdone hB HROW5 HROW4
      go_wp2_with fail
      refine HAL.out.mono ?_
      rintro e w6 ⟨rfl, hB⟩
      replace HX := hid (HX.out.keep hB)
      replace HO := hid (HO.out.keep hB)
      replace HR := hid (HR.out.keep hB)
      replace HPS := hid (CoSN.below HPS.out hB)
      replace HF := hid (HF.out.under hB)
      replace HL := hid (HL.out.trans (hB.mono HL.out.size))
      replace HDN := hid (CoSN.below HDN.out hB)
      obtain ⟨A, hA⟩ : ∃ A, A = allC FS := ⟨_, rfl⟩
      rw [← hA]
      have HA := hid hA
      clear hA hB
      obtain ⟨o0, o1, o2, o3, o4, o5, o6, o7, o8, o9, o10, o11⟩ := HO.out.cs
      (try dsimp only at o0 o1 o2 o3 o4 o5 o6 o7 o8 o9 o10 o11)
      obtain ⟨r0, r1, r2, r3, r4, r5, r6, r7, r8, r9, r10, r11⟩ := HR.out.cs
      (try dsimp only at r0 r1 r2 r3 r4 r5 r6 r7 r8 r9 r10 r11)
      obtain ⟨fr0, fr1, fr2, fr3, fr4, fr5, fr6, fr7, fr8, fr9, fr10, fr11⟩ := HR.out.frs
      cases A with
      | true =>
       go_wp2
       have HPOST := hid (show CoPost N (goC (n + 1) true t l) w (.returned (coV ⟨hd, .slice pb pn pk, .slice none 0 0⟩)) (set12 (w6) (w.heap.size + 1) ⟨hd, .slice pb pn pk, .slice none 0 0⟩) from by rw [HRES.out, if_pos HF1.out, if_pos HF1.out, HRS.out, ← HA.out, if_pos rfl, if_pos rfl, HHD.out.1]; exact ⟨⟨_, rfl, (CoVN.set12 (g := w.heap.size + 1) (CoVN.mk (h := hd) HPS.out (.mkNil _ _)) (.inl (.inr rfl))).mono fun _ _ h => .inl (.inl h)⟩, Below.set12 (g := w.heap.size + 1) HL.out (by omega)⟩)
       refine ret12 (w6) (w.heap.size + 1) ⟨hd, .slice pb pn pk, .slice none 0 0⟩ (HR.out) HPOST.out (fun wf hb => ?_) rfl
       obtain ⟨z0, z1, z2, z3, z4, z5, z6, z7, z8, z9, z10, z11⟩ := hb.cs
       simp [results, Tryd.results32, go_sem, coV, z0, z1, z2, z3, z4, z5, z6, z7, z8, z9, z10, z11]
      | false =>
       have ofr4 := HO.out.fr 9
       have ofr6 := HO.out.fr 11
       go_upto_region 38 with fail
       obtain ⟨w7, hw7⟩ : ∃ x, x = (w6.setCell ⟨(w.heap.size + 1 + 1), 9, none⟩ (.int .i64 2)).setCell ⟨(w.heap.size + 1 + 1), 11, none⟩ (.slice (some ⟨gg, 0, none⟩) (k + 1) cap) := ⟨_, rfl⟩
       rw [← hw7]
       have HO7 := hid (show CBox w7 (w.heap.size + 1 + 1) 30 ⟨⟨hd.f0, hd.f1, hd.f2, hd.f3, hd.f4, hd.f5, hd.pair, hd.pl, 2, hd.fl⟩, .slice pb pn pk, .slice (some ⟨gg, 0, none⟩) (k + 1) cap⟩ by rw [hw7]; exact HO.out.s9.s11)
       have HR7 := hid (show CBox w7 (w.heap.size + 1) 30 ⟨⟨0, 0, 0, 0, 0, 0, 0, 0, 0, 0⟩, .slice none 0 0, .slice none 0 0⟩ by rw [hw7]; exact (HR.out.other (by omega)).other (by omega))
       have HPS7 := hid (show CoS w7 (Lc (fun x => (N x ∨ x = w.heap.size + 1) ∨ x = w.heap.size + 1 + 1) w7) (.slice pb pn pk) PS by rw [hw7]; exact CoSN.set (CoSN.set HPS.out ⟨(w.heap.size + 1 + 1), 9, none⟩ (.inr rfl) _) ⟨(w.heap.size + 1 + 1), 11, none⟩ (.inr rfl) _)
       have HDN7 := hid (show CoS w7 (Lc (fun x => (N x ∨ x = w.heap.size + 1) ∨ x = w.heap.size + 1 + 1) w7) (.slice (some ⟨gg, 0, none⟩) (k + 1) cap) FS by rw [hw7]; exact CoSN.set (CoSN.set HDN.out ⟨(w.heap.size + 1 + 1), 9, none⟩ (.inr rfl) _) ⟨(w.heap.size + 1 + 1), 11, none⟩ (.inr rfl) _)
       have HL7 := hid (show Below w.heap.size w w7 by rw [hw7]; exact (HL.out.setCell (p := ⟨(w.heap.size + 1 + 1), 9, none⟩) (by show w.heap.size ≤ w.heap.size + 1 + 1; omega) _).setCell (p := ⟨(w.heap.size + 1 + 1), 11, none⟩) (by show w.heap.size ≤ w.heap.size + 1 + 1; omega) _)
       clear hw7 o0 r0 fr0 o1 r1 fr1 o2 r2 fr2 o3 r3 fr3 o4 r4 fr4 o5 r5 fr5 o6 r6 fr6 o7 r7 fr7 o8 r8 fr8 o9 r9 fr9 o10 r10 fr10 o11 r11 fr11 ofr4 ofr6
       replace HO := HO7
       replace HR := HR7
       replace HPS := HPS7
       replace HL := HL7
       obtain ⟨o0, o1, o2, o3, o4, o5, o6, o7, o8, o9, o10, o11⟩ := HO.out.cs
       (try dsimp only at o0 o1 o2 o3 o4 o5 o6 o7 o8 o9 o10 o11)
       obtain ⟨r0, r1, r2, r3, r4, r5, r6, r7, r8, r9, r10, r11⟩ := HR.out.cs
       (try dsimp only at r0 r1 r2 r3 r4 r5 r6 r7 r8 r9 r10 r11)
       obtain ⟨fr0, fr1, fr2, fr3, fr4, fr5, fr6, fr7, fr8, fr9, fr10, fr11⟩ := HR.out.frs
       go_wp2
       have HPOST := hid (show CoPost N (goC (n + 1) true t l) w (.returned (coV ⟨⟨hd.f0, hd.f1, hd.f2, hd.f3, hd.f4, hd.f5, hd.pair, hd.pl, 2, hd.fl⟩, .slice pb pn pk, .slice (some ⟨gg, 0, none⟩) (k + 1) cap⟩)) (set12 (w7) (w.heap.size + 1) ⟨⟨hd.f0, hd.f1, hd.f2, hd.f3, hd.f4, hd.f5, hd.pair, hd.pl, 2, hd.fl⟩, .slice pb pn pk, .slice (some ⟨gg, 0, none⟩) (k + 1) cap⟩) from by rw [HRES.out, if_pos HF1.out, if_pos HF1.out, HRS.out, ← HA.out, if_neg (by simp), if_neg (by simp), HHD.out.2]; exact ⟨⟨_, rfl, (CoVN.set12 (g := w.heap.size + 1) (CoVN.mk (h := ⟨hd.f0, hd.f1, hd.f2, hd.f3, hd.f4, hd.f5, hd.pair, hd.pl, 2, hd.fl⟩) HPS.out HDN7.out) (.inl (.inr rfl))).mono fun _ _ h => .inl (.inl h)⟩, Below.set12 (g := w.heap.size + 1) HL.out (by omega)⟩)
       refine ret12 (w7) (w.heap.size + 1) ⟨⟨hd.f0, hd.f1, hd.f2, hd.f3, hd.f4, hd.f5, hd.pair, hd.pl, 2, hd.fl⟩, .slice pb pn pk, .slice (some ⟨gg, 0, none⟩) (k + 1) cap⟩ (HR.out) HPOST.out (fun wf hb => ?_) rfl
       obtain ⟨z0, z1, z2, z3, z4, z5, z6, z7, z8, z9, z10, z11⟩ := hb.cs
       simp [results, Tryd.results32, go_sem, coV, z0, z1, z2, z3, z4, z5, z6, z7, z8, z9, z10, z11]
theorem go_zero : ToOK 0 ∧ FromOK 0 := ⟨fun _ _ _ _ _ h => (by cases h), fun _ _ _ _ _ h => (by cases h)⟩
theorem go_any (n : Nat) : ToOK n ∧ FromOK n := by
 induction n with
 | zero => exact go_zero
 | succ n ih => exact ⟨to_succ n ih.1 ih.2, from_succ n ih.1 ih.2⟩
end Go.Proofs.YtlalnkabfigodaaDoor
