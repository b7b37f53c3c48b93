import Derived.Test.YtlalnkabfigodaaDoorCoGc
namespace Go.Proofs.YtlalnkabfigodaaDoor
open Go.Lib (hid)
open Go.RowKit

set_option maxRecDepth 100000 in
set_option maxHeartbeats 16000000 in
theorem fromp_succ (M n : Nat) (hM : M ≤ 2147483647) (ihT : GoOK true M n) (ihF : GoOK false M n) : GoOK false M (n + 1) := by
 intro t vt w cw k d l hdp hk hd hl hw ht
 rw [show (if false = true then 60 else 62 : Nat) = 62 from rfl]
 have hmf0 : ∀ (fn : Fn) (first cap : Array Value) (w : World), (Instr.makeFunc fn first cap).run Tryd.prog w = .ok (.func fn first cap) w := fun _ _ _ _ => rfl
 rw [deepF_succ, Bool.and_eq_true, Bool.and_eq_true, List.all_eq_true, List.all_eq_true] at hdp
 have hok := hdp.1.1
 have hsz0 := szT_eq t
 have hpos := szT_pos t
 have hres0 := go_all0 n false t l hok
 have hres1 := goC_wr n t l hok
 have hwrap : ∀ (w1 : World), WalkC M cw (k + 1) w1 → (w.heap.size + 1 + 1 + 1 + 1) < w1.heap.size → cw < w.heap.size → VarIs w1 w.heap.size 66 (.pointer (some ⟨cw, 0, none⟩)) → VarIs w1 (w.heap.size + 1 + 1) 3 (.int .i64 l) → VarIs w1 (w.heap.size + 1 + 1 + 1) 3 (.int .i64 (d : Int)) → TyVN (· = cw) w1 vt t →
   Calls Tryd.prog 80 #[vt, .int .i64 0, .func (.func 85) #[] #[.pointer (some ⟨w.heap.size, 0, none⟩), .pointer (some ⟨(w.heap.size + 1 + 1), 0, none⟩), .pointer (some ⟨(w.heap.size + 1 + 1 + 1), 0, none⟩)], .func (.func 86) #[] #[.pointer (some ⟨w.heap.size, 0, none⟩), .pointer (some ⟨(w.heap.size + 1 + 1), 0, none⟩), .pointer (some ⟨(w.heap.size + 1 + 1 + 1), 0, none⟩)]] w1
   (WrPost (· = cw) (GoAt M cw w.heap.size (w.heap.size + 1 + 1) (w.heap.size + 1 + 1 + 1) d l) (k + szT t) (wrC 0 t (t.pairs.map fun x => goC n false x l) (((List.range (t.funs.length - 1)).map fun i => goC n true (t.funs.getD i ty0) l) ++ [goC n false (t.funs.getD (t.funs.length - 1) ty0) l])) w1) := fun w1 h1 h2 h3 h4 h5 h6 h7 => by
  have F1 := GoAt.fn (W0 := w1) (M := M) (cw := cw) (g1 := w.heap.size) (g2 := (w.heap.size + 1 + 1)) (g3 := (w.heap.size + 1 + 1 + 1)) (d := d) (n := n) (l := l) false 85 _ ⟨by omega, by omega, by omega⟩ (by omega) hl ihF rfl (fun _ _ => rfl) (fun k sz c t vt w a1 a2 a3 a4 a5 a6 a7 => from1_clo M cw k sz c t vt w _ _ _ d l a1 a2 a3 a4 a5 a6 a7)
  have F2 := GoAt.fn (W0 := w1) (M := M) (cw := cw) (g1 := w.heap.size) (g2 := (w.heap.size + 1 + 1)) (g3 := (w.heap.size + 1 + 1 + 1)) (d := d) (n := n) (l := l) true 86 _ ⟨by omega, by omega, by omega⟩ (by omega) hl ihT rfl (fun _ _ => rfl) (fun k sz c t vt w a1 a2 a3 a4 a5 a6 a7 => from2_clo M cw k sz c t vt w _ _ _ d l a1 a2 a3 a4 a5 a6 a7)
  have hC := wrapping_any F1 F2 (fun s w w' h hs => ⟨VarIs.stay h.walk hs (by have := h1.lt; omega), h.ptr.stay hs (by omega), h.lab.stay hs (by omega), h.lvl.stay hs (by omega)⟩) (fun b hb => by rw [hb]; exact h1.lt) t vt w1 (k + 1) 0 .refl ⟨h1, h4, h5, h6⟩ h7 hok hdp.1.2 hdp.2 (by omega)
  rw [show k + 1 + szTs t.pairs + szTs t.funs = k + szT t by omega] at hC
  exact hC
 obtain ⟨sz, hszz⟩ : ∃ n, n = szT t := ⟨_, rfl⟩
 rw [← hszz] at hwrap hk hsz0 hpos ⊢
 obtain ⟨R, hR⟩ : ∃ R, R = goC (n + 1) false t l := ⟨_, rfl⟩
 rw [← hR] at hres0 hres1 ⊢
 obtain ⟨C, hC⟩ : ∃ C, C = wrC 0 t (t.pairs.map fun x => goC n false x l) (((List.range (t.funs.length - 1)).map fun i => goC n true (t.funs.getD i ty0) l) ++ [goC n false (t.funs.getD (t.funs.length - 1) ty0) l]) := ⟨_, rfl⟩
 rw [← hC] at hwrap hres1
 obtain ⟨pa, pc, fa, fc, rfl, hp, hf⟩ := ht.form
 obtain ⟨np, hnp⟩ : ∃ n, n = t.pairs.length := ⟨_, rfl⟩
 obtain ⟨nf, hnf⟩ : ∃ n, n = t.funs.length := ⟨_, rfl⟩
 rw [← hnp, ← hnf] at hwrap ht ⊢
 obtain ⟨W, hW⟩ : ∃ W, W = (((((w.alloc (.cells #[.pointer (some ⟨cw, 0, none⟩)] 66)).alloc (.cells #[.bool t.all, .int .i64 t.flat, .int .i64 t.pair, .slice pa np pc, .int .i64 t.fn, .slice fa nf fc] 47)).alloc (.cells #[.int .i64 l] 3)).alloc (.cells #[.int .i64 (d : Int)] 3)).alloc (.cells #[.int .i64 0, .int .i64 0, .int .i64 0, .int .i64 0, .int .i64 0, .int .i64 0, .int .i64 0, .int .i64 0, .slice none 0 0, .int .i64 0, .int .i64 0, .slice none 0 0] 25)) := ⟨_, rfl⟩
 have hsz : W.heap.size = w.heap.size + 1 + 1 + 1 + 1 + 1 := by rw [hW]; simp
 have hb : Below w.heap.size w W := by rw [hW]; exact ((((bAl _ _).alloc (by simp) _).alloc (by simp; omega) _).alloc (by simp; omega) _).alloc (by simp; omega) _
 have HP0 := hid (show VarIs W w.heap.size 66 (.pointer (some ⟨cw, 0, none⟩)) by rw [hW]; exact (((((VarIs.made w 66 (.pointer (some ⟨cw, 0, none⟩))).keep ((Below.refl _ _).alloc (Nat.le_refl _) (.cells #[.bool t.all, .int .i64 t.flat, .int .i64 t.pair, .slice pa np pc, .int .i64 t.fn, .slice fa nf fc] 47))).keep ((Below.refl _ _).alloc (Nat.le_refl _) (.cells #[.int .i64 l] 3))).keep ((Below.refl _ _).alloc (Nat.le_refl _) (.cells #[.int .i64 (d : Int)] 3))).keep ((Below.refl _ _).alloc (Nat.le_refl _) (.cells #[.int .i64 0, .int .i64 0, .int .i64 0, .int .i64 0, .int .i64 0, .int .i64 0, .int .i64 0, .int .i64 0, .slice none 0 0, .int .i64 0, .int .i64 0, .slice none 0 0] 25))))
 have HT1 := hid (show BoxAt W (w.heap.size + 1) t.all t.flat t.pair (.slice pa np pc) t.fn (.slice fa nf fc) by rw [hW]; have := ((((BoxAt.made (w.alloc (.cells #[.pointer (some ⟨cw, 0, none⟩)] 66)) t.all t.flat t.pair (.slice pa np pc) t.fn (.slice fa nf fc)).keep ((Below.refl _ _).alloc (Nat.le_refl _) (.cells #[.int .i64 l] 3))).keep ((Below.refl _ _).alloc (Nat.le_refl _) (.cells #[.int .i64 (d : Int)] 3))).keep ((Below.refl _ _).alloc (Nat.le_refl _) (.cells #[.int .i64 0, .int .i64 0, .int .i64 0, .int .i64 0, .int .i64 0, .int .i64 0, .int .i64 0, .int .i64 0, .slice none 0 0, .int .i64 0, .int .i64 0, .slice none 0 0] 25))); simp only [alloc_hs7] at this; exact this)
 have HL2 := hid (show VarIs W (w.heap.size + 1 + 1) 3 (.int .i64 l) by rw [hW]; have := (((VarIs.made ((w.alloc (.cells #[.pointer (some ⟨cw, 0, none⟩)] 66)).alloc (.cells #[.bool t.all, .int .i64 t.flat, .int .i64 t.pair, .slice pa np pc, .int .i64 t.fn, .slice fa nf fc] 47)) 3 (.int .i64 l)).keep ((Below.refl _ _).alloc (Nat.le_refl _) (.cells #[.int .i64 (d : Int)] 3))).keep ((Below.refl _ _).alloc (Nat.le_refl _) (.cells #[.int .i64 0, .int .i64 0, .int .i64 0, .int .i64 0, .int .i64 0, .int .i64 0, .int .i64 0, .int .i64 0, .slice none 0 0, .int .i64 0, .int .i64 0, .slice none 0 0] 25))); simp only [alloc_hs7] at this; exact this)
 have HD3 := hid (show VarIs W (w.heap.size + 1 + 1 + 1) 3 (.int .i64 (d : Int)) by rw [hW]; have := ((VarIs.made (((w.alloc (.cells #[.pointer (some ⟨cw, 0, none⟩)] 66)).alloc (.cells #[.bool t.all, .int .i64 t.flat, .int .i64 t.pair, .slice pa np pc, .int .i64 t.fn, .slice fa nf fc] 47)).alloc (.cells #[.int .i64 l] 3)) 3 (.int .i64 (d : Int))).keep ((Below.refl _ _).alloc (Nat.le_refl _) (.cells #[.int .i64 0, .int .i64 0, .int .i64 0, .int .i64 0, .int .i64 0, .int .i64 0, .int .i64 0, .int .i64 0, .slice none 0 0, .int .i64 0, .int .i64 0, .slice none 0 0] 25))); simp only [alloc_hs7] at this; exact this)
 have HR4 := hid (show CBox W (w.heap.size + 1 + 1 + 1 + 1) 25 ⟨⟨0, 0, 0, 0, 0, 0, 0, 0, 0, 0⟩, .slice none 0 0, .slice none 0 0⟩ by rw [hW]; have := CBox.made ((((w.alloc (.cells #[.pointer (some ⟨cw, 0, none⟩)] 66)).alloc (.cells #[.bool t.all, .int .i64 t.flat, .int .i64 t.pair, .slice pa np pc, .int .i64 t.fn, .slice fa nf fc] 47)).alloc (.cells #[.int .i64 l] 3)).alloc (.cells #[.int .i64 (d : Int)] 3)) 25 ⟨⟨0, 0, 0, 0, 0, 0, 0, 0, 0, 0⟩, .slice none 0 0, .slice none 0 0⟩; simp only [alloc_hs7] at this; exact this)
 have HB := hid hb
 have HSZ := hid hsz
 have HW := hid hW
 have HWK := hid (hw.keep hb)
 have HCW := hid hw.lt
 have HTV := hid (ht.below hb)
 have HRES0 := hid hres0
 have HRES1 := hid hres1
 have HWR := hid hwrap
 have HBD := hid (show k + sz ≤ M ∧ d + 1 + n ≤ 131000 ∧ M ≤ 2147483647 ∧ 1 ≤ sz from ⟨hk, by omega, hM, hpos⟩)
 have hd2 : (d : Int) ≤ 131000 := by omega
 clear hC hwrap hres0 hres1 hdp hok hsz0 hpos hk hd hl hM hb hsz hW hw ht hp hf hnp hnf hR ihT ihF hszz
 obtain ⟨x0, x1, x2, x3, x4, x5⟩ := HT1.out.cs
 (try dsimp only at x0 x1 x2 x3 x4 x5)
 have p0 : W.cell? ⟨w.heap.size, 0, none⟩ = some (.pointer (some ⟨cw, 0, none⟩)) := HP0.out.c
 have p3 : W.cell? ⟨(w.heap.size + 1 + 1 + 1), 0, none⟩ = some (.int .i64 (d : Int)) := HD3.out.c
 go_enter Tryd.func62, Tryd.ntmps62
 go_upto_region 1 with fail
 rw [← HW.out]
 clear HW
 obtain ⟨a, ha⟩ : ∃ a, a = t.all := ⟨_, rfl⟩
 rw [← ha] at x0 HWR HT1
 have HA := hid ha
 clear ha
 cases a with
 | true =>
  have HRE := hid (HRES0.out HA.out.symm)
  obtain ⟨r0, r1, r2, r3, r4, r5, r6, r7, r8, r9, r10, r11⟩ := HR4.out.cs
  (try dsimp only at r0 r1 r2 r3 r4 r5 r6 r7 r8 r9 r10 r11)
  obtain ⟨fr0, fr1, fr2, fr3, fr4, fr5, fr6, fr7, fr8, fr9, fr10, fr11⟩ := HR4.out.frs
  go_wp2
  have HPOST := hid (show WPost M cw k sz R w (.returned (coV ⟨⟨0, 0, 0, 0, 0, 0, 0, 0, 0, 0⟩, .slice none 0 0, .slice none 0 0⟩)) (set12 (W) (w.heap.size + 1 + 1 + 1 + 1) ⟨⟨0, 0, 0, 0, 0, 0, 0, 0, 0, 0⟩, .slice none 0 0, .slice none 0 0⟩) from by rw [HRE.out]; exact WPost.cell (w1 := W) (co0_v _ _) (by omega) (by have := HSZ.out; omega) (.of HB.out) (Nat.le_add_right k sz) HWK.out HCW.out)
  refine ret12 (W) (w.heap.size + 1 + 1 + 1 + 1) ⟨⟨0, 0, 0, 0, 0, 0, 0, 0, 0, 0⟩, .slice none 0 0, .slice none 0 0⟩ (HR4.out) HPOST.out (fun wf hb => ?_) rfl
  obtain ⟨z0, z1, z2, z3, z4, z5, z6, z7, z8, z9, z10, z11⟩ := hb.cs
  simp [results, Tryd.results62, go_sem, coV, z0, z1, z2, z3, z4, z5, z6, z7, z8, z9, z10, z11]
 | false =>
  go_wp2_with fail
  refine (onc_any M cw k d W HWK.out (by have := HBD.out; omega) HBD.out.2.2.1 (by omega)).mono ?_
  rintro e w2 ⟨rfl, hs2, hw2⟩
  have HT2 := hid (HT1.out.stay hs2 (by have := HCW.out; omega))
  have HR2 := hid (HR4.out.stay hs2 (by have := HCW.out; omega))
  have HS2 := hid (show Stay (· = cw) w w2 from (Stay.of HB.out).trans hs2)
  have HC2 := hid (HWR.out w2 hw2 (by have := hs2.size; have := HSZ.out; omega) HCW.out (HP0.out.stay hs2 (by have := HCW.out; omega)) (HL2.out.stay hs2 (by have := HCW.out; omega)) (HD3.out.stay hs2 (by have := HCW.out; omega)) (by have h := HTV.out.stay hs2; rw [← HA.out] at h; exact h))
  have HSZ2 := hid (show (w.heap.size + 1 + 1 + 1 + 1) < w2.heap.size by have := hs2.size; have := HSZ.out; omega)
  clear hs2 hw2 x0 x1 x2 x3 x4 x5 p0 p3
  obtain ⟨x0, x1, x2, x3, x4, x5⟩ := HT2.out.cs
  (try dsimp only at x0 x1 x2 x3 x4 x5)
  go_wp2_with fail
  refine HC2.out.mono ?_
  rintro e w3 ⟨⟨v, rfl, hv⟩, hs3, k3, hk3, hst3⟩
  obtain ⟨ra, rc, rb, rd, rfl, _, _⟩ := hv.form
  have HV := hid hv
  have HR3 := hid (HR2.out.stay hs3 (by have := HCW.out; omega))
  have HS3 := hid (HS2.out.trans hs3)
  have HK3 := hid hk3
  have HW3 := hid hst3.walk
  clear hv hs3 hk3 hst3 x0 x1 x2 x3 x4 x5
  obtain ⟨r0, r1, r2, r3, r4, r5, r6, r7, r8, r9, r10, r11⟩ := HR3.out.cs
  (try dsimp only at r0 r1 r2 r3 r4 r5 r6 r7 r8 r9 r10 r11)
  obtain ⟨fr0, fr1, fr2, fr3, fr4, fr5, fr6, fr7, fr8, fr9, fr10, fr11⟩ := HR3.out.frs
  go_wp2
  have HPOST := hid (show WPost M cw k sz R w (.returned (coV ⟨C.h, .slice ra C.pairs.length rc, .slice rb C.funs.length rd⟩)) (set12 (w3) (w.heap.size + 1 + 1 + 1 + 1) ⟨C.h, .slice ra C.pairs.length rc, .slice rb C.funs.length rd⟩) from by rw [HRES1.out]; exact WPost.cell (w1 := w2) HV.out (by omega) HSZ2.out HS3.out HK3.out HW3.out HCW.out)
  refine ret12 (w3) (w.heap.size + 1 + 1 + 1 + 1) ⟨C.h, .slice ra C.pairs.length rc, .slice rb C.funs.length rd⟩ (HR3.out) HPOST.out (fun wf hb => ?_) rfl
  obtain ⟨z0, z1, z2, z3, z4, z5, z6, z7, z8, z9, z10, z11⟩ := hb.cs
  simp [results, Tryd.results62, go_sem, coV, z0, z1, z2, z3, z4, z5, z6, z7, z8, z9, z10, z11]
end Go.Proofs.YtlalnkabfigodaaDoor
