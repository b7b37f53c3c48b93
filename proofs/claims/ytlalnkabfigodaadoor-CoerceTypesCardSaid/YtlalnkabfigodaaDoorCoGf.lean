import Derived.Test.YtlalnkabfigodaaDoorCoGc
namespace Go.Proofs.YtlalnkabfigodaaDoor
open Go.RowKit

set_option maxRecDepth 100000 in
set_option maxHeartbeats 16000000 in
theorem fromp_succ (M n : Nat) (hM : M ≤ 2147483647) (ihT : GoOK true M n) (ihF : GoOK false M n) : GoOK false M (n + 1) := by
  intro t vt w cw k d l hdp hk hd hl hw ht
  rw [show (if false = true then 60 else 62 : Nat) = 62 from rfl]
  have hmf0 : ∀ (fn : Fn) (first cap : Array Value) (w : World), (Instr.makeFunc fn first cap).run Tryd.prog w = .ok (.func fn first cap) w := fun _ _ _ _ => rfl
  rw [deepF_succ, Bool.and_eq_true, Bool.and_eq_true, List.all_eq_true, List.all_eq_true] at hdp
  have hok := hdp.1.1
  have hsz0 := szT_eq t
  have hpos := szT_pos t
  have hres0 := go_all0 n false t l hok
  have hres1 := goC_wr n t l hok
  have hwrap : ∀ (w1 : World), WalkC M cw (k + 1) w1 → (w.heap.size + 1 + 1 + 1 + 1) < w1.heap.size → cw < w.heap.size → VarIs w1 w.heap.size 66 (.pointer (some ⟨cw, 0, none⟩)) → VarIs w1 (w.heap.size + 1 + 1) 3 (.int .i64 l) → VarIs w1 (w.heap.size + 1 + 1 + 1) 3 (.int .i64 (d : Int)) → TyVN (· = cw) w1 vt t →
      Calls Tryd.prog 80 #[vt, .int .i64 0, .func (.func 85) #[] #[.pointer (some ⟨w.heap.size, 0, none⟩), .pointer (some ⟨(w.heap.size + 1 + 1), 0, none⟩), .pointer (some ⟨(w.heap.size + 1 + 1 + 1), 0, none⟩)], .func (.func 86) #[] #[.pointer (some ⟨w.heap.size, 0, none⟩), .pointer (some ⟨(w.heap.size + 1 + 1), 0, none⟩), .pointer (some ⟨(w.heap.size + 1 + 1 + 1), 0, none⟩)]] w1
      (WrPost (· = cw) (GoAt M cw w.heap.size (w.heap.size + 1 + 1) (w.heap.size + 1 + 1 + 1) d l) (k + szT t) (wrC 0 t (t.pairs.map fun x => goC n false x l) (((List.range (t.funs.length - 1)).map fun i => goC n true (t.funs.getD i ty0) l) ++ [goC n false (t.funs.getD (t.funs.length - 1) ty0) l])) w1) := fun w1 h1 h2 h3 h4 h5 h6 h7 => by
    have F1 := GoAt.fn (W0 := w1) (M := M) (cw := cw) (g1 := w.heap.size) (g2 := (w.heap.size + 1 + 1)) (g3 := (w.heap.size + 1 + 1 + 1)) (d := d) (n := n) (l := l) false 85 _ ⟨by omega, by omega, by omega⟩ (by omega) hl ihF rfl (fun _ _ => rfl) (fun k sz c t vt w a1 a2 a3 a4 a5 a6 a7 => from1_clo M cw k sz c t vt w _ _ _ d l a1 a2 a3 a4 a5 a6 a7)
    have F2 := GoAt.fn (W0 := w1) (M := M) (cw := cw) (g1 := w.heap.size) (g2 := (w.heap.size + 1 + 1)) (g3 := (w.heap.size + 1 + 1 + 1)) (d := d) (n := n) (l := l) true 86 _ ⟨by omega, by omega, by omega⟩ (by omega) hl ihT rfl (fun _ _ => rfl) (fun k sz c t vt w a1 a2 a3 a4 a5 a6 a7 => from2_clo M cw k sz c t vt w _ _ _ d l a1 a2 a3 a4 a5 a6 a7)
    have hC := wrapping_any F1 F2 (fun s w w' h hs => ⟨VarIs.stay h.walk hs (by have := h1.lt; omega), h.ptr.stay hs (by omega), h.lab.stay hs (by omega), h.lvl.stay hs (by omega)⟩) (fun b hb => by rw [hb]; exact h1.lt) t vt w1 (k + 1) 0 .refl ⟨h1, h4, h5, h6⟩ h7 hok hdp.1.2 hdp.2 (by omega)
    rw [show k + 1 + szTs t.pairs + szTs t.funs = k + szT t by omega] at hC
    exact hC
  obtain ⟨sz, hszz⟩ : ∃ n, n = szT t := ⟨_, rfl⟩
  rw [← hszz] at hwrap hk hsz0 hpos ⊢
  obtain ⟨R, hR⟩ : ∃ R, R = goC (n + 1) false t l := ⟨_, rfl⟩
  rw [← hR] at hres0 hres1 ⊢
  obtain ⟨C, hC⟩ : ∃ C, C = wrC 0 t (t.pairs.map fun x => goC n false x l) (((List.range (t.funs.length - 1)).map fun i => goC n true (t.funs.getD i ty0) l) ++ [goC n false (t.funs.getD (t.funs.length - 1) ty0) l]) := ⟨_, rfl⟩
  rw [← hC] at hwrap hres1
  obtain ⟨pa, pc, fa, fc, rfl, hp, hf⟩ := ht.form
  obtain ⟨np, hnp⟩ : ∃ n, n = t.pairs.length := ⟨_, rfl⟩
  obtain ⟨nf, hnf⟩ : ∃ n, n = t.funs.length := ⟨_, rfl⟩
  rw [← hnp, ← hnf] at hwrap ht ⊢
  obtain ⟨W, hW⟩ : ∃ W, W = (((((w.alloc (.cells #[.pointer (some ⟨cw, 0, none⟩)] 66)).alloc (.cells #[.bool t.all, .int .i64 t.flat, .int .i64 t.pair, .slice pa np pc, .int .i64 t.fn, .slice fa nf fc] 47)).alloc (.cells #[.int .i64 l] 3)).alloc (.cells #[.int .i64 (d : Int)] 3)).alloc (.cells #[.int .i64 0, .int .i64 0, .int .i64 0, .int .i64 0, .int .i64 0, .int .i64 0, .int .i64 0, .int .i64 0, .slice none 0 0, .int .i64 0, .int .i64 0, .slice none 0 0] 25)) := ⟨_, rfl⟩
  have hsz : W.heap.size = w.heap.size + 1 + 1 + 1 + 1 + 1 := by rw [hW]; simp
  have hb : Below w.heap.size w W := by rw [hW]; exact (((((Below.refl _ _).alloc (Nat.le_refl _) _).alloc (by simp) _).alloc (by simp; omega) _).alloc (by simp; omega) _).alloc (by simp; omega) _
  have HP0 := Lib.hid (show VarIs W w.heap.size 66 (.pointer (some ⟨cw, 0, none⟩)) by rw [hW]; exact (((((VarIs.made w 66 (.pointer (some ⟨cw, 0, none⟩))).keep ((Below.refl _ _).alloc (Nat.le_refl _) (.cells #[.bool t.all, .int .i64 t.flat, .int .i64 t.pair, .slice pa np pc, .int .i64 t.fn, .slice fa nf fc] 47))).keep ((Below.refl _ _).alloc (Nat.le_refl _) (.cells #[.int .i64 l] 3))).keep ((Below.refl _ _).alloc (Nat.le_refl _) (.cells #[.int .i64 (d : Int)] 3))).keep ((Below.refl _ _).alloc (Nat.le_refl _) (.cells #[.int .i64 0, .int .i64 0, .int .i64 0, .int .i64 0, .int .i64 0, .int .i64 0, .int .i64 0, .int .i64 0, .slice none 0 0, .int .i64 0, .int .i64 0, .slice none 0 0] 25))))
  have HT1 := Lib.hid (show BoxAt W (w.heap.size + 1) t.all t.flat t.pair (.slice pa np pc) t.fn (.slice fa nf fc) by rw [hW]; have := ((((BoxAt.made (w.alloc (.cells #[.pointer (some ⟨cw, 0, none⟩)] 66)) t.all t.flat t.pair (.slice pa np pc) t.fn (.slice fa nf fc)).keep ((Below.refl _ _).alloc (Nat.le_refl _) (.cells #[.int .i64 l] 3))).keep ((Below.refl _ _).alloc (Nat.le_refl _) (.cells #[.int .i64 (d : Int)] 3))).keep ((Below.refl _ _).alloc (Nat.le_refl _) (.cells #[.int .i64 0, .int .i64 0, .int .i64 0, .int .i64 0, .int .i64 0, .int .i64 0, .int .i64 0, .int .i64 0, .slice none 0 0, .int .i64 0, .int .i64 0, .slice none 0 0] 25))); simp only [alloc_hs7] at this; exact this)
  have HL2 := Lib.hid (show VarIs W (w.heap.size + 1 + 1) 3 (.int .i64 l) by rw [hW]; have := (((VarIs.made ((w.alloc (.cells #[.pointer (some ⟨cw, 0, none⟩)] 66)).alloc (.cells #[.bool t.all, .int .i64 t.flat, .int .i64 t.pair, .slice pa np pc, .int .i64 t.fn, .slice fa nf fc] 47)) 3 (.int .i64 l)).keep ((Below.refl _ _).alloc (Nat.le_refl _) (.cells #[.int .i64 (d : Int)] 3))).keep ((Below.refl _ _).alloc (Nat.le_refl _) (.cells #[.int .i64 0, .int .i64 0, .int .i64 0, .int .i64 0, .int .i64 0, .int .i64 0, .int .i64 0, .int .i64 0, .slice none 0 0, .int .i64 0, .int .i64 0, .slice none 0 0] 25))); simp only [alloc_hs7] at this; exact this)
  have HD3 := Lib.hid (show VarIs W (w.heap.size + 1 + 1 + 1) 3 (.int .i64 (d : Int)) by rw [hW]; have := ((VarIs.made (((w.alloc (.cells #[.pointer (some ⟨cw, 0, none⟩)] 66)).alloc (.cells #[.bool t.all, .int .i64 t.flat, .int .i64 t.pair, .slice pa np pc, .int .i64 t.fn, .slice fa nf fc] 47)).alloc (.cells #[.int .i64 l] 3)) 3 (.int .i64 (d : Int))).keep ((Below.refl _ _).alloc (Nat.le_refl _) (.cells #[.int .i64 0, .int .i64 0, .int .i64 0, .int .i64 0, .int .i64 0, .int .i64 0, .int .i64 0, .int .i64 0, .slice none 0 0, .int .i64 0, .int .i64 0, .slice none 0 0] 25))); simp only [alloc_hs7] at this; exact this)
  have HR4 := Lib.hid (show CBox W (w.heap.size + 1 + 1 + 1 + 1) 25 ⟨⟨0, 0, 0, 0, 0, 0, 0, 0, 0, 0⟩, .slice none 0 0, .slice none 0 0⟩ by rw [hW]; have := CBox.made ((((w.alloc (.cells #[.pointer (some ⟨cw, 0, none⟩)] 66)).alloc (.cells #[.bool t.all, .int .i64 t.flat, .int .i64 t.pair, .slice pa np pc, .int .i64 t.fn, .slice fa nf fc] 47)).alloc (.cells #[.int .i64 l] 3)).alloc (.cells #[.int .i64 (d : Int)] 3)) 25 ⟨⟨0, 0, 0, 0, 0, 0, 0, 0, 0, 0⟩, .slice none 0 0, .slice none 0 0⟩; simp only [alloc_hs7] at this; exact this)
  have HB := Lib.hid hb
  have HSZ := Lib.hid hsz
  have HW := Lib.hid hW
  have HWK := Lib.hid (hw.keep hb)
  have HCW := Lib.hid hw.lt
  have HTV := Lib.hid (ht.below hb)
  have HRES0 := Lib.hid hres0
  have HRES1 := Lib.hid hres1
  have HWR := Lib.hid hwrap
  have HBD := Lib.hid (show k + sz ≤ M ∧ d + 1 + n ≤ 131000 ∧ M ≤ 2147483647 ∧ 1 ≤ sz from ⟨hk, by omega, hM, hpos⟩)
  have hd2 : (d : Int) ≤ 131000 := by omega
  clear hC hwrap hres0 hres1 hdp hok hsz0 hpos hk hd hl hM hb hsz hW hw ht hp hf hnp hnf hR ihT ihF hszz
  have x0 : W.cell? ⟨(w.heap.size + 1), 0, none⟩ = some (.bool t.all) := HT1.out.c0
  have x1 : W.cell? ⟨(w.heap.size + 1), 1, none⟩ = some (.int .i64 t.flat) := HT1.out.c1
  have x2 : W.cell? ⟨(w.heap.size + 1), 2, none⟩ = some (.int .i64 t.pair) := HT1.out.c2
  have x3 : W.cell? ⟨(w.heap.size + 1), 3, none⟩ = some (.slice pa np pc) := HT1.out.c3
  have x4 : W.cell? ⟨(w.heap.size + 1), 4, none⟩ = some (.int .i64 t.fn) := HT1.out.c4
  have x5 : W.cell? ⟨(w.heap.size + 1), 5, none⟩ = some (.slice fa nf fc) := HT1.out.c5
  have p0 : W.cell? ⟨w.heap.size, 0, none⟩ = some (.pointer (some ⟨cw, 0, none⟩)) := HP0.out.c
  have p3 : W.cell? ⟨(w.heap.size + 1 + 1 + 1), 0, none⟩ = some (.int .i64 (d : Int)) := HD3.out.c
  go_enter Tryd.func62, Tryd.ntmps62
  go_upto_region 1 with fail
  rw [← HW.out]
  clear HW
  obtain ⟨a, ha⟩ : ∃ a, a = t.all := ⟨_, rfl⟩
  rw [← ha] at x0 HWR HT1
  have HA := Lib.hid ha
  clear ha
  cases a with
  | true =>
    have HRE := Lib.hid (HRES0.out HA.out.symm)
    have r0 : W.cell? ⟨(w.heap.size + 1 + 1 + 1 + 1), 0, none⟩ = some (.int .i64 0) := HR4.out.c0
    have r1 : W.cell? ⟨(w.heap.size + 1 + 1 + 1 + 1), 1, none⟩ = some (.int .i64 0) := HR4.out.c1
    have r2 : W.cell? ⟨(w.heap.size + 1 + 1 + 1 + 1), 2, none⟩ = some (.int .i64 0) := HR4.out.c2
    have r3 : W.cell? ⟨(w.heap.size + 1 + 1 + 1 + 1), 3, none⟩ = some (.int .i64 0) := HR4.out.c3
    have r4 : W.cell? ⟨(w.heap.size + 1 + 1 + 1 + 1), 4, none⟩ = some (.int .i64 0) := HR4.out.c4
    have r5 : W.cell? ⟨(w.heap.size + 1 + 1 + 1 + 1), 5, none⟩ = some (.int .i64 0) := HR4.out.c5
    have r6 : W.cell? ⟨(w.heap.size + 1 + 1 + 1 + 1), 6, none⟩ = some (.int .i64 0) := HR4.out.c6
    have r7 : W.cell? ⟨(w.heap.size + 1 + 1 + 1 + 1), 7, none⟩ = some (.int .i64 0) := HR4.out.c7
    have r8 : W.cell? ⟨(w.heap.size + 1 + 1 + 1 + 1), 8, none⟩ = some (.slice none 0 0) := HR4.out.c8
    have r9 : W.cell? ⟨(w.heap.size + 1 + 1 + 1 + 1), 9, none⟩ = some (.int .i64 0) := HR4.out.c9
    have r10 : W.cell? ⟨(w.heap.size + 1 + 1 + 1 + 1), 10, none⟩ = some (.int .i64 0) := HR4.out.c10
    have r11 : W.cell? ⟨(w.heap.size + 1 + 1 + 1 + 1), 11, none⟩ = some (.slice none 0 0) := HR4.out.c11
    have fr0 : W.frozen? ⟨(w.heap.size + 1 + 1 + 1 + 1), 0, none⟩ = false := HR4.out.fr 0
    have fr1 : W.frozen? ⟨(w.heap.size + 1 + 1 + 1 + 1), 1, none⟩ = false := HR4.out.fr 1
    have fr2 : W.frozen? ⟨(w.heap.size + 1 + 1 + 1 + 1), 2, none⟩ = false := HR4.out.fr 2
    have fr3 : W.frozen? ⟨(w.heap.size + 1 + 1 + 1 + 1), 3, none⟩ = false := HR4.out.fr 3
    have fr4 : W.frozen? ⟨(w.heap.size + 1 + 1 + 1 + 1), 4, none⟩ = false := HR4.out.fr 4
    have fr5 : W.frozen? ⟨(w.heap.size + 1 + 1 + 1 + 1), 5, none⟩ = false := HR4.out.fr 5
    have fr6 : W.frozen? ⟨(w.heap.size + 1 + 1 + 1 + 1), 6, none⟩ = false := HR4.out.fr 6
    have fr7 : W.frozen? ⟨(w.heap.size + 1 + 1 + 1 + 1), 7, none⟩ = false := HR4.out.fr 7
    have fr8 : W.frozen? ⟨(w.heap.size + 1 + 1 + 1 + 1), 8, none⟩ = false := HR4.out.fr 8
    have fr9 : W.frozen? ⟨(w.heap.size + 1 + 1 + 1 + 1), 9, none⟩ = false := HR4.out.fr 9
    have fr10 : W.frozen? ⟨(w.heap.size + 1 + 1 + 1 + 1), 10, none⟩ = false := HR4.out.fr 10
    have fr11 : W.frozen? ⟨(w.heap.size + 1 + 1 + 1 + 1), 11, none⟩ = false := HR4.out.fr 11
    go_wp2
    have HBF := Lib.hid (show CBox (set12 (W) (w.heap.size + 1 + 1 + 1 + 1) ⟨⟨0, 0, 0, 0, 0, 0, 0, 0, 0, 0⟩, .slice none 0 0, .slice none 0 0⟩) (w.heap.size + 1 + 1 + 1 + 1) 25 ⟨⟨0, 0, 0, 0, 0, 0, 0, 0, 0, 0⟩, .slice none 0 0, .slice none 0 0⟩ from CBox.set12 (HR4.out))
    have HPOST := Lib.hid (show WPost M cw k sz R w (.returned (.agg #[.int .i64 0, .int .i64 0, .int .i64 0, .int .i64 0, .int .i64 0, .int .i64 0, .int .i64 0, .int .i64 0, .slice none 0 0, .int .i64 0, .int .i64 0, .slice none 0 0])) (set12 (W) (w.heap.size + 1 + 1 + 1 + 1) ⟨⟨0, 0, 0, 0, 0, 0, 0, 0, 0, 0⟩, .slice none 0 0, .slice none 0 0⟩) from by rw [HRE.out]; exact WPost.cell (w1 := W) (co0_v _ _) (by omega) (by have := HSZ.out; omega) (.of HB.out) (Nat.le_add_right k sz) HWK.out HCW.out)
    change bodyPost _ _ _ _ _ (set12 (W) (w.heap.size + 1 + 1 + 1 + 1) ⟨⟨0, 0, 0, 0, 0, 0, 0, 0, 0, 0⟩, .slice none 0 0, .slice none 0 0⟩)
    generalize set12 (W) (w.heap.size + 1 + 1 + 1 + 1) ⟨⟨0, 0, 0, 0, 0, 0, 0, 0, 0, 0⟩, .slice none 0 0, .slice none 0 0⟩ = wf at HBF HPOST ⊢
    have z0 := HBF.out.c0; have z1 := HBF.out.c1; have z2 := HBF.out.c2; have z3 := HBF.out.c3; have z4 := HBF.out.c4; have z5 := HBF.out.c5; have z6 := HBF.out.c6; have z7 := HBF.out.c7; have z8 := HBF.out.c8; have z9 := HBF.out.c9; have z10 := HBF.out.c10; have z11 := HBF.out.c11
    clear HBF
    refine bodyPost_ret (v := .agg #[.int .i64 0, .int .i64 0, .int .i64 0, .int .i64 0, .int .i64 0, .int .i64 0, .int .i64 0, .int .i64 0, .slice none 0 0, .int .i64 0, .int .i64 0, .slice none 0 0]) ?_ ?_ ?_
    · simp [results, Tryd.results62, go_sem, z0, z1, z2, z3, z4, z5, z6, z7, z8, z9, z10, z11]
    · rfl
    · exact HPOST.out
  | false =>
    go_wp2_with fail
    refine (onc_any M cw k d W HWK.out (by have := HBD.out; omega) HBD.out.2.2.1 (by omega)).mono ?_
    rintro e w2 ⟨rfl, hs2, hw2⟩
    have HT2 := Lib.hid (HT1.out.stay hs2 (by have := HCW.out; omega))
    have HR2 := Lib.hid (HR4.out.stay hs2 (by have := HCW.out; omega))
    have HS2 := Lib.hid (show Stay (· = cw) w w2 from (Stay.of HB.out).trans hs2)
    have HC2 := Lib.hid (HWR.out w2 hw2 (by have := hs2.size; have := HSZ.out; omega) HCW.out (HP0.out.stay hs2 (by have := HCW.out; omega)) (HL2.out.stay hs2 (by have := HCW.out; omega)) (HD3.out.stay hs2 (by have := HCW.out; omega)) (by have h := HTV.out.stay hs2; rw [← HA.out] at h; exact h))
    have HSZ2 := Lib.hid (show (w.heap.size + 1 + 1 + 1 + 1) < w2.heap.size by have := hs2.size; have := HSZ.out; omega)
    clear hs2 hw2 x0 x1 x2 x3 x4 x5 p0 p3
    have x0 : w2.cell? ⟨(w.heap.size + 1), 0, none⟩ = some (.bool false) := HT2.out.c0
    have x1 : w2.cell? ⟨(w.heap.size + 1), 1, none⟩ = some (.int .i64 t.flat) := HT2.out.c1
    have x2 : w2.cell? ⟨(w.heap.size + 1), 2, none⟩ = some (.int .i64 t.pair) := HT2.out.c2
    have x3 : w2.cell? ⟨(w.heap.size + 1), 3, none⟩ = some (.slice pa np pc) := HT2.out.c3
    have x4 : w2.cell? ⟨(w.heap.size + 1), 4, none⟩ = some (.int .i64 t.fn) := HT2.out.c4
    have x5 : w2.cell? ⟨(w.heap.size + 1), 5, none⟩ = some (.slice fa nf fc) := HT2.out.c5
    go_wp2_with fail
    refine HC2.out.mono ?_
    rintro e w3 ⟨⟨v, rfl, hv⟩, hs3, k3, hk3, hst3⟩
    obtain ⟨ra, rc, rb, rd, rfl, _, _⟩ := hv.form
    have HV := Lib.hid hv
    have HR3 := Lib.hid (HR2.out.stay hs3 (by have := HCW.out; omega))
    have HS3 := Lib.hid (HS2.out.trans hs3)
    have HK3 := Lib.hid hk3
    have HW3 := Lib.hid hst3.walk
    clear hv hs3 hk3 hst3 x0 x1 x2 x3 x4 x5
    have r0 : w3.cell? ⟨(w.heap.size + 1 + 1 + 1 + 1), 0, none⟩ = some (.int .i64 0) := HR3.out.c0
    have r1 : w3.cell? ⟨(w.heap.size + 1 + 1 + 1 + 1), 1, none⟩ = some (.int .i64 0) := HR3.out.c1
    have r2 : w3.cell? ⟨(w.heap.size + 1 + 1 + 1 + 1), 2, none⟩ = some (.int .i64 0) := HR3.out.c2
    have r3 : w3.cell? ⟨(w.heap.size + 1 + 1 + 1 + 1), 3, none⟩ = some (.int .i64 0) := HR3.out.c3
    have r4 : w3.cell? ⟨(w.heap.size + 1 + 1 + 1 + 1), 4, none⟩ = some (.int .i64 0) := HR3.out.c4
    have r5 : w3.cell? ⟨(w.heap.size + 1 + 1 + 1 + 1), 5, none⟩ = some (.int .i64 0) := HR3.out.c5
    have r6 : w3.cell? ⟨(w.heap.size + 1 + 1 + 1 + 1), 6, none⟩ = some (.int .i64 0) := HR3.out.c6
    have r7 : w3.cell? ⟨(w.heap.size + 1 + 1 + 1 + 1), 7, none⟩ = some (.int .i64 0) := HR3.out.c7
    have r8 : w3.cell? ⟨(w.heap.size + 1 + 1 + 1 + 1), 8, none⟩ = some (.slice none 0 0) := HR3.out.c8
    have r9 : w3.cell? ⟨(w.heap.size + 1 + 1 + 1 + 1), 9, none⟩ = some (.int .i64 0) := HR3.out.c9
    have r10 : w3.cell? ⟨(w.heap.size + 1 + 1 + 1 + 1), 10, none⟩ = some (.int .i64 0) := HR3.out.c10
    have r11 : w3.cell? ⟨(w.heap.size + 1 + 1 + 1 + 1), 11, none⟩ = some (.slice none 0 0) := HR3.out.c11
    have fr0 : w3.frozen? ⟨(w.heap.size + 1 + 1 + 1 + 1), 0, none⟩ = false := HR3.out.fr 0
    have fr1 : w3.frozen? ⟨(w.heap.size + 1 + 1 + 1 + 1), 1, none⟩ = false := HR3.out.fr 1
    have fr2 : w3.frozen? ⟨(w.heap.size + 1 + 1 + 1 + 1), 2, none⟩ = false := HR3.out.fr 2
    have fr3 : w3.frozen? ⟨(w.heap.size + 1 + 1 + 1 + 1), 3, none⟩ = false := HR3.out.fr 3
    have fr4 : w3.frozen? ⟨(w.heap.size + 1 + 1 + 1 + 1), 4, none⟩ = false := HR3.out.fr 4
    have fr5 : w3.frozen? ⟨(w.heap.size + 1 + 1 + 1 + 1), 5, none⟩ = false := HR3.out.fr 5
    have fr6 : w3.frozen? ⟨(w.heap.size + 1 + 1 + 1 + 1), 6, none⟩ = false := HR3.out.fr 6
    have fr7 : w3.frozen? ⟨(w.heap.size + 1 + 1 + 1 + 1), 7, none⟩ = false := HR3.out.fr 7
    have fr8 : w3.frozen? ⟨(w.heap.size + 1 + 1 + 1 + 1), 8, none⟩ = false := HR3.out.fr 8
    have fr9 : w3.frozen? ⟨(w.heap.size + 1 + 1 + 1 + 1), 9, none⟩ = false := HR3.out.fr 9
    have fr10 : w3.frozen? ⟨(w.heap.size + 1 + 1 + 1 + 1), 10, none⟩ = false := HR3.out.fr 10
    have fr11 : w3.frozen? ⟨(w.heap.size + 1 + 1 + 1 + 1), 11, none⟩ = false := HR3.out.fr 11
    go_wp2
    have HBF := Lib.hid (show CBox (set12 (w3) (w.heap.size + 1 + 1 + 1 + 1) ⟨C.h, .slice ra C.pairs.length rc, .slice rb C.funs.length rd⟩) (w.heap.size + 1 + 1 + 1 + 1) 25 ⟨C.h, .slice ra C.pairs.length rc, .slice rb C.funs.length rd⟩ from CBox.set12 (HR3.out))
    have HPOST := Lib.hid (show WPost M cw k sz R w (.returned (.agg #[.int .i64 C.h.f0, .int .i64 C.h.f1, .int .i64 C.h.f2, .int .i64 C.h.f3, .int .i64 C.h.f4, .int .i64 C.h.f5, .int .i64 C.h.pair, .int .i64 C.h.pl, .slice ra C.pairs.length rc, .int .i64 C.h.fn, .int .i64 C.h.fl, .slice rb C.funs.length rd])) (set12 (w3) (w.heap.size + 1 + 1 + 1 + 1) ⟨C.h, .slice ra C.pairs.length rc, .slice rb C.funs.length rd⟩) from by rw [HRES1.out]; exact WPost.cell (w1 := w2) HV.out (by omega) HSZ2.out HS3.out HK3.out HW3.out HCW.out)
    change bodyPost _ _ _ _ _ (set12 (w3) (w.heap.size + 1 + 1 + 1 + 1) ⟨C.h, .slice ra C.pairs.length rc, .slice rb C.funs.length rd⟩)
    generalize set12 (w3) (w.heap.size + 1 + 1 + 1 + 1) ⟨C.h, .slice ra C.pairs.length rc, .slice rb C.funs.length rd⟩ = wf at HBF HPOST ⊢
    have z0 := HBF.out.c0; have z1 := HBF.out.c1; have z2 := HBF.out.c2; have z3 := HBF.out.c3; have z4 := HBF.out.c4; have z5 := HBF.out.c5; have z6 := HBF.out.c6; have z7 := HBF.out.c7; have z8 := HBF.out.c8; have z9 := HBF.out.c9; have z10 := HBF.out.c10; have z11 := HBF.out.c11
    clear HBF
    refine bodyPost_ret (v := .agg #[.int .i64 C.h.f0, .int .i64 C.h.f1, .int .i64 C.h.f2, .int .i64 C.h.f3, .int .i64 C.h.f4, .int .i64 C.h.f5, .int .i64 C.h.pair, .int .i64 C.h.pl, .slice ra C.pairs.length rc, .int .i64 C.h.fn, .int .i64 C.h.fl, .slice rb C.funs.length rd]) ?_ ?_ ?_
    · simp [results, Tryd.results62, go_sem, z0, z1, z2, z3, z4, z5, z6, z7, z8, z9, z10, z11]
    · rfl
    · exact HPOST.out
end Go.Proofs.YtlalnkabfigodaaDoor
