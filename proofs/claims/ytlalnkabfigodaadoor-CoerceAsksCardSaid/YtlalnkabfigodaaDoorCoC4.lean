import Derived.Test.YtlalnkabfigodaaDoorCoC3
namespace Go.Proofs.YtlalnkabfigodaaDoor
open Go.Lib (hid)
open Go.RowKit

/-- the blames at once, of which so many are composed -/
def mixH (c d : Co) (j : Nat) : Hd := ⟨if 0 < j then eithC c.h.f0 d.h.f0 else c.h.f0, if 1 < j then eithC c.h.f1 d.h.f1 else c.h.f1, if 2 < j then eithC c.h.f2 d.h.f2 else c.h.f2, if 3 < j then eithC c.h.f3 d.h.f3 else c.h.f3, if 4 < j then eithC c.h.f4 d.h.f4 else c.h.f4, if 5 < j then eithC c.h.f5 d.h.f5 else c.h.f5, 0, 0, 0, 0⟩
theorem compP_eq (n : Nat) {c d : Co} (h1 : 0 ≤ c.h.pair ∧ c.h.pair ≤ 3) (h2 : 0 ≤ d.h.pair ∧ d.h.pair ≤ 3) :
  compP n c d = if 2 ≤ c.h.pair ∧ 2 ≤ d.h.pair then (if c.h.pair = 3 ∧ d.h.pair = 3 then (3, eithC c.h.pl d.h.pl, [compF n (carC c) (carC d)]) else (2, 0, [compF n (carC c) (carC d), compF n (cdrC c) (cdrC d)])) else if c.h.pair ≠ 1 ∧ d.h.pair ≠ 0 then (d.h.pair, d.h.pl, d.pairs) else (c.h.pair, c.h.pl, c.pairs) := by
 unfold compP
 by_cases a1 : c.h.pair = 1 ∨ d.h.pair = 0
 ·
  rw [if_pos a1, if_neg (show ¬ (2 ≤ c.h.pair ∧ 2 ≤ d.h.pair) by omega), if_neg (show ¬ (c.h.pair ≠ 1 ∧ d.h.pair ≠ 0) by omega)]
 ·
  by_cases a2 : d.h.pair = 1 ∨ c.h.pair = 0
  ·
   rw [if_neg a1, if_pos a2, if_neg (show ¬ (2 ≤ c.h.pair ∧ 2 ≤ d.h.pair) by omega), if_pos (show c.h.pair ≠ 1 ∧ d.h.pair ≠ 0 by omega)]
  ·
   rw [if_neg a1, if_neg a2, if_pos (show 2 ≤ c.h.pair ∧ 2 ≤ d.h.pair by omega)]
theorem compFn_eq (n : Nat) {c d : Co} (h1 : 0 ≤ c.h.fn ∧ c.h.fn ≤ 3) (h2 : 0 ≤ d.h.fn ∧ d.h.fn ≤ 3) :
  compFn n c d = if 2 ≤ c.h.fn ∧ 2 ≤ d.h.fn then (if c.h.fn = 2 ∧ d.h.fn = 2 ∧ c.funs.length = d.funs.length then (2, 0, rowF n c d) else (3, 0, [])) else if c.h.fn ≠ 1 ∧ d.h.fn ≠ 0 then (d.h.fn, d.h.fl, d.funs) else (c.h.fn, c.h.fl, c.funs) := by
 unfold compFn
 by_cases a1 : c.h.fn = 1 ∨ d.h.fn = 0
 ·
  rw [if_pos a1, if_neg (show ¬ (2 ≤ c.h.fn ∧ 2 ≤ d.h.fn) by omega), if_neg (show ¬ (c.h.fn ≠ 1 ∧ d.h.fn ≠ 0) by omega)]
 ·
  by_cases a2 : d.h.fn = 1 ∨ c.h.fn = 0
  ·
   rw [if_neg a1, if_pos a2, if_neg (show ¬ (2 ≤ c.h.fn ∧ 2 ≤ d.h.fn) by omega), if_pos (show c.h.fn ≠ 1 ∧ d.h.fn ≠ 0 by omega)]
  ·
   rw [if_neg a1, if_neg a2, if_pos (show 2 ≤ c.h.fn ∧ 2 ≤ d.h.fn by omega)]
   by_cases a3 : c.h.fn = 3 ∨ d.h.fn = 3 ∨ c.funs.length ≠ d.funs.length
   ·
    rw [if_pos a3, if_neg (by omega)]
   ·
    rw [if_neg a3, if_pos (by omega)]
theorem comp_eq (n : Nat) {c d : Co} (oc : okC c) (od : okC d) : compF (n + 1) c d = .mk ⟨eithC c.h.f0 d.h.f0, eithC c.h.f1 d.h.f1, eithC c.h.f2 d.h.f2, eithC c.h.f3 d.h.f3, eithC c.h.f4 d.h.f4, eithC c.h.f5 d.h.f5, (compP n c d).1, (compP n c d).2.1, (compFn n c d).1, (compFn n c d).2.1⟩ (compP n c d).2.2 (compFn n c d).2.2 := by
 have h1 := headC_own oc.head
 have h2 := headC_own od.head
 have h3 : 2 ≤ d.h.fn → d.h.fl = 0 := fun h => by
  have hh := od.head
  unfold headC at hh
  rw [decide_eq_true_eq] at hh
  have h4 := hh.2.2.2.2.2.2.2.2.2.2.2.2.2.2.2.2
  by_cases e : d.h.fl = 0
  ·
   exact e
  ·
   have := h4.2 e; omega
 rw [compP_eq n h1.1 h2.1, compFn_eq n h1.2.1 h2.2.1, compF]
 by_cases a1 : 2 ≤ c.h.pair ∧ 2 ≤ d.h.pair <;> by_cases b1 : 2 ≤ c.h.fn ∧ 2 ≤ d.h.fn
 ·
  have e0 : c.h.fn ≠ 1 ∧ d.h.fn ≠ 0 := by omega
  by_cases a2 : c.h.pair = 3 ∧ d.h.pair = 3 <;> by_cases b2 : c.h.fn = 2 ∧ d.h.fn = 2 ∧ c.funs.length = d.funs.length <;> simp [a1, b1, a2, b2, e0, h3 b1.2, rowF]
 ·
  by_cases a2 : c.h.pair = 3 ∧ d.h.pair = 3 <;> by_cases b2 : c.h.fn ≠ 1 ∧ d.h.fn ≠ 0 <;> simp [a1, b1, a2, b2]
 ·
  have e0 : c.h.fn ≠ 1 ∧ d.h.fn ≠ 0 := by omega
  by_cases a2 : c.h.pair ≠ 1 ∧ d.h.pair ≠ 0 <;> by_cases b2 : c.h.fn = 2 ∧ d.h.fn = 2 ∧ c.funs.length = d.funs.length <;> simp [a1, b1, a2, b2, e0, h3 b1.2, rowF]
 ·
  by_cases a2 : c.h.pair ≠ 1 ∧ d.h.pair ≠ 0 <;> by_cases b2 : c.h.fn ≠ 1 ∧ d.h.fn ≠ 0 <;> simp [a1, b1, a2, b2]
theorem ixc0 (a0 a1 a2 a3 a4 a5 : Int) (w : World) : Sem.run Tryd.prog (Instr.index 22 (.agg #[.int .i64 a0, .int .i64 a1, .int .i64 a2, .int .i64 a3, .int .i64 a4, .int .i64 a5]) (.int .i64 0)) w = .ok (.int .i64 a0) w := by kernel_rfl
theorem ixc1 (a0 a1 a2 a3 a4 a5 : Int) (w : World) : Sem.run Tryd.prog (Instr.index 22 (.agg #[.int .i64 a0, .int .i64 a1, .int .i64 a2, .int .i64 a3, .int .i64 a4, .int .i64 a5]) (.int .i64 1)) w = .ok (.int .i64 a1) w := by kernel_rfl
theorem ixc2 (a0 a1 a2 a3 a4 a5 : Int) (w : World) : Sem.run Tryd.prog (Instr.index 22 (.agg #[.int .i64 a0, .int .i64 a1, .int .i64 a2, .int .i64 a3, .int .i64 a4, .int .i64 a5]) (.int .i64 2)) w = .ok (.int .i64 a2) w := by kernel_rfl
theorem ixc3 (a0 a1 a2 a3 a4 a5 : Int) (w : World) : Sem.run Tryd.prog (Instr.index 22 (.agg #[.int .i64 a0, .int .i64 a1, .int .i64 a2, .int .i64 a3, .int .i64 a4, .int .i64 a5]) (.int .i64 3)) w = .ok (.int .i64 a3) w := by kernel_rfl
theorem ixc4 (a0 a1 a2 a3 a4 a5 : Int) (w : World) : Sem.run Tryd.prog (Instr.index 22 (.agg #[.int .i64 a0, .int .i64 a1, .int .i64 a2, .int .i64 a3, .int .i64 a4, .int .i64 a5]) (.int .i64 4)) w = .ok (.int .i64 a4) w := by kernel_rfl
theorem ixc5 (a0 a1 a2 a3 a4 a5 : Int) (w : World) : Sem.run Tryd.prog (Instr.index 22 (.agg #[.int .i64 a0, .int .i64 a1, .int .i64 a2, .int .i64 a3, .int .i64 a4, .int .i64 a5]) (.int .i64 5)) w = .ok (.int .i64 a5) w := by kernel_rfl

set_option maxRecDepth 100000 in
set_option maxHeartbeats 32000000 in
theorem comp_succ (M n : Nat) (hM : M ≤ 2147483647) (ih : CompOK M n) : CompOK M (n + 1) := by
 intro c d vc vd w cw k e oc od hht hk he hT hw hc hd
 have hcw := hw.lt
 have hne := hT.walk hw
 have hsc := szC_eq c
 have hsd := szC_eq d
 have hbl := both_le (szCs c.pairs) (szCs d.pairs) (szCs c.funs) (szCs d.funs)
 rw [← hsc, ← hsd] at hbl
 obtain ⟨cost, hcost⟩ : ∃ x, x = szC c * szC d := ⟨_, rfl⟩
 rw [← hcost] at hk hbl ⊢
 obtain ⟨R, hR⟩ : ∃ x, x = compF (n + 1) c d := ⟨_, rfl⟩
 rw [← hR]
 rw [comp_eq n oc od] at hR
 obtain ⟨pa, pc, fa, fc, rfl, hp, hf⟩ := hc.form
 obtain ⟨np, hnp⟩ : ∃ n, n = c.pairs.length := ⟨_, rfl⟩
 obtain ⟨nf, hnf⟩ : ∃ n, n = c.funs.length := ⟨_, rfl⟩
 obtain ⟨qa, qc, ga, gc, rfl, hq, hg⟩ := hd.form
 obtain ⟨mp, hmp⟩ : ∃ n, n = d.pairs.length := ⟨_, rfl⟩
 obtain ⟨mf, hmf⟩ : ∃ n, n = d.funs.length := ⟨_, rfl⟩
 have hcp := fun (w1 : World) (h1 : Stay (· = cw) w w1) (h2 : WalkC M cw (k + 1) w1) => cpairs_p M n hM ih c d _ _ w1 cw (k + 1) e oc od hht (by omega) (by omega) (hT.stay h1 (Ne.symm hne)) h2 (hc.stay h1) (hd.stay h1)
 have hcf := fun (w1 : World) (k1 : Nat) (hk1 : k1 ≤ k + 1 + both7 (szCs c.pairs) (szCs d.pairs)) (h1 : Stay (· = cw) w w1) (h2 : WalkC M cw k1 w1) => cfuns_p M n hM ih c d _ _ w1 cw k1 e oc od hht (by omega) (by omega) (hT.stay h1 (Ne.symm hne)) h2 (hc.stay h1) (hd.stay h1)
 rw [← hnp, ← hnf, ← hmp, ← hmf] at hcp hcf
 rw [← hnp, ← hnf, ← hmp, ← hmf]
 obtain ⟨P, hP⟩ : ∃ P, P = compP n c d := ⟨_, rfl⟩
 obtain ⟨F, hF⟩ : ∃ F, F = compFn n c d := ⟨_, rfl⟩
 obtain ⟨c1, hc1⟩ : ∃ x, x = both7 (szCs c.pairs) (szCs d.pairs) := ⟨_, rfl⟩
 obtain ⟨c2, hc2⟩ : ∃ x, x = both7 (szCs c.funs) (szCs d.funs) := ⟨_, rfl⟩
 rw [← hP, ← hc1] at hcp
 rw [← hF, ← hc1, ← hc2] at hcf
 rw [← hP, ← hF] at hR
 rw [← hc1, ← hc2] at hbl
 obtain ⟨W, hW⟩ : ∃ W, W = ((w.alloc (.cells #[.int .i64 c.h.f0, .int .i64 c.h.f1, .int .i64 c.h.f2, .int .i64 c.h.f3, .int .i64 c.h.f4, .int .i64 c.h.f5, .int .i64 c.h.pair, .int .i64 c.h.pl, .slice pa np pc, .int .i64 c.h.fn, .int .i64 c.h.fl, .slice fa nf fc] 25)).alloc (.cells #[.int .i64 d.h.f0, .int .i64 d.h.f1, .int .i64 d.h.f2, .int .i64 d.h.f3, .int .i64 d.h.f4, .int .i64 d.h.f5, .int .i64 d.h.pair, .int .i64 d.h.pl, .slice qa mp qc, .int .i64 d.h.fn, .int .i64 d.h.fl, .slice ga mf gc] 25)).alloc (.cells #[.int .i64 0, .int .i64 0, .int .i64 0, .int .i64 0, .int .i64 0, .int .i64 0, .int .i64 0, .int .i64 0, .slice none 0 0, .int .i64 0, .int .i64 0, .slice none 0 0] 25) := ⟨_, rfl⟩
 have hb : Below w.heap.size w W := by rw [hW]; exact ((bAl _ _).alloc (by simp) _).alloc (by simp only [alloc_hs7]; omega) _
 have HX := hid (show CBox W w.heap.size 25 ⟨c.h, .slice pa np pc, .slice fa nf fc⟩ by rw [hW]; exact ((CBox.made w 25 ⟨c.h, .slice pa np pc, .slice fa nf fc⟩).keep (bAl _ _)).keep (bAl _ _))
 have HY := hid (show CBox W (w.heap.size + 1) 25 ⟨d.h, .slice qa mp qc, .slice ga mf gc⟩ by rw [hW]; have := (CBox.made (w.alloc (.cells #[.int .i64 c.h.f0, .int .i64 c.h.f1, .int .i64 c.h.f2, .int .i64 c.h.f3, .int .i64 c.h.f4, .int .i64 c.h.f5, .int .i64 c.h.pair, .int .i64 c.h.pl, .slice pa np pc, .int .i64 c.h.fn, .int .i64 c.h.fl, .slice fa nf fc] 25)) 25 ⟨d.h, .slice qa mp qc, .slice ga mf gc⟩).keep ((Below.refl _ _).alloc (Nat.le_refl _) (.cells #[.int .i64 0, .int .i64 0, .int .i64 0, .int .i64 0, .int .i64 0, .int .i64 0, .int .i64 0, .int .i64 0, .slice none 0 0, .int .i64 0, .int .i64 0, .slice none 0 0] 25)); simp only [alloc_hs7] at this; exact this)
 have HR := hid (show CBox W (w.heap.size + 2) 25 ⟨⟨0, 0, 0, 0, 0, 0, 0, 0, 0, 0⟩, .slice none 0 0, .slice none 0 0⟩ by rw [hW]; have := CBox.made ((w.alloc (.cells #[.int .i64 c.h.f0, .int .i64 c.h.f1, .int .i64 c.h.f2, .int .i64 c.h.f3, .int .i64 c.h.f4, .int .i64 c.h.f5, .int .i64 c.h.pair, .int .i64 c.h.pl, .slice pa np pc, .int .i64 c.h.fn, .int .i64 c.h.fl, .slice fa nf fc] 25)).alloc (.cells #[.int .i64 d.h.f0, .int .i64 d.h.f1, .int .i64 d.h.f2, .int .i64 d.h.f3, .int .i64 d.h.f4, .int .i64 d.h.f5, .int .i64 d.h.pair, .int .i64 d.h.pl, .slice qa mp qc, .int .i64 d.h.fn, .int .i64 d.h.fl, .slice ga mf gc] 25)) 25 ⟨⟨0, 0, 0, 0, 0, 0, 0, 0, 0, 0⟩, .slice none 0 0, .slice none 0 0⟩; simp only [alloc_hs7] at this; exact this)
 have HSZ := hid (show W.heap.size = w.heap.size + 3 by rw [hW]; simp)
 have HB := hid hb
 have HCW := hid hcw
 have HWK0 := hid (hw.keep hb)
 have HCP := hid hcp
 have HCF := hid hcf
 have HRQ := hid hR
 have HBL := hid hbl
 have HKM := hid hk
 have HMM := hid hM
 have HW := hid hW
 have he2 : (e : Int) ≤ 131000 := by omega
 clear hb hcw hne hsc hsd hbl hcost hR hcp hcf hP hF hc1 hc2 hW hp hf hq hg hnp hnf hmp hmf oc od hht hk he hT hw hc hd hM ih
 go_enter Tryd.func63, Tryd.ntmps63
 go_wp2_with fail
 rw [← HW.out]
 clear HW
 refine (onc_any M cw k e W HWK0.out (by have := HKM.out; have := HBL.out; omega) HMM.out (by omega)).mono ?_
 rintro e2 w2 ⟨rfl, hs2, hw2⟩
 have HSV := hid hs2
 have HWV := hid hw2
 clear hs2 hw2 HWK0
 obtain ⟨x0, x1, x2, x3, x4, x5, x6, x7, x8, x9, x10, x11⟩ := (HX.out.stay HSV.out (by have := HCW.out; omega)).cs
 (try dsimp only at x0 x1 x2 x3 x4 x5 x6 x7 x8 x9 x10 x11)
 obtain ⟨y0, y1, y2, y3, y4, y5, y6, y7, y8, y9, y10, y11⟩ := (HY.out.stay HSV.out (by have := HCW.out; omega)).cs
 (try dsimp only at y0 y1 y2 y3 y4 y5 y6 y7 y8 y9 y10 y11)
 go_upto_region 4 with fail
 obtain ⟨w3, hw3⟩ : ∃ x : World, x = w2.alloc (.cells #[.int .i64 c.h.f0, .int .i64 c.h.f1, .int .i64 c.h.f2, .int .i64 c.h.f3, .int .i64 c.h.f4, .int .i64 c.h.f5, .int .i64 0, .int .i64 0, .slice none 0 0, .int .i64 0, .int .i64 0, .slice none 0 0] 25) := ⟨_, rfl⟩
 rw [← hw3]
 have hb : Below w2.heap.size w2 w3 := by rw [hw3]; exact bAl _ _
 obtain ⟨g, hg⟩ : ∃ x, x = w2.heap.size := ⟨_, rfl⟩
 rw [← hg]
 have HG := hid (show CBox w3 g 25 ⟨mixH c d 0, .slice none 0 0, .slice none 0 0⟩ by rw [hw3, hg]; exact CBox.made w2 25 ⟨mixH c d 0, .slice none 0 0, .slice none 0 0⟩)
 have HGL := hid (show W.heap.size ≤ g by rw [hg]; exact HSV.out.size)
 replace HSV := hid (HSV.out.then hb)
 replace HWV := hid (HWV.out.keep hb)
 clear hb hw3 hg x0 y0 x1 y1 x2 y2 x3 y3 x4 y4 x5 y5 x6 y6 x7 y7 x8 y8 x9 y9 x10 y10 x11 y11
 obtain ⟨x0, x1, x2, x3, x4, x5, x6, x7, x8, x9, x10, x11⟩ := (HX.out.stay HSV.out (by have := HCW.out; omega)).cs
 (try dsimp only at x0 x1 x2 x3 x4 x5 x6 x7 x8 x9 x10 x11)
 obtain ⟨y0, y1, y2, y3, y4, y5, y6, y7, y8, y9, y10, y11⟩ := (HY.out.stay HSV.out (by have := HCW.out; omega)).cs
 (try dsimp only at y0 y1 y2 y3 y4 y5 y6 y7 y8 y9 y10 y11)
 go_wp2
 clear x0 y0 x1 y1 x2 y2 x3 y3 x4 y4 x5 y5 x6 y6 x7 y7 x8 y8 x9 y9 x10 y10 x11 y11
 go_loopw [10, 11, 22] (fun _ _ i wr => ∃ j : Nat, j ≤ 6 ∧ i = .int .i64 j ∧ Hid (CBox wr g 25 ⟨mixH c d j, .slice none 0 0, .slice none 0 0⟩) ∧ Hid (Stay (· = cw) W wr) ∧ Hid (WalkC M cw (k + 1) wr)) (fun _ _ i _ => 6 - (intOf i).toNat)
 case atStart => exact ⟨0, Nat.zero_le _, rfl, HG, HSV, HWV⟩
 case round =>
  clear HG HSV HWV
  obtain ⟨j, hj, hi, HG, HSV, HWV⟩ := hrel
  rcases (by omega : j = 0 ∨ j = 1 ∨ j = 2 ∨ j = 3 ∨ j = 4 ∨ j = 5 ∨ j = 6) with rfl | rfl | rfl | rfl | rfl | rfl | rfl
  ·
   obtain rfl : _ = Value.int .i64 0 := hi
   have r0 : wr.cell? ⟨g, 0, none⟩ = some (.int .i64 c.h.f0) := HG.out.c0
   have hix := ixc0 d.h.f0 d.h.f1 d.h.f2 d.h.f3 d.h.f4 d.h.f5 wr
   go_wp2_with fail
   obtain ⟨wA, hwA⟩ : ∃ x : World, x = wr.alloc (.cells #[.int .i64 c.h.f0, .int .i64 d.h.f0] 3) := ⟨_, rfl⟩
   rw [← hwA]
   have hb : Below wr.heap.size wr wA := by rw [hwA]; exact bAl _ _
   refine (or_p c.h.f0 d.h.f0 wr.heap.size wA (by rw [hwA]; exact Lib.cell_of_heap (heap_alloc_new _ _) 0) (by rw [hwA]; exact Lib.cell_of_heap (heap_alloc_new _ _) 1)).mono ?_
   clear hwA
   rintro e2 w5 ⟨rfl, rfl⟩
   have HG5 := hid (HG.out.keep hb)
   have HS5 := hid (HSV.out.then hb)
   have HW5 := hid (HWV.out.keep hb)
   clear hb r0
   have r0 : w5.cell? ⟨g, 0, none⟩ = some (.int .i64 c.h.f0) := HG5.out.c0
   have fr0 := HG5.out.fr 0
   go_wp2
   exact ⟨⟨0 + 1, by omega, rfl, hid (show CBox _ g 25 ⟨mixH c d (0 + 1), .slice none 0 0, .slice none 0 0⟩ from HG5.out.s0 (x := eithC c.h.f0 d.h.f0)), hid (HS5.out.setG (p := ⟨g, 0, Option.none⟩) HGL.out _), hid (VarIs.off HW5.out (by have := HGL.out; have := HCW.out; have := HSZ.out; omega))⟩, by simp [intOf]⟩
  ·
   obtain rfl : _ = Value.int .i64 1 := hi
   have r1 : wr.cell? ⟨g, 1, none⟩ = some (.int .i64 c.h.f1) := HG.out.c1
   have hix := ixc1 d.h.f0 d.h.f1 d.h.f2 d.h.f3 d.h.f4 d.h.f5 wr
   go_wp2_with fail
   obtain ⟨wA, hwA⟩ : ∃ x : World, x = wr.alloc (.cells #[.int .i64 c.h.f1, .int .i64 d.h.f1] 3) := ⟨_, rfl⟩
   rw [← hwA]
   have hb : Below wr.heap.size wr wA := by rw [hwA]; exact bAl _ _
   refine (or_p c.h.f1 d.h.f1 wr.heap.size wA (by rw [hwA]; exact Lib.cell_of_heap (heap_alloc_new _ _) 0) (by rw [hwA]; exact Lib.cell_of_heap (heap_alloc_new _ _) 1)).mono ?_
   clear hwA
   rintro e2 w5 ⟨rfl, rfl⟩
   have HG5 := hid (HG.out.keep hb)
   have HS5 := hid (HSV.out.then hb)
   have HW5 := hid (HWV.out.keep hb)
   clear hb r1
   have r1 : w5.cell? ⟨g, 1, none⟩ = some (.int .i64 c.h.f1) := HG5.out.c1
   have fr1 := HG5.out.fr 1
   go_wp2
   exact ⟨⟨1 + 1, by omega, rfl, hid (show CBox _ g 25 ⟨mixH c d (1 + 1), .slice none 0 0, .slice none 0 0⟩ from HG5.out.s1 (x := eithC c.h.f1 d.h.f1)), hid (HS5.out.setG (p := ⟨g, 1, Option.none⟩) HGL.out _), hid (VarIs.off HW5.out (by have := HGL.out; have := HCW.out; have := HSZ.out; omega))⟩, by simp [intOf]⟩
  ·
   obtain rfl : _ = Value.int .i64 2 := hi
   have r2 : wr.cell? ⟨g, 2, none⟩ = some (.int .i64 c.h.f2) := HG.out.c2
   have hix := ixc2 d.h.f0 d.h.f1 d.h.f2 d.h.f3 d.h.f4 d.h.f5 wr
   go_wp2_with fail
   obtain ⟨wA, hwA⟩ : ∃ x : World, x = wr.alloc (.cells #[.int .i64 c.h.f2, .int .i64 d.h.f2] 3) := ⟨_, rfl⟩
   rw [← hwA]
   have hb : Below wr.heap.size wr wA := by rw [hwA]; exact bAl _ _
   refine (or_p c.h.f2 d.h.f2 wr.heap.size wA (by rw [hwA]; exact Lib.cell_of_heap (heap_alloc_new _ _) 0) (by rw [hwA]; exact Lib.cell_of_heap (heap_alloc_new _ _) 1)).mono ?_
   clear hwA
   rintro e2 w5 ⟨rfl, rfl⟩
   have HG5 := hid (HG.out.keep hb)
   have HS5 := hid (HSV.out.then hb)
   have HW5 := hid (HWV.out.keep hb)
   clear hb r2
   have r2 : w5.cell? ⟨g, 2, none⟩ = some (.int .i64 c.h.f2) := HG5.out.c2
   have fr2 := HG5.out.fr 2
   go_wp2
   exact ⟨⟨2 + 1, by omega, rfl, hid (show CBox _ g 25 ⟨mixH c d (2 + 1), .slice none 0 0, .slice none 0 0⟩ from HG5.out.s2 (x := eithC c.h.f2 d.h.f2)), hid (HS5.out.setG (p := ⟨g, 2, Option.none⟩) HGL.out _), hid (VarIs.off HW5.out (by have := HGL.out; have := HCW.out; have := HSZ.out; omega))⟩, by simp [intOf]⟩
  ·
   obtain rfl : _ = Value.int .i64 3 := hi
   have r3 : wr.cell? ⟨g, 3, none⟩ = some (.int .i64 c.h.f3) := HG.out.c3
   have hix := ixc3 d.h.f0 d.h.f1 d.h.f2 d.h.f3 d.h.f4 d.h.f5 wr
   go_wp2_with fail
   obtain ⟨wA, hwA⟩ : ∃ x : World, x = wr.alloc (.cells #[.int .i64 c.h.f3, .int .i64 d.h.f3] 3) := ⟨_, rfl⟩
   rw [← hwA]
   have hb : Below wr.heap.size wr wA := by rw [hwA]; exact bAl _ _
   refine (or_p c.h.f3 d.h.f3 wr.heap.size wA (by rw [hwA]; exact Lib.cell_of_heap (heap_alloc_new _ _) 0) (by rw [hwA]; exact Lib.cell_of_heap (heap_alloc_new _ _) 1)).mono ?_
   clear hwA
   rintro e2 w5 ⟨rfl, rfl⟩
   have HG5 := hid (HG.out.keep hb)
   have HS5 := hid (HSV.out.then hb)
   have HW5 := hid (HWV.out.keep hb)
   clear hb r3
   have r3 : w5.cell? ⟨g, 3, none⟩ = some (.int .i64 c.h.f3) := HG5.out.c3
   have fr3 := HG5.out.fr 3
   go_wp2
   exact ⟨⟨3 + 1, by omega, rfl, hid (show CBox _ g 25 ⟨mixH c d (3 + 1), .slice none 0 0, .slice none 0 0⟩ from HG5.out.s3 (x := eithC c.h.f3 d.h.f3)), hid (HS5.out.setG (p := ⟨g, 3, Option.none⟩) HGL.out _), hid (VarIs.off HW5.out (by have := HGL.out; have := HCW.out; have := HSZ.out; omega))⟩, by simp [intOf]⟩
  ·
   obtain rfl : _ = Value.int .i64 4 := hi
   have r4 : wr.cell? ⟨g, 4, none⟩ = some (.int .i64 c.h.f4) := HG.out.c4
   have hix := ixc4 d.h.f0 d.h.f1 d.h.f2 d.h.f3 d.h.f4 d.h.f5 wr
   go_wp2_with fail
   obtain ⟨wA, hwA⟩ : ∃ x : World, x = wr.alloc (.cells #[.int .i64 c.h.f4, .int .i64 d.h.f4] 3) := ⟨_, rfl⟩
   rw [← hwA]
   have hb : Below wr.heap.size wr wA := by rw [hwA]; exact bAl _ _
   refine (or_p c.h.f4 d.h.f4 wr.heap.size wA (by rw [hwA]; exact Lib.cell_of_heap (heap_alloc_new _ _) 0) (by rw [hwA]; exact Lib.cell_of_heap (heap_alloc_new _ _) 1)).mono ?_
   clear hwA
   rintro e2 w5 ⟨rfl, rfl⟩
   have HG5 := hid (HG.out.keep hb)
   have HS5 := hid (HSV.out.then hb)
   have HW5 := hid (HWV.out.keep hb)
   clear hb r4
   have r4 : w5.cell? ⟨g, 4, none⟩ = some (.int .i64 c.h.f4) := HG5.out.c4
   have fr4 := HG5.out.fr 4
   go_wp2
   exact ⟨⟨4 + 1, by omega, rfl, hid (show CBox _ g 25 ⟨mixH c d (4 + 1), .slice none 0 0, .slice none 0 0⟩ from HG5.out.s4 (x := eithC c.h.f4 d.h.f4)), hid (HS5.out.setG (p := ⟨g, 4, Option.none⟩) HGL.out _), hid (VarIs.off HW5.out (by have := HGL.out; have := HCW.out; have := HSZ.out; omega))⟩, by simp [intOf]⟩
  ·
   obtain rfl : _ = Value.int .i64 5 := hi
   have r5 : wr.cell? ⟨g, 5, none⟩ = some (.int .i64 c.h.f5) := HG.out.c5
   have hix := ixc5 d.h.f0 d.h.f1 d.h.f2 d.h.f3 d.h.f4 d.h.f5 wr
   go_wp2_with fail
   obtain ⟨wA, hwA⟩ : ∃ x : World, x = wr.alloc (.cells #[.int .i64 c.h.f5, .int .i64 d.h.f5] 3) := ⟨_, rfl⟩
   rw [← hwA]
   have hb : Below wr.heap.size wr wA := by rw [hwA]; exact bAl _ _
   refine (or_p c.h.f5 d.h.f5 wr.heap.size wA (by rw [hwA]; exact Lib.cell_of_heap (heap_alloc_new _ _) 0) (by rw [hwA]; exact Lib.cell_of_heap (heap_alloc_new _ _) 1)).mono ?_
   clear hwA
   rintro e2 w5 ⟨rfl, rfl⟩
   have HG5 := hid (HG.out.keep hb)
   have HS5 := hid (HSV.out.then hb)
   have HW5 := hid (HWV.out.keep hb)
   clear hb r5
   have r5 : w5.cell? ⟨g, 5, none⟩ = some (.int .i64 c.h.f5) := HG5.out.c5
   have fr5 := HG5.out.fr 5
   go_wp2
   exact ⟨⟨5 + 1, by omega, rfl, hid (show CBox _ g 25 ⟨mixH c d (5 + 1), .slice none 0 0, .slice none 0 0⟩ from HG5.out.s5 (x := eithC c.h.f5 d.h.f5)), hid (HS5.out.setG (p := ⟨g, 5, Option.none⟩) HGL.out _), hid (VarIs.off HW5.out (by have := HGL.out; have := HCW.out; have := HSZ.out; omega))⟩, by simp [intOf]⟩
  ·
   obtain rfl : _ = Value.int .i64 6 := hi
   clear hj
   obtain ⟨x0, x1, x2, x3, x4, x5, x6, x7, x8, x9, x10, x11⟩ := (HX.out.stay HSV.out (by have := HCW.out; omega)).cs
   (try dsimp only at x0 x1 x2 x3 x4 x5 x6 x7 x8 x9 x10 x11)
   obtain ⟨y0, y1, y2, y3, y4, y5, y6, y7, y8, y9, y10, y11⟩ := (HY.out.stay HSV.out (by have := HCW.out; omega)).cs
   (try dsimp only at y0 y1 y2 y3 y4 y5 y6 y7 y8 y9 y10 y11)
   go_wp2_with fail
   refine (HCP.out wr ((Stay.of HB.out).trans HSV.out) HWV.out).mono ?_
   rintro e2 w6 ⟨⟨v, rfl, hv⟩, hs6, k6, hk6, hw6⟩
   obtain ⟨va, vb, rfl⟩ := hv.val
   obtain ⟨vn, hvn⟩ : ∃ x, x = P.2.2.length := ⟨_, rfl⟩
   rw [← hvn] at hv ⊢
   have HK6 := hid hk6
   have HVP := hid hv
   have HGOHVP := hid (show Old wr.heap.size g from HG.out.lt)
   have HWO := hid (show W.heap.size ≤ wr.heap.size from HSV.out.size)
   replace HG := hid (HG.out.stay hs6 (by have := HGL.out; have := HCW.out; have := HSZ.out; omega))
   replace HSV := hid (HSV.out.trans hs6)
   replace HWV := hid hw6
   clear hv hs6 hk6 hw6 hvn x0 y0 x1 y1 x2 y2 x3 y3 x4 y4 x5 y5 x6 y6 x7 y7 x8 y8 x9 y9 x10 y10 x11 y11
   have z0 := HG.out.c6
   have z1 := HG.out.c7
   have z2 := HG.out.c8
   have q0 := HG.out.fr 6
   have q1 := HG.out.fr 7
   have q2 := HG.out.fr 8
   go_upto_region 10 with fail
   have HGN := hid (show CBox (((w6.setCell ⟨g, 6, none⟩ (.int .i64 P.1)).setCell ⟨g, 7, none⟩ (.int .i64 P.2.1)).setCell ⟨g, 8, none⟩ (.slice va vn vb)) g 25 ⟨{ mixH c d 6 with pair := P.1, pl := P.2.1 }, .slice va vn vb, .slice none 0 0⟩ from HG.out.s6.s7.s8)
   have HSN := hid (show Stay (· = cw) W (((w6.setCell ⟨g, 6, none⟩ (.int .i64 P.1)).setCell ⟨g, 7, none⟩ (.int .i64 P.2.1)).setCell ⟨g, 8, none⟩ (.slice va vn vb)) from (((HSV.out.setG (p := ⟨g, 6, Option.none⟩) HGL.out (.int .i64 P.1)).setG (p := ⟨g, 7, Option.none⟩) HGL.out (.int .i64 P.2.1)).setG (p := ⟨g, 8, Option.none⟩) HGL.out (.slice va vn vb)))
   have HWN := hid (show WalkC M cw k6 (((w6.setCell ⟨g, 6, none⟩ (.int .i64 P.1)).setCell ⟨g, 7, none⟩ (.int .i64 P.2.1)).setCell ⟨g, 8, none⟩ (.slice va vn vb)) from (VarIs.off (VarIs.off (VarIs.off HWV.out (by have := HGL.out; have := HCW.out; have := HSZ.out; omega)) (by have := HGL.out; have := HCW.out; have := HSZ.out; omega)) (by have := HGL.out; have := HCW.out; have := HSZ.out; omega)))
   replace HVP := hid ((CoSN.set (CoSN.set (CoSN.set HVP.out ⟨g, 6, none⟩ HGOHVP.out (.int .i64 P.1)) ⟨g, 7, none⟩ HGOHVP.out (.int .i64 P.2.1)) ⟨g, 8, none⟩ HGOHVP.out (.slice va vn vb)))
   clear HG HSV HWV z0 z1 z2 q0 q1 q2
   generalize (((w6.setCell ⟨g, 6, none⟩ (.int .i64 P.1)).setCell ⟨g, 7, none⟩ (.int .i64 P.2.1)).setCell ⟨g, 8, none⟩ (.slice va vn vb)) = w7 at HGN HSN HWN HVP ⊢
   have HG := HGN
   have HSV := HSN
   have HWV := HWN
   clear HGN HSN HWN
   obtain ⟨x0, x1, x2, x3, x4, x5, x6, x7, x8, x9, x10, x11⟩ := (HX.out.stay HSV.out (by have := HCW.out; omega)).cs
   (try dsimp only at x0 x1 x2 x3 x4 x5 x6 x7 x8 x9 x10 x11)
   obtain ⟨y0, y1, y2, y3, y4, y5, y6, y7, y8, y9, y10, y11⟩ := (HY.out.stay HSV.out (by have := HCW.out; omega)).cs
   (try dsimp only at y0 y1 y2 y3 y4 y5 y6 y7 y8 y9 y10 y11)
   go_wp2_with fail
   refine (HCF.out w7 k6 HK6.out ((Stay.of HB.out).trans HSV.out) HWV.out).mono ?_
   rintro e2 w8 ⟨⟨v, rfl, hv⟩, hs6, k7, hk7, hw6⟩
   obtain ⟨ua, ub, rfl⟩ := hv.val
   obtain ⟨un, hun⟩ : ∃ x, x = F.2.2.length := ⟨_, rfl⟩
   rw [← hun] at hv ⊢
   have HK7 := hid hk7
   have HVF := hid hv
   have HGOHVF := hid (show Old w7.heap.size g from HG.out.lt)
   have HWO7 := hid (show W.heap.size ≤ w7.heap.size from HSV.out.size)
   have hgw := HG.out.lt
   replace HVP := hid (CoSN.stay HVP.out (hs6.up (M := Old wr.heap.size) fun b h => by rw [h]; have := HWO.out; have := HSZ.out; have := HCW.out; show cw < wr.heap.size; omega))
   replace HG := hid (HG.out.stay hs6 (by have := HGL.out; have := HCW.out; have := HSZ.out; omega))
   replace HSV := hid (HSV.out.trans hs6)
   replace HWV := hid hw6
   clear hv hs6 hk7 hw6 hun hgw x0 y0 x1 y1 x2 y2 x3 y3 x4 y4 x5 y5 x6 y6 x7 y7 x8 y8 x9 y9 x10 y10 x11 y11
   have z0 := HG.out.c9
   have z1 := HG.out.c10
   have z2 := HG.out.c11
   have q0 := HG.out.fr 9
   have q1 := HG.out.fr 10
   have q2 := HG.out.fr 11
   go_upto_region 11 with fail
   have HGN := hid (show CBox (((w8.setCell ⟨g, 9, none⟩ (.int .i64 F.1)).setCell ⟨g, 10, none⟩ (.int .i64 F.2.1)).setCell ⟨g, 11, none⟩ (.slice ua un ub)) g 25 ⟨⟨eithC c.h.f0 d.h.f0, eithC c.h.f1 d.h.f1, eithC c.h.f2 d.h.f2, eithC c.h.f3 d.h.f3, eithC c.h.f4 d.h.f4, eithC c.h.f5 d.h.f5, P.1, P.2.1, F.1, F.2.1⟩, .slice va vn vb, .slice ua un ub⟩ from HG.out.s9.s10.s11)
   have HSN := hid (show Stay (· = cw) W (((w8.setCell ⟨g, 9, none⟩ (.int .i64 F.1)).setCell ⟨g, 10, none⟩ (.int .i64 F.2.1)).setCell ⟨g, 11, none⟩ (.slice ua un ub)) from (((HSV.out.setG (p := ⟨g, 9, Option.none⟩) HGL.out (.int .i64 F.1)).setG (p := ⟨g, 10, Option.none⟩) HGL.out (.int .i64 F.2.1)).setG (p := ⟨g, 11, Option.none⟩) HGL.out (.slice ua un ub)))
   have HWN := hid (show WalkC M cw k7 (((w8.setCell ⟨g, 9, none⟩ (.int .i64 F.1)).setCell ⟨g, 10, none⟩ (.int .i64 F.2.1)).setCell ⟨g, 11, none⟩ (.slice ua un ub)) from (VarIs.off (VarIs.off (VarIs.off HWV.out (by have := HGL.out; have := HCW.out; have := HSZ.out; omega)) (by have := HGL.out; have := HCW.out; have := HSZ.out; omega)) (by have := HGL.out; have := HCW.out; have := HSZ.out; omega)))
   replace HVP := hid ((CoSN.set (CoSN.set (CoSN.set HVP.out ⟨g, 9, none⟩ HGOHVP.out (.int .i64 F.1)) ⟨g, 10, none⟩ HGOHVP.out (.int .i64 F.2.1)) ⟨g, 11, none⟩ HGOHVP.out (.slice ua un ub)))
   replace HVF := hid ((CoSN.set (CoSN.set (CoSN.set HVF.out ⟨g, 9, none⟩ HGOHVF.out (.int .i64 F.1)) ⟨g, 10, none⟩ HGOHVF.out (.int .i64 F.2.1)) ⟨g, 11, none⟩ HGOHVF.out (.slice ua un ub)))
   clear HG HSV HWV z0 z1 z2 q0 q1 q2
   generalize (((w8.setCell ⟨g, 9, none⟩ (.int .i64 F.1)).setCell ⟨g, 10, none⟩ (.int .i64 F.2.1)).setCell ⟨g, 11, none⟩ (.slice ua un ub)) = w9 at HGN HSN HWN HVP HVF ⊢
   have HG := HGN
   have HSV := HSN
   have HWV := HWN
   clear HGN HSN HWN
   have HRES := hid (show CoVN (Old W.heap.size) w9 _ R by rw [HRQ.out]; exact CoVN.mk (h := ⟨eithC c.h.f0 d.h.f0, eithC c.h.f1 d.h.f1, eithC c.h.f2 d.h.f2, eithC c.h.f3 d.h.f3, eithC c.h.f4 d.h.f4, eithC c.h.f5 d.h.f5, P.1, P.2.1, F.1, F.2.1⟩) (CoSN.mono HVP.out fun b _ h => Nat.lt_of_lt_of_le h HWO.out) (CoSN.mono HVF.out fun b _ h => Nat.lt_of_lt_of_le h HWO7.out))
   replace HR := hid (HR.out.stay HSV.out (by have := HCW.out; omega))
   obtain ⟨eh, heh⟩ : ∃ x : Hd, x = ⟨eithC c.h.f0 d.h.f0, eithC c.h.f1 d.h.f1, eithC c.h.f2 d.h.f2, eithC c.h.f3 d.h.f3, eithC c.h.f4 d.h.f4, eithC c.h.f5 d.h.f5, P.1, P.2.1, F.1, F.2.1⟩ := ⟨_, rfl⟩
   rw [← heh] at HG HRES
   clear heh
   obtain ⟨x0, x1, x2, x3, x4, x5, x6, x7, x8, x9, x10, x11⟩ := HG.out.cs
   (try dsimp only at x0 x1 x2 x3 x4 x5 x6 x7 x8 x9 x10 x11)
   obtain ⟨r0, r1, r2, r3, r4, r5, r6, r7, r8, r9, r10, r11⟩ := HR.out.cs
   (try dsimp only at r0 r1 r2 r3 r4 r5 r6 r7 r8 r9 r10 r11)
   obtain ⟨fr0, fr1, fr2, fr3, fr4, fr5, fr6, fr7, fr8, fr9, fr10, fr11⟩ := HR.out.frs
   go_wp2
   have HPOST := hid (show WPost M cw k cost R w (.returned (coV ⟨eh, .slice va vn vb, .slice ua un ub⟩)) (set12 (w9) (w.heap.size + 2) ⟨eh, .slice va vn vb, .slice ua un ub⟩) from WPost.cell (w1 := W) HRES.out (by omega) (by have := HSZ.out; omega) ((Stay.of HB.out).trans HSV.out) (by have := HBL.out; have := HK6.out; have := HK7.out; omega) HWV.out HCW.out)
   refine ret12 (w9) (w.heap.size + 2) ⟨eh, .slice va vn vb, .slice ua un ub⟩ (HR.out) HPOST.out (fun wf hb => ?_) rfl
   obtain ⟨z0, z1, z2, z3, z4, z5, z6, z7, z8, z9, z10, z11⟩ := hb.cs
   simp [results, Tryd.results63, go_sem, coV, z0, z1, z2, z3, z4, z5, z6, z7, z8, z9, z10, z11]
theorem comp_any (M : Nat) (hM : M ≤ 2147483647) (n : Nat) : CompOK M n := by
 induction n with
 | zero => intro c d vc vd w cw k e _ _ h; have := htC_pos c; have := htC_pos d; omega
 | succ n ih => exact comp_succ M n hM ih
end Go.Proofs.YtlalnkabfigodaaDoor
