import Derived.Test.YtlalnkabfigodaaDoorCoAw
import Derived.Test.YtlalnkabfigodaaDoorCoPx
import Derived.Test.YtlalnkabfigodaaDoorCoTs
import Derived.Test.YtlalnkabfigodaaDoorCoDp
import Derived.Test.YtlalnkabfigodaaDoorTyB
import Derived.Test.YtlalnkabfigodaaDoorTyC
import Derived.Test.YtlalnkabfigodaaDoorCoGo
import Derived.Test.YtlalnkabfigodaaDoorCoRm
namespace Go.Proofs.YtlalnkabfigodaaDoor
open Go.Lib (hid)
open Go.RowKit

/-- two coercions in one block -/
def TwoC (w : World) (g : Nat) (r s : RawC) : Prop := w.heap[g]? = some (.cells #[.int .i64 r.h.f0, .int .i64 r.h.f1, .int .i64 r.h.f2, .int .i64 r.h.f3, .int .i64 r.h.f4, .int .i64 r.h.f5, .int .i64 r.h.pair, .int .i64 r.h.pl, r.pv, .int .i64 r.h.fn, .int .i64 r.h.fl, r.fv, .int .i64 s.h.f0, .int .i64 s.h.f1, .int .i64 s.h.f2, .int .i64 s.h.f3, .int .i64 s.h.f4, .int .i64 s.h.f5, .int .i64 s.h.pair, .int .i64 s.h.pl, s.pv, .int .i64 s.h.fn, .int .i64 s.h.fl, s.fv] 48 (0, 0))
section
variable {w w' : World} {g : Nat} {r s : RawC}
theorem TwoC.lt (h : TwoC w g r s) : g < w.heap.size := (Array.getElem?_eq_some_iff.1 h).1
theorem TwoC.keep (h : TwoC w g r s) (hb : Below w.heap.size w w') : TwoC w' g r s := (hb.block g h.lt).trans h
theorem TwoC.c0 (h : TwoC w g r s) : w.cell? ⟨g, 0, none⟩ = some (.int .i64 r.h.f0) := Lib.cell_of_heap h 0
theorem TwoC.c1 (h : TwoC w g r s) : w.cell? ⟨g, 1, none⟩ = some (.int .i64 r.h.f1) := Lib.cell_of_heap h 1
theorem TwoC.c2 (h : TwoC w g r s) : w.cell? ⟨g, 2, none⟩ = some (.int .i64 r.h.f2) := Lib.cell_of_heap h 2
theorem TwoC.c3 (h : TwoC w g r s) : w.cell? ⟨g, 3, none⟩ = some (.int .i64 r.h.f3) := Lib.cell_of_heap h 3
theorem TwoC.c4 (h : TwoC w g r s) : w.cell? ⟨g, 4, none⟩ = some (.int .i64 r.h.f4) := Lib.cell_of_heap h 4
theorem TwoC.c5 (h : TwoC w g r s) : w.cell? ⟨g, 5, none⟩ = some (.int .i64 r.h.f5) := Lib.cell_of_heap h 5
theorem TwoC.c6 (h : TwoC w g r s) : w.cell? ⟨g, 6, none⟩ = some (.int .i64 r.h.pair) := Lib.cell_of_heap h 6
theorem TwoC.c7 (h : TwoC w g r s) : w.cell? ⟨g, 7, none⟩ = some (.int .i64 r.h.pl) := Lib.cell_of_heap h 7
theorem TwoC.c8 (h : TwoC w g r s) : w.cell? ⟨g, 8, none⟩ = some (r.pv) := Lib.cell_of_heap h 8
theorem TwoC.c9 (h : TwoC w g r s) : w.cell? ⟨g, 9, none⟩ = some (.int .i64 r.h.fn) := Lib.cell_of_heap h 9
theorem TwoC.c10 (h : TwoC w g r s) : w.cell? ⟨g, 10, none⟩ = some (.int .i64 r.h.fl) := Lib.cell_of_heap h 10
theorem TwoC.c11 (h : TwoC w g r s) : w.cell? ⟨g, 11, none⟩ = some (r.fv) := Lib.cell_of_heap h 11
theorem TwoC.c12 (h : TwoC w g r s) : w.cell? ⟨g, 12, none⟩ = some (.int .i64 s.h.f0) := Lib.cell_of_heap h 12
theorem TwoC.c13 (h : TwoC w g r s) : w.cell? ⟨g, 13, none⟩ = some (.int .i64 s.h.f1) := Lib.cell_of_heap h 13
theorem TwoC.c14 (h : TwoC w g r s) : w.cell? ⟨g, 14, none⟩ = some (.int .i64 s.h.f2) := Lib.cell_of_heap h 14
theorem TwoC.c15 (h : TwoC w g r s) : w.cell? ⟨g, 15, none⟩ = some (.int .i64 s.h.f3) := Lib.cell_of_heap h 15
theorem TwoC.c16 (h : TwoC w g r s) : w.cell? ⟨g, 16, none⟩ = some (.int .i64 s.h.f4) := Lib.cell_of_heap h 16
theorem TwoC.c17 (h : TwoC w g r s) : w.cell? ⟨g, 17, none⟩ = some (.int .i64 s.h.f5) := Lib.cell_of_heap h 17
theorem TwoC.c18 (h : TwoC w g r s) : w.cell? ⟨g, 18, none⟩ = some (.int .i64 s.h.pair) := Lib.cell_of_heap h 18
theorem TwoC.c19 (h : TwoC w g r s) : w.cell? ⟨g, 19, none⟩ = some (.int .i64 s.h.pl) := Lib.cell_of_heap h 19
theorem TwoC.c20 (h : TwoC w g r s) : w.cell? ⟨g, 20, none⟩ = some (s.pv) := Lib.cell_of_heap h 20
theorem TwoC.c21 (h : TwoC w g r s) : w.cell? ⟨g, 21, none⟩ = some (.int .i64 s.h.fn) := Lib.cell_of_heap h 21
theorem TwoC.c22 (h : TwoC w g r s) : w.cell? ⟨g, 22, none⟩ = some (.int .i64 s.h.fl) := Lib.cell_of_heap h 22
theorem TwoC.c23 (h : TwoC w g r s) : w.cell? ⟨g, 23, none⟩ = some (s.fv) := Lib.cell_of_heap h 23
theorem TwoC.cs (h : TwoC w g r s) : w.cell? ⟨g, 0, none⟩ = some (.int .i64 r.h.f0) ∧ w.cell? ⟨g, 1, none⟩ = some (.int .i64 r.h.f1) ∧ w.cell? ⟨g, 2, none⟩ = some (.int .i64 r.h.f2) ∧ w.cell? ⟨g, 3, none⟩ = some (.int .i64 r.h.f3) ∧ w.cell? ⟨g, 4, none⟩ = some (.int .i64 r.h.f4) ∧ w.cell? ⟨g, 5, none⟩ = some (.int .i64 r.h.f5) ∧ w.cell? ⟨g, 6, none⟩ = some (.int .i64 r.h.pair) ∧ w.cell? ⟨g, 7, none⟩ = some (.int .i64 r.h.pl) ∧ w.cell? ⟨g, 8, none⟩ = some (r.pv) ∧ w.cell? ⟨g, 9, none⟩ = some (.int .i64 r.h.fn) ∧ w.cell? ⟨g, 10, none⟩ = some (.int .i64 r.h.fl) ∧ w.cell? ⟨g, 11, none⟩ = some (r.fv) ∧ w.cell? ⟨g, 12, none⟩ = some (.int .i64 s.h.f0) ∧ w.cell? ⟨g, 13, none⟩ = some (.int .i64 s.h.f1) ∧ w.cell? ⟨g, 14, none⟩ = some (.int .i64 s.h.f2) ∧ w.cell? ⟨g, 15, none⟩ = some (.int .i64 s.h.f3) ∧ w.cell? ⟨g, 16, none⟩ = some (.int .i64 s.h.f4) ∧ w.cell? ⟨g, 17, none⟩ = some (.int .i64 s.h.f5) ∧ w.cell? ⟨g, 18, none⟩ = some (.int .i64 s.h.pair) ∧ w.cell? ⟨g, 19, none⟩ = some (.int .i64 s.h.pl) ∧ w.cell? ⟨g, 20, none⟩ = some (s.pv) ∧ w.cell? ⟨g, 21, none⟩ = some (.int .i64 s.h.fn) ∧ w.cell? ⟨g, 22, none⟩ = some (.int .i64 s.h.fl) ∧ w.cell? ⟨g, 23, none⟩ = some (s.fv) := ⟨h.c0, h.c1, h.c2, h.c3, h.c4, h.c5, h.c6, h.c7, h.c8, h.c9, h.c10, h.c11, h.c12, h.c13, h.c14, h.c15, h.c16, h.c17, h.c18, h.c19, h.c20, h.c21, h.c22, h.c23⟩
end

set_option maxRecDepth 100000 in
set_option maxHeartbeats 32000000 in
theorem makes_p (t : Ty) (label : Int) (c d : Co) (v1 pv fv qv gv : Value) (w : World) (hT : TzW w) (ht : TyV w v1 t) (hc : CoV w (.agg #[.int .i64 c.h.f0, .int .i64 c.h.f1, .int .i64 c.h.f2, .int .i64 c.h.f3, .int .i64 c.h.f4, .int .i64 c.h.f5, .int .i64 c.h.pair, .int .i64 c.h.pl, pv, .int .i64 c.h.fn, .int .i64 c.h.fl, fv]) c) (hd : CoV w (.agg #[.int .i64 d.h.f0, .int .i64 d.h.f1, .int .i64 d.h.f2, .int .i64 d.h.f3, .int .i64 d.h.f4, .int .i64 d.h.f5, .int .i64 d.h.pair, .int .i64 d.h.pl, qv, .int .i64 d.h.fn, .int .i64 d.h.fl, gv]) d) : Calls Tryd.prog 4 #[v1, .int .i64 label, .agg #[.int .i64 c.h.f0, .int .i64 c.h.f1, .int .i64 c.h.f2, .int .i64 c.h.f3, .int .i64 c.h.f4, .int .i64 c.h.f5, .int .i64 c.h.pair, .int .i64 c.h.pl, pv, .int .i64 c.h.fn, .int .i64 c.h.fl, fv, .int .i64 d.h.f0, .int .i64 d.h.f1, .int .i64 d.h.f2, .int .i64 d.h.f3, .int .i64 d.h.f4, .int .i64 d.h.f5, .int .i64 d.h.pair, .int .i64 d.h.pl, qv, .int .i64 d.h.fn, .int .i64 d.h.fl, gv]] w fun e w' => e = .returned (.bool true) ∧ Below w.heap.size w w' := by
 obtain ⟨sa, sc, ra, rc0, rfl, _, _⟩ := ht.form
 obtain ⟨pa, pc, fa, fc, ec, _, _⟩ := hc.form
 obtain ⟨qa, qc, ga, gc, ed, _, _⟩ := hd.form
 obtain ⟨rfl, rfl⟩ : pv = .slice pa c.pairs.length pc ∧ fv = .slice fa c.funs.length fc := by simpa using ec
 obtain ⟨rfl, rfl⟩ : qv = .slice qa d.pairs.length qc ∧ gv = .slice ga d.funs.length gc := by simpa using ed
 clear ec ed
 obtain ⟨np1, hnp1⟩ : ∃ n, n = t.pairs.length := ⟨_, rfl⟩
 obtain ⟨nf1, hnf1⟩ : ∃ n, n = t.funs.length := ⟨_, rfl⟩
 obtain ⟨al, hal⟩ : ∃ n, n = t.all := ⟨_, rfl⟩
 obtain ⟨np, hnp⟩ : ∃ n, n = c.pairs.length := ⟨_, rfl⟩
 obtain ⟨nf, hnf⟩ : ∃ n, n = c.funs.length := ⟨_, rfl⟩
 obtain ⟨mp, hmp⟩ : ∃ n, n = d.pairs.length := ⟨_, rfl⟩
 obtain ⟨mf, hmf⟩ : ∃ n, n = d.funs.length := ⟨_, rfl⟩
 rw [← hnp1, ← hnf1, ← hal] at ht ⊢
 rw [← hnp, ← hnf] at hc ⊢
 rw [← hmp, ← hmf] at hd ⊢
 obtain ⟨W, hW⟩ : ∃ W, W = (w.alloc (.cells #[.bool al, .int .i64 t.flat, .int .i64 t.pair, .slice sa np1 sc, .int .i64 t.fn, .slice ra nf1 rc0] 47)).alloc (.cells #[.int .i64 c.h.f0, .int .i64 c.h.f1, .int .i64 c.h.f2, .int .i64 c.h.f3, .int .i64 c.h.f4, .int .i64 c.h.f5, .int .i64 c.h.pair, .int .i64 c.h.pl, .slice pa np pc, .int .i64 c.h.fn, .int .i64 c.h.fl, .slice fa nf fc, .int .i64 d.h.f0, .int .i64 d.h.f1, .int .i64 d.h.f2, .int .i64 d.h.f3, .int .i64 d.h.f4, .int .i64 d.h.f5, .int .i64 d.h.pair, .int .i64 d.h.pl, .slice qa mp qc, .int .i64 d.h.fn, .int .i64 d.h.fl, .slice ga mf gc] 48) := ⟨_, rfl⟩
 have HL := hid (show Below w.heap.size w W by rw [hW]; exact (bAl _ _).alloc (by simp) _)
 have HX := hid (show BoxAt W w.heap.size al t.flat t.pair (.slice sa np1 sc) t.fn (.slice ra nf1 rc0) by rw [hW]; exact (BoxAt.made _ _ _ _ _ _ _).keep (bAl _ _))
 have HY := hid (show TwoC W (w.heap.size + 1) ⟨c.h, .slice pa np pc, .slice fa nf fc⟩ ⟨d.h, .slice qa mp qc, .slice ga mf gc⟩ by rw [hW]; have := heap_alloc_new (w.alloc (.cells #[.bool al, .int .i64 t.flat, .int .i64 t.pair, .slice sa np1 sc, .int .i64 t.fn, .slice ra nf1 rc0] 47)) (.cells #[.int .i64 c.h.f0, .int .i64 c.h.f1, .int .i64 c.h.f2, .int .i64 c.h.f3, .int .i64 c.h.f4, .int .i64 c.h.f5, .int .i64 c.h.pair, .int .i64 c.h.pl, .slice pa np pc, .int .i64 c.h.fn, .int .i64 c.h.fl, .slice fa nf fc, .int .i64 d.h.f0, .int .i64 d.h.f1, .int .i64 d.h.f2, .int .i64 d.h.f3, .int .i64 d.h.f4, .int .i64 d.h.f5, .int .i64 d.h.pair, .int .i64 d.h.pl, .slice qa mp qc, .int .i64 d.h.fn, .int .i64 d.h.fl, .slice ga mf gc] 48); simp only [alloc_hs7] at this; exact this)
 have HTV := hid (ht.below HL.out)
 have HCV := hid (hc.below HL.out)
 have HDV := hid (hd.below HL.out)
 have HT := hid (hT.keep HL.out)
 have HPN := hid hnp
 have HFN := hid hnf
 have HPM := hid hmp
 have HFM := hid hmf
 have HW := hid hW
 clear hW hnp hnf hmp hmf hnp1 hnf1 hal ht hc hd hT
 go_enter Tryd.func4, Tryd.ntmps4
 go_upto_region 1 with fail
 rw [← HW.out]
 clear HW
 go_wp2_with fail
 refine (awake_p W HT.out).mono ?_
 rintro e w1 ⟨rfl, hb⟩
 replace HL := hid (HL.out.trans (hb.mono HL.out.size))
 replace HT := hid (HT.out.keep hb)
 replace HX := hid (HX.out.keep hb)
 replace HY := hid (HY.out.keep hb)
 replace HTV := hid (HTV.out.below hb)
 replace HCV := hid (HCV.out.below hb)
 replace HDV := hid (HDV.out.below hb)
 clear hb
 obtain ⟨x0, x1, x2, x3, x4, x5⟩ := HX.out.cs
 (try dsimp only at x0 x1 x2 x3 x4 x5)
 go_wp2_with fail
 refine (light_any t _ w1 HTV.out).mono ?_
 rintro e w2 ⟨rfl, hb⟩
 clear x0 x1 x2 x3 x4 x5
 replace HL := hid (HL.out.trans (hb.mono HL.out.size))
 replace HT := hid (HT.out.keep hb)
 replace HX := hid (HX.out.keep hb)
 replace HY := hid (HY.out.keep hb)
 replace HTV := hid (HTV.out.below hb)
 replace HCV := hid (HCV.out.below hb)
 replace HDV := hid (HDV.out.below hb)
 clear hb
 obtain ⟨z1, hz1⟩ : ∃ z, z = lightT t := ⟨_, rfl⟩
 rw [← hz1]
 have Hz1 := hid hz1
 clear hz1
 have y0 : w2.cell? ⟨(w.heap.size + 1), 0, none⟩ = some (.int .i64 c.h.f0) := HY.out.c0
 have y1 : w2.cell? ⟨(w.heap.size + 1), 1, none⟩ = some (.int .i64 c.h.f1) := HY.out.c1
 have y2 : w2.cell? ⟨(w.heap.size + 1), 2, none⟩ = some (.int .i64 c.h.f2) := HY.out.c2
 have y3 : w2.cell? ⟨(w.heap.size + 1), 3, none⟩ = some (.int .i64 c.h.f3) := HY.out.c3
 have y4 : w2.cell? ⟨(w.heap.size + 1), 4, none⟩ = some (.int .i64 c.h.f4) := HY.out.c4
 have y5 : w2.cell? ⟨(w.heap.size + 1), 5, none⟩ = some (.int .i64 c.h.f5) := HY.out.c5
 have y6 : w2.cell? ⟨(w.heap.size + 1), 6, none⟩ = some (.int .i64 c.h.pair) := HY.out.c6
 have y7 : w2.cell? ⟨(w.heap.size + 1), 7, none⟩ = some (.int .i64 c.h.pl) := HY.out.c7
 have y8 : w2.cell? ⟨(w.heap.size + 1), 8, none⟩ = some (.slice pa np pc) := HY.out.c8
 have y9 : w2.cell? ⟨(w.heap.size + 1), 9, none⟩ = some (.int .i64 c.h.fn) := HY.out.c9
 have y10 : w2.cell? ⟨(w.heap.size + 1), 10, none⟩ = some (.int .i64 c.h.fl) := HY.out.c10
 have y11 : w2.cell? ⟨(w.heap.size + 1), 11, none⟩ = some (.slice fa nf fc) := HY.out.c11
 have y12 : w2.cell? ⟨(w.heap.size + 1), 12, none⟩ = some (.int .i64 d.h.f0) := HY.out.c12
 have y13 : w2.cell? ⟨(w.heap.size + 1), 13, none⟩ = some (.int .i64 d.h.f1) := HY.out.c13
 have y14 : w2.cell? ⟨(w.heap.size + 1), 14, none⟩ = some (.int .i64 d.h.f2) := HY.out.c14
 have y15 : w2.cell? ⟨(w.heap.size + 1), 15, none⟩ = some (.int .i64 d.h.f3) := HY.out.c15
 have y16 : w2.cell? ⟨(w.heap.size + 1), 16, none⟩ = some (.int .i64 d.h.f4) := HY.out.c16
 have y17 : w2.cell? ⟨(w.heap.size + 1), 17, none⟩ = some (.int .i64 d.h.f5) := HY.out.c17
 have y18 : w2.cell? ⟨(w.heap.size + 1), 18, none⟩ = some (.int .i64 d.h.pair) := HY.out.c18
 have y19 : w2.cell? ⟨(w.heap.size + 1), 19, none⟩ = some (.int .i64 d.h.pl) := HY.out.c19
 have y20 : w2.cell? ⟨(w.heap.size + 1), 20, none⟩ = some (.slice qa mp qc) := HY.out.c20
 have y21 : w2.cell? ⟨(w.heap.size + 1), 21, none⟩ = some (.int .i64 d.h.fn) := HY.out.c21
 have y22 : w2.cell? ⟨(w.heap.size + 1), 22, none⟩ = some (.int .i64 d.h.fl) := HY.out.c22
 have y23 : w2.cell? ⟨(w.heap.size + 1), 23, none⟩ = some (.slice ga mf gc) := HY.out.c23
 go_wp2_with fail
 refine (light7_go c _ w2 HCV.out).mono ?_
 rintro e w3 ⟨rfl, hb⟩
 clear y0 y1 y2 y3 y4 y5 y6 y7 y8 y9 y10 y11 y12 y13 y14 y15 y16 y17 y18 y19 y20 y21 y22 y23
 replace HL := hid (HL.out.trans (hb.mono HL.out.size))
 replace HT := hid (HT.out.keep hb)
 replace HX := hid (HX.out.keep hb)
 replace HY := hid (HY.out.keep hb)
 replace HTV := hid (HTV.out.below hb)
 replace HCV := hid (HCV.out.below hb)
 replace HDV := hid (HDV.out.below hb)
 clear hb
 obtain ⟨z2, hz2⟩ : ∃ z, z = lit7 c := ⟨_, rfl⟩
 rw [← hz2]
 have Hz2 := hid hz2
 clear hz2
 have y0 : w3.cell? ⟨(w.heap.size + 1), 0, none⟩ = some (.int .i64 c.h.f0) := HY.out.c0
 have y1 : w3.cell? ⟨(w.heap.size + 1), 1, none⟩ = some (.int .i64 c.h.f1) := HY.out.c1
 have y2 : w3.cell? ⟨(w.heap.size + 1), 2, none⟩ = some (.int .i64 c.h.f2) := HY.out.c2
 have y3 : w3.cell? ⟨(w.heap.size + 1), 3, none⟩ = some (.int .i64 c.h.f3) := HY.out.c3
 have y4 : w3.cell? ⟨(w.heap.size + 1), 4, none⟩ = some (.int .i64 c.h.f4) := HY.out.c4
 have y5 : w3.cell? ⟨(w.heap.size + 1), 5, none⟩ = some (.int .i64 c.h.f5) := HY.out.c5
 have y6 : w3.cell? ⟨(w.heap.size + 1), 6, none⟩ = some (.int .i64 c.h.pair) := HY.out.c6
 have y7 : w3.cell? ⟨(w.heap.size + 1), 7, none⟩ = some (.int .i64 c.h.pl) := HY.out.c7
 have y8 : w3.cell? ⟨(w.heap.size + 1), 8, none⟩ = some (.slice pa np pc) := HY.out.c8
 have y9 : w3.cell? ⟨(w.heap.size + 1), 9, none⟩ = some (.int .i64 c.h.fn) := HY.out.c9
 have y10 : w3.cell? ⟨(w.heap.size + 1), 10, none⟩ = some (.int .i64 c.h.fl) := HY.out.c10
 have y11 : w3.cell? ⟨(w.heap.size + 1), 11, none⟩ = some (.slice fa nf fc) := HY.out.c11
 have y12 : w3.cell? ⟨(w.heap.size + 1), 12, none⟩ = some (.int .i64 d.h.f0) := HY.out.c12
 have y13 : w3.cell? ⟨(w.heap.size + 1), 13, none⟩ = some (.int .i64 d.h.f1) := HY.out.c13
 have y14 : w3.cell? ⟨(w.heap.size + 1), 14, none⟩ = some (.int .i64 d.h.f2) := HY.out.c14
 have y15 : w3.cell? ⟨(w.heap.size + 1), 15, none⟩ = some (.int .i64 d.h.f3) := HY.out.c15
 have y16 : w3.cell? ⟨(w.heap.size + 1), 16, none⟩ = some (.int .i64 d.h.f4) := HY.out.c16
 have y17 : w3.cell? ⟨(w.heap.size + 1), 17, none⟩ = some (.int .i64 d.h.f5) := HY.out.c17
 have y18 : w3.cell? ⟨(w.heap.size + 1), 18, none⟩ = some (.int .i64 d.h.pair) := HY.out.c18
 have y19 : w3.cell? ⟨(w.heap.size + 1), 19, none⟩ = some (.int .i64 d.h.pl) := HY.out.c19
 have y20 : w3.cell? ⟨(w.heap.size + 1), 20, none⟩ = some (.slice qa mp qc) := HY.out.c20
 have y21 : w3.cell? ⟨(w.heap.size + 1), 21, none⟩ = some (.int .i64 d.h.fn) := HY.out.c21
 have y22 : w3.cell? ⟨(w.heap.size + 1), 22, none⟩ = some (.int .i64 d.h.fl) := HY.out.c22
 have y23 : w3.cell? ⟨(w.heap.size + 1), 23, none⟩ = some (.slice ga mf gc) := HY.out.c23
 go_wp2_with fail
 refine (light7_go d _ w3 HDV.out).mono ?_
 rintro e w4 ⟨rfl, hb⟩
 clear y0 y1 y2 y3 y4 y5 y6 y7 y8 y9 y10 y11 y12 y13 y14 y15 y16 y17 y18 y19 y20 y21 y22 y23
 replace HL := hid (HL.out.trans (hb.mono HL.out.size))
 replace HT := hid (HT.out.keep hb)
 replace HX := hid (HX.out.keep hb)
 replace HY := hid (HY.out.keep hb)
 replace HTV := hid (HTV.out.below hb)
 replace HCV := hid (HCV.out.below hb)
 replace HDV := hid (HDV.out.below hb)
 clear hb
 obtain ⟨z3, hz3⟩ : ∃ z, z = lit7 d := ⟨_, rfl⟩
 rw [← hz3]
 have Hz3 := hid hz3
 clear hz3
 cases z1 with
 | false =>
  go_wp2
  refine bodyPost_ret (v := .bool true) ?_ ?_ ?_
  ·
   simp [results, Tryd.results4, go_sem]
  ·
   rfl
  ·
   exact ⟨rfl, HL.out⟩
 | true =>
 cases z2 with
 | false =>
  go_wp2
  refine bodyPost_ret (v := .bool true) ?_ ?_ ?_
  ·
   simp [results, Tryd.results4, go_sem]
  ·
   rfl
  ·
   exact ⟨rfl, HL.out⟩
 | true =>
 cases z3 with
 | false =>
  go_wp2
  refine bodyPost_ret (v := .bool true) ?_ ?_ ?_
  ·
   simp [results, Tryd.results4, go_sem]
  ·
   rfl
  ·
   exact ⟨rfl, HL.out⟩
 | true =>
 have HSC := hid (lit_sz Hz2.out.symm)
 have HSD := hid (lit_sz Hz3.out.symm)
 clear Hz1 Hz2 Hz3
 go_upto_region 7 with fail
 go_cut [45] from 36 to 45 (fun cc wx => ∃ z : Bool, cc = .bool z ∧ Hid (z = true → rightT t = true ∧ 1 ≤ label ∧ label ≤ 99) ∧ Hid (Below w4.heap.size w4 wx))
 case first =>
  obtain ⟨x0, x1, x2, x3, x4, x5⟩ := HX.out.cs
  (try dsimp only at x0 x1 x2 x3 x4 x5)
  go_wp2_with fail
  refine (right_any t _ w4 HTV.out).mono ?_
  rintro e w31 ⟨rfl, hb⟩
  clear x0 x1 x2 x3 x4 x5
  have HB0 := hid hb
  replace HL := hid (HL.out.trans (hb.mono HL.out.size))
  replace HT := hid (HT.out.keep hb)
  replace HX := hid (HX.out.keep hb)
  replace HY := hid (HY.out.keep hb)
  replace HTV := hid (HTV.out.below hb)
  replace HCV := hid (HCV.out.below hb)
  replace HDV := hid (HDV.out.below hb)
  clear hb
  obtain ⟨z4, hz4⟩ : ∃ z, z = rightT t := ⟨_, rfl⟩
  rw [← hz4]
  have Hz4 := hid hz4
  clear hz4
  have HBW := hid (show Below w4.heap.size w4 w31 from HB0.out)
  cases z4 with
  | false =>
   go_wp2
   go_meet
   case rel => exact ⟨false, rfl, hid (fun h => by cases h), HBW⟩
  | true =>
  by_cases h1 : 1 ≤ label
  case neg =>
   have b1 : decide (1 ≤ label) = false := decide_eq_false h1
   go_wp2
   go_meet
   case rel => exact ⟨false, rfl, hid (fun h => by cases h), HBW⟩
  have b1 : decide (1 ≤ label) = true := decide_eq_true h1
  by_cases h2 : label ≤ 99
  case neg =>
   have b2 : decide (label ≤ 99) = false := decide_eq_false h2
   go_wp2
   go_meet
   case rel => exact ⟨false, rfl, hid (fun h => by cases h), HBW⟩
  have b2 : decide (label ≤ 99) = true := decide_eq_true h2
  have HLB := hid (And.intro h1 h2)
  clear h1 h2
  go_wp2
  go_meet
  case rel => exact ⟨true, rfl, hid (fun _ => ⟨Hz4.out.symm, HLB.out⟩), HBW⟩
 case rest =>
  obtain ⟨z5, rfl, HZ5, HBB⟩ := hcut
  obtain ⟨wa, rfl⟩ : ∃ x, x = wc := ⟨_, rfl⟩
  replace HL := hid (HL.out.trans (HBB.out.mono HL.out.size))
  replace HT := hid (HT.out.keep HBB.out)
  replace HX := hid (HX.out.keep HBB.out)
  replace HY := hid (HY.out.keep HBB.out)
  replace HTV := hid (HTV.out.below HBB.out)
  replace HCV := hid (HCV.out.below HBB.out)
  replace HDV := hid (HDV.out.below HBB.out)
  clear HBB
  go_upto_if 45 with fail
  go_cut [] from 45 to 65 (fun wx => Hid (Below wa.heap.size wa wx))
  case first =>
   cases z5 with
   | false =>
    go_wp2
    go_meet
    case rel => exact hid (Below.refl _ _)
   | true =>
    have HLB := hid (HZ5.out rfl).2
    have HRT := hid (right7 (HZ5.out rfl).1)
    obtain ⟨cT, hcT⟩ : ∃ x, x = goC 20 true t label := ⟨_, rfl⟩
    obtain ⟨dT, hdT⟩ : ∃ x, x = goC 20 false t label := ⟨_, rfl⟩
    have HTHcT := hid (show Thin cT by rw [hcT]; exact (goC_ok HLB.out.1 HLB.out.2 20 true t HRT.out.2).1.shape.thin)
    have HTHdT := hid (show Thin dT by rw [hdT]; exact (goC_ok HLB.out.1 HLB.out.2 20 false t HRT.out.2).1.shape.thin)
    have HCT := hid hcT
    have HDT := hid hdT
    have HLA := hid (Below.refl wa.heap.size wa)
    clear hcT hdT HZ5
    have Lx := hid (fun (wz : World) (hSw : Below wa.heap.size wa wz) => (HX.out.keep hSw).cs)
    go_upto_region 8 with fail
    (try dsimp only [List.append])
    refine wp_region_noPanic ?_
    refine wp_region_held_drew (S := (fun w' => Below wa.heap.size wa w')) (by kernel_rfl) (by (try dsimp only); exact (Below.refl _ _).drew) (fun hHeld => ?_)
    have HBT := hid (show Below wa.heap.size wa wa.drew from (Below.refl _ _).drew)
    generalize wa.drew = r21_0 at hHeld HBT ⊢
    refine' tk_q 0 46 hHeld ?hi0 ?hr0
    case hi0 => (refine ⟨_, rfl, rfl, rfl, fun wz hSw => ?_⟩; (try dsimp only at hSw); obtain ⟨xz0, xz1, xz2, xz3, xz4, xz5⟩ := Lx.out wz hSw; (try dsimp only at xz0 xz1 xz2 xz3 xz4 xz5); go_simp; (try with_reducible rfl))
    (try simp only [pq1, ls0, ls1])
    refine' tk_q 1 47 hHeld ?hi1 ?hr1
    case hi1 => (refine ⟨_, rfl, rfl, rfl, fun wz hSw => ?_⟩; (try dsimp only at hSw); go_simp; (try with_reducible rfl))
    (try simp only [pq1, ls0, ls1])
    refine' tk_q 3 49 hHeld ?hi2 ?hr2
    case hi2 => (refine ⟨_, rfl, rfl, rfl, fun wz hSw => ?_⟩; (try dsimp only at hSw); obtain ⟨xz0, xz1, xz2, xz3, xz4, xz5⟩ := Lx.out wz hSw; (try dsimp only at xz0 xz1 xz2 xz3 xz4 xz5); go_simp; (try with_reducible rfl))
    (try simp only [pq1, ls0, ls1])
    refine' tk_q 4 50 hHeld ?hi3 ?hr3
    case hi3 => (refine ⟨_, rfl, rfl, rfl, fun wz hSw => ?_⟩; (try dsimp only at hSw); go_simp; (try with_reducible rfl))
    (try simp only [pq1, ls0, ls1])
    refine' tk_call 2 ?hi4 (by kernel_rfl) ?hr4
    case hi4 => rfl
    intro K hK
    go_simp
    go_at_call 31
    refine (top_p 20 t label _ r21_0 HRT.out.2 (by omega) (by have := HRT.out; omega) (by have := HLB.out; omega) (HTV.out.below HBT.out)).mono ?_
    rintro e r21_1 ⟨⟨v, rfl, hv⟩, hb⟩
    rw [← HCT.out] at hv
    obtain ⟨m1, m2, m3, m4, rfl, _, _⟩ := hv.form
    have HV1 := hid hv.cv
    clear hv
    replace HBT := hid (HBT.out.trans (hb.mono HBT.out.size))
    clear hb
    go_wp2_with fail
    clear hHeld
    refine hK.out _ _ (by (try dsimp only); exact HBT.out) (fun hHeld => ?_)
    clear hK K
    (try simp only [pq1, ls0, ls1])
    refine' tk_call 5 ?hi5 (by kernel_rfl) ?hr5
    case hi5 => rfl
    intro K hK
    go_simp
    go_at_call 32
    refine ((go_any 20).1 t label _ r21_1 NC HRT.out.2 (fun _ h => h.elim) (HTV.out.below HBT.out)).mono ?_
    rintro e r21_2 ⟨⟨u, rfl, hu⟩, hb⟩
    rw [← HCT.out] at hu
    obtain ⟨n1, n2, n3, n4, rfl, _, _⟩ := hu.form
    have HV2 := hid hu
    replace HV1 := hid (HV1.out.below hb)
    clear hu
    replace HBT := hid (HBT.out.trans (hb.mono HBT.out.size))
    clear hb
    go_wp2_with fail
    clear hHeld
    refine hK.out _ _ (by (try dsimp only); exact HBT.out) (fun hHeld => ?_)
    clear hK K
    (try simp only [pq1, ls0, ls1])
    refine' tk_call 6 ?hi6 (by kernel_rfl) ?hr6
    case hi6 => rfl
    intro K hK
    go_simp
    go_at_call 20
    refine (same7_go cT cT _ _ r21_2 HTHcT.out HV1.out HV2.out).mono ?_
    rintro e r21_3 ⟨rfl, hb⟩
    rw [sameC_self]
    clear HV1 HV2
    replace HBT := hid (HBT.out.trans (hb.mono HBT.out.size))
    clear hb
    go_wp2_with fail
    clear hHeld
    refine hK.out _ _ (by (try dsimp only); exact HBT.out) (fun hHeld => ?_)
    clear hK K
    (try simp only [pq1, ls0, ls1])
    refine' tk_q 7 11 hHeld ?hi7 ?hr7
    case hi7 => (refine ⟨_, rfl, rfl, rfl, fun wz hSw => ?_⟩; (try dsimp only at hSw); go_simp; (try with_reducible rfl))
    (try simp only [pq1, ls0, ls1])
    refine wpAnyH_done (by kernel_rfl) ?_ _
    refine NoPanic.normal ?_
    clear Lx
    replace HL := hid (HL.out.trans (HBT.out.mono HL.out.size))
    replace HT := hid (HT.out.keep HBT.out)
    replace HX := hid (HX.out.keep HBT.out)
    replace HY := hid (HY.out.keep HBT.out)
    replace HTV := hid (HTV.out.below HBT.out)
    replace HCV := hid (HCV.out.below HBT.out)
    replace HDV := hid (HDV.out.below HBT.out)
    replace HLA := hid (HLA.out.trans (HBT.out.mono HLA.out.size))
    clear HBT
    have Lx := hid (fun (wz : World) (hSw : Below r21_3.heap.size r21_3 wz) => (HX.out.keep hSw).cs)
    go_upto_region 9 with fail
    (try dsimp only [List.append])
    refine wp_region_noPanic ?_
    refine wp_region_held_drew (S := (fun w' => Below r21_3.heap.size r21_3 w')) (by kernel_rfl) (by (try dsimp only); exact (Below.refl _ _).drew) (fun hHeld => ?_)
    have HBT := hid (show Below r21_3.heap.size r21_3 r21_3.drew from (Below.refl _ _).drew)
    generalize r21_3.drew = r22_0 at hHeld HBT ⊢
    refine' tk_q 0 53 hHeld ?hi8 ?hr8
    case hi8 => (refine ⟨_, rfl, rfl, rfl, fun wz hSw => ?_⟩; (try dsimp only at hSw); obtain ⟨xz0, xz1, xz2, xz3, xz4, xz5⟩ := Lx.out wz hSw; (try dsimp only at xz0 xz1 xz2 xz3 xz4 xz5); go_simp; (try with_reducible rfl))
    (try simp only [pq1, ls0, ls1])
    refine' tk_q 1 54 hHeld ?hi9 ?hr9
    case hi9 => (refine ⟨_, rfl, rfl, rfl, fun wz hSw => ?_⟩; (try dsimp only at hSw); go_simp; (try with_reducible rfl))
    (try simp only [pq1, ls0, ls1])
    refine' tk_q 3 56 hHeld ?hia ?hra
    case hia => (refine ⟨_, rfl, rfl, rfl, fun wz hSw => ?_⟩; (try dsimp only at hSw); obtain ⟨xz0, xz1, xz2, xz3, xz4, xz5⟩ := Lx.out wz hSw; (try dsimp only at xz0 xz1 xz2 xz3 xz4 xz5); go_simp; (try with_reducible rfl))
    (try simp only [pq1, ls0, ls1])
    refine' tk_q 4 57 hHeld ?hib ?hrb
    case hib => (refine ⟨_, rfl, rfl, rfl, fun wz hSw => ?_⟩; (try dsimp only at hSw); go_simp; (try with_reducible rfl))
    (try simp only [pq1, ls0, ls1])
    refine' tk_call 2 ?hic (by kernel_rfl) ?hrc
    case hic => rfl
    intro K hK
    go_simp
    go_at_call 33
    refine (fromp_p 20 t label _ r22_0 HRT.out.2 (by omega) (by have := HRT.out; omega) (by have := HLB.out; omega) (HTV.out.below HBT.out)).mono ?_
    rintro e r22_1 ⟨⟨v, rfl, hv⟩, hb⟩
    rw [← HDT.out] at hv
    obtain ⟨m1, m2, m3, m4, rfl, _, _⟩ := hv.form
    have HV1 := hid hv.cv
    clear hv
    replace HBT := hid (HBT.out.trans (hb.mono HBT.out.size))
    clear hb
    go_wp2_with fail
    clear hHeld
    refine hK.out _ _ (by (try dsimp only); exact HBT.out) (fun hHeld => ?_)
    clear hK K
    (try simp only [pq1, ls0, ls1])
    refine' tk_call 5 ?hid (by kernel_rfl) ?hrd
    case hid => rfl
    intro K hK
    go_simp
    go_at_call 34
    refine ((go_any 20).2 t label _ r22_1 NC HRT.out.2 (fun _ h => h.elim) (HTV.out.below HBT.out)).mono ?_
    rintro e r22_2 ⟨⟨u, rfl, hu⟩, hb⟩
    rw [← HDT.out] at hu
    obtain ⟨n1, n2, n3, n4, rfl, _, _⟩ := hu.form
    have HV2 := hid hu
    replace HV1 := hid (HV1.out.below hb)
    clear hu
    replace HBT := hid (HBT.out.trans (hb.mono HBT.out.size))
    clear hb
    go_wp2_with fail
    clear hHeld
    refine hK.out _ _ (by (try dsimp only); exact HBT.out) (fun hHeld => ?_)
    clear hK K
    (try simp only [pq1, ls0, ls1])
    refine' tk_call 6 ?hie (by kernel_rfl) ?hre
    case hie => rfl
    intro K hK
    go_simp
    go_at_call 20
    refine (same7_go dT dT _ _ r22_2 HTHdT.out HV1.out HV2.out).mono ?_
    rintro e r22_3 ⟨rfl, hb⟩
    rw [sameC_self]
    clear HV1 HV2
    replace HBT := hid (HBT.out.trans (hb.mono HBT.out.size))
    clear hb
    go_wp2_with fail
    clear hHeld
    refine hK.out _ _ (by (try dsimp only); exact HBT.out) (fun hHeld => ?_)
    clear hK K
    (try simp only [pq1, ls0, ls1])
    refine' tk_q 7 12 hHeld ?hif ?hrf
    case hif => (refine ⟨_, rfl, rfl, rfl, fun wz hSw => ?_⟩; (try dsimp only at hSw); go_simp; (try with_reducible rfl))
    (try simp only [pq1, ls0, ls1])
    refine wpAnyH_done (by kernel_rfl) ?_ _
    refine NoPanic.normal ?_
    clear Lx
    replace HL := hid (HL.out.trans (HBT.out.mono HL.out.size))
    replace HT := hid (HT.out.keep HBT.out)
    replace HX := hid (HX.out.keep HBT.out)
    replace HY := hid (HY.out.keep HBT.out)
    replace HTV := hid (HTV.out.below HBT.out)
    replace HCV := hid (HCV.out.below HBT.out)
    replace HDV := hid (HDV.out.below HBT.out)
    replace HLA := hid (HLA.out.trans (HBT.out.mono HLA.out.size))
    clear HBT
    go_wp2
    go_meet
    case rel => exact HLA
  case rest =>
   have HBB := hcut
   obtain ⟨wb, rfl⟩ : ∃ x, x = wc := ⟨_, rfl⟩
   replace HL := hid (HL.out.trans (HBB.out.mono HL.out.size))
   replace HT := hid (HT.out.keep HBB.out)
   replace HX := hid (HX.out.keep HBB.out)
   replace HY := hid (HY.out.keep HBB.out)
   replace HTV := hid (HTV.out.below HBB.out)
   replace HCV := hid (HCV.out.below HBB.out)
   replace HDV := hid (HDV.out.below HBB.out)
   clear HBB hcut HZ5
   have y0 : wb.cell? ⟨(w.heap.size + 1), 0, none⟩ = some (.int .i64 c.h.f0) := HY.out.c0
   have y1 : wb.cell? ⟨(w.heap.size + 1), 1, none⟩ = some (.int .i64 c.h.f1) := HY.out.c1
   have y2 : wb.cell? ⟨(w.heap.size + 1), 2, none⟩ = some (.int .i64 c.h.f2) := HY.out.c2
   have y3 : wb.cell? ⟨(w.heap.size + 1), 3, none⟩ = some (.int .i64 c.h.f3) := HY.out.c3
   have y4 : wb.cell? ⟨(w.heap.size + 1), 4, none⟩ = some (.int .i64 c.h.f4) := HY.out.c4
   have y5 : wb.cell? ⟨(w.heap.size + 1), 5, none⟩ = some (.int .i64 c.h.f5) := HY.out.c5
   have y6 : wb.cell? ⟨(w.heap.size + 1), 6, none⟩ = some (.int .i64 c.h.pair) := HY.out.c6
   have y7 : wb.cell? ⟨(w.heap.size + 1), 7, none⟩ = some (.int .i64 c.h.pl) := HY.out.c7
   have y8 : wb.cell? ⟨(w.heap.size + 1), 8, none⟩ = some (.slice pa np pc) := HY.out.c8
   have y9 : wb.cell? ⟨(w.heap.size + 1), 9, none⟩ = some (.int .i64 c.h.fn) := HY.out.c9
   have y10 : wb.cell? ⟨(w.heap.size + 1), 10, none⟩ = some (.int .i64 c.h.fl) := HY.out.c10
   have y11 : wb.cell? ⟨(w.heap.size + 1), 11, none⟩ = some (.slice fa nf fc) := HY.out.c11
   have y12 : wb.cell? ⟨(w.heap.size + 1), 12, none⟩ = some (.int .i64 d.h.f0) := HY.out.c12
   have y13 : wb.cell? ⟨(w.heap.size + 1), 13, none⟩ = some (.int .i64 d.h.f1) := HY.out.c13
   have y14 : wb.cell? ⟨(w.heap.size + 1), 14, none⟩ = some (.int .i64 d.h.f2) := HY.out.c14
   have y15 : wb.cell? ⟨(w.heap.size + 1), 15, none⟩ = some (.int .i64 d.h.f3) := HY.out.c15
   have y16 : wb.cell? ⟨(w.heap.size + 1), 16, none⟩ = some (.int .i64 d.h.f4) := HY.out.c16
   have y17 : wb.cell? ⟨(w.heap.size + 1), 17, none⟩ = some (.int .i64 d.h.f5) := HY.out.c17
   have y18 : wb.cell? ⟨(w.heap.size + 1), 18, none⟩ = some (.int .i64 d.h.pair) := HY.out.c18
   have y19 : wb.cell? ⟨(w.heap.size + 1), 19, none⟩ = some (.int .i64 d.h.pl) := HY.out.c19
   have y20 : wb.cell? ⟨(w.heap.size + 1), 20, none⟩ = some (.slice qa mp qc) := HY.out.c20
   have y21 : wb.cell? ⟨(w.heap.size + 1), 21, none⟩ = some (.int .i64 d.h.fn) := HY.out.c21
   have y22 : wb.cell? ⟨(w.heap.size + 1), 22, none⟩ = some (.int .i64 d.h.fl) := HY.out.c22
   have y23 : wb.cell? ⟨(w.heap.size + 1), 23, none⟩ = some (.slice ga mf gc) := HY.out.c23
   go_wp2_with fail
   refine (to7_go (szC c) c _ wb NC (Nat.le_refl _) HSC.out.2 (fun _ h => h.elim) HCV.out).mono ?_
   rintro e w81 ⟨⟨u, rfl, hu⟩, hb⟩
   clear y0 y1 y2 y3 y4 y5 y6 y7 y8 y9 y10 y11 y12 y13 y14 y15 y16 y17 y18 y19 y20 y21 y22 y23
   replace HL := hid (HL.out.trans (hb.mono HL.out.size))
   replace HT := hid (HT.out.keep hb)
   replace HX := hid (HX.out.keep hb)
   replace HY := hid (HY.out.keep hb)
   replace HTV := hid (HTV.out.below hb)
   replace HCV := hid (HCV.out.below hb)
   replace HDV := hid (HDV.out.below hb)
   obtain ⟨ua, uc, va, wc0, rfl, _, _⟩ := hu.form
   rw [← HPN.out, ← HFN.out] at hu ⊢
   have HUV := hid hu
   clear hu
   clear hb
   go_upto_region 13 with fail
   obtain ⟨gx, hg⟩ : ∃ x, x = w81.heap.size := ⟨_, rfl⟩
   obtain ⟨w82, hw⟩ : ∃ x : World, x = w81.alloc (.cells #[.int .i64 c.h.f0, .int .i64 c.h.f1, .int .i64 c.h.f2, .int .i64 c.h.f3, .int .i64 c.h.f4, .int .i64 c.h.f5, .int .i64 c.h.pair, .int .i64 c.h.pl, .slice ua np uc, .int .i64 c.h.fn, .int .i64 c.h.fl, .slice va nf wc0] 30) := ⟨_, rfl⟩
   rw [← hw, ← hg]
   have hb : Below w81.heap.size w81 w82 := by rw [hw]; exact bAl _ _
   have HU := hid (show CBox w82 gx 30 ⟨c.h, .slice ua np uc, .slice va nf wc0⟩ by rw [hw, hg]; exact CBox.made w81 30 ⟨c.h, .slice ua np uc, .slice va nf wc0⟩)
   replace HL := hid (HL.out.trans (hb.mono HL.out.size))
   replace HT := hid (HT.out.keep hb)
   replace HX := hid (HX.out.keep hb)
   replace HY := hid (HY.out.keep hb)
   replace HTV := hid (HTV.out.below hb)
   replace HCV := hid (HCV.out.below hb)
   replace HDV := hid (HDV.out.below hb)
   replace HUV := hid (HUV.out.below hb)
   clear hb hw hg
   have y0 : w82.cell? ⟨(w.heap.size + 1), 0, none⟩ = some (.int .i64 c.h.f0) := HY.out.c0
   have y1 : w82.cell? ⟨(w.heap.size + 1), 1, none⟩ = some (.int .i64 c.h.f1) := HY.out.c1
   have y2 : w82.cell? ⟨(w.heap.size + 1), 2, none⟩ = some (.int .i64 c.h.f2) := HY.out.c2
   have y3 : w82.cell? ⟨(w.heap.size + 1), 3, none⟩ = some (.int .i64 c.h.f3) := HY.out.c3
   have y4 : w82.cell? ⟨(w.heap.size + 1), 4, none⟩ = some (.int .i64 c.h.f4) := HY.out.c4
   have y5 : w82.cell? ⟨(w.heap.size + 1), 5, none⟩ = some (.int .i64 c.h.f5) := HY.out.c5
   have y6 : w82.cell? ⟨(w.heap.size + 1), 6, none⟩ = some (.int .i64 c.h.pair) := HY.out.c6
   have y7 : w82.cell? ⟨(w.heap.size + 1), 7, none⟩ = some (.int .i64 c.h.pl) := HY.out.c7
   have y8 : w82.cell? ⟨(w.heap.size + 1), 8, none⟩ = some (.slice pa np pc) := HY.out.c8
   have y9 : w82.cell? ⟨(w.heap.size + 1), 9, none⟩ = some (.int .i64 c.h.fn) := HY.out.c9
   have y10 : w82.cell? ⟨(w.heap.size + 1), 10, none⟩ = some (.int .i64 c.h.fl) := HY.out.c10
   have y11 : w82.cell? ⟨(w.heap.size + 1), 11, none⟩ = some (.slice fa nf fc) := HY.out.c11
   have y12 : w82.cell? ⟨(w.heap.size + 1), 12, none⟩ = some (.int .i64 d.h.f0) := HY.out.c12
   have y13 : w82.cell? ⟨(w.heap.size + 1), 13, none⟩ = some (.int .i64 d.h.f1) := HY.out.c13
   have y14 : w82.cell? ⟨(w.heap.size + 1), 14, none⟩ = some (.int .i64 d.h.f2) := HY.out.c14
   have y15 : w82.cell? ⟨(w.heap.size + 1), 15, none⟩ = some (.int .i64 d.h.f3) := HY.out.c15
   have y16 : w82.cell? ⟨(w.heap.size + 1), 16, none⟩ = some (.int .i64 d.h.f4) := HY.out.c16
   have y17 : w82.cell? ⟨(w.heap.size + 1), 17, none⟩ = some (.int .i64 d.h.f5) := HY.out.c17
   have y18 : w82.cell? ⟨(w.heap.size + 1), 18, none⟩ = some (.int .i64 d.h.pair) := HY.out.c18
   have y19 : w82.cell? ⟨(w.heap.size + 1), 19, none⟩ = some (.int .i64 d.h.pl) := HY.out.c19
   have y20 : w82.cell? ⟨(w.heap.size + 1), 20, none⟩ = some (.slice qa mp qc) := HY.out.c20
   have y21 : w82.cell? ⟨(w.heap.size + 1), 21, none⟩ = some (.int .i64 d.h.fn) := HY.out.c21
   have y22 : w82.cell? ⟨(w.heap.size + 1), 22, none⟩ = some (.int .i64 d.h.fl) := HY.out.c22
   have y23 : w82.cell? ⟨(w.heap.size + 1), 23, none⟩ = some (.slice ga mf gc) := HY.out.c23
   go_wp2_with fail
   refine (to7_go (szC d) d _ w82 NC (Nat.le_refl _) HSD.out.2 (fun _ h => h.elim) HDV.out).mono ?_
   rintro e w83 ⟨⟨u, rfl, hu⟩, hb⟩
   clear y0 y1 y2 y3 y4 y5 y6 y7 y8 y9 y10 y11 y12 y13 y14 y15 y16 y17 y18 y19 y20 y21 y22 y23
   replace HL := hid (HL.out.trans (hb.mono HL.out.size))
   replace HT := hid (HT.out.keep hb)
   replace HX := hid (HX.out.keep hb)
   replace HY := hid (HY.out.keep hb)
   replace HTV := hid (HTV.out.below hb)
   replace HCV := hid (HCV.out.below hb)
   replace HDV := hid (HDV.out.below hb)
   replace HUV := hid (HUV.out.below hb)
   replace HU := hid (HU.out.keep hb)
   obtain ⟨oa, oc, ia, ic, rfl, _, _⟩ := hu.form
   rw [← HPM.out, ← HFM.out] at hu ⊢
   have HVV := hid hu
   clear hu
   clear hb
   go_upto_region 14 with fail
   obtain ⟨gy, hg⟩ : ∃ x, x = w83.heap.size := ⟨_, rfl⟩
   obtain ⟨w84, hw⟩ : ∃ x : World, x = w83.alloc (.cells #[.int .i64 d.h.f0, .int .i64 d.h.f1, .int .i64 d.h.f2, .int .i64 d.h.f3, .int .i64 d.h.f4, .int .i64 d.h.f5, .int .i64 d.h.pair, .int .i64 d.h.pl, .slice oa mp oc, .int .i64 d.h.fn, .int .i64 d.h.fl, .slice ia mf ic] 30) := ⟨_, rfl⟩
   rw [← hw, ← hg]
   have hb : Below w83.heap.size w83 w84 := by rw [hw]; exact bAl _ _
   have HV := hid (show CBox w84 gy 30 ⟨d.h, .slice oa mp oc, .slice ia mf ic⟩ by rw [hw, hg]; exact CBox.made w83 30 ⟨d.h, .slice oa mp oc, .slice ia mf ic⟩)
   replace HL := hid (HL.out.trans (hb.mono HL.out.size))
   replace HT := hid (HT.out.keep hb)
   replace HX := hid (HX.out.keep hb)
   replace HY := hid (HY.out.keep hb)
   replace HTV := hid (HTV.out.below hb)
   replace HCV := hid (HCV.out.below hb)
   replace HDV := hid (HDV.out.below hb)
   replace HUV := hid (HUV.out.below hb)
   replace HU := hid (HU.out.keep hb)
   replace HVV := hid (HVV.out.below hb)
   clear hb hw hg
   obtain ⟨z0, z1, z2, z3, z4, z5, z6, z7, z8, z9, z10, z11⟩ := HU.out.cs
   (try dsimp only at z0 z1 z2 z3 z4 z5 z6 z7 z8 z9 z10 z11)
   go_wp2_with fail
   refine (rightc_go c _ w84 HUV.out).mono ?_
   rintro e w85 ⟨rfl, hb⟩
   clear z0 z1 z2 z3 z4 z5 z6 z7 z8 z9 z10 z11
   replace HL := hid (HL.out.trans (hb.mono HL.out.size))
   replace HT := hid (HT.out.keep hb)
   replace HX := hid (HX.out.keep hb)
   replace HY := hid (HY.out.keep hb)
   replace HTV := hid (HTV.out.below hb)
   replace HCV := hid (HCV.out.below hb)
   replace HDV := hid (HDV.out.below hb)
   replace HUV := hid (HUV.out.below hb)
   replace HU := hid (HU.out.keep hb)
   replace HVV := hid (HVV.out.below hb)
   replace HV := hid (HV.out.keep hb)
   clear hb
   obtain ⟨z6, hz6⟩ : ∃ z, z = rightC c := ⟨_, rfl⟩
   rw [← hz6]
   have Hz6 := hid hz6
   clear hz6
   cases z6 with
   | false =>
    go_wp2
    refine bodyPost_ret (v := .bool true) ?_ ?_ ?_
    ·
     simp [results, Tryd.results4, go_sem]
    ·
     rfl
    ·
     exact ⟨rfl, HL.out⟩
   | true =>
   obtain ⟨v0, v1, v2, v3, v4, v5, v6, v7, v8, v9, v10, v11⟩ := HV.out.cs
   (try dsimp only at v0 v1 v2 v3 v4 v5 v6 v7 v8 v9 v10 v11)
   go_wp2_with fail
   refine (rightc_go d _ w85 HVV.out).mono ?_
   rintro e w86 ⟨rfl, hb⟩
   clear v0 v1 v2 v3 v4 v5 v6 v7 v8 v9 v10 v11
   replace HL := hid (HL.out.trans (hb.mono HL.out.size))
   replace HT := hid (HT.out.keep hb)
   replace HX := hid (HX.out.keep hb)
   replace HY := hid (HY.out.keep hb)
   replace HTV := hid (HTV.out.below hb)
   replace HCV := hid (HCV.out.below hb)
   replace HDV := hid (HDV.out.below hb)
   replace HUV := hid (HUV.out.below hb)
   replace HU := hid (HU.out.keep hb)
   replace HVV := hid (HVV.out.below hb)
   replace HV := hid (HV.out.keep hb)
   clear hb
   obtain ⟨z7, hz7⟩ : ∃ z, z = rightC d := ⟨_, rfl⟩
   rw [← hz7]
   have Hz7 := hid hz7
   clear hz7
   cases z7 with
   | false =>
    go_wp2
    refine bodyPost_ret (v := .bool true) ?_ ?_ ?_
    ·
     simp [results, Tryd.results4, go_sem]
    ·
     rfl
    ·
     exact ⟨rfl, HL.out⟩
   | true =>
   have HOC := hid (show okC c from ⟨25, Hz6.out.symm⟩)
   have HOD := hid (show okC d from ⟨25, Hz7.out.symm⟩)
   have HHT := hid (show htC c + htC d ≤ 400 by have := htC_size c; have := htC_size d; have := HSC.out; have := HSD.out; omega)
   obtain ⟨R, hR⟩ : ∃ x, x = compF 400 c d := ⟨_, rfl⟩
   have HTR := hid (show Thin R by rw [hR]; exact (shape_comp 400 c d HOC.out.shape HOD.out.shape).thin)
   have HR := hid hR
   clear hR Hz6 Hz7
   have Ly := hid (fun (wz : World) (hSw : Below w86.heap.size w86 wz) => (HY.out.keep hSw).cs)
   have Lz := hid (fun (wz : World) (hSw : Below w86.heap.size w86 wz) => (HU.out.keep hSw).cs)
   have Lv := hid (fun (wz : World) (hSw : Below w86.heap.size w86 wz) => (HV.out.keep hSw).cs)
   go_upto_region 16 with fail
   (try dsimp only [List.append])
   refine wp_region_noPanic ?_
   refine wp_region_held_drew (S := (fun w' => Below w86.heap.size w86 w')) (by kernel_rfl) (by (try dsimp only); exact (Below.refl _ _).drew) (fun hHeld => ?_)
   have HBT := hid (show Below w86.heap.size w86 w86.drew from (Below.refl _ _).drew)
   generalize w86.drew = r31_0 at hHeld HBT ⊢
   refine' tk_q 0 81 hHeld ?hig ?hrg
   case hig => (refine ⟨_, rfl, rfl, rfl, fun wz hSw => ?_⟩; (try dsimp only at hSw); go_simp; (try with_reducible rfl))
   (try simp only [pq1, ls0, ls1])
   refine' tk_q 1 82 hHeld ?hih ?hrh
   case hih => (refine ⟨_, rfl, rfl, rfl, fun wz hSw => ?_⟩; (try dsimp only at hSw); obtain ⟨yz0, yz1, yz2, yz3, yz4, yz5, yz6, yz7, yz8, yz9, yz10, yz11, yz12, yz13, yz14, yz15, yz16, yz17, yz18, yz19, yz20, yz21, yz22, yz23⟩ := Ly.out wz hSw; (try dsimp only at yz0 yz1 yz2 yz3 yz4 yz5 yz6 yz7 yz8 yz9 yz10 yz11 yz12 yz13 yz14 yz15 yz16 yz17 yz18 yz19 yz20 yz21 yz22 yz23); go_simp; (try with_reducible rfl))
   (try simp only [pq1, ls0, ls1])
   refine' tk_q 2 83 hHeld ?hii ?hri
   case hii => (refine ⟨_, rfl, rfl, rfl, fun wz hSw => ?_⟩; (try dsimp only at hSw); go_simp; (try with_reducible rfl))
   (try simp only [pq1, ls0, ls1])
   refine' tk_q 3 84 hHeld ?hij ?hrj
   case hij => (refine ⟨_, rfl, rfl, rfl, fun wz hSw => ?_⟩; (try dsimp only at hSw); obtain ⟨yz0, yz1, yz2, yz3, yz4, yz5, yz6, yz7, yz8, yz9, yz10, yz11, yz12, yz13, yz14, yz15, yz16, yz17, yz18, yz19, yz20, yz21, yz22, yz23⟩ := Ly.out wz hSw; (try dsimp only at yz0 yz1 yz2 yz3 yz4 yz5 yz6 yz7 yz8 yz9 yz10 yz11 yz12 yz13 yz14 yz15 yz16 yz17 yz18 yz19 yz20 yz21 yz22 yz23); go_simp; (try with_reducible rfl))
   (try simp only [pq1, ls0, ls1])
   refine' tk_q 5 86 hHeld ?hik ?hrk
   case hik => (refine ⟨_, rfl, rfl, rfl, fun wz hSw => ?_⟩; (try dsimp only at hSw); obtain ⟨zz0, zz1, zz2, zz3, zz4, zz5, zz6, zz7, zz8, zz9, zz10, zz11⟩ := Lz.out wz hSw; (try dsimp only at zz0 zz1 zz2 zz3 zz4 zz5 zz6 zz7 zz8 zz9 zz10 zz11); go_simp; (try with_reducible rfl))
   (try simp only [pq1, ls0, ls1])
   refine' tk_q 6 87 hHeld ?hil ?hrl
   case hil => (refine ⟨_, rfl, rfl, rfl, fun wz hSw => ?_⟩; (try dsimp only at hSw); obtain ⟨vz0, vz1, vz2, vz3, vz4, vz5, vz6, vz7, vz8, vz9, vz10, vz11⟩ := Lv.out wz hSw; (try dsimp only at vz0 vz1 vz2 vz3 vz4 vz5 vz6 vz7 vz8 vz9 vz10 vz11); go_simp; (try with_reducible rfl))
   (try simp only [pq1, ls0, ls1])
   refine' tk_call 4 ?him (by kernel_rfl) ?hrm
   case him => rfl
   intro K hK
   go_simp
   go_at_call 35
   refine (compose_p 400 c d _ _ r31_0 HOC.out HOD.out HHT.out (by omega) (Nat.le_trans (Nat.mul_le_mul (Nat.le_of_lt HSC.out.1) (Nat.le_of_lt HSD.out.1)) (by decide)) (HT.out.keep HBT.out) (HCV.out.below HBT.out) (HDV.out.below HBT.out)).mono ?_
   rintro e r31_1 ⟨⟨v, rfl, hv⟩, hb⟩
   rw [← HR.out] at hv
   obtain ⟨m1, m2, m3, m4, rfl, _, _⟩ := hv.form
   have HV1 := hid hv.cv
   clear hv
   replace HBT := hid (HBT.out.trans (hb.mono HBT.out.size))
   clear hb
   go_wp2_with fail
   clear hHeld
   refine hK.out _ _ (by (try dsimp only); exact HBT.out) (fun hHeld => ?_)
   clear hK K
   (try simp only [pq1, ls0, ls1])
   refine' tk_call 7 ?hin (by kernel_rfl) ?hrn
   case hin => rfl
   intro K hK
   go_simp
   go_at_call 36
   refine (rm_any 400 c d _ _ r31_1 NC HOC.out HOD.out HHT.out (fun _ h => h.elim) (HUV.out.below HBT.out) (HVV.out.below HBT.out)).mono ?_
   rintro e r31_2 ⟨⟨u, rfl, hu⟩, hb⟩
   rw [← HR.out] at hu
   obtain ⟨n1, n2, n3, n4, rfl, _, _⟩ := hu.form
   have HV2 := hid hu
   replace HV1 := hid (HV1.out.below hb)
   clear hu
   replace HBT := hid (HBT.out.trans (hb.mono HBT.out.size))
   clear hb
   go_wp2_with fail
   clear hHeld
   refine hK.out _ _ (by (try dsimp only); exact HBT.out) (fun hHeld => ?_)
   clear hK K
   (try simp only [pq1, ls0, ls1])
   refine' tk_call 8 ?hio (by kernel_rfl) ?hro
   case hio => rfl
   intro K hK
   go_simp
   go_at_call 20
   refine (same7_go R R _ _ r31_2 HTR.out HV1.out HV2.out).mono ?_
   rintro e r31_3 ⟨rfl, hb⟩
   rw [sameC_self]
   clear HV1 HV2
   replace HBT := hid (HBT.out.trans (hb.mono HBT.out.size))
   clear hb
   go_wp2_with fail
   clear hHeld
   refine hK.out _ _ (by (try dsimp only); exact HBT.out) (fun hHeld => ?_)
   clear hK K
   (try simp only [pq1, ls0, ls1])
   refine' tk_q 9 15 hHeld ?hip ?hrp
   case hip => (refine ⟨_, rfl, rfl, rfl, fun wz hSw => ?_⟩; (try dsimp only at hSw); go_simp; (try with_reducible rfl))
   (try simp only [pq1, ls0, ls1])
   refine wpAnyH_done (by kernel_rfl) ?_ _
   refine NoPanic.normal ?_
   clear Ly Lz Lv
   replace HL := hid (HL.out.trans (HBT.out.mono HL.out.size))
   replace HT := hid (HT.out.keep HBT.out)
   replace HX := hid (HX.out.keep HBT.out)
   replace HY := hid (HY.out.keep HBT.out)
   replace HTV := hid (HTV.out.below HBT.out)
   replace HCV := hid (HCV.out.below HBT.out)
   replace HDV := hid (HDV.out.below HBT.out)
   replace HUV := hid (HUV.out.below HBT.out)
   replace HU := hid (HU.out.keep HBT.out)
   replace HVV := hid (HVV.out.below HBT.out)
   replace HV := hid (HV.out.keep HBT.out)
   clear HBT
   go_wp2
   refine bodyPost_ret (v := .bool true) ?_ ?_ ?_
   ·
    simp [results, Tryd.results4, go_sem]
   ·
    rfl
   ·
    exact ⟨rfl, HL.out⟩
end Go.Proofs.YtlalnkabfigodaaDoor
