import Derived.Test.YtlalnkabfigodaaDoorCoWr
namespace Go.Proofs.YtlalnkabfigodaaDoor
open Go.Lib (hid)
open Go.RowKit


set_option maxRecDepth 100000 in
set_option maxHeartbeats 8000000 in
theorem to1_clo (M cw k sz : Nat) (c : Co) (t : Ty) (vt : Value) (w : World) (g1 g2 g3 d : Nat) (l : Int) (hd : d ≤ 131000) (h1 : VarIs w g1 66 (.pointer (some ⟨cw, 0, none⟩))) (h2 : VarIs w g2 3 (.int .i64 l)) (h3 : VarIs w g3 3 (.int .i64 d)) (hcw : cw < w.heap.size) (ht : TyVN (· = cw) w vt t)
  (hcall : ∀ w1, Below w.heap.size w w1 → Calls Tryd.prog 60 #[.pointer (some ⟨cw, 0, none⟩), vt, .int .i64 l, .int .i64 ((d : Int) + 1)] w1 (WPost M cw k sz c w1)) :
  Calls Tryd.prog 81 #[vt, .pointer (some ⟨g1, 0, none⟩), .pointer (some ⟨g2, 0, none⟩), .pointer (some ⟨g3, 0, none⟩)] w (WPost M cw k sz c w) := by
 obtain ⟨pa, pc, fa, fc, rfl, hp, hf⟩ := ht.form
 obtain ⟨np, hnp⟩ : ∃ n, n = t.pairs.length := ⟨_, rfl⟩
 obtain ⟨nf, hnf⟩ : ∃ n, n = t.funs.length := ⟨_, rfl⟩
 rw [← hnp, ← hnf] at hcall ⊢
 obtain ⟨W, hW⟩ : ∃ W, W = (w.alloc (.cells #[.bool t.all, .int .i64 t.flat, .int .i64 t.pair, .slice pa np pc, .int .i64 t.fn, .slice fa nf fc] 47)).alloc (.cells #[.int .i64 0, .int .i64 0, .int .i64 0, .int .i64 0, .int .i64 0, .int .i64 0, .int .i64 0, .int .i64 0, .slice none 0 0, .int .i64 0, .int .i64 0, .slice none 0 0] 25) := ⟨_, rfl⟩
 have hb : Below w.heap.size w W := by rw [hW]; exact (bAl _ _).alloc (by simp) _
 have HR := hid (show CBox W (w.heap.size + 1) 25 ⟨⟨0, 0, 0, 0, 0, 0, 0, 0, 0, 0⟩, .slice none 0 0, .slice none 0 0⟩ by rw [hW]; have := CBox.made (w.alloc (.cells #[.bool t.all, .int .i64 t.flat, .int .i64 t.pair, .slice pa np pc, .int .i64 t.fn, .slice fa nf fc] 47)) 25 ⟨⟨0, 0, 0, 0, 0, 0, 0, 0, 0, 0⟩, .slice none 0 0, .slice none 0 0⟩; simp only [alloc_hs7] at this; exact this)
 have HSZ := hid (show W.heap.size = w.heap.size + 2 by rw [hW]; simp)
 have HB := hid hb
 have k1 := (h1.keep hb).c
 have k2 := (h2.keep hb).c
 have k3 := (h3.keep hb).c
 have HC := hid (hcall W hb)
 have HCW := hid hcw
 rw [hW] at k1 k2 k3
 have hd2 : (d : Int) ≤ 131000 := by omega
 have HW := hid hW
 clear hcall hb hW h1 h2 h3 hcw ht hd hp hf hnp hnf
 go_enter Tryd.func81, Tryd.ntmps81
 go_wp2_with fail
 rw [← HW.out]
 refine HC.out.mono ?_
 rintro e w2 ⟨⟨v, rfl, hv⟩, hs2, k2', hk2, hw2⟩
 obtain ⟨ra, rc, rb, rd, rfl, _, _⟩ := hv.form
 have HV := hid hv
 have HR2 := hid (HR.out.stay hs2 (by have := HCW.out; omega))
 have HS2 := hid (show Stay (· = cw) w w2 from (Stay.of HB.out).trans hs2)
 have HK2 := hid hk2
 have HW2 := hid hw2
 clear hv hs2 hk2 hw2 k1 k2 k3
 obtain ⟨r0, r1, r2, r3, r4, r5, r6, r7, r8, r9, r10, r11⟩ := HR2.out.cs
 (try dsimp only at r0 r1 r2 r3 r4 r5 r6 r7 r8 r9 r10 r11)
 obtain ⟨fr0, fr1, fr2, fr3, fr4, fr5, fr6, fr7, fr8, fr9, fr10, fr11⟩ := HR2.out.frs
 go_wp2
 have HPOST := hid (show WPost M cw k sz c w (.returned (coV ⟨c.h, .slice ra c.pairs.length rc, .slice rb c.funs.length rd⟩)) (set12 (w2) (w.heap.size + 1) ⟨c.h, .slice ra c.pairs.length rc, .slice rb c.funs.length rd⟩) from WPost.cell HV.out (by omega) (by have := HSZ.out; omega) HS2.out HK2.out HW2.out HCW.out)
 refine ret12 (w2) (w.heap.size + 1) ⟨c.h, .slice ra c.pairs.length rc, .slice rb c.funs.length rd⟩ (HR2.out) HPOST.out (fun wf hb => ?_) rfl
 obtain ⟨z0, z1, z2, z3, z4, z5, z6, z7, z8, z9, z10, z11⟩ := hb.cs
 simp [results, Tryd.results81, go_sem, coV, z0, z1, z2, z3, z4, z5, z6, z7, z8, z9, z10, z11]

set_option maxRecDepth 100000 in
set_option maxHeartbeats 8000000 in
theorem to2_clo (M cw k sz : Nat) (c : Co) (t : Ty) (vt : Value) (w : World) (g1 g2 g3 d : Nat) (l : Int) (hd : d ≤ 131000) (h1 : VarIs w g1 66 (.pointer (some ⟨cw, 0, none⟩))) (h2 : VarIs w g2 3 (.int .i64 l)) (h3 : VarIs w g3 3 (.int .i64 d)) (hcw : cw < w.heap.size) (ht : TyVN (· = cw) w vt t)
  (hcall : ∀ w1, Below w.heap.size w w1 → Calls Tryd.prog 62 #[.pointer (some ⟨cw, 0, none⟩), vt, .int .i64 l, .int .i64 ((d : Int) + 1)] w1 (WPost M cw k sz c w1)) :
  Calls Tryd.prog 82 #[vt, .pointer (some ⟨g1, 0, none⟩), .pointer (some ⟨g2, 0, none⟩), .pointer (some ⟨g3, 0, none⟩)] w (WPost M cw k sz c w) := by
 obtain ⟨pa, pc, fa, fc, rfl, hp, hf⟩ := ht.form
 obtain ⟨np, hnp⟩ : ∃ n, n = t.pairs.length := ⟨_, rfl⟩
 obtain ⟨nf, hnf⟩ : ∃ n, n = t.funs.length := ⟨_, rfl⟩
 rw [← hnp, ← hnf] at hcall ⊢
 obtain ⟨W, hW⟩ : ∃ W, W = (w.alloc (.cells #[.bool t.all, .int .i64 t.flat, .int .i64 t.pair, .slice pa np pc, .int .i64 t.fn, .slice fa nf fc] 47)).alloc (.cells #[.int .i64 0, .int .i64 0, .int .i64 0, .int .i64 0, .int .i64 0, .int .i64 0, .int .i64 0, .int .i64 0, .slice none 0 0, .int .i64 0, .int .i64 0, .slice none 0 0] 25) := ⟨_, rfl⟩
 have hb : Below w.heap.size w W := by rw [hW]; exact (bAl _ _).alloc (by simp) _
 have HR := hid (show CBox W (w.heap.size + 1) 25 ⟨⟨0, 0, 0, 0, 0, 0, 0, 0, 0, 0⟩, .slice none 0 0, .slice none 0 0⟩ by rw [hW]; have := CBox.made (w.alloc (.cells #[.bool t.all, .int .i64 t.flat, .int .i64 t.pair, .slice pa np pc, .int .i64 t.fn, .slice fa nf fc] 47)) 25 ⟨⟨0, 0, 0, 0, 0, 0, 0, 0, 0, 0⟩, .slice none 0 0, .slice none 0 0⟩; simp only [alloc_hs7] at this; exact this)
 have HSZ := hid (show W.heap.size = w.heap.size + 2 by rw [hW]; simp)
 have HB := hid hb
 have k1 := (h1.keep hb).c
 have k2 := (h2.keep hb).c
 have k3 := (h3.keep hb).c
 have HC := hid (hcall W hb)
 have HCW := hid hcw
 rw [hW] at k1 k2 k3
 have hd2 : (d : Int) ≤ 131000 := by omega
 have HW := hid hW
 clear hcall hb hW h1 h2 h3 hcw ht hd hp hf hnp hnf
 go_enter Tryd.func82, Tryd.ntmps82
 go_wp2_with fail
 rw [← HW.out]
 refine HC.out.mono ?_
 rintro e w2 ⟨⟨v, rfl, hv⟩, hs2, k2', hk2, hw2⟩
 obtain ⟨ra, rc, rb, rd, rfl, _, _⟩ := hv.form
 have HV := hid hv
 have HR2 := hid (HR.out.stay hs2 (by have := HCW.out; omega))
 have HS2 := hid (show Stay (· = cw) w w2 from (Stay.of HB.out).trans hs2)
 have HK2 := hid hk2
 have HW2 := hid hw2
 clear hv hs2 hk2 hw2 k1 k2 k3
 obtain ⟨r0, r1, r2, r3, r4, r5, r6, r7, r8, r9, r10, r11⟩ := HR2.out.cs
 (try dsimp only at r0 r1 r2 r3 r4 r5 r6 r7 r8 r9 r10 r11)
 obtain ⟨fr0, fr1, fr2, fr3, fr4, fr5, fr6, fr7, fr8, fr9, fr10, fr11⟩ := HR2.out.frs
 go_wp2
 have HPOST := hid (show WPost M cw k sz c w (.returned (coV ⟨c.h, .slice ra c.pairs.length rc, .slice rb c.funs.length rd⟩)) (set12 (w2) (w.heap.size + 1) ⟨c.h, .slice ra c.pairs.length rc, .slice rb c.funs.length rd⟩) from WPost.cell HV.out (by omega) (by have := HSZ.out; omega) HS2.out HK2.out HW2.out HCW.out)
 refine ret12 (w2) (w.heap.size + 1) ⟨c.h, .slice ra c.pairs.length rc, .slice rb c.funs.length rd⟩ (HR2.out) HPOST.out (fun wf hb => ?_) rfl
 obtain ⟨z0, z1, z2, z3, z4, z5, z6, z7, z8, z9, z10, z11⟩ := hb.cs
 simp [results, Tryd.results82, go_sem, coV, z0, z1, z2, z3, z4, z5, z6, z7, z8, z9, z10, z11]

set_option maxRecDepth 100000 in
set_option maxHeartbeats 8000000 in
theorem from1_clo (M cw k sz : Nat) (c : Co) (t : Ty) (vt : Value) (w : World) (g1 g2 g3 d : Nat) (l : Int) (hd : d ≤ 131000) (h1 : VarIs w g1 66 (.pointer (some ⟨cw, 0, none⟩))) (h2 : VarIs w g2 3 (.int .i64 l)) (h3 : VarIs w g3 3 (.int .i64 d)) (hcw : cw < w.heap.size) (ht : TyVN (· = cw) w vt t)
  (hcall : ∀ w1, Below w.heap.size w w1 → Calls Tryd.prog 62 #[.pointer (some ⟨cw, 0, none⟩), vt, .int .i64 l, .int .i64 ((d : Int) + 1)] w1 (WPost M cw k sz c w1)) :
  Calls Tryd.prog 85 #[vt, .pointer (some ⟨g1, 0, none⟩), .pointer (some ⟨g2, 0, none⟩), .pointer (some ⟨g3, 0, none⟩)] w (WPost M cw k sz c w) := by
 obtain ⟨pa, pc, fa, fc, rfl, hp, hf⟩ := ht.form
 obtain ⟨np, hnp⟩ : ∃ n, n = t.pairs.length := ⟨_, rfl⟩
 obtain ⟨nf, hnf⟩ : ∃ n, n = t.funs.length := ⟨_, rfl⟩
 rw [← hnp, ← hnf] at hcall ⊢
 obtain ⟨W, hW⟩ : ∃ W, W = (w.alloc (.cells #[.bool t.all, .int .i64 t.flat, .int .i64 t.pair, .slice pa np pc, .int .i64 t.fn, .slice fa nf fc] 47)).alloc (.cells #[.int .i64 0, .int .i64 0, .int .i64 0, .int .i64 0, .int .i64 0, .int .i64 0, .int .i64 0, .int .i64 0, .slice none 0 0, .int .i64 0, .int .i64 0, .slice none 0 0] 25) := ⟨_, rfl⟩
 have hb : Below w.heap.size w W := by rw [hW]; exact (bAl _ _).alloc (by simp) _
 have HR := hid (show CBox W (w.heap.size + 1) 25 ⟨⟨0, 0, 0, 0, 0, 0, 0, 0, 0, 0⟩, .slice none 0 0, .slice none 0 0⟩ by rw [hW]; have := CBox.made (w.alloc (.cells #[.bool t.all, .int .i64 t.flat, .int .i64 t.pair, .slice pa np pc, .int .i64 t.fn, .slice fa nf fc] 47)) 25 ⟨⟨0, 0, 0, 0, 0, 0, 0, 0, 0, 0⟩, .slice none 0 0, .slice none 0 0⟩; simp only [alloc_hs7] at this; exact this)
 have HSZ := hid (show W.heap.size = w.heap.size + 2 by rw [hW]; simp)
 have HB := hid hb
 have k1 := (h1.keep hb).c
 have k2 := (h2.keep hb).c
 have k3 := (h3.keep hb).c
 have HC := hid (hcall W hb)
 have HCW := hid hcw
 rw [hW] at k1 k2 k3
 have hd2 : (d : Int) ≤ 131000 := by omega
 have HW := hid hW
 clear hcall hb hW h1 h2 h3 hcw ht hd hp hf hnp hnf
 go_enter Tryd.func85, Tryd.ntmps85
 go_wp2_with fail
 rw [← HW.out]
 refine HC.out.mono ?_
 rintro e w2 ⟨⟨v, rfl, hv⟩, hs2, k2', hk2, hw2⟩
 obtain ⟨ra, rc, rb, rd, rfl, _, _⟩ := hv.form
 have HV := hid hv
 have HR2 := hid (HR.out.stay hs2 (by have := HCW.out; omega))
 have HS2 := hid (show Stay (· = cw) w w2 from (Stay.of HB.out).trans hs2)
 have HK2 := hid hk2
 have HW2 := hid hw2
 clear hv hs2 hk2 hw2 k1 k2 k3
 obtain ⟨r0, r1, r2, r3, r4, r5, r6, r7, r8, r9, r10, r11⟩ := HR2.out.cs
 (try dsimp only at r0 r1 r2 r3 r4 r5 r6 r7 r8 r9 r10 r11)
 obtain ⟨fr0, fr1, fr2, fr3, fr4, fr5, fr6, fr7, fr8, fr9, fr10, fr11⟩ := HR2.out.frs
 go_wp2
 have HPOST := hid (show WPost M cw k sz c w (.returned (coV ⟨c.h, .slice ra c.pairs.length rc, .slice rb c.funs.length rd⟩)) (set12 (w2) (w.heap.size + 1) ⟨c.h, .slice ra c.pairs.length rc, .slice rb c.funs.length rd⟩) from WPost.cell HV.out (by omega) (by have := HSZ.out; omega) HS2.out HK2.out HW2.out HCW.out)
 refine ret12 (w2) (w.heap.size + 1) ⟨c.h, .slice ra c.pairs.length rc, .slice rb c.funs.length rd⟩ (HR2.out) HPOST.out (fun wf hb => ?_) rfl
 obtain ⟨z0, z1, z2, z3, z4, z5, z6, z7, z8, z9, z10, z11⟩ := hb.cs
 simp [results, Tryd.results85, go_sem, coV, z0, z1, z2, z3, z4, z5, z6, z7, z8, z9, z10, z11]

set_option maxRecDepth 100000 in
set_option maxHeartbeats 8000000 in
theorem from2_clo (M cw k sz : Nat) (c : Co) (t : Ty) (vt : Value) (w : World) (g1 g2 g3 d : Nat) (l : Int) (hd : d ≤ 131000) (h1 : VarIs w g1 66 (.pointer (some ⟨cw, 0, none⟩))) (h2 : VarIs w g2 3 (.int .i64 l)) (h3 : VarIs w g3 3 (.int .i64 d)) (hcw : cw < w.heap.size) (ht : TyVN (· = cw) w vt t)
  (hcall : ∀ w1, Below w.heap.size w w1 → Calls Tryd.prog 60 #[.pointer (some ⟨cw, 0, none⟩), vt, .int .i64 l, .int .i64 ((d : Int) + 1)] w1 (WPost M cw k sz c w1)) :
  Calls Tryd.prog 86 #[vt, .pointer (some ⟨g1, 0, none⟩), .pointer (some ⟨g2, 0, none⟩), .pointer (some ⟨g3, 0, none⟩)] w (WPost M cw k sz c w) := by
 obtain ⟨pa, pc, fa, fc, rfl, hp, hf⟩ := ht.form
 obtain ⟨np, hnp⟩ : ∃ n, n = t.pairs.length := ⟨_, rfl⟩
 obtain ⟨nf, hnf⟩ : ∃ n, n = t.funs.length := ⟨_, rfl⟩
 rw [← hnp, ← hnf] at hcall ⊢
 obtain ⟨W, hW⟩ : ∃ W, W = (w.alloc (.cells #[.bool t.all, .int .i64 t.flat, .int .i64 t.pair, .slice pa np pc, .int .i64 t.fn, .slice fa nf fc] 47)).alloc (.cells #[.int .i64 0, .int .i64 0, .int .i64 0, .int .i64 0, .int .i64 0, .int .i64 0, .int .i64 0, .int .i64 0, .slice none 0 0, .int .i64 0, .int .i64 0, .slice none 0 0] 25) := ⟨_, rfl⟩
 have hb : Below w.heap.size w W := by rw [hW]; exact (bAl _ _).alloc (by simp) _
 have HR := hid (show CBox W (w.heap.size + 1) 25 ⟨⟨0, 0, 0, 0, 0, 0, 0, 0, 0, 0⟩, .slice none 0 0, .slice none 0 0⟩ by rw [hW]; have := CBox.made (w.alloc (.cells #[.bool t.all, .int .i64 t.flat, .int .i64 t.pair, .slice pa np pc, .int .i64 t.fn, .slice fa nf fc] 47)) 25 ⟨⟨0, 0, 0, 0, 0, 0, 0, 0, 0, 0⟩, .slice none 0 0, .slice none 0 0⟩; simp only [alloc_hs7] at this; exact this)
 have HSZ := hid (show W.heap.size = w.heap.size + 2 by rw [hW]; simp)
 have HB := hid hb
 have k1 := (h1.keep hb).c
 have k2 := (h2.keep hb).c
 have k3 := (h3.keep hb).c
 have HC := hid (hcall W hb)
 have HCW := hid hcw
 rw [hW] at k1 k2 k3
 have hd2 : (d : Int) ≤ 131000 := by omega
 have HW := hid hW
 clear hcall hb hW h1 h2 h3 hcw ht hd hp hf hnp hnf
 go_enter Tryd.func86, Tryd.ntmps86
 go_wp2_with fail
 rw [← HW.out]
 refine HC.out.mono ?_
 rintro e w2 ⟨⟨v, rfl, hv⟩, hs2, k2', hk2, hw2⟩
 obtain ⟨ra, rc, rb, rd, rfl, _, _⟩ := hv.form
 have HV := hid hv
 have HR2 := hid (HR.out.stay hs2 (by have := HCW.out; omega))
 have HS2 := hid (show Stay (· = cw) w w2 from (Stay.of HB.out).trans hs2)
 have HK2 := hid hk2
 have HW2 := hid hw2
 clear hv hs2 hk2 hw2 k1 k2 k3
 obtain ⟨r0, r1, r2, r3, r4, r5, r6, r7, r8, r9, r10, r11⟩ := HR2.out.cs
 (try dsimp only at r0 r1 r2 r3 r4 r5 r6 r7 r8 r9 r10 r11)
 obtain ⟨fr0, fr1, fr2, fr3, fr4, fr5, fr6, fr7, fr8, fr9, fr10, fr11⟩ := HR2.out.frs
 go_wp2
 have HPOST := hid (show WPost M cw k sz c w (.returned (coV ⟨c.h, .slice ra c.pairs.length rc, .slice rb c.funs.length rd⟩)) (set12 (w2) (w.heap.size + 1) ⟨c.h, .slice ra c.pairs.length rc, .slice rb c.funs.length rd⟩) from WPost.cell HV.out (by omega) (by have := HSZ.out; omega) HS2.out HK2.out HW2.out HCW.out)
 refine ret12 (w2) (w.heap.size + 1) ⟨c.h, .slice ra c.pairs.length rc, .slice rb c.funs.length rd⟩ (HR2.out) HPOST.out (fun wf hb => ?_) rfl
 obtain ⟨z0, z1, z2, z3, z4, z5, z6, z7, z8, z9, z10, z11⟩ := hb.cs
 simp [results, Tryd.results86, go_sem, coV, z0, z1, z2, z3, z4, z5, z6, z7, z8, z9, z10, z11]

/-- what is said of to (true) and from (false) -/
def GoOK (b : Bool) (M n : Nat) : Prop := ∀ (t : Ty) (vt : Value) (w : World) (cw k d : Nat) (l : Int), deepF n t = true → k + szT t ≤ M → d + n ≤ 131000 → l ≠ 0 → WalkC M cw k w → TyVN (· = cw) w vt t →
  Calls Tryd.prog (if b then 60 else 62) #[.pointer (some ⟨cw, 0, none⟩), vt, .int .i64 l, .int .i64 d] w (WPost M cw k (szT t) (goC n b t l) w)
/-- the walk's steps, and what the closures read -/
structure GoAt (M cw g1 g2 g3 d : Nat) (l : Int) (k : Nat) (w : World) : Prop where
 walk : WalkC M cw k w
 ptr : VarIs w g1 66 (.pointer (some ⟨cw, 0, none⟩))
 lab : VarIs w g2 3 (.int .i64 l)
 lvl : VarIs w g3 3 (.int .i64 d)
theorem GoAt.keep {M cw g1 g2 g3 d k : Nat} {l : Int} {w w' : World} (h : GoAt M cw g1 g2 g3 d l k w) (hb : Below w.heap.size w w') : GoAt M cw g1 g2 g3 d l k w' := ⟨h.walk.keep hb, h.ptr.keep hb, h.lab.keep hb, h.lvl.keep hb⟩
theorem GoAt.fn {M cw g1 g2 g3 d n : Nat} {l : Int} {W0 : World} (b : Bool) (fk target : Nat) (hne : g1 ≠ cw ∧ g2 ≠ cw ∧ g3 ≠ cw) (hd : d + 1 + n ≤ 131000) (hl : l ≠ 0) (ih : GoOK b M n) (htg : target = if b then 60 else 62) (henter : ∀ (args : Array Value) (w : World), (callFunc fk args).run Tryd.prog w = .ok (.enter fk args) w)
  (hclo : ∀ (k sz : Nat) (c : Co) (t : Ty) (vt : Value) (w : World), d ≤ 131000 → VarIs w g1 66 (.pointer (some ⟨cw, 0, none⟩)) → VarIs w g2 3 (.int .i64 l) → VarIs w g3 3 (.int .i64 d) → cw < w.heap.size → TyVN (· = cw) w vt t →
   (∀ w1, Below w.heap.size w w1 → Calls Tryd.prog target #[.pointer (some ⟨cw, 0, none⟩), vt, .int .i64 l, .int .i64 ((d : Int) + 1)] w1 (WPost M cw k sz c w1)) → Calls Tryd.prog fk #[vt, .pointer (some ⟨g1, 0, none⟩), .pointer (some ⟨g2, 0, none⟩), .pointer (some ⟨g3, 0, none⟩)] w (WPost M cw k sz c w)) :
  FnV (σ := Nat) (TyVN (· = cw)) (· = cw) (GoAt M cw g1 g2 g3 d l) fk #[.pointer (some ⟨g1, 0, none⟩), .pointer (some ⟨g2, 0, none⟩), .pointer (some ⟨g3, 0, none⟩)] W0 (fun x s => (deepF n x = true) ∧ s + szT x ≤ M) (fun w w' v x => CoVN (Old w.heap.size) w' v (goC n b x l)) (fun x s s' => s' ≤ s + szT x) := by
 refine ⟨fun _ _ _ h hb => h.keep hb, henter, ?_⟩
 intro w2 v1 x s hs hv hpre hx
 refine (hclo s (szT x) (goC n b x l) x v1 w2 (by omega) hv.ptr hv.lab hv.lvl hv.walk.lt hx fun w3 hb => ?_).mono ?_
 ·
  rw [htg]
  exact ih x v1 w3 cw s (d + 1) l hpre.1 hpre.2 (by omega) hl (hv.walk.keep hb) (hx.below hb)
 ·
  rintro e w4 ⟨hr, hs4, t', ht', hw'⟩
  exact ⟨hr, hs4, t', ht', hw', hv.ptr.stay hs4 hne.1, hv.lab.stay hs4 hne.2.1, hv.lvl.stay hs4 hne.2.2⟩
theorem goC_wr (n : Nat) (t : Ty) (l : Int) (h : headOK t = true) : goC (n + 1) false t l = wrC 0 t (t.pairs.map fun x => goC n false x l) (((List.range (t.funs.length - 1)).map fun i => goC n true (t.funs.getD i ty0) l) ++ [goC n false (t.funs.getD (t.funs.length - 1) ty0) l]) := by
 have hh : 0 ≤ t.pair ∧ t.pair ≤ 2 := by unfold headOK at h; rw [decide_eq_true_iff] at h; exact ⟨h.2.2.1, h.2.2.2.1⟩
 rw [goC]
 unfold wrC wrP wrF
 generalize (t.pairs.map fun x => goC n false x l) = p
 generalize (((List.range (t.funs.length - 1)).map fun i => goC n true (t.funs.getD i ty0) l) ++ [goC n false (t.funs.getD (t.funs.length - 1) ty0) l]) = f
 rcases (by omega : t.pair = 0 ∨ t.pair = 1 ∨ t.pair = 2) with e | e | e <;> cases hp : allC p <;> cases hf : allC f <;> by_cases h1 : t.fn = 1 <;> simp [e, h1]
theorem go_all0 (n : Nat) (b : Bool) (t : Ty) (l : Int) (h : headOK t = true) (ha : t.all = true) : goC (n + 1) b t l = co0 := by
 have hh : t.pair = 0 ∧ t.fn = 0 := by unfold headOK at h; rw [decide_eq_true_iff] at h; have := h.2.2.2.2.2.2.1 ha; exact ⟨this.2.1, this.2.2⟩
 cases b with
 | true => rw [goC, if_pos ha]
 | false => rw [goC]; simp [hh.1, hh.2, co0, hd0]
end Go.Proofs.YtlalnkabfigodaaDoor
